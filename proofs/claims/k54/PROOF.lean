import PyProof.Rows.All
import Wide.All
import OpenK.AllK
import Wide.FinOn
import Lean
import PyProof.EqAt
import PyProof.EqKinds
import PyProof.TupleCall
import PyProof.NeKinds
import KE.IntBitsLaws
import KE.KRevIter
import KE.KSortKey
import KE.KLam
import KE.KNestM
import KE.KDictList
import PyProof.ConsumeWalk
import PyProof.ZipIter
import PyProof.Rows.Range3
import PyProof.CollectWalk
import PyProof.ListNew
import KE.KDictOf
import PyProof.Rows.SetFrom
import KE.KUnpack
import PyProof.IsRules
import PyProof.Rows.TupIter
import PyProof.Draws
import PyProof.EnumFor
import PySem.Challenge.RW_lidprice_k54_the_deed_by_prices
open List renaming getElem?_eq_getElem → aI7, length_map → aI8, mem_cons_of_mem → aI9, mem_cons_self → aJa, mem_map → aJe, size_toArray → aJf, mem_of_getElem? → aJg, getElem?_map → aJh, map_cons → aJi, map_append → aJj, mem_singleton → aJk, getElem?_eq_some_iff → aJl, mem_append_right → aJs, replicate → aJt, sum_cons → aJu, length_append → aJv, take_length → aJw, mem_cons → aJx, mem_append → aJy, length_take → aJz, mem_filter → aJE, getD_eq_getElem?_getD → aJG, length_cons → aJJ, length_set → aJK, length_filter_le → aJM, all_eq_true → aJN, getElem_toArray → aJP, map_congr_left → aJS, mem_range → aJV, getElem?_append_right → aJW, length_range → aJX, append_nil → aJZ, map_map → aJ0, filter_append → aJ2, mem_append_left → aJ3, lookup_cons → aJ4, getElem?_set → aJ7, map_eq_nil_iff → aJ9, getElem?_append_left → aKa, length_replicate → aKb, filter_cons → aKf, range → aKk, nodup_cons → aKl, replicate_succ → aKm, length_take_le → aKn, getElem_mem → aKo, not_mem_nil → aKp, length → aKr, pairwise_map → aKs, length_drop → aKt, any_eq_true → aKu, mem_filterMap → aKw, find?_cons → aKy, getElem?_eq_none → aKB, countP_mono_left → aKC, flatten_cons → aKD, lookup → aKE, mem_of_mem_drop → aKG, mem_iff_getElem → aKH, pairwise_iff_getElem → aKM, filterMap_cons → aKN, length_pos_iff → aKO, pairwise_cons → aKT, length_eq_zero_iff → aKV, nodup_nil → aKX, nodup_append → aKZ, length_singleton → aK0, take_append_drop → aK1, any_cons → aK2, map_set → aK9, mem_or_eq_of_mem_set → aLf, any_eq_false → aLg, append_assoc → aLh, take_add_one → aLi, Pairwise → aLm, eq_of_mem_replicate → aLn, getElem?_replicate → aLo, countP_cons → aLr, pairwise_singleton → aLs, getElem?_set_self → aLu, map_nil → aLw, take_of_length_le → aLz, length_pos_of_mem → aLC, of_mem_zip → aLD, foldl_cons → aLE, sum_append → aLF, range_succ → aLG, getElem?_toArray → aLK, getElem?_set_ne → aLL, getElem_of_mem → aLP, filter_sublist → aLQ, drop_sublist → aLZ, foldl_append → aL0, mem_flatMap → aL4, length_nil → aL9, count_cons → aMa, foldl → aMc
open PySem.Heap renaming get?_push_of_some → aJb, lt_size → aJm, get?_push_size → aJr, SameBut → aJT, get?_update_other → aLx, get?_update_self → aLI, size_push → aLM
open Nat renaming le_trans → aJc, le_refl → aJd, ne_of_lt → aJB, lt_of_lt_of_le → aJC, zero_le → aJD, le_of_lt → aJH, pow_le_pow_right → aJ5, mul_le_mul_left → aJ8, lt_of_le_of_lt → aKc, lt_irrefl → aKg, mul_le_mul_right → aKJ, lt_succ_self → aKK, le_succ → aKU, ne_of_gt → aKW, add_le_add_left → aK5, eq_zero_or_pos → aLb, lt_succ_of_lt → aLj, le_of_eq → aLv, succ_mul → aLy, not_lt_zero → aLH, add_comm → aLW, zero_add → aLX, succ_le_succ → aL3, mul_add → aL6, pow_pos → aL8
open Int renaming le_of_lt → aJn, mul_le_mul_of_nonneg_right → aJo, mul_le_mul_of_nonneg_left → aJq, le_trans → aJF, ne_of_gt → aJL, le_refl → aJO, mul_nonpos_of_nonneg_of_nonpos → aJQ, gcd → aJR, gcd_pos_of_ne_zero_right → aJ1, fdiv_eq_ediv_of_nonneg → aJ6, mul_pos → aKh, mul_nonneg → aKi, toNat_natCast → aKj, emod_lt_of_pos → aKx, eq_of_mul_eq_mul_right → aKF, pow_add → aKI, pow_succ → aKL, dvd_trans → aKP, mul_fdiv_cancel_left → aKQ, emod_nonneg → aKR, mul_nonpos_of_nonpos_of_nonneg → aKS, mul_comm → aKY, le_of_dvd → aK3, zero_add → aK6, dvd_refl → aK7, ofNat → aLa, le_of_mul_le_mul_right → aLc, eq_of_mul_eq_mul_left → aLd, le_of_mul_le_mul_left → aLe, gcd_dvd_right → aLk, one_mul → aLl, gcd_dvd_left → aLq, gcd_le_natAbs_right → aLt, fmod_nonneg_of_pos → aLA, natAbs_dvd_natAbs → aLJ, fdiv_mul_cancel → aLO, natCast_nonneg → aLT, lt_or_gt_of_ne → aLU, fmod_lt_of_pos → aLV, fmod_def → aLY, lt_trans → aL1, natCast_pow → aMb
open Bool renaming false_ne_true → aJp, and_eq_true → aJA, eq_iff_iff → aJY, false_eq_true → aKd, or_eq_true → aKz, and_eq_true_iff → aLN, true_and → aLR
open Array renaming length_toList → aJI, getElem?_eq_getElem → aKq, getElem?_toList → aKA, toArray_toList → aK4, mk → aLp, append_assoc → aLS, Perm → aMd
open Option renaming some → aJU, getD_none → aL2, none → aL5
open Rat renaming mul_le_mul_of_nonneg_right → aKe, mul_le_mul_of_nonneg_left → aKv, mul_lt_mul_of_pos_right → aK8, not_lt → aLB, mul_pos → aL7
set_option Elab.async false
set_option linter.all false
set_option maxRecDepth 100000
namespace K54
open PySem PySem.W
abbrev sdr:=PySem.Challenge.rw_lidprice_k54_the_deed_by_prices
abbrev Iv:Program:=sdr.row.toRowW.prog
theorem sdA:sreFenced Iv.main=true:=by kernel_rfl
theorem sdB:((moduleNames Iv.main.body).isEmpty||lookedIntoSs (moduleNames Iv.main.body) Iv.main.body)=true:=by kernel_rfl
theorem sdC:namesResolve Iv=true:=by kernel_rfl
theorem sdD:(Iv.boundNames.all fun n=>!worldNames.contains n)=true:=by kernel_rfl
theorem sdE:noRoadLSs { strict:=!(importedModules Iv.main.body).all cThrough.contains,foot:=none,bare:=(["vars","dir","locals"]:List Str).filter (readsOut Iv Iv.main.body) } Iv.main.body=true:=by kernel_rfl
theorem sdF:(namesMeet Iv Iv.main.body fun _ n=>attrL n)=true:=by kernel_rfl
theorem sdG:looksOpen Iv=true:=by
 unfold looksOpen;exact look_both (look_both (look_both (look_both (look_both sdA sdB) sdC) sdD) sdE) sdF
theorem sdH:sdr.row.wellSaid=true:=by
 unfold OpenRow.wellSaid OpenRow.partSaid;rw [sdG]
 kernel_rfl
theorem WR:sdr.wellSaid=true:=by
 unfold OpenLaw.wellSaid;rw [sdH]
 kernel_rfl
end K54
namespace L2
open PySem PySem.Spec PyProof.Rows
abbrev Key:=Sum Int Str
def yD:Key->Value->Bool
 | .inl k,v=>Value.isInt k v
 | .inr x,v=>Value.isStrOf x v
def aB8 (w:World):Key->Int
 | .inl k=>hashInt k
 | .inr x=>hashStr w x
theorem dX:∀ {k:Key}{v:Value},yD k v=true->(∃ i t,k=Sum.inl i/\v=Value.int i t)∨(∃ x t,k=Sum.inr x/\v=Value.str x t)
 | .inl i,v,h=>by
  obtain ⟨t,e⟩:=Value.isInt_shape (k:=i) (v:=v) h;exact .inl ⟨i,t,rfl,e⟩
 | .inr x,v,h=>by
  obtain ⟨t,e⟩:=Value.isStrOf_shape (x:=x) (v:=v) h;exact .inr ⟨x,t,rfl,e⟩
theorem Hc (i:Int)(t:Tok):yD (.inl i) (.int i t)=true:=by simp [yD,Value.isInt]
theorem Hx (x:Str)(t:Tok):yD (.inr x) (.str x t)=true:=by simp [yD,Value.isStrOf]
theorem Qh (a b:Int):decide ((Sum.inl a:Key)=Sum.inl b)=(a==b):=by
 by_cases e:a=b
 ·subst e; simp
 ·have h:¬ (Sum.inl a:Key)=Sum.inl b:=fun q=>e (Sum.inl.inj q);rw [decide_eq_false h];exact (beq_eq_false_iff_ne.mpr e).symm
theorem QM (a b:Str):decide ((Sum.inr a:Key)=Sum.inr b)=decide (a=b):=by
 by_cases e:a=b
 ·subst e; simp
 ·have h:¬ (Sum.inr a:Key)=Sum.inr b:=fun q=>e (Sum.inr.inj q);rw [decide_eq_false h,decide_eq_false e]
theorem Ql (a:Int)(b:Str):decide ((Sum.inl a:Key)=Sum.inr b)=false:=decide_eq_false (fun q=>nomatch q)
theorem QF (a:Str)(b:Int):decide ((Sum.inr a:Key)=Sum.inl b)=false:=decide_eq_false (fun q=>nomatch q)
def dW (prog:Program)(w:World):PySem.KeyKind prog w Key where
 is:=yD
 hash:=aB8 w
 inj:=fun v a b ha hb=>by
  rcases dX ha with ⟨i,t,rfl,rfl⟩ | ⟨x,t,rfl,rfl⟩
  ·rcases dX hb with ⟨j,u,rfl,e⟩ | ⟨y,u,rfl,e⟩
   ·injection e with e1 _; rw [e1]
   ·exact nomatch e
  ·rcases dX hb with ⟨j,u,rfl,e⟩ | ⟨y,u,rfl,e⟩
   ·exact nomatch e
   ·injection e with e1 _; rw [e1]
 byValue:=fun k v h=>by
  rcases dX h with ⟨i,t,rfl,rfl⟩ | ⟨x,t,rfl,rfl⟩ <;> rfl
 pyHash:=fun hv h=>by
  rcases dX hv with ⟨i,t,rfl,rfl⟩ | ⟨x,t,rfl,rfl⟩
  ·exact wpAny_pyHash_int h
  ·exact wpAny_pyHash_str h
 eqBool:=fun hu hv h=>by
  rcases dX hu with ⟨i,t,rfl,rfl⟩ | ⟨x,t,rfl,rfl⟩
  ·rcases dX hv with ⟨j,u,rfl,rfl⟩ | ⟨y,u,rfl,rfl⟩
   ·rw [Qh] at h; exact wpAny_eqBool_int h
   ·rw [Ql] at h; exact SeqAt.EqAt.int_str i t y u _ _ _ _ h
  ·rcases dX hv with ⟨j,u,rfl,rfl⟩ | ⟨y,u,rfl,rfl⟩
   ·rw [QF] at h; exact SeqAt.EqAt.str_int x t j u _ _ _ _ h
   ·rw [QM] at h; exact wpAny_eqBool_str h
 «strs»:=fun k x t v h=>by
  rcases dX h with ⟨i,u,rfl,e⟩ | ⟨y,u,rfl,e⟩
  ·exact nomatch e
  ·injection e with e1 _
   subst e1;cases v <;> rfl
theorem Dc (prog:Program)(w:World)(i:Int)(t:Tok):(dW prog w).is (.inl i) (.int i t)=true:=Hc i t
theorem Bg (prog:Program)(w:World)(x:Str)(t:Tok):(dW prog w).is (.inr x) (.str x t)=true:=Hx x t
inductive V where
 | non | bl (b:Bool) | int (i:Int) | str (x:Str) | byt (b:Array UInt8) | flt (b:UInt64) | ref (a:Addr) | ty (n:String)
 deriving DecidableEq
def RelV:V->Value->Prop
 | .non,u=>u=Value.none
 | .bl b,u=>u=Value.bool b
 | .int i,u=>∃ t,u=Value.int i t
 | .str x,u=>∃ t,u=Value.str x t
 | .byt b,u=>∃ t,u=Value.bytes b t
 | .flt b,u=>∃ t,u=Value.float b t
 | .ref a,u=>u=Value.ref a
 | .ty n,u=>u=Value.type n
abbrev bK:List V->List Value->Prop:=Paired RelV
theorem bK.length {xs:List V}{us:List Value}(r:bK xs us):xs.length=us.length:=Paired.length r
theorem bK.get:∀ {xs:List V}{us:List Value}{i:Nat}{x:V},bK xs us->xs[i]? = some x->∃ u,us[i]? = some u/\RelV x u
 | _,_,_,_,.nil,e=>by simp at e
 | _,_,0,_,.cons r _,e=>by simp at e; subst e; exact ⟨_,rfl,r⟩
 | _,_,i+1,x,.cons _ t,e=>by
  obtain ⟨u,h1,h2⟩:=bK.get (i:=i) (x:=x) t (by simpa using e);exact ⟨u,by simpa using h1,h2⟩
theorem bK.set {x:V}{u:Value}(r:RelV x u):∀ {xs:List V}{us:List Value} (i:Nat),bK xs us->bK (xs.set i x) (us.set i u)
 | _,_,_,.nil=>.nil
 | _,_,0,.cons _ t=>.cons r t
 | _,_,i+1,.cons q t=>.cons q (bK.set r i t)
theorem bK.append:∀ {xs ys:List V}{us ws:List Value},bK xs us->bK ys ws->bK (xs++ys) (us++ws)
 | _,_,_,_,.nil,s=>s
 | _,_,_,_,.cons r t,s=>.cons r (bK.append t s)
theorem bK.take:∀ {xs:List V}{us:List Value} (n:Nat),bK xs us->bK (xs.take n) (us.take n)
 | _,_,0,_=>.nil
 | _,_,_+1,.nil=>.nil
 | _,_,n+1,.cons r t=>.cons r (bK.take n t)
theorem bK.drop:∀ {xs:List V}{us:List Value} (n:Nat),bK xs us->bK (xs.drop n) (us.drop n)
 | _,_,0,r=>r
 | _,_,_+1,.nil=>.nil
 | _,_,n+1,.cons _ t=>bK.drop n t
def mD:Option V->Option Value->Prop
 | some v,some u=>RelV v u
 | none,none=>True
 | _,_=>False
def KV {κ:Type}:List (κ×V)->List (κ×Value)->Prop:=Paired fun (p:κ×V) (q:κ×Value)=>p.1=q.1/\RelV p.2 q.2
def kV:Key->V
 | .inl i=>.int i
 | .inr x=>.str x
inductive HO where
 | lst (xs:List V)
 | tup (xs:List V)
 | dK (kvs:List (Key×V)) | dT (kvs:List (List Key×V))
 | set (S:Int->Bool) (n:Nat)
 | ins (C dx:Addr) (fs:List (Str×V))
 | own (x:Addr)
 | xd (fs:List (Str×V))
 | met (f x:Addr)
 | rng (lo hi:Int)
 | frz (o:Obj) (u:HO)
 | tbl (ps:Array Value)
 | ext (φ:Heap->Prop)
abbrev Hp:=Addr->Option HO
def aX (H:Hp)(a:Addr)(o:HO):Hp:=fun b=>if b=a then some o else H b
theorem aB {H:Hp}{a:Addr}{o:HO}:aX H a o a=some o:=by unfold aX; rw [if_pos rfl]
theorem aK {H:Hp}{a b:Addr}{o:HO}(h:b≠a):aX H a o b=H b:=by unfold aX; rw [if_neg h]
theorem bI {H:Hp}{a b:Addr}{o u:HO}(h:H a=some o)(h':H b=some u)(d:o≠u):a≠b:=by
 intro e; subst e; rw [h] at h'; exact d (aJU.inj h')
theorem aV {H:Hp}{a b:Addr}{o:HO}(h:H a=some o)(h':H b=none):a≠b:=by
 intro e; subst e; rw [h] at h'; cases h'
section
variable (P:Program)(w:World)
def cJ (H:Hp)(h:Heap)(a:Addr):HO->Prop
 | .lst xs=>xs.length<=sizeLine/\∃ (its:List Value) (n:Nat),bK xs its/\h.get? a=some { cls:=.type "list",data:=.seq its.toArray n }
 | .tup xs=>xs.length<=sizeLine/\∃ its:List Value,bK xs its/\IsTup h a its.toArray
 | .dK kvs=>kvs.length<=sizeLine/\(a==sysModules)=false/\∃ vs,KV kvs vs/\h.DictOf (dW P w) a vs
 | .dT kvs=>kvs.length<=sizeLine/\(a==sysModules)=false/\∃ xs:List (List Key×Addr×Value),
   Paired (fun (p:List Key×V) (q:List Key×Addr×Value)=>p.1=q.1/\H q.2.1=some (.tup (p.1.map kV))/\RelV p.2 q.2.2) kvs xs ∧
   ∃ o es ep,h.get? a=some o/\o.ExactDict/\o.data=.dict es ep/\es.toList=xs.map (entryOfKey (tupleKind (dW P w)))/\(xs.map (·.1)).Nodup
 | .set S n=>h.SetOf (intKind P w) a S n
 | .ins C dx fs=>H dx=some (.own a)/\fs.length<=1000/\dx≠a/\h.get? a=some (PySem.W.instObj C dx) ∧
   ∃ mA,h.Ns1 dx mA/\(∀ f,mD (fs.lookup f) (mA f))/\PySem.Within mA (fs.map (·.1))
 | .own _=>∃ o,h.get? a=some o
 | .xd fs=>∃ mA,h.Ns1 a mA/\∀ f,mD (fs.lookup f) (mA f)
 | .rng lo hi=>∃ t u v,h.get? a=some { cls:=.type "range",data:=.fields #[.int lo t,.int hi u,.int 1 v] }
 | .frz o u=>h.get? a=some o/\cJ H h a u
 | .tbl ps=>h.get? a=some { cls:=.none,data:=.fields ps }
 | .met f x=>h.get? a=some (PySem.W.methodObj (.ref f) (.ref x))
 | .ext φ=>φ h/\(∃ o,h.get? a=some o)/\∀ h1 h2:Heap,φ h1->(∀ o,h1.get? a=some o->h2.get? a=some o)->φ h2
def nA (H:Hp)(h:Heap):Prop:=∀ a o,H a=some o->cJ P w H h a o
end
section
variable {P:Program}{w:World}{H H':Hp}{h h':Heap}{a:Addr}{o:HO}
theorem cJ.lt (x:cJ P w H h a o):a<h.objs.size:=by
 cases o with
 | lst xs=>obtain ⟨_,_,_,_,e⟩:=x; exact aJm e
 | tup xs=>obtain ⟨_,_,_,p⟩:=x; exact p.lt
 | dK kvs=>obtain ⟨_,_,_,_,o,_,_,e,_⟩:=x; exact aJm e
 | dT kvs=>obtain ⟨_,_,_,_,o,_,_,e,_⟩:=x; exact aJm e
 | set S n=>obtain ⟨o,_,_,_,e,_⟩:=x; exact aJm e
 | ins C dx fs=>obtain ⟨_,_,_,e,_⟩:=x; exact aJm e
 | own y=>obtain ⟨_,e⟩:=x; exact aJm e
 | xd fs=>obtain ⟨_,⟨_,_,_,e,_⟩,_⟩:=x; exact aJm e
 | rng lo hi=>obtain ⟨_,_,_,e⟩:=x; exact aJm e
 | frz ob u=>obtain ⟨e,_⟩:=x; exact aJm e
 | tbl ps=>exact aJm (show h.get? a=some _ from x)
 | met f y=>exact aJm (show h.get? a=some _ from x)
 | ext φ=>obtain ⟨_,⟨_,e⟩,_⟩:=x; exact aJm e
theorem Paired.mapP {α β:Type}{F G:α->β->Prop}:∀ {l₁:List α}{l₂:List β},Paired F l₁ l₂->(∀ a b,F a b->G a b)->Paired G l₁ l₂
 | _,_,.nil,_=>.nil
 | _,_,.cons r t,f=>.cons (f _ _ r) (Paired.mapP t f)
theorem cJ.stay (x:cJ P w H h a o)(k:∀ b u,(b=a∨H b=some (.own a))->h.get? b=some u->h'.get? b=some u)
  (ho:∀ b,H b=some (.own a)->H' b=some (.own a)) (ht:∀ b xs,H b=some (.tup xs)->H' b=some (.tup xs)):cJ P w H' h' a o:=by
 induction o with
 | lst xs=>obtain ⟨z,its,n,r,e⟩:=x; exact ⟨z,its,n,r,k _ _ (.inl rfl) e⟩
 | tup xs=>obtain ⟨z,its,r,ob,e,c⟩:=x; exact ⟨z,its,r,ob,k _ _ (.inl rfl) e,c⟩
 | dK kvs=>obtain ⟨z,y,vs,r,ob,es,ep,e,c⟩:=x; exact ⟨z,y,vs,r,ob,es,ep,k _ _ (.inl rfl) e,c⟩
 | dT kvs =>
  obtain ⟨z,y,xs,r,ob,es,ep,e,c⟩:=x;exact ⟨z,y,xs,Paired.mapP r fun p q z=>⟨z.1,ht _ _ z.2.1,z.2.2⟩,ob,es,ep,k _ _ (.inl rfl) e,c⟩
 | set S n=>obtain ⟨ob,es,ep,t,e,c⟩:=x; exact ⟨ob,es,ep,t,k _ _ (.inl rfl) e,c⟩
 | ins C dx fs =>
  obtain ⟨d,z,ne,e,mA,⟨od,es,ep,e2,c⟩,r⟩:=x;exact ⟨ho _ d,z,ne,k _ _ (.inl rfl) e,mA,⟨od,es,ep,k _ _ (.inr d) e2,c⟩,r⟩
 | own y=>obtain ⟨ob,e⟩:=x; exact ⟨ob,k _ _ (.inl rfl) e⟩
 | xd fs=>obtain ⟨mA,⟨od,es,ep,e,c⟩,r⟩:=x; exact ⟨mA,⟨od,es,ep,k _ _ (.inl rfl) e,c⟩,r⟩
 | rng lo hi=>obtain ⟨t,u,v,e⟩:=x; exact ⟨t,u,v,k _ _ (.inl rfl) e⟩
 | frz ob u ih=>obtain ⟨e,q⟩:=x; exact ⟨k _ _ (.inl rfl) e,ih q⟩
 | tbl ps =>
  have e:h.get? a=some { cls:=.none,data:=.fields ps }:=x;show h'.get? a=some { cls:=.none,data:=.fields ps };exact k a _ (.inl rfl) e
 | met f y =>
  have e:h.get? a=some (PySem.W.methodObj (.ref f) (.ref y)):=x;show h'.get? a=some (PySem.W.methodObj (.ref f) (.ref y));exact k a _ (.inl rfl) e
 | ext φ=>obtain ⟨p,⟨o,e⟩,st⟩:=x; exact ⟨st _ _ p fun o q=>k _ _ (.inl rfl) q,⟨o,k _ _ (.inl rfl) e⟩,st⟩
theorem nA.lt (x:nA P w H h)(e:H a=some o):a<h.objs.size:=(x a o e).lt
theorem nA.fresh (x:nA P w H h)(e:h.objs.size<=a):H a=none:=by
 cases q:H a with
 | none=>rfl
 | some u=>exact absurd (aJC (x.lt q) e) (aKg _)
theorem nA.kept (x:nA P w H h)(k:∀ b u,h.get? b=some u->h'.get? b=some u):nA P w H h':=fun a o e =>
 (x a o e).stay (fun b u _ q=>k b u q) (fun _ q=>q) fun _ _ q=>q
theorem nA.laid (x:nA P w H h)(k:∀ b u,h.get? b=some u->h'.get? b=some u)(hp:h.objs.size<=a)(new:cJ P w (aX H a o) h' a o):nA P w (aX H a o) h':=fun b u e=>by
 have hn:=x.fresh hp
 by_cases hb:b=a
 ·subst hb; rw [aB] at e; cases e; exact new
 ·rw [aK hb] at e;exact (x b u e).stay (fun c v _ q=>k c v q) (fun c q=>by rw [aK (aV q hn)]; exact q) fun c xs q=>by rw [aK (aV q hn)]; exact q
end
def Rd (H:Hp)(a:Addr)(u:HO):Prop:=H a=some u∨∃ o,H a=some (.frz o u)
theorem Rd.ok {P:Program}{w:World}{H:Hp}{h:Heap}{a:Addr}{u:HO}(r:Rd H a u)(x:nA P w H h):cJ P w H h a u:=by
 rcases r with r | ⟨o,r⟩
 ·exact x a u r
 ·obtain ⟨_,q⟩:=x a _ r;exact q
def VM:Option HO->Prop
 | some (.lst _)=>True
 | some (.dK _)=>True
 | some (.dT _)=>True
 | some (.set _ _)=>True
 | some (.ins _ _ _)=>True
 | some (.ext _)=>True
 | _=>False
section
variable {P:Program}{w:World}{H:Hp}{h h':Heap}{x e:Addr}{o':HO}
theorem nA.write (ok:nA P w H h)(mu:VM (H x))(he:e=x∨H e=some (.own x))(k:∀ b u,b≠e->h.get? b=some u->h'.get? b=some u)(heo:∃ u,h'.get? e=some u)
  (new:cJ P w (aX H x o') h' x o'):nA P w (aX H x o') h':=fun b u q=>by
 have nown:∀ c y,H c=some (.own y)->c≠x:=fun c y r z=>by subst z; rw [r] at mu; exact mu
 have ntup:∀ c xs,H c=some (.tup xs)->c≠x:=fun c xs r z=>by subst z; rw [r] at mu; exact mu
 by_cases hb:b=x
 ·subst hb; rw [aB] at q; cases q; exact new
 ·rw [aK hb] at q
  by_cases hbe:b=e
  ·have q':H b=some (.own x):=by
    rcases he with z | z
    ·exact absurd (hbe.trans z) hb
    ·rw [hbe]; exact z
   rw [q] at q'; cases q';obtain ⟨v,hv⟩:=heo;exact ⟨v,by rw [hbe]; exact hv⟩
  ·refine (ok b u q).stay (fun c v hc r=>k c v ?_ r) (fun c r=>by rw [aK (nown c b r)]; exact r) fun c xs r=>by rw [aK (ntup c xs r)]; exact r
   rcases hc with rfl | hc
   ·exact hbe
   ·rintro rfl;rcases he with z | z
    ·exact nown c b hc z
    ·rw [hc] at z; cases z; exact hb rfl
end
structure Un (fs ex:List Addr)(H H':Hp)(h h':Heap):Prop where
 keep:∀ b o,h.get? b=some o->H b=none->b∉fs->b∉ex->h'.get? b=some o
 slot:∀ b o,h.get? b=some o->H b=none->b∈fs->b∉ex->∃ sl,h'.get? b=some { o with slots:=sl }
 free:∀ b o,h.get? b=some o->H b=none->b∉ex->H' b=none
 there:∀ b o,h.get? b=some o->b∉ex->∃ o',h'.get? b=some o'
 tups:∀ b xs,H b=some (.tup xs)->H' b=some (.tup xs)
 frzs:∀ b o u,H b=some (.frz o u)->H' b=some (.frz o u)
 tbls:∀ b ps,H b=some (.tbl ps)->∃ more,H' b=some (.tbl (ps++more))
section
variable {fs fs' ex ex':List Addr}{H H1 H2:Hp}{h h1 h2 h':Heap}{a x e:Addr}{o:HO}
theorem Un.any (u:Un fs ex H H1 h h1){b:Addr}{ob:Obj}(q:h.get? b=some ob)(n:H b=none)(hx:b∉ex):∃ sl,h1.get? b=some { ob with slots:=sl }:=by
 by_cases hb:b∈fs
 ·exact u.slot b ob q n hb hx
 ·exact ⟨ob.slots,u.keep b ob q n hb hx⟩
theorem Un.trans (a:Un fs ex H H1 h h1)(b:Un fs ex H1 H2 h1 h2):Un fs ex H H2 h h2 where
 keep:=fun c ob q n hc hx=>b.keep c ob (a.keep c ob q n hc hx) (a.free c ob q n hx) hc hx
 slot:=fun c ob q n hc hx=>by
  obtain ⟨sl,e1⟩:=a.slot c ob q n hc hx;obtain ⟨sl',e2⟩:=b.slot c _ e1 (a.free c ob q n hx) hc hx;exact ⟨sl',e2⟩
 free:=fun c ob q n hx=>by
  obtain ⟨o',e1⟩:=a.there c ob q hx;exact b.free c o' e1 (a.free c ob q n hx) hx
 there:=fun c ob q hx=>by
  obtain ⟨o',e1⟩:=a.there c ob q hx;exact b.there c o' e1 hx
 tups:=fun c xs q=>b.tups c xs (a.tups c xs q)
 frzs:=fun c ob xs q=>b.frzs c ob xs (a.frzs c ob xs q)
 tbls:=fun c ps q=>by
  obtain ⟨m1,e1⟩:=a.tbls c ps q;obtain ⟨m2,e2⟩:=b.tbls c _ e1;exact ⟨m1++m2,by rw [e2,aLS]⟩
theorem Un.kept (k:∀ b u,h.get? b=some u->h'.get? b=some u):Un fs ex H H h h' :=
 ⟨fun b ob q _ _ _=>k b ob q,fun b ob q _ _ _=>⟨ob.slots,k b ob q⟩,fun _ _ _ n _=>n,fun b ob q _=>⟨ob,k b ob q⟩,fun _ _ q=>q,fun _ _ _ q=>q,fun _ ps q=>⟨#[],by rw [q]; simp⟩⟩
theorem Un.refl:Un fs ex H H h h:=Un.kept fun _ _ q=>q
theorem Un.laid (k:∀ b u,h.get? b=some u->h'.get? b=some u)(hp:h.objs.size<=a)(hn:H a=none):Un fs ex H (aX H a o) h h' where
 keep:=fun b u q _ _ _=>k b u q
 slot:=fun b u q _ _ _=>⟨u.slots,k b u q⟩
 free:=fun b u q n _=>by rw [aK (aJB (aJC (aJm q) hp))]; exact n
 there:=fun b u q _=>⟨u,k b u q⟩
 tups:=fun b xs q=>by rw [aK (aV q hn)]; exact q
 frzs:=fun b u xs q=>by rw [aK (aV q hn)]; exact q
 tbls:=fun b ps q=>⟨#[],by rw [aK (aV q hn),q]; simp⟩
theorem Un.write (mu:VM (H x))(he:e=x∨H e=some (.own x))(k:∀ b u,b≠e->h.get? b=some u->h'.get? b=some u)(heo:∃ u,h'.get? e=some u):Un fs ex H (aX H x o) h h':=by
 have hx:∀ b,H b=none->b≠x:=fun b n z=>by subst z; rw [n] at mu; exact mu
 have hb:∀ b,H b=none->b≠e:=fun b n z=>by
  subst z;rcases he with r | r
  ·exact hx b n r
  ·rw [n] at r; cases r
 have hm:∀ b u,H b=some u->¬ VM (some u)->b≠x:=fun b u q nm z=>by subst z; rw [q] at mu; exact nm mu
 refine ⟨fun b u q n _ _=>k b u (hb b n) q,fun b u q n _ _=>⟨u.slots,k b u (hb b n) q⟩,fun b u q n _=>by rw [aK (hx b n)]; exact n,fun b u q _=>?_,
  fun b xs q=>by rw [aK (hm b _ q fun z=>z)]; exact q,fun b u xs q=>by rw [aK (hm b _ q fun z=>z)]; exact q,fun b ps q=>⟨#[],by rw [aK (hm b _ q fun z=>z),q]; simp⟩⟩
 by_cases hbe:b=e
 ·subst hbe; exact heo
 ·exact ⟨u,k b u hbe q⟩
end
def ZV (h:Heap)(H:Hp):List Addr:=(aKk h.objs.size).filter fun a=>(H a).isSome
def xK (h:Heap)(H:Hp):Heap:=PySem.W.hideAll h (ZV h H)
theorem Hb (h:Heap)(H:Hp):(xK h H).objs.size=h.objs.size:=PySem.W.hideAll_size _ _
theorem KD {h:Heap}{H:Hp}{b:Addr}{o:Obj}(e:h.get? b=some o)(n:H b=none):(xK h H).get? b=some o :=
 PySem.W.hideAll_get _ e fun hm=>by
  have q:(H b).isSome=true:=(aJE.mp hm).2;rw [n] at q; simp at q
theorem M7 {h:Heap}{H:Hp}{b:Addr}{o:Obj}(e:(xK h H).get? b=some o):h.get? b=some o/\H b=none:=by
 have e':h.get? b=some o:=PySem.W.of_hideAll (ZV h H) e;refine ⟨e',?_⟩;cases q:H b with
 | none=>rfl
 | some x =>
  have hm:b∈ZV h H:=aJE.mpr ⟨aJV.mpr (aJm e'),by simp [q]⟩;have z:(xK h H).get? b=none:=PySem.W.hideAll_none (ZV h H) hm;rw [z] at e; cases e
def Nv (g h:Heap)(L:Addr):List (Addr×Obj):=(aKk h.objs.size).filterMap fun a=>if a=L∨(g.get? a).isSome=true then none else (h.get? a).map fun o=>(a,o)
def rest (g h:Heap)(L d:Addr):List (Addr×Obj):=(Nv g h L).filter fun p=>decide (p.1≠d)
structure Mod (K:PySem.W.Frag)(mg:Str->Option Value)(base:Heap):Prop where
 kin:K.In base
 glob:base.Ns mainGlobals mg
 blt:∃ mb,base.Ns builtinsNs mb/\∀ x:Str,x≠"__name__" -> mb x=bootBuiltins x
 nolimit:base.NoLimit
structure Cx where
 prog:Program
 w:World
 K:PySem.W.Frag
 mg:Str->Option Value
 base:Heap
 A:Around
 N:List Str
 s₀:Shared
 H₀:Hp
 env:Env
 outer:List Env
 stack:List Env
 ex:List Addr
 fn:Str->Bool
 calm:Bool
 pn:List (Addr×Obj)
 xe:Value->Shared->Prop
def rN (l:List Env):List Addr:=l.filterMap (·.frame)
abbrev Cx.fs (X:Cx):List Addr:=rN X.outer
def Z3 (sc:Scope)(x:Str):Prop:=sc.names.lookup x=some .local∨sc.names.lookup x=some .cell∨sc.names.lookup x=some .free
def Loc (sc:Scope)(x:Str):Prop:=sc.names.lookup x=some .local∨sc.names.lookup x=some .cell
def Look (env:Env)(h:Heap)(m:Str->Option Value)(x:Str)(u:Value):Prop :=
 (env.kindOf x=some .local/\m x=some u)∨((env.kindOf x=some .cell∨env.kindOf x=some .free)/\∃ c,env.cells.lookup x=some c/\h.IsCell c (some u))
structure Cx.Ok (X:Cx):Prop where
 mod:Mod X.K X.mg X.base
 kind:X.env.scope.kind=.function
 glob:X.env.globals=mainGlobals
 blt:X.env.builtins=builtinsNs
 above:X.s₀.heap.objs.size<=X.env.locals
 inj:∀ x y c,X.env.cells.lookup x=some c->X.env.cells.lookup y=some c->x=y
 has:∀ x,(X.env.kindOf x=some .cell∨X.env.kindOf x=some .free)->∃ c,X.env.cells.lookup x=some c
 cab:∀ x c,X.fn x=true->X.env.cells.lookup x=some c->X.s₀.heap.objs.size<=c
 hd:X.calm=true->X.A.handled=none
 frames:X.A.frames=some X.stack
 stk:X.stack=X.outer∨(X.stack=X.env::X.outer/\X.env.frame=some X.env.locals)
 exf:∀ b∈X.ex,b≠X.env.locals/\∀ x c,X.env.cells.lookup x=some c->c≠b
 bs:∀ b o,X.base.get? b=some o->X.s₀.heap.get? b=some o/\X.H₀ b=none
 bsz:X.base.objs.size<=X.s₀.heap.objs.size
 noex:∀ b o,X.base.get? b=some o->b∉X.ex
 exfs:∀ b∈X.ex,b∉X.fs
 funs:X.s₀.heap.FunFrames X.base X.outer
 frf:∀ b∈X.fs,X.H₀ b=none
structure aZ (X:Cx)(pins:List (Addr×Obj))(σ:List (Option V))(H:Hp)(s:Shared):Prop where
 ok:X.Ok
 os:s.os=X.s₀.os
 bare:AllBare s.gens
 base:Un X.fs X.ex X.H₀ H X.s₀.heap s.heap
 loc:∃ m,s.heap.Ns X.env.locals m/\∀ (i:Nat) (x:Str) (v:V),X.N[i]? = some x->σ[i]? = some (some v)->Z3 X.env.scope x->∃ u,RelV v u/\Look X.env s.heap m x u
 cell:∀ x c,X.env.cells.lookup x=some c->∃ v,s.heap.IsCell c v
 free:H X.env.locals=none
 freeC:∀ x c,X.env.cells.lookup x=some c->H c=none
 pin:∀ p∈X.pn++pins,s.heap.get? p.1=some p.2/\H p.1=none/\p.1≠X.env.locals/\p.1∉X.fs/\∀ v,p.2.data≠.cell v
 hok:nA X.prog X.w H s.heap
 len:σ.length=X.N.length
section
variable {X:Cx}{pins:List (Addr×Obj)}{σ:List (Option V)}{H H':Hp}{s:Shared}{h':Heap}
theorem Cx.Ok.nofr (ok:X.Ok){b:Addr}{o:Obj}(e:X.base.get? b=some o):b∉X.fs:=fun hb=>by
 have:=(ok.funs.mem hb).1;rw [e] at this; cases this
theorem aZ.bs (I:aZ X pins σ H s):∀ b o,X.base.get? b=some o->s.heap.get? b=some o/\H b=none:=fun b o e =>
 ⟨I.base.keep b o (I.ok.bs b o e).1 (I.ok.bs b o e).2 (I.ok.nofr e) (I.ok.noex b o e),I.base.free b o (I.ok.bs b o e).1 (I.ok.bs b o e).2 (I.ok.noex b o e)⟩
theorem aZ.bk (I:aZ X pins σ H s):∀ b o,X.base.get? b=some o->s.heap.get? b=some o:=fun b o e=>(I.bs b o e).1
theorem aZ.mod (I:aZ X pins σ H s):Mod X.K X.mg X.base:=I.ok.mod
theorem aZ.kIn (I:aZ X pins σ H s):X.K.In s.heap:=I.ok.mod.kin.keeps I.bk
theorem aZ.nolimit (I:aZ X pins σ H s):s.heap.NoLimit:=I.ok.mod.nolimit.keeps I.bk
theorem aZ.lt (I:aZ X pins σ H s):X.env.locals<s.heap.objs.size:=let ⟨_,hn,_⟩:=I.loc; hn.lt
theorem aZ.sz (I:aZ X pins σ H s):X.s₀.heap.objs.size<=s.heap.objs.size:=aJc I.ok.above (aJH I.lt)
theorem aZ.nofs (I:aZ X pins σ H s){a:Addr}(h:s.heap.objs.size<=a):a∉X.fs:=fun hb=>by
 obtain ⟨_,o,ho,_⟩:=I.ok.funs.mem hb;exact absurd (aJC (aJm ho) (aJc I.sz h)) (aKg _)
theorem aZ.cne (I:aZ X pins σ H s):∀ x c,X.env.cells.lookup x=some c->c≠X.env.locals:=fun x c e z=>by
 obtain ⟨v,o,ho,hd⟩:=I.cell x c e;obtain ⟨m,⟨o',es,ep,ho',hd',_⟩,_⟩:=I.loc;rw [z,ho'] at ho; cases ho; rw [hd'] at hd; cases hd
theorem aZ.funs (I:aZ X pins σ H s):s.heap.FunFrames X.base X.outer:=by
 have all:∀ (l:List Env),(∀ b∈rN l,b∈X.fs)->X.s₀.heap.FunFrames X.base l->s.heap.FunFrames X.base l:=by
  intro l
  induction l with
  | nil=>intro _ _; trivial
  | cons env r ih =>
   intro hs hl;obtain ⟨hk,⟨L,o,hf,hn,ho,hd⟩,hr⟩:=hl;have hL:L∈X.fs:=hs L (by unfold rN; rw [aKN,hf]; exact aJa);obtain ⟨sl,e⟩:=I.base.slot L o ho (I.ok.frf L hL) hL fun z=>I.ok.exfs L z hL;exact ⟨hk,⟨L,_,hf,hn,e,hd⟩,ih (fun b hb=>hs b (by unfold rN; rw [aKN,hf]; exact aI9 _ hb)) hr⟩
 exact all X.outer (fun _ hb=>hb) I.ok.funs
theorem aZ.stack (I:aZ X pins σ H s):s.heap.FunFrames X.base X.stack:=by
 rcases I.ok.stk with e | ⟨e,hf⟩
 ·rw [e]; exact I.funs
 ·rw [e];obtain ⟨m,hn,_⟩:=I.loc;refine .cons (by rw [I.ok.kind]; decide) hf hn ?_ I.funs;exact Heap.get?_none_of_le (aJc I.ok.bsz I.ok.above)
theorem aZ.stkSub (I:aZ X pins σ H s):∀ b∈rN X.stack,b∈X.env.locals::X.fs:=fun b hb=>by
 rcases I.ok.stk with e | ⟨e,hf⟩
 ·rw [e] at hb; exact aI9 _ hb
 ·rw [e] at hb;unfold rN at hb;rw [aKN,hf] at hb;exact hb
theorem aZ.stkFree (I:aZ X pins σ H s):∀ b∈rN X.stack,H b=none:=fun b hb=>by
 rcases aJx.mp (I.stkSub b hb) with e | hb
 ·rw [e]; exact I.free
 ·obtain ⟨_,o,ho,_⟩:=I.ok.funs.mem hb;exact I.base.free b o ho (I.ok.frf b hb) fun z=>I.ok.exfs b z hb
theorem aZ.step {g':Array GenState}{t':Nat}{d':Drawn}{ch:List Addr}(I:aZ X pins σ H s)
  (hch:∀ b∈ch,(b∈X.ex∨X.s₀.heap.objs.size<=b)/\b≠X.env.locals/\(∀ x c,X.env.cells.lookup x=some c->c≠b)/\∀ p∈X.pn++pins,p.1≠b)
  (keep:∀ b o,b≠X.env.locals->b∉X.fs->b∉ch->s.heap.get? b=some o->H b=none->h'.get? b=some o)
  (slot:∀ b o,b≠X.env.locals->b∈X.fs->b∉ch->s.heap.get? b=some o->H b=none->∃ sl,h'.get? b=some { o with slots:=sl }) (free:∀ b o,b∉ch->s.heap.get? b=some o->H b=none->H' b=none)
  (there:∀ b o,b∉ch->s.heap.get? b=some o->∃ o',h'.get? b=some o')
  (tups:∀ b xs,H b=some (.tup xs)->H' b=some (.tup xs)) (frzs:∀ b o u,H b=some (.frz o u)->H' b=some (.frz o u)) (tbls:∀ b ps,H b=some (.tbl ps)->∃ more,H' b=some (.tbl (ps++more)))
  (ns:∀ m,s.heap.Ns X.env.locals m->h'.Ns X.env.locals m) (hok:nA X.prog X.w H' h') (hg:AllBare g') :
  aZ X pins σ H' { s with heap:=h',gens:=g',drawn:=d',toks:=t' }:=by
 have neL:∀ b o,X.s₀.heap.get? b=some o->b≠X.env.locals:=fun b o e=>aJB (aJC (aJm e) I.ok.above);have neC:∀ b o,X.s₀.heap.get? b=some o->b∉X.ex->b∉ch:=fun b o e hx hb=>by
  rcases (hch b hb).1 with z | z
  ·exact hx z
  ·exact absurd (aJC (aJm e) z) (aKg _)
 have cellK:∀ x c,X.env.cells.lookup x=some c->∀ v,s.heap.IsCell c v->h'.IsCell c v:=fun x c e v ⟨o,ho,hd⟩=>by
  have nch:c∉ch:=fun z=>(hch c z).2.2.1 x c e rfl
  by_cases hc:c∈X.fs
  ·obtain ⟨sl,q⟩:=slot c o (I.cne x c e) hc nch ho (I.freeC x c e);exact ⟨_,q,hd⟩
  ·exact ⟨o,keep c o (I.cne x c e) hc nch ho (I.freeC x c e),hd⟩
 refine ⟨I.ok,I.os,hg,⟨fun b o e n hb hx=>?_,fun b o e n hb hx=>?_,fun b o e n hx=>?_,fun b o e hx=>?_,fun b xs e=>tups b xs (I.base.tups b xs e),fun b o xs e=>frzs b o xs (I.base.frzs b o xs e),fun b ps e=>?_⟩,?_,fun x c e=>?_,?_,fun x c e=>?_,fun p hp=>?_,hok,I.len⟩
 ·exact keep b o (neL b o e) hb (neC b o e hx) (I.base.keep b o e n hb hx) (I.base.free b o e n hx)
 ·obtain ⟨sl,e1⟩:=I.base.slot b o e n hb hx;obtain ⟨sl',e2⟩:=slot b _ (neL b o e) hb (neC b o e hx) e1 (I.base.free b o e n hx);exact ⟨sl',e2⟩
 ·obtain ⟨o',e1⟩:=I.base.there b o e hx;exact free b o' (neC b o e hx) e1 (I.base.free b o e n hx)
 ·obtain ⟨o',e1⟩:=I.base.there b o e hx;exact there b o' (neC b o e hx) e1
 ·obtain ⟨m1,e1⟩:=I.base.tbls b ps e;obtain ⟨m2,e2⟩:=tbls b _ e1;exact ⟨m1++m2,by rw [e2,aLS]⟩
 ·obtain ⟨m,hn,hl⟩:=I.loc;refine ⟨m,ns m hn,fun i x v e1 e2 e3=>?_⟩;obtain ⟨u,r,l⟩:=hl i x v e1 e2 e3;refine ⟨u,r,?_⟩;rcases l with l | ⟨k,c,e,z⟩
  ·exact .inl l
  ·exact .inr ⟨k,c,e,cellK x c e _ z⟩
 ·obtain ⟨v,z⟩:=I.cell x c e;exact ⟨v,cellK x c e v z⟩
 ·obtain ⟨m,⟨o,_,_,ho,_⟩,_⟩:=I.loc;exact free _ o (fun z=>(hch _ z).2.1 rfl) ho I.free
 ·obtain ⟨v,o,ho,hd⟩:=I.cell x c e;exact free c o (fun z=>(hch c z).2.2.1 x c e rfl) ho (I.freeC x c e)
 ·obtain ⟨e,n,ne,nf,d⟩:=I.pin p hp;have nch:p.1∉ch:=fun z=>(hch p.1 z).2.2.2 p hp rfl;exact ⟨keep p.1 p.2 ne nf nch e n,free p.1 p.2 nch e n,ne,nf,d⟩
theorem aZ.un {t':Nat}(I:aZ X pins σ H s)(u:Un X.fs [] H H' s.heap h')(hok:nA X.prog X.w H' h'):aZ X pins σ H' { s with heap:=h',toks:=t' }:=by
 obtain ⟨m,⟨o,es,ep,ho,r⟩,_⟩:=id I.loc;obtain ⟨sl,hL⟩:=u.any ho I.free (by simp);exact I.step (g':=s.gens) (d':=s.drawn) (ch:=[]) (fun _ z=>nomatch z) (fun b o _ hb _ e n=>u.keep b o e n hb (by simp)) (fun b o _ hb _ e n=>u.slot b o e n hb (by simp)) (fun b o _ e n=>u.free b o e n (by simp)) (fun b o _ e=>u.there b o e (by simp)) u.tups u.frzs u.tbls (fun m' hm=>by
  obtain ⟨o',es',ep',ho',r'⟩:=hm;rw [ho] at ho'; cases ho';exact ⟨_,es',ep',hL,r'⟩) hok I.bare
theorem aZ.call {g':Array GenState}{t':Nat}{d':Drawn}{ch:List Addr}(I:aZ X pins σ H s)(u:Un (rN X.stack) ch H H' s.heap h')(hok:nA X.prog X.w H' h')(hg:AllBare g')
  (hch:∀ b∈ch,(b∈X.ex∨X.s₀.heap.objs.size<=b)/\b≠X.env.locals/\(∀ x c,X.env.cells.lookup x=some c->c≠b)/\∀ p∈X.pn++pins,p.1≠b) :
  aZ X pins σ H' { s with heap:=h',gens:=g',drawn:=d',toks:=t' }:=by
 obtain ⟨m,⟨o,es,ep,ho,r⟩,_⟩:=id I.loc;obtain ⟨sl,hL⟩:=u.any ho I.free fun z=>(hch _ z).2.1 rfl;exact I.step (ch:=ch) hch (fun b o hL hb hc e n=>u.keep b o e n (fun z=>(aJx.mp (I.stkSub b z)).elim hL hb) hc) (fun b o _ _ hc e n=>u.any e n hc) (fun b o hc e n=>u.free b o e n hc) (fun b o hc e=>u.there b o e hc) u.tups u.frzs u.tbls (fun m' hm=>by
  obtain ⟨o',es',ep',ho',r'⟩:=hm;rw [ho] at ho'; cases ho';exact ⟨_,es',ep',hL,r'⟩) hok hg
theorem aZ.turned {t':Nat}{it:Addr}(I:aZ X pins σ H s)(k:∀ b o,b≠it->s.heap.get? b=some o->h'.get? b=some o)(hn:H it=none)(hL:it≠X.env.locals)
  (h1:it∈X.ex∨X.s₀.heap.objs.size<=it) (h2:∀ x c,X.env.cells.lookup x=some c->c≠it) (h3:∀ p∈X.pn++pins,p.1≠it):aZ X pins σ H { s with heap:=h',toks:=t' }:=by
 have nit:∀ b u,H b=some u->b≠it:=fun b u e z=>by rw [z,hn] at e; cases e
 refine I.step (g':=s.gens) (d':=s.drawn) (ch:=[it]) (fun b hb=>?_) (fun b o _ _ hc e _=>k b o (fun z=>hc (by simp [z])) e) (fun b o _ _ hc e _=>⟨o.slots,k b o (fun z=>hc (by simp [z])) e⟩) (fun _ _ _ _ n=>n)
  (fun b o hc e=>⟨o,k b o (fun z=>hc (by simp [z])) e⟩) (fun _ _ e=>e) (fun _ _ _ e=>e) (fun b ps e=>⟨#[],by rw [e]; simp⟩) (fun m hm=>?_) (fun b u e=>?_) I.bare
 ·have e:b=it:=by simpa using hb
  subst e;exact ⟨h1,hL,h2,h3⟩
 ·obtain ⟨o,es,ep,ho,r⟩:=hm;exact ⟨o,es,ep,k _ o (Ne.symm hL) ho,r⟩
 ·refine (I.hok b u e).stay (fun c v hc q=>k c v ?_ q) (fun _ q=>q) fun _ _ q=>q;rcases hc with z | z
  ·rw [z]; exact nit b u e
  ·exact nit c _ z
theorem aZ.tok (I:aZ X pins σ H s)(t:Nat):aZ X pins σ H { s with toks:=t }:=I.un (h':=s.heap) (t':=t) Un.refl I.hok
theorem aZ.kept {t':Nat}(I:aZ X pins σ H s)(k:∀ b u,s.heap.get? b=some u->h'.get? b=some u):aZ X pins σ H { s with heap:=h',toks:=t' }:=I.un (Un.kept k) (I.hok.kept k)
theorem aZ.laid {a:Addr}{o:HO}{t':Nat}(I:aZ X pins σ H s)(k:∀ b u,s.heap.get? b=some u->h'.get? b=some u)(hp:s.heap.objs.size<=a)(new:cJ X.prog X.w (aX H a o) h' a o) :
  aZ X pins σ (aX H a o) { s with heap:=h',toks:=t' }:=I.un (Un.laid k hp (I.hok.fresh hp)) (I.hok.laid k hp new)
theorem aZ.write {x e:Addr}{o:HO}{t':Nat}(I:aZ X pins σ H s)(mu:VM (H x))(he:e=x∨H e=some (.own x))(k:∀ b u,b≠e->s.heap.get? b=some u->h'.get? b=some u)(heo:∃ u,h'.get? e=some u)
  (new:cJ X.prog X.w (aX H x o) h' x o):aZ X pins σ (aX H x o) { s with heap:=h',toks:=t' }:=I.un (Un.write mu he k heo) (I.hok.write mu he k heo new)
theorem aZ.pins_of {pins':List (Addr×Obj)}(I:aZ X pins σ H s)(h:∀ p∈pins',s.heap.get? p.1=some p.2/\H p.1=none/\p.1≠X.env.locals/\p.1∉X.fs/\∀ v,p.2.data≠.cell v):aZ X pins' σ H s :=
 ⟨I.ok,I.os,I.bare,I.base,I.loc,I.cell,I.free,I.freeC,fun p hp=>(aJy.mp hp).elim (fun z=>I.pin p (aJ3 _ z)) (h p),I.hok,I.len⟩
theorem Dj {N:List Str}(hN:N.Nodup){i j:Nat}{x:Str}(a:N[i]? = some x)(b:N[j]? = some x):i=j:=by
 obtain ⟨h1,e1⟩:=aJl.mp a;obtain ⟨h2,e2⟩:=aJl.mp b;exact (List.getElem_inj hN).mp (e1.trans e2.symm)
theorem xP {M:Model}{A:Around}{E:Value->Shared->Prop}{i:Nat}{x:Str}{v:V}{u:Value}{Q:Unit->Shared->Prop}(I:aZ X pins σ H s)(hN:X.N.Nodup)(hi:X.N[i]? = some x)(hx:Loc X.env.scope x)(r:RelV v u)
  (h:∀ s',aZ X pins (σ.set i (some v)) H s'->(∃ a,aJT a s.heap s'.heap/\(a=X.env.locals∨X.env.cells.lookup x=some a))->Q () s') (hf:X.fn x=true∨X.env.scope.names.lookup x=some .local:=by first | exact .inl rfl | exact .inr rfl | assumption):wpAny M A (storeName X.env x u) Q E s:=by
 obtain ⟨m,hn,hl⟩:=id I.loc;have hcls:(X.env.scope.kind==.class||(X.env.scope.kind==.module&&X.env.locals != X.env.globals))=false:=by rw [I.ok.kind]; rfl
 have hiσ:i < σ.length:=by rw [I.len]; exact (aJl.mp hi).1
 have cne:=I.cne;have tracked:∀ {a:Addr}{h':Heap},(∃ o,s.heap.get? a=some o/\H a=none)->aJT a s.heap h'->nA X.prog X.w H h':=fun {a h'} ha hs b ob e=>by
  obtain ⟨_,_,hfree⟩:=ha;refine (I.hok b ob e).stay (fun c w' hc q=>(hs.2 c ?_).trans q) (fun _ q=>q) fun _ _ q=>q;rintro rfl;rcases hc with rfl | hc
  ·rw [hfree] at e; cases e
  ·rw [hfree] at hc; cases hc
 rcases hx with hk | hk
 ·refine wpAny_storeName_local hk hn (fun h' hn' hs=>?_) hcls;obtain ⟨oL,_,_,hoL,_⟩:=id hn;refine h _ ⟨I.ok,I.os,I.bare,⟨fun b o e n hb hx=>?_,fun b o e n hb hx=>?_,I.base.free,fun b o e hx=>?_,I.base.tups,I.base.frzs,I.base.tbls⟩,⟨_,hn',fun j y v' e1 e2 e3=>?_⟩,fun y c e=>?_,I.free,I.freeC,fun p hp=>?_,tracked ⟨oL,hoL,I.free⟩ hs,by simpa using I.len⟩ ⟨_,hs,.inl rfl⟩
  ·exact (hs.2 b (aJB (aJC (aJm e) I.ok.above))).trans (I.base.keep b o e n hb hx)
  ·obtain ⟨sl,e1⟩:=I.base.slot b o e n hb hx;exact ⟨sl,(hs.2 b (aJB (aJC (aJm e) I.ok.above))).trans e1⟩
  ·obtain ⟨o',e1⟩:=I.base.there b o e hx;exact ⟨o',(hs.2 b (aJB (aJC (aJm e) I.ok.above))).trans e1⟩
  ·by_cases hj:j=i
   ·subst hj;rw [hi] at e1; cases e1;rw [aLu hiσ] at e2;cases e2;exact ⟨u,r,.inl ⟨hk,by simp⟩⟩
   ·rw [aLL (Ne.symm hj)] at e2;obtain ⟨u',r',q⟩:=hl j y v' e1 e2 e3;refine ⟨u',r',?_⟩;rcases q with ⟨k,e⟩ | ⟨k,c,e,z⟩
    ·refine .inl ⟨k,?_⟩;have:y≠x:=fun e=>hj (Dj hN e1 (e ▸ hi));simp [this,e]
    ·exact .inr ⟨k,c,e,z.sameBut hs (cne y c e)⟩
  ·obtain ⟨w',z⟩:=I.cell y c e;exact ⟨w',z.sameBut hs (cne y c e)⟩
  ·obtain ⟨e,n,ne,nf,d⟩:=I.pin p hp;exact ⟨(hs.2 p.1 ne).trans e,n,ne,nf,d⟩
 ·have hfn:X.fn x=true:=by
   rcases hf with z | z
   ·exact z
   ·rw [z] at hk; cases hk
  obtain ⟨c,hc⟩:=I.ok.has x (.inl hk);obtain ⟨w',z⟩:=I.cell x c hc;refine wpAny_storeName_cell I.ok.kind hk hc z (fun h' hc' hs=>?_);obtain ⟨oc,hoc,hocd⟩:=id z;refine h { s with heap:=h' } ⟨I.ok,I.os,I.bare,⟨fun b o e n hb hx=>?_,fun b o e n hb hx=>?_,I.base.free,fun b o e hx=>?_,I.base.tups,I.base.frzs,I.base.tbls⟩,⟨m,hn.sameBut hs (Ne.symm (cne x c hc)),fun j y v' e1 e2 e3=>?_⟩,fun y c' e=>?_,I.free,I.freeC,fun p hp=>?_,tracked ⟨oc,hoc,I.freeC x c hc⟩ hs,by simpa using I.len⟩ ⟨c,hs,.inr hc⟩
  ·exact (hs.2 b (aJB (aJC (aJm e) (I.ok.cab x c hfn hc)))).trans (I.base.keep b o e n hb hx)
  ·obtain ⟨sl,e1⟩:=I.base.slot b o e n hb hx;exact ⟨sl,(hs.2 b (aJB (aJC (aJm e) (I.ok.cab x c hfn hc)))).trans e1⟩
  ·obtain ⟨o',e1⟩:=I.base.there b o e hx;exact ⟨o',(hs.2 b (aJB (aJC (aJm e) (I.ok.cab x c hfn hc)))).trans e1⟩
  ·by_cases hj:j=i
   ·subst hj;rw [hi] at e1; cases e1;rw [aLu hiσ] at e2;cases e2;exact ⟨u,r,.inr ⟨.inl hk,c,hc,hc'⟩⟩
   ·rw [aLL (Ne.symm hj)] at e2;obtain ⟨u',r',q⟩:=hl j y v' e1 e2 e3;refine ⟨u',r',?_⟩;rcases q with q | ⟨k,c',e,z'⟩
    ·exact .inl q
    ·refine .inr ⟨k,c',e,z'.sameBut hs ?_⟩;rintro rfl;exact hj (Dj hN e1 (I.ok.inj _ _ _ e hc ▸ hi))
  ·by_cases hcc:c'=c
   ·subst hcc; exact ⟨_,hc'⟩
   ·obtain ⟨w2,z2⟩:=I.cell y c' e;exact ⟨w2,z2.sameBut hs hcc⟩
  ·obtain ⟨e,n,ne,nf,d⟩:=I.pin p hp;refine ⟨(hs.2 p.1 ?_).trans e,n,ne,nf,d⟩;intro q;rw [q,hoc] at e;have q':oc=p.2:=aJU.inj e;exact d w' (by rw [<- q']; exact hocd)
theorem Ds {M:Model}{A:Around}{E:Value->Shared->Prop}{i:Nat}{x:Str}{v:V}{u:Value}{Q:Unit->Shared->Prop}(I:aZ X pins σ H s)(hN:X.N.Nodup)(hi:X.N[i]? = some x)(hx:Loc X.env.scope x)(r:RelV v u)
  (h:∀ s',aZ X pins (σ.set i (some v)) H s'->Q () s') (hf:X.fn x=true∨X.env.scope.names.lookup x=some .local:=by first | exact .inl rfl | exact .inr rfl | assumption):wpAny M A (storeName X.env x u) Q E s :=
 xP I hN hi hx r (fun s' I' _=>h s' I') hf
theorem aZ.call' {s':Shared}{ch:List Addr}(I:aZ X pins σ H s)(ho:s'.os=s.os)(u:Un (rN X.stack) ch H H' s.heap s'.heap)(hok:nA X.prog X.w H' s'.heap)(hg:AllBare s'.gens)
  (hch:∀ b∈ch,(b∈X.ex∨X.s₀.heap.objs.size<=b)/\b≠X.env.locals/\(∀ x c,X.env.cells.lookup x=some c->c≠b)/\∀ p∈X.pn++pins,p.1≠b):aZ X pins σ H' s':=by
 obtain ⟨h',g',d',t',o'⟩:=s';have e:o'=s.os:=ho;subst e;exact I.call (g':=g') (t':=t') (d':=d') u hok hg hch
end
abbrev XK:=Value->Option Addr->Hp->Prop
abbrev St:=List (Option V)
abbrev VK:=V->Hp->Prop
abbrev TE:=St->Hp->VK->Prop
abbrev TT:=St->Hp->(Bool->Hp->Prop)->Prop
abbrev TA:=St->Hp->(List V->Hp->Prop)->Prop
structure Ends where
 nx:St->Hp->Prop
 rt:VK
 bk:St->Hp->Prop:=fun _ _=>False
 ct:St->Hp->Prop:=fun _ _=>False
abbrev TS:=Ends->St->Hp->Prop
def EP (X:Cx)(pins:List (Addr×Obj))(σ:St)(Q:VK)(u:Value)(s':Shared):Prop:=∃ v H',aZ X pins σ H' s'/\RelV v u/\Q v H'
def TP (X:Cx)(pins:List (Addr×Obj))(σ:St)(Q:Bool->Hp->Prop)(b:Bool)(s':Shared):Prop:=∃ H',aZ X pins σ H' s'/\Q b H'
def AP (X:Cx)(pins:List (Addr×Obj))(σ:St)(Q:List V->Hp->Prop)(us:List Value)(s':Shared):Prop:=∃ vs H',aZ X pins σ H' s'/\bK vs us/\Q vs H'
def SP (X:Cx)(pins:List (Addr×Obj))(D:Ends)(f:Flow)(s':Shared):Prop :=
 match f with
 | .next=>∃ σ' H',aZ X pins σ' H' s'/\D.nx σ' H'
 | .brk=>∃ σ' H',aZ X pins σ' H' s'/\D.bk σ' H'
 | .cont=>∃ σ' H',aZ X pins σ' H' s'/\D.ct σ' H'
 | .ret u=>∃ v σ' H',aZ X pins σ' H' s'/\RelV v u/\D.rt v H'
def PE (X:Cx)(e:Expr)(t:TE):Prop :=
 ∀ (pins:List (Addr×Obj)) (s:Shared) (σ:St) (H:Hp) (Q:VK),aZ X pins σ H s->t σ H Q->wpAny (model X.prog X.w) X.A (eval e X.env) (EP X pins σ Q) X.xe s
def PT (X:Cx)(e:Expr)(t:TT):Prop :=
 ∀ (pins:List (Addr×Obj)) (s:Shared) (σ:St) (H:Hp) (Q:Bool->Hp->Prop),aZ X pins σ H s->t σ H Q->wpAny (model X.prog X.w) X.A (isTrue e X.env (eval e X.env)) (TP X pins σ Q) X.xe s
def PW (X:Cx)(e:Expr)(t:TT):Prop :=
 ∀ (whole:Sem Value) (pins:List (Addr×Obj)) (s:Shared) (σ:St) (H:Hp) (Q:Bool->Hp->Prop),aZ X pins σ H s->t σ H Q->wpAny (model X.prog X.w) X.A (isTrue e X.env whole) (TP X pins σ Q) X.xe s
theorem PW.pt {X:Cx}{e:Expr}{t:TT}(h:PW X e t):PT X e t:=h _
def PA (X:Cx)(es:List Expr)(t:TA):Prop :=
 ∀ (pos:Pos) (pins:List (Addr×Obj)) (s:Shared) (σ:St) (H:Hp) (Q:List V->Hp->Prop),aZ X pins σ H s->t σ H Q->wpAny (model X.prog X.w) X.A (spliced (backTo pos (starEach es X.env))) (AP X pins σ Q) X.xe s
def PS (X:Cx)(st:Stmt)(t:TS):Prop :=
 ∀ (pins:List (Addr×Obj)) (s:Shared) (σ:St) (H:Hp) (D:Ends),aZ X pins σ H s->t D σ H->wpAny (model X.prog X.w) X.A (exec st X.env) (SP X pins D) X.xe s
def yW (X:Cx)(st:List Stmt)(t:TS):Prop :=
 ∀ (pins:List (Addr×Obj)) (s:Shared) (σ:St) (H:Hp) (D:Ends),aZ X pins σ H s->t D σ H->wpAny (model X.prog X.w) X.A (execs st X.env) (SP X pins D) X.xe s
theorem dH {α:Type}{t:Sem α}{Q Q':α->Shared->Prop}{M:Model}{A:Around}{E:Value->Shared->Prop}{s:Shared}(h:wpAny M A t Q E s)(hQ:∀ a s,Q a s->Q' a s):wpAny M A t Q' E s:=wpAny_mono h hQ fun _ _ x=>x
section
variable {X:Cx}
theorem bin {a b:Expr}{ta tb:TE}(ha:PE X a ta)(hb:PE X b tb){pins:List (Addr×Obj)}{s:Shared}{σ:St}{H:Hp}{R:V->V->Hp->Prop}(I:aZ X pins σ H s)(h:ta σ H fun x H1=>tb σ H1 fun y H2=>R x y H2)
  {α:Type}{Q:α->Shared->Prop}{f:Value->Value->Sem α}
  (hf:∀ v u s2 x y H2,aZ X pins σ H2 s2->RelV x v->RelV y u->R x y H2->wpAny (model X.prog X.w) X.A (f v u) Q X.xe s2) :
  wpAny (model X.prog X.w) X.A (eval a X.env) (fun v s₁=>wpAny (model X.prog X.w) X.A (eval b X.env) (fun u s₂=>wpAny (model X.prog X.w) X.A (f v u) Q X.xe s₂) X.xe s₁) X.xe s:=by
 refine dH (ha pins s σ H _ I h) fun v s1 ⟨x,H1,I1,r1,q1⟩=>?_;refine dH (hb pins s1 σ H1 _ I1 q1) fun u s2 ⟨y,H2,I2,r2,q2⟩=>?_;exact hf v u s2 x y H2 I2 r1 r2 q2
def Hm (i:Nat):TE:=fun σ H Q=>∃ v,σ[i]? = some (some v)/\Q v H
def tC (v:V):TE:=fun _ H Q=>Q v H
theorem KJ {i:Nat}{x:Str}{pos:Pos}(hN:X.N[i]? = some x)(hv:Z3 X.env.scope x)(hd:(x==("__debug__" : Str))=false:=by decide)(hcd:(x==("__classdict__" : Str))=false:=by decide):PE X (.Name x pos) (Hm i):=by
 intro pins s σ H Q I h;obtain ⟨v,e,h⟩:=h;obtain ⟨m,hn,hl⟩:=I.loc;obtain ⟨u,r,l⟩:=hl i x v hN e hv;have fin:EP X pins σ Q u s:=⟨v,H,I,r,h⟩
 rcases l with ⟨hk,hm⟩ | ⟨hk,c,hc,hcell⟩
 ·exact wpAny_Name (wpAny_loadName_local I.ok.kind hk hn hm fin) hd
 ·rcases hk with hk | hk
  ·exact wpAny_Name (wpAny_loadName_cell I.ok.kind hk hc hcell fin) hd
  ·exact wpAny_Name (wpAny_loadName_free I.ok.kind hk hc hcell fin hcd) hd
theorem aH {i j pos}:PE X (.Constant (.int i) j pos) (tC (.int i)):=fun _ _ _ H _ I h=>wpAny_Constant_int ⟨.int i,H,I.tok _,⟨_,rfl⟩,h⟩
theorem gH {b j pos}:PE X (.Constant (.bool b) j pos) (tC (.bl b)):=fun _ _ _ H _ I h=>Constant_bool ⟨.bl b,H,I,rfl,h⟩
theorem gM {j pos}:PE X (.Constant .none j pos) (tC .non):=fun _ _ _ H _ I h=>Constant_none ⟨.non,H,I,rfl,h⟩
theorem fL {x j pos}:PE X (.Constant (.str x) j pos) (tC (.str x)):=fun _ _ _ H _ I h=>Calls.Constant_str ⟨.str x,H,I.tok _,⟨_,rfl⟩,h⟩
def Gl (X:Cx)(x:Str):Prop:=X.env.kindOf x=some .globalImplicit
theorem qK {E:Value->Shared->Prop}{pins:List (Addr×Obj)}{s:Shared}{σ:St}{H:Hp}{x:Str}{u:Value}{pos:Pos}{Q:Value->Shared->Prop}(I:aZ X pins σ H s)(hg:Gl X x)(hm:X.mg x=some u)(h:Q u s)
  (hd:(x==("__debug__" : Str))=false:=by decide):wpAny (model X.prog X.w) X.A (eval (.Name x pos) X.env) Q E s :=
 Calls.Name_function_global I.ok.kind hg (Calls.loadGlobal_global (by rw [I.ok.glob]; exact I.mod.glob.keeps I.bk) hm h) hd
theorem pD {E:Value->Shared->Prop}{pins:List (Addr×Obj)}{s:Shared}{σ:St}{H:Hp}{x:Str}{u:Value}{pos:Pos}{Q:Value->Shared->Prop}(I:aZ X pins σ H s)(hg:Gl X x)(hm:X.mg x=none)(hv:bootBuiltins x=some u)(h:Q u s)
  (hn:x≠"__name__":=by decide) (hd:(x==("__debug__" : Str))=false:=by decide):wpAny (model X.prog X.w) X.A (eval (.Name x pos) X.env) Q E s:=by
 obtain ⟨mb,h1,h2⟩:=I.mod.blt;exact Calls.Name_function_global I.ok.kind hg (Calls.loadGlobal_builtin (by rw [I.ok.glob]; exact I.mod.glob.keeps I.bk) hm (by rw [I.ok.blt]; exact h1.keeps I.bk) ((h2 x hn).trans hv) h) hd
theorem cM {x:Str}{v:V}{u:Value}{pos:Pos}(hg:Gl X x)(hm:X.mg x=some u)(r:RelV v u)(hd:(x==("__debug__" : Str))=false:=by decide):PE X (.Name x pos) (tC v) :=
 fun _ _ _ H _ I h=>qK I hg hm ⟨v,H,I,r,h⟩ hd
theorem d7 {x:Str}{v:V}{u:Value}{pos:Pos}(hg:Gl X x)(hm:X.mg x=none)(hv:bootBuiltins x=some u)(r:RelV v u)(hn:x≠"__name__":=by decide)(hd:(x==("__debug__" : Str))=false:=by decide):PE X (.Name x pos) (tC v) :=
 fun _ _ _ H _ I h=>pD I hg hm hv ⟨v,H,I,r,h⟩ hn hd
variable {a b:Expr}{ta tb:TE}{pos:Pos}
def PC (X:Cx)(op:CmpOp)(a b:Expr)(t:TE):Prop :=
 ∀ (pins:List (Addr×Obj)) (s:Shared) (σ:St) (H:Hp) (Q:VK),aZ X pins σ H s->t σ H Q ->
  wpAny (model X.prog X.w) X.A (eval a X.env) (fun v s₁=>wpAny (model X.prog X.w) X.A (eval b X.env) (fun u s₂=>wpAny (model X.prog X.w) X.A (compareOp op v u) (EP X pins σ Q) X.xe s₂) X.xe s₁) X.xe s
theorem KN (b:Expr){op:CmpOp}(h:op≠.In)(h2:op≠.NotIn):behindInMarks op b=false:=by
 have e1:(op==CmpOp.In)=false:=by cases op <;> first | rfl | exact absurd rfl h
 have e2:(op==CmpOp.NotIn)=false:=by cases op <;> first | rfl | exact absurd rfl h2
 cases b <;> simp [behindInMarks,e1,e2]
def tB (t:TE):TT:=fun σ H Q=>t σ H fun x H1=>∃ c,x=.bl c/\Q c H1
theorem aAq {op:CmpOp}{t:TE}(h:PC X op a b t)(h1:behindInMarks op b=false:=by first | exact KN _ (by decide) (by decide) | rfl):PT X (.Compare a [op] [b] pos) (tB t):=by
 intro pins s σ H Q I hw;refine wpAny_isTrue_Compare1 (dH (h pins s σ H _ I hw) fun v s1 h1=>dH h1 fun u s2 h2=>dH h2 fun c s3 ⟨x,H1,I1,r1,q1⟩=>?_) h1;obtain ⟨d,rfl,q⟩:=q1;cases r1;exact wpAny_truthy_bool ⟨H1,I1,q⟩
theorem bD {e:Expr}{t:TE}(h:PE X e t)(he:∀ whole,isTrue e X.env whole=(do let v <- whole; standAt e.pos; holding [v] (truthy v)):=by intro _; rfl):PT X e (tB t):=by
 intro pins s σ H Q I hw;refine isTrue_plain (dH (h pins s σ H _ I hw) fun v s1 ⟨x,H1,I1,r1,q1⟩=>?_) (he _);obtain ⟨d,rfl,q⟩:=q1;cases r1;exact wpAny_truthy_bool ⟨H1,I1,q⟩
variable {tA tB':TT}{rest:List Expr}
def aCy (t u:TT):TT:=fun σ H Q=>t σ H fun c H1=>if c=true then u σ H1 Q else Q false H1
def tOr (t u:TT):TT:=fun σ H Q=>t σ H fun c H1=>if c=true then Q true H1 else u σ H1 Q
def aCO (t:TT):TT:=fun σ H Q=>t σ H fun c H1=>Q (!c) H1
theorem pL (ha:PT X a tA):PW X (.BoolOp .And [a] pos) tA:=by
 intro wh pins s σ H Q I h;refine isTrue_and (dH (ha pins s σ H Q I h) fun c s1 e=>?_);cases c with
 | true=>exact isTrue_and_nil e
 | false=>exact e
theorem fW (ha:PT X a tA):PW X (.BoolOp .Or [a] pos) tA:=by
 intro wh pins s σ H Q I h;refine isTrue_or (dH (ha pins s σ H Q I h) fun c s1 e=>?_);cases c with
 | false=>exact isTrue_or_nil e
 | true=>exact e
theorem rW (ha:PT X a tA)(hb:PW X (.BoolOp .And (b::rest) pos) tB'):PW X (.BoolOp .And (a::b::rest) pos) (aCy tA tB'):=by
 intro wh pins s σ H Q I h;refine isTrue_and (dH (ha pins s σ H _ I h) fun c s1 ⟨H1,I1,q1⟩=>?_);cases c with
 | true=>exact hb wh pins s1 σ H1 Q I1 q1
 | false=>exact ⟨H1,I1,q1⟩
theorem iB (ha:PT X a tA)(hb:PW X (.BoolOp .Or (b::rest) pos) tB'):PW X (.BoolOp .Or (a::b::rest) pos) (tOr tA tB'):=by
 intro wh pins s σ H Q I h;refine isTrue_or (dH (ha pins s σ H _ I h) fun c s1 ⟨H1,I1,q1⟩=>?_);cases c with
 | true=>exact ⟨H1,I1,q1⟩
 | false=>exact hb wh pins s1 σ H1 Q I1 q1
theorem cG (ha:PT X a tA):PT X (.UnaryOp .Not a pos) (aCO tA):=by
 intro pins s σ H Q I h;exact isTrue_not (ha pins s σ H (fun c H1=>Q (!c) H1) I h)
def V0 (ta tb:TE):TE:=fun σ H Q=>ta σ H fun x H1=>∃ c,x=.bl c/\if c=true then tb σ H1 Q else Q (.bl false) H1
def aAO (ta tb:TE):TE:=fun σ H Q=>ta σ H fun x H1=>∃ c,x=.bl c/\if c=true then Q (.bl true) H1 else tb σ H1 Q
def U8 (ta:TE):TE:=fun σ H Q=>ta σ H fun x H1=>∃ c,x=.bl c/\Q (.bl (!c)) H1
theorem mR {op}{t:TE}(h:PE X a t):PE X (.BoolOp op [a] pos) t:=fun pins s σ H Q I hw=>BoolOp_one (h pins s σ H Q I hw)
theorem oY (ha:PE X a ta)(hb:PE X (.BoolOp .And (b::rest) pos) tb):PE X (.BoolOp .And (a::b::rest) pos) (V0 ta tb):=by
 intro pins s σ H Q I h;refine BoolOp_and (dH (ha pins s σ H _ I h) fun v s1 ⟨x,H1,I1,r1,q1⟩=>?_);obtain ⟨c,rfl,q1⟩:=q1;cases r1;refine wpAny_truthy_bool ?_;cases c with
 | true=>exact hb pins s1 σ H1 Q I1 q1
 | false=>exact ⟨.bl false,H1,I1,rfl,q1⟩
theorem Kf (ha:PE X a ta)(hb:PE X (.BoolOp .Or (b::rest) pos) tb):PE X (.BoolOp .Or (a::b::rest) pos) (aAO ta tb):=by
 intro pins s σ H Q I h;refine BoolOp_or (dH (ha pins s σ H _ I h) fun v s1 ⟨x,H1,I1,r1,q1⟩=>?_);obtain ⟨c,rfl,q1⟩:=q1;cases r1;refine wpAny_truthy_bool ?_;cases c with
 | false=>exact hb pins s1 σ H1 Q I1 q1
 | true=>exact ⟨.bl true,H1,I1,rfl,q1⟩
theorem Fp (ha:PE X a ta):PE X (.UnaryOp .Not a pos) (U8 ta):=by
 intro pins s σ H Q I h;refine UnaryOp_ (dH (ha pins s σ H _ I h) fun v s1 ⟨x,H1,I1,r1,q1⟩=>?_);obtain ⟨c,rfl,q1⟩:=q1;cases r1;exact not_of (wpAny_truthy_bool ⟨.bl (!c),H1,I1,rfl,q1⟩)
def tIf (t:TT)(ta tb:TE):TE:=fun σ H Q=>t σ H fun c H1=>if c=true then ta σ H1 Q else tb σ H1 Q
theorem pJ {c:Expr}(hc:PT X c tA)(ha:PE X a ta)(hb:PE X b tb):PE X (.IfExp c a b pos) (tIf tA ta tb):=by
 intro pins s σ H Q I h;refine wpAny_IfExp (dH (hc pins s σ H _ I h) fun d s1 ⟨H1,I1,q1⟩=>?_);cases d with
 | true=>exact ha pins s1 σ H1 Q I1 q1
 | false=>exact hb pins s1 σ H1 Q I1 q1
end
def bG (K:PySem.W.Frag)(H:Hp)(a:Addr)(xs:List V):Prop :=
 Rd H a (.lst xs) ∨
  ∃ (o:Obj) (its:Array Value) (n:Nat),K.lookup a=some o/\o.cls=.type "list"/\o.dict=none/\o.data=.seq its n/\its.size<=sizeLine/\bK xs its.toList
def cV (K:PySem.W.Frag)(H:Hp)(a:Addr)(xs:List V):Prop :=
 Rd H a (.tup xs) ∨
  ∃ (o:Obj) (its:Array Value) (n:Nat),K.lookup a=some o/\o.cls=.type "tuple"/\o.data=.seq its n/\its.size<=sizeLine/\bK xs its.toList
def aCQ:Value->Option V
 | .none=>some .non
 | .bool b=>some (.bl b)
 | .int i _=>some (.int i)
 | .str x _=>some (.str x)
 | .bytes b _=>some (.byt b)
 | .float b _=>some (.flt b)
 | .ref a=>some (.ref a)
 | .type n=>some (.ty n)
 | _=>none
theorem RelV.abs {x:V}{u:Value}(r:RelV x u):aCQ u=some x:=by
 cases x with
 | non=>cases r; rfl
 | bl _=>cases r; rfl
 | int _=>obtain ⟨t,rfl⟩:=r; rfl
 | str _=>obtain ⟨t,rfl⟩:=r; rfl
 | byt _=>obtain ⟨t,rfl⟩:=r; rfl
 | flt _=>obtain ⟨t,rfl⟩:=r; rfl
 | ref _=>cases r; rfl
 | ty _=>cases r; rfl
theorem RelV.inj {x y:V}{u:Value}(r:RelV x u)(q:RelV y u):x=y:=aJU.inj (r.abs.symm.trans q.abs)
theorem bK.inj:∀ {xs ys:List V}{us:List Value},bK xs us->bK ys us->xs=ys
 | _,_,_,.nil,.nil=>rfl
 | _,_,_,.cons r t,.cons r' t'=>by rw [r.inj r',bK.inj t t']
section
variable {X:Cx}{pins:List (Addr×Obj)}{σ:St}{H:Hp}{s:Shared}{a:Addr}{xs ys:List V}
theorem bG.of {K:PySem.W.Frag}(h:H a=some (.lst xs)):bG K H a xs:=.inl (.inl h)
theorem cV.of {K:PySem.W.Frag}(h:H a=some (.tup xs)):cV K H a xs:=.inl (.inl h)
theorem aZ.list (I:aZ X pins σ H s)(h:bG X.K H a xs):∃ its:List Value,bK xs its/\PlainL s.heap a its.toArray/\xs.length<=sizeLine:=by
 rcases h with h | ⟨o,its,n,hk,hc,hd,hs,hz,r⟩
 ·obtain ⟨z,its,n,r,e⟩:=h.ok I.hok;exact ⟨its,r,⟨_,n,e,rfl,rfl,rfl⟩,z⟩
 ·refine ⟨its.toList,r,⟨o,n,I.kIn a o hk,hc,hd,by simpa using hs⟩,?_⟩;have e:=r.length;simp only [aJI] at e;omega
theorem aZ.tuple (I:aZ X pins σ H s)(h:cV X.K H a xs):∃ its:List Value,bK xs its/\IsTup s.heap a its.toArray/\xs.length<=sizeLine:=by
 rcases h with h | ⟨o,its,n,hk,hc,hs,hz,r⟩
 ·obtain ⟨z,its,r,p⟩:=h.ok I.hok;exact ⟨its,r,p,z⟩
 ·refine ⟨its.toList,r,⟨o,I.kIn a o hk,hc,n,by simpa using hs⟩,?_⟩;have e:=r.length;simp only [aJI] at e;omega
theorem aZ.list_inj (I:aZ X pins σ H s)(h:bG X.K H a xs)(h':bG X.K H a ys):xs=ys:=by
 obtain ⟨its,r,⟨o,n,e,_,_,d⟩,_⟩:=I.list h;obtain ⟨its',r',⟨o',n',e',_,_,d'⟩,_⟩:=I.list h';rw [e] at e'; cases e';rw [d] at d';injection d' with d1 _
 have:its=its':=by simpa using congrArg Array.toList d1
 subst this;exact r.inj r'
theorem aZ.tuple_inj (I:aZ X pins σ H s)(h:cV X.K H a xs)(h':cV X.K H a ys):xs=ys:=by
 obtain ⟨its,r,⟨o,e,_,n,d⟩,_⟩:=I.tuple h;obtain ⟨its',r',⟨o',e',_,n',d'⟩,_⟩:=I.tuple h';rw [e] at e'; cases e';rw [d] at d';injection d' with d1 _
 have:its=its':=by simpa using congrArg Array.toList d1
 subst this;exact r.inj r'
end
abbrev Cx.wish (X:Cx)(E:Value->Shared->Prop):Cx:={ X with xe:=E }
abbrev Cx.nox (X:Cx):Cx:=X.wish fun _ _=>False
theorem Cx.Ok.wish {X:Cx}(ok:X.Ok)(E:Value->Shared->Prop):(X.wish E).Ok :=
 ⟨ok.mod,ok.kind,ok.glob,ok.blt,ok.above,ok.inj,ok.has,ok.cab,ok.hd,ok.frames,ok.stk,ok.exf,ok.bs,ok.bsz,ok.noex,ok.exfs,ok.funs,ok.frf⟩
theorem Cx.Ok.unwish {X:Cx}{E:Value->Shared->Prop}(ok:(X.wish E).Ok):X.Ok :=
 ⟨ok.mod,ok.kind,ok.glob,ok.blt,ok.above,ok.inj,ok.has,ok.cab,ok.hd,ok.frames,ok.stk,ok.exf,ok.bs,ok.bsz,ok.noex,ok.exfs,ok.funs,ok.frf⟩
section
variable {X:Cx}{pins:List (Addr×Obj)}{σ:St}{H:Hp}{s:Shared}{E:Value->Shared->Prop}
theorem aZ.wish (I:aZ X pins σ H s)(E:Value->Shared->Prop):aZ (X.wish E) pins σ H s:=⟨I.ok.wish E,I.os,I.bare,I.base,I.loc,I.cell,I.free,I.freeC,I.pin,I.hok,I.len⟩
theorem aZ.unwish (I:aZ (X.wish E) pins σ H s):aZ X pins σ H s:=⟨I.ok.unwish,I.os,I.bare,I.base,I.loc,I.cell,I.free,I.freeC,I.pin,I.hok,I.len⟩
theorem SP.unwish {D:Ends}{f:Flow}{s':Shared}(h:SP (X.wish E) pins D f s'):SP X pins D f s':=by
 cases f with
 | next=>obtain ⟨σ',H',I,q⟩:=h; exact ⟨σ',H',I.unwish,q⟩
 | brk=>obtain ⟨σ',H',I,q⟩:=h; exact ⟨σ',H',I.unwish,q⟩
 | cont=>obtain ⟨σ',H',I,q⟩:=h; exact ⟨σ',H',I.unwish,q⟩
 | ret u=>obtain ⟨v,σ',H',I,r,q⟩:=h; exact ⟨v,σ',H',I.unwish,r,q⟩
theorem PT.nox {e:Expr}{t:TT}(h:PT X.nox e t):PT X e t:=fun pins s σ H Q I hw =>
 wpAny_mono (h pins s σ H Q (I.wish _) hw) (fun _ _ ⟨H',I',q⟩=>⟨H',I'.unwish,q⟩) fun _ _ z=>False.elim z
theorem yW.nox {st:List Stmt}{t:TS}(h:yW X.nox st t):yW X st t:=fun pins s σ H D I hw =>
 wpAny_mono (h pins s σ H D (I.wish _) hw) (fun _ _ q=>q.unwish) fun _ _ z=>False.elim z
end
section
variable {X:Cx}{st:Stmt}{rest:List Stmt}{t u:TS}{e:Expr}{te:TE}{pos:Pos}
def Xh:TS:=fun D σ H=>D.nx σ H
def aDW (t u:TS):TS:=fun D σ H=>t { D with nx:=u D } σ H
theorem bA:yW X [] Xh:=fun _ _ σ H _ I h=>wpAny_execs_nil ⟨σ,H,I,h⟩
theorem aD (h1:PS X st t)(h2:yW X rest u):yW X (st::rest) (aDW t u):=by
 intro pins s σ H D I h;refine wpAny_execs_cons (dH (h1 pins s σ H { D with nx:=u D } I h) fun f s1 q=>?_);cases f with
 | next =>
  obtain ⟨σ',H',I',q⟩:=q;exact h2 pins s1 σ' H' D I' q
 | ret v=>exact q
 | brk=>exact q
 | cont=>exact q
theorem aF (h1:PS X st t):yW X [st] t:=by
 intro pins s σ H D I h;refine wpAny_execs_cons (dH (h1 pins s σ H D I h) fun f s1 q=>?_);cases f with
 | next=>exact wpAny_execs_nil q
 | ret v=>exact q
 | brk=>exact q
 | cont=>exact q
def Qy:TS:=fun D σ H=>D.bk σ H
theorem Ks:PS X (.Break pos) Qy:=fun _ _ σ H _ I h=>wpAny_Break ⟨σ,H,I,h⟩
theorem aZ.quiet {pins:List (Addr×Obj)}{σ:St}{H:Hp}{s:Shared}(I:aZ X pins σ H s):interactive X.env=false:=by simp [interactive,I.ok.kind]
def Yb (te:TE):TS:=fun D σ H=>te σ H fun _ H1=>D.nx σ H1
theorem fU (he:PE X e te)(hs:swapsWith e none pos.line X.env=pure false:=by rfl):PS X (.Expr e pos) (Yb te):=by
 intro pins s σ H D I h;exact wpAny_Expr_any (dH (he pins s σ H _ I h) fun v s1 ⟨x,H1,I1,r1,q1⟩=>⟨σ,H1,I1,q1⟩) I.quiet hs
def Vw (te:TE):TS:=fun D σ H=>te σ H D.rt
theorem aO (he:PE X e te):PS X (.Return (some e) pos) (Vw te):=by
 intro pins s σ H D I h;exact wpAny_Return_some (dH (he pins s σ H _ I h) fun v s1 ⟨x,H1,I1,r1,q1⟩=>⟨x,σ,H1,I1,r1,q1⟩)
def aBw (c:TT)(t u:TS):TS:=fun D σ H=>c σ H fun b H1=>if b=true then t D σ H1 else u D σ H1
theorem bZ {c:Expr}{a b:List Stmt}{tc:TT}(hc:PT X c tc)(ha:yW X a t)(hb:yW X b u):PS X (.If c a b pos) (aBw tc t u):=by
 intro pins s σ H D I h;refine wpAny_If (dH (hc pins s σ H _ I h) fun d s1 ⟨H1,I1,q1⟩=>?_);cases d with
 | true=>exact ha pins s1 σ H1 D I1 q1
 | false=>exact hb pins s1 σ H1 D I1 q1
def Q4:TS:=fun _ _ _=>False
theorem jW:PS X st Q4:=fun _ _ _ _ _ _ h=>h.elim
end
abbrev TG:=V->St->Hp->(St->Hp->Prop)->Prop
abbrev Pa:=List V->St->Hp->(St->Hp->Prop)->Prop
def PG (X:Cx)(target:Expr)(t:TG):Prop :=
 ∀ (pins:List (Addr×Obj)) (s:Shared) (σ:St) (H:Hp) (v:V) (u:Value) (Q:St->Hp->Prop),aZ X pins σ H s->RelV v u->t v σ H Q ->
  wpAny (model X.prog X.w) X.A (assign target X.env u) (fun _ s'=>∃ σ' H',aZ X pins σ' H' s'/\Q σ' H') X.xe s
def UL (X:Cx)(ts:List Expr)(t:Pa):Prop :=
 ∀ (pins:List (Addr×Obj)) (s:Shared) (σ:St) (H:Hp) (vs:List V) (us:List Value) (Q:St->Hp->Prop),aZ X pins σ H s->bK vs us->t vs σ H Q ->
  wpAny (model X.prog X.w) X.A (assignInOrder ((assignEach ts X.env).map (·.2)) us) (fun _ s'=>∃ σ' H',aZ X pins σ' H' s'/\Q σ' H') X.xe s
abbrev RG:=V->V->V->Hp->(Hp->Prop)->Prop
def Y8 (X:Cx)(t:RG):Prop :=
 ∀ (pins:List (Addr×Obj)) (s:Shared) (σ:St) (H:Hp) (o i v:V) (ov iv u:Value) (Q:Hp->Prop),aZ X pins σ H s->RelV o ov->RelV i iv->RelV v u->t o i v H Q ->
  wpAny (model X.prog X.w) X.A (setItem ov iv u) (fun _ s'=>∃ H',aZ X pins σ H' s'/\Q H') X.xe s
section
variable {X:Cx}{pos:Pos}
def qT (i:Nat):TG:=fun v σ H Q=>Q (σ.set i (some v)) H
theorem aQ {i:Nat}{x:Str}(hN:X.N.Nodup)(hi:X.N[i]? = some x)(hx:Loc X.env.scope x)(hf:X.fn x=true∨X.env.scope.names.lookup x=some .local:=by first | exact .inl rfl | exact .inr rfl | assumption):PG X (.Name x pos) (qT i):=by
 intro pins s σ H v u Q I r h;exact wpAny_assign_Name (Ds I hN hi hx r (fun s' I'=>⟨_,H,I',h⟩) hf)
def aCd:Pa:=fun vs σ H Q=>vs=[]/\Q σ H
def VH (t:TG)(u:Pa):Pa:=fun vs σ H Q=>∃ v r,vs=v::r/\t v σ H fun σ' H'=>u r σ' H' Q
theorem fK:UL X [] aCd:=by
 intro pins s σ H vs us Q I r h;obtain ⟨e,h⟩:=h;subst e;cases r;exact assignInOrder_nil ⟨σ,H,I,h⟩
theorem bL {e:Expr}{es:List Expr}{t:TG}{u:Pa}(h1:PG X e t)(h2:UL X es u)
  (hs:(assignEach (e::es) X.env).map (·.2)=assign e X.env::(assignEach es X.env).map (·.2):=by rfl):UL X (e::es) (VH t u):=by
 intro pins s σ H vs us Q I r h;obtain ⟨v,vr,e1,h⟩:=h;subst e1;cases r with
 | cons r rr =>
  rw [hs];refine assignInOrder_cons (dH (h1 pins s σ H _ _ _ I r h) fun _ s1 ⟨σ1,H1,I1,q1⟩=>?_);exact h2 pins s1 σ1 H1 _ _ Q I1 rr q1
def Tn (K:PySem.W.Frag)(n:Nat)(t:Pa):TG:=fun v σ H Q=>∃ a xs,v=.ref a/\cV K H a xs/\xs.length=n/\t xs σ H Q
theorem wI {es:List Expr}{k:Nat}{t:Pa}{n:Nat}(hc:X.calm=true)(h:UL X es t)
  (hn:(assignEach es X.env).length=n:=by rfl) (hst:(assignEach es X.env).findIdx? (·.1)=none:=by rfl):PG X (.Tuple es k pos) (Tn X.K n t):=by
 intro pins s σ H v u Q I r hw;obtain ⟨a,xs,e1,hq,hl,hw⟩:=hw;subst e1;cases r;obtain ⟨its,rv,ht,hz⟩:=I.tuple hq;refine assign_Tuple_tuple (I.ok.hd hc) ht (by simp [hn,<- hl,rv.length]) hst fun h' hx=>?_;have I1:aZ X pins σ H { s with heap:=h' }:=I.kept (t':=s.toks) fun b o e=>hx b o (aJB (aJm e)) e;exact h pins _ σ H xs _ Q I1 (by simpa using rv) hw
def aCG (to ti:TE)(t:RG):TG:=fun v σ H Q=>to σ H fun o H1=>ti σ H1 fun i H2=>t o i v H2 fun H3=>Q σ H3
theorem Ac {o i:Expr}{to ti:TE}{t:RG}(ho:PE X o to)(hi:PE X i ti)(hs:Y8 X t)
  (ha:∀ v,assign (.Subscript o i pos) X.env v=(do
   let ov <- holding [v] (eval o X.env)
   let iv <- holding [v,ov] (eval i X.env)
   standAt pos
   holding [v,ov,iv] (setItem ov iv v)
   release [v,ov,iv] []):=by intro _; rfl):PG X (.Subscript o i pos) (aCG to ti t):=by
 intro pins s σ H v u Q I r h;rw [ha];refine wpAny_bind (wpAny_holding (dH (ho pins s σ H _ I h) fun ov s1 ⟨x,H1,I1,r1,q1⟩=>?_));refine wpAny_bind (wpAny_holding (dH (hi pins s1 σ H1 _ I1 q1) fun iv s2 ⟨y,H2,I2,r2,q2⟩=>?_));refine wpAny_bind (wpAny_standAt (wpAny_bind (wpAny_holding (dH (hs pins s2 σ H2 x y v ov iv u _ I2 r1 r2 r q2) fun _ s3 ⟨H3,I3,q3⟩=>?_))));exact wpAny_release ⟨σ,H3,I3,q3⟩
def RB (te:TE)(g:TG):TS:=fun D σ H=>te σ H fun x H1=>g x σ H1 D.nx
theorem Ab {tg e:Expr}{te:TE}{g:TG}(he:PE X e te)(hg:PG X tg g)(hs:swapsWithSole [tg] e pos.line X.env=pure false:=by rfl)(hw:swappedStores [tg] e X.env=pure none:=by rfl)
  (h1:(assignEach [tg] X.env).map (·.2)=[assign tg X.env]:=by rfl):PS X (.Assign [tg] e pos) (RB te g):=by
 intro pins s σ H D I h;refine wpAny_Assign_stores (dH (he pins s σ H _ I h) fun v s1 ⟨x,H1,I1,r1,q1⟩=>?_) hs hw;rw [h1];exact dH (hg pins s1 σ H1 x v _ I1 r1 q1) fun _ s2 q=>q
theorem aY {i:Nat}{x:Str}{e:Expr}{te:TE}{pos':Pos}(hN:X.N.Nodup)(hi:X.N[i]? = some x)(hx:Loc X.env.scope x)(he:PE X e te)(hs:swapsWith e (some (.Name x pos')) pos.line X.env=pure false:=by rfl)(hf:X.fn x=true∨X.env.scope.names.lookup x=some .local:=by first | exact .inl rfl | exact .inr rfl | assumption) :
  PS X (.Assign [.Name x pos'] e pos) (RB te (qT i)):=by
 intro pins s σ H D I h;refine wpAny_Assign_Name (dH (he pins s σ H _ I h) fun v s1 ⟨y,H1,I1,r1,q1⟩=>?_) hs;exact Ds I1 hN hi hx r1 (fun s2 I2=>⟨_,H1,I2,q1⟩) hf
def Jy (c:TT)(tb:TS):TS:=fun D σ H=>∃ W:Nat->St->Hp->Prop,(∃ m,W m σ H)/\∀ m σ H,W m σ H ->
 c σ H fun b H1=>if b=true then ∃ N:St->Hp->Prop,(∀ σ' H',N σ' H'->∃ m',m'<m/\W m' σ' H')/\tb { D with nx:=N,ct:=N,bk:=D.nx } σ H1 else D.nx σ H1
theorem JF {c:Expr}{body:List Stmt}{tc:TT}{tb:TS}(hp:PassesOwn (model X.prog X.w) X.A X.env X.xe)(hc:PT X c tc)(hb:yW X body tb):PS X (.While c body [] pos) (Jy tc tb):=by
 intro pins s σ H D I h;obtain ⟨W,⟨m0,w0⟩,turn⟩:=h;refine wpAny_While (codeAny_whileLoop (fun n s'=>∃ σ' H',aZ X pins σ' H' s'/\W n σ' H') ?_ m0 ⟨σ,H,I,w0⟩);rintro n s1 ⟨σ1,H1,I1,w1⟩;refine wpAny_passesOwn hp (dH (hc pins s1 σ1 H1 _ I1 (turn n σ1 H1 w1)) fun b s2 ⟨H2,I2,q2⟩=>?_);cases b with
 | true =>
  obtain ⟨N,hN,q2⟩:=q2;rw [if_pos rfl];refine wpAny_passesOwn hp (dH (hb pins s2 σ1 H2 _ I2 q2) fun f s3 q3=>?_);cases f with
  | next =>
   obtain ⟨σ3,H3,I3,n3⟩:=q3;obtain ⟨m',hm,w3⟩:=hN σ3 H3 n3;exact ⟨m',hm,σ3,H3,I3,w3⟩
  | cont =>
   obtain ⟨σ3,H3,I3,n3⟩:=q3;obtain ⟨m',hm,w3⟩:=hN σ3 H3 n3;exact ⟨m',hm,σ3,H3,I3,w3⟩
  | brk=>exact q3
  | ret v=>exact q3
 | false =>
  rw [if_neg aJp];exact wpAny_execs_nil ⟨σ1,H2,I2,q2⟩
end
structure It where
 go:Nat->Hp->Prop
 yld:Nat->Hp->V->Hp->Prop
 stop:Nat->Hp->Prop
def jE (X:Cx)(pins:List (Addr×Obj))(H:Hp)(b:Addr):Prop :=
 H b=none/\b≠X.env.locals/\b∉X.fs/\(b∈X.ex∨X.s₀.heap.objs.size<=b)/\(∀ x c,X.env.cells.lookup x=some c->c≠b)/\∀ p∈X.pn++pins,p.1≠b
theorem aZ.fpOk {X:Cx}{pins:List (Addr×Obj)}{σ:St}{H H':Hp}{s:Shared}{b:Addr}(I:aZ X pins σ H s)(hb:s.heap.objs.size<=b)(hn:H' b=none):jE X pins H' b:=by
 refine ⟨hn,aKW (aJC I.lt hb),I.nofs hb,.inr (aJc I.sz hb),fun x c e z=>?_,fun p hp z=>?_⟩
 ·obtain ⟨v,q⟩:=I.cell x c e;exact absurd (aJC q.lt (by rw [z]; exact hb)) (aKg _)
 ·exact absurd (aJC (aJm (I.pin p hp).1) (by rw [z]; exact hb)) (aKg _)
structure Turn (P:Program)(w:World)(K:PySem.W.Frag)(tg:Expr)(J:It)(fp:List Addr)(it:Addr)(tn:Nat->Heap->Prop):Prop where
 mem:it∈fp
 obj:∀ i h,tn i h->∀ b∈fp,∃ o,h.get? b=some o/\∀ v,o.data≠.cell v
 keep:∀ i h h',tn i h->(∀ b∈fp,∀ o,h.get? b=some o->h'.get? b=some o)->tn i h'
 item:∀ (X:Cx),X.prog=P->X.w=w->X.K=K->X.calm=true->∀ (i:Nat) (pins:List (Addr×Obj)) (s:Shared) (σ:St) (H:Hp) (E:Value->Shared->Prop),aZ X pins σ H s->(∀ b∈fp,jE X pins H b)->tn i s.heap->J.go i H ->
  wpAny (model P w) X.A (pyNext (.ref it)) (fun r s1=>∃ u,r=some u ∧
   wpAny (model P w) X.A (letOwnedTupleGo tg (.ref it) u) (fun _ s2=>∃ x H',aZ X pins σ H' s2/\RelV x u/\J.yld i H x H'/\tn (i+1) s2.heap/\∀ b∈fp,H' b=none) E s1) E s
 done:∀ (X:Cx),X.prog=P->X.w=w->X.K=K->X.calm=true->∀ (i:Nat) (pins:List (Addr×Obj)) (s:Shared) (σ:St) (H:Hp) (E:Value->Shared->Prop),aZ X pins σ H s->(∀ b∈fp,jE X pins H b)->tn i s.heap->J.stop i H ->
  wpAny (model P w) X.A (pyNext (.ref it)) (fun r s1=>r=none/\aZ X pins σ H s1) E s
 self:∀ (A:Around) (i:Nat) (s:Shared) (Q:Value->Shared->Prop) (E:Value->Shared->Prop),tn i s.heap->Q (.ref it) s->wpAny (model P w) A (pyIter (.ref it)) Q E s
abbrev TI:=St->Hp->(It->Hp->Prop)->Prop
def PIE (X:Cx)(pins:List (Addr×Obj))(σ:St)(tg:Expr)(R:It->Hp->Prop)(itv:Value)(s2:Shared):Prop :=
 ∃ (it:Addr) (fp:List Addr) (tn:Nat->Heap->Prop) (J:It) (H':Hp),itv=.ref it/\aZ X pins σ H' s2/\Turn X.prog X.w X.K tg J fp it tn/\tn 0 s2.heap/\(∀ b∈fp,jE X pins H' b)/\R J H'
def PI (X:Cx)(tg iter:Expr)(wi:TI):Prop :=
 ∀ (pins:List (Addr×Obj)) (s:Shared) (σ:St) (H:Hp) (R:It->Hp->Prop),aZ X pins σ H s->wi σ H R ->
  wpAny (model X.prog X.w) X.A (eval iter X.env) (fun v s1=>wpAny (model X.prog X.w) X.A (pyIter v) (PIE X pins σ tg R) X.xe s1) X.xe s
theorem BK {M:Model}{A:Around}{E:Value->Shared->Prop}{s:Shared}{tg:Expr}{it:Addr}{u:Value}{o:Obj}{n:String}{vs:Array Value}{Q:Unit->Shared->Prop}(ho:s.heap.get? it=some o)(hc:o.cls=.type n)(hd:o.data=.fields vs)
  (hn:["enumerate","zip","dict_itemiterator","dict_reverseitemiterator","odict_iterator","itertools.zip_longest","itertools.pairwise"].contains n=false) (hQ:Q () s):wpAny M A (letOwnedTupleGo tg (.ref it) u) Q E s:=by
 unfold letOwnedTupleGo;cases tg <;> first
  | exact wpAny_pure hQ
  | (cases u <;> first
    | exact wpAny_pure hQ
    | (refine wpAny_bind (wpAny_load ho ?_); rw [hc,hd]; show wpAny M A (if (["enumerate","zip","dict_itemiterator","dict_reverseitemiterator","odict_iterator","itertools.zip_longest","itertools.pairwise"].contains n&&vs[0]?==some (rawInt _))=true then _ else _) Q E s; rw [if_neg (by intro h; rw [hn,Bool.false_and] at h; cases h)]; exact wpAny_pure hQ))
def Rm (K:PySem.W.Frag)(a:Addr):It :=
 ⟨fun i H=>∃ xs x,bG K H a xs/\xs[i]? = some x,fun i H x H'=>H'=H/\∀ xs,bG K H a xs->xs[i]? = some x,fun i H=>∃ xs,bG K H a xs/\xs.length<=i⟩
def Rn (K:PySem.W.Frag)(a:Addr):It :=
 ⟨fun i H=>∃ xs x,cV K H a xs/\xs[i]? = some x,fun i H x H'=>H'=H/\∀ xs,cV K H a xs->xs[i]? = some x,fun i H=>∃ xs,cV K H a xs/\xs.length<=i⟩
def QX (lo:Int)(n:Nat):It:=⟨fun i _=>i<n,fun i H x H'=>H'=H/\x=.int (lo+i),fun i _=>n<=i⟩
theorem Hn {P:Program}{w:World}{K:PySem.W.Frag}{tg:Expr}(a it:Addr):Turn P w K tg (Rm K a) [it] it (fun i h=>h.IsListIter it a i) where
 mem:=by simp
 obj:=fun i h st b hb=>by
  have e:b=it:=by simpa using hb
  subst e;obtain ⟨o,e,c,d⟩:=st;exact ⟨o,e,fun v z=>by rw [d] at z; cases z⟩
 keep:=fun i h h' st k=>st.at fun o e=>k it (by simp) o e
 item:=by
  intro X hP hw hK hc i pins s σ H E I hf st hg;subst hP hw hK;obtain ⟨xs,x,hq,hx⟩:=hg;obtain ⟨its,rv,p,hz⟩:=I.list hq;obtain ⟨u,hu,ru⟩:=rv.get hx;obtain ⟨f0,f1,f2,f3,f4,f5⟩:=hf it (by simp);refine wpAny_pyNext_list_item st p.isList (x:=u) (by simpa using hu) fun h' st' sb=>?_;have I1:aZ X pins σ H { s with heap:=h' }:=I.turned (t':=s.toks) (fun b o hb e=>(sb.2 b hb).trans e) f0 f1 f3 f4 f5;obtain ⟨o,e,c,d⟩:=id st';exact ⟨u,rfl,BK (s:={ s with heap:=h' }) e c d (by decide) ⟨x,H,I1,ru,⟨rfl,fun ys hy=>by rw [I.list_inj hy hq]; exact hx⟩,st',fun b hb=>(hf b hb).1⟩⟩
 done:=by
  intro X hP hw hK hc i pins s σ H E I hf st hg;subst hP hw hK;obtain ⟨xs,hq,hx⟩:=hg;obtain ⟨its,rv,p,hz⟩:=I.list hq;obtain ⟨f0,f1,f2,f3,f4,f5⟩:=hf it (by simp);have hl:=rv.length;exact wpAny_pyNext_list_end (I.ok.hd hc) st p.isList (by simp; omega) fun h' eb=>⟨rfl,I.turned (t':=s.toks) (fun b o hb e=>eb b o hb e) f0 f1 f3 f4 f5⟩
 self:=fun _ _ _ _ _ st h=>wpAny_pyIter_listiter st h
theorem Dy {P:Program}{w:World}{K:PySem.W.Frag}{tg:Expr}(a it:Addr):Turn P w K tg (Rn K a) [it] it (fun i h=>h.IsTupleIter it a i) where
 mem:=by simp
 obj:=fun i h st b hb=>by
  have e:b=it:=by simpa using hb
  subst e;obtain ⟨o,e,c,d⟩:=st;exact ⟨o,e,fun v z=>by rw [d] at z; cases z⟩
 keep:=fun i h h' st k=>st.at fun o e=>k it (by simp) o e
 item:=by
  intro X hP hw hK hc i pins s σ H E I hf st hg;subst hP hw hK;obtain ⟨xs,x,hq,hx⟩:=hg;obtain ⟨its,rv,p,hz⟩:=I.tuple hq;obtain ⟨u,hu,ru⟩:=rv.get hx;obtain ⟨f0,f1,f2,f3,f4,f5⟩:=hf it (by simp);refine wpAny_pyNext_tuple_item st (show s.heap.IsTuple a its.toArray from p) (x:=u) (by simpa using hu) fun h' st' sb=>?_;have I1:aZ X pins σ H { s with heap:=h' }:=I.turned (t':=s.toks) (fun b o hb e=>(sb.2 b hb).trans e) f0 f1 f3 f4 f5;obtain ⟨o,e,c,d⟩:=id st';exact ⟨u,rfl,BK (s:={ s with heap:=h' }) e c d (by decide) ⟨x,H,I1,ru,⟨rfl,fun ys hy=>by rw [I.tuple_inj hy hq]; exact hx⟩,st',fun b hb=>(hf b hb).1⟩⟩
 done:=by
  intro X hP hw hK hc i pins s σ H E I hf st hg;subst hP hw hK;obtain ⟨xs,hq,hx⟩:=hg;obtain ⟨its,rv,p,hz⟩:=I.tuple hq;obtain ⟨f0,f1,f2,f3,f4,f5⟩:=hf it (by simp);have hl:=rv.length;exact wpAny_pyNext_tuple_end (I.ok.hd hc) st (show s.heap.IsTuple a its.toArray from p) (by simp; omega) fun h' eb=>⟨rfl,I.turned (t':=s.toks) (fun b o hb e=>eb b o hb e) f0 f1 f3 f4 f5⟩
 self:=fun _ _ _ _ _ st h=>wpAny_pyIter_tupleiter st h
theorem FT {P:Program}{w:World}{K:PySem.W.Frag}{tg:Expr}(it:Addr)(lo:Int)(n:Nat):Turn P w K tg (QX lo n) [it] it (fun i h=>IsRangeIter h it (lo+(i:Nat)*1) ((n:Int)-(i:Nat)) 1) where
 mem:=by simp
 obj:=fun i h st b hb=>by
  have e:b=it:=by simpa using hb
  subst e;exact ⟨_,st,fun v z=>by
   have z':Data.fields _=Data.cell v:=z;cases z'⟩
 keep:=fun i h h' st k=>k it (by simp) _ st
 item:=by
  intro X hP hw hK hc i pins s σ H E I hf st hg;subst hP hw hK;obtain ⟨f0,f1,f2,f3,f4,f5⟩:=hf it (by simp);have W:=Walks.range (prog:=X.prog) (w:=X.w) (I.ok.hd hc) it lo 1 n;refine W.item i s _ _ hg st fun v h' tk hv st' kk=>?_;obtain ⟨t,rfl⟩:=hv;have I1:aZ X pins σ H { s with heap:=h',toks:=tk }:=I.turned (fun b o hb e=>kk b o (by simpa using hb) e) f0 f1 f3 f4 f5;refine ⟨_,rfl,BK (s:={ s with heap:=h',toks:=tk }) (n:="range_iterator") st' rfl rfl (by decide) ⟨.int (lo+i),H,I1,⟨t,?_⟩,⟨rfl,rfl⟩,st',fun b hb=>(hf b hb).1⟩⟩;rw [Int.mul_one]
 done:=by
  intro X hP hw hK hc i pins s σ H E I hf st hg;subst hP hw hK;obtain ⟨f0,f1,f2,f3,f4,f5⟩:=hf it (by simp);exact wpAny_pyNext_range_end (I.ok.hd hc) st (by have:n<=i:=hg; omega) fun h' eb=>⟨rfl,I.turned (t':=s.toks) (fun b o hb e=>eb b o hb e) f0 f1 f3 f4 f5⟩
 self:=fun _ _ _ _ _ st h=>wpAny_pyIter_rangeiter st h
section
variable {X:Cx}{tg:Expr}
def Yy (K:PySem.W.Frag)(tl:TE):TI:=fun σ H R=>tl σ H fun x H1=>∃ a,x=.ref a/\(∃ xs,bG K H1 a xs)/\R (Rm K a) H1
def aAi (K:PySem.W.Frag)(tl:TE):TI:=fun σ H R=>tl σ H fun x H1=>∃ a,x=.ref a/\(∃ xs,cV K H1 a xs)/\R (Rn K a) H1
theorem bO {l:Expr}{tl:TE}(hl:PE X l tl):PI X tg l (Yy X.K tl):=by
 intro pins s σ H R I h;refine dH (hl pins s σ H _ I h) fun v s1 ⟨x,H1,I1,r1,q1⟩=>?_;obtain ⟨a,e,⟨xs,hq⟩,q⟩:=q1;subst e;cases r1;obtain ⟨its,rv,p,hz⟩:=I1.list hq;refine wpAny_pyIter_list p.isList ?_;refine ⟨s1.heap.objs.size,[s1.heap.objs.size],_,_,H1,rfl,I1.kept (t':=s1.toks) fun b o e=>aJb _ e,Hn a _,⟨_,aJr _ rfl,rfl,rfl⟩,fun b hb=>?_,q⟩;have e:b=s1.heap.objs.size:=by simpa using hb
 subst e;exact I1.fpOk (aJd _) (I1.hok.fresh (aJd _))
theorem Ed {l:Expr}{tl:TE}(hl:PE X l tl):PI X tg l (aAi X.K tl):=by
 intro pins s σ H R I h;refine dH (hl pins s σ H _ I h) fun v s1 ⟨x,H1,I1,r1,q1⟩=>?_;obtain ⟨a,e,⟨xs,hq⟩,q⟩:=q1;subst e;cases r1;obtain ⟨its,rv,p,hz⟩:=I1.tuple hq;refine wpAny_pyIter_tuple (show s1.heap.IsTuple a its.toArray from p) ?_;refine ⟨s1.heap.objs.size,[s1.heap.objs.size],_,_,H1,rfl,I1.kept (t':=s1.toks) fun b o e=>aJb _ e,Dy a _,⟨_,aJr _ rfl,rfl,rfl⟩,fun b hb=>?_,q⟩;have e:b=s1.heap.objs.size:=by simpa using hb
 subst e;exact I1.fpOk (aJd _) (I1.hok.fresh (aJd _))
theorem Li {pins:List (Addr×Obj)}{σ:St}{H:Hp}{s:Shared}{R:It->Hp->Prop}{E:Value->Shared->Prop}{lo hi:Int}{t u v:Tok}{tk:Nat}(I:aZ X pins σ H s)(h1:-(2^62)<=lo)(h2:lo<2^62)(h3:-(2^62)<=hi)(h4:hi<2^62)
  (q:R (QX lo (hi-lo).toNat) H):wpAny (model X.prog X.w) X.A (pyIter (.ref s.heap.objs.size)) (PIE X pins σ tg R) E { s with heap:=s.heap.push { cls:=.type "range",data:=.fields #[.int lo t,.int hi u,.int 1 v] },toks:=tk }:=by
 refine wpAny_pyIter_range (IsRange.new ..) (small_one h1 h2 h3 h4) ?_;have I1:aZ X pins σ H { s with heap:=s.heap.push { cls:=.type "range",data:=.fields #[.int lo t,.int hi u,.int 1 v] },toks:=tk }:=I.kept fun b o e=>aJb _ e;refine ⟨(s.heap.push { cls:=.type "range",data:=.fields #[.int lo t,.int hi u,.int 1 v] }).objs.size,[(s.heap.push { cls:=.type "range",data:=.fields #[.int lo t,.int hi u,.int 1 v] }).objs.size],_,_,H,rfl,
  I1.kept (t':=tk) fun b o e=>aJb _ e,FT _ lo (hi-lo).toNat,?_,fun b hb=>?_,q⟩
 ·have e1:lo+((0:Nat):Int)*1=lo:=by simp
  have e2:(((hi-lo).toNat:Nat):Int)-((0:Nat):Int)=Builtin.Range.rangeSize lo hi 1:=by rw [rangeSize_one]; split <;> omega
  show IsRangeIter _ _ (lo+((0:Nat):Int)*1) ((((hi-lo).toNat:Nat):Int)-((0:Nat):Int)) 1;rw [e1,e2];exact aJr _ rfl
 ·have e:b=(s.heap.push { cls:=.type "range",data:=.fields #[.int lo t,.int hi u,.int 1 v] }).objs.size:=by simpa using hb
  subst e;exact I1.fpOk (aJd _) (I1.hok.fresh (aJd _))
def Ux (ta:TA):TI:=fun σ H R=>ta σ H fun vs H1=>∃ j:Int,vs=[.int j]/\-(2^62)<=j/\j<2^62/\R (QX 0 j.toNat) H1
theorem cZ {a:Expr}{ta:TA}{p pos:Pos}(hg:Gl X "range")(hm:X.mg "range" = none)(ha:PA X [a] ta)(hs:starEach [a] X.env=[(false,eval a X.env)]:=by rfl):PI X tg (.Call (.Name "range" p) [a] [] pos) (Ux ta):=by
 intro pins s σ H R I h;refine Call_ (pD I hg hm boot_range (PyProof.Rows.callWith_type1 (dH (ha pos pins s σ H _ I h) fun us s1 ⟨vs,H1,I1,r1,q1⟩=>?_) hs rfl));obtain ⟨j,e,q1,q2,q⟩:=q1;subst e;cases r1 with
 | cons r rr =>
  cases rr;obtain ⟨t,rfl⟩:=r;exact call_range_1 (Li I1 (by omega) (by omega) q1 q2 (by simpa using q))
def aBF (wi:TI)(g:TG)(tb:TS):TS:=fun D σ H=>wi σ H fun J H1=>∃ W:Nat->Nat->St->Hp->Prop,(∃ m,W 0 m σ H1)/\∀ i m σ H,W i m σ H ->
 (J.stop i H/\D.nx σ H)∨(J.go i H/\∃ N:St->Hp->Prop,(∀ σ' H',N σ' H'->∃ m',m'<m/\W (i+1) m' σ' H')/\∀ x H',J.yld i H x H'->g x σ H' fun σ2 H2=>tb { D with nx:=N,ct:=N,bk:=D.nx } σ2 H2)
def vB (fp:List Addr)(h:Heap):List (Addr×Obj):=fp.filterMap fun b=>(h.get? b).map fun o=>(b,o)
theorem kY {fp:List Addr}{h:Heap}{b:Addr}{o:Obj}(hb:b∈fp)(e:h.get? b=some o):(b,o)∈vB fp h:=aKw.mpr ⟨b,hb,by rw [e]; rfl⟩
theorem Hi {fp:List Addr}{h:Heap}{p:Addr×Obj}(hp:p∈vB fp h):p.1∈fp/\h.get? p.1=some p.2:=by
 obtain ⟨b,hb,e⟩:=aKw.mp hp;cases q:h.get? b with
 | none=>rw [q] at e; cases e
 | some o =>
  rw [q] at e;have e':(b,o)=p:=aJU.inj e;subst e';exact ⟨hb,q⟩
theorem aZ.pinned {pins:List (Addr×Obj)}{σ:St}{H:Hp}{s:Shared}{fp:List Addr}(I:aZ X pins σ H s)(hf:∀ b∈fp,jE X pins H b)(ho:∀ b∈fp,∃ o,s.heap.get? b=some o/\∀ v,o.data≠.cell v):aZ X (pins++vB fp s.heap) σ H s :=
 I.pins_of fun p hp=>(aJy.mp hp).elim (fun z=>I.pin p (aJs _ z)) fun z=>by
  obtain ⟨hb,e⟩:=Hi z;obtain ⟨f0,f1,f2,_⟩:=hf p.1 hb;obtain ⟨o,e',d⟩:=ho p.1 hb;rw [e] at e'; cases e';exact ⟨e,f0,f1,f2,d⟩
theorem aZ.unpinned {pins pl:List (Addr×Obj)}{σ:St}{H:Hp}{s:Shared}(I:aZ X (pins++pl) σ H s):aZ X pins σ H s:=I.pins_of fun p hp=>I.pin p (aJs _ (aJ3 _ hp))
theorem eE {iter:Expr}{body:List Stmt}{wi:TI}{g:TG}{tb:TS}{pos:Pos}(hp:PassesOwn (model X.prog X.w) X.A X.env X.xe)(hc:X.calm=true)(hi:PI X tg iter wi)(hg:PG X tg g)(hb:yW X body tb)
  (hs:∀ x,foldedSetIterable iter X.env x=pure x:=by intro _; rfl):PS X (.For tg iter body [] pos) (aBF wi g tb):=by
 intro pins s σ H D I h;refine wpAny_For (dH (hi pins s σ H _ I h) fun v s1 h1=>dH h1 fun itv s2 h2=>?_) hs;obtain ⟨it,fp,tn,J,H2,e,I2,T,st2,f2,W,⟨m0,w0⟩,turn⟩:=h2;subst e;have stat:∀ {H':Hp},(∀ b∈fp,H' b=none)->∀ b∈fp,jE X pins H' b:=fun hn b hb=>⟨hn b hb,(f2 b hb).2⟩
 refine codeAny_forLoop_any (fun n s'=>∃ i σ' H',aZ X pins σ' H' s'/\tn i s'.heap/\(∀ b∈fp,H' b=none)/\W i n σ' H') ?_ m0 ⟨0,σ,H2,I2,st2,fun b hb=>(f2 b hb).1,w0⟩;rintro n s3 ⟨i,σ3,H3,I3,st3,fr3,w3⟩;rcases turn i n σ3 H3 w3 with ⟨stop,qn⟩ | ⟨go,N,hN,step⟩
 ·refine wpAny_passesOwn hp (dH (T.done X rfl rfl rfl hc i pins s3 σ3 H3 X.xe I3 (stat fr3) st3 stop) fun r s4 ⟨hr,I4⟩=>?_);subst hr;exact wpAny_execs_nil ⟨σ3,H3,I4,qn⟩
 ·refine wpAny_passesOwn hp (dH (T.item X rfl rfl rfl hc i pins s3 σ3 H3 X.xe I3 (stat fr3) st3 go) fun r s4 ⟨u,hr,h4⟩=>?_);subst hr;refine wpAny_passesOwn hp (dH h4 fun _ s5 ⟨x,H5,I5,r5,y5,st5,fr5⟩=>?_);have I5':=I5.pinned (stat fr5) (T.obj _ _ st5);refine wpAny_passesOwn hp (dH (hg _ s5 σ3 H5 x u _ I5' r5 (step x H5 y5)) fun _ s6 ⟨σ6,H6,I6,q6⟩=>?_);refine wpAny_passesOwn hp (dH (hb _ s6 σ6 H6 _ I6 q6) fun f s7 q7=>?_);have again:∀ {σ7:St}{H7:Hp},aZ X (pins++vB fp s5.heap) σ7 H7 s7->N σ7 H7->∃ m,m<n/\∃ i σ' H',aZ X pins σ' H' s7/\tn i s7.heap/\(∀ b∈fp,H' b=none)/\W i m σ' H':=fun {σ7 H7} I7 n7=>by
   obtain ⟨m',hm,w7⟩:=hN σ7 H7 n7;refine ⟨m',hm,i+1,σ7,H7,I7.unpinned,T.keep _ _ _ st5 fun b hb o e=>(I7.pin (b,o) (aJs _ (aJs _ (kY hb e)))).1,fun b hb=>?_,w7⟩;obtain ⟨o,e,d⟩:=T.obj _ _ st5 b hb;exact (I7.pin (b,o) (aJs _ (aJs _ (kY hb e)))).2.1
  cases f with
  | next=>obtain ⟨σ7,H7,I7,n7⟩:=q7; exact again I7 n7
  | cont=>obtain ⟨σ7,H7,I7,n7⟩:=q7; exact again I7 n7
  | brk=>obtain ⟨σ7,H7,I7,q7⟩:=q7; exact ⟨σ7,H7,I7.unpinned,q7⟩
  | ret v=>obtain ⟨x7,σ7,H7,I7,r7,q7⟩:=q7; exact ⟨x7,σ7,H7,I7.unpinned,r7,q7⟩
end
theorem iU {K:PySem.W.Frag}{a:Addr}{xs:List V}{g:TG}{tb:TS}{D:Ends}{σ:St}{H:Hp}(Pv:Nat->St->Hp->Prop)(h0:Pv 0 σ H)(hl:∀ i σ H,i<=xs.length->Pv i σ H->bG K H a xs)
  (hs:∀ i x σ H,xs[i]? = some x->Pv i σ H->g x σ H fun σ2 H2=>tb { D with nx:=Pv (i+1),ct:=Pv (i+1),bk:=D.nx } σ2 H2) (hd:∀ σ H,Pv xs.length σ H->D.nx σ H) :
  ∃ W:Nat->Nat->St->Hp->Prop,(∃ m,W 0 m σ H)/\∀ i m σ H,W i m σ H ->
   ((Rm K a).stop i H/\D.nx σ H)∨((Rm K a).go i H/\∃ N:St->Hp->Prop,(∀ σ' H',N σ' H'->∃ m',m'<m/\W (i+1) m' σ' H')/\∀ x H',(Rm K a).yld i H x H'->g x σ H' fun σ2 H2=>tb { D with nx:=N,ct:=N,bk:=D.nx } σ2 H2):=by
 refine ⟨fun i m σ H=>m=xs.length-i/\i<=xs.length/\Pv i σ H,⟨xs.length,by simp,aJD _,h0⟩,?_⟩;rintro i m σ H ⟨rfl,hi,p⟩;have q:=hl i σ H hi p
 by_cases hlt:i<xs.length
 ·refine .inr ⟨⟨xs,xs[i],q,by simp [hlt]⟩,Pv (i+1),fun σ' H' p'=>⟨xs.length-(i+1),by omega,rfl,hlt,p'⟩,fun x H' y=>?_⟩;obtain ⟨e,y⟩:=y;subst e;exact hs i x σ _ (y xs q) p
 ·have e:i=xs.length:=by omega
  subst e;exact .inl ⟨⟨xs,q,aJd _⟩,hd σ H p⟩
theorem N8 {K:PySem.W.Frag}{a:Addr}{xs:List V}{g:TG}{tb:TS}{D:Ends}{σ:St}{H:Hp}(Pv:Nat->St->Hp->Prop)(h0:Pv 0 σ H)(hl:∀ i σ H,i<=xs.length->Pv i σ H->cV K H a xs)
  (hs:∀ i x σ H,xs[i]? = some x->Pv i σ H->g x σ H fun σ2 H2=>tb { D with nx:=Pv (i+1),ct:=Pv (i+1),bk:=D.nx } σ2 H2) (hd:∀ σ H,Pv xs.length σ H->D.nx σ H) :
  ∃ W:Nat->Nat->St->Hp->Prop,(∃ m,W 0 m σ H)/\∀ i m σ H,W i m σ H ->
   ((Rn K a).stop i H/\D.nx σ H)∨((Rn K a).go i H/\∃ N:St->Hp->Prop,(∀ σ' H',N σ' H'->∃ m',m'<m/\W (i+1) m' σ' H')/\∀ x H',(Rn K a).yld i H x H'->g x σ H' fun σ2 H2=>tb { D with nx:=N,ct:=N,bk:=D.nx } σ2 H2):=by
 refine ⟨fun i m σ H=>m=xs.length-i/\i<=xs.length/\Pv i σ H,⟨xs.length,by simp,aJD _,h0⟩,?_⟩;rintro i m σ H ⟨rfl,hi,p⟩;have q:=hl i σ H hi p
 by_cases hlt:i<xs.length
 ·refine .inr ⟨⟨xs,xs[i],q,by simp [hlt]⟩,Pv (i+1),fun σ' H' p'=>⟨xs.length-(i+1),by omega,rfl,hlt,p'⟩,fun x H' y=>?_⟩;obtain ⟨e,y⟩:=y;subst e;exact hs i x σ _ (y xs q) p
 ·have e:i=xs.length:=by omega
  subst e;exact .inl ⟨⟨xs,q,aJd _⟩,hd σ H p⟩
theorem iQ {lo:Int}{n:Nat}{g:TG}{tb:TS}{D:Ends}{σ:St}{H:Hp}(Pv:Nat->St->Hp->Prop)(h0:Pv 0 σ H)
  (hs:∀ i σ H,i<n->Pv i σ H->g (.int (lo+i)) σ H fun σ2 H2=>tb { D with nx:=Pv (i+1),ct:=Pv (i+1),bk:=D.nx } σ2 H2) (hd:∀ σ H,Pv n σ H->D.nx σ H) :
  ∃ W:Nat->Nat->St->Hp->Prop,(∃ m,W 0 m σ H)/\∀ i m σ H,W i m σ H ->
   ((QX lo n).stop i H/\D.nx σ H)∨((QX lo n).go i H/\∃ N:St->Hp->Prop,(∀ σ' H',N σ' H'->∃ m',m'<m/\W (i+1) m' σ' H')/\∀ x H',(QX lo n).yld i H x H'->g x σ H' fun σ2 H2=>tb { D with nx:=N,ct:=N,bk:=D.nx } σ2 H2):=by
 refine ⟨fun i m σ H=>m=n-i/\i<=n/\Pv i σ H,⟨n,by simp,aJD _,h0⟩,?_⟩;rintro i m σ H ⟨rfl,hi,p⟩
 by_cases hlt:i<n
 ·refine .inr ⟨hlt,Pv (i+1),fun σ' H' p'=>⟨n-(i+1),by omega,rfl,hlt,p'⟩,fun x H' y=>?_⟩;obtain ⟨e,y⟩:=y;subst e y;exact hs i σ _ hlt p
 ·have e:i=n:=by omega
  subst e;exact .inl ⟨aJd _,hd σ H p⟩
theorem Kl {c:TT}{tb:TS}{D:Ends}{σ:St}{H:Hp}(Pv:St->Hp->Prop)(μ:St->Hp->Nat)(h0:Pv σ H)
  (hs:∀ σ H,Pv σ H->c σ H fun b H1=>if b=true then tb { D with nx:=fun σ' H'=>Pv σ' H'/\μ σ' H' < μ σ H,ct:=fun σ' H'=>Pv σ' H'/\μ σ' H' < μ σ H,bk:=D.nx } σ H1 else D.nx σ H1)
  (mono:∀ σ H Q Q',(∀ b H1,Q b H1->Q' b H1)->c σ H Q->c σ H Q'):Jy c tb D σ H:=by
 refine ⟨fun m σ H=>m = μ σ H/\Pv σ H,⟨_,rfl,h0⟩,?_⟩;rintro m σ H ⟨rfl,p⟩;refine mono σ H _ _ (fun b H1 q=>?_) (hs σ H p);cases b with
 | true=>exact ⟨_,fun σ' H' ⟨p',l⟩=>⟨_,l,rfl,p'⟩,q⟩
 | false=>exact q
abbrev R2:=V->V->Hp->VK->Prop
def mK (X:Cx)(f:Value->Value->Sem Value)(r:R2):Prop :=
 ∀ (pins:List (Addr×Obj)) (s:Shared) (σ:St) (H:Hp) (x y:V) (v u:Value) (Q:VK),aZ X pins σ H s->RelV x v->RelV y u->r x y H Q ->
  wpAny (model X.prog X.w) X.A (f v u) (EP X pins σ Q) X.xe s
def Za (X:Cx)(f:Value->Sem Value)(r:V->Hp->VK->Prop):Prop :=
 ∀ (pins:List (Addr×Obj)) (s:Shared) (σ:St) (H:Hp) (x:V) (v:Value) (Q:VK),aZ X pins σ H s->RelV x v->r x H Q ->
  wpAny (model X.prog X.w) X.A (f v) (EP X pins σ Q) X.xe s
def eZ (X:Cx)(f:Value)(r:List V->Hp->VK->Prop):Prop :=
 ∀ (pins:List (Addr×Obj)) (s:Shared) (σ:St) (H:Hp) (xs:List V) (us:List Value) (Q:VK),aZ X pins σ H s->bK xs us->r xs H Q ->
  wpAny (model X.prog X.w) X.A (call f us) (EP X pins σ Q) X.xe s
def Uz (r:R2)(ta tb:TE):TE:=fun σ H Q=>ta σ H fun x H1=>tb σ H1 fun y H2=>r x y H2 Q
def tUn (r:V->Hp->VK->Prop)(ta:TE):TE:=fun σ H Q=>ta σ H fun x H1=>r x H1 Q
def rI (C:Int->Int->Prop)(g:Int->Int->V):R2:=fun x y H Q=>∃ i j,x=.int i/\y=.int j/\C i j/\Q (g i j) H
def Nb (g:Int->Int->V):R2:=fun x y H Q=>∃ i j,x=.int i/\y=.int j/\Q (g i j) H
def rU (g:Int->V):V->Hp->VK->Prop:=fun x H Q=>∃ i,x=.int i/\Q (g i) H
section
variable {X:Cx}{a b c:Expr}{ta tb tc:TE}{pos:Pos}
theorem Qq (ha:PE X a ta)(hb:PE X b tb){pins:List (Addr×Obj)}{s:Shared}{σ:St}{H:Hp}{R:V->V->Hp->Prop}(I:aZ X pins σ H s)
  (h:ta σ H fun x H1=>tb σ H1 fun y H2=>R x y H2) {Q:Value->Shared->Prop}{f:Value->Value->Sem Value}
  (hf:∀ v u s2 x y H2,aZ X pins σ H2 s2->RelV x v->RelV y u->R x y H2->wpAny (model X.prog X.w) X.A (f v u) Q X.xe s2) :
  wpAny (model X.prog X.w) X.A (eval a X.env) (fun v s₁=>wpAny (model X.prog X.w) X.A (eval b X.env) (fun u s₂=>wpAny (model X.prog X.w) X.A (f v u) Q X.xe s₂) X.xe s₁) X.xe s:=by
 refine dH (ha pins s σ H _ I h) fun v s1 ⟨x,H1,I1,r1,q1⟩=>?_;refine dH (hb pins s1 σ H1 _ I1 q1) fun u s2 ⟨y,H2,I2,r2,q2⟩=>?_;exact hf v u s2 x y H2 I2 r1 r2 q2
theorem aW {op:Operator}{r:R2}(ho:mK X (binaryOp op) r)(ha:PE X a ta)(hb:PE X b tb):PE X (.BinOp a op b pos) (Uz r ta tb):=by
 intro pins s σ H Q I h;exact wpAny_BinOp (Qq ha hb I h fun v u s2 x y H2 I2 rx ry q=>ho pins s2 σ H2 x y v u Q I2 rx ry q)
theorem Ol {op:UnaryOp}{r:V->Hp->VK->Prop}(ho:Za X (unaryOp op) r)(ha:PE X a ta):PE X (.UnaryOp op a pos) (tUn r ta):=by
 intro pins s σ H Q I h;exact UnaryOp_ (dH (ha pins s σ H _ I h) fun v s1 ⟨x,H1,I1,r1,q1⟩=>ho pins s1 σ H1 x v Q I1 r1 q1)
theorem PK {f:Value->Value->Sem Value}{C:Int->Int->Prop}{g:Int->Int->Int}
  (rule:∀ (i j:Int) (t u:Tok) (s:Shared) (Q:Value->Shared->Prop) (E:Value->Shared->Prop),C i j->Q (.int (g i j) s.toks) { s with toks:=s.toks+1 }->wpAny (model X.prog X.w) X.A (f (.int i t) (.int j u)) Q E s) :
  mK X f (rI C fun i j=>.int (g i j)):=by
 intro pins s σ H x y v u Q I rx ry h;obtain ⟨i,j,rfl,rfl,hc,q⟩:=h;obtain ⟨t,rfl⟩:=rx;obtain ⟨t',rfl⟩:=ry;exact rule i j t t' s _ _ hc ⟨.int (g i j),H,I.tok _,⟨_,rfl⟩,q⟩
theorem Ni {f:Value->Value->Sem Value}{g:Int->Int->Int}
  (rule:∀ (i j:Int) (t u:Tok) (s:Shared) (Q:Value->Shared->Prop) (E:Value->Shared->Prop),Q (.int (g i j) s.toks) { s with toks:=s.toks+1 }->wpAny (model X.prog X.w) X.A (f (.int i t) (.int j u)) Q E s) :
  mK X f (Nb fun i j=>.int (g i j)):=by
 intro pins s σ H x y v u Q I rx ry h;obtain ⟨i,j,rfl,rfl,q⟩:=h;obtain ⟨t,rfl⟩:=rx;obtain ⟨t',rfl⟩:=ry;exact rule i j t t' s _ _ ⟨.int (g i j),H,I.tok _,⟨_,rfl⟩,q⟩
theorem RP {f:Value->Value->Sem Value}{g:Int->Int->Bool}
  (rule:∀ (i j:Int) (t u:Tok) (s:Shared) (Q:Value->Shared->Prop) (E:Value->Shared->Prop),Q (.bool (g i j)) s->wpAny (model X.prog X.w) X.A (f (.int i t) (.int j u)) Q E s) :
  mK X f (Nb fun i j=>.bl (g i j)):=by
 intro pins s σ H x y v u Q I rx ry h;obtain ⟨i,j,rfl,rfl,q⟩:=h;obtain ⟨t,rfl⟩:=rx;obtain ⟨t',rfl⟩:=ry;exact rule i j t t' s _ _ ⟨.bl (g i j),H,I,rfl,q⟩
def aCZ (i j:Int):Prop:=0<j/\j<1073741824
def Tu (i j:Int):Prop:=0<=j/\j<=1000000/\i.natAbs<2^64
def QB (i j:Int):Prop:=(-(2^64)<i/\i<2^64)∨(-(2^64)<j/\j<2^64)
theorem QB.ok {i j:Int}(h:QB i j):IntMulOk i j:=by
 rcases h with ⟨h1,h2⟩ | ⟨h1,h2⟩
 ·exact .of_left (intBits_le_64 h1 h2)
 ·exact .of_right (intBits_le_64 h1 h2)
theorem Fb (k:Nat):(0:Int)<=2^k:=by
 rw [two_pow_cast];exact aLT _
theorem eY:mK X (binaryOp .Add) (Nb fun i j=>.int (i+j)):=Ni fun _ _ _ _ _ _ _ q=>add_int q
theorem jU:mK X (binaryOp .Sub) (Nb fun i j=>.int (i-j)):=Ni fun _ _ _ _ _ _ _ q=>sub_int q
theorem MN:mK X (binaryOp .Mult) (rI QB fun i j=>.int (i*j)):=PK fun _ _ _ _ _ _ _ hc q=>mul_int q hc.ok
theorem qQ:mK X (binaryOp .FloorDiv) (rI aCZ fun i j=>.int (i/j)):=PK fun i j _ _ _ _ _ hc q=>by
 have h1:(0:Int)<j:=hc.1;have h2:j<1073741824:=hc.2;exact floordiv_int (by omega) (by rw [aJ6 i (by omega)]; exact q) (.inl (PyProof.noPylong_small (by omega)))
theorem dD:mK X (binaryOp .Mod) (rI (fun _ j=>0<j) fun i j=>.int (i%j)):=PK fun i j _ _ _ _ _ hc q=>by
 have h1:(0:Int)<j:=hc;exact mod_int' (by omega) (by rw [Int.fmod_eq_emod_of_nonneg i (by omega)]; exact q)
theorem Mw:mK X (binaryOp .Mod) (rI (fun _ j=>j≠0) fun i j=>.int (i.fmod j)):=PK fun _ _ _ _ _ _ _ hc q=>mod_int' hc q
theorem lA:mK X (binaryOp .LShift) (rI Tu fun i j=>.int (i*2^j.toNat)):=PK fun _ _ _ _ _ _ _ hc q=>lshift_int_small hc.1 hc.2.1 hc.2.2 q
theorem Q6:mK X (binaryOp .RShift) (rI (fun _ j=>0<=j) fun i j=>.int (i/2^j.toNat)):=PK fun i j _ _ _ _ _ hc q =>
 rshift_int hc (by rw [aJ6 i (Fb _)]; exact q)
theorem Q8:mK X (binaryOp .BitAnd) (Nb fun i j=>.int (Builtin.bitAnd i j)):=Ni fun _ _ _ _ _ _ _ q=>and_int q
theorem Gz:mK X (binaryOp .BitOr) (Nb fun i j=>.int (Builtin.bitOr i j)):=Ni fun _ _ _ _ _ _ _ q=>or_int q
theorem unI {f:Value->Sem Value}{g:Int->Int}
  (rule:∀ (i:Int) (t:Tok) (s:Shared) (Q:Value->Shared->Prop) (E:Value->Shared->Prop),Q (.int (g i) s.toks) { s with toks:=s.toks+1 }->wpAny (model X.prog X.w) X.A (f (.int i t)) Q E s) :
  Za X f (rU fun i=>.int (g i)):=by
 intro pins s σ H x v Q I rx h;obtain ⟨i,rfl,q⟩:=h;obtain ⟨t,rfl⟩:=rx;exact rule i t s _ _ ⟨.int (g i),H,I.tok _,⟨_,rfl⟩,q⟩
theorem Kz:Za X (unaryOp .USub) (rU fun i=>.int (-i)):=unI fun _ _ _ _ _ q=>neg_int q
end
def SQ:V->V->Bool
 | .non,.non=>true | .non,.int _=>true | .int _,.non=>true | .non,.bl _=>true | .bl _,.non=>true | .non,.str _=>true | .str _,.non=>true
 | .int _,.int _=>true | .bl _,.bl _=>true | .str _,.str _=>true | .byt _,.byt _=>true
 | .int _,.str _=>true | .str _,.int _=>true | .bl _,.str _=>true | .str _,.bl _=>true
 | _,_=>false
def rEq:R2:=fun x y H Q=>SQ x y=true/\Q (.bl (decide (x=y))) H
def rNe:R2:=fun x y H Q=>SQ x y=true/\Q (.bl (!decide (x=y))) H
theorem Fw {i j:Int}:decide (V.int i=V.int j)=(i==j):=by
 rw [aJY];simp
theorem J1 {i j:Bool}:decide (V.bl i=V.bl j)=(i==j):=by
 rw [aJY];simp
theorem Fy {i j:Str}:decide (V.str i=V.str j)=(i==j):=by
 rw [aJY];simp
theorem HB {i j:Array UInt8}:decide (V.byt i=V.byt j)=(i.toList==j.toList):=by
 rw [aJY];cases i;cases j;simp
section
variable {X:Cx}{a b c:Expr}{ta tb tc:TE}{pos:Pos}
theorem cB {pins:List (Addr×Obj)}{σ:St}{H:Hp}{s:Shared}{Q:VK}{k k':Bool}(I:aZ X pins σ H s)(q:Q (.bl k) H)(e:k=k'):EP X pins σ Q (.bool k') s:=by
 subst e;exact ⟨.bl k,H,I,rfl,q⟩
theorem oH:mK X (compareOp .Eq) rEq:=by
 intro pins s σ H x y v u Q I rx ry h;obtain ⟨hs,q⟩:=h;cases x with
 | non =>
  cases rx;cases y with
  | non=>cases ry; exact PySem.EqNone.eq_none_none (cB I q (by simp))
  | bl j=>cases ry; exact PySem.EqNone.eq_none_bool (cB I q (by simp))
  | int j=>obtain ⟨t',rfl⟩:=ry; exact PySem.EqNone.eq_none_int (cB I q (by simp))
  | str j=>obtain ⟨t',rfl⟩:=ry; exact PySem.EqNone.eq_none_str (cB I q (by simp))
  | _=>exact absurd (show false=true from hs) aJp
 | bl i =>
  cases rx;cases y with
  | non=>cases ry; exact PySem.EqNone.eq_bool_none (cB I q (by simp))
  | bl j=>cases ry; exact eq_bool (cB I q J1)
  | str j=>obtain ⟨t',rfl⟩:=ry; exact PySem.EqMixed.eq_bool_str (cB I q (by simp))
  | _=>exact absurd (show false=true from hs) aJp
 | int i =>
  obtain ⟨t,rfl⟩:=rx;cases y with
  | non=>cases ry; exact PySem.EqNone.eq_int_none (cB I q (by simp))
  | int j=>obtain ⟨t',rfl⟩:=ry; exact eq_int (cB I q Fw)
  | str j=>obtain ⟨t',rfl⟩:=ry; exact PySem.EqMixed.eq_int_str (cB I q (by simp))
  | _=>exact absurd (show false=true from hs) aJp
 | str i =>
  obtain ⟨t,rfl⟩:=rx;cases y with
  | non=>cases ry; exact PySem.EqNone.eq_str_none (cB I q (by simp))
  | bl j=>cases ry; exact PySem.EqMixed.eq_str_bool (cB I q (by simp))
  | int j=>obtain ⟨t',rfl⟩:=ry; exact PySem.EqMixed.eq_str_int (cB I q (by simp))
  | str j=>obtain ⟨t',rfl⟩:=ry; exact eq_str (cB I q Fy)
  | _=>exact absurd (show false=true from hs) aJp
 | byt i =>
  obtain ⟨t,rfl⟩:=rx;cases y with
  | byt j=>obtain ⟨t',rfl⟩:=ry; exact PySem.W.eq_bytes (cB I q HB)
  | _=>exact absurd (show false=true from hs) aJp
 | _=>cases y <;> exact absurd (show false=true from hs) aJp
theorem Jd:mK X (compareOp .NotEq) rNe:=by
 intro pins s σ H x y v u Q I rx ry h;obtain ⟨hs,q⟩:=h;cases x with
 | non =>
  cases rx;cases y with
  | non=>cases ry; exact PySem.EqNone.ne_none_none (cB I q (by simp))
  | bl j=>cases ry; exact PySem.EqNone.ne_none_bool (cB I q (by simp))
  | int j=>obtain ⟨t',rfl⟩:=ry; exact PySem.EqNone.ne_none_int (cB I q (by simp))
  | str j=>obtain ⟨t',rfl⟩:=ry; exact PySem.EqNone.ne_none_str (cB I q (by simp))
  | _=>exact absurd (show false=true from hs) aJp
 | bl i =>
  cases rx;cases y with
  | non=>cases ry; exact PySem.EqNone.ne_bool_none (cB I q (by simp))
  | bl j=>cases ry; exact ne_bool (cB I q (congrArg not J1))
  | str j=>obtain ⟨t',rfl⟩:=ry; exact PySem.EqMixed.ne_bool_str (cB I q (by simp))
  | _=>exact absurd (show false=true from hs) aJp
 | int i =>
  obtain ⟨t,rfl⟩:=rx;cases y with
  | non=>cases ry; exact PySem.EqNone.ne_int_none (cB I q (by simp))
  | int j=>obtain ⟨t',rfl⟩:=ry; exact ne_int (cB I q (congrArg not Fw))
  | str j=>obtain ⟨t',rfl⟩:=ry; exact PySem.EqMixed.ne_int_str (cB I q (by simp))
  | _=>exact absurd (show false=true from hs) aJp
 | str i =>
  obtain ⟨t,rfl⟩:=rx;cases y with
  | non=>cases ry; exact PySem.EqNone.ne_str_none (cB I q (by simp))
  | bl j=>cases ry; exact PySem.EqMixed.ne_str_bool (cB I q (by simp))
  | int j=>obtain ⟨t',rfl⟩:=ry; exact PySem.EqMixed.ne_str_int (cB I q (by simp))
  | str j=>obtain ⟨t',rfl⟩:=ry; exact ne_str (cB I q (congrArg not Fy))
  | _=>exact absurd (show false=true from hs) aJp
 | byt i =>
  obtain ⟨t,rfl⟩:=rx;cases y with
  | byt j=>obtain ⟨t',rfl⟩:=ry; exact PySem.W.ne_bytes (cB I q (congrArg not HB))
  | _=>exact absurd (show false=true from hs) aJp
 | _=>cases y <;> exact absurd (show false=true from hs) aJp
theorem xW:mK X (compareOp .Lt) (Nb fun i j=>.bl (decide (i<j))):=RP fun _ _ _ _ _ _ _ q=>lt_int q
theorem mL:mK X (compareOp .LtE) (Nb fun i j=>.bl (decide (i<=j))):=RP fun _ _ _ _ _ _ _ q=>le_int q
theorem GC:mK X (compareOp .Gt) (Nb fun i j=>.bl (decide (j<i))):=RP fun _ _ _ _ _ _ _ q=>gt_int q
theorem oX:mK X (compareOp .Is) (fun x y H Q=>y=.non/\Q (.bl (decide (x=.non))) H):=by
 intro pins s σ H x y v u Q I rx ry h;obtain ⟨rfl,q⟩:=h;cases ry;refine is_none_gen (cB I q ?_);cases x <;> first
  | (cases rx; rfl)
  | (obtain ⟨t,rfl⟩:=rx; rfl)
theorem NQ:mK X (compareOp .IsNot) (fun x y H Q=>y=.non/\Q (.bl (!decide (x=.non))) H):=by
 intro pins s σ H x y v u Q I rx ry h;obtain ⟨rfl,q⟩:=h;cases ry;refine isnot_none_gen (cB I q ?_);cases x <;> first
  | (cases rx; rfl)
  | (obtain ⟨t,rfl⟩:=rx; rfl)
theorem bW (b:Expr){op:CmpOp}(h:op≠.In:=by decide)(h2:op≠.NotIn:=by decide):behindInMarks op b=false:=by
 have e1:(op==CmpOp.In)=false:=by cases op <;> first | rfl | exact absurd rfl h
 have e2:(op==CmpOp.NotIn)=false:=by cases op <;> first | rfl | exact absurd rfl h2
 cases b <;> simp [behindInMarks,e1,e2]
theorem fY {op:CmpOp}{r:R2}(ho:mK X (compareOp op) r)(ha:PE X a ta)(hb:PE X b tb)(hm:behindInMarks op b=false):PE X (.Compare a [op] [b] pos) (Uz r ta tb):=by
 intro pins s σ H Q I h;exact wpAny_Compare1 (Qq ha hb I h fun v u s2 x y H2 I2 rx ry q=>ho pins s2 σ H2 x y v u Q I2 rx ry q) hm
def Pq (t:TE):TT:=fun σ H Q=>t σ H fun x H'=>∃ k,x=.bl k/\Q k H'
theorem bV {op:CmpOp}{r:R2}(ho:mK X (compareOp op) r)(ha:PE X a ta)(hb:PE X b tb)(hm:behindInMarks op b=false):PT X (.Compare a [op] [b] pos) (Pq (Uz r ta tb)):=by
 intro pins s σ H Q I h;refine wpAny_isTrue_Compare1 (dH (ha pins s σ H _ I h) fun v s1 ⟨x,H1,I1,r1,q1⟩=>dH (hb pins s1 σ H1 _ I1 q1) fun u s2 ⟨y,H2,I2,r2,q2⟩ =>
  dH (ho pins s2 σ H2 x y v u _ I2 r1 r2 q2) fun c s3 ⟨z,H3,I3,r3,k,e,q3⟩=>?_) hm
 subst e;cases r3;exact wpAny_truthy_bool ⟨H3,I3,q3⟩
def Jp (r r':R2)(ta tb tc:TE):TE:=fun σ H Q=>ta σ H fun x H1=>tb σ H1 fun y H2=>r x y H2 fun z H3=>∃ k,z=.bl k ∧
 (if k=true then tc σ H3 fun w' H4=>r' y w' H4 Q else Q (.bl false) H3)
theorem Jq {op op':CmpOp}{r r':R2}(ho:mK X (compareOp op) r)(ho':mK X (compareOp op') r')(ha:PE X a ta)(hb:PE X b tb)(hc:PE X c tc)
  (hm:lastMarks [op,op'] [b,c]=false:=by with_unfolding_all rfl):PE X (.Compare a [op,op'] [b,c] pos) (Jp r r' ta tb tc):=by
 intro pins s σ H Q I h;refine Compare_chain (dH (ha pins s σ H _ I h) fun v s1 ⟨x,H1,I1,r1,q1⟩=>chain_link (dH (hb pins s1 σ H1 _ I1 q1) fun u s2 ⟨y,H2,I2,r2,q2⟩ =>
  dH (ho pins s2 σ H2 x y v u _ I2 r1 r2 q2) fun d s3 ⟨z,H3,I3,r3,k,e,q3⟩=>?_)) hm
 subst e;cases r3;refine wpAny_truthy_bool ?_;cases k with
 | false=>exact ite_ff ⟨.bl false,H3,I3,rfl,q3⟩
 | true=>exact ite_tt (chain_last (dH (hc pins s3 σ H3 _ I3 q3) fun w' s4 ⟨z',H4,I4,r4,q4⟩=>ho' pins s4 σ H4 y z' u w' Q I4 r2 r4 q4))
theorem vL {op op':CmpOp}{r r':R2}(ho:mK X (compareOp op) r)(ho':mK X (compareOp op') r')(ha:PE X a ta)(hb:PE X b tb)(hc:PE X c tc)
  (hm:lastMarks [op,op'] [b,c]=false:=by with_unfolding_all rfl):PT X (.Compare a [op,op'] [b,c] pos) (Pq (Jp r r' ta tb tc)):=by
 intro pins s σ H Q I h;refine isTrue_chain (dH (ha pins s σ H _ I h) fun v s1 ⟨x,H1,I1,r1,q1⟩=>test_link (dH (hb pins s1 σ H1 _ I1 q1) fun u s2 ⟨y,H2,I2,r2,q2⟩ =>
  dH (ho pins s2 σ H2 x y v u _ I2 r1 r2 q2) fun d s3 ⟨z,H3,I3,r3,k,e,q3⟩=>?_)) hm
 subst e;cases r3;refine wpAny_truthy_bool ?_;cases k with
 | false =>
  obtain ⟨k',e',q'⟩:=q3;cases e';exact ite_ff ⟨H3,I3,q'⟩
 | true =>
  refine ite_tt (test_last (dH (hc pins s3 σ H3 _ I3 q3) fun w' s4 ⟨z',H4,I4,r4,q4⟩=>dH (ho' pins s4 σ H4 y z' u w' _ I4 r2 r4 q4) fun d' s5 ⟨z2,H5,I5,r5,k2,e2,q5⟩=>?_));subst e2;cases r5;exact wpAny_truthy_bool ⟨H5,I5,q5⟩
theorem Af:(sizeLine:Nat)<2^63:=by rw [sizeLine_eq]; decide
theorem vals1 {x:V}{us:List Value}(r:bK [x] us):∃ u,us=[u]/\RelV x u:=by
 cases r with
 | cons r1 r2=>cases r2; exact ⟨_,rfl,r1⟩
theorem vals2 {x y:V}{us:List Value}(r:bK [x,y] us):∃ u w',us=[u,w']/\RelV x u/\RelV y w':=by
 cases r with
 | cons r1 r2 =>
  cases r2 with
  | cons r3 r4=>cases r4; exact ⟨_,_,rfl,r1,r3⟩
theorem Ju:eZ X (.builtin "abs") (fun xs H Q=>∃ i,xs=[.int i]/\Q (.int (if i<0 then -i else i)) H):=by
 intro pins s σ H xs us Q I r h;obtain ⟨i,rfl,q⟩:=h;obtain ⟨u,rfl,t,rfl⟩:=vals1 r;exact call_abs_int fun u tk=>⟨.int (if i<0 then -i else i),H,I.tok _,⟨_,rfl⟩,q⟩
theorem yU (hc:X.calm=true):eZ X (.builtin "max") (fun xs H Q=>∃ i j,xs=[.int i,.int j]/\Q (.int (if j > i then j else i)) H):=by
 intro pins s σ H xs us Q I r h;obtain ⟨i,j,rfl,q⟩:=h;obtain ⟨u,w',rfl,⟨t,rfl⟩,⟨t',rfl⟩⟩:=vals2 r;refine max_two_ints (I.ok.hd hc) fun h' tk k=>⟨_,H,I.kept k,?_,q⟩
 by_cases hj:j > i
 ·rw [if_pos hj,if_pos hj]; exact ⟨_,rfl⟩
 ·rw [if_neg hj,if_neg hj]; exact ⟨_,rfl⟩
theorem yQ (hc:X.calm=true):eZ X (.builtin "min") (fun xs H Q=>∃ i j,xs=[.int i,.int j]/\Q (.int (if j<i then j else i)) H):=by
 intro pins s σ H xs us Q I r h;obtain ⟨i,j,rfl,q⟩:=h;obtain ⟨u,w',rfl,⟨t,rfl⟩,⟨t',rfl⟩⟩:=vals2 r;refine min_two_ints (I.ok.hd hc) fun h' tk k=>⟨_,H,I.kept k,?_,q⟩
 by_cases hj:j<i
 ·rw [if_pos hj,if_pos hj]; exact ⟨_,rfl⟩
 ·rw [if_neg hj,if_neg hj]; exact ⟨_,rfl⟩
theorem Hv:eZ X (.type "int") (fun xs H Q=>(∃ i,xs=[.int i]/\Q (.int i) H)∨∃ k,xs=[.bl k]/\Q (.int (if k then 1 else 0)) H):=by
 intro pins s σ H xs us Q I r h;rcases h with ⟨i,rfl,q⟩ | ⟨k,rfl,q⟩
 ·obtain ⟨u,rfl,t,rfl⟩:=vals1 r;exact call_int_int ⟨.int i,H,I,⟨_,rfl⟩,q⟩
 ·obtain ⟨u,rfl,r1⟩:=vals1 r;cases r1;exact call_int_bool ⟨.int (if k then 1 else 0),H,I.tok _,⟨_,rfl⟩,q⟩
end
structure Er (h:Heap)(x dx C:Addr)(mA:Str->Option Value):Prop where
 obj:h.get? x=some (PySem.W.instObj C dx)
 ns:h.Ns1 dx mA
 ne:dx≠x
theorem Hy {h:Heap}{dx:Addr}{mA:Str->Option Value}(n:h.Ns1 dx mA):∃ od,h.get? dx=some od/\∀ name,PySem.W.lookIn name od=some (mA name):=by
 obtain ⟨o,es,ep,ho,hd,hk,_,hm⟩:=n;refine ⟨o,ho,fun name=>?_⟩;have e:=hm name;unfold nsFind findBy at e;rw [<- Array.find?_toList] at e;unfold PySem.W.lookIn;rw [hd];dsimp only
 split
 ·rename_i y q;rw [q] at e;exact congrArg some e
 ·rename_i q;rw [q] at e;have a:es.toList.any (·.refKey)=false:=by
   rw [aLg];intro y hy;obtain ⟨z,t,hkey⟩:=hk y (Array.mem_toList_iff.mp hy);simp [DictEntry.refKey,hkey]
  have a':¬ es.toList.any (·.refKey)=true:=by rw [a]; exact aJp
  rw [if_neg a'];exact congrArg some e
theorem Er.look {h:Heap}{x dx C:Addr}{mA:Str->Option Value}(I:Er h x dx C mA):∃ od,PySem.W.InstAt h x (PySem.W.instObj C dx) C (some od)/\∀ name,PySem.W.lookIn name od=some (mA name) :=
 let ⟨od,ho,hl⟩:=Hy I.ns
 ⟨od,⟨I.obj,rfl,rfl,ho⟩,hl⟩
section
variable {prog:Program}{w:World}{A:Around}{E:Value->Shared->Prop}{s:Shared}{K:PySem.W.Frag}{x dx C f:Addr}{mA:Str->Option Value}{name:Str}{v:Value}
theorem Nt {expr:Bool}{Q:Value->Shared->Prop}(X:K.In s.heap)(I:Er s.heap x dx C mA)(hg:PySem.W.plainGet K C name=true)(hh:PySem.W.hasDictIn K C=true)
  (ha:PySem.W.findIn K (.ref C) name=some none) (hv:mA name=some v) (hv':PySem.W.handedIn v=true) (h:Q v { s with toks:=s.toks+1 }) :
  wpAny (model prog w) A (getAttr (.ref x) name expr) Q E s:=by
 obtain ⟨od,J,hl⟩:=I.look;exact PySem.W.get_value X J (PySem.W.plainGet_of hg).1 (PySem.W.findObj_own hh ha rfl (by rw [hl,hv])) hv' h
theorem LQ {pl:Sem Bool}{Q:Value×List Value->Shared->Prop}(X:K.In s.heap)(I:Er s.heap x dx C mA)(hg:PySem.W.plainGet K C name=true)
  (hf:PySem.W.findIn K (.ref C) name=some (some (.ref f))) (ht:PySem.W.isFn K (.ref f)=true) (hv:mA name=none) (h:Q (.ref f,[.ref x]) s) :
  wpAny (model prog w) A (getMethod (.ref x) name pl) Q E s:=by
 obtain ⟨od,J,hl⟩:=I.look;exact PySem.W.method_fn X J (PySem.W.plainGet_of hg).1 (PySem.W.plainGet_of hg).2 hf (beq_iff_eq.mp ht) (by show (PySem.W.lookIn name od).map (·.isSome)=some false; rw [hl,hv]; rfl) h
theorem O6 {ns:List Str}{Q:Unit->Shared->Prop}(X:K.In s.heap)(I:Er s.heap x dx C mA)
  (hs:PySem.W.findIn K (.ref C) "__setattr__" = some (some (.builtin "object.__setattr__"))) (hp:PySem.W.plainOver K C=true) (ht:PySem.W.takerIn K C name=some none) (hh:PySem.W.hasDictIn K C=true)
  (hw:PySem.Within mA ns) (hsz:ns.length<=sizeLine)
  (h:∀ h',Er h' x dx C (fun y=>if y=name then some v else mA y)->aJT dx s.heap h'->Q () { s with heap:=h',toks:=s.toks+2 }) :
  wpAny (model prog w) A (setAttr (.ref x) name v) Q E s:=by
 obtain ⟨od,J,hl⟩:=I.look;refine PySem.W.set_plain X J hs (PySem.W.osa_open (s:={ s with toks:=s.toks+1 }) (r:=none) X J hp ht fun b=>?_);obtain ⟨cd,hc,hd'⟩:=PySem.W.any_some hh;have hx:s.heap.get? x=some ⟨.ref C,some dx,.plain,#[]⟩:=I.obj;refine wpAny_bind (wpAny_pure (wpAny_bind (wpAny_bind (wpAny_loadPart hx (wpAny_bind (PySem.W.Looks.here (s:={ s with toks:=s.toks+1 }) (PySem.W.looks_clsIn X hc) ?_))))));rw [hd'];refine wpAny_pure (a:=some dx) (wpAny_bind (wpAny_pure (wpAny_bind ?_)));refine wpAny_nsSet1 (s:={ s with toks:=s.toks+1 }) I.ns fun h' hn2 hs2=>?_;obtain ⟨oD,esD,epD,hoD,hdD,hcD⟩:=hn2.count (PySem.Within.cons name v hw);refine wpAny_bind (wpAny_lookBehind hoD (by rw [hdD]; exact pastItsLine_dict (aJc hcD (by rw [aJJ]; omega))) ?_);exact wpAny_pure (h _ ⟨(hs2.2 _ (Ne.symm I.ne)).trans I.obj,hn2,I.ne⟩ hs2)
theorem J0 {R:Result->Shared->Prop}{vs:List Value}{kw:List (Str×Value)}(X:K.In s.heap)(hm:PySem.W.makesIn K C=true)
  (hi:PySem.W.findIn K (.ref C) "__init__" = some (some (.ref f))) (hf:PySem.W.typeIn K (.ref f)=some (.type "function"))
  (h:codeAny (model prog w) (A.under (.builtin "type.__call__" ⟨.ref C::vs,kw⟩)) (.call (.ref f) ⟨.ref (s.heap.objs.size+1)::vs,kw⟩) (PySem.W.InitBack (s.heap.objs.size+1) R)
   { s with heap:=(s.heap.push PySem.W.emptyDict).push (PySem.W.instObj C s.heap.objs.size) }) :
  codeAny (model prog w) A (.call (.ref C) ⟨vs,kw⟩) R s:=by
 obtain ⟨hh,g,d,t,os⟩:=s;exact PySem.W.make_core (PySem.W.makes_of X hm) (PySem.W.looks_findIn X hi) (fun self=>PySem.W.bind_fn X self hf) (.inl rfl) h
end
def b8 (f:Str)(v:V):List (Str×V)->List (Str×V)
 | []=>[(f,v)]
 | (g,x)::r=>if g=f then (g,v)::r else (g,x)::b8 f v r
theorem sY (f g:Str)(v:V):∀ fs:List (Str×V),(b8 f v fs).lookup g=if g=f then some v else fs.lookup g
 | []=>by
  show aKE g [(f,v)]=_
  by_cases h:g=f
  ·have hb:(g==f)=true:=beq_iff_eq.mpr h;simp only [aKE,hb,if_pos h]
  ·have hb:(g==f)=false:=beq_eq_false_iff_ne.mpr h;simp only [aKE,hb,if_neg h]
 | (k,x)::r=>by
  have ih:=sY f g v r;rw [show b8 f v ((k,x)::r)=(if k=f then (k,v)::r else (k,x)::b8 f v r) from rfl]
  by_cases hk:k=f
  ·rw [if_pos hk]
   by_cases h:g=k
   ·have hb:(g==k)=true:=beq_iff_eq.mpr h;simp only [aKE,hb,if_pos (h.trans hk)]
   ·have hb:(g==k)=false:=beq_eq_false_iff_ne.mpr h;simp only [aKE,hb,if_neg (fun e:g=f=>h (e.trans hk.symm))]
  ·rw [if_neg hk]
   by_cases h:g=k
   ·have hb:(g==k)=true:=beq_iff_eq.mpr h;simp only [aKE,hb,if_neg (fun e:g=f=>hk (h.symm.trans e))]
   ·have hb:(g==k)=false:=beq_eq_false_iff_ne.mpr h;simp only [aKE,hb];exact ih
theorem rM (f:Str)(v:V):∀ fs:List (Str×V),f∈(b8 f v fs).map (·.1)/\∀ g,g∈fs.map (·.1)->g∈(b8 f v fs).map (·.1)
 | []=>⟨by simp [b8],fun g h=>by simp at h⟩
 | (k,x)::r=>by
  obtain ⟨i1,i2⟩:=rM f v r;rw [show b8 f v ((k,x)::r)=(if k=f then (k,v)::r else (k,x)::b8 f v r) from rfl]
  by_cases hk:k=f
  ·rw [if_pos hk];subst hk;exact ⟨by simp,fun g h=>by simpa using h⟩
  ·rw [if_neg hk];refine ⟨?_,fun g h=>?_⟩
   ·rw [aJi];exact aI9 _ i1
   ·rw [aJi] at h ⊢;rcases aJx.mp h with e | e
    ·exact aJx.mpr (.inl e)
    ·exact aI9 _ (i2 g e)
theorem tZ (f:Str)(v:V):∀ fs:List (Str×V),(b8 f v fs).length<=fs.length+1
 | []=>by simp [b8]
 | (k,x)::r=>by
  have ih:=tZ f v r;rw [show b8 f v ((k,x)::r)=(if k=f then (k,v)::r else (k,x)::b8 f v r) from rfl]
  by_cases hk:k=f
  ·rw [if_pos hk,aJJ,aJJ]; omega
  ·rw [if_neg hk,aJJ,aJJ]; omega
theorem mD.some_of {v:V}{o:Option Value}(r:mD (some v) o):∃ u,o=some u/\RelV v u:=by
 cases o with
 | none=>exact (show False from r).elim
 | some u=>exact ⟨u,rfl,r⟩
theorem mD.none_of {o:Option Value}(r:mD none o):o=none:=by
 cases o with
 | none=>rfl
 | some u=>exact (show False from r).elim
theorem Ho {v:V}{u:Value}(r:RelV v u):PySem.W.handedIn u=true:=by
 cases v with
 | non=>cases (show u=Value.none from r); rfl
 | bl b=>cases (show u=Value.bool b from r); rfl
 | int i=>obtain ⟨t,e⟩:=(show ∃ t,u=Value.int i t from r); cases e; rfl
 | str x=>obtain ⟨t,e⟩:=(show ∃ t,u=Value.str x t from r); cases e; rfl
 | byt b=>obtain ⟨t,e⟩:=(show ∃ t,u=Value.bytes b t from r); cases e; rfl
 | flt b=>obtain ⟨t,e⟩:=(show ∃ t,u=Value.float b t from r); cases e; rfl
 | ref a=>cases (show u=Value.ref a from r); rfl
 | ty n=>cases (show u=Value.type n from r); rfl
section
variable {P:Program}{w:World}{H H':Hp}{h h':Heap}{a C dx:Addr}{fs fs':List (Str×V)}
theorem qX (hok:nA P w H h)(e:H a=some (.ins C dx fs)):∃ mA,Er h a dx C mA/\(∀ f,mD (fs.lookup f) (mA f))/\PySem.Within mA (fs.map (·.1))/\fs.length<=1000/\H dx=some (.own a):=by
 obtain ⟨d,z,ne,ob,mA,n,r,q⟩:=(show cJ P w H h a (.ins C dx fs) from hok a _ e)
 exact ⟨mA,⟨ob,n,ne⟩,r,q,z,d⟩
end
structure tK (K:PySem.W.Frag)(C:Addr):Prop where
 pg:PySem.W.plainGet K C Str.empty=true
 hd:PySem.W.hasDictIn K C=true
 po:PySem.W.plainOver K C=true
 sa:PySem.W.findIn K (.ref C) "__setattr__" = some (some (.builtin "object.__setattr__"))
theorem tK.get {K:PySem.W.Frag}{C:Addr}(c:tK K C)(f:Str):PySem.W.plainGet K C f=true:=c.pg
def cA (K:PySem.W.Frag)(C:Addr)(f:Str):Prop:=PySem.W.findIn K (.ref C) f=some none
theorem cA.taker {K:PySem.W.Frag}{C:Addr}{f:Str}(n:cA K C f):PySem.W.takerIn K C f=some none:=by
 unfold PySem.W.takerIn;rw [show PySem.W.findIn K (.ref C) f=some none from n]
 rfl
structure cF (K:PySem.W.Frag)(C:Addr)(m:Str)(f:Addr):Prop where
 at_:PySem.W.findIn K (.ref C) m=some (some (.ref f))
 fn:PySem.W.isFn K (.ref f)=true
 kp:PySem.W.keepIn K (.ref f)=true
section
variable {X:Cx}{pins:List (Addr×Obj)}{σ:St}{H:Hp}{s:Shared}{a C dx:Addr}{fs:List (Str×V)}{f:Str}{v:V}{A:Around}{E:Value->Shared->Prop}
theorem Fj {b:Bool}{Q:Value->Shared->Prop}(I:aZ X pins σ H s)(e:H a=some (.ins C dx fs))(c:tK X.K C)(n:cA X.K C f)(l:fs.lookup f=some v)
  (h:∀ u s',aZ X pins σ H s'->RelV v u->Q u s'):wpAny (model X.prog X.w) A (getAttr (.ref a) f b) Q E s:=by
 obtain ⟨mA,O,r,_,_,_⟩:=qX I.hok e;obtain ⟨u,hu,ru⟩:=mD.some_of (v:=v) (o:=mA f) (by rw [<- l]; exact r f);exact Nt I.kIn O (c.get f) c.hd n hu (Ho ru) (h u _ (I.tok _) ru)
theorem pB {m:Str}{g:Addr}{pl:Sem Bool}{Q:Value×List Value->Shared->Prop}(I:aZ X pins σ H s)(e:H a=some (.ins C dx fs))(c:tK X.K C)(k:cF X.K C m g)(l:fs.lookup m=none)
  (h:Q (.ref g,[.ref a]) s):wpAny (model X.prog X.w) A (getMethod (.ref a) m pl) Q E s:=by
 obtain ⟨mA,O,r,_,_,_⟩:=qX I.hok e;have hn:mA m=none:=mD.none_of (by rw [<- l]; exact r m);exact LQ I.kIn O (c.get m) k.at_ k.fn hn h
theorem Em {y:V}{u:Value}{Q:Unit->Shared->Prop}(I:aZ X pins σ H s)(e:H a=some (.ins C dx fs))(c:tK X.K C)(n:cA X.K C f)(hl:fs.length<1000)(ry:RelV y u)
  (h:∀ s',aZ X pins σ (aX H a (.ins C dx (b8 f y fs))) s'->Q () s'):wpAny (model X.prog X.w) A (setAttr (.ref a) f u) Q E s:=by
 obtain ⟨mA,O,r,wi,_,ho⟩:=qX I.hok e;have hz:(fs.map (·.1)).length<=sizeLine:=by rw [aI8,sizeLine_eq]; omega
 refine O6 I.kIn O c.sa c.po n.taker c.hd wi hz fun h' O' sb=>h _ ?_;have hd:∃ o,h'.get? dx=some o:=let ⟨o,_,_,e',_⟩:=O'.ns; ⟨o,e'⟩;refine I.write (x:=a) (e:=dx) (by rw [e]; exact True.intro) (.inr ho) (fun b q hb z=>(sb.2 b hb).trans z) hd ?_;refine ⟨by rw [aK O.ne]; exact ho,?_,O.ne,O'.obj,_,O'.ns,fun g=>?_,fun g hg=>?_⟩
 ·have:=tZ f y fs; omega
 ·show mD ((b8 f y fs).lookup g) (if g=f then some u else mA g);rw [sY]
  by_cases q:g=f
  ·rw [if_pos q,if_pos q]; exact ry
  ·rw [if_neg q,if_neg q]; exact r g
 ·by_cases q:g=f
  ·rw [q]; exact (rM f y fs).1
  ·refine (rM f y fs).2 g (wi g fun z=>hg ?_);show (if g=f then some u else mA g)=none;rw [if_neg q]; exact z
theorem aZ.made (I:aZ X pins σ H s):aZ X pins σ (aX (aX H s.heap.objs.size (.own (s.heap.objs.size+1))) (s.heap.objs.size+1) (.ins C s.heap.objs.size []))
  { s with heap:=(s.heap.push PySem.W.emptyDict).push (PySem.W.instObj C s.heap.objs.size) }:=by
 have e1:(s.heap.push PySem.W.emptyDict).get? s.heap.objs.size=some PySem.W.emptyDict:=aJr s.heap rfl;have e2:((s.heap.push PySem.W.emptyDict).push (PySem.W.instObj C s.heap.objs.size)).get? (s.heap.objs.size+1)=some (PySem.W.instObj C s.heap.objs.size):=by
  have:=aJr (s.heap.push PySem.W.emptyDict) (o:=PySem.W.instObj C s.heap.objs.size) rfl
  rwa [aLM] at this
 have e3:(s.heap.push PySem.W.emptyDict).Ns s.heap.objs.size (fun _=>none):=⟨PySem.W.emptyDict,#[],_,e1,rfl,(fun e he=>absurd he (by simp)),fun _=>rfl⟩
 have I1:=I.laid (a:=s.heap.objs.size) (o:=.own (s.heap.objs.size+1)) (h':=s.heap.push PySem.W.emptyDict) (t':=s.toks) (fun b u q=>aJb _ q) (aJd _) ⟨_,e1⟩;refine I1.laid (a:=s.heap.objs.size+1) (o:=.ins C s.heap.objs.size []) (t':=s.toks) (fun b u q=>aJb _ q) (aLv (aLM _ _)) ?_;have ne:s.heap.objs.size≠s.heap.objs.size+1:=aJB (aKK _);refine ⟨by rw [aK ne,aB],aJD _,ne,e2,fun _=>none,(Heap.Ns1.of_empty e3).at fun o q=>aJb _ q,fun _=>True.intro,fun y hy=>absurd rfl hy⟩
theorem Mi {prog:Program}{w:World}{env:Env}{e:Expr}{f:Str}{pos:Pos}{s:Shared}{Q:Value->Shared->Prop}(hb:attributeBase e f env (eval e env)=eval e env)
  (h:wpAny (model prog w) A (eval e env) (fun o s₁=>wpAny (model prog w) A (getAttr o f true) Q E s₁) E s):wpAny (model prog w) A (eval (.Attribute e f pos) env) Q E s :=
 Attribute_any_ h (by rw [arm_eval_Attribute,hb])
end
def ZS (K:PySem.W.Frag)(ta:TE)(f:Str):TE:=fun σ H Q=>ta σ H fun x H1=>∃ a C dx fs v,x=.ref a/\H1 a=some (.ins C dx fs)/\tK K C/\cA K C f/\fs.lookup f=some v/\Q v H1
def aAn (K:PySem.W.Frag)(ta tv:TE)(f:Str):TS:=fun D σ H=>tv σ H fun y H1=>ta σ H1 fun x H2=>∃ a C dx fs,x=.ref a/\H2 a=some (.ins C dx fs)/\tK K C/\cA K C f/\fs.length<1000 ∧
 D.nx σ (aX H2 a (.ins C dx (b8 f y fs)))
section
variable {X:Cx}{o e value:Expr}{f:Str}{pos pos' tpos:Pos}{ta tv:TE}
theorem dI (he:PE X e ta)(hb:attributeBase e f X.env (eval e X.env)=eval e X.env):PE X (.Attribute e f pos) (ZS X.K ta f):=by
 intro pins s σ H Q I h;refine Mi hb (dH (he pins s σ H _ I h) fun u s1 ⟨x,H1,I1,rx,a,C,dx,fs,v,ex,ea,c,n,l,q⟩=>?_);subst ex;obtain rfl:u=Value.ref a:=rx;exact Fj I1 ea c n l fun u' s2 I2 ru=>⟨v,H1,I2,ru,q⟩
theorem dF (ha:PE X o ta)(hv:PE X value tv)(hs:swapsWith value (some (.Attribute o f pos')) pos.line X.env=pure false):PS X (.Assign [.Attribute o f pos'] value pos) (aAn X.K ta tv f):=by
 intro pins s σ H D I h;refine plainObj_wpAny_Assign_Attribute (dH (hv pins s σ H _ I h) fun u s1 ⟨y,H1,I1,ry,q⟩=>dH (ha pins s1 σ H1 _ I1 q) fun ov s2 ⟨x,H2,I2,rx,a,C,dx,fs,ex,ea,c,n,l,q2⟩=>?_) hs;subst ex;obtain rfl:ov=Value.ref a:=rx;exact Em I2 ea c n l ry fun s3 I3=>⟨σ,_,I3,q2⟩
theorem Ot {pl:Sem Bool}{m:Str}{apos:Pos}{args:List Expr}{pins:List (Addr×Obj)}{s:Shared}{σ:St}{H:Hp}{Q:Value->Shared->Prop}{te:TE}(he:PE X e te)(I:aZ X pins σ H s)
  (h:te σ H fun x H1=>∃ a C dx fs g,x=.ref a/\H1 a=some (.ins C dx fs)/\tK X.K C/\cF X.K C m g/\fs.lookup m=none ∧
   ∀ s1,aZ X pins σ H1 s1->wpAny (model X.prog X.w) X.A (callWith pos (.ref g) [.ref a] (backTo pos (starEach args X.env)) (backToKw pos (keywordEach [] X.env))) Q X.xe s1)
  (ht:eval (.Call (.Attribute e m apos) args [] pos) X.env=(do
   let ov <- eval e X.env
   standAt apos.atName
   let (f,first) <- holding [ov] (getMethod ov m pl)
   callWith pos f first (backTo pos (starEach args X.env)) (backToKw pos (keywordEach [] X.env)))) :
  wpAny (model X.prog X.w) X.A (eval (.Call (.Attribute e m apos) args [] pos) X.env) Q X.xe s:=by
 refine PySem.W.methodCall_KW (pl:=pl) (dH (he pins s σ H _ I h) fun u s1 ⟨x,H1,I1,rx,a,C,dx,fs,g,ex,ea,c,k,l,q⟩=>?_) ht;subst ex;obtain rfl:u=Value.ref a:=rx;exact pB I1 ea c k l (q s1 I1)
end
section
variable {X:Cx}{pins:List (Addr×Obj)}{σ:St}{H:Hp}{s:Shared}{A:Around}{E:Value->Shared->Prop}{Q:Value->Shared->Prop}{c:Value}{b:Bool}
inductive gF (K:PySem.W.Frag)(H:Hp):V->Value->Prop where
 | non:gF K H .non (.type "NoneType")
 | bl (x:Bool):gF K H (.bl x) (.type "bool")
 | int (i:Int):gF K H (.int i) (.type "int")
 | str (x:Str):gF K H (.str x) (.type "str")
 | flt (x:UInt64):gF K H (.flt x) (.type "float")
 | lst {a:Addr}{xs:List V} (e:H a=some (.lst xs)):gF K H (.ref a) (.type "list")
 | frz {a:Addr}{o:Obj}{xs:List V} (e:H a=some (.frz o (.lst xs))):gF K H (.ref a) (.type "list")
 | tup {a:Addr}{xs:List V} (e:H a=some (.tup xs)):gF K H (.ref a) (.type "tuple")
 | dK {a:Addr}{kvs:List (Key×V)} (e:H a=some (.dK kvs)):gF K H (.ref a) (.type "dict")
 | dT {a:Addr}{kvs:List (List Key×V)} (e:H a=some (.dT kvs)):gF K H (.ref a) (.type "dict")
 | ins {a C dx:Addr}{fs:List (Str×V)} (e:H a=some (.ins C dx fs)) (cl:tK K C) (ha:PySem.W.findIn K (.ref C) "__class__" = some (some (.builtin "object.__class__")))
   (hn:PySem.W.specialIn K (.builtin "object.__class__") "__get__" = some (some (.builtin "getset_descriptor.__get__"))) (htk:PySem.W.takesIn K (.builtin "object.__class__")=some true)
   (hm:PySem.W.mroIn K C (.type "object")=some true):gF K H (.ref a) (.ref C)
theorem yR {x:V}{u t:Value}(I:aZ X pins σ H s)(rx:RelV x u)(ty:gF X.K H x t)(e:PySem.W.kitOne X.K t c=some b)(h:∀ tk,Q (.bool b) { s with toks:=tk }) :
  wpAny (model X.prog X.w) A (call (.builtin "isinstance") [u,c]) Q E s:=by
 cases ty with
 | non=>cases (show u=Value.none from rx); exact PySem.W.kia_one PySem.W.kitx_none I.kIn True.intro e (fun z=>nomatch z) h
 | bl y=>cases (show u=Value.bool y from rx); exact PySem.W.kia_one PySem.W.kitx_bool I.kIn True.intro e (fun z=>nomatch z) h
 | int i=>obtain ⟨t,q⟩:=(show ∃ t,u=Value.int i t from rx); cases q; exact PySem.W.kia_one PySem.W.kitx_int I.kIn True.intro e (fun z=>nomatch z) h
 | str y=>obtain ⟨t,q⟩:=(show ∃ t,u=Value.str y t from rx); cases q; exact PySem.W.kia_one PySem.W.kitx_str I.kIn True.intro e (fun z=>nomatch z) h
 | flt y=>obtain ⟨t,q⟩:=(show ∃ t,u=Value.float y t from rx); cases q; exact PySem.W.kia_one PySem.W.kitx_float I.kIn True.intro e (fun z=>nomatch z) h
 | @lst a xs ea =>
  cases (show u=Value.ref a from rx);obtain ⟨_,_,n,_,h1⟩:=(show cJ X.prog X.w H s.heap a (.lst xs) from I.hok a _ ea)
  exact PySem.W.kia_one PySem.W.kitx_list I.kIn ⟨_,h1,rfl⟩ e (fun z=>nomatch z) h
 | @frz a ob xs ea =>
  cases (show u=Value.ref a from rx);obtain ⟨_,_,_,n,_,h1⟩:=(show cJ X.prog X.w H s.heap a (.frz ob (.lst xs)) from I.hok a _ ea)
  exact PySem.W.kia_one PySem.W.kitx_list I.kIn ⟨_,h1,rfl⟩ e (fun z=>nomatch z) h
 | @tup a xs ea =>
  cases (show u=Value.ref a from rx);obtain ⟨_,_,_,p⟩:=(show cJ X.prog X.w H s.heap a (.tup xs) from I.hok a _ ea)
  obtain ⟨o,h1,h2,_⟩:=p;exact PySem.W.kia_one PySem.W.kitx_tuple I.kIn ⟨o,h1,h2⟩ e (fun z=>nomatch z) h
 | @dK a kvs ea =>
  cases (show u=Value.ref a from rx);obtain ⟨_,_,vs,_,p⟩:=(show cJ X.prog X.w H s.heap a (.dK kvs) from I.hok a _ ea)
  obtain ⟨o,es,ep,h1,h2,_⟩:=p;exact PySem.W.kia_one PySem.W.kitx_dict I.kIn ⟨o,h1,h2.1⟩ e (fun z=>nomatch z) h
 | @dT a kvs ea =>
  cases (show u=Value.ref a from rx);obtain ⟨_,_,xs,_,o,es,ep,h1,h2,_⟩:=(show cJ X.prog X.w H s.heap a (.dT kvs) from I.hok a _ ea)
  exact PySem.W.kia_one PySem.W.kitx_dict I.kIn ⟨o,h1,h2.1⟩ e (fun z=>nomatch z) h
 | @ins a C dx fs ea cl ha hn htk hm =>
  cases (show u=Value.ref a from rx);obtain ⟨mA,O,_⟩:=qX I.hok ea;obtain ⟨od,J,_⟩:=O.look;exact PySem.W.kia_one (PySem.W.kitx_own (cl.get _) cl.hd ha hn htk hm) I.kIn J e (fun z=>nomatch z) h
end
structure fM (k:Nat)(A:Around):Prop where
 hd:A.handled=none
 dp:A.depth+3*k+5<recursionLimit
 un:A.units+16*k+200<cLine
theorem fM.mono {j k:Nat}{A:Around}(r:fM k A)(h:j<=k):fM j A:=⟨r.hd,by have:=r.dp; omega,by have:=r.un; omega⟩
theorem fM.deeper {k:Nat}{A:Around}(r:fM (k+1) A)(env:Env):fM k (A.deeper env) :=
 ⟨r.hd,by have:=r.dp; show A.depth+1+3*k+5<_; omega,by have:=r.un; show A.units+3+16*k+200<_; omega⟩
theorem Ek {A:Around}{C:Addr}{us:List Value}{kw:List (Str×Value)}:(A.under (.builtin "type.__call__" ⟨.ref C::us,kw⟩)).depth=A.depth+1:=by
 first | rfl | simp [Around.under,Code.weight,Code.isCreation,Code.isGuard,Code.isCaller,Code.frames,Code.isFrame,guardIds]
theorem Ei {A:Around}{C:Addr}{us:List Value}{kw:List (Str×Value)}:(A.under (.builtin "type.__call__" ⟨.ref C::us,kw⟩)).units=A.units+1:=by
 first | rfl | simp [Around.under,Code.cUnits,Code.frames,Code.isFrame]
theorem fM.make {k:Nat}{A:Around}(r:fM (k+1) A)(C:Addr)(us:List Value)(kw:List (Str×Value)):fM k (A.under (.builtin "type.__call__" ⟨.ref C::us,kw⟩)) :=
 ⟨r.hd,by have:=r.dp; rw [Ek]; omega,by have:=r.un; rw [Ei]; omega⟩
theorem fM.depth {k:Nat}{A:Around}(r:fM k A):A.depth<recursionLimit:=by have:=r.dp; omega
theorem fM.units {k:Nat}{A:Around}(r:fM k A):A.units+64<cLine:=by have:=r.un; omega
def qR:TA:=fun _ H Q=>Q [] H
def yF (ta:TE)(tr:TA):TA:=fun σ H Q=>ta σ H fun x H1=>tr σ H1 fun xs H2=>Q (x::xs) H2
section
variable {X:Cx}{e:Expr}{es:List Expr}{te:TE}{t:TA}{pos:Pos}
theorem aC:PA X [] qR:=fun _ _ _ _ H Q I h=>Calls.spliced_nil ⟨[],H,I,.nil,h⟩
theorem aA (ha:PE X e te)(hr:PA X es t)(hs:starEach (e::es) X.env=(false,eval e X.env)::starEach es X.env:=by rfl):PA X (e::es) (yF te t):=by
 intro pos pins s σ H Q I h;rw [hs];show wpAny _ _ (spliced ((false,eval e X.env)::backTo pos (starEach es X.env))) _ _ s;refine Calls.spliced_cons (dH (ha pins s σ H _ I h) fun u s1 ⟨x,H1,I1,r1,q1⟩=>?_);exact dH (hr pos pins s1 σ H1 _ I1 q1) fun us s2 ⟨xs,H2,I2,r2,q2⟩=>⟨x::xs,H2,I2,.cons r1 r2,q2⟩
def aBc (t:TA):TE:=fun σ H Q=>t σ H fun xs H1=>xs.length<=sizeLine/\∀ p,H1 p=none->Q (.ref p) (aX H1 p (.tup xs))
def aDu (t:TA):TE:=fun σ H Q=>t σ H fun xs H1=>xs.length<=sizeLine/\∀ p,H1 p=none->Q (.ref p) (aX H1 p (.lst xs))
theorem cW {x1}(h:PA X es t):PE X (.Tuple es x1 pos) (aBc t):=by
 intro pins s σ H Q I hq;refine wpAny_Tuple_spliced (dH (h pos pins s σ H _ I hq) fun us s1 ⟨xs,H1,I1,r,z,q⟩=>⟨by rw [<- r.length]; exact z,?_⟩);have hf:H1 s1.heap.objs.size=none:=I1.hok.fresh (aJd _);refine ⟨.ref s1.heap.objs.size,aX H1 s1.heap.objs.size (.tup xs),I1.laid (t':=s1.toks) (fun b u e=>aJb _ e) (aJd _) ?_,rfl,q _ hf⟩;exact ⟨z,us,r,⟨_,aJr _ rfl,rfl,_,rfl⟩⟩
theorem iR (h:PA X es t):PE X (.List es pos) (aDu t):=by
 intro pins s σ H Q I hq;refine wpAny_List_spliced (dH (h pos pins s σ H _ I hq) fun us s1 ⟨xs,H1,I1,r,z,q⟩=>⟨by rw [<- r.length]; exact z,?_⟩);have hf:H1 s1.heap.objs.size=none:=I1.hok.fresh (aJd _);refine ⟨.ref s1.heap.objs.size,aX H1 s1.heap.objs.size (.lst xs),I1.laid (t':=s1.toks) (fun b u e=>aJb _ e) (aJd _) ?_,rfl,q _ hf⟩;exact ⟨z,us,0,r,aJr _ rfl⟩
end
abbrev Sp:=List V->Hp->VK->XK->Prop
abbrev Aj:=List Env->Hp->Shared->XK->Value->Shared->Prop
structure Dw (P:Program)(w:World)(K:PySem.W.Frag)(mg:Str->Option Value)(base:Heap)(A:Around)(outer:List Env)(s:Shared)(H:Hp):Prop where
 frames:A.frames=some outer
 mod:Mod K mg base
 bs:∀ b o,base.get? b=some o->s.heap.get? b=some o/\H b=none
 bsz:base.objs.size<=s.heap.objs.size
 funs:s.heap.FunFrames base outer
 frf:∀ b∈rN outer,H b=none
 hok:nA P w H s.heap
 bare:AllBare s.gens
def CE (outer:List Env)(P:Program)(w:World)(H:Hp)(s:Shared)(Q:VK)(u:Value)(s':Shared):Prop :=
 ∃ v H',s'.os=s.os/\AllBare s'.gens/\Un (rN outer) [] H H' s.heap s'.heap/\nA P w H' s'.heap/\RelV v u/\Q v H'
def CR (CX:Aj)(outer:List Env)(P:Program)(w:World)(H:Hp)(s:Shared)(Q:VK)(E:XK)(r:Result)(s':Shared):Prop :=
 match r with
 | .ok (.ret u)=>CE outer P w H s Q u s'
 | .ok _=>False
 | .error e=>CX outer H s E e s'
structure aP (P:Program)(w:World)(K:PySem.W.Frag)(mg:Str->Option Value)(base:Heap)(CX:Aj)(k:Nat)(f:Addr)(fd:FuncData)(ps:List Str)(sp:Sp):Prop where
 len:∀ vs H Q E,sp vs H Q E->vs.length=ps.length
 run:∀ (A:Around) (outer:List Env) (s:Shared) (H:Hp) (args:Args) (us:List Value) (vs:List V) (Q:VK) (E:XK),fM k A->Dw P w K mg base A outer s H->BindsTo s fd args (ps.zip us)->bK vs us->sp vs H Q E ->
  codeAny (model P w) A (.call (.ref f) args) (CR CX outer P w H s Q E) s
theorem aP.mono {P:Program}{w:World}{K:PySem.W.Frag}{mg:Str->Option Value}{base:Heap}{CX:Aj}{j k:Nat}{f:Addr}{fd:FuncData}{ps:List Str}{sp:Sp}(F:aP P w K mg base CX j f fd ps sp)(h:j<=k) :
  aP P w K mg base CX k f fd ps sp:=⟨F.len,fun A outer s H args us vs Q E hr=>F.run A outer s H args us vs Q E (hr.mono h)⟩
theorem aP.imp {P:Program}{w:World}{K:PySem.W.Frag}{mg:Str->Option Value}{base:Heap}{CX:Aj}{k:Nat}{f:Addr}{fd:FuncData}{ps:List Str}{sp sp':Sp}(F:aP P w K mg base CX k f fd ps sp)
  (h:∀ vs H Q E,sp' vs H Q E->sp vs H Q E):aP P w K mg base CX k f fd ps sp' :=
 ⟨fun vs H Q E q=>F.len vs H Q E (h _ _ _ _ q),fun A outer s H args us vs Q E hr he hb hv hs=>F.run A outer s H args us vs Q E hr he hb hv (h _ _ _ _ hs)⟩
theorem Dw.make {P:Program}{w:World}{K:PySem.W.Frag}{mg:Str->Option Value}{base:Heap}{A:Around}{outer:List Env}{s:Shared}{H:Hp}(e:Dw P w K mg base A outer s H)(C:Addr)(us:List Value)(kw:List (Str×Value)) :
  Dw P w K mg base (A.under (.builtin "type.__call__" ⟨.ref C::us,kw⟩)) outer s H:=⟨by first | exact e.frames | (simpa [Around.under,Code.envs,Code.isFrame,pushEnvs] using e.frames),e.mod,e.bs,e.bsz,e.funs,e.frf,e.hok,e.bare⟩
section
variable {X:Cx}{pins:List (Addr×Obj)}{σ:St}{H:Hp}{s s':Shared}
theorem aZ.env0 (I:aZ X pins σ H s):Dw X.prog X.w X.K X.mg X.base X.A X.stack s H :=
 ⟨I.ok.frames,I.ok.mod,I.bs,aJc I.ok.bsz I.sz,I.stack,I.stkFree,I.hok,I.bare⟩
theorem aZ.after {Q:VK}{u:Value}(I:aZ X pins σ H s)(h:CE X.stack X.prog X.w H s Q u s'):EP X pins σ Q u s':=by
 obtain ⟨v,H',os,bare,un,hok,r,q⟩:=h;obtain ⟨hh,g,d,t,os'⟩:=s';obtain rfl:os'=s.os:=os;exact ⟨v,H',I.call (h':=hh) (g':=g) (d':=d) (t':=t) (ch:=[]) un hok bare (fun b z=>absurd z (by simp)),r,q⟩
end
def Ci (sp:Sp)(dvs:List V)(E:XK)(t:TA):TE:=fun σ H Q=>t σ H fun vs H1=>sp (vs++dvs) H1 Q E
def kI (C:Addr)(m:Str)(sp:Sp)(dvs:List V)(E:XK)(ta:TE)(t:TA):TE:=fun σ H Q=>ta σ H fun x H1=>∃ a dx fs,x=.ref a/\H1 a=some (.ins C dx fs)/\fs.lookup m=none ∧
 t σ H1 fun vs H2=>sp (x::(vs++dvs)) H2 Q E
def Sv (C:Addr)(sp:Sp)(dvs:List V)(E:XK)(t:TA):TE:=fun σ H Q=>t σ H fun vs H1=>∀ x dx,H1 x=none->H1 dx=none->dx≠x ->
 sp (.ref x::(vs++dvs)) (aX (aX H1 dx (.own x)) x (.ins C dx [])) (fun v H2=>v=.non/\Q (.ref x) H2) E
def Binds (K:PySem.W.Frag)(fd:FuncData)(ps:List Str)(ds:List Value):Prop :=
 ∀ (s:Shared) (us:List Value),K.In s.heap->(us++ds).length=ps.length->BindsTo s fd ⟨us,[]⟩ (ps.zip (us++ds))
theorem Binds.all {K:PySem.W.Frag}{fd:FuncData}{ps:List Str}(h:∀ us:List Value,us.length=ps.length->bindArgs fd ⟨us,[]⟩=pure (ps.zip us)):Binds K fd ps []:=fun s us _ hl=>by
 rw [aJZ] at hl ⊢;exact .of_eq (h us hl)
def jC (CX:Aj)(X:Cx)(E:XK):Prop:=∀ (pins:List (Addr×Obj)) (σ:St) (H:Hp) (s:Shared) (e:Value) (s':Shared),aZ X pins σ H s->CX X.stack H s E e s'->X.xe e s'
section
variable {X:Cx}{CX:Aj}{k:Nat}{f C:Addr}{fd:FuncData}{ps:List Str}{sp:Sp}{dvs:List V}{ds:List Value}{E:XK}{x m:Str}{p pos apos:Pos}{e o:Expr}{es:List Expr}{ta:TE}{t:TA}
theorem zP {pins:List (Addr×Obj)}{σ:St}{H:Hp}{s:Shared}{Q:VK}{us:List Value}{vs:List V}(F:aP X.prog X.w X.K X.mg X.base CX k f fd ps sp)(hr:fM k X.A)(hb:Binds X.K fd ps ds)(hd:bK dvs ds)(hx:jC CX X E)
  (I:aZ X pins σ H s) (r:bK vs us) (h:sp (vs++dvs) H Q E):wpAny (model X.prog X.w) X.A (call (.ref f) us) (EP X pins σ Q) X.xe s:=by
 have r2:bK (vs++dvs) (us++ds):=r.append hd;have hl:(us++ds).length=ps.length:=by rw [<- r2.length]; exact F.len _ _ _ _ h
 refine wpAny_call (codeAny_mono (F.run X.A X.stack s H ⟨us,[]⟩ (us++ds) (vs++dvs) Q E hr I.env0 (hb s us I.kIn hl) r2 h) fun r s' hq=>?_);cases r with
 | error e=>exact hx pins σ H s e s' I hq
 | ok fl =>
  cases fl with
  | ret u=>exact I.after hq
  | next=>exact False.elim hq
  | brk=>exact False.elim hq
  | cont=>exact False.elim hq
theorem Gn (F:aP X.prog X.w X.K X.mg X.base CX k f fd ps sp)(hr:fM k X.A)(hg:Gl X x)(hm:X.mg x=some (.ref f))(hk:PySem.W.keepIn X.K (.ref f)=true)(hb:Binds X.K fd ps ds)(hd:bK dvs ds)(hx:jC CX X E)
  (ha:PA X (e::es) t) (hdb:(x==("__debug__" : Str))=false:=by decide) (he:starEach (e::es) X.env=(false,eval e X.env)::starEach es X.env:=by rfl) (hpl:(backTo pos (starEach es X.env)).any (·.1)=false:=by rfl) :
  PE X (.Call (.Name x p) (e::es) [] pos) (Ci sp dvs E t):=by
 intro pins s σ H Q I h;refine wpAny_Call_Name_kw (qK I hg hm ?_ hdb);refine PySem.W.callWith_K (h₀:=X.base) I.ok.mod.kin hk (dH (ha pos pins s σ H _ I h) fun us s1 ⟨vs,H1,I1,r,q⟩=>⟨I1.kIn,?_⟩) he hpl;exact zP F hr hb hd hx I1 r q
theorem bT {pl:Sem Bool}(he:PE X o ta)(c:tK X.K C)(hm:cF X.K C m f)(F:aP X.prog X.w X.K X.mg X.base CX k f fd ps sp)(hr:fM k X.A)(hb:Binds X.K fd ps ds)(hd:bK dvs ds)(hx:jC CX X E)(ha:PA X (e::es) t)
  (hst:starEach (e::es) X.env=(false,eval e X.env)::starEach es X.env:=by rfl) (hpl:(backTo pos (starEach es X.env)).any (·.1)=false:=by rfl)
  (ht:eval (.Call (.Attribute o m apos) (e::es) [] pos) X.env=(do
   let ov <- eval o X.env
   standAt apos.atName
   let (f,first) <- holding [ov] (getMethod ov m pl)
   callWith pos f first (backTo pos (starEach (e::es) X.env)) (backToKw pos (keywordEach [] X.env))):=by rfl) :
  PE X (.Call (.Attribute o m apos) (e::es) [] pos) (kI C m sp dvs E ta t):=by
 intro pins s σ H Q I h;refine PySem.W.methodCall_KW (pl:=pl) (dH (he pins s σ H _ I h) fun u s1 ⟨x,H1,I1,rx,a,dx,fs,ex,ea,l,q⟩=>?_) ht;subst ex;obtain rfl:u=Value.ref a:=rx;refine pB I1 ea c hm l ?_;refine PySem.W.callWith_K (first:=[.ref a]) (h₀:=X.base) I.ok.mod.kin hm.kp (dH (ha pos pins s1 σ H1 _ I1 q) fun us s2 ⟨vs,H2,I2,r,q2⟩=>⟨I2.kIn,?_⟩) hst hpl;exact zP (us:=.ref a::us) (vs:=.ref a::vs) F hr hb hd hx I2 (.cons rfl r) q2
theorem bF {pl:Sem Bool}(he:PE X o ta)(c:tK X.K C)(hm:cF X.K C m f)(F:aP X.prog X.w X.K X.mg X.base CX k f fd ps sp)(hr:fM k X.A)(hb:Binds X.K fd ps ds)(hd:bK dvs ds)(hx:jC CX X E)
  (ht:eval (.Call (.Attribute o m apos) [] [] pos) X.env=(do
   let ov <- eval o X.env
   standAt apos.atName
   let (f,first) <- holding [ov] (getMethod ov m pl)
   callWith pos f first (backTo pos (starEach [] X.env)) (backToKw pos (keywordEach [] X.env))):=by rfl) :
  PE X (.Call (.Attribute o m apos) [] [] pos) (kI C m sp dvs E ta qR):=by
 intro pins s σ H Q I h;refine PySem.W.methodCall_KW (pl:=pl) (dH (he pins s σ H _ I h) fun u s1 ⟨x,H1,I1,rx,a,dx,fs,ex,ea,l,q⟩=>?_) ht;subst ex;obtain rfl:u=Value.ref a:=rx;refine pB I1 ea c hm l ?_;exact PySem.W.callWith_K0 (first:=[.ref a]) I1.kIn hm.kp (zP (us:=[.ref a]) (vs:=[.ref a]) F hr hb hd hx I1 (.cons rfl .nil) q)
structure Mk (K:PySem.W.Frag)(C f:Addr):Prop where
 makes:PySem.W.makesIn K C=true
 init:PySem.W.findIn K (.ref C) "__init__" = some (some (.ref f))
 fn:PySem.W.isFn K (.ref f)=true
 kp:PySem.W.keepIn K (.ref C)=true
theorem Jm {pins:List (Addr×Obj)}{σ:St}{H:Hp}{s:Shared}{Q:VK}{us:List Value}{vs:List V}(M:Mk X.K C f)(F:aP X.prog X.w X.K X.mg X.base CX k f fd ps sp)(hr:fM (k+1) X.A)(hb:Binds X.K fd ps ds)(hd:bK dvs ds)
  (hx:jC CX X E) (I:aZ X pins σ H s) (r:bK vs us)
  (h:∀ x dx,H x=none->H dx=none->dx≠x->sp (.ref x::(vs++dvs)) (aX (aX H dx (.own x)) x (.ins C dx [])) (fun v H2=>v=.non/\Q (.ref x) H2) E) :
  wpAny (model X.prog X.w) X.A (call (.ref C) us) (EP X pins σ Q) X.xe s:=by
 have hq:=h (s.heap.objs.size+1) s.heap.objs.size (I.hok.fresh (aKU _)) (I.hok.fresh (aJd _)) (aJB (aKK _));have I2:=aZ.made (C:=C) I;have r2:bK (V.ref (s.heap.objs.size+1)::(vs++dvs)) (Value.ref (s.heap.objs.size+1)::(us++ds)):=.cons rfl (r.append hd);have hl:(Value.ref (s.heap.objs.size+1)::us++ds).length=ps.length:=by
  have e:=r2.length;rw [F.len _ _ _ _ hq] at e;exact e.symm
 refine wpAny_call (J0 (f:=f) I.kIn M.makes M.init (beq_iff_eq.mp M.fn) (codeAny_mono (F.run _ X.stack _ _ ⟨Value.ref (s.heap.objs.size+1)::us,[]⟩ (Value.ref (s.heap.objs.size+1)::(us++ds)) _ _ E (hr.make C us [])
  (I2.env0.make C us []) (hb _ (Value.ref (s.heap.objs.size+1)::us) I2.kIn hl) r2 hq) fun r s' hq'=>?_))
 cases r with
 | error e=>exact hx pins σ _ _ e s' I2 hq'
 | ok fl =>
  cases fl with
  | ret u =>
   obtain ⟨v,H',I3,rv,ev,q3⟩:=I2.after hq';subst ev;exact ⟨rv,⟨V.ref (s.heap.objs.size+1),H',I3,rfl,q3⟩⟩
  | next=>exact False.elim hq'
  | brk=>exact False.elim hq'
  | cont=>exact False.elim hq'
theorem jL (M:Mk X.K C f)(F:aP X.prog X.w X.K X.mg X.base CX k f fd ps sp)(hr:fM (k+1) X.A)(hg:Gl X x)(hm:X.mg x=some (.ref C))(hb:Binds X.K fd ps ds)(hd:bK dvs ds)(hx:jC CX X E)
  (ha:PA X (e::es) t) (hdb:(x==("__debug__" : Str))=false:=by decide) (he:starEach (e::es) X.env=(false,eval e X.env)::starEach es X.env:=by rfl) (hpl:(backTo pos (starEach es X.env)).any (·.1)=false:=by rfl) :
  PE X (.Call (.Name x p) (e::es) [] pos) (Sv C sp dvs E t):=by
 intro pins s σ H Q I h;refine wpAny_Call_Name_kw (qK I hg hm ?_ hdb);refine PySem.W.callWith_K (h₀:=X.base) I.ok.mod.kin M.kp (dH (ha pos pins s σ H _ I h) fun us s1 ⟨vs,H1,I1,r,q⟩=>⟨I1.kIn,?_⟩) he hpl;exact Jm M F hr hb hd hx I1 r q
end
structure aM (N P:List Str)(sc:Scope):Prop where
 kind:sc.kind=.function
 co:sc.isCoroutine=false
 gen:sc.isGenerator=false
 nd:N.Nodup
 pre:N.take P.length=P
 par:∀ x∈P,sc.names.lookup x=some .local∨sc.names.lookup x=some .cell
 nofree:∀ y∈sc.names,y.2≠.free
theorem yE {kindOf:Str->Option NameKind}{x:Str}:∀ {binds:List (Str×Value)}{m:Str->Option Value},(∀ v,(x,v)∉binds)->bindL kindOf binds m x=m x
 | [],_,_=>rfl
 | (n,v)::r,m,h=>by
  unfold bindL;rw [yE fun w hw=>h w (aI9 _ hw)]
  split
  ·have:x≠n:=by rintro rfl; exact h v aJa
   simp [this]
  ·rfl
theorem xU {kindOf:Str->Option NameKind}{x:Str}:∀ {binds:List (Str×Value)}{m:Str->Option Value},(∀ v,(x,v)∉binds)->bindC kindOf binds m x=m x
 | [],_,_=>rfl
 | (n,v)::r,m,h=>by
  unfold bindC;rw [xU fun w hw=>h w (aI9 _ hw)]
  split
  ·rfl
  ·have:x≠n:=by rintro rfl; exact h v aJa
   simp [this]
theorem xQ {kindOf:Str->Option NameKind}{x:Str}{v:Value}:∀ {P:List Str}{vs:List Value}{i:Nat}{m:Str->Option Value},P.Nodup->P[i]? = some x->vs[i]? = some v->kindOf x=some .local ->
  bindL kindOf (P.zip vs) m x=some v
 | [],_,_,_,_,h,_,_=>by simp at h
 | _::_,[],_,_,_,_,h,_=>by simp at h
 | p::P,w::vs,0,m,nd,h1,h2,hk=>by
  simp at h1 h2; subst h1; subst h2;show bindL kindOf ((p,w)::P.zip vs) m p=_;unfold bindL;rw [yE fun v hv=>(aKl.mp nd).1 (aLD hv).1,if_pos hk];simp
 | p::P,w::vs,i+1,m,nd,h1,h2,hk=>by
  show bindL kindOf ((p,w)::P.zip vs) m x=_;unfold bindL;exact xQ (i:=i) (aKl.mp nd).2 (by simpa using h1) (by simpa using h2) hk
theorem yG {kindOf:Str->Option NameKind}{x:Str}{v:Value}:∀ {P:List Str}{vs:List Value}{i:Nat}{m:Str->Option Value},P.Nodup->P[i]? = some x->vs[i]? = some v->kindOf x≠some .local ->
  bindC kindOf (P.zip vs) m x=some v
 | [],_,_,_,_,h,_,_=>by simp at h
 | _::_,[],_,_,_,_,h,_=>by simp at h
 | p::P,w::vs,0,m,nd,h1,h2,hk=>by
  simp at h1 h2; subst h1; subst h2;show bindC kindOf ((p,w)::P.zip vs) m p=_;unfold bindC;rw [xU fun v hv=>(aKl.mp nd).1 (aLD hv).1,if_neg hk];simp
 | p::P,w::vs,i+1,m,nd,h1,h2,hk=>by
  show bindC kindOf ((p,w)::P.zip vs) m x=_;unfold bindC;exact yG (i:=i) (aKl.mp nd).2 (by simpa using h1) (by simpa using h2) hk
def start (N:List Str)(vs:List V):St:=vs.map some++aJt (N.length-vs.length) none
def wZ (CX:Aj)(P:Program)(w:World)(K:PySem.W.Frag)(mg:Str->Option Value)(base:Heap)(N:List Str)(qual:Str)(scope:Scope)(f:Addr)(cd:Value)(A:Around)(outer:List Env)(s:Shared)(H:Hp)(E:XK):Cx where
 prog:=P
 w:=w
 K:=K
 mg:=mg
 base:=base
 A:=A.deeper (envOfC qual scope s.heap.objs.size f cd)
 N:=N
 s₀:=s
 H₀:=H
 env:=envOfC qual scope s.heap.objs.size f cd
 outer:=outer
 stack:=envOfC qual scope s.heap.objs.size f cd::outer
 ex:=[]
 calm:=true
 fn:=fun _=>true
 pn:=[]
 xe:=fun e s'=>wpAny (model P w) (A.deeper (envOfC qual scope s.heap.objs.size f cd)) (leaving (envOfC qual scope s.heap.objs.size f cd) e) (fun _ s''=>CX outer H s E e s'') (fun e' s''=>CX outer H s E e' s'') s'
theorem Cq {sc:Scope}{n:Nat}{x:Str}(h:sc.names.lookup x=some .cell):∃ c,(cellsFrom n sc.names []).lookup x=some c:=by
 have q:=PySem.W.cellsFrom_some sc.names n [] (.inl h);exact Option.isSome_iff_exists.mp q
theorem Hd {CX:Aj}{P:Program}{w:World}{K:PySem.W.Frag}{mg:Str->Option Value}{base:Heap}{N ps:List Str}{qual:Str}{scope:Scope}{f:Addr}{cd:Value}{A:Around}{outer:List Env}{s s1:Shared}{H:Hp}{E:XK}{us:List Value}{vs:List V}
  (S:aM N ps scope) (hd:A.handled=none) (e0:Dw P w K mg base A outer s H) (hl:vs.length=ps.length) (r:bK vs us)
  (x:InCallC s s.heap.objs.size (bindL (envOfC qual scope s.heap.objs.size f cd).kindOf (ps.zip us) fun _=>none) (cellsFrom (s.heap.objs.size+1) scope.names []) (bindC (envOfC qual scope s.heap.objs.size f cd).kindOf (ps.zip us) fun _=>none) s1) :
  aZ (wZ CX P w K mg base N qual scope f cd A outer s H E) [] (start N vs) H s1:=by
 have hpl:ps.length<=N.length:=by have:=congrArg aKr S.pre; rw [aJz] at this; omega
 obtain ⟨h1,tk,rfl,hk⟩:=x.done;have noA:∀ b:Addr,b∉(wZ CX P w K mg base N qual scope f cd A outer s H E).ex:=fun b z=>absurd (show b∈([]:List Addr) from z) (by simp);refine ⟨⟨e0.mod,S.kind,rfl,rfl,aJd _,fun y z c h1 h2=>?_,fun y hy=>?_,fun y c _ h=>?_,fun _=>hd,Around.frames_deeper e0.frames,.inr ⟨rfl,rfl⟩,fun b z=>absurd z (noA b),e0.bs,e0.bsz,fun b _ _=>noA b,fun b z=>absurd z (noA b),e0.funs,e0.frf⟩,
  rfl,e0.bare,Un.kept hk,⟨_,x.toInCall.ns,fun i y v h1 h2 h3=>?_⟩,fun y c h=>⟨_,x.cell y c h⟩,e0.hok.fresh (aJd _),fun y c h=>?_,fun p hp=>absurd (show p∈([]:List (Addr×Obj)) from hp) (by simp),e0.hok.kept hk,?_⟩
 ·exact name_of_addr x.apart (PySem.mem_of_lookup h1) (PySem.mem_of_lookup h2)
 ·have hy:scope.names.lookup y=some .cell∨scope.names.lookup y=some .free:=hy;rcases hy with hy | hy
  ·exact Cq hy
  ·exact absurd rfl (S.nofree _ (PySem.mem_of_lookup hy))
 ·exact aJH (x.above y c (PySem.mem_of_lookup h))
 ·have hi:i<vs.length:=by
   unfold start at h2
   by_cases hi:i<vs.length
   ·exact hi
   ·rw [aJW (by simpa using hi)] at h2;rw [aLo] at h2
    split at h2 <;> cases h2
  have ha:vs[i]? = some v:=by
   unfold start at h2;rw [aKa (by simpa using hi),aJh] at h2;cases e:vs[i]? with
   | none=>rw [e] at h2; cases h2
   | some a=>rw [e] at h2; cases h2; rfl
  obtain ⟨u,hu,rv⟩:=r.get ha;have hp:ps[i]? = some y:=by
   rw [<- S.pre,List.getElem?_take_of_lt (by omega)]; exact h1
  have ndP:ps.Nodup:=by rw [<- S.pre]; exact S.nd.sublist (List.take_sublist _ _)
  refine ⟨u,rv,?_⟩;rcases S.par y (aJg hp) with k | k
  ·exact .inl ⟨k,xQ ndP hp hu k⟩
  ·obtain ⟨c,e⟩:=Cq (n:=s.heap.objs.size+1) k;refine .inr ⟨.inl k,c,e,?_⟩;have q:=x.cell y c e;rw [yG ndP hp hu (by show scope.names.lookup y≠_; rw [k]; decide)] at q;exact q
 ·exact e0.hok.fresh (aJH (x.above y c (PySem.mem_of_lookup h)))
 ·unfold start;show _=N.length;rw [aJv,aI8,aKb];omega
theorem Kc {CX:Aj}{P:Program}{w:World}{K:PySem.W.Frag}{mg:Str->Option Value}{base:Heap}{k:Nat}{f:Addr}{name qual:Str}{params:Arguments}{body:List Stmt}{scope:Scope}{dV kV doc pm cdv ct oc:Value}{an od:Option Addr}
  {osl:Array (Option Value)}{N ps:List Str}{sp:Sp} (lk:K.lookup f=some ⟨oc,od,.func (PySem.W.fnOf name qual params body scope dV kV doc pm an cdv ct),osl⟩) (hcd:PySem.W.codeIn K cdv qual=true) (S:aM N ps scope)
  (len:∀ vs H Q E,sp vs H Q E->vs.length=ps.length)
  (hbody:∀ (A:Around) (outer:List Env) (s:Shared) (H:Hp) (vs:List V) (Q:VK) (E:XK),fM k (A.deeper (envOfC qual scope s.heap.objs.size f cdv))->sp vs H Q E ->
   ∃ t,yW (wZ CX P w K mg base N qual scope f cdv A outer s H E) body t/\t { nx:=fun _ H'=>Q .non H',rt:=Q } (start N vs) H) :
  aP P w K mg base CX (k+1) f (PySem.W.fnOf name qual params body scope dV kV doc pm an cdv ct) ps sp:=by
 refine ⟨len,fun A outer s H args us vs Q E hr e0 hb r hsp=>?_⟩;have hl:=len _ _ _ _ hsp;have KX:K.In s.heap:=e0.mod.kin.keeps fun b o e=>(e0.bs b o e).1;have lim:s.heap.NoLimit:=e0.mod.nolimit.keeps fun b o e=>(e0.bs b o e).1;have hkind:∀ y∈ps.zip us,scope.names.lookup y.1=some .local∨(scope.names.lookup y.1=some .cell/\((cellsFrom (s.heap.objs.size+1) scope.names []).lookup y.1).isSome=true):=fun ⟨n,v⟩ hy=>by
  rcases S.par n (aLD hy).1 with q | q
  ·exact .inl q
  ·exact .inr ⟨q,PySem.W.cellsFrom_some _ _ _ (.inl q)⟩
 refine codeAny_call_function hr.depth (KX _ _ lk) rfl S.co S.gen rfl (PySem.W.codeRec_of KX hcd) (hb _ _ _ _ ?_);refine wpAny_newFunctionEnv_cells S.kind hkind fun env he s1 x=>?_;subst he;refine ⟨lim.keeps x.toInCall.keep,codeAny_func ?_⟩;obtain ⟨t,ht,hq⟩:=hbody A outer s H vs Q E (hr.deeper _) hsp;have I:aZ (wZ CX P w K mg base N qual scope f cdv A outer s H E) [] (start N vs) H s1:=Hd S hr.hd e0 hl r x;refine wpAny_mono (ht [] s1 (start N vs) H _ I hq) (fun fl s' hs=>?_) fun e s' hs=>hs;have fin:∀ {σ':St}{H':Hp}{v:V}{u:Value},aZ (wZ CX P w K mg base N qual scope f cdv A outer s H E) [] σ' H' s'->RelV v u->Q v H'->CE outer P w H s Q u s' :=
  fun {σ' H' v u} J rv q=>⟨v,H',J.os,J.bare,J.base,J.hok,rv,q⟩
 cases fl with
 | ret u =>
  obtain ⟨v,σ',H',J,rv,q⟩:=hs;exact fin J rv q
 | next =>
  obtain ⟨σ',H',J,q⟩:=hs;exact fin (v:=V.non) (u:=Value.none) J rfl q
 | brk =>
  obtain ⟨_,_,_,q⟩:=hs;exact False.elim q
 | cont =>
  obtain ⟨_,_,_,q⟩:=hs;exact False.elim q
section
variable {X:Cx}{x:Str}{p pos:Pos}{e:Expr}{es:List Expr}{t:TA}{id T:String}{r:List V->Hp->VK->Prop}
def tCB (r:List V->Hp->VK->Prop)(t:TA):TE:=fun σ H Q=>t σ H fun vs H1=>r vs H1 Q
theorem aR (hc:eZ X (.builtin id) r)(hg:Gl X x)(hm:X.mg x=none)(hv:bootBuiltins x=some (.builtin id))(ha:PA X (e::es) t)(hn:x≠"__name__":=by decide)(hdb:(x==("__debug__" : Str))=false:=by decide)
  (he:starEach (e::es) X.env=(false,eval e X.env)::starEach es X.env:=by rfl) (hpl:(backTo pos (starEach es X.env)).any (·.1)=false:=by rfl):PE X (.Call (.Name x p) (e::es) [] pos) (tCB r t):=by
 intro pins s σ H Q I h;refine wpAny_Call_Name_kw (pD I hg hm hv ?_ hn hdb);exact PyProof.Rows.callWith_builtin1 (dH (ha pos pins s σ H _ I h) fun us s1 ⟨vs,H1,I1,r1,q1⟩=>hc pins s1 σ H1 vs us Q I1 r1 q1) he hpl
theorem cY (hc:eZ X (.type T) r)(hg:Gl X x)(hm:X.mg x=none)(hv:bootBuiltins x=some (.type T))(ha:PA X (e::es) t)(hn:x≠"__name__":=by decide)(hdb:(x==("__debug__" : Str))=false:=by decide)
  (he:starEach (e::es) X.env=(false,eval e X.env)::starEach es X.env:=by rfl) (hpl:(backTo pos (starEach es X.env)).any (·.1)=false:=by rfl):PE X (.Call (.Name x p) (e::es) [] pos) (tCB r t):=by
 intro pins s σ H Q I h;refine wpAny_Call_Name_kw (pD I hg hm hv ?_ hn hdb);exact PyProof.Rows.callWith_type1 (dH (ha pos pins s σ H _ I h) fun us s1 ⟨vs,H1,I1,r1,q1⟩=>hc pins s1 σ H1 vs us Q I1 r1 q1) he hpl
end
end L2
namespace HT
open PySem PyProof.Rows
section
variable {prog:Program}{w:World}{A:Around}{E:Value->Shared->Prop}{s:Shared}
theorem Nr {t b:Addr}{vs ws:List Value}{Q:Value->Shared->Prop}(ht:IsTup s.heap t vs.toArray)(hb:IsTup s.heap b ws.toArray)(hv:vs≠[])
  (h1:ws=[]->Q (.ref t) s) (h2:ws≠[]->Q (.ref s.heap.objs.size) { s with heap:=s.heap.push { cls:=.type "tuple",data:=.seq (vs++ws).toArray } })
  (hsz:vs.length+ws.length<=sizeLine):wpAny (model prog w) A (binaryOp .Add (.ref t) (.ref b)) Q E s:=by
 obtain ⟨⟨cls,dd,data,sl⟩,ho,hc,n,hd⟩:=id ht;obtain ⟨⟨cls2,dd2,data2,sl2⟩,ho2,hc2,n2,hd2⟩:=id hb;simp only at hc hd hc2 hd2;subst hc hd hc2 hd2;have e:vs.toArray++ws.toArray=(vs++ws).toArray:=by simp
 by_cases hw:ws=[]
 ·exact concat_meets ⟨_,ho,rfl⟩ ⟨_,ho2,rfl⟩ noFill_tuple_add seq_tuple_add PySem.F.slot_tuple_add PySem.F.entry_tuple_add (PySem.F.args_tuple_add_2 _ _)
   (tuple_addW1 t b vs.toArray ws.toArray n n2 dd dd2 sl sl2 (by simpa using hv) (by simp [hw])) ⟨ho,ho2,h1 hw⟩
 ·refine concat_meets ⟨_,ho,rfl⟩ ⟨_,ho2,rfl⟩ noFill_tuple_add seq_tuple_add PySem.F.slot_tuple_add PySem.F.entry_tuple_add (PySem.F.args_tuple_add_2 _ _)
   (tuple_addW2 t b vs.toArray ws.toArray n n2 dd dd2 sl sl2 (by simpa using hv) (by simpa using hw) (by rw [aJf,aJf]; exact hsz)) ⟨ho,ho2,?_⟩
  rw [e];exact h2 hw
def gG (n d:Nat):Option Int->Nat
 | none=>d
 | some v=>if v<0 then (v+(n:Int)).toNat else min v.toNat n
theorem qF (n d k:Nat):gG n d (some (k:Int))=min k n:=by
 show (if (k:Int)<0 then ((k:Int)+(n:Int)).toNat else min (k:Int).toNat n)=min k n;rw [if_neg (by omega),aKj]
theorem Rb (n d:Nat)(hd:d<=n)(o:Option Int):gG n d o<=n:=by
 cases o with
 | none=>exact hd
 | some v =>
  show (if v<0 then (v+(n:Int)).toNat else min v.toNat n)<=n
  by_cases hv:v<0
  ·rw [if_pos hv]; omega
  ·rw [if_neg hv]; exact Nat.min_le_right _ _
theorem HS (v:Int)(n d:Nat):(if v<0 then max (v+(n:Int)) 0 else min v (n:Int))=((gG n d (some v):Nat):Int):=by
 show (if v<0 then max (v+(n:Int)) 0 else min v (n:Int))=(((if v<0 then (v+(n:Int)).toNat else min v.toNat n):Nat):Int)
 by_cases hv:v<0
 ·simp only [if_pos hv]; omega
 ·simp only [if_neg hv]; omega
theorem Eh (lo hi:Option Int)(n:Nat):Builtin.Slice.sliceAdjust lo hi 1 (n:Int)=(((gG n 0 lo:Nat):Int),((gG n n hi:Nat):Int)):=by
 have h1:¬ ((1:Int)<0):=by omega
 unfold Builtin.Slice.sliceAdjust;simp only [h1,if_false];refine Prod.ext ?_ ?_
 ·cases lo with
  | none=>rfl
  | some v=>exact HS v n 0
 ·cases hi with
  | none=>rfl
  | some v=>exact HS v n n
theorem Fg (i j:Nat):Builtin.Slice.slicePlaces (i:Int) (j:Int) 1=j-i:=by
 unfold Builtin.Slice.slicePlaces;have h1:(1:Int) > 0:=by omega
 simp only [h1,if_true,Int.ediv_one]
 split <;> omega
theorem vW {v:Value}{o:Option Int}{Q:Option Int->Shared->Prop}(p:IsPart v o)(h:Q o s):wpAny (model prog w) A (Builtin.Slice.slicePartIndex v) Q E s:=by
 cases p with
 | none=>exact slicePart_none h
 | int i t=>exact slicePart_int h
theorem rK {sl:Addr}{vl vu:Value}{lo hi:Option Int}{n:Nat}{Q:Int×Int×Nat->Shared->Prop}(hs:s.heap.IsSliceOf sl vl vu .none)(pl:IsPart vl lo)(pu:IsPart vu hi)
  (h:Q (((gG n 0 lo:Nat):Int),1,gG n n hi-gG n 0 lo) s):wpAny (model prog w) A (Builtin.Slice.sliceApplied (.ref sl) (pure (n:Int))) Q E s:=by
 obtain ⟨os,hos,hcs,hds⟩:=id hs;unfold Builtin.Slice.sliceApplied Builtin.Slice.sliceFields;refine wpAny_bind (wpAny_bind (wpAny_field hos hds (x:=vl) rfl (wpAny_bind (wpAny_field hos hds (x:=vu) rfl (wpAny_bind (wpAny_field hos hds (x:=.none) rfl (wpAny_pure ?_)))))));refine wpAny_bind (slicePart_none ?_);show wpAny _ _ (if ((1:Int)==0)=true then _ else _) _ _ s;rw [if_neg (by decide)];refine wpAny_bind (vW pl (wpAny_bind (vW pu (wpAny_bind (wpAny_pure ?_)))));show wpAny _ _ (match Builtin.Slice.sliceAdjust lo hi 1 (n:Int) with | (lo,hi)=>pure (lo,(1:Int),Builtin.Slice.slicePlaces lo hi 1)) _ _ s;rw [Eh lo hi n];show wpAny _ _ (pure (((gG n 0 lo:Nat):Int),(1:Int),Builtin.Slice.slicePlaces ((gG n 0 lo:Nat):Int) ((gG n n hi:Nat):Int) 1)) _ _ s;rw [Fg];exact wpAny_pure h
theorem Kg (xs:Array Value)(i k:Nat):((aKk k).filterMap fun (m:Nat)=>xs[((i:Int)+(m:Int)*1).toNat]?).toArray=((xs.toList.drop i).take k).toArray:=by
 have e:(fun (m:Nat)=>xs[((i:Int)+(m:Int)*1).toNat]?)=fun m=>xs[i+m]?:=by
  funext m
  have:((i:Int)+(m:Int)*1).toNat=i+m:=by omega
  rw [this]
 rw [e];have:=pick_run xs i k;rw [List.filterMap_map] at this;have e2:((fun x=>xs[x]?) ∘ fun x=>i+x)=fun m=>xs[i+m]?:=rfl;rw [e2] at this;rw [this]
theorem pH {t sl:Addr}{items:Array Value}{vl vu:Value}{lo hi:Option Int}{Q:Value->Shared->Prop}(ht:IsTup s.heap t items)(hs:s.heap.IsSliceOf sl vl vu .none)(pl:IsPart vl lo)(pu:IsPart vu hi)
  (hw:¬ (gG items.size 0 lo=0/\gG items.size items.size hi=items.size))
  (h:Q (.ref s.heap.objs.size) { s with heap:=s.heap.push { cls:=.type "tuple",data:=.seq ((items.toList.drop (gG items.size 0 lo)).take (gG items.size items.size hi-gG items.size 0 lo)).toArray } })
  (hsz:items.size<=sizeLine):wpAny (model prog w) A (getItem (.ref t) (.ref sl)) Q E s:=by
 have htake:sizeOk (.seq ((items.toList.drop (gG items.size 0 lo)).take (gG items.size items.size hi-gG items.size 0 lo)).toArray):=by
  show ((items.toList.drop (gG items.size 0 lo)).take (gG items.size items.size hi-gG items.size 0 lo)).toArray.size<=sizeLine;rw [aJf,aJz,aKt,aJI];omega
 have hj:gG items.size items.size hi<=items.size:=Rb _ _ (aJd _) hi;obtain ⟨os,hos,hcs,hds⟩:=id hs;have hTs:s.TypeIs (.ref sl) "slice":=⟨os,hos,hcs⟩
 unfold getItem
 try with_reducible refine wpAny_holding ?_
 first | refine wpAny_bind (wpAny_pure ?_) | skip
 refine wpAny_bind (wpAny_sequenceKey ht.typeIs (by decide) ?_);refine wpAny_bind (wpAny_callSpecial?_slot (name:=Str.ofString "__getitem__") ht.typeIs PyProof.Rows.slot_tuple_getitem
  (wpAny_call_entry PyProof.Rows.slot_tuple_getitem ht.typeIs entry_tuple_getitem ?_ (args_tuple_getitem _ _)))
 show wpAny _ _ (Builtin.Tuple.tupleItemsOf (.ref t) >>= _) _ _ s;refine wpAny_bind (tupleItemsOf_ ht ?_);refine wpAny_bind (wpAny_typeOf hTs ?_);rw [if_pos (by decide)];refine wpAny_bind (rK hs pl pu ?_);have hno:¬ ((((gG items.size 0 lo:Nat):Int)==0&&(1:Int)==1&&(gG items.size items.size hi-gG items.size 0 lo)==items.size)=true):=by
  intro q;rw [aJA,aJA] at q;have q1:((gG items.size 0 lo:Nat):Int)=0:=eq_of_beq q.1.1;have q2:gG items.size items.size hi-gG items.size 0 lo=items.size:=eq_of_beq q.2;exact hw ⟨by omega,by omega⟩
 show wpAny _ _ (if (((gG items.size 0 lo:Nat):Int)==0&&(1:Int)==1&&(gG items.size items.size hi-gG items.size 0 lo)==items.size)=true then _ else _) _ _ s;rw [if_neg hno,Kg]
 first
  | exact wpAny_bind (m:=Builtin.Tuple.tupleExact _) (wpAny_newObj_type (wpAny_pure ⟨_,rfl,wpAny_pure h⟩) htake)
  | exact wpAny_bind (m:=Builtin.Tuple.tupleExact _) (wpAny_newObj_type (wpAny_bind (wpAny_pure (wpAny_pure ⟨_,rfl,wpAny_pure h⟩))) htake)
  | exact wpAny_bind (wpAny_bind (m:=Builtin.Tuple.tupleExact _) (wpAny_newObj_type (wpAny_pure (wpAny_pure ⟨_,rfl,wpAny_pure h⟩)) htake))
  | exact wpAny_bind (wpAny_bind (m:=Builtin.Tuple.tupleExact _) (wpAny_newObj_type (wpAny_pure ⟨_,rfl,wpAny_pure h⟩) htake))
end
end HT
namespace L2
open PySem PySem.Spec PyProof.Rows
abbrev TO:=St->Hp->(Option Int->Hp->Prop)->Prop
def PO (X:Cx)(e:Option Expr)(t:TO):Prop :=
 ∀ (pins:List (Addr×Obj)) (s:Shared) (σ:St) (H:Hp) (Q:Option Int->Hp->Prop),aZ X pins σ H s->t σ H Q ->
  wpAny (model X.prog X.w) X.A (evalPart e X.env) (fun u s'=>∃ o H',aZ X pins σ H' s'/\IsPart u o/\Q o H') X.xe s
def OD:TO:=fun _ H Q=>Q none H
def Vh (t:TE):TO:=fun σ H Q=>t σ H fun x H1=>∃ i,x=.int i/\Q (some i) H1
theorem intsAre_of {ns:List Int}:∀ {us:List Value},bK (ns.map V.int) us->IntsAre us ns:=by
 induction ns with
 | nil=>intro us r; rw [aLw] at r; cases r; exact .nil
 | cons n ns ih =>
  intro us r;rw [aJi] at r;cases r with
  | cons r1 r2 =>
   obtain ⟨t,e⟩:=r1;subst e;exact .cons n t (ih r2)
section
variable {X:Cx}{e:Expr}{te:TE}{lo hi:Option Expr}{tl th:TO}{pos p2:Pos}
theorem Gf:PO X none OD:=by
 intro pins s σ H Q I h;rw [evalPart_none];exact wpAny_pure ⟨none,H,I,.none,h⟩
theorem uW (h:PE X e te):PO X (some e) (Vh te):=by
 intro pins s σ H Q I hw;rw [evalPart_some];refine dH (h pins s σ H _ I hw) fun u s1 ⟨x,H1,I1,r1,q1⟩=>?_;obtain ⟨i,rfl,q⟩:=q1;obtain ⟨t,rfl⟩:=r1;exact ⟨some i,H1,I1,.int i t,q⟩
def SlR (X:Cx)(r:V->Option Int->Option Int->Hp->VK->Prop):Prop :=
 ∀ (pins:List (Addr×Obj)) (s:Shared) (σ:St) (H:Hp) (x:V) (v vl vu:Value) (lo hi:Option Int) (sl:Addr) (Q:VK),aZ X pins σ H s->RelV x v->s.heap.IsSliceOf sl vl vu .none->IsPart vl lo->IsPart vu hi->r x lo hi H Q ->
  ∃ T id,typeLookup (.type T) "__getitem__" = pure (some (.builtin id))/\s.TypeIs v T/\wpAny (model X.prog X.w) X.A (getItem v (.ref sl)) (EP X pins σ Q) X.xe s
def tSl (r:V->Option Int->Option Int->Hp->VK->Prop)(te:TE)(tl th:TO):TE:=fun σ H Q=>te σ H fun x H1=>tl σ H1 fun l H2=>th σ H2 fun u H3=>r x l u H3 Q
theorem vO {r:V->Option Int->Option Int->Hp->VK->Prop}(hr:SlR X r)(he:PE X e te)(hl:PO X lo tl)(hu:PO X hi th):PE X (.Subscript e (.Slice lo hi none p2) pos) (tSl r te tl th):=by
 intro pins s σ H Q I h;refine Subscript_ (dH (he pins s σ H _ I h) fun v s1 ⟨x,H1,I1,r1,q1⟩=>?_);refine wpAny_Slice (dH (hl pins s1 σ H1 _ I1 q1) fun vl s2 ⟨l,H2,I2,pl,q2⟩=>dH (hu pins s2 σ H2 _ I2 q2) fun vu s3 ⟨u,H3,I3,pu,q3⟩=>?_);rw [evalPart_none];refine wpAny_pure ?_;have I4:aZ X pins σ H3 { s3 with heap:=s3.heap.push { cls:=.type "slice",data:=.fields #[vl,vu,.none] } }:=I3.kept (t':=s3.toks) fun b ob q=>aJb _ q;obtain ⟨T,id,hT,ht,hg⟩:=hr pins { s3 with heap:=s3.heap.push { cls:=.type "slice",data:=.fields #[vl,vu,.none] } } σ H3 x v vl vu l u s3.heap.objs.size Q I4 r1 (Heap.IsSliceOf.new ..) pl pu q3;show wpAny (model X.prog X.w) X.A (subscriptTail e (.Slice lo hi none p2) v (.ref s3.heap.objs.size)) (EP X pins σ Q) X.xe { s3 with heap:=s3.heap.push { cls:=.type "slice",data:=.fields #[vl,vu,.none] } };exact tail_any (ops:=[.ref s3.heap.objs.size,v]) ht hT hg (by with_unfolding_all rfl)
def iI (xs:List V)(lo hi:Option Int):List V:=(xs.drop (HT.gG xs.length 0 lo)).take (HT.gG xs.length xs.length hi-HT.gG xs.length 0 lo)
theorem sW (xs:List V)(lo hi:Option Int):(iI xs lo hi).length<=xs.length:=by
 unfold iI;rw [aJz,aKt];omega
def aBd (K:PySem.W.Frag):V->Option Int->Option Int->Hp->VK->Prop:=fun x lo hi H Q=>∃ a xs,x=.ref a/\cV K H a xs ∧
 ¬ (HT.gG xs.length 0 lo=0/\HT.gG xs.length xs.length hi=xs.length)/\∀ p,H p=none->Q (.ref p) (aX H p (.tup (iI xs lo hi)))
theorem LK:SlR X (aBd X.K):=by
 intro pins s σ H x v vl vu lo hi sl Q I rx hs pl pu h;obtain ⟨a,xs,rfl,hx,hw,q⟩:=h;cases rx;obtain ⟨its,r,ht,hz⟩:=I.tuple hx;have hlen:its.toArray.size=xs.length:=by rw [aJf]; exact r.length.symm
 refine ⟨"tuple",_,PyProof.Rows.slot_tuple_getitem.lookup,ht.typeIs,?_⟩;refine HT.pH ht hs pl pu (by rw [hlen]; exact hw) ?_ (by rw [hlen]; exact hz);rw [hlen];refine ⟨.ref s.heap.objs.size,_,I.laid (t':=s.toks) (o:=.tup (iI xs lo hi)) (fun b ob q=>aJb _ q) (aJd _) ?_,rfl,q _ (I.hok.fresh (aJd _))⟩;exact ⟨aJc (sW xs lo hi) hz,_,(r.drop (HT.gG xs.length 0 lo)).take (HT.gG xs.length xs.length hi-HT.gG xs.length 0 lo),IsTup.new _ _⟩
def U9 (K:PySem.W.Frag):R2:=fun x y H Q=>∃ a b xs ys,x=.ref a/\y=.ref b/\cV K H a xs/\cV K H b ys/\xs≠[]/\xs.length+ys.length<=sizeLine ∧
 (ys=[]->Q (.ref a) H)/\(ys≠[]->∀ p,H p=none->Q (.ref p) (aX H p (.tup (xs++ys))))
theorem bK.nil_iff {xs:List V}{us:List Value}(r:bK xs us):us=[]↔xs=[]:=by
 cases r with
 | nil=>simp
 | cons _ _=>simp
theorem Np:mK X (binaryOp .Add) (U9 X.K):=by
 intro pins s σ H x y v u Q I rx ry h;obtain ⟨a,b,xs,ys,rfl,rfl,ha,hb,hx,hz,q1,q2⟩:=h;cases rx;cases ry;obtain ⟨its,r1,p1,_⟩:=I.tuple ha;obtain ⟨its2,r2,p2,_⟩:=I.tuple hb;refine HT.Nr p1 p2 (fun z=>hx (r1.nil_iff.mp z)) (fun z=>⟨.ref a,H,I,rfl,q1 (r2.nil_iff.mp z)⟩) (fun z=>?_) (by rw [<- r1.length,<- r2.length]; exact hz);refine ⟨.ref s.heap.objs.size,_,I.laid (t':=s.toks) (o:=.tup (xs++ys)) (fun b ob q=>aJb _ q) (aJd _) ?_,rfl,q2 (fun w=>z (r2.nil_iff.mpr w)) _ (I.hok.fresh (aJd _))⟩;exact ⟨by rw [aJv]; exact hz,_,r1.append r2,IsTup.new _ _⟩
end
def Fz (n:Nat)(i:Int):Option Nat:=if 0<=i then (if i<n then some i.toNat else none) else if -(n:Int)<=i then some (i+n).toNat else none
def Dv {α:Type}(xs:List α)(i:Int):Option α:=(Fz xs.length i).bind fun j=>xs[j]?
theorem zW {n:Nat}{i:Int}{j:Nat}(h:Fz n i=some j):seqIndex? i n=some j/\j<n/\-(n:Int)<=i/\i<n:=by
 unfold Fz at h
 by_cases h0:0<=i
 ·rw [if_pos h0] at h
  by_cases h1:i<n
  ·rw [if_pos h1] at h;have e:i.toNat=j:=aJU.inj h;exact ⟨by rw [seqIndex_of h0 h1,e],by omega,by omega,h1⟩
  ·rw [if_neg h1] at h; cases h
 ·rw [if_neg h0] at h
  by_cases h1:-(n:Int)<=i
  ·rw [if_pos h1] at h;have e:(i+n).toNat=j:=aJU.inj h;exact ⟨by rw [seqIndex_neg (by omega) h1,e],by omega,h1,by omega⟩
  ·rw [if_neg h1] at h; cases h
theorem HN {α:Type}{xs:List α}{i:Int}{v:α}(h:Dv xs i=some v):∃ j,seqIndex? i xs.length=some j/\xs[j]? = some v/\j<xs.length/\-(xs.length:Int)<=i/\i<xs.length:=by
 unfold Dv at h;cases e:Fz xs.length i with
 | none=>rw [e] at h; cases h
 | some j =>
  rw [e] at h;obtain ⟨h1,h2,h3,h4⟩:=zW e;exact ⟨j,h1,h,h2,h3,h4⟩
theorem dZ {α:Type}{xs:List α}{j:Nat}{v:α}(h:xs[j]? = some v):Dv xs (j:Int)=some v:=by
 have hj:j<xs.length:=(aJl.mp h).1;have e:Fz xs.length (j:Int)=some j:=by
  unfold Fz;rw [if_pos (by omega),if_pos (by omega)]; simp
 unfold Dv; rw [e]; exact h
def Mz (b:Expr):Prop:=∀ o i,subscripted b false o i=operate [o,i] (getItem o i)
def TV (X:Cx)(r:R2):Prop :=
 ∀ (value slice:Expr) (pins:List (Addr×Obj)) (s:Shared) (σ:St) (H:Hp) (x y:V) (v u:Value) (Q:VK),aZ X pins σ H s->RelV x v->RelV y u->r x y H Q ->
  subscripted slice false v u=operate [v,u] (getItem v u)->wpAny (model X.prog X.w) X.A (subscriptTail value slice v u) (EP X pins σ Q) X.xe s
def MtR (X:Cx)(id:String)(r:V->List V->Hp->VK->Prop):Prop :=
 ∀ (pins:List (Addr×Obj)) (s:Shared) (σ:St) (H:Hp) (x:V) (xs:List V) (v:Value) (us:List Value) (Q:VK),aZ X pins σ H s->RelV x v->bK xs us->r x xs H Q ->
  wpAny (model X.prog X.w) X.A (call (.builtin id) (v::us)) (EP X pins σ Q) X.xe s
section
variable {X:Cx}{a b:Expr}{ta tb:TE}{pos:Pos}
theorem bQ {r:R2}(hr:TV X r)(ha:PE X a ta)(hb:PE X b tb)(hs:Mz b):PE X (.Subscript a b pos) (Uz r ta tb):=by
 intro pins s σ H Q I h;exact Subscript_ (Qq ha hb I h fun v u s2 x y H2 I2 rx ry q=>hr a b pins s2 σ H2 x y v u Q I2 rx ry q (hs _ _))
def VG (K:PySem.W.Frag):R2:=fun x y H Q=>∃ p xs i v,x=.ref p/\y=.int i/\bG K H p xs/\Dv xs i=some v/\Q v H
def WW (K:PySem.W.Frag):R2:=fun x y H Q=>∃ p xs i v,x=.ref p/\y=.int i/\cV K H p xs/\Dv xs i=some v/\Q v H
theorem dR:TV X (VG X.K):=by
 intro value slice pins s σ H x y v u Q I rx ry h hs;obtain ⟨p,xs,i,z,rfl,rfl,hq,he,q⟩:=h;cases rx;obtain ⟨t,rfl⟩:=ry;obtain ⟨its,r,pl,hz⟩:=I.list hq;obtain ⟨j,h1,h2,h3,h4,h5⟩:=HN he;obtain ⟨w,ew,rw'⟩:=r.get h2;have hl:=r.length;have hn:=Af;have fin:EP X pins σ Q w s:=⟨z,H,I,rw',q⟩
 by_cases h0:0<=i
 ·have hj:i.toNat=j:=by
   rw [seqIndex_of h0 h5] at h1;exact aJU.inj h1
  exact item_listR pl.isList h0 (by omega) (by rw [hj]; simpa using ew) fin hs
 ·have hj:(i+(its.toArray.size:Int)).toNat=j:=by
   rw [seqIndex_neg (by omega) h4] at h1;rw [aJf,<- hl];exact aJU.inj h1
  exact subscriptTail_builtinR (x:=w) pl.isList.typeIs slot_list_getitem.lookup
   (wpAny_getItem_list_neg (Q:=fun r s'=>r=w/\EP X pins σ Q r s') pl.isList (by omega) (by rw [aJf] <;> omega) (by omega) (by rw [hj]; simpa using ew) ⟨rfl,fin⟩) hs
theorem cQ:TV X (WW X.K):=by
 intro value slice pins s σ H x y v u Q I rx ry h hs;obtain ⟨p,xs,i,z,rfl,rfl,hq,he,q⟩:=h;cases rx;obtain ⟨t,rfl⟩:=ry;obtain ⟨its,r,pl,hz⟩:=I.tuple hq;obtain ⟨j,h1,h2,h3,h4,h5⟩:=HN he;obtain ⟨w,ew,rw'⟩:=r.get h2;have hl:=r.length;have hn:=Af;have fin:EP X pins σ Q w s:=⟨z,H,I,rw',q⟩
 exact subscriptTail_builtinR (x:=w) pl.typeIs slot_tuple_getitem.lookup
  (getItem_tuple (j:=j) (Q:=fun r s'=>r=w/\EP X pins σ Q r s') pl (by omega) (by omega) (by rw [aJf,<- hl]; exact h1) (by simpa using ew) ⟨rfl,fin⟩) hs
theorem Dz (its:List Value)(n j:Nat)(u:Value):Obj.mapSeq (·.setIfInBounds j u) { cls:=.type "list",data:=.seq its.toArray n } = { cls:=.type "list",data:=.seq (its.set j u).toArray n }:=by
 simp [Obj.mapSeq]
theorem aZ.lst {pins:List (Addr×Obj)}{σ:St}{H:Hp}{s:Shared}{p:Addr}{xs:List V}(I:aZ X pins σ H s)(h:H p=some (.lst xs)) :
  ∃ (its:List Value) (n:Nat),bK xs its/\s.heap.get? p=some { cls:=.type "list",data:=.seq its.toArray n }/\xs.length<=sizeLine:=by
 obtain ⟨z,its,n,r,e⟩:=I.hok p _ h;exact ⟨its,n,r,e,z⟩
theorem aZ.lstUpd {pins:List (Addr×Obj)}{σ:St}{H:Hp}{s:Shared}{p:Addr}{xs ys:List V}{its its':List Value}{n n':Nat}{f:Obj->Obj}(I:aZ X pins σ H s)(h:H p=some (.lst xs))
  (ho:s.heap.get? p=some { cls:=.type "list",data:=.seq its.toArray n }) (hf:f { cls:=.type "list",data:=.seq its.toArray n } = { cls:=.type "list",data:=.seq its'.toArray n' }) (r:bK ys its') (hz:ys.length<=sizeLine) (t:Nat) :
  aZ X pins σ (aX H p (.lst ys)) { s with heap:=s.heap.update p f,toks:=t }:=by
 have e:(s.heap.update p f).get? p=some { cls:=.type "list",data:=.seq its'.toArray n' }:=by
  rw [aLI f ho (by rw [hf] <;> rfl),hf]
 refine I.write (x:=p) (e:=p) (by rw [h]; trivial) (.inl rfl) (fun b u hb q=>(aLx _ _ (Ne.symm hb)).trans q) ⟨_,e⟩ ?_;exact ⟨hz,its',n',r,e⟩
def Xk:V->V->V->Hp->(Hp->Prop)->Prop:=fun o i v H Q=>∃ p xs k j,o=.ref p/\i=.int k/\H p=some (.lst xs)/\Fz xs.length k=some j/\Q (aX H p (.lst (xs.set j v)))
theorem set_list:Y8 X Xk:=by
 intro pins s σ H o i v ov iv u Q I ro ri rv h;obtain ⟨p,xs,k,j,rfl,rfl,hp,hj,q⟩:=h;cases ro;obtain ⟨t,rfl⟩:=ri;obtain ⟨its,n,r,ho,hz⟩:=I.lst hp;obtain ⟨h1,h2,h3,h4⟩:=zW hj;have hl:=r.length;have hn:=Af;have I':aZ X pins σ (aX H p (.lst (xs.set j v))) { s with heap:=s.heap.update p (Obj.mapSeq (·.setIfInBounds j u)) } :=
  I.lstUpd hp ho (Dz its n j u) (r.set rv j) (by rw [aJK]; exact hz) s.toks
 by_cases h0:0<=k
 ·have hk:k.toNat=j:=by
   rw [seqIndex_of h0 h4] at h1;exact aJU.inj h1
  exact PySem.W.ki_setAt ho h0 (by omega) (by rw [aJf,<- hl]; exact h4) (by rw [hk]; exact ⟨_,I',q⟩)
 ·have hk:(k+(its.toArray.size:Int)).toNat=j:=by
   rw [seqIndex_neg (by omega) h3] at h1;rw [aJf,<- hl];exact aJU.inj h1
  exact PySem.W.ki_setBack ho (by omega) (by rw [aJf,<- hl]; exact h3) (by omega) (by rw [hk]; exact ⟨_,I',q⟩)
theorem z6 (lo hi:Option Int)(n:Nat):(sliceBounds lo hi none n).1=((HT.gG n 0 lo:Nat):Int)/\(sliceBounds lo hi none n).2.1=((HT.gG n n hi:Nat):Int)/\(sliceBounds lo hi none n).2.2=1:=by
 refine ⟨?_,?_,rfl⟩
 ·cases lo with
  | none=>simp [sliceBounds,HT.gG]
  | some i =>
   simp only [sliceBounds,HT.gG,aL2,show (1:Int) > 0 by decide,if_true]
   by_cases h:i<0
   ·simp only [h,if_true] <;> omega
   ·simp only [h,if_false] <;> omega
 ·cases hi with
  | none=>simp [sliceBounds,HT.gG]
  | some i =>
   simp only [sliceBounds,HT.gG,aL2,show (1:Int) > 0 by decide,if_true]
   by_cases h:i<0
   ·simp only [h,if_true] <;> omega
   ·simp only [h,if_false] <;> omega
theorem wX (its:List Value)(lo hi:Option Int):slicePick its.toArray lo hi none=((its.drop (HT.gG its.length 0 lo)).take (HT.gG its.length its.length hi-HT.gG its.length 0 lo)).toArray:=by
 obtain ⟨h1,h2,h3⟩:=z6 lo hi its.toArray.size;unfold slicePick;rw [h1,h2,h3];simp only [sliceRange_one,pick_run,aJf] <;> rfl
def aAJ (K:PySem.W.Frag):V->Option Int->Option Int->Hp->VK->Prop:=fun x lo hi H Q=>∃ a xs,x=.ref a/\bG K H a xs/\∀ p,H p=none->Q (.ref p) (aX H p (.lst (iI xs lo hi)))
theorem Nx:SlR X (aAJ X.K):=by
 intro pins s σ H x v vl vu lo hi sl Q I rx hs pl pu h;obtain ⟨a,xs,rfl,hx,q⟩:=h;cases rx;obtain ⟨its,r,ht,hz⟩:=I.list hx;have hlen:=r.length;refine ⟨"list",_,slot_list_getitem.lookup,ht.isList.typeIs,?_⟩;refine wpAny_getItem_list_slice ht.isList hs pl pu .none (by simp) ?_ (by rw [aJf] <;> omega);rw [wX,<- hlen];refine ⟨.ref s.heap.objs.size,_,I.laid (t':=s.toks) (o:=.lst (iI xs lo hi)) (fun b ob q=>aJb _ q) (aJd _) ?_,rfl,q _ (I.hok.fresh (aJd _))⟩;exact ⟨aJc (sW xs lo hi) hz,_,0,(r.drop (HT.gG xs.length 0 lo)).take (HT.gG xs.length xs.length hi-HT.gG xs.length 0 lo),aJr _ rfl⟩
def lN:V->Bool
 | .non=>true
 | .bl _=>true
 | .int _=>true
 | .str _=>true
 | _=>false
def MP:V->V->Bool
 | .non,.non=>true
 | .bl a,.bl b=>a==b
 | .bl a,.int b=>(if a then 1 else 0)==b
 | .int a,.bl b=>a==(if b then 1 else 0)
 | .int a,.int b=>a==b
 | .str a,.str b=>a==b
 | _,_=>false
theorem R0 {A:Around}{s:Shared}{y x:V}{u v:Value}(ry:RelV y u)(rx:RelV x v)(fy:lN y=true)(fx:lN x=true):SeqAt.EqAt A s u v (MP y x):=by
 cases y with
 | non =>
  cases ry;cases x with
  | non=>cases rx; exact SeqAt.EqAt.same _
  | bl b=>cases rx; exact SeqAt.EqAt.none_bool b
  | int b=>obtain ⟨t,rfl⟩:=rx; exact SeqAt.EqAt.none_int b t
  | str b=>obtain ⟨t,rfl⟩:=rx; exact SeqAt.EqAt.none_str b t
  | _=>exact absurd (show false=true from fx) aJp
 | bl a =>
  cases ry;cases x with
  | non=>cases rx; exact SeqAt.EqAt.bool_none a
  | bl b=>cases rx; exact SeqAt.EqAt.bool_bool a b
  | int b=>obtain ⟨t,rfl⟩:=rx; exact SeqAt.EqAt.bool_int a b t
  | str b=>obtain ⟨t,rfl⟩:=rx; exact SeqAt.EqAt.bool_str a b t
  | _=>exact absurd (show false=true from fx) aJp
 | int a =>
  obtain ⟨t',rfl⟩:=ry;cases x with
  | non=>cases rx; exact SeqAt.EqAt.int_none a t'
  | bl b=>cases rx; exact SeqAt.EqAt.int_bool a t' b
  | int b=>obtain ⟨t,rfl⟩:=rx; exact SeqAt.EqAt.int_int a t' b t
  | str b=>obtain ⟨t,rfl⟩:=rx; exact SeqAt.EqAt.int_str a t' b t
  | _=>exact absurd (show false=true from fx) aJp
 | str a =>
  obtain ⟨t',rfl⟩:=ry;cases x with
  | non=>cases rx; exact SeqAt.EqAt.str_none a t'
  | bl b=>cases rx; exact SeqAt.EqAt.str_bool a t' b
  | int b=>obtain ⟨t,rfl⟩:=rx; exact SeqAt.EqAt.str_int a t' b t
  | str b=>obtain ⟨t,rfl⟩:=rx; exact SeqAt.EqAt.str_str a t' b t
  | _=>exact absurd (show false=true from fx) aJp
 | _=>exact absurd (show false=true from fy) aJp
def Eu (x:V)(u:Value):Bool:=match u with
 | .none=>MP .non x
 | .bool b=>MP (.bl b) x
 | .int i _=>MP (.int i) x
 | .str z _=>MP (.str z) x
 | _=>false
theorem Jt {x y:V}{u:Value}(r:RelV y u)(f:lN y=true):Eu x u=MP y x:=by
 cases y with
 | non=>cases r; rfl
 | bl b=>cases r; rfl
 | int i=>obtain ⟨t,rfl⟩:=r; rfl
 | str z=>obtain ⟨t,rfl⟩:=r; rfl
 | _=>exact absurd (show false=true from f) aJp
theorem qG {x:V}:∀ {xs:List V}{us:List Value},bK xs us->xs.all lN=true->us.any (Eu x)=xs.any fun y=>MP y x
 | _,_,.nil,_=>rfl
 | y::xs,u::us,.cons r t,f=>by
  rw [List.all_cons,aJA] at f;rw [aK2,aK2,Jt r f.1,qG t f.2]
theorem mX {A:Around}{s:Shared}{x:V}{v:Value}(rx:RelV x v)(fx:lN x=true):∀ {xs:List V}{us:List Value},bK xs us->xs.all lN=true->∀ u∈us,SeqAt.EqAt A s u v (Eu x u)
 | _,_,.nil,_=>fun u hu=>by cases hu
 | y::xs,u::us,.cons r t,f=>fun u' hu=>by
  rw [List.all_cons,aJA] at f;rcases aJx.mp hu with rfl | hu
  ·rw [Jt r f.1]; exact R0 r rx f.1 fx
  ·exact mX rx fx t f.2 u' hu
def Gd (x:V)(xs:List V):Bool:=xs.any fun y=>MP y x
def rIn (K:PySem.W.Frag)(neg:Bool):R2:=fun x y H Q=>∃ p xs,y=.ref p/\(bG K H p xs∨cV K H p xs)/\lN x=true/\xs.all lN=true/\Q (.bl (if neg then !Gd x xs else Gd x xs)) H
theorem yC:mK X (compareOp .In) (rIn X.K false):=by
 intro pins s σ H x y v u Q I rx ry h;obtain ⟨p,xs,rfl,hq,fx,fs,q⟩:=h;cases ry;rcases hq with hq | hq
 ·obtain ⟨its,r,pl,hz⟩:=I.list hq;refine SeqAt.in_listAt (Eu x) pl.isList (fun w hw=>mX rx fx r fs w (by simpa using hw)) ⟨.bl _,H,I,rfl,?_⟩;rw [show its.toArray.any (Eu x)=its.any (Eu x) by simp,qG r fs];exact q
 ·obtain ⟨its,r,pl,hz⟩:=I.tuple hq;refine SeqAt.in_tupleAt (Eu x) pl (fun w hw=>mX rx fx r fs w (by simpa using hw)) ⟨.bl _,H,I,rfl,?_⟩;rw [show its.toArray.any (Eu x)=its.any (Eu x) by simp,qG r fs];exact q
theorem pP:mK X (compareOp .NotIn) (rIn X.K true):=by
 intro pins s σ H x y v u Q I rx ry h;obtain ⟨p,xs,rfl,hq,fx,fs,q⟩:=h;cases ry;rcases hq with hq | hq
 ·obtain ⟨its,r,pl,hz⟩:=I.list hq;refine SeqAt.notIn_listAt (Eu x) pl.isList (fun w hw=>mX rx fx r fs w (by simpa using hw)) ⟨.bl _,H,I,rfl,?_⟩;rw [show its.toArray.any (Eu x)=its.any (Eu x) by simp,qG r fs];exact q
 ·obtain ⟨its,r,pl,hz⟩:=I.tuple hq;refine SeqAt.notIn_tupleAt (Eu x) pl (fun w hw=>mX rx fx r fs w (by simpa using hw)) ⟨.bl _,H,I,rfl,?_⟩;rw [show its.toArray.any (Eu x)=its.any (Eu x) by simp,qG r fs];exact q
theorem bU:eZ X (.builtin "len") (fun xs H Q=>∃ p ys,xs=[.ref p]/\(bG X.K H p ys∨cV X.K H p ys)/\Q (.int ys.length) H):=by
 intro pins s σ H xs us Q I r h;obtain ⟨p,ys,rfl,hq,q⟩:=h;obtain ⟨u,rfl,rx⟩:=vals1 r;cases rx;have hn:=Af;rcases hq with hq | hq
 ·obtain ⟨its,r',pl,hz⟩:=I.list hq;have hlen:=r'.length;exact Calls.call_len_list pl.isList (by simp only [aJf] <;> omega) ⟨.int ys.length,H,I.tok _,⟨s.toks+1,by rw [aJf,hlen]⟩,q⟩
 ·obtain ⟨its,r',pl,hz⟩:=I.tuple hq;have hlen:=r'.length;exact len_tuple pl (by simp only [aJf] <;> omega) ⟨.int ys.length,H,I.tok _,⟨s.toks+1,by rw [aJf,hlen]⟩,q⟩
theorem pG:eZ X (.type "list") (fun xs H Q=>∃ p ys,xs=[.ref p]/\(bG X.K H p ys∨cV X.K H p ys)/\∀ l,H l=none->Q (.ref l) (aX H l (.lst ys))):=by
 intro pins s σ H xs us Q I r h;obtain ⟨p,ys,rfl,hq,q⟩:=h;obtain ⟨u,rfl,rx⟩:=vals1 r;cases rx;have fin:∀ (its:List Value),bK ys its->ys.length<=sizeLine->∀ (h':Heap) (c':Nat),(∀ b o',s.heap.get? b=some o'->h'.get? b=some o') ->
   h'.get? s.heap.objs.size=some { cls:=.type "list",dict:=none,data:=.seq its.toArray c',slots:=#[] }->EP X pins σ Q (.ref s.heap.objs.size) { s with heap:=h' }:=fun its r' hz h' c' kp e =>
  ⟨.ref s.heap.objs.size,_,I.laid (t':=s.toks) kp (aJd _) (show cJ X.prog X.w _ h' _ (.lst ys) from ⟨hz,its,c',r',e⟩),rfl,q _ (I.hok.fresh (aJd _))⟩
 rcases hq with hq | hq
 ·obtain ⟨its,r',pl,hz⟩:=I.list hq;have hlen:=r'.length;obtain ⟨o,ho,hc,n,hd⟩:=pl.isList;exact call_list_seq p (.inl rfl) ho hc hd (fun h' c' kp e=>fin its r' hz h' c' kp e) (by simp only [aJf] <;> omega)
 ·obtain ⟨its,r',pl,hz⟩:=I.tuple hq;have hlen:=r'.length;obtain ⟨o,ho,hc,n,hd⟩:=pl;exact call_list_seq p (.inr rfl) ho hc hd (fun h' c' kp e=>fin its r' hz h' c' kp e) (by simp only [aJf] <;> omega)
theorem xF:eZ X (.type "tuple") (fun xs H Q=>∃ p ys,xs=[.ref p]/\((bG X.K H p ys/\∀ l,H l=none->Q (.ref l) (aX H l (.tup ys)))∨(cV X.K H p ys/\Q (.ref p) H))):=by
 intro pins s σ H xs us Q I r h;obtain ⟨p,ys,rfl,h⟩:=h;obtain ⟨u,rfl,rx⟩:=vals1 r;cases rx;rcases h with ⟨hq,q⟩ | ⟨hq,q⟩
 ·obtain ⟨its,r',pl,hz⟩:=I.list hq;have hlen:=r'.length;refine call_tuple_list pl.isList (fun h' kp=>?_) (by simp only [aJf] <;> omega);have I1:aZ X pins σ H { s with heap:=h' }:=I.kept (t':=s.toks) kp;have I2:aZ X pins σ (aX H h'.objs.size (.tup ys)) { s with heap:=h'.push { cls:=.type "tuple",data:=.seq its.toArray } } :=
   I1.laid (t':=s.toks) (fun b o e=>aJb _ e) (aJd _) (show cJ X.prog X.w _ _ _ (.tup ys) from ⟨hz,its,r',IsTup.new _ _⟩)
  exact ⟨.ref h'.objs.size,_,I2,rfl,q _ (I1.hok.fresh (aJd _))⟩
 ·obtain ⟨its,r',pl,hz⟩:=I.tuple hq;exact call_tuple_same pl ⟨.ref p,H,I,rfl,q⟩
def tyV (K:PySem.W.Frag)(T:String)(x:V)(H:Hp):Prop:=match x with
 | .str _=>T = "str"
 | .int _=>T = "int"
 | .ref p=>(T = "list"/\∃ xs,bG K H p xs)∨(T = "tuple"/\∃ o,K.lookup p=some o/\o.cls=.type "tuple"/\o.dict=none) ∨
   (T = "dict"/\((∃ kvs,H p=some (.dK kvs))∨∃ kvs,H p=some (.dT kvs)))∨(T = "set"/\∃ S n,H p=some (.set S n))
 | _=>False
theorem Qn {pins:List (Addr×Obj)}{σ:St}{H:Hp}{s:Shared}{T:String}{x:V}{v:Value}(I:aZ X pins σ H s)(r:RelV x v)(ty:tyV X.K T x H) :
  s.TypeIs v T/\∀ a,v=.ref a->∃ ob,s.heap.get? a=some ob/\ob.dict=none:=by
 cases x with
 | str z =>
  obtain ⟨t,rfl⟩:=r;cases (show T = "str" from ty);exact ⟨typeIs_str s z t,fun _ e=>nomatch e⟩
 | int i =>
  obtain ⟨t,rfl⟩:=r;cases (show T = "int" from ty);exact ⟨typeIs_int s i t,fun _ e=>nomatch e⟩
 | ref p =>
  cases r;rcases ty with ⟨rfl,xs,hq⟩ | ⟨rfl,o,hk,hc,hd⟩ | ⟨rfl,hk⟩ | ⟨rfl,S,n,hk⟩
  ·obtain ⟨its,_,pl,_⟩:=I.list hq;refine ⟨pl.isList.typeIs,fun a e=>?_⟩;cases e;obtain ⟨o,n,e,c,hd,_⟩:=pl;exact ⟨o,e,hd⟩
  ·refine ⟨⟨o,I.kIn p o hk,hc⟩,fun a e=>?_⟩;cases e;exact ⟨o,I.kIn _ o hk,hd⟩
  ·have z:∃ o,s.heap.get? p=some o/\o.ExactDict:=by
    rcases hk with ⟨kvs,hk⟩ | ⟨kvs,hk⟩
    ·obtain ⟨_,_,_,_,o,_,_,e,ex,_⟩:=I.hok p _ hk;exact ⟨o,e,ex⟩
    ·obtain ⟨_,_,_,_,o,_,_,e,ex,_⟩:=I.hok p _ hk;exact ⟨o,e,ex⟩
   obtain ⟨o,e,ex⟩:=z;refine ⟨⟨o,e,ex.1⟩,fun a e2=>?_⟩;cases e2;exact ⟨o,e,ex.2.1⟩
  ·obtain ⟨o,_,_,_,e,ex,_⟩:=I.hok p _ hk;refine ⟨⟨o,e,ex.1⟩,fun a e2=>?_⟩;cases e2;exact ⟨o,e,ex.2.1⟩
 | _=>exact False.elim ty
def tBM (K:PySem.W.Frag)(T:String)(r:V->List V->Hp->VK->Prop)(to:TE)(t:TA):TE:=fun σ H Q=>to σ H fun x H1=>tyV K T x H1/\t σ H1 fun xs H2=>r x xs H2 Q
variable {o e:Expr}{es:List Expr}{to:TE}{t:TA}{name:Str}{apos cpos:Pos}{T id:String}{r:V->List V->Hp->VK->Prop}
theorem lY (pa:PlainAttrs T)(slot:Slot T name id)(hty:typeOf (.builtin id)=pure (.type "method_descriptor"))(hm:MtR X id r)(ho:PE X o to)(ha:PA X (e::es) t)
  (hbase:attributeBase o name X.env (eval o X.env)=eval o X.env:=by rfl)
  (hfew:((backTo cpos (starEach (e::es) X.env)).all (fun x=>!x.1)&&(backToKw cpos (keywordEach [] X.env)).all (fun x=>x.1.isSome)
  &&decide ((e::es).length+([]:List Keyword).length+(if ([]:List Keyword).isEmpty then 0 else 1)<30))=true:=by rfl)
  (hline:(apos.endLine==cpos.line)=true:=by rfl) (hs:starEach (e::es) X.env=(false,eval e X.env)::starEach es X.env:=by rfl) (hplain:(backTo cpos (starEach es X.env)).any (·.1)=false:=by rfl) :
  PE X (.Call (.Attribute o name apos) (e::es) [] cpos) (tBM X.K T r to t):=by
 intro pins s σ H Q I h;refine wpAny_Call_method_late hbase hfew hline rfl (dH (ho pins s σ H _ I h) fun v s1 ⟨x,H1,I1,r1,ty,q1⟩=>?_);obtain ⟨h1,h2⟩:=Qn I1 r1 ty;refine ⟨T,id,pa,slot,hty,h1,h2,?_⟩;have hA:=ha cpos pins s1 σ H1 _ I1 q1;rw [hs] at hA ⊢;refine Calls.callWith_builtin (by show (false||(backTo cpos (starEach es X.env)).any (·.1))=false; rw [hplain] <;> rfl) (Calls.evalArgs_plain ?_);exact dH hA fun us s2 ⟨vs,H2,I2,r2,q2⟩=>hm pins s2 σ H2 x vs v us Q I2 r1 r2 q2
end
def Z0 (X:Cx)(id:String)(r:V->List V->Hp->VK->Prop):Prop :=
 ∀ (pins:List (Addr×Obj)) (s:Shared) (σ:St) (H:Hp) (x:V) (xs:List V) (v:Value) (us:List Value) (Q:VK),aZ X pins σ H s->RelV x v->bK xs us->r x xs H Q ->
  wpAny (model X.prog X.w) X.A (call (.builtin id) (v::us)) (EP X pins σ Q) X.xe s
theorem bK.one:∀ {x:V}{us:List Value},bK [x] us->∃ u,us=[u]/\RelV x u
 | _,_,.cons r .nil=>⟨_,rfl,r⟩
theorem bK.eraseIdx:∀ {xs:List V}{us:List Value} (i:Nat),bK xs us->bK (xs.eraseIdx i) (us.eraseIdx i)
 | _,_,_,.nil=>.nil
 | _,_,0,.cons _ t=>t
 | _,_,i+1,.cons r t=>.cons r (bK.eraseIdx i t)
theorem bK.rep {xs:List V}{us:List Value}(h:bK xs us):∀ k:Nat,bK (aJt k xs).flatten (aJt k us).flatten
 | 0=>.nil
 | k+1=>by
  rw [aKm,aKm,aKD,aKD];exact bK.append h (bK.rep h k)
theorem yN {α:Type}:∀ (l:List α) (i:Nat),(l.eraseIdx i).length<=l.length
 | [],_=>aJd _
 | _::_,0=>aKU _
 | _::r,i+1=>aL3 (yN r i)
theorem foldl_rep (its:List Value):∀ (k:Nat) (acc:List Value),
  aMc (fun x1 x2=>x1++x2) acc.toArray (aJt k its.toArray)=(acc++(aJt k its).flatten).toArray
 | 0,acc=>by simp
 | k+1,acc=>by
  have e:acc.toArray++its.toArray=(acc++its).toArray:=by simp
  have e2:(acc++its)++(aJt k its).flatten=acc++(aJt (k+1) its).flatten:=by
   rw [aKm,aKD,aLh]
  rw [<- e2,<- foldl_rep its k (acc++its),<- e,aKm,aLE]
section
variable {X:Cx}{pins:List (Addr×Obj)}{σ:St}{H:Hp}{s:Shared}{l b:Addr}{xs ys zs:List V}
theorem aZ.lset {its its':List Value}{n:Nat}{f:Array Value->Array Value}{t':Nat}(I:aZ X pins σ H s)(hH:H l=some (.lst xs))
  (e:s.heap.get? l=some { cls:=.type "list",data:=.seq its.toArray n }) (hf:f its.toArray=its'.toArray) (hv:bK ys its') (hz:ys.length<=sizeLine) :
  aZ X pins σ (aX H l (.lst ys)) { s with heap:=s.heap.update l (Obj.mapSeq f),toks:=t' }:=by
 have q:=PySem.IsL.update e f;rw [hf] at q;refine I.write (x:=l) (e:=l) (by rw [hH]; exact trivial) (.inl rfl) (fun b' u hb hu=>(aLx s.heap (Obj.mapSeq f) (Ne.symm hb)).trans hu) ⟨_,q⟩ ?_;exact ⟨hz,its',_,hv,q⟩
theorem aZ.lnew {its:List Value}{t':Nat}(I:aZ X pins σ H s)(hv:bK ys its)(hz:ys.length<=sizeLine) :
  aZ X pins σ (aX H s.heap.objs.size (.lst ys)) { s with heap:=s.heap.push { cls:=.type "list",data:=.seq its.toArray },toks:=t' } :=
 I.laid (fun _ _ q=>aJb _ q) (aJd _) ⟨hz,its,0,hv,aJr _ rfl⟩
theorem aZ.fresh (I:aZ X pins σ H s):H s.heap.objs.size=none:=I.hok.fresh (aJd _)
theorem aZ.lstM (I:aZ X pins σ H s)(hH:H l=some (.lst xs)):xs.length<=sizeLine/\∃ (its:List Value) (n:Nat),bK xs its/\xs.length=its.length/\s.heap.get? l=some { cls:=.type "list",data:=.seq its.toArray n }:=by
 obtain ⟨z,its,n,r,e⟩:=I.hok l _ hH;exact ⟨z,its,n,r,r.length,e⟩
theorem DR {n:Nat}(h:n<=sizeLine):Builtin.List.listTooLong n=false:=by
 unfold Builtin.List.listTooLong;exact decide_eq_false (by omega)
end
section
variable {X:Cx}
def M9:V->List V->Hp->VK->Prop:=fun x vs H Q=>∃ l xs y,x=.ref l/\vs=[y]/\H l=some (.lst xs)/\xs.length<sizeLine/\Q .non (aX H l (.lst (xs++[y])))
theorem iM:Z0 X "list.append" M9:=by
 intro pins s σ H x vs v us Q I rx rv h;obtain ⟨l,xs,y,rfl,rfl,hH,hz,q⟩:=h;cases rx;obtain ⟨u,rfl,ru⟩:=rv.one;obtain ⟨z,its,n,r,hl,e⟩:=I.lstM hH;refine call_meets F.slot_list_append ⟨_,e,rfl⟩ F.entry_list_append (F.args_list_append_2 _ _) (PySem.list_append l its.toArray n u (by rw [aJf]; omega)) ⟨e,?_⟩;refine ⟨.non,_,I.lset (its':=its++[u]) hH e (by simp) (r.append (.cons ru .nil)) ?_,rfl,q⟩;rw [aJv,aK0];omega
def Mj:V->List V->Hp->VK->Prop:=fun x vs H Q=>∃ l b xs zs,x=.ref l/\vs=[.ref b]/\H l=some (.lst xs)/\H b=some (.lst zs)/\xs.length+zs.length<=sizeLine/\Q .non (aX H l (.lst (xs++zs)))
theorem Io:Z0 X "list.extend" Mj:=by
 intro pins s σ H x vs v us Q I rx rv h;obtain ⟨l,b,xs,zs,rfl,rfl,hH,hB,hz,q⟩:=h;cases rx;obtain ⟨u,rfl,ru⟩:=rv.one;cases ru;obtain ⟨z,its,n,r,hl,e⟩:=I.lstM hH;obtain ⟨z2,its2,n2,r2,hl2,e2⟩:=I.lstM hB;have hsz:its.toArray.size+its2.toArray.size<=sizeLine:=by rw [aJf,aJf]; omega
 have hlong:¬ (!its.toArray.isEmpty&&Builtin.List.listTooLong (its.toArray.size+its2.toArray.size))=true:=by
  rw [DR hsz,Bool.and_false];exact aJp
 refine call_meets F.slot_list_extend ⟨_,e,rfl⟩ F.entry_list_extend (F.args_list_extend_2 _ _)
  (AutoSeq1.list_extend_list_list_0 l its.toArray n b its2.toArray n2 hlong (by rw [aJf]; omega) (by omega)) ⟨e,e2,?_⟩
 refine ⟨.non,_,I.lset (its':=its++its2) hH e (by simp) (r.append r2) ?_,rfl,q⟩;rw [aJv];omega
def R7:V->List V->Hp->VK->Prop:=fun x vs H Q=>∃ l xs i k y,x=.ref l/\vs=[.int i]/\H l=some (.lst xs)/\-(2^63)<=i/\i<2^63/\seqIndex? i xs.length=some k/\xs[k]? = some y/\Q y (aX H l (.lst (xs.eraseIdx k)))
theorem mW:Z0 X "list.pop" R7:=by
 intro pins s σ H x vs v us Q I rx rv h;obtain ⟨l,xs,i,k,y,rfl,rfl,hH,h1,h2,hk,hy,q⟩:=h;cases rx;obtain ⟨u,rfl,ru⟩:=rv.one;obtain ⟨t,rfl⟩:=ru;obtain ⟨z,its,n,r,hl,e⟩:=I.lstM hH;obtain ⟨w,hw,rw'⟩:=r.get hy;refine call_meets F.slot_list_pop ⟨_,e,rfl⟩ F.entry_list_pop (F.args_list_pop_2 _ _)
  (MeetsSeq.list_pop_at l its.toArray n i t k w (fitsIndex_both h1 h2) (by rw [aJf,<- hl]; exact hk) (by rw [<- aKA]; exact hw) (by rw [aJf]; omega)) ⟨e,?_⟩
 refine ⟨y,_,I.lset (its':=its.eraseIdx k) hH e ?_ (r.eraseIdx k) ?_,rw',q⟩
 ·show its.toArray.eraseIdxIfInBounds k=(its.eraseIdx k).toArray;rw [List.eraseIdxIfInBounds_toArray]
 ·have:=yN xs k;omega
def Zm:R2:=fun x y H Q=>∃ l k xs,x=.ref l/\y=.int k/\H l=some (.lst xs)/\-(2^63)<=k/\k<2^63/\xs.length*k.toNat<=sizeLine ∧
 ∀ p,H p=none->Q (.ref p) (aX H p (.lst (aJt k.toNat xs).flatten))
theorem len_rep {α:Type}(xs:List α)(k:Nat):(aJt k xs).flatten.length=k*xs.length:=by
 induction k with
 | zero=>simp
 | succ k ih=>rw [aKm,aKD,aJv,ih,aLy,aLW]
theorem QK:mK X (binaryOp .Mult) Zm:=by
 intro pins s σ H x y v u Q I rx ry h;obtain ⟨l,k,xs,rfl,rfl,hH,h1,h2,hz,q⟩:=h;cases rx;obtain ⟨t,rfl⟩:=ry;obtain ⟨z,its,n,r,hl,e⟩:=I.lstM hH;have hlen:its.toArray.size*k.toNat<=sizeLine:=by rw [aJf,<- hl]; exact hz
 have hcap:¬ its.toArray.size*k.toNat > (2^63-1)/8:=by
  have:(sizeLine:Nat)<=(2^63-1)/8:=by decide
  omega
 have hfit:¬ (!Builtin.List.listFitsIndex k)=true:=by
  rw [fitsIndex_both h1 h2];exact aJp
 have hlong:¬ Builtin.List.listTooLong (its.toArray.size*k.toNat)=true:=by
  rw [DR hlen];exact aJp
 have hnew:aMc (fun x1 x2=>x1++x2) #[] (aJt (if its.toArray.isEmpty=true then 0 else k.toNat) its.toArray)=(aJt k.toNat its).flatten.toArray:=by
  have f0:∀ m:Nat,aMc (fun x1 x2=>x1++x2) #[] (aJt m its.toArray)=(aJt m its).flatten.toArray:=fun m=>by
   have:=foldl_rep its m [];rw [List.nil_append] at this;exact this
  rw [f0];cases its with
  | nil=>simp
  | cons a r'=>rw [if_neg (by simp)]
 refine wpAny_binaryOp_repeat_ref (T:="list") (U:="int") (by decide) ⟨_,e,rfl⟩ (fun s'=>typeIs_int s' k t) noFill_list_mul F.fills_int_mul F.slot_int_rmul repeat_list F.slot_int_index.lookup
  (call_meets F.slot_int_rmul (typeIs_int s k t) F.entry_int_rmul (F.args_int_rmul_2 _ _) (int___rmul___int_list k t l its.toArray n)
   ⟨e,rfl,⟨_,e,rfl⟩,call_meets F.slot_list_mul ⟨_,e,rfl⟩ F.entry_list_mul (F.args_list_mul_2 _ _) (AutoListH.list___mul___list_int_3 l its.toArray n k t hfit hcap hlong) ⟨e,?_⟩⟩)
 rw [hnew];exact ⟨.ref _,_,I.lnew (t':=s.toks) (r.rep k.toNat) (by rw [len_rep,Nat.mul_comm]; exact hz),rfl,q _ I.fresh⟩
end
end L2
namespace Att
open PySem PySem.W PySem.Calls PyProof.Rows
theorem uM {P:Params}{h:Heap}:∀ (ns:List Int) (vs:List Value),WellAll P h vs (ns.map WData.int)->IntsAre vs ns:=by
 intro ns
 induction ns with
 | nil =>
  intro vs w;rw [aLw] at w;cases w;exact .nil
 | cons n ns ih =>
  intro vs w;rw [aJi] at w;cases w with
  | cons a b =>
   cases a;exact .cons _ _ (ih _ b)
theorem IV {l:OpenLaw}{n:Nat}(hn:l.most=some n){P:Params}{h:Heap}{args:List WData}{vals:List Value}
  (hpre:l.row.toRowW.claim.pre args=true) (hwl:WellAll P h vals args) :
  ∃ a vs ns,vals=[Value.ref a]/\args=[WData.list (ns.map WData.int)]/\h.get? a=some { cls:=.type "list",data:=.seq vs.toArray }/\IntsAre vs ns/\ns.length<=n:=by
 have hsh:WShape.hasAll [] args [.list .int]=true:=(pre_splitW hpre).1;have hc:l.pre.holds [] { args:=args }=true:=(pre_splitW hpre).2;obtain ⟨d,r,rfl,h1,h2⟩:=hasAllW_cons hsh;obtain rfl:=hasAllW_nil h2;obtain ⟨xs,rfl,h3⟩:=hasW_list h1;obtain ⟨ns,rfl⟩:=items_int h3;have hlen:ns.length<=n:=by
  unfold OpenLaw.pre at hc;have h4:(WTm.not (.lt (.lit (.int (n:Int))) (.len (.arg 0)))).holds [] { args:=[.list (ns.map .int)] }=true:=by
   have h4:=(holds_andW hc).1;rw [hn] at h4;exact h4
  have h5:=condW_of h4 (w_not (w_lt w_lit (w_len_list (w_arg rfl))));rw [aI8] at h5;refine Nat.le_of_not_lt fun q=>?_;have q':(n:Int)<((ns.length:Nat):Int):=by omega
  first
   | (rw [decide_eq_true q'] at h5; exact absurd h5 (by decide))
   | (simp at h5; omega)
 cases hwl with
 | cons w1 w2 =>
  cases w2;cases w1 with
  | list ho hall=>exact ⟨_,_,ns,rfl,rfl,ho,uM ns _ hall,hlen⟩
theorem Ii (l:OpenLaw)(args:List WData):l.row.toRowW.claim.post args (.bool true) args=true :=
 postW_of (r:=l.row.toRowW) (X:=(true==true))
  (show WShape.has [] (.bool true) .bool=true by first | rfl | decide | simp [WShape.has,WShape.arms,WShape.armsAll])
  (show (WTm.eq .res (.lit (.bool true))).value [] { args:=args,res:=some (.bool true),after:=args }=some (.bool (true==true)) from w_eq_bool (w_res rfl) w_lit) rfl
theorem Bw {l:OpenLaw}{n:Nat}{q:Program}{loose:List Str}{XP:(Str->Option Value)->Heap->Prop}{YP:World->Heap->Prop}{d:DefRec}
  (hn:l.most=some n) (hdf:d.params.defaults=[])
  (call:∀ (w:World) (s₀ s₁:Shared) (mg mb:Str->Option Value) (fa:Addr) (o:Obj) (pm cd doc:Value) (a:Addr) (vs:List Value) (ns:List Int),
   Ground q loose [] XP w s₀ mg mb s₁.heap->YP w s₁.heap ->
   s₁.heap.get? fa=some o->o.data=.func (docDef d.name d.params d.body d.scope pm cd doc)->s₁.heap.CodeRec cd d.name->mg d.name=some (.ref fa) ->
   s₁.heap.get? a=some { cls:=.type "list",data:=.seq vs.toArray }->IntsAre vs ns->ns.length<=n->s₁.gens = #[] ->
   codeAny (model l.prog w) callerA (.call (.ref fa) ⟨[.ref a],[]⟩) (fun r s'=>r=.ok (.ret (.bool true))/\OldK s₁.heap s'.heap/\s'.os=s₁.os/\AllBare s'.gens) s₁) :
  WalkO q loose XP YP l.row.toRowW d [] (fun f vs=>PySem.call f vs):=by
 intro w s₀ s₁ mg mb G Y fa o pm cd doc dV kV ho hd hcd hD hmg hg args vals as hpre hlay hrd hwl hlo;obtain rfl:dV=.none:=Dflts.none hD hdf;obtain rfl:kV=.none:=Dflts.noKw hD;obtain ⟨a,vs,ns,rfl,rfl,hobj,hints,hlen⟩:=IV hn hpre hwl;refine enter_call (codeAny_mono (call w s₀ s₁ mg mb fa o pm cd doc a vs ns G Y ho (fd_plain hd) hcd hmg hobj hints hlen hg) fun r s' hq=>?_);obtain ⟨rfl,h2,h3,h4⟩:=hq;exact ⟨.inl ⟨.bool true,.bool true,[],rfl,fun _=>rfl,.bool true,Ii l _,fun _=>⟨aLm.nil,fun _ hm=>(nomatch hm)⟩⟩,h2,h3,h4⟩
end Att
namespace L2
open PySem PySem.Spec PyProof.Rows
theorem sO:∀ {vs:List Value}{ns:List Int},IntsAre vs ns->bK (ns.map V.int) vs
 | _,_,.nil=>.nil
 | _,_,.cons n t h=>.cons ⟨t,rfl⟩ (sO h)
def inClass (s:Stmt)(j:Nat):Stmt:=match s with
 | .ClassDef _ _ _ body _ _ _ _ _ _ _=>body.getD j (.Pass ⟨0,0,0,0⟩)
 | _=>.Pass ⟨0,0,0,0⟩
def jO (s:Stmt):Arguments:=match s with
 | .FunctionDef _ a _ _ _ _ _ _ _ _=>a
 | _=>{ posonlyargs:=[],args:=[],vararg:=none,kwonlyargs:=[],kw_defaults:=[],kwarg:=none,defaults:=[] }
def gD (s:Stmt):List Stmt:=match s with
 | .FunctionDef _ _ b _ _ _ _ _ _ _=>b
 | _=>[]
def aL (s:Stmt):Scope:=match s with
 | .FunctionDef _ _ _ _ _ _ sc _ _ _=>sc
 | _=>{ kind:=.function,names:=[],isGenerator:=false,isCoroutine:=false }
abbrev cN:Aj:=fun _ _ _ _ _ _=>False
abbrev E0:XK:=fun _ _ _=>False
theorem bR {X:Cx}:jC cN X E0:=fun _ _ _ _ _ _ _ h=>h.elim
structure dN (K:PySem.W.Frag)(x qual:Str)(st:Stmt)(f:Addr)(fd:FuncData):Prop where
 ex:∃ (oc:Value) (od:Option Addr) (kV doc pm:Value) (an:Option Addr) (cdv ct:Value) (osl:Array (Option Value)),
  fd=PySem.W.fnOf x qual (jO st) (gD st) (aL st) .none kV doc pm an cdv ct/\K.lookup f=some ⟨oc,od,.func fd,osl⟩/\PySem.W.codeIn K cdv qual=true
 kp:PySem.W.keepIn K (.ref f)=true
section
variable {P:Program}{w:World}{K:PySem.W.Frag}{mg:Str->Option Value}{base:Heap}
theorem dN.ok {x qual:Str}{st:Stmt}{f:Addr}{fd:FuncData}{N ps:List Str}{k:Nat}{sp:Sp}(F:dN K x qual st f fd)(S:aM N ps (aL st))(len:∀ vs H Q E,sp vs H Q E->vs.length=ps.length)
  (hbody:∀ (cdv:Value) (A:Around) (outer:List Env) (s:Shared) (H:Hp) (vs:List V) (Q:VK) (E:XK),fM k (A.deeper (envOfC qual (aL st) s.heap.objs.size f cdv))->sp vs H Q E ->
   ∃ t,yW (wZ cN P w K mg base N qual (aL st) f cdv A outer s H E).nox (gD st) t/\t { nx:=fun _ H'=>Q .non H',rt:=Q } (start N vs) H):aP P w K mg base cN (k+1) f fd ps sp:=by
 obtain ⟨oc,od,kV,doc,pm,an,cdv,ct,osl,rfl,lk,hcd⟩:=F.ex;refine Kc lk hcd S len fun A outer s H vs Q E hr hsp=>?_;obtain ⟨t,h,q⟩:=hbody cdv A outer s H vs Q E hr hsp;exact ⟨t,h.nox,q⟩
theorem dN.binds {x qual:Str}{st:Stmt}{f:Addr}{fd:FuncData}{ps:List Str}(F:dN K x qual st f fd)
  (h:∀ (kV doc pm:Value) (an:Option Addr) (cdv ct:Value) (us:List Value),us.length=ps.length->bindArgs (PySem.W.fnOf x qual (jO st) (gD st) (aL st) .none kV doc pm an cdv ct) ⟨us,[]⟩=pure (ps.zip us)):Binds K fd ps []:=by
 obtain ⟨oc,od,kV,doc,pm,an,cdv,ct,osl,rfl,lk,hcd⟩:=F.ex;exact .all (h kV doc pm an cdv ct)
theorem J2 {x qual:Str}{st:Stmt}{f:Addr}{oc:Value}{od an:Option Addr}{osl:Array (Option Value)}{kV doc pm cdv ct:Value}(l:K.lookup f=some ⟨oc,od,.func (PySem.W.fnOf x qual (jO st) (gD st) (aL st) .none kV doc pm an cdv ct),osl⟩)
  (c:PySem.W.codeIn K cdv qual=true) (k:PySem.W.keepIn K (.ref f)=true):dN K x qual st f (PySem.W.fnOf x qual (jO st) (gD st) (aL st) .none kV doc pm an cdv ct):=⟨⟨oc,od,kV,doc,pm,an,cdv,ct,osl,rfl,l,c⟩,k⟩
end
theorem Vn {A:Around}{k:Nat}(hr:fM k A):A.units+1<cLine:=aKc (aK5 (by decide:1<=64) _) hr.units
theorem aU {n:Nat}(h:n<=1000):n<sizeLine:=aKc h (by decide)
section
variable {X:Cx}
theorem pv (i:Nat){x:Str}{pos:Pos}(hN:X.N[i]? = some x:=by rfl)(hv:Z3 X.env.scope x:=by first | exact Or.inl rfl | exact Or.inr (Or.inl rfl) | exact Or.inr (Or.inr rfl))(hd:(x==("__debug__" : Str))=false:=by decide)
  (hcd:(x==("__classdict__" : Str))=false:=by decide):PE X (.Name x pos) (Hm i):=KJ hN hv hd hcd
end
theorem dM {A B:Prop}(h:B):if false=true then A else B:=by
 rw [if_neg aJp];exact h
theorem fQ {A B:Prop}(h:A):if true=true then A else B:=by
 rw [if_pos rfl];exact h
theorem uC {c A B:Prop}[Decidable c](h1:c->A)(h2:¬ c->B):if c then A else B:=by
 by_cases h:c
 ·rw [if_pos h];exact h1 h
 ·rw [if_neg h];exact h2 h
def aN (H H':Hp):Prop:=∀ b o,H b=some o->H' b=some o
theorem aN.refl (H:Hp):aN H H:=fun _ _ h=>h
theorem aN.trans {H H1 H2:Hp}(a:aN H H1)(b:aN H1 H2):aN H H2:=fun c o h=>b c o (a c o h)
theorem aN.free {H H':Hp}(e:aN H H'){l:Addr}(h:H' l=aL5):H l=aL5:=by
 cases q:H l with
 | none=>rfl
 | some o =>
  rw [e l o q] at h;cases h
theorem aN.seq {K:PySem.W.Frag}{H H':Hp}{a:Addr}{xs:List V}(e:aN H H')(h:bG K H a xs):bG K H' a xs:=by
 rcases h with (h | ⟨o,h⟩) | h
 ·exact .inl (.inl (e _ _ h))
 ·exact .inl (.inr ⟨o,e _ _ h⟩)
 ·exact .inr h
section
variable {κ:Type}[DecidableEq κ]
def lZ (kvs:List (κ×V))(k:κ):Option V:=(kvs.find? fun kv=>decide (kv.1=k)).map (·.2)
def putK (kvs:List (κ×V))(k:κ)(v:V):List (κ×V) :=
 if (kvs.any fun kv=>decide (kv.1=k))=true then kvs.map (fun kv=>if kv.1=k then (kv.1,v) else kv) else kvs++[(k,v)]
theorem vU {p:κ×V}{r:List (κ×V)}{k:κ}(e:p.1=k):lZ (p::r) k=some p.2:=by simp [lZ,aKy,e]
theorem vX {p:κ×V}{r:List (κ×V)}{k:κ}(e:¬ p.1=k):lZ (p::r) k=lZ r k:=by simp [lZ,aKy,e]
theorem vH (k:κ):∀ kvs:List (κ×V),(kvs.any fun kv=>decide (kv.1=k))=(lZ kvs k).isSome
 | []=>rfl
 | p::r=>by
  rw [aK2]
  by_cases e:p.1=k
  ·simp only [vU e,decide_eq_true e,Bool.true_or,Option.isSome_some]
  ·rw [vX e,decide_eq_false e,Bool.false_or]; exact vH k r
theorem mG (kvs:List (κ×V))(k:κ)(v:V):(putK kvs k v).length<=kvs.length+1:=by
 unfold putK
 split
 ·rw [aI8]; omega
 ·rw [aJv,aJJ,aL9]; omega
theorem mD.isSome_eq {o:Option V}{u:Option Value}(r:mD o u):o.isSome=u.isSome:=by
 cases o with
 | none=>cases u with
  | none=>rfl
  | some _=>exact (show False from r).elim
 | some _=>cases u with
  | none=>exact (show False from r).elim
  | some _=>rfl
theorem mD.getD {o:Option V}{u:Option Value}{d:V}{d':Value}(r:mD o u)(rd:RelV d d'):RelV (o.getD d) (u.getD d'):=by
 cases o with
 | none=>cases u with
  | none=>exact rd
  | some _=>exact (show False from r).elim
 | some _=>cases u with
  | none=>exact (show False from r).elim
  | some _=>exact r
theorem KV.val {kvs:List (κ×V)}{vs:List (κ×Value)}(r:KV kvs vs)(k:κ):mD (lZ kvs k) (valueAt vs k):=by
 unfold KV at r
 induction r with
 | nil=>exact True.intro
 | @cons p q ps qs h t ih =>
  obtain ⟨h1,h2⟩:=h
  by_cases e:p.1=k
  ·have e':q.1=k:=h1.symm.trans e;have b:valueAt (q::qs) k=some q.2:=by simp [valueAt,aKy,e']
   rw [vU e,b]; exact h2
  ·have e':¬ q.1=k:=fun z=>e (h1.trans z);have b:valueAt (q::qs) k=valueAt qs k:=by simp [valueAt,aKy,e']
   rw [vX e,b]; exact ih
theorem KV.any {kvs:List (κ×V)}{vs:List (κ×Value)}(r:KV kvs vs)(k:κ):(kvs.any fun kv=>decide (kv.1=k))=vs.any fun kv=>decide (kv.1=k):=by
 unfold KV at r
 induction r with
 | nil=>rfl
 | cons h t ih=>rw [aK2,aK2,ih,h.1]
theorem KV.repl {kvs:List (κ×V)}{vs:List (κ×Value)}(r:KV kvs vs)(k:κ){y:V}{u:Value}(ry:RelV y u) :
  KV (kvs.map fun kv=>if kv.1=k then (kv.1,y) else kv) (vs.map fun kv=>if kv.1=k then (kv.1,u) else kv):=by
 unfold KV at r ⊢
 induction r with
 | nil=>exact .nil
 | @cons p q ps qs h t ih =>
  rw [aJi,aJi];refine .cons ?_ ih;obtain ⟨h1,h2⟩:=h
  by_cases e:p.1=k
  ·rw [if_pos e,if_pos (h1.symm.trans e)]; exact ⟨h1,ry⟩
  ·rw [if_neg e,if_neg (fun z=>e (h1.trans z))]; exact ⟨h1,h2⟩
theorem KV.put {kvs:List (κ×V)}{vs:List (κ×Value)}(r:KV kvs vs)(k:κ){y:V}{u:Value}(ry:RelV y u):KV (putK kvs k y) (stored vs k u):=by
 unfold putK stored;rw [r.any k]
 by_cases e:(vs.any fun kv=>decide (kv.1=k))=true
 ·rw [if_pos e,if_pos e]; exact r.repl k ry
 ·rw [if_neg e,if_neg e]; exact Paired.snoc r ⟨rfl,ry⟩
theorem KV.length {kvs:List (κ×V)}{vs:List (κ×Value)}(r:KV kvs vs):kvs.length=vs.length:=Paired.length r
end
theorem Gb {P:Program}{w:World}{k:Key}{u:Value}(r:RelV (kV k) u):(dW P w).is k u=true:=by
 cases k with
 | inl i=>obtain ⟨t,e⟩:=(show ∃ t,u=Value.int i t from r); subst e; exact Dc P w i t
 | inr x=>obtain ⟨t,e⟩:=(show ∃ t,u=Value.str x t from r); subst e; exact Bg P w x t
theorem yI {P:Program}{w:World}:∀ {ks:List Key}{us:List Value},bK (ks.map kV) us->ItemsAre (dW P w) ks us
 | [],_,r=>by rw [aLw] at r; cases r; exact .nil
 | k::ks,_,r=>by
  rw [aJi] at r;cases r with
  | cons h t=>exact .cons (Gb h) (yI t)
abbrev KT (H:Hp):List (List Key×V)->List (List Key×Addr×Value)->Prop:=Paired fun p q=>p.1=q.1/\H q.2.1=some (.tup (p.1.map kV))/\RelV p.2 q.2.2
theorem KT.val {H:Hp}{kvs:List (List Key×V)}{xs:List (List Key×Addr×Value)}(r:KT H kvs xs)(k:List Key):mD (lZ kvs k) ((atKey xs k).map (·.2)):=by
 induction r with
 | nil=>exact True.intro
 | @cons p q ps qs h t ih =>
  obtain ⟨h1,_,h2⟩:=h
  by_cases e:p.1=k
  ·have e':q.1=k:=h1.symm.trans e;have b:atKey (q::qs) k=some q.2:=by simp [atKey,aKy,e']
   rw [vU e,b]; exact h2
  ·have e':¬ q.1=k:=fun z=>e (h1.trans z);have b:atKey (q::qs) k=atKey qs k:=by simp [atKey,aKy,e']
   rw [vX e,b]; exact ih
theorem KT.repl {H:Hp}{kvs:List (List Key×V)}{xs:List (List Key×Addr×Value)}(r:KT H kvs xs)(k:List Key){y:V}{u:Value}(ry:RelV y u) :
  KT H (kvs.map fun kv=>if kv.1=k then (kv.1,y) else kv) (xs.map (putAt k u)):=by
 induction r with
 | nil=>exact .nil
 | @cons p q ps qs h t ih =>
  rw [aJi,aJi];refine .cons ?_ ih;obtain ⟨h1,h2,h3⟩:=h;unfold putAt
  by_cases e:p.1=k
  ·rw [if_pos e,if_pos (h1.symm.trans e)]; exact ⟨h1,h2,ry⟩
  ·rw [if_neg e,if_neg (fun z=>e (h1.trans z))]; exact ⟨h1,h2,h3⟩
theorem KT.put {H:Hp}{kvs:List (List Key×V)}{xs:List (List Key×Addr×Value)}(r:KT H kvs xs)(k:List Key){b:Addr}{y:V}{u:Value}(hb:H b=some (.tup (k.map kV)))(ry:RelV y u) :
  KT H (putK kvs k y) (storedH xs k b u):=by
 have e:(kvs.any fun kv=>decide (kv.1=k))=(atKey xs k).isSome:=by
  rw [vH,(r.val k).isSome_eq,Option.isSome_map]
 unfold putK storedH;rw [e]
 by_cases q:(atKey xs k).isSome=true
 ·rw [if_pos q,if_pos q]; exact r.repl k ry
 ·rw [if_neg q,if_neg q]; exact Paired.snoc r ⟨rfl,hb,ry⟩
theorem KT.keeps {H H':Hp}{kvs:List (List Key×V)}{xs:List (List Key×Addr×Value)}(r:KT H kvs xs)(ht:∀ b ys,H b=some (.tup ys)->H' b=some (.tup ys)):KT H' kvs xs :=
 Paired.mapP r fun _ _ z=>⟨z.1,ht _ _ z.2.1,z.2.2⟩
section
variable {P:Program}{w:World}{H:Hp}{h:Heap}{a:Addr}
theorem Px {u:HO}(ok:nA P w H h)(e:Rd H a u):cJ P w H h a u:=e.ok ok
theorem BX {kvs:List (Key×V)}(ok:nA P w H h)(e:Rd H a (.dK kvs)):kvs.length<=sizeLine/\(a==sysModules)=false/\∃ vs,KV kvs vs/\h.DictOf (dW P w) a vs :=
 show cJ P w H h a (.dK kvs) from Px ok e
theorem XN {kvs:List (Key×V)}(ok:nA P w H h)(e:H a=some (.dK kvs)):kvs.length<=sizeLine/\(a==sysModules)=false/\∃ vs,KV kvs vs/\h.DictOf (dW P w) a vs:=BX ok (.inl e)
theorem Ay {ks:List Key}(ok:nA P w H h)(e:H a=some (.tup (ks.map kV))):(tupleKind (dW P w)).is h ks a:=by
 obtain ⟨_,its,r,o,h1,h2,n,h3⟩:=(show cJ P w H h a (.tup (ks.map kV)) from ok a _ e)
 exact ⟨o,its.toArray,n,h1,h2,h3,by simpa using yI r⟩
theorem Di {kvs:List (List Key×V)}(ok:nA P w H h)(e:Rd H a (.dT kvs)):kvs.length<=sizeLine/\(a==sysModules)=false ∧
  ∃ xs,KT H kvs xs/\h.DictOfH (tupleKind (dW P w)) a xs:=by
 obtain ⟨z,y,xs,r,o,es,ep,h1,h2,h3,h4,h5⟩:=(show cJ P w H h a (.dT kvs) from Px ok e)
 refine ⟨z,y,xs,r,o,es,ep,h1,h2,h3,h4,fun x hx=>?_,h5⟩;have all:∀ {l:List (List Key×V)}{m:List (List Key×Addr×Value)},KT H l m->∀ x∈m,(tupleKind (dW P w)).is h x.1 x.2.1:=by
  intro l m q
  induction q with
  | nil=>intro x hx; exact nomatch hx
  | @cons p q ps qs hq t ih =>
   intro x hx;rcases aJx.mp hx with e | hx
   ·subst e;exact Ay ok (by rw [<- hq.1]; exact hq.2.1)
   ·exact ih x hx
 exact all r x hx
theorem XX {kvs:List (List Key×V)}(ok:nA P w H h)(e:H a=some (.dT kvs)):kvs.length<=sizeLine/\(a==sysModules)=false ∧
  ∃ xs,KT H kvs xs/\h.DictOfH (tupleKind (dW P w)) a xs:=Di ok (.inl e)
end
def Ce (H:Hp)(a:Addr)(y:V)(r:Option V):Prop :=
 (∃ kvs k,Rd H a (.dK kvs)/\y=kV k/\r=lZ kvs k)∨∃ kvs k b,Rd H a (.dT kvs)/\y=.ref b/\H b=some (.tup (k.map kV))/\r=lZ kvs k
def Jx (H:Hp)(a:Addr)(y v:V)(H':Hp):Prop :=
 (∃ kvs k,H a=some (.dK kvs)/\y=kV k/\kvs.length<sizeLine/\H'=aX H a (.dK (putK kvs k v))) ∨
 ∃ kvs k b,H a=some (.dT kvs)/\y=.ref b/\H b=some (.tup (k.map kV))/\kvs.length<sizeLine/\H'=aX H a (.dT (putK kvs k v))
theorem Ce.t {H:Hp}{a b:Addr}{kvs:List (List Key×V)}{k:List Key}(e:H a=some (.dT kvs))(eb:H b=some (.tup (k.map kV))):Ce H a (.ref b) (lZ kvs k):=.inr ⟨kvs,k,b,.inl e,rfl,eb,rfl⟩
theorem Jx.t {H:Hp}{a b:Addr}{kvs:List (List Key×V)}{k:List Key}{v:V}(e:H a=some (.dT kvs))(eb:H b=some (.tup (k.map kV)))(hl:kvs.length<sizeLine) :
  Jx H a (.ref b) v (aX H a (.dT (putK kvs k v))):=.inr ⟨kvs,k,b,e,rfl,eb,hl,rfl⟩
section
variable {X:Cx}{pins:List (Addr×Obj)}{σ:St}{H:Hp}{s:Shared}{a:Addr}{y v:V}{u r:Value}{o:Option V}{A:Around}{E:Value->Shared->Prop}
theorem aZ.big (I:aZ X pins σ H s):sysModules<s.heap.objs.size:=by
 have h:mainGlobals<s.heap.objs.size:=(I.mod.glob.keeps I.bk).lt;exact Nat.lt_trans (by decide) h
theorem Ip {Q:Value->Shared->Prop}(hu:A.units+1<cLine)(I:aZ X pins σ H s)(g:Ce H a y (some v))(ry:RelV y u)(h:∀ w' s',aZ X pins σ H s'->RelV v w'->Q w' s') :
  wpAny (model X.prog X.w) A (getItem (.ref a) u) Q E s:=by
 rcases g with ⟨kvs,k,e,ey,l⟩ | ⟨kvs,k,b,e,ey,eb,l⟩
 ·subst ey;obtain ⟨z,hd,vs,rel,dd⟩:=BX I.hok e;obtain ⟨w',hw,rw'⟩:=mD.some_of (v:=v) (o:=valueAt vs k) (by rw [l]; exact rel.val k);exact wpAny_getItem_of (Gb ry) dd.mapOf hw (h w' _ (I.tok _) rw')
 ·subst ey;cases (show u=Value.ref b from ry);obtain ⟨z,hd,xs,rel,dd⟩:=Di I.hok e;obtain ⟨w',hw,rw'⟩:=mD.some_of (v:=v) (o:=(atKey xs k).map (·.2)) (by rw [l]; exact rel.val k);obtain ⟨p,hp,hp2⟩:=Option.map_eq_some_iff.mp hw;refine wpAny_getItem_heap (tupleKind_room_in1 hu) (Ay I.hok eb) dd hp ?_;rw [hp2];exact h w' _ (I.tok _) rw'
theorem Gr {h':Heap}{t':Nat}{ob:HO}(I:aZ X pins σ H s)(mu:VM (H a))(hs:aJT a s.heap h')(he:∃ q,h'.get? a=some q)(new:cJ X.prog X.w (aX H a ob) h' a ob) :
  aZ X pins σ (aX H a ob) { s with heap:=h',toks:=t' } :=
 I.write (x:=a) (e:=a) mu (.inl rfl) (fun b q hb z=>(hs.2 b hb).trans z) he new
theorem Qo {P:Program}{w:World}{H':Hp}{h':Heap}{kvs:List (Key×V)}{vs:List (Key×Value)}(z:kvs.length<=sizeLine)(hd:(a==sysModules)=false)(rel:KV kvs vs)(dd:h'.DictOf (dW P w) a vs) :
  cJ P w H' h' a (.dK kvs):=⟨z,hd,vs,rel,dd⟩
theorem Iu {H':Hp}{Q:Unit->Shared->Prop}(hu:A.units+1<cLine)(I:aZ X pins σ H s)(g:Jx H a y v H')(ry:RelV y u)(rv:RelV v r)(h:∀ s',aZ X pins σ H' s'->Q () s') :
  wpAny (model X.prog X.w) A (setItem (.ref a) u r) Q E s:=by
 rcases g with ⟨kvs,k,e,ey,l,eH⟩ | ⟨kvs,k,b,e,ey,eb,l,eH⟩
 ·subst ey eH;obtain ⟨z,hd,vs,rel,dd⟩:=XN I.hok e;have hz:vs.length<=sizeLine:=by rw [<- rel.length]; exact z
  have hl:(putK kvs k v).length<=sizeLine:=by have:=mG kvs k v; omega
  refine wpAny_setItem_pairs (hsz:=hz) (Gb ry) dd fun h' dd' hs=>h _ ?_;have he:∃ q,h'.get? a=some q:=let ⟨q,_,_,hq,_⟩:=dd'; ⟨q,hq⟩;exact Gr I (by rw [e]; exact True.intro) hs he (Qo hl hd (rel.put k rv) dd')
 ·subst ey eH;cases (show u=Value.ref b from ry);obtain ⟨z,hd,xs,rel,dd⟩:=XX I.hok e;have hz:xs.length<=sizeLine:=by rw [<- Paired.length rel]; exact z
  have hl:(putK kvs k v).length<=sizeLine:=by have:=mG kvs k v; omega
  refine wpAny_setItem_heap (hsz:=hz) (tupleKind_room_in1 hu) (Ay I.hok eb) dd fun h' dd' hs=>h _ ?_;obtain ⟨q,es,ep,hq,h2,h3,h4,_,h5⟩:=dd';refine Gr I (by rw [e]; exact True.intro) hs ⟨q,hq⟩ ⟨hl,hd,_,(rel.put k eb rv).keeps fun c ys ec=>?_,q,es,ep,hq,h2,h3,h4,h5⟩;rw [aK (bI ec e (fun z=>nomatch z))];exact ec
end
def WD (i:Expr):Prop:=∀ ov iv,subscripted i false ov iv=operate [ov,iv] (getItem ov iv)
theorem Mq {prog:Program}{w:World}{A:Around}{E:Value->Shared->Prop}{s:Shared}{env:Env}{value slice:Expr}{pos:Pos}{T id:String}{Q:Value->Shared->Prop}
  (hl:typeLookup (.type T) "__getitem__" = pure (some (.builtin id))) (hs:WD slice)
  (h:wpAny (model prog w) A (eval value env) (fun o s₁=>wpAny (model prog w) A (eval slice env) (fun i s₂=>s₂.TypeIs o T/\wpAny (model prog w) A (getItem o i) Q E s₂) E s₁) E s) :
  wpAny (model prog w) A (eval (.Subscript value slice pos) env) Q E s:=by
 refine Subscript_ (wpAny_mono h (fun o s₁ h₁=>wpAny_mono h₁ (fun i s₂ h₂=>?_) fun _ _ x=>x) fun _ _ x=>x);obtain ⟨hT,h₂⟩:=h₂;unfold subscriptTail;refine wpAny_bind ?_;rw [getitemInPython_of_ne hT.not_modules];refine wpAny_bind (wpAny_specialOf hT hl ?_);have fin:wpAny (model prog w) A (subscripted slice false o i) (fun r s₃=>wpAny (model prog w) A (letTemporaryGo value o r >>= fun _=>pure r) Q E s₃) E s₂:=by
  rw [hs o i];exact wpAny_operating (wpAny_mono h₂ (fun r s₃ h₃=>wpAny_bind (wpAny_letTemporaryGo (wpAny_pure h₃))) fun _ _ x=>x)
 first
  | exact wpAny_pure (wpAny_bind fin)
  | exact wpAny_bind (wpAny_pure (wpAny_bind fin))
  | exact wpAny_bind fin
theorem Bf {X:Cx}{pins:List (Addr×Obj)}{σ:St}{H:Hp}{s:Shared}{a:Addr}{y:V}{o:Option V}(I:aZ X pins σ H s)(g:Ce H a y o):s.TypeIs (.ref a) "dict":=by
 rcases g with ⟨kvs,k,e,_,_⟩ | ⟨kvs,k,b,e,_,_,_⟩
 ·obtain ⟨_,_,vs,_,dd⟩:=BX I.hok e;exact dd.typeIs
 ·obtain ⟨_,_,xs,_,dd⟩:=Di I.hok e;exact dd.typeIs
def Vx (td ty:TE):TE:=fun σ H Q=>td σ H fun x H1=>ty σ H1 fun y H2=>∃ a v,x=.ref a/\Ce H2 a y (some v)/\Q v H2
def ZC (td ty tv:TE):TS:=fun D σ H=>tv σ H fun v H1=>td σ H1 fun x H2=>ty σ H2 fun y H3=>∃ a H4,x=.ref a/\Jx H3 a y v H4/\D.nx σ H4
section
variable {X:Cx}{o i e value:Expr}{pos pos' tpos:Pos}{td ty tv:TE}
theorem Gx (hu:X.A.units+1<cLine)(ho:PE X o td)(hi:PE X i ty)(hs:WD i):PE X (.Subscript o i pos) (Vx td ty):=by
 intro pins s σ H Q I h;refine Mq PySem.F.slot_dict_getitem.lookup hs (dH (ho pins s σ H _ I h) fun u s1 ⟨x,H1,I1,rx,q1⟩=>dH (hi pins s1 σ H1 _ I1 q1) fun iv s2 ⟨y,H2,I2,ry,a,v,ex,g,q2⟩=>?_);subst ex;obtain rfl:u=Value.ref a:=rx;exact ⟨Bf I2 g,Ip hu I2 g ry fun w' s3 I3 rw'=>⟨v,H2,I3,rw',q2⟩⟩
theorem O5 (hu:X.A.units+1<cLine)(ho:PE X o td)(hi:PE X i ty)(hv:PE X value tv)(hs:swapsWith value (some (.Subscript o i pos')) pos.line X.env=pure false) :
  PS X (.Assign [.Subscript o i pos'] value pos) (ZC td ty tv):=by
 intro pins s σ H D I h;refine wpAny_Assign_Subscript (dH (hv pins s σ H _ I h) fun r s1 ⟨v,H1,I1,rv,q1⟩=>dH (ho pins s1 σ H1 _ I1 q1) fun u s2 ⟨x,H2,I2,rx,q2⟩=>dH (hi pins s2 σ H2 _ I2 q2) fun iv s3 ⟨y,H3,I3,ry,a,H4,ex,g,q3⟩=>?_) hs;subst ex;obtain rfl:u=Value.ref a:=rx;exact Iu hu I3 g ry rv fun s4 I4=>⟨σ,H4,I4,q3⟩
end
theorem JH {P:Program}{w:World}{H:Hp}(h:Heap)(hb:sysModules<h.objs.size):cJ P w H (h.push { cls:=.type "dict",data:=.dict #[] }) h.objs.size (.dT []) :=
 ⟨aJD _,beq_eq_false_iff_ne.mpr (Ne.symm (aJB hb)),[],.nil,_,#[],0,aJr _ rfl,⟨rfl,rfl,rfl⟩,rfl,rfl,aKX⟩
def Q5:TE:=fun _ H Q=>∀ p,H p=none->Q (.ref p) (aX H p (.dT []))
section
variable {X:Cx}{pos:Pos}
theorem Jr:PE X (.Dict [] [] pos) Q5:=fun pins s σ H Q I h =>
 wpAny_Dict_empty ⟨.ref s.heap.objs.size,_,I.laid (a:=s.heap.objs.size) (o:=.dT []) (t':=s.toks) (fun _ _ q=>aJb _ q) (aJd _) (JH s.heap I.big),rfl,h _ (I.hok.fresh (aJd _))⟩
end
structure M1 (X:Cx)(o:Expr)(m:Str)(apos:Pos)(e:Expr)(cpos:Pos):Prop where
 base:attributeBase o m X.env (eval o X.env)=eval o X.env
 few:((backTo cpos (starEach [e] X.env)).all (fun x=>!x.1)&&(backToKw cpos (keywordEach [] X.env)).all (fun x=>x.1.isSome)
 &&decide (([e]:List Expr).length+([]:List Keyword).length+(if ([]:List Keyword).isEmpty then 0 else 1)<30))=true
 line:(apos.endLine==cpos.line)=true
 trees:backTo cpos (starEach [e] X.env)=[(false,eval e X.env)]
structure M2 (X:Cx)(o:Expr)(m:Str)(apos:Pos)(e f:Expr)(cpos:Pos):Prop where
 base:attributeBase o m X.env (eval o X.env)=eval o X.env
 few:((backTo cpos (starEach [e,f] X.env)).all (fun x=>!x.1)&&(backToKw cpos (keywordEach [] X.env)).all (fun x=>x.1.isSome)
 &&decide (([e,f]:List Expr).length+([]:List Keyword).length+(if ([]:List Keyword).isEmpty then 0 else 1)<30))=true
 line:(apos.endLine==cpos.line)=true
 trees:backTo cpos (starEach [e,f] X.env)=[(false,eval e X.env),(false,eval f X.env)]
def IsD (H:Hp)(a:Addr):Prop:=(∃ kvs,Rd H a (.dK kvs))∨∃ kvs,Rd H a (.dT kvs)
theorem Qw {X:Cx}{pins:List (Addr×Obj)}{σ:St}{H:Hp}{s:Shared}{a:Addr}(I:aZ X pins σ H s)(d:IsD H a) :
  s.TypeIs (.ref a) "dict"/\(∀ b,Value.ref a=.ref b->∃ ob,s.heap.get? b=some ob/\ob.dict=none)/\(a==sysModules)=false:=by
 rcases d with ⟨kvs,e⟩ | ⟨kvs,e⟩
 ·obtain ⟨_,hd,vs,_,dd⟩:=BX I.hok e;refine ⟨dd.typeIs,fun b q=>?_,hd⟩;cases q;obtain ⟨ob,_,_,h1,h2,_⟩:=dd;exact ⟨ob,h1,h2.2.1⟩
 ·obtain ⟨_,hd,xs,_,dd⟩:=Di I.hok e;refine ⟨dd.typeIs,fun b q=>?_,hd⟩;cases q;obtain ⟨ob,_,_,h1,h2,_⟩:=dd;exact ⟨ob,h1,h2.2.1⟩
section
variable {X:Cx}{pins:List (Addr×Obj)}{σ:St}{H:Hp}{s:Shared}{a:Addr}{y d:V}{u r:Value}{o:Option V}{A:Around}{E:Value->Shared->Prop}
theorem R8 {Q:Value->Shared->Prop}(hu:A.units+1<cLine)(I:aZ X pins σ H s)(g:Ce H a y o)(ry:RelV y u)(rd:RelV d r)(h:∀ w' s',aZ X pins σ H s'->RelV (o.getD d) w'->Q w' s') :
  wpAny (model X.prog X.w) A (call (.builtin "dict.get") [.ref a,u,r]) Q E s:=by
 rcases g with ⟨kvs,k,e,ey,l⟩ | ⟨kvs,k,b,e,ey,eb,l⟩
 ·subst ey;obtain ⟨z,hd,vs,rel,dd⟩:=BX I.hok e;refine call_meetsIn PySem.F.slot_dict_get dd.typeIs PySem.F.entry_dict_get (PySem.F.args_dict_get_3 _ _ _) (meets_dict_get_default (dW X.prog X.w) a (Gb ry) hd r) ⟨_,dd.mapOf,h _ _ (I.tok _) ?_⟩;rw [l];exact (rel.val k).getD rd
 ·subst ey;cases (show u=Value.ref b from ry);obtain ⟨z,hd,xs,rel,dd⟩:=Di I.hok e;refine call_meetsIn PySem.F.slot_dict_get dd.typeIs PySem.F.entry_dict_get (PySem.F.args_dict_get_3 _ _ _) (meetsH_dict_get_default (tupleKind (dW X.prog X.w)) a b hd r) ⟨tupleKind_room_in1 hu,k,xs,Ay I.hok eb,dd,h _ _ (I.tok _) ?_⟩;rw [l];exact (rel.val k).getD rd
end
def Qs (td ty tx:TE):TE:=fun σ H Q=>td σ H fun x H1=>∃ a,x=.ref a/\IsD H1 a/\ty σ H1 fun y H2=>tx σ H2 fun z H3=>∃ o,Ce H3 a y o/\Q (o.getD z) H3
section
variable {X:Cx}{o e f:Expr}{apos cpos:Pos}{td ty tx:TE}
theorem J6 (hu:X.A.units+1<cLine)(ho:PE X o td)(he:PE X e ty)(hf:PE X f tx)(m:M2 X o "get" apos e f cpos):PE X (.Call (.Attribute o "get" apos) [e,f] [] cpos) (Qs td ty tx):=by
 intro pins s σ H Q I h;refine wpAny_Call_method m.base m.few m.line PySem.F.plainAttrs_dict PySem.F.slot_dict_get PySem.F.type_dict_get (dH (ho pins s σ H _ I h) fun u s1 ⟨x,H1,I1,rx,a,ex,d,q1⟩=>?_);subst ex;obtain rfl:u=Value.ref a:=rx;obtain ⟨t1,t2,_⟩:=Qw I1 d;refine ⟨t1,t2,?_⟩;rw [m.trees];refine Calls.callWith_builtin rfl (Calls.evalArgs_plain (Calls.spliced_cons (dH (he pins s1 σ H1 _ I1 q1) fun iv s2 ⟨y,H2,I2,ry,q2⟩ =>
  Calls.spliced_cons (dH (hf pins s2 σ H2 _ I2 q2) fun fv s3 ⟨z,H3,I3,rz,ov,g,q3⟩=>Calls.spliced_nil ?_))))
 exact R8 hu I3 g ry rz fun w' s4 I4 rw'=>⟨_,H3,I4,rw',q3⟩
end
section
variable {κ:Type}[DecidableEq κ]
theorem KQ {kvs:List (κ×V)}{k:κ}(h:lZ kvs k=none):¬ k∈kvs.map (·.1):=by
 intro m;obtain ⟨p,hp,e⟩:=aJe.mp m;have q:(kvs.any fun kv=>decide (kv.1=k))=true:=aKu.mpr ⟨p,hp,decide_eq_true e⟩;rw [vH,h] at q;exact absurd q (by simp)
end
end L2
namespace PySem
section
variable {prog:Program}{w:World}{A:Around}{E:Value->Shared->Prop}{R:Result->Shared->Prop}{s:Shared}
theorem Ak {elt target iter:Expr}{ifs:List Expr}{scope:Scope}{pos:Pos}{it acc:Value}{env:Env}(I:Nat->Shared->Prop)
  (turn:∀ n s,I n s->∀ E':Value->Shared->Prop,wpAny (model prog w) A (pyNext it) (fun r s₁=>match r with
   | none=>R (.ok .next) s₁
   | some v=>wpAny (model prog w) A (letOwnedTupleGo target it v) (fun _ s₁'=>wpAny (model prog w) A (assign target env v) (fun _ s₂ =>
     wpAny (model prog w) A (forIn ifs true fun c r=>if r=true then do let ok <- isTrue c env (eval c env); pure (ForInStep.yield ok) else pure (ForInStep.yield r)) (fun ok s₃ =>
      if ok=true then wpAny (model prog w) A (eval elt env) (fun x s₄ =>
       wpAny (model prog w) A (call (.builtin "list.append") [acc,x]) (fun _ s₅=>∃ m,m<n/\I m s₅) E' s₄) E' s₃
      else ∃ m,m<n/\I m s₃) E' s₂) E' s₁') E' s₁) E' s)
  (n:Nat) (h:I n s) :
  codeAny (model prog w) A (.compLoop (.ListComp elt [⟨target,iter,ifs,0⟩] scope pos) 0 it acc env) R s:=by
 refine codeAny_loop rfl I (fun n s hI=>?_) n h;show wpAny _ A ((compTurn (.ListComp elt [⟨target,iter,ifs,0⟩] scope pos) 0 it acc env).onRaise (fun x=>do noteFrame x env; theTreesLotGoes x)) _ _ s;refine wpAny_noted ?_;rw [compTurn_list];refine wpAny_bind (wpAny_standAt (wpAny_bind (wpAny_mono (turn n s hI _) (fun r s₁ h₁=>?_) fun _ _ h'=>h')));cases r with
 | none=>exact wpAny_pure h₁
 | some v =>
  refine wpAny_bind (wpAny_mono h₁ (fun _ s₁' h₁'=>?_) fun _ _ h'=>h');refine wpAny_bind (wpAny_mono h₁' (fun _ s₂ h₂=>wpAny_bind (wpAny_mono h₂ (fun ok s₃ h₃=>?_) fun _ _ h'=>h')) fun _ _ h'=>h');cases ok with
  | false=>exact wpAny_pure ⟨rfl,h₃⟩
  | true =>
   exact wpAny_bind (wpAny_bind (wpAny_mono h₃ (fun x s₄ h₄=>wpAny_bind (wpAny_mono h₄ (fun _ s₅ h₅=>wpAny_pure (wpAny_pure ⟨rfl,h₅⟩)) fun _ _ h'=>h')) fun _ _ h'=>h'))
end
def eX (env:Env):List (Str×NameKind)->List (Str×Addr)->List (Str×Addr)
 | [],cs=>cs
 | (n,k)::r,cs=>eX env r (if k==.free then (match env.cells.lookup n with | some a=>(n,a)::cs | none=>cs) else cs)
theorem rJ {scope:Scope}{env:Env}(h:∀ y∈scope.names,y.2=.free->∃ c,env.cells.lookup y.1=some c):closureFor scope env=pure (eX env scope.names []):=by
 unfold closureFor;have key:∀ (l:List (Str×NameKind)) (cs:List (Str×Addr)),(∀ y∈l,y.2=.free->∃ c,env.cells.lookup y.1=some c) ->
   (forIn l cs fun x r=>(match x with
    | (name,kind)=>if (kind==NameKind.free)=true then (do let a <- cellOf env name; pure (ForInStep.yield ((name,a)::r))) else pure (ForInStep.yield r):Sem (ForInStep (List (Str×Addr)))))=(pure (eX env l cs):Sem _):=by
  intro l
  induction l with
  | nil=>intro cs _; rfl
  | cons y r ih =>
   intro cs hy;obtain ⟨n,k⟩:=y;rw [List.forIn_cons]
   by_cases hk:(k==NameKind.free)=true
   ·obtain ⟨c,hc⟩:=hy (n,k) aJa (by simpa using hk);have e:cellOf env n=pure c:=by unfold cellOf; rw [hc]
    simp only [hk,if_true,e,pure_bind];rw [ih _ fun z hz=>hy z (aI9 _ hz)];show _=pure (eX env r (if (k==NameKind.free)=true then (match env.cells.lookup n with | some a=>(n,a)::cs | none=>cs) else cs));rw [if_pos hk,hc]
   ·have hk2:(k==NameKind.free)=false:=by simpa using hk
    simp only [hk2,aKd,if_false,pure_bind];rw [ih _ fun z hz=>hy z (aI9 _ hz)];show _=pure (eX env r (if (k==NameKind.free)=true then (match env.cells.lookup n with | some a=>(n,a)::cs | none=>cs) else cs));rw [if_neg hk]
 have k2:=key scope.names [] h;simp only [bind_pure]
 first
  | exact k2
  | (rw [<- k2]; rfl)
theorem rH {env:Env}:∀ (l:List (Str×NameKind)) (cs:List (Str×Addr)) (p:Str×Addr),p∈eX env l cs->p∈cs∨env.cells.lookup p.1=some p.2
 | [],_,_,h=>.inl h
 | (n,k)::r,cs,p,h=>by
  rcases rH r _ p h with q | q
  ·by_cases hk:(k==NameKind.free)=true
   ·rw [if_pos hk] at q;cases e:env.cells.lookup n with
    | none=>rw [e] at q; exact .inl q
    | some a =>
     rw [e] at q;rcases aJx.mp q with z | z
     ·subst z; exact .inr e
     ·exact .inl z
   ·rw [if_neg hk] at q; exact .inl q
  ·exact .inr q
theorem yJ {env:Env}:∀ (l:List (Str×NameKind)) (cs:List (Str×Addr)) (p:Str×Addr),p∈cs->p∈eX env l cs
 | [],_,_,h=>h
 | (n,k)::r,cs,p,h=>by
  refine yJ r _ p ?_
  by_cases hk:(k==NameKind.free)=true
  ·rw [if_pos hk];cases e:env.cells.lookup n with
   | none=>exact h
   | some a=>exact aI9 _ h
  ·rw [if_neg hk]; exact h
theorem sI {env:Env}{n:Str}{c:Addr}(e:env.cells.lookup n=some c):∀ (l:List (Str×NameKind)) (cs:List (Str×Addr)),(n,NameKind.free)∈l->(n,c)∈eX env l cs
 | [],_,h=>nomatch h
 | (m,k)::r,cs,h=>by
  rcases aJx.mp h with z | z
  ·cases z;refine yJ r _ _ ?_;rw [if_pos (by rfl),e];exact aJa
  ·exact sI e r _ z
theorem jQ {β:Type}{n:Str}{c:β}:∀ {l:List (Str×β)},(n,c)∈l->∃ d,l.lookup n=some d
 | [],h=>nomatch h
 | (m,d)::r,h=>by
  cases q:n==m with
  | true=>exact ⟨d,by simp only [aJ4,q]⟩
  | false =>
   rcases aJx.mp h with z | z
   ·cases z;simp at q
   ·obtain ⟨d',e⟩:=jQ z;exact ⟨d',by simp only [aJ4,q,e]⟩
theorem gW {env:Env}:∀ {names:List (Str×NameKind)}{x:Str}{k:NameKind},
  (names.map fun (n,k)=>if (k==NameKind.free&&env.scope.kind==.function&&env.kindOf n==some .cell) then (n,NameKind.cell) else (n,k)).lookup x=some k ->
  ∃ k',names.lookup x=some k'/\(k'=k∨(k'=.free/\k=.cell))
 | [],_,_,h=>by simp at h
 | (n,j)::r,x,k,h=>by
  cases hx:x==n with
  | true =>
   refine ⟨j,by simp only [aJ4,hx],?_⟩
   by_cases hc:(j==NameKind.free&&env.scope.kind==.function&&env.kindOf n==some .cell)=true
   ·simp only [aJi,if_pos hc,aJ4,hx] at h;cases h;refine .inr ⟨?_,rfl⟩;simp only [aJA,beq_iff_eq] at hc;exact hc.1.1
   ·simp only [aJi,if_neg hc,aJ4,hx] at h;cases h;exact .inl rfl
  | false =>
   by_cases hc:(j==NameKind.free&&env.scope.kind==.function&&env.kindOf n==some .cell)=true
   ·simp only [aJi,if_pos hc,aJ4,hx] at h;obtain ⟨k',e1,e2⟩:=gW h;exact ⟨k',by simp only [aJ4,hx,e1],e2⟩
   ·simp only [aJi,if_neg hc,aJ4,hx] at h;obtain ⟨k',e1,e2⟩:=gW h;exact ⟨k',by simp only [aJ4,hx,e1],e2⟩
end PySem
namespace L2
open PySem PySem.Spec PyProof.Rows
open Builtin.Int (intBits)
section
variable {X:Cx}
def K5 (i j:Int):Prop:=intBits i+intBits j<=134217728
def ZR (i j:Int):Prop:=j≠0/\intBits j<=9000
theorem dO:mK X (binaryOp .Mult) (rI K5 fun i j=>.int (i*j)):=PK fun _ _ _ _ _ _ _ hc q=>mul_int q (IntMulOk.of_le (aJd _) (aJd _) hc)
theorem zF {j:Int}(h0:j≠0)(h:intBits j<=9000):j.natAbs.log2<9000:=by
 unfold Builtin.Int.intBits at h;have e:(j==0)=false:=by simpa using h0
 rw [e] at h;simp only [aKd,if_false] at h;omega
theorem gU:mK X (binaryOp .FloorDiv) (rI ZR fun i j=>.int (i.fdiv j)):=PK fun _ _ _ _ _ _ _ hc q=>floordiv_int hc.1 q (.inl (PyProof.noPylong_of_log2 (zF hc.1 hc.2)))
theorem cO {T:String}:eZ X (.builtin "isinstance") (fun xs H Q=>∃ x t b,xs=[x,.ty T]/\gF X.K H x t/\PySem.W.kitOne X.K t (.type T)=some b/\Q (.bl b) H):=by
 intro pins s σ H xs us Q I r h;obtain ⟨x,t,b,rfl,ty,e,q⟩:=h;obtain ⟨u,w',rfl,rx,rt⟩:=vals2 r;cases (show w'=Value.type T from rt);exact yR I rx ty e fun tk=>⟨.bl b,H,I.tok _,rfl,q⟩
theorem getD_at {α:Type}{l:List α}{d:α}{i:Nat}(h:i<l.length):l.getD i d=l[i]:=by simp [h]
end
structure bJ (sc scope:Scope):Prop where
 kind:scope.kind=.function
 nocell:∀ y∈scope.names,y.2≠.cell
 loc:∀ y∈scope.names,y.2=.local->scope.names.lookup y.1=some .local
 free:∀ y∈scope.names,y.2=.free->sc.names.lookup y.1=some .cell∨sc.names.lookup y.1=some .free
def HR (sc scope:Scope):Bool:=(scope.kind==.function)&&scope.names.all fun y=>(y.2 != .cell)&&((y.2 != .local)||(scope.names.lookup y.1==some .local))&&((y.2 != .free)||(sc.names.lookup y.1==some .cell)||(sc.names.lookup y.1==some .free))
theorem bJ.of {sc scope:Scope}(h:HR sc scope=true):bJ sc scope:=by
 unfold HR at h;rw [aJA,aJN] at h;obtain ⟨hk,h⟩:=h;refine ⟨eq_of_beq hk,fun y hy=>?_,fun y hy e=>?_,fun y hy e=>?_⟩
 ·have q:=h y hy;simp only [aJA,bne_iff_ne] at q;exact q.1.1
 ·have q:=h y hy;simp only [aJA,aKz,bne_iff_ne,beq_iff_eq] at q;exact q.1.2.resolve_left fun z=>z e
 ·have q:=h y hy;simp only [aJA,aKz,bne_iff_ne,beq_iff_eq] at q;rcases q.2 with (z | z) | z
  ·exact absurd e z
  ·exact .inl z
  ·exact .inr z
structure NL (N M:List Str)(scope:Scope):Prop where
 len:M.length=N.length
 loc:∀ (j:Nat) x,M[j]? = some x->scope.names.lookup x≠some .local
 free:∀ (j:Nat) x,M[j]? = some x->scope.names.lookup x=some .free->N[j]? = some x
def nlB (scope:Scope):List Str->List Str->Bool
 | [],[]=>true
 | x::M,y::N=>(scope.names.lookup x != some .local)&&((scope.names.lookup x != some .free)||x==y)&&nlB scope M N
 | _,_=>false
theorem NL.of {scope:Scope}:∀ {N M:List Str},nlB scope M N=true->NL N M scope
 | [],[],_=>⟨rfl,fun j x h=>by simp at h,fun j x h=>by simp at h⟩
 | [],_::_,h=>by cases h
 | _::_,[],h=>by cases h
 | y::N,x::M,h=>by
  have h':((scope.names.lookup x != some .local)&&((scope.names.lookup x != some .free)||x==y)&&nlB scope M N)=true:=h;simp only [aJA,aKz,bne_iff_ne,beq_iff_eq] at h';obtain ⟨⟨h1,h2⟩,h3⟩:=h';have q:=NL.of h3;refine ⟨by simp [q.len],fun j z e=>?_,fun j z e f=>?_⟩
  ·cases j with
   | zero=>simp at e; subst e; exact h1
   | succ j=>exact q.loc j z (by simpa using e)
  ·cases j with
   | zero =>
    simp at e; subst e;rcases h2 with w | w
    ·exact absurd f w
    ·simp [w]
   | succ j=>simpa using q.free j z (by simpa using e) f
def eF (X:Cx)(ls M:List Str)(scope:Scope)(C:Addr)(fp:List Addr)(s:Shared)(H:Hp):Cx where
 prog:=X.prog
 w:=X.w
 K:=X.K
 mg:=X.mg
 base:=X.base
 A:=X.A
 N:=ls++M
 s₀:=s
 H₀:=H
 env:=compEnvC scope (eX X.env scope.names []) C X.env
 outer:=X.stack
 stack:=X.stack
 ex:=fp
 fn:=fun _=>false
 calm:=X.calm
 pn:=[]
 xe:=fun _ _=>False
def U5 (Y:Cx)(ifs:List Expr)(c:TT):Prop :=
 ∀ (pins:List (Addr×Obj)) (s:Shared) (σ:St) (H:Hp) (Q:Bool->Hp->Prop),aZ Y pins σ H s->c σ H Q ->
  wpAny (model Y.prog Y.w) Y.A (forIn ifs true fun c r=>if r=true then do let ok <- isTrue c Y.env (eval c Y.env); pure (ForInStep.yield ok) else pure (ForInStep.yield r)) (TP Y pins σ Q) Y.xe s
def Qm:TT:=fun _ H Q=>Q true H
theorem b7 {Y:Cx}:U5 Y [] Qm:=fun _ _ _ H _ I h=>wpAny_tests_nil ⟨H,I,h⟩
theorem uY {Y:Cx}{e:Expr}{c:TT}(h:PT Y e c):U5 Y [e] c:=fun pins s σ H Q I hw=>wpAny_tests_one (h pins s σ H Q I hw)
def CQ (k:Nat)(J:It)(g:TG)(c:TT)(te:TE)(σ:St)(H1:Hp)(D:Addr)(Q:VK):Prop :=
 ∃ W:Nat->Nat->St->Hp->Prop,(∃ m,W 0 m (aJt k none++σ) (aX H1 D (.lst [])))/\∀ i m τ H,W i m τ H ->
  (J.stop i H/\Q (.ref D) H)∨(J.go i H/\∀ x H',J.yld i H x H'->g x τ H' fun τ2 H2=>c τ2 H2 fun b H3=>if b=true then te τ2 H3 fun y H4=>∃ ys m',m'<m/\H4 D=some (.lst ys)/\ys.length<sizeLine/\W (i+1) m' τ2 (aX H4 D (.lst (ys++[y]))) else ∃ m',m'<m/\W (i+1) m' τ2 H3)
def Ov (k:Nat)(wi:TI)(g:TG)(c:TT)(te:TE):TE:=fun σ H Q=>wi σ H fun J H1=>∀ D,H1 D=none->CQ k J g c te σ H1 D Q
structure O4 (X:Cx)(pins:List (Addr×Obj))(H:Hp)(C:Addr)(s:Shared):Prop where
 ns:∃ m,s.heap.Ns C m
 none:H C=none
 ne:C≠X.env.locals
 young:X.s₀.heap.objs.size<=C
 cells:∀ x c,X.env.cells.lookup x=some c->c≠C
 pins:∀ p∈X.pn++pins,p.1≠C
theorem aZ.gone {X:Cx}{pins:List (Addr×Obj)}{σ:St}{H:Hp}{C:Addr}{s:Shared}{h':Heap}(I:aZ X pins σ H s)(o:O4 X pins H C s)(hs:aJT C s.heap h'):aZ X pins σ H { s with heap:=h' } :=
 I.turned (t':=s.toks) (it:=C) (fun b ob hb e=>(hs.2 b hb).trans e) o.none o.ne (.inr o.young) o.cells o.pins
section
variable {X:Cx}{elt tg iter:Expr}{ifs:List Expr}{scope:Scope}{pos:Pos}{ls M:List Str}{g:TG}{c:TT}{te:TE}
theorem yZ {J:It}{fp:List Addr}{tn:Nat->Heap->Prop}{it:Addr}{pins:List (Addr×Obj)}{σ:St}{H2:Hp}{s2:Shared}{Qe:VK}{RR:Value->Addr->Result->Shared->Prop}{E:Value->Shared->Prop}
  (hc:X.calm=true) (S:bJ X.env.scope scope) (nl:NL X.N M scope)
  (hb:∀ C fp s H,PG (eF X ls M scope C fp s H) tg g/\U5 (eF X ls M scope C fp s H) ifs c/\PE (eF X ls M scope C fp s H) elt te)
  (I2:aZ X pins σ H2 s2) (T:Turn X.prog X.w X.K tg J fp it tn) (st2:tn 0 s2.heap) (f2:∀ b∈fp,jE X pins H2 b)
  (hW:∀ D,H2 D=none->CQ ls.length J g c te σ H2 D Qe)
  (hRR:∀ D C H' s',aZ X pins σ H' s'->O4 X pins H' C s'->Qe (.ref D) H'->RR (.ref D) C (.ok .next) s') :
  wpAny (model X.prog X.w) X.A (newList []) (fun acc s₃=>wpAny (model X.prog X.w) X.A (newFunctionEnv scope X.env.globals (eX X.env scope.names []) [] X.env.qual none .none (some X.env)) (fun cenv s₄ =>
   codeAny (model X.prog X.w) X.A (.compStart (.ListComp elt [⟨tg,iter,ifs,0⟩] scope pos) 0 (.ref it) acc { cenv with scope:=relabel scope X.env }) (RR acc cenv.locals) s₄) E s₃) E s2:=by
 refine wpAny_newObj_type (wpAny_newFunctionEnv S.nocell (by intro y hy; simp at hy) (fun h₁ hns₁ hsb₁=>?_) S.kind);dsimp only at hns₁ hsb₁ ⊢;have I3:aZ X pins σ (aX H2 s2.heap.objs.size (.lst [])) { s2 with heap:=s2.heap.push { cls:=.type "list",dict:=none,data:=.seq ([]:List Value).toArray },toks:=s2.toks } :=
  I2.laid (fun _ _ q=>aJb _ q) (aJd _) ⟨aJD _,[],0,.nil,aJr _ rfl⟩
 have hfreshD:H2 s2.heap.objs.size=none:=I2.hok.fresh (aJd _);generalize hHH:s2.heap.push { cls:=.type "list",dict:=none,data:=.seq ([]:List Value).toArray }=HH at hns₁ hsb₁ I3 ⊢;have up:∀ b o,s2.heap.get? b=some o->HH.get? b=some o:=fun b o e=>by rw [<- hHH]; exact aJb _ e
 have old:∀ b o,HH.get? b=some o->h₁.get? b=some o:=fun b o e=>hsb₁.extBut b o (aJB (aJm e)) (aJb _ e);generalize hH3:aX H2 s2.heap.objs.size (.lst [])=H3 at I3;have f3:∀ b∈fp,jE X pins H3 b:=fun b hb=>by
  obtain ⟨f0,fr⟩:=f2 b hb;refine ⟨?_,fr⟩;obtain ⟨o,e,_⟩:=T.obj 0 _ st2 b hb;rw [<- hH3,aK (aJB (aJm e))];exact f0
 have fplt:∀ b∈fp,b<HH.objs.size:=fun b hb=>by
  obtain ⟨o,e,_⟩:=T.obj 0 _ st2 b hb;exact aJm (up b o e)
 have sub:∀ x a,(eX X.env scope.names []).lookup x=some a->X.env.cells.lookup x=some a:=fun x a e=>by
  rcases rH _ _ _ (PySem.mem_of_lookup e) with z | z
  ·exact absurd z (by simp)
  ·exact z
 have kin:∀ x,scope.names.lookup x=some .free->X.env.kindOf x=some .cell∨X.env.kindOf x=some .free:=fun x e=>S.free (x,.free) (PySem.mem_of_lookup e) rfl;have has:∀ x a,scope.names.lookup x=some .free->X.env.cells.lookup x=some a->(eX X.env scope.names []).lookup x=some a:=fun x a e ec=>by
  obtain ⟨d,hd⟩:=jQ (sI ec scope.names [] (PySem.mem_of_lookup e));have:=sub x d hd;rw [ec] at this;cases this;exact hd
 have rel:∀ x k,(relabel scope X.env).names.lookup x=some k->(k=.cell∨k=.free)->scope.names.lookup x=some .free:=fun x k e hk=>by
  obtain ⟨k',e1,e2⟩:=gW (show (scope.names.map fun (n,k)=>if (k==NameKind.free&&X.env.scope.kind==.function&&X.env.kindOf n==some .cell) then (n,NameKind.cell) else (n,k)).lookup x=some k from e);rcases e2 with e2 | ⟨e2,_⟩
  ·subst e2;rcases hk with hk | hk
   ·subst hk; exact absurd rfl (S.nocell _ (PySem.mem_of_lookup e1))
   ·subst hk; exact e1
  ·subst e2; exact e1
 have okY:(eF X ls M scope HH.objs.size fp { s2 with heap:=HH,toks:=s2.toks } H3).Ok:=by
  refine ⟨I3.ok.mod,S.kind,I3.ok.glob,I3.ok.blt,aJd _,fun x y a h1 h2=>I3.ok.inj x y a (sub x a h1) (sub y a h2),fun x hx=>?_,(fun x a h=>nomatch h),I3.ok.hd,I3.ok.frames,.inl rfl,fun b hb'=>⟨aJB (fplt b hb'),fun x a e=>(f3 b hb').2.2.2.2.1 x a (sub x a e)⟩,
   I3.bs,aJc I3.ok.bsz I3.sz,fun b o e hb'=>?_,fun b hb' hs=>?_,I3.stack,I3.stkFree⟩
  ·have hf:scope.names.lookup x=some .free:=by
    rcases hx with hx | hx
    ·exact rel x _ hx (.inl rfl)
    ·exact rel x _ hx (.inr rfl)
   obtain ⟨a,ea⟩:=I3.ok.has x (kin x hf);exact ⟨a,has x a hf ea⟩
  ·rcases (f3 b hb').2.2.2.1 with z | z
   ·exact I3.ok.noex b o e z
   ·exact absurd (aJC (aJm e) (aJc I3.ok.bsz z)) (aKg _)
  ·rcases aJx.mp (I3.stkSub b hs) with z | z
   ·exact (f3 b hb').2.1 z
   ·exact (f3 b hb').2.2.1 z
 have IY:aZ (eF X ls M scope HH.objs.size fp { s2 with heap:=HH,toks:=s2.toks } H3) [] (aJt ls.length none++σ) H3 { s2 with heap:=h₁,toks:=s2.toks+([]:List (Str×Value)).length }:=by
  refine ⟨okY,rfl,I2.bare,Un.kept old,⟨_,hns₁,fun i x v e1 e2 e3=>?_⟩,fun x a e=>?_,I3.hok.fresh (aJd _),fun x a e=>I3.freeC x a (sub x a e),fun p hp=>absurd (show p∈([]:List (Addr×Obj)) from hp) (by simp),I3.hok.kept old,?_⟩
  ·have hi:ls.length<=i:=by
    by_cases hi:ls.length<=i
    ·exact hi
    ·rw [aKa (by simp; omega),aLo] at e2
     split at e2 <;> cases e2
   rw [aJW (by simpa using hi),aKb] at e2;have e0:M[i-ls.length]? = some x:=by
    have z:(ls++M)[i]? = some x:=e1;rw [aJW hi] at z;exact z
   have hnl:=nl.loc _ x e0;have hf:scope.names.lookup x=some .free:=by
    rcases e3 with e3 | e3 | e3
    ·obtain ⟨k',q1,q2⟩:=gW (show (scope.names.map fun (n,k)=>if (k==NameKind.free&&X.env.scope.kind==.function&&X.env.kindOf n==some .cell) then (n,NameKind.cell) else (n,k)).lookup x=some .local from e3);rcases q2 with q2 | ⟨_,q2⟩
     ·subst q2; exact absurd q1 hnl
     ·cases q2
    ·exact rel x _ e3 (.inl rfl)
    ·exact rel x _ e3 (.inr rfl)
   have e1':=nl.free _ x e0 hf;have hk:=kin x hf;obtain ⟨m,hn,hl⟩:=I3.loc;obtain ⟨u,ru,lk⟩:=hl (i-ls.length) x v e1' e2 (hk.elim (fun z=>.inr (.inl z)) fun z=>.inr (.inr z));refine ⟨u,ru,?_⟩;rcases lk with ⟨z,_⟩ | ⟨_,a,ea,hcell⟩
   ·rcases hk with hk | hk <;> (rw [hk] at z; cases z)
   ·obtain ⟨o,eo,hd⟩:=hcell;refine .inr ⟨?_,a,has x a hf ea,⟨o,old a o eo,hd⟩⟩;rcases e3 with e3 | e3 | e3
    ·obtain ⟨k',q1,q2⟩:=gW (show (scope.names.map fun (n,k)=>if (k==NameKind.free&&X.env.scope.kind==.function&&X.env.kindOf n==some .cell) then (n,NameKind.cell) else (n,k)).lookup x=some .local from e3);rcases q2 with q2 | ⟨_,q2⟩
     ·subst q2; exact absurd q1 hnl
     ·cases q2
    ·exact .inl e3
    ·exact .inr e3
  ·obtain ⟨v,o,eo,hd⟩:=I3.cell x a (sub x a e);exact ⟨v,o,old a o eo,hd⟩
  ·show (aJt ls.length none++σ).length=(ls++M).length;rw [aJv,aJv,aKb,I3.len,nl.len]
 have st1:tn 0 h₁:=T.keep 0 _ _ st2 fun b _ o e=>old b o (up b o e);obtain ⟨hPG,hPT,hPE⟩:=hb HH.objs.size fp { s2 with heap:=HH,toks:=s2.toks } H3;obtain ⟨W,⟨m0,w0⟩,turn⟩:=hW s2.heap.objs.size hfreshD;rw [hH3] at w0;have back:∀ {τ:St}{H':Hp}{s':Shared},aZ (eF X ls M scope HH.objs.size fp { s2 with heap:=HH,toks:=s2.toks } H3) [] τ H' s'->aZ X pins σ H' s'/\O4 X pins H' HH.objs.size s':=fun {τ H' s'} J=>by
  refine ⟨I3.call' (ch:=fp) J.os J.base J.hok J.bare fun b hb'=>?_,?_⟩
  ·obtain ⟨_,g1,g2,g3,g4,g5⟩:=f3 b hb';exact ⟨g3,g1,g4,g5⟩
  ·obtain ⟨m,hn,_⟩:=J.loc;refine ⟨⟨m,hn⟩,J.free,Ne.symm (aJB I3.lt),I3.sz,fun x a e=>?_,fun p hp=>aJB (aJm (I3.pin p hp).1)⟩;obtain ⟨v,q⟩:=I3.cell x a e;exact aJB q.lt
 have stat:∀ {H':Hp},(∀ b∈fp,H' b=none)->∀ b∈fp,jE (eF X ls M scope HH.objs.size fp { s2 with heap:=HH,toks:=s2.toks } H3) [] H' b:=fun {H'} hn b hb'=>by
  obtain ⟨_,g1,g2,g3,g4,g5⟩:=f3 b hb';refine ⟨hn b hb',aJB (fplt b hb'),fun hs=>?_,.inl hb',fun x a e=>g4 x a (sub x a e),fun p hp=>absurd (show p∈([]:List (Addr×Obj)) from hp) (by simp)⟩;rcases aJx.mp (I3.stkSub b hs) with z | z
  ·exact g1 z
  ·exact g2 z
 have loop:∀ s₃:Shared,s₃ = { s2 with heap:=h₁,toks:=s2.toks+([]:List (Str×Value)).length } ->
   codeAny (model X.prog X.w) X.A (.compLoop (.ListComp elt [⟨tg,iter,ifs,0⟩] scope pos) 0 (.ref it) (.ref s2.heap.objs.size) (compEnvC scope (eX X.env scope.names []) HH.objs.size X.env)) (RR (.ref s2.heap.objs.size) HH.objs.size) s₃:=by
  rintro s₃ rfl;refine Ak (fun n s'=>∃ i τ H',aZ (eF X ls M scope HH.objs.size fp { s2 with heap:=HH,toks:=s2.toks } H3) [] τ H' s'/\tn i s'.heap/\(∀ b∈fp,H' b=none)/\W i n τ H') ?_ m0 ⟨0,_,H3,IY,st1,fun b hb'=>(f3 b hb').1,w0⟩;rintro n s3 ⟨i,τ,H',I4,st4,fr4,w4⟩ E';rcases turn i n τ H' w4 with ⟨stop,qn⟩ | ⟨go,step⟩
  ·refine dH (T.done (eF X ls M scope HH.objs.size fp { s2 with heap:=HH,toks:=s2.toks } H3) rfl rfl rfl hc i [] s3 τ H' E' I4 (stat fr4) st4 stop) fun r s4 ⟨hr,I5⟩=>?_;subst hr;obtain ⟨b1,b2⟩:=back I5;exact hRR _ _ H' s4 b1 b2 qn
  ·refine dH (T.item (eF X ls M scope HH.objs.size fp { s2 with heap:=HH,toks:=s2.toks } H3) rfl rfl rfl hc i [] s3 τ H' E' I4 (stat fr4) st4 go) fun r s4 ⟨u,hr,h4⟩=>?_;subst hr;refine dH h4 fun _ s5 ⟨x,H5,I5,r5,y5,st5,fr5⟩=>?_;have I5':=I5.pinned (stat fr5) (T.obj _ _ st5);refine wpAny_mono (hPG _ s5 τ H5 x u _ I5' r5 (step x H5 y5)) (fun _ s6 ⟨σ6,H6,I6,q6⟩=>?_) fun _ _ z=>z.elim;refine wpAny_mono (hPT _ s6 σ6 H6 _ I6 q6) (fun ok s7 ⟨H7,I7,q7⟩=>?_) fun _ _ z=>z.elim;have again:∀ {σ8:St}{H8:Hp}{s8:Shared}{m':Nat},aZ (eF X ls M scope HH.objs.size fp { s2 with heap:=HH,toks:=s2.toks } H3) ([]++vB fp s5.heap) σ8 H8 s8->m'<n->W (i+1) m' σ8 H8 ->
     ∃ m,m<n/\∃ i τ H',aZ (eF X ls M scope HH.objs.size fp { s2 with heap:=HH,toks:=s2.toks } H3) [] τ H' s8/\tn i s8.heap/\(∀ b∈fp,H' b=none)/\W i m τ H':=fun {σ8 H8 s8 m'} I8 hm w8=>by
    refine ⟨m',hm,i+1,σ8,H8,I8.unpinned,T.keep _ _ _ st5 fun b hb' o e=>(I8.pin (b,o) (aJs _ (aJs _ (kY hb' e)))).1,fun b hb'=>?_,w8⟩;obtain ⟨o,e,d⟩:=T.obj _ _ st5 b hb';exact (I8.pin (b,o) (aJs _ (aJs _ (kY hb' e)))).2.1
   cases ok with
   | false =>
    rw [if_neg aJp] at q7 ⊢;obtain ⟨m',hm,w7⟩:=q7;exact again I7 hm w7
   | true =>
    rw [if_pos rfl] at q7 ⊢;refine wpAny_mono (hPE _ s7 σ6 H7 _ I7 q7) (fun yv s8 ⟨y,H8,I8,r8,ys,m',hm,hD,hz,w8⟩=>?_) fun _ _ z=>z.elim;refine wpAny_mono (iM (X:=(eF X ls M scope HH.objs.size fp { s2 with heap:=HH,toks:=s2.toks } H3)) _ s8 σ6 H8 (.ref s2.heap.objs.size) [y] (.ref s2.heap.objs.size) [yv] (fun _ H9=>W (i+1) m' σ6 H9) I8 rfl (.cons r8 .nil) ⟨_,ys,y,rfl,rfl,hD,hz,w8⟩) (fun _ s9 ⟨_,H9,I9,_,w9⟩=>?_) fun _ _ z=>z.elim;exact again I9 hm w9
 exact codeAny_compStart_list (loop _ rfl) (T.self _ 0 _ _ _ st1 (loop _ rfl))
theorem Eg (S:bJ X.env.scope scope)(ok:X.Ok):closureFor scope X.env=pure (eX X.env scope.names []) :=
 rJ fun y hy e=>ok.has y.1 (S.free y hy e)
theorem cD {wi:TI}(hc:X.calm=true)(S:bJ X.env.scope scope)(nl:NL X.N M scope)(hi:PI X tg iter wi)
  (hb:∀ C fp s H,PG (eF X ls M scope C fp s H) tg g/\U5 (eF X ls M scope C fp s H) ifs c/\PE (eF X ls M scope C fp s H) elt te)
  (hs:∀ x,foldedSetIterable iter X.env x=pure x:=by intro _; rfl):PE X (.ListComp elt [⟨tg,iter,ifs,0⟩] scope pos) (Ov ls.length wi g c te):=by
 intro pins s σ H Q I h;rw [eval_ListComp];refine wpAny_comprehension_free (use:=none) rfl hs (Eg S I.ok) S.kind S.loc (dH (hi pins s σ H _ I h) fun xv s1 h1=>dH h1 fun itv s2 h2=>?_);obtain ⟨it,fp,tn,J,H2,e,I2,T,st2,f2,hW⟩:=h2;subst e;refine yZ (RR:=fun acc C=>compPost (model X.prog X.w) X.A X.xe none (EP X pins σ Q) acc C) (Qe:=Q) hc S nl hb I2 T st2 f2 hW fun D C H' s' I' o q=>?_;exact ⟨o.ns.choose,o.ns.choose_spec,fun h' hs'=>⟨.ref D,H',I'.gone o hs',rfl,q⟩⟩
theorem m8 {wi:TI}{i:Nat}{y:Str}{py spos:Pos}(hc:X.calm=true)(S:bJ X.env.scope scope)(nl:NL X.N M scope)(hN:X.N.Nodup)(hiy:X.N[i]? = some y)(hy:Loc X.env.scope y)
  (hi:PI X tg iter wi) (hb:∀ C fp s H,PG (eF X ls M scope C fp s H) tg g/\U5 (eF X ls M scope C fp s H) ifs c/\PE (eF X ls M scope C fp s H) elt te)
  (hsw:swapsWith (.ListComp elt [⟨tg,iter,ifs,0⟩] scope pos) (some (.Name y py)) spos.line X.env=pure true:=by rfl)
  (hs:∀ x,foldedSetIterable iter X.env x=pure x:=by intro _; rfl) (hf:X.fn y=true∨X.env.scope.names.lookup y=some .local:=by first | exact .inl rfl | exact .inr rfl) :
  PS X (.Assign [.Name y py] (.ListComp elt [⟨tg,iter,ifs,0⟩] scope pos) spos) (RB (Ov ls.length wi g c te) (qT i)):=by
 intro pins s σ H D I h;rw [exec_Assign_Name_used _ _ _ _ hsw];refine wpAny_bind (wpAny_standAt (wpAny_bind ?_));show wpAny _ X.A (do let _ <- comprehension (.ListComp elt [⟨tg,iter,ifs,0⟩] scope pos) scope X.env _ (newList []) false (eval iter X.env) (some (assign (.Name y py) X.env))) _ _ s;refine wpAny_bind (wpAny_mono (wpAny_comprehension_free (use:=some (assign (.Name y py) X.env)) (Q:=fun _ s'=>SP X pins D .next s') rfl hs (Eg S I.ok) S.kind S.loc (dH (hi pins s σ H _ I h) fun xv s1 h1=>dH h1 fun itv s2 h2=>?_)) (fun _ s' hq=>wpAny_pure (wpAny_pure hq)) fun _ _ e=>e);obtain ⟨it,fp,tn,J,H2,e,I2,T,st2,f2,hW⟩:=h2;subst e;refine yZ (RR:=fun acc C=>compPost (model X.prog X.w) X.A X.xe (some (assign (.Name y py) X.env)) (fun _ s'=>SP X pins D .next s') acc C) hc S nl hb I2 T st2 f2 hW fun Dl C H' s' I' o q=>?_;show wpAny _ X.A (assign (.Name y py) X.env (.ref Dl)) _ _ _;refine wpAny_assign_Name (xP I' hN hiy hy (v:=.ref Dl) rfl (fun s'' I'' ⟨a,hsa,ha⟩=>?_) hf);have hCa:C≠a:=by
  rcases ha with z | z
  ·rw [z]; exact o.ne
  ·exact Ne.symm (o.cells y a z)
 obtain ⟨m,hm⟩:=o.ns;have o2:O4 X pins H' C s'':=⟨⟨m,hm.sameBut hsa hCa⟩,o.none,o.ne,o.young,o.cells,o.pins⟩
 exact ⟨m,hm.sameBut hsa hCa,fun h' hs'=>⟨_,H',I''.gone o2 hs',q⟩⟩
end
def CW (n:Nat)(Pv:Nat->St->Hp->Prop)(i m:Nat)(τ:St)(H:Hp):Prop:=m=n-i/\i<=n/\Pv i τ H
theorem bB {n i m:Nat}{Pv:Nat->St->Hp->Prop}{τ:St}{H4:Hp}{D:Addr}{ys:List V}{y:V}(hm:m=n-i)(hi:i<n)(e1:H4 D=some (.lst ys))(e2:ys.length<sizeLine)(p:Pv (i+1) τ (aX H4 D (.lst (ys++[y])))) :
  ∃ ys m',m'<m/\H4 D=some (.lst ys)/\ys.length<sizeLine/\CW n Pv (i+1) m' τ (aX H4 D (.lst (ys++[y]))):=⟨ys,n-(i+1),by omega,e1,e2,rfl,hi,p⟩
theorem j4 {n i m:Nat}{Pv:Nat->St->Hp->Prop}{τ:St}{H3:Hp}(hm:m=n-i)(hi:i<n)(p:Pv (i+1) τ H3):∃ m',m'<m/\CW n Pv (i+1) m' τ H3:=⟨n-(i+1),by omega,rfl,hi,p⟩
theorem fG {k:Nat}{lo:Int}{n:Nat}{g:TG}{c:TT}{te:TE}{σ:St}{H1:Hp}{D:Addr}{Q:VK}(Pv:Nat->St->Hp->Prop)(h0:Pv 0 (aJt k none++σ) (aX H1 D (.lst [])))
  (hs:∀ i m τ H,m=n-i->i<n->Pv i τ H->g (.int (lo+i)) τ H fun τ2 H2=>c τ2 H2 fun b H3=>if b=true then te τ2 H3 fun y H4=>∃ ys m',m'<m/\H4 D=some (.lst ys)/\ys.length<sizeLine/\CW n Pv (i+1) m' τ2 (aX H4 D (.lst (ys++[y]))) else ∃ m',m'<m/\CW n Pv (i+1) m' τ2 H3)
  (hd:∀ τ H,Pv n τ H->Q (.ref D) H):CQ k (QX lo n) g c te σ H1 D Q:=by
 refine ⟨CW n Pv,⟨n,rfl,aJD _,h0⟩,?_⟩;rintro i m τ H ⟨hm,hi,p⟩
 by_cases hlt:i<n
 ·refine .inr ⟨hlt,fun x H' y=>?_⟩;obtain ⟨e,y⟩:=y;subst e y;exact hs i m τ _ hm hlt p
 ·have e:i=n:=by omega
  subst e;exact .inl ⟨aJd _,hd τ H p⟩
theorem bN {K:PySem.W.Frag}{a:Addr}{xs:List V}{k:Nat}{g:TG}{c:TT}{te:TE}{σ:St}{H1:Hp}{D:Addr}{Q:VK}(Pv:Nat->St->Hp->Prop)(h0:Pv 0 (aJt k none++σ) (aX H1 D (.lst [])))
  (hl:∀ i τ H,i<=xs.length->Pv i τ H->bG K H a xs)
  (hs:∀ i m x τ H,m=xs.length-i->i<xs.length->xs[i]? = some x->Pv i τ H->g x τ H fun τ2 H2=>c τ2 H2 fun b H3=>if b=true then te τ2 H3 fun y H4=>∃ ys m',m'<m/\H4 D=some (.lst ys)/\ys.length<sizeLine/\CW xs.length Pv (i+1) m' τ2 (aX H4 D (.lst (ys++[y]))) else ∃ m',m'<m/\CW xs.length Pv (i+1) m' τ2 H3)
  (hd:∀ τ H,Pv xs.length τ H->Q (.ref D) H):CQ k (Rm K a) g c te σ H1 D Q:=by
 refine ⟨CW xs.length Pv,⟨xs.length,rfl,aJD _,h0⟩,?_⟩;rintro i m τ H ⟨hm,hi,p⟩;have q:=hl i τ H hi p
 by_cases hlt:i<xs.length
 ·refine .inr ⟨⟨xs,xs[i],q,by simp [hlt]⟩,fun x H' y=>?_⟩;obtain ⟨e,y⟩:=y;subst e;exact hs i m x τ _ hm hlt (y xs q) p
 ·have e:i=xs.length:=by omega
  subst e;exact .inl ⟨⟨xs,q,aJd _⟩,hd τ H p⟩
theorem eO {τ:St}{H:Hp}{A B:Hp->Prop}(h:A H):Qm τ H (fun b H3=>if b=true then A H3 else B H3):=by
 show (if true=true then A H else B H);rw [if_pos rfl];exact h
theorem m5 {c:Bool}{A B:Prop}(h:c=true)(a:A):if c=true then A else B:=by
 rw [if_pos h];exact a
theorem mY {c:Bool}{A B:Prop}(h:c=false)(b:B):if c=true then A else B:=by
 rw [if_neg (by rw [h]; exact aJp)];exact b
theorem Ar:bootBuiltins "int" = some (.type "int"):=by decide +kernel
theorem Ax:bootBuiltins "bool" = some (.type "bool"):=by decide +kernel
theorem Ji:bootBuiltins "str" = some (.type "str"):=by decide +kernel
theorem jG:bootBuiltins "list" = some (.type "list"):=by decide +kernel
theorem eV:bootBuiltins "tuple" = some (.type "tuple"):=by decide +kernel
theorem fV:bootBuiltins "len" = some (.builtin "len"):=by decide +kernel
theorem Qp:bootBuiltins "abs" = some (.builtin "abs"):=by decide +kernel
theorem bC:bootBuiltins "isinstance" = some (.builtin "isinstance"):=by decide +kernel
theorem Ad:bootBuiltins "sum" = some (.builtin "sum"):=by decide +kernel
theorem Ao:bootBuiltins "max" = some (.builtin "max"):=by decide +kernel
theorem K9:bootBuiltins "min" = some (.builtin "min"):=by decide +kernel
theorem rE:bootBuiltins "sorted" = some (.builtin "sorted"):=by decide +kernel
theorem wK:bootBuiltins "all" = some (.builtin "all"):=by decide +kernel
theorem QL:bootBuiltins "any" = some (.builtin "any"):=by decide +kernel
def Ex:List Str->Bool
 | []=>true
 | x::r=>(r.all fun y=>x != y)&&Ex r
theorem cH:∀ {l:List Str},Ex l=true->l.Nodup
 | [],_=>.nil
 | x::r,h=>by
  have h':((r.all fun y=>x != y)&&Ex r)=true:=h;rw [aJA,aJN] at h';refine aKl.mpr ⟨fun z=>?_,cH h'.2⟩;have:=h'.1 x z;simp at this
structure dY (P:Program)(w:World)(K:PySem.W.Frag)(mg:Str->Option Value)(base:Heap)(n:Nat)(x:Str)(ps:List Str)(sp:Sp)(g:Addr)(gd:FuncData):Prop where
 ok:aP P w K mg base cN n g gd ps sp
 bi:Binds K gd ps []
 kp:PySem.W.keepIn K (.ref g)=true
 at_:mg x=some (.ref g)
theorem dY.up {P:Program}{w:World}{K:PySem.W.Frag}{mg:Str->Option Value}{base:Heap}{n m:Nat}{x:Str}{ps:List Str}{sp:Sp}{g:Addr}{gd:FuncData}(c:dY P w K mg base n x ps sp g gd)(h:n<=m):dY P w K mg base m x ps sp g gd:=⟨c.ok.mono h,c.bi,c.kp,c.at_⟩
theorem aJ {X:Cx}{n:Nat}{x:Str}{ps:List Str}{sp:Sp}{g:Addr}{gd:FuncData}{p pos:Pos}{e:Expr}{es:List Expr}{t:TA}(c:dY X.prog X.w X.K X.mg X.base n x ps sp g gd)(hr:fM n X.A)(ha:PA X (e::es) t)(hg:Gl X x:=by rfl)
  (hd:(x==("__debug__" : Str))=false:=by decide) (he:starEach (e::es) X.env=(false,eval e X.env)::starEach es X.env:=by rfl) (hpl:(backTo pos (starEach es X.env)).any (·.1)=false:=by rfl) :
  PE X (.Call (.Name x p) (e::es) [] pos) (Ci sp [] E0 t):=Gn c.ok hr hg c.at_ c.kp c.bi .nil bR ha hd he hpl
theorem aG {H:Hp}{p:Addr}(h:H p=none)(o:HO):aN H (aX H p o):=fun b u q=>by rw [aK (aV q h)]; exact q
theorem aN.upd_new {H H':Hp}{p:Addr}(s:aN H H')(h:H p=none)(o:HO):aN H (aX H' p o):=fun b u q=>by rw [aK (aV q h)]; exact s b u q
theorem La {L:List Int}{i:Int}(h0:0<=i)(h1:i<(L.length:Int)):Dv (L.map V.int) i=some (.int (L.getD i.toNat 0)):=by
 have hi:i.toNat<L.length:=by omega
 have e:i=((i.toNat:Nat):Int):=by omega
 have q:Dv (L.map V.int) ((i.toNat:Nat):Int)=some (.int (L.getD i.toNat 0)):=dZ (by rw [aJh,aI7 hi,getD_at hi] <;> rfl);rw [<- e] at q;exact q
end L2
namespace L2
open PySem PySem.Spec PyProof.Rows
section
variable {X:Cx}{pins:List (Addr×Obj)}{σ:St}{H:Hp}{s:Shared}
theorem aZ.track {a:Addr}{o:HO}(I:aZ X pins σ H s)(f:jE X pins H a)(hy:X.s₀.heap.objs.size<=a)(new:cJ X.prog X.w (aX H a o) s.heap a o):aZ X pins σ (aX H a o) s:=by
 obtain ⟨f0,f1,f2,f3,f4,f5⟩:=f;have ne:∀ b u,H b=some u->b≠a:=fun b u e=>aV e f0;refine ⟨I.ok,I.os,I.bare,⟨I.base.keep,I.base.slot,fun b ob e n hx=>?_,I.base.there,fun b xs e=>?_,fun b ob u e=>?_,fun b ps e=>?_⟩,I.loc,I.cell,?_,fun x c e=>?_,fun p hp=>?_,fun b u e=>?_,I.len⟩
 ·rw [aK (aJB (aJC (aJm e) hy))];exact I.base.free b ob e n hx
 ·have q:=I.base.tups b xs e;rw [aK (ne _ _ q)]; exact q
 ·have q:=I.base.frzs b ob u e;rw [aK (ne _ _ q)]; exact q
 ·obtain ⟨m,q⟩:=I.base.tbls b ps e;exact ⟨m,by rw [aK (ne _ _ q)]; exact q⟩
 ·rw [aK (Ne.symm f1)]; exact I.free
 ·rw [aK (f4 x c e)]; exact I.freeC x c e
 ·obtain ⟨g1,g2,g3,g4,g5⟩:=I.pin p hp;exact ⟨g1,by rw [aK (f5 p hp)]; exact g2,g3,g4,g5⟩
 ·by_cases hb:b=a
  ·subst hb; rw [aB] at e; cases e; exact new
  ·rw [aK hb] at e;exact (I.hok b u e).stay (fun _ _ _ q=>q) (fun c q=>by rw [aK (ne _ _ q)]; exact q) fun c xs q=>by rw [aK (ne _ _ q)]; exact q
theorem jE.pin {b:Addr}{o:Obj}(f:jE X pins H b)(e:s.heap.get? b=some o)(d:∀ v,o.data≠.cell v):s.heap.get? b=some o/\H b=none/\b≠X.env.locals/\b∉X.fs/\∀ v,o.data≠.cell v:=⟨e,f.1,f.2.1,f.2.2.1,d⟩
def NP (X:Cx)(pins:List (Addr×Obj))(σ:St)(H:Hp)(A:Around)(f v:Value)(k:Int):Prop :=
 ∀ (more:List (Addr×Obj)) (s:Shared),aZ X (pins++more) σ H s->wpAny (model X.prog X.w) A (call f [v]) (fun r s'=>(∃ t,r=Value.int k t)/\aZ X (pins++more) σ H s') (fun _ _=>False) s
variable {A:Around}{E:Value->Shared->Prop}{P:PySem.Fin->Shared->Prop}{a kS:Addr}{b:Bool}{vs:List Value}{kz:List Int}{keys:Array Value}{e e1:Nat}{f:Value}
theorem Bv {st:SortSt}(I:aZ X pins σ H s)(fk:jE X pins H kS)(fa:jE X pins H a)(hka:kS≠a)(ek:s.heap.get? kS=some (seqObj "list" keys e))(ea:s.heap.get? a=some (seqObj "list" #[] e1))
  (hk:IntsAre keys.toList kz) (hlen:kz.length=vs.length) (h64:vs.length<64) (hp:(arrOf st).Perm (keys.zip vs.toArray)) (hs:SortedTo (arrOf st) (arrOf st).size) (hfl:failedOf st=none)
  (done:∀ s' out c,aZ X pins σ H s'->s'.heap.get? a=some (seqObj "list" out c)->KskOut b kz vs out.toList->P (.done (.ret .none)) s') :
  wpAny (model X.prog X.w) A (ksk_tail a b e1 (.ref kS) st) P E s:=by
 have hsz:keys.size=vs.length:=by
  have h1:=hk.length;rw [aJI] at h1;omega
 have hsz2:(arrOf st).size=vs.length:=by
  have z:(arrOf st).size=(keys.zip vs.toArray).size:=hp.size_eq;have z2:(keys.zip vs.toArray).size=vs.length:=by rw [Array.size_zip,hsz]; simp
  exact z.trans z2
 have ko:=ksk_out (b:=b) hk hp hs;have hout:(if b=true then ((arrOf st).map (·.2)).reverse else (arrOf st).map (·.2)).size=vs.length:=by
  cases b <;> simp [hsz2]
 generalize hO:(if b=true then ((arrOf st).map (·.2)).reverse else (arrOf st).map (·.2))=out at ko hout;have I1:aZ X pins σ H { s with heap:=s.heap.update kS (Obj.mapSeq fun _=>(#[]:Array Value)) } :=
  I.turned (t':=s.toks) (fun b o hb q=>((aJT.update s.heap kS _).2 b hb).trans q) fk.1 fk.2.1 fk.2.2.2.1 fk.2.2.2.2.1 fk.2.2.2.2.2
 have ea1:(s.heap.update kS (Obj.mapSeq fun _=>(#[]:Array Value))).get? a=some (seqObj "list" #[] e1):=((aJT.update s.heap kS _).2 a (Ne.symm hka)).trans ea;have I2:aZ X pins σ H { s with heap:=(s.heap.update kS (Obj.mapSeq fun _=>(#[]:Array Value))).update a (Obj.mapSeq fun _=>out) } :=
  I1.turned (t':=s.toks) (fun b o hb q=>((aJT.update _ a _).2 b hb).trans q) fa.1 fa.2.1 fa.2.2.2.1 fa.2.2.2.2.1 fa.2.2.2.2.2
 unfold ksk_tail;dsimp only;refine wpAny_bind (listUpdate_at ek rfl ?_ (by rw [hsz]; exact aJc (aJH h64) (by decide)) (aJD _));refine wpAny_bind (wpAny_letGo ?_);refine wpAny_bind (seqEpoch_at ea1 rfl ?_);rw [hO];refine wpAny_bind (listUpdate_at ea1 rfl ?_ (aJD _) (by rw [hout]; exact aJc (aJH h64) (by decide)));rw [hfl];simp only [bne_self_eq_false,aKd,if_false];exact wpAny_pure (done _ out _ I2 (get?_update_seq ea1 fun _=>out) ko)
theorem Ny (I:aZ X pins σ H s)(fk:jE X pins H kS)(fa:jE X pins H a)(hka:kS≠a)(ek:s.heap.get? kS=some (seqObj "list" keys e))(ea:s.heap.get? a=some (seqObj "list" #[] e1))
  (hk:IntsAre keys.toList kz) (hlen:kz.length=vs.length) (h64:vs.length<64)
  (done:∀ s' out c,aZ X pins σ H s'->s'.heap.get? a=some (seqObj "list" out c)->KskOut false kz vs out.toList->P (.done (.ret .none)) s') :
  wpAny (model X.prog X.w) A (ksk_end a false vs.toArray e1 (.ref kS) keys) P E s:=by
 have hsz:keys.size=vs.length:=by
  have h1:=hk.length;rw [aJI] at h1;omega
 have hzs:(keys.zip vs.toArray).size=vs.length:=by rw [Array.size_zip,hsz,aJf]; omega
 unfold ksk_end;dsimp only;simp only [aKd,if_false]
 by_cases h2:vs.toArray.size<2
 ·rw [if_pos h2,if_pos h2];refine wpAny_bind (wpAny_pure ?_);rw [StateT.run_pure];refine wpAny_bind (wpAny_pure ?_);refine Bv (st:=SortSt.mk' general' (keys.zip vs.toArray) #[] 7 none) I fk fa hka ek ea hk hlen h64 (aMd.refl _) (fun i j hij hj=>?_) rfl done;have hj':j<(keys.zip vs.toArray).size:=hj;rw [hzs] at hj';rw [aJf] at h2;have z:i=j:=by omega
  rw [z];exact aJO _
 ·rw [if_neg h2,if_neg h2];rw [aJf] at h2;rw [ksk_kind hk (by omega)];refine wpAny_bind (wpAny_pure ?_);refine wpAny_bind (wpAny_mono (wpS_sortRuns (a₀:=keys.zip vs.toArray) (st:=SortSt.mk' oneType' (keys.zip vs.toArray) #[] 7 none)
   (Q:=fun _ t=>(arrOf t).Perm (keys.zip vs.toArray)/\failedOf t=none/\SortedTo (arrOf t) (keys.zip vs.toArray).size)
   (ksk_intKeys hk) ⟨aMd.refl _,rfl,rfl,rfl⟩ (by omega) (by omega) fun t z1 z2 z3=>⟨z1,z2,z3⟩) ?_ fun _ _ z=>z)
  rintro ⟨⟨⟩,t⟩ s2 ⟨rfl,p1,p2,p3⟩;exact Bv I fk fa hka ek ea hk hlen h64 p1 (by rw [p1.size_eq]; exact p3) p2 done
theorem Ka (I:aZ X pins σ H s)(fk:jE X pins H kS)(fa:jE X pins H a)(hka:kS≠a)(ek:s.heap.get? kS=some (seqObj "list" #[] 0))(ea:s.heap.get? a=some (seqObj "list" #[] e1))
  (hlen:kz.length=vs.length) (h64:vs.length<64) (turn:∀ (i:Nat) v k,vs[i]? = some v->kz[i]? = some k->NP X pins σ H A f v k)
  (done:∀ s' out c,aZ X pins σ H s'->s'.heap.get? a=some (seqObj "list" out c)->KskOut false kz vs out.toList->P (.done (.ret .none)) s') :
  wpAny (model X.prog X.w) A (ksk_rest a f false vs.toArray e1 (.ref kS)) P E s:=by
 unfold ksk_rest;refine wpAny_bind (wpAny_rule ?_);rw [List.forIn_toArray];refine wpAny_bind (ksk_fold (fun i s'=>aZ X pins σ H s'/\s'.heap.get? a=some (seqObj "list" #[] e1)/\∃ kA e,s'.heap.get? kS=some (seqObj "list" kA e)/\IntsAre kA.toList (kz.take i)) vs 0 s ⟨I,ea,#[],0,ek,by simpa using IntsAre.nil⟩ ?step ?fin)
 case step =>
  rintro j x s1 hx ⟨I1,ea1,kA,e,ek1,hk⟩;rw [aLX] at hk ⊢;have hj:j<vs.length:=(aJl.mp hx).1;have hkj:kz[j]? = some kz[j]:=aI7 (by omega);have hz:kA.size<=vs.length:=by
   have h1:=hk.length;rw [aJI,aJz] at h1;omega
  have I2:aZ X (pins++[(kS,seqObj "list" kA e),(a,seqObj "list" #[] e1)]) σ H s1:=I1.pins_of fun p hp=>by
   rcases aJy.mp hp with z | z
   ·exact I1.pin p (aJs _ z)
   ·rcases aJx.mp z with z | z
    ·subst z; exact fk.pin ek1 fun v q=>nomatch q
    ·rw [aJk.mp z]; exact fa.pin ea1 fun v q=>nomatch q
  refine wpAny_bind (wpAny_attempt (wpAny_mono (turn j x _ hx hkj _ s1 I2) (fun v s2 h2=>?_) fun _ _ z=>z.elim));obtain ⟨⟨t,rfl⟩,I3⟩:=h2;have ek2:=(I3.pin (kS,seqObj "list" kA e) (aJs _ (aJs _ (.head _)))).1;have ea2:=(I3.pin (a,seqObj "list" #[] e1) (aJs _ (aJs _ (.tail _ (.head _))))).1;have I4:=I3.unpinned;refine wpAny_bind (listUpdate_at ek2 rfl ?_ (aJc hz (aJc (aJH h64) (by decide))) (aJc (aLv (Array.size_push ..)) (aL3 (aJc hz (aJc (aJH h64) (by decide))))));refine wpAny_pure ⟨rfl,I4.turned (t':=s2.toks) (fun b o hb q=>((aJT.update s2.heap kS _).2 b hb).trans q) fk.1 fk.2.1 fk.2.2.2.1 fk.2.2.2.2.1 fk.2.2.2.2.2,((aJT.update s2.heap kS _).2 a (Ne.symm hka)).trans ea2,kA.push (.int kz[j] t),_,get?_update_seq ek2 (·.push (.int kz[j] t)),?_⟩;have q1:kz.take (j+1)=kz.take j++[kz[j]]:=by rw [aLi,hkj]; rfl
  rw [q1,Array.toList_push];exact ksk_snoc hk
 case fin =>
  rintro s1 ⟨I1,ea1,kA,e,ek1,hk⟩;have hk':IntsAre kA.toList kz:=by
   rw [aLX,<- hlen,aJw] at hk;exact hk
  exact wpAny_bind (listItems_at ek1 rfl (Ny I1 fk fa hka ek1 ea1 hk' hlen h64 done))
end
section
variable {X:Cx}{pins:List (Addr×Obj)}{σ:St}{H:Hp}{s:Shared}{A:Around}{E:Value->Shared->Prop}{P:PySem.Fin->Shared->Prop}{a:Addr}{vs:List Value}{kz:List Int}{n:Nat}{f:Value}
theorem JR (I:aZ X pins σ H s)(fa:jE X pins H a)(ea:s.heap.get? a=some (seqObj "list" vs.toArray n))(hlen:kz.length=vs.length)(h64:vs.length<64)
  (turn:∀ (i:Nat) v k,vs[i]? = some v->kz[i]? = some k->NP X pins σ H A f v k)
  (done:∀ s' out c,aZ X pins σ H s'->s'.heap.get? a=some (seqObj "list" out c)->KskOut false kz vs out.toList->P (.done (.ret .none)) s') :
  wpAny (model X.prog X.w) A (ksk_tree a f false) P E s:=by
 have I1:aZ X pins σ H { s with heap:=s.heap.update a (Obj.mapSeq fun _=>(#[]:Array Value)) } :=
  I.turned (t':=s.toks) (fun b o hb q=>((aJT.update s.heap a _).2 b hb).trans q) fa.1 fa.2.1 fa.2.2.2.1 fa.2.2.2.2.1 fa.2.2.2.2.2
 have ea1:=get?_update_seq ea fun _=>(#[]:Array Value)
 generalize hh:s.heap.update a (Obj.mapSeq fun _=>(#[]:Array Value))=h1 at I1 ea1;have I2:aZ X pins σ H { s with heap:=(h1.push (seqObj "tuple" vs.toArray 0)).push (seqObj "list" #[] 0) } :=
  I1.kept (t':=s.toks) fun b o q=>aJb _ (aJb _ q)
 have hlt:a<h1.objs.size:=aJm ea1;have hsz:(h1.push (seqObj "tuple" vs.toArray 0)).objs.size=h1.objs.size+1:=size_push' _ _;have h64':vs.length<=sizeLine:=aJc (aJH h64) (by decide);unfold ksk_tree;refine wpAny_bind (listItems_at ea rfl ?_);refine wpAny_bind (listUpdate_at ea rfl ?_ (by rw [aJf]; exact h64') (aJD _));rw [hh];refine wpAny_bind (seqEpoch_at (s:={ s with heap:=h1 }) ea1 rfl ?_);refine wpAny_bind (wpAny_newTuple ?_ (by simpa using h64'));refine wpAny_bind (wpAny_newList ?_ (aJD _));refine wpAny_holding ?_;refine Ka (s:={ s with heap:=(h1.push (seqObj "tuple" vs.toArray 0)).push (seqObj "list" #[] 0) }) (kS:=(h1.push (seqObj "tuple" vs.toArray 0)).objs.size) I2 ?_ fa ?_ (aJr _ rfl) (aJb _ (aJb _ ea1)) hlen h64 turn done
 ·exact I1.fpOk (by rw [hsz]; exact aKU _) (I1.hok.fresh (by rw [hsz]; exact aKU _))
 ·rw [hsz];exact aKW (aLj hlt)
def Pr:Value->Addr
 | .ref a=>a
 | _=>0
theorem xV:∀ {qs:List Addr}{vs:List Value},bK (qs.map V.ref) vs->vs=qs.map Value.ref
 | [],_,h=>by cases h; rfl
 | q::qs,_,h=>by
  cases h with
  | cons r t=>rw [xV t,show _=Value.ref q from r]; rfl
theorem rD:∀ (qs:List Addr),bK (qs.map V.ref) (qs.map Value.ref)
 | []=>.nil
 | q::qs=>.cons rfl (rD qs)
theorem Iz {kz:List Int}{qs:List Addr}{out:List Value}(h:KskOut false kz (qs.map Value.ref) out):∃ ps:List (Int×Addr),ps.Perm (kz.zip qs)/\out=ps.map (fun p=>Value.ref p.2)/\ps.Pairwise (fun p q=>p.1<=q.1):=by
 obtain ⟨ps,hp,ho,hs⟩:=h;have e0:kz.zip (qs.map Value.ref)=(kz.zip qs).map fun p=>(p.1,Value.ref p.2):=by rw [List.zip_map_right]; exact aJS fun ⟨x,y⟩ _=>rfl
 rw [e0] at hp;have mem:∀ p∈ps,p.2=Value.ref (Pr p.2):=fun p hm=>by
  obtain ⟨q,_,rfl⟩:=aJe.mp (hp.mem_iff.mp hm)
  rfl
 refine ⟨ps.map fun p=>(p.1,Pr p.2),?_,?_,?_⟩
 ·have z:=hp.map fun p=>(p.1,Pr p.2)
  rw [aJ0] at z;have e1:(kz.zip qs).map ((fun p=>(p.1,Pr p.2)) ∘ fun p=>(p.1,Value.ref p.2))=kz.zip qs:=by
   conv=>rhs; rw [<- List.map_id (kz.zip qs)]
   exact aJS fun ⟨x,y⟩ _=>rfl
  rw [e1] at z;exact z
 ·rw [ho,aJ0];exact aJS fun p hm=>mem p hm
 ·rw [aKs];exact hs
theorem JS {l fa:Addr}{qs:List Addr}{Q:VK}(I:aZ X pins σ H s)(hS:bG X.K H l (qs.map V.ref))(hlen:kz.length=qs.length)(h64:qs.length<64)
  (turn:∀ (i:Nat) q k,qs[i]? = some q->kz[i]? = some k->NP X pins σ H X.A.in1.in1 (.ref fa) (.ref q) k)
  (done:∀ D (ps:List (Int×Addr)),H D=none->ps.Perm (kz.zip qs)->ps.Pairwise (fun p q=>p.1<=q.1)->Q (.ref D) (aX H D (.lst (ps.map fun p=>V.ref p.2)))) :
  wpAny (model X.prog X.w) X.A (call (.builtin "sorted") [.ref l] [(Str.ofString "key",.ref fa)]) (EP X pins σ Q) E s:=by
 obtain ⟨its,rv,pl,hz⟩:=I.list hS;have ei:=xV rv;subst ei;have hl64:(qs.map Value.ref).length<64:=by rw [aI8]; exact h64
 have h64':(qs.map Value.ref).length<=sizeLine:=aJc (aJH hl64) (by decide);refine call_function_entry_kw kind_sorted plain_sorted entry_sorted (ksk_s1 _ _) ?_;unfold Builtin.«sorted»;refine wpAny_bind (m:=checkCount "sorted" 1 1 _) (wpAny_pure ?_);refine wpAny_bind (collect_list pl.isList ?_ h64');refine wpAny_bind (wpAny_newList ?_ h64');have up:∀ b o,s.heap.get? b=some o->((s.heap.push (seqObj "list" #[] 0)).update s.heap.objs.size (Obj.mapSeq (·++(qs.map Value.ref).toArray))).get? b=some o:=fun b o q =>
  ((aJT.update (s.heap.push (seqObj "list" #[] 0)) s.heap.objs.size _).2 b (aJB (aJm q))).trans (aJb _ q)
 have hsz:((s.heap.push (seqObj "list" #[] 0)).update s.heap.objs.size (Obj.mapSeq (·++(qs.map Value.ref).toArray))).objs.size=s.heap.objs.size+1:=by rw [Heap.size_update,size_push']
 generalize (s.heap.push (seqObj "list" #[] 0)).update s.heap.objs.size (Obj.mapSeq (·++(qs.map Value.ref).toArray))=h1 at up hsz;have I1:aZ X pins σ H { s with heap:=h1.push (seqObj "list" (qs.map Value.ref).toArray 0) }:=I.kept (t':=s.toks) fun b o q=>aJb _ (up b o q);have fr:H h1.objs.size=none:=I.hok.fresh (by rw [hsz]; exact aKU _);have fp:jE X pins H h1.objs.size:=I.fpOk (by rw [hsz]; exact aKU _) fr;have yo:X.s₀.heap.objs.size<=h1.objs.size:=aJc I.sz (by rw [hsz]; exact aKU _);have ea:(h1.push (seqObj "list" (qs.map Value.ref).toArray 0)).get? h1.objs.size=some (seqObj "list" (qs.map Value.ref).toArray 0):=aJr _ rfl;refine wpAny_bind (wpAny_holding (wpAny_call_entry_kw PyProof.Rows.slot_list_sort ⟨_,ea,rfl⟩ PyProof.Rows.entry_list_sort ?body (ksk_l1 _ _)))
 case body =>
  show wpAny (model X.prog X.w) X.A.in1.in1 (Builtin.«list.sort» ⟨[.ref h1.objs.size],[(Str.ofString "key",.ref fa)]⟩) _ _ _;rw [ksk_t1];refine JR (kz:=kz) (s:={ s with heap:=h1.push (seqObj "list" (qs.map Value.ref).toArray 0) }) I1 fp ea (by rw [aI8]; exact hlen) hl64 (fun i v k hv hk=>?_) fun s2 out c I2 e2 ko=>⟨_,rfl,?_⟩
  ·rw [aJh] at hv;cases eq:qs[i]? with
   | none=>rw [eq] at hv; cases hv
   | some q =>
    rw [eq] at hv;cases hv;exact turn i q k eq hk
  ·obtain ⟨ps,hp,ho,hs⟩:=Iz ko;have hpl:ps.length=qs.length:=by
    rw [hp.length_eq,List.length_zip,hlen,Nat.min_self]
   refine wpAny_pure ⟨_,rfl,.ref h1.objs.size,_,I2.track (o:=.lst (ps.map fun p=>V.ref p.2)) fp yo ⟨?_,out.toList,c,?_,?_⟩,rfl,done _ ps fr hp hs⟩
   ·rw [aI8,hpl];exact aJc (aJH h64) (by decide)
   ·rw [ho];have z:=rD (ps.map Prod.snd);rw [aJ0,aJ0] at z;exact z
   ·rw [aK4];exact e2
end
def Fv (X:Cx)(A:Around)(p:Str)(M:List Str)(scope:Scope)(qual:Str)(f c':Addr)(s:Shared)(H:Hp):Cx where
 prog:=X.prog
 w:=X.w
 K:=X.K
 mg:=X.mg
 base:=X.base
 A:=A.deeper (PySem.W.envX qual scope s.heap.objs.size f (.ref c') (eX X.env scope.names []))
 N:=p::M
 s₀:=s
 H₀:=H
 env:=PySem.W.envX qual scope s.heap.objs.size f (.ref c') (eX X.env scope.names [])
 outer:=X.stack
 stack:=PySem.W.envX qual scope s.heap.objs.size f (.ref c') (eX X.env scope.names [])::X.stack
 ex:=[]
 fn:=fun _=>false
 calm:=true
 pn:=[]
 xe:=fun _ _=>False
abbrev vQ (c':Addr)(qual:Str):HO:=.ext fun h=>h.CodeRec (.ref c') qual
section
variable {X:Cx}{pins:List (Addr×Obj)}{σ:St}{H:Hp}{A:Around}{p qual:Str}{M:List Str}{scope:Scope}{params:Arguments}{body:Expr}{pm ctv:Value}{c' f:Addr}{te:TE}
theorem O8 (hA:A.frames=some X.stack)(hd:A.handled=none)(hdep:A.depth<recursionLimit)(S:bJ X.env.scope scope)(nl:NL X.N M scope)(hp:scope.names.lookup p=some .local)
  (hco:scope.isCoroutine=false) (hgen:scope.isGenerator=false) (hbind:∀ (cl:List (Str×Addr)) (pm cdv ctv u:Value),bindArgs (PySem.W.kla_fn "<lambda>" qual params body scope cl pm cdv ctv) ⟨[u],[]⟩=pure [(p,u)])
  (hb:∀ f c' s H,PE (Fv X A p M scope qual f c' s H) body te) {x:V}{u:Value}{k:Int} (rx:RelV x u) (hf:(f,PySem.W.kla_obj "<lambda>" qual params body scope (eX X.env scope.names []) pm c' ctv)∈pins)
  (hcr:H c'=some (vQ c' qual)) (h:te (some x::σ) H fun r H'=>r=.int k/\H'=H):NP X pins σ H A (.ref f) u k:=by
 intro more s I;have hcd:s.heap.CodeRec (.ref c') qual:=(I.hok c' _ hcr).1;have ho:=(I.pin _ (aJs _ (aJ3 _ hf))).1;have sub:∀ x a,(eX X.env scope.names []).lookup x=some a->X.env.cells.lookup x=some a:=fun x a e=>by
  rcases rH _ _ _ (PySem.mem_of_lookup e) with z | z
  ·exact absurd z (by simp)
  ·exact z
 have kin:∀ x,scope.names.lookup x=some .free->X.env.kindOf x=some .cell∨X.env.kindOf x=some .free:=fun x e=>S.free (x,.free) (PySem.mem_of_lookup e) rfl;have has:∀ x a,scope.names.lookup x=some .free->X.env.cells.lookup x=some a->(eX X.env scope.names []).lookup x=some a:=fun x a e ec=>by
  obtain ⟨d,hd⟩:=jQ (sI ec scope.names [] (PySem.mem_of_lookup e));have:=sub x d hd;rw [ec] at this;cases this;exact hd
 have nocell:∀ x,scope.names.lookup x≠some .cell:=fun x e=>S.nocell _ (PySem.mem_of_lookup e) rfl;refine wpAny_call (PySem.W.kla_callFunE hdep ho rfl hco hgen rfl hcd ?_);rw [hbind];refine wpAny_pure (wpAny_newFunctionEnv S.nocell (fun y hy=>?_) (fun h₁ hns hsb=>⟨?_,?_⟩) S.kind)
 ·rw [aJk.mp hy]; exact hp
 ·exact I.nolimit.keeps fun b o e=>hsb.extBut b o (aJB (aJm e)) (aJb _ e)
 have old:∀ b o,s.heap.get? b=some o->h₁.get? b=some o:=fun b o e=>hsb.extBut b o (aJB (aJm e)) (aJb _ e);have okY:(Fv X A p M scope qual f c' s H).Ok:=by
  refine ⟨I.ok.mod,S.kind,rfl,rfl,aJd _,fun x y a h1 h2=>I.ok.inj x y a (sub x a h1) (sub y a h2),fun x hx=>?_,(fun x a h=>nomatch h),fun _=>hd,Around.frames_deeper hA,.inr ⟨rfl,rfl⟩,(fun b hb'=>nomatch hb'),
   I.bs,aJc I.ok.bsz I.sz,(fun b o e hb'=>nomatch hb'),(fun b hb'=>nomatch hb'),I.stack,I.stkFree⟩
  have hf:scope.names.lookup x=some .free:=by
   rcases hx with hx | hx
   ·exact absurd hx (nocell x)
   ·exact hx
  obtain ⟨a,ea⟩:=I.ok.has x (kin x hf);exact ⟨a,has x a hf ea⟩
 have IY:aZ (Fv X A p M scope qual f c' s H) [] (some x::σ) H { s with heap:=h₁,toks:=s.toks+[(p,u)].length }:=by
  refine ⟨okY,rfl,I.bare,Un.kept old,⟨_,hns,fun i y v e1 e2 e3=>?_⟩,fun y a e=>?_,I.hok.fresh (aJd _),fun y a e=>I.freeC y a (sub y a e),(fun q hq=>nomatch hq),I.hok.kept old,?_⟩
  ·cases i with
   | zero =>
    have e1':some p=some y:=e1;have e2':some (some x)=some (some v):=e2;cases e1';cases e2';refine ⟨u,rx,.inl ⟨hp,?_⟩⟩;show aKE p [(p,u)]=some u;simp
   | succ i =>
    have e0:M[i]? = some y:=e1;have e2':σ[i]? = some (some v):=e2;have hf:scope.names.lookup y=some .free:=by
     rcases e3 with e3 | e3 | e3
     ·exact absurd e3 (nl.loc _ y e0)
     ·exact absurd e3 (nocell y)
     ·exact e3
    have hk:=kin y hf;obtain ⟨m,hn,hl⟩:=I.loc;obtain ⟨z,rz,lk⟩:=hl i y v (nl.free _ y e0 hf) e2' (hk.elim (fun z=>.inr (.inl z)) fun z=>.inr (.inr z));refine ⟨z,rz,.inr ⟨.inr hf,?_⟩⟩;rcases lk with ⟨q,_⟩ | ⟨_,a,ea,o,eo,hdd⟩
    ·rcases hk with hk | hk <;> (rw [hk] at q; cases q)
    ·exact ⟨a,has y a hf ea,o,old a o eo,hdd⟩
  ·obtain ⟨v,o,eo,hdd⟩:=I.cell y a (sub y a e);exact ⟨v,o,old a o eo,hdd⟩
  ·show σ.length+1=M.length+1;rw [I.len,nl.len]
 refine PySem.W.kla_codeExpr (wpAny_mono (hb f c' s H [] _ (some x::σ) H _ IY h) (fun r s2 h2=>?_) fun _ _ z=>z.elim);obtain ⟨v,H2,J,rv,hv,hH⟩:=h2;subst hv hH;exact ⟨rv,I.call' (ch:=[]) J.os J.base J.hok J.bare (fun b hb'=>nomatch hb')⟩
end
def QS (pos:Pos)(c':Addr):Array Value:=#[rawInt pos.line,rawInt pos.col,.ref c']
def Rh (P:Addr)(pos:Pos)(qual:Str)(c':Addr)(H:Hp):Prop:=H P=some (.tbl (QS pos c'))/\H c'=some (vQ c' qual)
def cX (P:Addr)(pos:Pos)(qual:Str)(H:Hp):Prop:=H P=some (.tbl #[])∨∃ c',Rh P pos qual c' H
def bH (P:Addr)(H H':Hp):Prop:=∀ b o,b≠P->H b=some o->H' b=some o
theorem bH.refl {P:Addr}(H:Hp):bH P H H:=fun _ _ _ e=>e
theorem bH.trans {P:Addr}{H H1 H2:Hp}(a:bH P H H1)(b:bH P H1 H2):bH P H H2:=fun c o n e=>b c o n (a c o n e)
theorem aN.toT {P:Addr}{H H':Hp}(a:aN H H'):bH P H H':=fun b o _ e=>a b o e
theorem bH.free {P:Addr}{H H':Hp}(a:bH P H H'){l:Addr}(h:H' l=none)(hP:∃ ps,H' P=some (.tbl ps)):H l=none:=by
 cases q:H l with
 | none=>rfl
 | some o =>
  by_cases e:l=P
  ·obtain ⟨ps,z⟩:=hP;rw [e,z] at h; cases h
  ·rw [a l o e q] at h; cases h
theorem bH.upd_new {P:Addr}{H H':Hp}{p:Addr}(s:bH P H H')(h:H p=none)(o:HO):bH P H (aX H' p o):=fun b u n q=>by rw [aK (aV q h)]; exact s b u n q
theorem cX.at_ {P:Addr}{pos:Pos}{qual:Str}{H:Hp}(t:cX P pos qual H):∃ ps,H P=some (.tbl ps):=by
 rcases t with t | ⟨c,t,_⟩
 ·exact ⟨_,t⟩
 ·exact ⟨_,t⟩
theorem bH.get {P:Addr}{pos:Pos}{qual:Str}{H H':Hp}(a:bH P H H')(t:cX P pos qual H){b:Addr}{o:HO}(e:H b=some o)(n:∀ ps,o≠.tbl ps):H' b=some o:=by
 obtain ⟨ps,z⟩:=t.at_;exact a b o (bI e z (n ps)) e
theorem cX.same {P:Addr}{pos:Pos}{qual:Str}{H H':Hp}(t:cX P pos qual H)(s:aN H H'):cX P pos qual H':=by
 rcases t with t | ⟨c,t,u⟩
 ·exact .inl (s _ _ t)
 ·exact .inr ⟨c,s _ _ t,s _ _ u⟩
theorem bH.lst {K:PySem.W.Frag}{P:Addr}{pos:Pos}{qual:Str}{H H':Hp}(a:bH P H H')(t:cX P pos qual H){b:Addr}{xs:List V}(h:bG K H b xs):bG K H' b xs:=by
 rcases h with (h | ⟨o,h⟩) | h
 ·exact .inl (.inl (a.get t h fun _ z=>nomatch z))
 ·exact .inl (.inr ⟨o,a.get t h fun _ z=>nomatch z⟩)
 ·exact .inr h
theorem Hf {h h':Heap}{mg:Str->Option Value}{P:Addr}(b:h.BuiltinsAt mg P)(k:∀ a o,h.get? a=some o->h'.get? a=some o):h'.BuiltinsAt mg P:=by
 obtain ⟨bm,o,b1,b2,b3,b4,b5,b6⟩:=b;exact ⟨bm,o,b1,b2,b3,b4,k _ _ b5,b6⟩
theorem z8 {c':Addr}{qual:Str}:∀ h1 h2:Heap,h1.CodeRec (.ref c') qual->(∀ o,h1.get? c'=some o->h2.get? c'=some o)->h2.CodeRec (.ref c') qual:=fun h1 h2 ⟨c,oc,vs,t,e,g,r⟩ k=>by
 cases e;exact ⟨_,oc,vs,t,rfl,k _ g,r⟩
section
variable {X:Cx}{pins:List (Addr×Obj)}{σ:St}{H:Hp}{s:Shared}{E:Value->Shared->Prop}{c P:Addr}{pos:Pos}{params:Arguments}{body:Expr}{scope:Scope}{Q:Value->Shared->Prop}
theorem JG (I:aZ X pins σ H s)(hcode:X.env.code=.ref c)(C:PySem.W.CodeHd X.base c P)(B:X.base.BuiltinsAt X.mg P)(T:cX P pos (X.env.qual++"<lambda>") H)(S:bJ X.env.scope scope)(hdef:defaultsOf params X.env=([],[]))
  (q:∀ f c' pm ctv H' s',bH P H H'->Rh P pos (X.env.qual++"<lambda>") c' H'->aZ X (pins++[(f,PySem.W.kla_obj "<lambda>" (X.env.qual++"<lambda>") params body scope (eX X.env scope.names []) pm c' ctv)]) σ H' s'->Q (.ref f) s') :
  wpAny (model X.prog X.w) X.A (eval (.Lambda params body scope pos) X.env) Q E s:=by
 have hcl:=Eg S I.ok;have hg:=I.ok.mod.glob.keeps I.bk;have hB:=Hf B I.bk;obtain ⟨ps0,hP0⟩:=T.at_;have hgP:mainGlobals≠P:=fun z=>by
  obtain ⟨o,es,ep,e,_⟩:=I.ok.mod.glob;have:=(I.bs _ o e).2;rw [z,hP0] at this;cases this
 refine PySem.W.kla_eval hdef ?_;rcases T with T | ⟨c',T,U⟩
 ·have hP:s.heap.get? P=some (PySem.W.tabObj #[]):=I.hok P _ T;refine PySem.W.kla_makeFunction (mg:=X.mg) hcl I.ok.glob hg hcode (C.keeps I.bk) hP trivial rfl hgP hB fun c' ctv h' tk hx hge hlt hrec htb=>?_;have cn:H c'=none:=I.hok.fresh hge;have cP:c'≠P:=Ne.symm (aV T cn);have new1:∀ b o,b≠P->s.heap.get? b=some o->(h'.push (PySem.W.kla_obj "<lambda>" (X.env.qual++"<lambda>") params body scope (eX X.env scope.names []) ((X.mg "__name__").getD .none) c' ctv)).get? b=some o:=fun b o hb e=>aJb _ (hx b o hb e);have nP:∀ b,H b=none->b≠P:=fun b n z=>by rw [z,T] at n; cases n
  have ups:∀ b u,H b=some u->(∀ ps,u≠.tbl ps)->aX (aX H P (.tbl (QS pos c'))) c' (vQ c' (X.env.qual++"<lambda>")) b=some u:=fun b u e nt=>by
   rw [aK (aV e cn),aK (bI e T (nt _))]; exact e
  have hfresh:H h'.objs.size=none:=I.hok.fresh (aJc hge (aJH hlt));have I1:aZ X pins σ (aX (aX H P (.tbl (QS pos c'))) c' (vQ c' (X.env.qual++"<lambda>"))) { s with heap:=h'.push (PySem.W.kla_obj "<lambda>" (X.env.qual++"<lambda>") params body scope (eX X.env scope.names []) ((X.mg "__name__").getD .none) c' ctv),toks:=tk }:=by
   refine I.un (t':=tk) ⟨fun b o e n _ _=>new1 b o (nP b n) e,fun b o e n _ _=>⟨o.slots,new1 b o (nP b n) e⟩,fun b o e n _=>?_,fun b o e _=>?_,fun b xs e=>ups b _ e (fun _ z=>nomatch z),fun b o u e=>ups b _ e (fun _ z=>nomatch z),fun b ps e=>?_⟩ fun b u e=>?_
   ·rw [aK (aJB (aJC (aJm e) hge)),aK (nP b n)]; exact n
   ·by_cases z:b=P
    ·rw [z]; exact ⟨_,aJb _ htb⟩
    ·exact ⟨o,new1 b o z e⟩
   ·by_cases z:b=P
    ·rw [z,T] at e;cases e;refine ⟨QS pos c',?_⟩;rw [z,aK (Ne.symm cP),aB];simp
    ·exact ⟨#[],by rw [aK (aV e cn),aK z,e]; simp⟩
   ·by_cases z:b=c'
    ·subst z;rw [aB] at e;cases e;obtain ⟨c2,oc,vs,t,e2,g2,r2⟩:=hrec;cases e2;exact ⟨⟨_,oc,vs,t,rfl,aJb _ g2,r2⟩,⟨oc,aJb _ g2⟩,z8⟩
    ·rw [aK z] at e
     by_cases z2:b=P
     ·subst z2;rw [aB] at e;cases e;have q2:=aJb (PySem.W.kla_obj "<lambda>" (X.env.qual++"<lambda>") params body scope (eX X.env scope.names []) ((X.mg "__name__").getD .none) c' ctv) htb;rw [Array.empty_append] at q2;exact q2
     ·rw [aK z2] at e;refine (I.hok b u e).stay (fun d v hd r=>new1 d v ?_ r) (fun d r=>ups d _ r fun _ z=>nomatch z) fun d xs r=>ups d _ r fun _ z=>nomatch z
      rcases hd with z3 | z3
      ·rw [z3]; exact z2
      ·exact bI z3 T fun z=>nomatch z
  refine q _ c' ((X.mg "__name__").getD .none) ctv _ _ (fun b o n e=>?_) ⟨?_,aB⟩ (I1.pins_of fun p hp=>?_)
  ·rw [aK (aV e cn),aK n]; exact e
  ·rw [aK (Ne.symm cP),aB]
  ·rcases aJy.mp hp with z | z
   ·exact I1.pin p (aJs _ z)
   ·rw [aJk.mp z];have fp:=I.fpOk (H':=aX (aX H P (.tbl (QS pos c'))) c' (vQ c' (X.env.qual++"<lambda>"))) (b:=h'.objs.size) (aJc hge (aJH hlt)) (by rw [aK (aKW hlt),aK (nP _ hfresh)]; exact hfresh);exact ⟨aJr _ rfl,fp.1,fp.2.1,fp.2.2.1,fun v z=>nomatch z⟩
 ·have hP:s.heap.get? P=some (PySem.W.tabObj (QS pos c')):=I.hok P _ T;have am:codeAmong pos (QS pos c').toList=some (.ref c'):=by
   show codeAmong pos [rawInt pos.line,rawInt pos.col,.ref c']=some (.ref c');simp [codeAmong,rawInt]
  refine PySem.W.kla_makeFunctionHit (mg:=X.mg) hcl I.ok.glob hg hcode (C.keeps I.bk) hP trivial am hB fun ctv h' tk hk hsz=>?_;have I1:aZ X pins σ H { s with heap:=h'.push (PySem.W.kla_obj "<lambda>" (X.env.qual++"<lambda>") params body scope (eX X.env scope.names []) ((X.mg "__name__").getD .none) c' ctv),toks:=tk }:=I.kept (t':=tk) fun b o e=>aJb _ (hk b o e);refine q _ c' ((X.mg "__name__").getD .none) ctv H _ (bH.refl H) ⟨T,U⟩ (I1.pins_of fun p hp=>?_);rcases aJy.mp hp with z | z
  ·exact I1.pin p (aJs _ z)
  ·rw [aJk.mp z];have fp:=I.fpOk (H':=H) (b:=h'.objs.size) hsz (I.hok.fresh hsz);exact ⟨aJr _ rfl,fp.1,fp.2.1,fp.2.2.1,fun v z=>nomatch z⟩
end
def Qa (K:PySem.W.Frag)(P:Addr)(pos:Pos)(qual:Str)(tl tb:TE):TE:=fun σ H Q=>tl σ H fun x H1=>∃ (l:Addr) (qs:List Addr) (kz:List Int),x=.ref l/\bG K H1 l (qs.map V.ref)/\kz.length=qs.length/\qs.length<64/\cX P pos qual H1 ∧
 ∀ H2 c',bH P H1 H2->Rh P pos qual c' H2->(∀ (i:Nat) q k,qs[i]? = some q->kz[i]? = some k->tb (some (.ref q)::σ) H2 fun r H'=>r=.int k/\H'=H2) ∧
  ∀ D (ps:List (Int×Addr)),H2 D=none->ps.Perm (kz.zip qs)->ps.Pairwise (fun p q=>p.1<=q.1)->Q (.ref D) (aX H2 D (.lst (ps.map fun p=>V.ref p.2)))
theorem Jv {X:Cx}{c P:Addr}{k:Nat}{p:Str}{M:List Str}{scope:Scope}{params:Arguments}{body e:Expr}{p0 pos lpos kpos:Pos}{tl tb:TE}(hr:fM k X.A)(hc:X.calm=true)(hg:Gl X "sorted")(hm:X.mg "sorted" = none)
  (hcode:X.env.code=.ref c) (C:PySem.W.CodeHd X.base c P) (B:X.base.BuiltinsAt X.mg P) (S:bJ X.env.scope scope) (nl:NL X.N M scope) (hp:scope.names.lookup p=some .local) (hco:scope.isCoroutine=false) (hgen:scope.isGenerator=false)
  (he:PE X e tl) (hb:∀ A f c' s H,PE (Fv X A p M scope (X.env.qual++"<lambda>") f c' s H) body tb)
  (hdef:defaultsOf params X.env=([],[]):=by rfl)
  (hbind:∀ (cl:List (Str×Addr)) (pm cdv ctv u:Value),bindArgs (PySem.W.kla_fn "<lambda>" (X.env.qual++"<lambda>") params body scope cl pm cdv ctv) ⟨[u],[]⟩=pure [(p,u)]:=by intro _ _ _ _ _; rfl)
  (hs:starEach [e] X.env=[(false,eval e X.env)]:=by rfl) :
  PE X (.Call (.Name "sorted" p0) [e] [⟨some "key",.Lambda params body scope lpos,kpos⟩] pos) (Qa X.K P lpos (X.env.qual++"<lambda>") tl tb):=by
 intro pins s σ H Q I h;refine wpAny_Call_Name_kw (pD I hg hm rE ?_ (by decide) (by decide));refine callWith_kw (dH (aA he aC hs pos pins s σ H (fun vs H1=>∃ x,vs=[x]/\∃ (l:Addr) (qs:List Addr) (kz:List Int),x=.ref l/\bG X.K H1 l (qs.map V.ref)/\kz.length=qs.length/\qs.length<64/\cX P lpos (X.env.qual++"<lambda>") H1 ∧
  ∀ H2 c',bH P H1 H2->Rh P lpos (X.env.qual++"<lambda>") c' H2->(∀ (i:Nat) q k,qs[i]? = some q->kz[i]? = some k->tb (some (.ref q)::σ) H2 fun r H'=>r=.int k/\H'=H2) ∧
   ∀ D (ps:List (Int×Addr)),H2 D=none->ps.Perm (kz.zip qs)->ps.Pairwise (fun p q=>p.1<=q.1)->Q (.ref D) (aX H2 D (.lst (ps.map fun p=>V.ref p.2)))) I ?_) fun us s1 ⟨vs,H1,I1,r1,x,ev,l,qs,kz,ex,hS,hlen,h64,hT,q1⟩=>?_) ?_ ?_ rfl rfl
 ·show tl σ H fun x H1=>_;have mono:=h;exact (show tl σ H fun x H1=>∃ x',[x]=[x']/\_ from by
   have e1:(fun (x:V) (H1:Hp)=>∃ x',[x]=[x']/\∃ (l:Addr) (qs:List Addr) (kz:List Int),x'=.ref l/\bG X.K H1 l (qs.map V.ref)/\kz.length=qs.length/\qs.length<64/\cX P lpos (X.env.qual++"<lambda>") H1 ∧
  ∀ H2 c',bH P H1 H2->Rh P lpos (X.env.qual++"<lambda>") c' H2->(∀ (i:Nat) q k,qs[i]? = some q->kz[i]? = some k->tb (some (.ref q)::σ) H2 fun r H'=>r=.int k/\H'=H2) ∧
   ∀ D (ps:List (Int×Addr)),H2 D=none->ps.Perm (kz.zip qs)->ps.Pairwise (fun p q=>p.1<=q.1)->Q (.ref D) (aX H2 D (.lst (ps.map fun p=>V.ref p.2))))=fun x H1=>∃ (l:Addr) (qs:List Addr) (kz:List Int),x=.ref l/\bG X.K H1 l (qs.map V.ref)/\kz.length=qs.length/\qs.length<64/\cX P lpos (X.env.qual++"<lambda>") H1 ∧
  ∀ H2 c',bH P H1 H2->Rh P lpos (X.env.qual++"<lambda>") c' H2->(∀ (i:Nat) q k,qs[i]? = some q->kz[i]? = some k->tb (some (.ref q)::σ) H2 fun r H'=>r=.int k/\H'=H2) ∧
   ∀ D (ps:List (Int×Addr)),H2 D=none->ps.Perm (kz.zip qs)->ps.Pairwise (fun p q=>p.1<=q.1)->Q (.ref D) (aX H2 D (.lst (ps.map fun p=>V.ref p.2))):=by
    funext x H1
    refine propext ⟨?_,?_⟩
    ·rintro ⟨x',z,r⟩;injection z with z
     subst z;exact r
    ·intro r;exact ⟨x,rfl,r⟩
   rw [e1];exact mono)
 ·subst ev ex;obtain ⟨u,rfl,ru⟩:=vals1 r1;cases (show u=Value.ref l from ru);show wpAny _ _ (evalAll [do let v <- eval (.Lambda params body scope lpos) X.env; standAt pos; pure v]) _ _ s1;refine wpAny_evalAll_cons (wpAny_bind (JG I1 hcode C B hT S hdef fun f c' pm ctv H2 s2 st hit I2=>wpAny_bind (wpAny_standAt (wpAny_pure (wpAny_evalAll_nil ?_)))));obtain ⟨q2,q3⟩:=q1 H2 c' st hit;have fin:=JS (E:=X.xe) (Q:=Q) (fa:=f) (kz:=kz) I2 (bH.lst st hT hS) hlen h64 (fun i q k eq ek=>O8 (A:=X.A.in1.in1) I2.ok.frames (I2.ok.hd hc) hr.depth S nl hp hco hgen hbind (hb X.A.in1.in1) (x:=.ref q) rfl (aJs _ (.head _)) hit.2 (q2 i q k eq ek)) fun D ps hD hp hs=>q3 D ps hD hp hs;exact dH fin fun r s3 ⟨v,H3,I3,rv,qv⟩=>⟨v,H3,I3.unpinned,rv,qv⟩
 ·show backTo pos (starEach [e] X.env)=(false,eval e X.env)::_;rw [hs]
  rfl
 ·rw [hs]
  rfl
theorem dN.okc {P:Program}{w:World}{K:PySem.W.Frag}{mg:Str->Option Value}{base:Heap}{x qual:Str}{st:Stmt}{f c:Addr}{fd:FuncData}{N ps:List Str}{k:Nat}{sp:Sp}(F:dN K x qual st f fd)(hc:fd.code=.ref c)(S:aM N ps (aL st))(len:∀ vs H Q E,sp vs H Q E->vs.length=ps.length)
  (hbody:∀ (A:Around) (outer:List Env) (s:Shared) (H:Hp) (vs:List V) (Q:VK) (E:XK),fM k (A.deeper (envOfC qual (aL st) s.heap.objs.size f (.ref c)))->sp vs H Q E ->
   ∃ t,yW (wZ cN P w K mg base N qual (aL st) f (.ref c) A outer s H E).nox (gD st) t/\t { nx:=fun _ H'=>Q .non H',rt:=Q } (start N vs) H):aP P w K mg base cN (k+1) f fd ps sp:=by
 obtain ⟨oc,od,kV,doc,pm,an,cdv,ct,osl,rfl,lk,hcd⟩:=F.ex;cases (show cdv=Value.ref c from hc);refine Kc lk hcd S len fun A outer s H vs Q E hr hsp=>?_;obtain ⟨t,h,q⟩:=hbody A outer s H vs Q E hr hsp;exact ⟨t,h.nox,q⟩
end L2
namespace L2
open PySem PySem.W
def ev {α:Type}:List α->List α
 | []=>[]
 | [a]=>[a]
 | a::_::r=>a::ev r
def od {α:Type}:List α->List α
 | []=>[]
 | [_]=>[]
 | _::b::r=>b::od r
def bt:Nat->List Obj->BT
 | 0,_=>.nil
 | _+1,[]=>.nil
 | n+1,o::r=>.node o (bt n (ev r)) (bt n (od r))
def sets (l:List Obj):List (Nat×Obj)->List Obj
 | []=>l
 | p::r=>sets (l.set p.1 p.2) r
noncomputable def xX (T:BT)(n k:Nat)(os:OsState):SharedT:=⟨T,n,{},aLp [],boot_drawn,k,os⟩
theorem qU {tb:String->Option Builtin}{p:Program}{w:World}{m0:Nat}{ann:Option Value}{env:Env}{q:Pos}{n N:Nat}{s s':SharedT}{r:Shared}{l rest:List Stmt}{c:Code}{pos p':Pos}
  (h:segRunT tb p w m0 ann 1 n s (piecesOf l env c pos [topFrame q])=some (.next,s',c,p')) (k:topRun tb p w m0 ann N s'.abs (restOf rest env c p' [topFrame q])=some r):topRun tb p w m0 ann (n+N) s.abs (restOf (l++rest) env c pos [topFrame q])=some r :=
 piece_app (segRun_of h) k
theorem KH {p q:Program}{loose:List Str}{Xt:Shared->Bool}{α:Type}{Yf:Shared->α}{Ya:World->α}{N:Nat}{Tb Tf:Params->BT}{nb nf ka kf:Nat}{env:Env}{C:Code}{gs:List Stmt}{posA posB qp:Pos}{m0:Nat}{ann:Option Value}{a b c:Nat}
  (e1:opening p=plainProg p.main.scope.names) (h6:Nat.ble 600 N=true) (e2:∀ s,fenceModules? p s=some s)
  (size:∀ w:World,((boot_heap w.params).isNs mainGlobals&&(aLp []:Array GenState).size==0,(boot_heap w.params).objs.size,(boot_heap w.params).nsMap mainGlobals "__annotations__")=(true,m0,ann))
  (pre:∀ (w:World) (os:OsState),topGo treeTable p w m0 ann a ⟨boot_heap w.params,aLp [],boot_drawn,boot_toks,os⟩ (topStub p)=some ((xX (Tb w.params) nb ka os).abs,⟨denote treeTable (.body gs env),C,posA,[topFrame qp]⟩))
  (blk:∀ (w:World) (os:OsState),segRun treeTable p w m0 ann 1 b (xX (Tb w.params) nb ka os).abs (blockOf gs env C posA [topFrame qp])=some (.next,(xX (Tb w.params) nb ka os).abs,C,posB))
  (run:∀ (w:World) (os:OsState),topRun treeTable p w m0 ann c (xX (Tb w.params) nb ka os).abs (restOf gs env C posB [topFrame qp])=some (xX (Tf w.params) nf kf os).abs)
  (le:Nat.ble (a+(b+c)) N=true)
  (looks:∀ w:World,(fun os=>((staticsOk (importedModules p.main.body) (boot_heap w.params) (absHeap (Tf w.params) nf {})&&namesBound p (absHeap (Tf w.params) nf {})&&gensDone ⟨absHeap (Tf w.params) nf {},aLp [],boot_drawn,kf,os⟩&&laidKept (boot_heap w.params) (absHeap (Tf w.params) nf {})),
    openSeen q loose (importedModules p.main.body) Xt true ⟨absHeap (Tf w.params) nf {},aLp [],boot_drawn,kf,os⟩,Yf ⟨absHeap (Tf w.params) nf {},aLp [],boot_drawn,kf,os⟩))=fun _=>(true,openGood q loose,Ya w)):LeftO p q loose Xt Yf Ya N :=
 LeftO.of_pieces (H₁:=fun P=>absHeap (Tf P) nf {}) (boot_open e1 h6 e2) size (fun w os=>go_top (pre w os) (piece_block (blk w os) (run w os))) le looks
end L2
namespace L2
open PySem PySem.Spec PyProof.Rows
inductive DE (K:PySem.W.Frag)(H:Hp):Nat->V->V->Bool->Prop
 | int (n:Nat) (i j:Int):DE K H n (.int i) (.int j) (i==j)
 | bl (n:Nat) (i j:Bool):DE K H n (.bl i) (.bl j) (i==j)
 | str (n:Nat) (i j:Str):DE K H n (.str i) (.str j) (i==j)
 | tup {n:Nat}{a b:Addr}{xs ys:List V} (e:Nat->Bool) (ha:cV K H a xs) (hb:cV K H b ys) (h:∀ (j:Nat) x y,xs[j]? = some x->ys[j]? = some y->DE K H n x y (e j)) :
   DE K H (n+1) (.ref a) (.ref b) ((aKk (min xs.length ys.length)).all e&&xs.length==ys.length)
 | lst {n:Nat}{a b:Addr}{xs ys:List V} (e:Nat->Bool) (ha:bG K H a xs) (hb:bG K H b ys) (hl:xs.length=ys.length) (h:∀ (j:Nat) x y,xs[j]? = some x->ys[j]? = some y->DE K H n x y (e j)) :
   DE K H (n+1) (.ref a) (.ref b) ((aKk xs.length).all e)
 | lstN {n:Nat}{a b:Addr}{xs ys:List V} (ha:bG K H a xs) (hb:bG K H b ys) (hl:xs.length≠ys.length):DE K H (n+1) (.ref a) (.ref b) false
section
variable {X:Cx}{pins:List (Addr×Obj)}{σ:St}{H:Hp}{s:Shared}
theorem DE.self (I:aZ X pins σ H s){n:Nat}{x y:V}{k:Bool}(d:DE X.K H n x y k):x=y->k=true:=by
 induction d with
 | int n i j=>intro e; cases e; simp
 | bl n i j=>intro e; cases e; simp
 | str n i j=>intro e; cases e; simp
 | @tup n a b xs ys e ha hb h ih =>
  intro z;cases z;have q:=I.tuple_inj ha hb;subst q;rw [aJA];refine ⟨aJN.mpr fun j hj=>?_,by simp⟩;rw [aJV,Nat.min_self] at hj;exact ih j _ _ (aI7 hj) (aI7 hj) rfl
 | @lst n a b xs ys e ha hb hl h ih =>
  intro z;cases z;have q:=I.list_inj ha hb;subst q;refine aJN.mpr fun j hj=>?_;rw [aJV] at hj;exact ih j _ _ (aI7 hj) (aI7 hj) rfl
 | @lstN n a b xs ys ha hb hl =>
  intro z;cases z;exact absurd (congrArg aKr (I.list_inj ha hb)) hl
theorem jK {xs:List V}{its:List Value}(r:bK xs its){j:Nat}(hj:j<its.length):∃ x,xs[j]? = some x/\RelV x its[j]:=by
 have hl:=r.length;obtain ⟨u,hu,ru⟩:=r.get (aI7 (l:=xs) (i:=j) (by omega));rw [aI7 hj] at hu;cases hu;exact ⟨_,aI7 (by omega),ru⟩
theorem in1_units (A:Around):A.in1.units=A.units+1:=rfl
theorem DE.eqAt (I:aZ X pins σ H s){n:Nat}{x y:V}{k:Bool}(d:DE X.K H n x y k):∀ (A:Around) (u v:Value),A.units+n<cLine->RelV x u->RelV y v->PySem.SeqAt.EqAt A s u v k:=by
 induction d with
 | int n i j =>
  intro A u v _ ru rv;obtain ⟨t,rfl⟩:=ru;obtain ⟨t',rfl⟩:=rv;exact PySem.SeqAt.EqAt.int_int _ _ _ _
 | bl n i j =>
  intro A u v _ ru rv;cases (show u=Value.bool i from ru);cases (show v=Value.bool j from rv);exact PySem.SeqAt.EqAt.bool_bool _ _
 | str n i j =>
  intro A u v _ ru rv;obtain ⟨t,rfl⟩:=ru;obtain ⟨t',rfl⟩:=rv;exact PySem.SeqAt.EqAt.str_str _ _ _ _
 | @tup n a b xs ys e ha hb h ih =>
  intro A u v hu ru rv;cases (show u=Value.ref a from ru);cases (show v=Value.ref b from rv)
  by_cases hab:a=b
  ·have q:=(DE.tup e ha hb h).self I (by rw [hab]);rw [q];subst hab;exact PySem.SeqAt.EqAt.same _
  ·obtain ⟨its,r1,p1,_⟩:=I.tuple ha;obtain ⟨its2,r2,p2,_⟩:=I.tuple hb;refine PySem.SeqAt.EqAt.of_refs hab ?_;have q:=PySem.SeqAt.RcAt.tuples (A:=A) (e:=e) (show s.heap.IsTuple a its.toArray from p1) (show s.heap.IsTuple b its2.toArray from p2) (by omega) (fun j h1 h2=>by
    obtain ⟨x,ex,rx⟩:=jK r1 (j:=j) (by simpa using h1);obtain ⟨y,ey,ry⟩:=jK r2 (j:=j) (by simpa using h2);rw [aJP,aJP];exact ih j x y ex ey A.in1 _ _ (by rw [in1_units]; omega) rx ry)
   rw [aJf,aJf,<- r1.length,<- r2.length] at q;exact q
 | @lst n a b xs ys e ha hb hl h ih =>
  intro A u v hu ru rv;cases (show u=Value.ref a from ru);cases (show v=Value.ref b from rv)
  by_cases hab:a=b
  ·have q:=(DE.lst e ha hb hl h).self I (by rw [hab]);rw [q];subst hab;exact PySem.SeqAt.EqAt.same _
  ·obtain ⟨its,r1,p1,_⟩:=I.list ha;obtain ⟨its2,r2,p2,_⟩:=I.list hb;refine PySem.SeqAt.EqAt.of_refs hab ?_;have q:=PySem.SeqAt.RcAt.lists (A:=A) (e:=e) p1.isList p2.isList (by rw [aJf,aJf,<- r1.length,<- r2.length]; exact hl) (by omega) (fun j h1 h2=>by
    obtain ⟨x,ex,rx⟩:=jK r1 (j:=j) (by simpa using h1);obtain ⟨y,ey,ry⟩:=jK r2 (j:=j) (by simpa using h2);rw [aJP,aJP];exact ih j x y ex ey A.in1 _ _ (by rw [in1_units]; omega) rx ry)
   rw [aJf,<- r1.length] at q;exact q
 | @lstN n a b xs ys ha hb hl =>
  intro A u v hu ru rv;cases (show u=Value.ref a from ru);cases (show v=Value.ref b from rv);have hab:a≠b:=fun z=>by subst z; exact hl (congrArg aKr (I.list_inj ha hb))
  obtain ⟨its,r1,p1,_⟩:=I.list ha;obtain ⟨its2,r2,p2,_⟩:=I.list hb;refine PySem.SeqAt.EqAt.of_refs hab (PySem.SeqAt.RcAt.lists_lengths p1.isList p2.isList ?_ (by omega));rw [aJf,aJf,<- r1.length,<- r2.length]
  simpa using hl
def aCR (K:PySem.W.Frag)(n:Nat):R2:=fun x y H Q=>∃ a b k,x=.ref a/\y=.ref b/\DE K H (n+1) x y k/\Q (.bl k) H
theorem Ky {n:Nat}(hu:X.A.units+n+1<cLine):mK X (compareOp .Eq) (aCR X.K n):=by
 intro pins s σ H x y v u Q I rx ry h;obtain ⟨a,b,k,rfl,rfl,d,q⟩:=h;cases (show v=Value.ref a from rx);cases (show u=Value.ref b from ry);cases d with
 | @tup n a b xs ys e ha hb h =>
  obtain ⟨its,r1,p1,_⟩:=I.tuple ha;obtain ⟨its2,r2,p2,_⟩:=I.tuple hb;refine PySem.SeqAt.eq_tupleAt (e:=e) (show s.heap.IsTuple a its.toArray from p1) (show s.heap.IsTuple b its2.toArray from p2) (by omega) (fun j h1 h2=>by
    obtain ⟨x,ex,rx⟩:=jK r1 (j:=j) (by simpa using h1);obtain ⟨y,ey,ry⟩:=jK r2 (j:=j) (by simpa using h2);rw [aJP,aJP];exact (h j x y ex ey).eqAt I X.A.in1 _ _ (by rw [in1_units]; omega) rx ry) ?_
  rw [aJf,aJf,<- r1.length,<- r2.length];exact ⟨.bl _,H,I,rfl,q⟩
 | @lst n a b xs ys e ha hb hl h =>
  obtain ⟨its,r1,p1,_⟩:=I.list ha;obtain ⟨its2,r2,p2,_⟩:=I.list hb;refine PySem.SeqAt.eq_listAt (e:=e) p1.isList p2.isList (by rw [aJf,aJf,<- r1.length,<- r2.length]; exact hl) (by omega) (fun j h1 h2=>by
    obtain ⟨x,ex,rx⟩:=jK r1 (j:=j) (by simpa using h1);obtain ⟨y,ey,ry⟩:=jK r2 (j:=j) (by simpa using h2);rw [aJP,aJP];exact (h j x y ex ey).eqAt I X.A.in1 _ _ (by rw [in1_units]; omega) rx ry) ?_
  rw [aJf,<- r1.length];exact ⟨.bl _,H,I,rfl,q⟩
 | @lstN n a b xs ys ha hb hl =>
  obtain ⟨its,r1,p1,_⟩:=I.list ha;obtain ⟨its2,r2,p2,_⟩:=I.list hb;exact PySem.SeqAt.eq_list_lengthsAt p1.isList p2.isList (by rw [aJf,aJf,<- r1.length,<- r2.length]; simpa using hl) (by omega) ⟨.bl _,H,I,rfl,q⟩
end
section
variable {X:Cx}
theorem pN (hc:X.calm=true):eZ X (.builtin "sum") (fun xs H Q=>∃ (a:Addr) (ns:List Int),xs=[.ref a]/\bG X.K H a (ns.map V.int)/\Q (.int ns.sum) H):=by
 intro pins s σ H xs us Q I r h;obtain ⟨a,ns,rfl,hS,q⟩:=h;obtain ⟨u,rfl,ru⟩:=vals1 r;cases (show u=Value.ref a from ru);obtain ⟨its,rv,p,hz⟩:=I.list hS;have hi:=intsAre_of rv;obtain ⟨zs,e⟩:=(IntsAre.allInts hi).items;have hl:=p.isList;rw [e] at hl;refine sum_intListG (I.ok.hd hc) hl fun h' tk t' hk=>⟨.int ns.sum,H,I.kept hk,⟨t',?_⟩,q⟩
 have n1:=nums_intItems (xs:=zs);rw [<- e,show its.toArray.toList=its from rfl,IntsAre.numsOf hi] at n1;rw [preSum_eq,aLz (by simp),<- n1]
section
variable {prog:Program}{w:World}{A:Around}{E:Value->Shared->Prop}{s:Shared}{d it:Addr}{od:Obj}{es:Array DictEntry}{ep i:Nat}
theorem xT {Q:Value->Shared->Prop}(hd:(d==sysModules)=false)(ho:s.heap.get? d=some od)(hx:od.ExactDict)(hdat:od.data=.dict es ep)
  (hQ:Q (.ref s.heap.objs.size) { s with heap:=s.heap.push { cls:=.type "dict_keyiterator",data:=.fields #[.ref d,.int 0 0,.int es.size 0,.int ep 0] } }) :
  wpAny (model prog w) A (pyIter (.ref d)) Q E s:=by
 have ty:s.TypeIs (.ref d) "dict":=⟨od,ho,hx.1⟩
 apply wpAny_pyIter_slot ty F.slot_dict_iter;refine wpAny_call_entry F.slot_dict_iter ty F.entry_dict_iter ?body (F.args_dict_iter_1 _)
 case body =>
  unfold Builtin.«dict.__iter__»;apply wpAny_bind;unfold Builtin.Dict.dictSlotNone;refine wpAny_bind (wpAny_notOrdered_dict ty (wpAny_pure (a:=Value.ref d) ?_));show wpAny _ _ (Builtin.Dict.showsAll d >>= fun _=>_) _ _ s;unfold Builtin.Dict.showsAll;rw [hd,if_neg aJp];refine wpAny_bind (wpAny_pure (wpAny_bind (wpAny_dictEntries ho hdat (wpAny_bind (wpAny_dictEpoch ho hdat ?_)))));refine wpAny_bind (wpAny_newObj_type (wpAny_pure ⟨_,rfl,"dict_keyiterator",_,⟨_,aJr _ rfl,rfl⟩,F.slot_dict_keyiterator_next.lookup,?_⟩))
  simpa only [rawInt] using hQ
theorem xR {e:DictEntry}{Q:Option Value->Shared->Prop}(hit:s.heap.IsKeyIter it d i es.size ep)(ho:s.heap.get? d=some od)(hdat:od.data=.dict es ep)(hx:es[i]? = some e)
  (hQ:∀ h',h'.IsKeyIter it d (i+1) es.size ep->aJT it s.heap h'->Q (some e.key) { s with heap:=h' }):wpAny (model prog w) A (pyNext (.ref it)) Q E s:=by
 obtain ⟨oi,hoi,hci,hdi⟩:=id hit;have ty:=hit.typeIs;have own:Builtin.Dict_items.ownsTuple "dict_keyiterator" = false:=by decide
 unfold pyNext;apply wpAny_bind;apply wpAny_attempt;refine wpAny_callSpecial?_slot (name:=Str.ofString "__next__") ty F.slot_dict_keyiterator_next ?call
 case call =>
  refine wpAny_call_entry F.slot_dict_keyiterator_next ty F.entry_dict_keyiterator_next ?body (F.args_dict_keyiterator_next_1 _)
  case body =>
   refine wpAny_bind (wpAny_pure (wpAny_bind (wpAny_bind ?_)));refine wpAny_bind (wpAny_typeNameOfWhole_keyiter ty (wpAny_pure (wpAny_bind (wpAny_fieldsOf hoi hdi ?_))));simp only [own,aKd,if_false];show wpAny _ _ (if (Value.ref d==Value.none)=true then _ else _) _ _ s;rw [if_neg (fun z:(Value.ref d==Value.none)=true=>aJp z)];refine wpAny_bind (wpAny_pure (wpAny_bind (wpAny_dictEntries ho hdat ?_)));rw [if_neg (by simp)];refine wpAny_bind (wpAny_pure (wpAny_bind (wpAny_dictEpoch ho hdat ?_)));rw [if_neg (by simp)];apply wpAny_pure;have neg:¬ ((i:Int)<0):=by omega
   simp only [neg,if_false,aKj,hx];refine wpAny_bind (wpAny_bind (wpAny_typeNameOfWhole_keyiter ty (wpAny_pure (wpAny_bind (wpAny_isOneOf_keyiter ty ?_)))));show wpAny _ _ (setField (.ref it) 1 (rawInt ((i:Int)+1)) >>= fun _=>_) _ _ s;refine wpAny_bind (wpAny_setField hoi hdi (by simp) ?_);have nx:(s.heap.update it (Obj.mapFields (·.setIfInBounds 1 (rawInt ((i:Int)+1))))).IsKeyIter it d (i+1) es.size ep :=
    ⟨_,aLI _ hoi (Obj.isFreed_of_fields (Obj.data_mapFields hdi _)),(Obj.cls_mapFields ..).trans hci,by rw [Obj.data_mapFields hdi]; simp [rawInt]⟩
   refine wpAny_bind (wpAny_holding (wpAny_bind (wpAny_isOneOf_keyiter (s:={ s with heap:=s.heap.update it (Obj.mapFields (·.setIfInBounds 1 (rawInt ((i:Int)+1)))) }) nx.typeIs ?_)));show wpAny _ _ (pure e.key) _ _ _;exact wpAny_pure (wpAny_pure ⟨_,rfl,wpAny_pure (hQ _ nx (aJT.update ..))⟩)
theorem Cj {Q:Option Value->Shared->Prop}(hh:A.handled=none)(hit:s.heap.IsKeyIter it d i es.size ep)(ho:s.heap.get? d=some od)(hdat:od.data=.dict es ep)(hx:es.size<=i)
  (hQ:∀ h',Heap.ExtBut it s.heap h'->Q none { s with heap:=h' }):wpAny (model prog w) A (pyNext (.ref it)) Q E s:=by
 obtain ⟨oi,hoi,hci,hdi⟩:=id hit;have ty:=hit.typeIs;have own:Builtin.Dict_items.ownsTuple "dict_keyiterator" = false:=by decide
 unfold pyNext;apply wpAny_bind;apply wpAny_attempt;refine wpAny_callSpecial?_slot (name:=Str.ofString "__next__") ty F.slot_dict_keyiterator_next ?call
 case call =>
  refine wpAny_call_entry F.slot_dict_keyiterator_next ty F.entry_dict_keyiterator_next ?body (F.args_dict_keyiterator_next_1 _)
  case body =>
   refine wpAny_bind (wpAny_pure (wpAny_bind (wpAny_bind ?_)));refine wpAny_bind (wpAny_typeNameOfWhole_keyiter ty (wpAny_pure (wpAny_bind (wpAny_fieldsOf hoi hdi ?_))));simp only [own,aKd,if_false];show wpAny _ _ (if (Value.ref d==Value.none)=true then _ else _) _ _ s;rw [if_neg (fun z:(Value.ref d==Value.none)=true=>aJp z)];refine wpAny_bind (wpAny_pure (wpAny_bind (wpAny_dictEntries ho hdat ?_)));rw [if_neg (by simp)];refine wpAny_bind (wpAny_pure (wpAny_bind (wpAny_dictEpoch ho hdat ?_)));rw [if_neg (by simp)];apply wpAny_pure;have neg:¬ ((i:Int)<0):=by omega
   simp only [neg,if_false,aKj,Array.getElem?_eq_none hx];refine wpAny_bind (wpAny_bind (wpAny_typeNameOfWhole_keyiter ty (wpAny_pure ?_)));show wpAny _ _ (setField (.ref it) 0 .none >>= fun _=>_) _ _ s;refine wpAny_bind (wpAny_setField hoi hdi (by simp) ?_);show wpAny _ _ (newExc (.type "StopIteration") [] >>= fun _=>_) _ _ _;apply wpAny_bind;simp only [newExc,newTuple];refine wpAny_bind (wpAny_newObj_type (wpAny_bind (m:=firstArgMember _ _) (wpAny_of_eq (a:=Value.none) (by first | rfl | (simp only [firstArgMember]; rfl)) (wpAny_newObj_type ?_ (by size_fits)))) (by size_fits));simp only [raiseNew];refine wpAny_bind (wpAny_handled ?_);rw [show A.in1.handled=aL5 from hh];refine wpAny_bind (wpAny_pure (wpAny_throw ?thr));apply wpAny_bind;refine wpAny_isInstance (T:="StopIteration") (b:=true) ⟨_,aJr _ rfl,rfl⟩ isSubtype_stop ?ends;exact wpAny_pure (hQ _ (((aJT.update ..).extBut.push _).push _))
end
def Py (a:Addr)(o:Obj)(kvs:List (List Key×V)):It :=
 ⟨fun i H=>H a=some (.frz o (.dT kvs))/\i<kvs.length,fun i H x H'=>H'=H/\∃ k v q,kvs[i]? = some (k,v)/\x=.ref q/\H q=some (.tup (k.map kV)),fun i H=>H a=some (.frz o (.dT kvs))/\kvs.length<=i⟩
theorem Ff {P:Program}{w:World}{H:Hp}{h:Heap}{a:Addr}{o:Obj}{kvs:List (List Key×V)}(ok:nA P w H h)(e:H a=some (.frz o (.dT kvs))) :
  h.get? a=some o/\o.ExactDict/\∃ es ep,o.data=.dict es ep/\es.size=kvs.length/\∀ (i:Nat) k v,kvs[i]? = some (k,v)->∃ q ent,es[i]? = some ent/\ent.key=.ref q/\H q=some (.tup (k.map kV)):=by
 obtain ⟨e1,z,y,xs,r,ob,es,ep,e2,ex,hd,he,nd⟩:=ok a _ e;rw [e1] at e2;cases e2;have hl:kvs.length=xs.length:=Paired.length r;refine ⟨e1,ex,es,ep,hd,?_,fun i k v hk=>?_⟩
 ·rw [<- aJI,he,aI8,hl]
 ·have get:∀ {l1:List (List Key×V)}{l2:List (List Key×Addr×Value)}{i:Nat}{k:List Key}{v:V},Paired (fun (p:List Key×V) (q:List Key×Addr×Value)=>p.1=q.1/\H q.2.1=some (.tup (p.1.map kV))/\RelV p.2 q.2.2) l1 l2->l1[i]? = some (k,v) ->
    ∃ q:List Key×Addr×Value,l2[i]? = some q/\H q.2.1=some (.tup (k.map kV)):=by
   intro l1 l2 i k v r
   induction r generalizing i with
   | nil=>intro z; simp at z
   | cons h t ih =>
    intro z;cases i with
    | zero=>simp at z; subst z; exact ⟨_,rfl,h.2.1⟩
    | succ j=>exact ih (by simpa using z)
  obtain ⟨q,hq,ht⟩:=get r hk;refine ⟨q.2.1,entryOfKey (tupleKind (dW P w)) q,?_,rfl,ht⟩;rw [<- aKA,he,aJh,hq]
  rfl
theorem Hr {P:Program}{w:World}{K:PySem.W.Frag}{tg:Expr}(a it:Addr)(o:Obj)(kvs:List (List Key×V))(es:Array DictEntry)(ep:Nat)(hd:o.data=.dict es ep) :
  Turn P w K tg (Py a o kvs) [it] it (fun i h=>h.IsKeyIter it a i es.size ep) where
 mem:=by simp
 obj:=fun i h st b hb=>by
  have e:b=it:=by simpa using hb
  subst e;obtain ⟨o,e,c,d⟩:=st;exact ⟨o,e,fun v z=>by rw [d] at z; cases z⟩
 keep:=fun i h h' st k=>st.at fun o e=>k it (by simp) o e
 item:=by
  intro X hP hw hK hc i pins s σ H E I hf st hg;subst hP hw hK;obtain ⟨hH,hi⟩:=hg;obtain ⟨e1,ex,es',ep',hd',hsz,get⟩:=Ff I.hok hH;rw [hd] at hd';cases hd';obtain ⟨q,ent,hent,hkey,ht⟩:=get i _ _ (aI7 hi);obtain ⟨f0,f1,f2,f3,f4,f5⟩:=hf it (by simp);refine xR st e1 hd hent fun h' st' sb=>?_;have I1:aZ X pins σ H { s with heap:=h' }:=I.turned (t':=s.toks) (fun b o hb e=>(sb.2 b hb).trans e) f0 f1 f3 f4 f5;obtain ⟨oo,e,c,d⟩:=id st';exact ⟨_,rfl,BK (s:={ s with heap:=h' }) e c d (by decide) ⟨.ref q,H,I1,hkey,⟨rfl,_,_,q,aI7 hi,rfl,ht⟩,st',fun b hb=>(hf b hb).1⟩⟩
 done:=by
  intro X hP hw hK hc i pins s σ H E I hf st hg;subst hP hw hK;obtain ⟨hH,hi⟩:=hg;obtain ⟨e1,ex,es',ep',hd',hsz,get⟩:=Ff I.hok hH;rw [hd] at hd';cases hd';obtain ⟨f0,f1,f2,f3,f4,f5⟩:=hf it (by simp);exact Cj (I.ok.hd hc) st e1 hd (by omega) fun h' eb=>⟨rfl,I.turned (t':=s.toks) (fun b o hb e=>eb b o hb e) f0 f1 f3 f4 f5⟩
 self:=fun _ _ _ _ _ st h=>wpAny_pyIter_keyiter st h
theorem aZ.freeze {pins:List (Addr×Obj)}{σ:St}{H:Hp}{s:Shared}{a:Addr}{kvs:List (List Key×V)}(I:aZ X pins σ H s)(e:H a=some (.dT kvs)):∃ o,s.heap.get? a=some o/\aZ X pins σ (aX H a (.frz o (.dT kvs))) s:=by
 have ok:=I.hok a _ e;obtain ⟨z,y,xs,r,ob,es,ep,e2,c⟩:=id ok;refine ⟨ob,e2,?_⟩;refine I.write (x:=a) (e:=a) (h':=s.heap) (t':=s.toks) (by rw [e]; exact trivial) (.inl rfl) (fun _ _ _ q=>q) ⟨_,e2⟩ ⟨e2,?_⟩;refine ok.stay (fun _ _ _ q=>q) (fun b q=>?_) fun b ys q=>?_
 ·rw [aK (fun w=>by rw [w,e] at q; cases q)]; exact q
 ·rw [aK (fun w=>by rw [w,e] at q; cases q)]; exact q
def Yi (tl:TE):TI:=fun σ H R=>tl σ H fun x H1=>∃ a kvs,x=.ref a/\((H1 a=some (.dT kvs)/\∀ o,R (Py a o kvs) (aX H1 a (.frz o (.dT kvs))))∨∃ o,H1 a=some (.frz o (.dT kvs))/\R (Py a o kvs) H1)
theorem Gy {pins:List (Addr×Obj)}{σ:St}{H:Hp}{s:Shared}{tg:Expr}{a:Addr}{o:Obj}{kvs:List (List Key×V)}{R:It->Hp->Prop}(I:aZ X pins σ H s)(e:H a=some (.frz o (.dT kvs)))(q:R (Py a o kvs) H) :
  wpAny (model X.prog X.w) X.A (pyIter (.ref a)) (PIE X pins σ tg R) X.xe s:=by
 obtain ⟨e1,ex,es,ep,hd,hsz,get⟩:=Ff I.hok e;obtain ⟨_,_,y,_⟩:=I.hok a _ e;refine xT y e1 ex hd ?_;refine ⟨s.heap.objs.size,[s.heap.objs.size],_,_,H,rfl,I.kept (t':=s.toks) fun b o e=>aJb _ e,Hr a _ o kvs es ep hd,⟨_,aJr _ rfl,rfl,rfl⟩,fun b hb=>?_,q⟩;have e:b=s.heap.objs.size:=by simpa using hb
 subst e;exact I.fpOk (aJd _) (I.hok.fresh (aJd _))
theorem Nz {tg l:Expr}{tl:TE}(hl:PE X l tl):PI X tg l (Yi tl):=by
 intro pins s σ H R I h;refine dH (hl pins s σ H _ I h) fun v s1 ⟨x,H1,I1,r1,q1⟩=>?_;obtain ⟨a,kvs,rfl,q1⟩:=q1;cases (show v=Value.ref a from r1);rcases q1 with ⟨e,q⟩ | ⟨o,e,q⟩
 ·obtain ⟨o,_,I2⟩:=I1.freeze e;exact Gy I2 aB (q o)
 ·exact Gy I1 e q
def WY (K:PySem.W.Frag)(a:Addr)(xs:List V):It :=
 ⟨fun i H=>i<xs.length/\bG K H a xs,fun i H x H'=>H'=H/\xs[xs.length-1-i]? = some x,fun i H=>xs.length<=i⟩
theorem K8 {P:Program}{w:World}{K:PySem.W.Frag}{tg:Expr}(a it:Addr)(xs:List V):Turn P w K tg (WY K a xs) [it] it (fun i h=>i<=xs.length/\h.IsRevIter it a ((xs.length:Int)-1-(i:Int))) where
 mem:=by simp
 obj:=fun i h st b hb=>by
  have e:b=it:=by simpa using hb
  subst e;obtain ⟨_,o,e,c,d⟩:=st;exact ⟨o,e,fun v z=>by rw [d] at z; cases z⟩
 keep:=fun i h h' st k=>⟨st.1,st.2.at fun o e=>k it (by simp) o e⟩
 item:=by
  intro X hP hw hK hc i pins s σ H E I hf st hg;subst hP hw hK;obtain ⟨hi,hS⟩:=hg;obtain ⟨_,st⟩:=st;obtain ⟨its,rv,p,hz⟩:=I.list hS;have hix:xs.length-1-i<xs.length:=by omega
  obtain ⟨u,hu,ru⟩:=rv.get (aI7 hix);have ei:(xs.length:Int)-1-(i:Int)=((xs.length-1-i:Nat):Int):=by omega
  rw [ei] at st;obtain ⟨f0,f1,f2,f3,f4,f5⟩:=hf it (by simp);refine wpAny_pyNext_rev_item st p.isList (x:=u) (by simpa using hu) fun h' st' sb=>?_;have I1:aZ X pins σ H { s with heap:=h' }:=I.turned (t':=s.toks) (fun b o hb e=>(sb.2 b hb).trans e) f0 f1 f3 f4 f5;obtain ⟨o,e,c,d⟩:=id st';refine ⟨u,rfl,BK (s:={ s with heap:=h' }) e c d (by decide) ⟨_,H,I1,ru,⟨rfl,aI7 hix⟩,⟨hi,?_⟩,fun b hb=>(hf b hb).1⟩⟩;have ej:(xs.length:Int)-1-((i+1:Nat):Int)=((xs.length-1-i:Nat):Int)-1:=by omega
  rw [ej];exact st'
 done:=by
  intro X hP hw hK hc i pins s σ H E I hf st hg;subst hP hw hK;obtain ⟨hi,st⟩:=st;have hg:xs.length<=i:=hg;have ei:(xs.length:Int)-1-(i:Int) = -1:=by omega
  rw [ei] at st;obtain ⟨f0,f1,f2,f3,f4,f5⟩:=hf it (by simp);exact wpAny_pyNext_rev_end (I.ok.hd hc) st fun h' eb=>⟨rfl,I.turned (t':=s.toks) (fun b o hb e=>eb b o hb e) f0 f1 f3 f4 f5⟩
 self:=fun _ _ _ _ _ st h=>wpAny_pyIter_revIter st.2 h
def aBC (K:PySem.W.Frag)(ta:TA):TI:=fun σ H R=>ta σ H fun vs H1=>∃ a xs,vs=[.ref a]/\bG K H1 a xs/\R (WY K a xs) H1
theorem Ck:bootBuiltins "reversed" = some (.type "reversed"):=by decide +kernel
theorem RK {tg a:Expr}{ta:TA}{p pos:Pos}(hg:Gl X "reversed")(hm:X.mg "reversed" = none)(ha:PA X [a] ta)(hs:starEach [a] X.env=[(false,eval a X.env)]:=by rfl):PI X tg (.Call (.Name "reversed" p) [a] [] pos) (aBC X.K ta):=by
 intro pins s σ H R I h;refine Call_ (pD I hg hm Ck (PyProof.Rows.callWith_type1 (dH (ha pos pins s σ H _ I h) fun us s1 ⟨vs,H1,I1,r1,q1⟩=>?_) hs rfl));obtain ⟨b,xs,e,hS,q⟩:=q1;subst e;obtain ⟨u,rfl,ru⟩:=vals1 r1;cases (show u=Value.ref b from ru);obtain ⟨its,rv,pl,hz⟩:=I1.list hS;refine call_reversed_list pl.isList ?_;have hsz:its.toArray.size=xs.length:=by rw [aJf]; exact rv.length.symm
 rw [hsz];have st:Heap.IsRevIter (s1.heap.push (revObj b ((xs.length:Int)-1))) s1.heap.objs.size b ((xs.length:Int)-1-((0:Nat):Int)):=by
  rw [show (xs.length:Int)-1-((0:Nat):Int)=(xs.length:Int)-1 by omega];exact ⟨_,aJr _ rfl,rfl,rfl⟩
 have I2:aZ X pins σ H1 { s1 with heap:=s1.heap.push (revObj b ((xs.length:Int)-1)) }:=I1.kept (t':=s1.toks) fun b o e=>aJb _ e;refine wpAny_pyIter_revIter (s:={ s1 with heap:=s1.heap.push (revObj b ((xs.length:Int)-1)) }) st ?_;refine ⟨s1.heap.objs.size,[s1.heap.objs.size],_,_,H1,rfl,I2,K8 b _ xs,⟨aJD _,st⟩,fun c hc=>?_,q⟩;have e:c=s1.heap.objs.size:=by simpa using hc
 subst e;exact I1.fpOk (aJd _) (I1.hok.fresh (aJd _))
end
theorem lD {X:Cx}{K:PySem.W.Frag}(h:X.K=K):TV X (WW K):=by subst h; exact cQ
theorem Jb {X:Cx}{K:PySem.W.Frag}(h:X.K=K):TV X (VG K):=by subst h; exact dR
theorem iJ {X:Cx}{K:PySem.W.Frag}(hK:X.K=K){pos:Pos}{es:List Expr}{k:Nat}{t:Pa}{n:Nat}(hc:X.calm=true)(h:UL X es t)
  (hn:(assignEach es X.env).length=n:=by rfl) (hst:(assignEach es X.env).findIdx? (·.1)=none:=by rfl):PG X (.Tuple es k pos) (Tn K n t):=by
 subst hK;exact wI hc h hn hst
theorem Lh {a:Addr}{o:Obj}{kvs:List (List Key×V)}{g:TG}{tb:TS}{D:Ends}{σ:St}{H:Hp}(Pv:Nat->St->Hp->Prop)(h0:Pv 0 σ H)(hl:∀ i σ H,i<=kvs.length->Pv i σ H->H a=some (.frz o (.dT kvs)))
  (hs:∀ i k v q σ H,kvs[i]? = some (k,v)->H q=some (.tup (k.map kV))->Pv i σ H->g (.ref q) σ H fun σ2 H2=>tb { D with nx:=Pv (i+1),ct:=Pv (i+1),bk:=D.nx } σ2 H2) (hd:∀ σ H,Pv kvs.length σ H->D.nx σ H) :
  ∃ W:Nat->Nat->St->Hp->Prop,(∃ m,W 0 m σ H)/\∀ i m σ H,W i m σ H ->
   ((Py a o kvs).stop i H/\D.nx σ H)∨((Py a o kvs).go i H/\∃ N:St->Hp->Prop,(∀ σ' H',N σ' H'->∃ m',m'<m/\W (i+1) m' σ' H')/\∀ x H',(Py a o kvs).yld i H x H'->g x σ H' fun σ2 H2=>tb { D with nx:=N,ct:=N,bk:=D.nx } σ2 H2):=by
 refine ⟨fun i m σ H=>m=kvs.length-i/\i<=kvs.length/\Pv i σ H,⟨kvs.length,by simp,aJD _,h0⟩,?_⟩;rintro i m σ H ⟨rfl,hi,p⟩;have q:=hl i σ H hi p
 by_cases hlt:i<kvs.length
 ·refine .inr ⟨⟨q,hlt⟩,Pv (i+1),fun σ' H' p'=>⟨kvs.length-(i+1),by omega,rfl,hlt,p'⟩,fun x H' y=>?_⟩;obtain ⟨e,k,v,z,hk,ex,ht⟩:=y;subst e ex;exact hs i k v z σ _ hk ht p
 ·have e:i=kvs.length:=by omega
  subst e;exact .inl ⟨⟨q,aJd _⟩,hd σ H p⟩
theorem Hg {Pg:Program}{w:World}{K:PySem.W.Frag}{mg mb:Str->Option Value}{CX:Aj}{k:Nat}{fa a P c:Addr}{fd:FuncData}{x:Str}{sp:Sp}{s₁:Shared}{vs:List Value}{ns:List Int}
  (KX:K.In s₁.heap) (hns:s₁.heap.Ns mainGlobals mg) (hb:s₁.heap.Ns builtinsNs mb) (hbb:∀ x:Str,x≠"__name__" -> mb x=bootBuiltins x) (hlim:s₁.heap.NoLimit) (hg:s₁.gens = #[])
  (ha:s₁.heap.get? a=some { cls:=.type "list",data:=.seq vs.toArray }) (hi:IntsAre vs ns) (hl:ns.length<=sizeLine) (hr:fM k callerA)
  (hP:s₁.heap.get? P=some (PySem.W.tabObj #[])) (hC:PySem.W.CodeHd s₁.heap c P) (hB:∃ bm ob,mg "__builtins__" = some (.ref bm)/\bm≠builtinsNs/\s₁.heap.get? bm=some ob/\ob.cls=.type "module"/\ob.dict=some builtinsNs/\ob.data=.plain)
  (hKP:K.lookup P=none) (hCK:∀ h,K.In h->PySem.W.CodeHd h c P)
  (F:∀ base:Heap,K.In base->base.Ns mainGlobals mg->PySem.W.CodeHd base c P->base.BuiltinsAt mg P->aP Pg w K mg base CX k fa fd [x] sp) (hbind:∀ (s:Shared) (u:Value),BindsTo s fd ⟨[u],[]⟩ [(x,u)])
  (hsp:∀ H:Hp,H P=some (.tbl #[])->bG K H a (ns.map V.int)->sp [.ref a] H (fun v _=>v=.bl true) fun _ _ _=>False)
  (hCX:∀ H e s',CX [] H s₁ (fun _ _ _=>False) e s'->False) :
  codeAny (model Pg w) callerA (.call (.ref fa) ⟨[.ref a],[]⟩) (fun r s'=>r=.ok (.ret (.bool true))/\OldK s₁.heap s'.heap/\s'.os=s₁.os/\AllBare s'.gens) s₁:=by
 have rv:=sO hi;have lenV:=hi.length;have haP:a≠P:=fun z=>by rw [z,hP] at ha; cases ha
 have core:∀ H:Hp,H P=some (.tbl #[])->(∀ b,b≠P->H b=none∨∃ xs,b=a/\H b=some (.frz { cls:=.type "list",data:=.seq vs.toArray } (.lst xs)))->bG K H a (ns.map V.int)->nA Pg w H s₁.heap->(H a≠none->K.lookup a=none) ->
   codeAny (model Pg w) callerA (.call (.ref fa) ⟨[.ref a],[]⟩) (fun r s'=>r=.ok (.ret (.bool true))/\OldK s₁.heap s'.heap/\s'.os=s₁.os/\AllBare s'.gens) s₁:=by
  intro H hHP hO hS hok hK;have base_of:∀ {b:Addr}{o:Obj},s₁.heap.get? b=some o->H b=none->(xK s₁.heap H).get? b=some o:=fun e n=>KD e n;have free:∀ {b:Addr}{o:Obj},s₁.heap.get? b=some o->(∀ xs n,o.data≠.seq xs n)->b≠P->H b=none:=fun {b o} e d nP=>by
   rcases hO b nP with z | ⟨xs,z,_⟩
   ·exact z
   ·rw [z,ha] at e;cases e;exact absurd rfl (d _ _)
  have ndP:∀ {b:Addr}{o:Obj}{es:Array DictEntry}{ep:Nat},s₁.heap.get? b=some o->o.data=.dict es ep->b≠P:=fun {b o es ep} e d z=>by
   rw [z,hP] at e;cases e;have d':Data.fields #[]=Data.dict es ep:=d;cases d'
  have nsK:∀ {b:Addr}{m:Str->Option Value},s₁.heap.Ns b m->(xK s₁.heap H).Ns b m:=fun {b m} ⟨o,es,ep,e,d,r⟩=>⟨o,es,ep,base_of e (free e (fun xs n z=>by rw [d] at z; cases z) (ndP e d)),d,r⟩
  have hKb:K.In (xK s₁.heap H):=fun b o e=>base_of (KX b o e) (by
   by_cases z:b=P
   ·rw [z,hKP] at e; cases e
   ·rcases hO b z with q | ⟨xs,q,r⟩
    ·exact q
    ·subst q;rw [hK (by rw [r]; simp)] at e; cases e)
  have hM:Mod K mg (xK s₁.heap H):=⟨hKb,nsK hns,⟨mb,nsK hb,hbb⟩,let ⟨mc,h1,h2⟩:=hlim; ⟨mc,nsK h1,h2⟩⟩
  have e0:Dw Pg w K mg (xK s₁.heap H) callerA [] s₁ H:=⟨rfl,hM,fun b o e=>M7 e,aLv (Hb _ _),trivial,fun b hb=>absurd (show b∈([]:List Addr) from hb) (by simp),hok,.of_eq hg⟩
  have hBA:(xK s₁.heap H).BuiltinsAt mg P:=by
   obtain ⟨bm,ob,b1,b2,b3,b4,b5,b6⟩:=hB;have nP:bm≠P:=fun z=>by rw [z,hP] at b3; cases b3; cases b4
   have nG:bm≠mainGlobals:=fun z=>by
    obtain ⟨o,es,ep,e,d,_⟩:=hns;rw [z,e] at b3;cases b3;rw [d] at b6;cases b6
   exact ⟨bm,ob,b1,b2,nG,nP,base_of b3 (free b3 (fun xs n z=>by rw [b6] at z; cases z) nP),b4,b5,b6⟩
  refine codeAny_mono ((F _ hKb (nsK hns) (hCK _ hKb) hBA).run callerA [] s₁ H ⟨[.ref a],[]⟩ [.ref a] [.ref a] _ _ hr e0 (hbind s₁ (.ref a)) (.cons rfl .nil) (hsp H hHP hS)) fun r s' h=>?_;cases r with
  | error e=>exact (hCX H e s' h).elim
  | ok fl =>
   cases fl with
   | next=>exact False.elim h
   | brk=>exact False.elim h
   | cont=>exact False.elim h
   | ret u =>
    obtain ⟨v,H',os,bare,un,hok',r',q⟩:=h;have q':v=.bl true:=q;subst q';obtain rfl:u=Value.bool true:=r';have keep:∀ b o,b≠P->s₁.heap.get? b=some o->s'.heap.get? b=some o:=fun b o nP e=>by
     rcases hO b nP with z | ⟨xs,z1,z⟩
     ·exact un.keep b o e z (by intro z; exact absurd (show b∈([]:List Addr) from z) (by simp)) (by simp)
     ·obtain ⟨e1,_⟩:=hok b _ z;obtain ⟨e2,_⟩:=hok' b _ (un.frzs b _ _ z);rw [e] at e1; cases e1;exact e2
    obtain ⟨more,hm⟩:=un.tbls P #[] hHP;have hP':s'.heap.get? P=some { cls:=.none,data:=.fields (#[]++more) }:=hok' P _ hm;refine ⟨rfl,⟨fun b o e=>?_,fun b o e=>?_⟩,os,bare⟩
    ·by_cases z:b=P
     ·subst z;rw [hP] at e;cases e;exact .inr (.inl ⟨(hC.tab hP).isCodeTable,rfl,#[],more,rfl,hP'⟩)
     ·exact .inl (keep b o z e)
    ·by_cases z:b=P
     ·subst z; exact ⟨_,hP'⟩
     ·exact ⟨o,keep b o z e⟩
 cases hk:K.lookup a with
 | some o =>
  have e:=KX a o hk;rw [ha] at e;cases e;refine core (fun b=>if b=P then some (.tbl #[]) else none) (if_pos rfl) (fun b z=>.inl (if_neg z)) (.inr ⟨_,vs.toArray,_,hk,rfl,rfl,rfl,by rw [aJf,lenV]; exact hl,by simpa using rv⟩) (fun b u z=>?_) fun z=>absurd (if_neg haP) z
  by_cases hb:b=P
  ·have z':=(if_pos hb).symm.trans z;cases z';subst hb;exact hP
  ·have z':=(if_neg hb).symm.trans z;cases z'
 | none =>
  refine core (fun b=>if b=P then some (.tbl #[]) else if b=a then some (.frz { cls:=.type "list",data:=.seq vs.toArray } (.lst (ns.map V.int))) else none) (if_pos rfl) (fun b z=>?_) (.inl (.inr ⟨{ cls:=.type "list",data:=.seq vs.toArray },(if_neg haP).trans (if_pos rfl)⟩)) (fun b u z=>?_) fun _=>hk
  ·by_cases hb:b=a
   ·exact .inr ⟨_,hb,(if_neg z).trans (if_pos hb)⟩
   ·exact .inl ((if_neg z).trans (if_neg hb))
  ·by_cases hb:b=P
   ·have z':=(if_pos hb).symm.trans z;cases z';subst hb;exact hP
   ·have z1:=(if_neg hb).symm.trans z
    by_cases hb2:b=a
    ·have z':=(if_pos hb2).symm.trans z1;cases z';subst hb2;exact ⟨ha,by rw [aI8]; exact hl,vs,_,rv,ha⟩
    ·have z':=(if_neg hb2).symm.trans z1;cases z'
theorem K3 {l:PySem.W.OpenLaw}{n k:Nat}{q:Program}{loose:List Str}{XP:(Str->Option Value)->Heap->Prop}{YP:World->Heap->Prop}{d d0:DefRec}{K:Params->PySem.W.Frag}{CX:World->Aj}{sp:World->Addr->Sp}{x x0:Str}
  (hn:l.most=some n) (hn2:n<=sizeLine) (hdf:d.params.defaults=[]) (hr:fM k callerA)
  (h0:(recsOf q).find? (fun e=>e.name==x0)=some d0)
  (hY:∀ (w:World) (h:Heap),YP w h->(K w.params).In h)
  (F:∀ (w:World) (mg:Str->Option Value) (fa:Addr) (h:Heap),(K w.params).In h->h.Ns mainGlobals mg->mg d.name=some (.ref fa) ->
   ∃ (fd:FuncData) (c P:Addr),(∀ (s:Shared) (u:Value),BindsTo s fd ⟨[u],[]⟩ [(x,u)])/\PySem.W.tabIn (K w.params) x0=some (c,P)/\PySem.W.codeHdIn (K w.params) c P=true/\(K w.params).lookup P=none ∧
    ∀ base:Heap,(K w.params).In base->base.Ns mainGlobals mg->PySem.W.CodeHd base c P->base.BuiltinsAt mg P->aP l.prog w (K w.params) mg base (CX w) k fa fd [x] (sp w P))
  (hsp:∀ (w:World) (H:Hp) (a P:Addr) (ns:List Int),ns.length<=n->H P=some (.tbl #[])->bG (K w.params) H a (ns.map V.int)->sp w P [.ref a] H (fun v _=>v=.bl true) fun _ _ _=>False)
  (hCX:∀ (w:World) (H:Hp) (s:Shared) (e:Value) (s':Shared),CX w [] H s (fun _ _ _=>False) e s'->False) :
  PySem.W.WalkO q loose XP YP l.row.toRowW d [] (fun f vs=>PySem.call f vs):=by
 refine Att.Bw hn hdf fun w s₀ s₁ mg mb fa o pm cd doc a vs ns G Y ho hd hcd hmg hobj hints hlen hg=>?_;have KX:=hY w _ Y;obtain ⟨fd,c,P,hb,ht,hcd,hkp,hF⟩:=F w mg fa _ KX G.T.g hmg;obtain ⟨hC,hP⟩:=PySem.W.tab_of G.T KX h0 ht;exact Hg KX G.T.g G.T.b G.T.builtins G.T.nolimit hg hobj hints (aJc hlen hn2) hr hP hC G.T.bmain hkp (fun h X=>PySem.W.codeHd_of_K X hcd) hF hb (fun H hO hS=>hsp w H a P ns hlen hO hS) fun H e s'=>hCX w H s₁ e s'
theorem zE {X:Cx}(hc:X.calm=true):eZ X (.builtin "max") (fun xs H Q=>∃ (a:Addr) (ns:List Int),xs=[.ref a]/\bG X.K H a (ns.map V.int)/\ns≠[]/\∀ M,M∈ns->(∀ n∈ns,n<=M)->Q (.int M) H):=by
 intro pins s σ H xs us Q I r h;obtain ⟨a,ns,rfl,hS,hne,q⟩:=h;obtain ⟨u,rfl,ru⟩:=vals1 r;cases (show u=Value.ref a from ru);obtain ⟨its,rv,p,hz⟩:=I.list hS;have hi:=intsAre_of rv;obtain ⟨zs,e⟩:=(IntsAre.allInts hi).items;have hl:=p.isList;rw [e] at hl;have hns:ns=zs.toList.map (·.1):=by
  have n1:=nums_intItems (xs:=zs);rw [<- e,show its.toArray.toList=its from rfl,IntsAre.numsOf hi] at n1;exact n1
 have hsz:0<zs.size:=by
  rcases aLb zs.size with z | z
  ·exfalso;apply hne;rw [hns];have:zs = #[]:=Array.eq_empty_of_size_eq_zero z;rw [this]
   rfl
  ·exact z
 refine max_intList (I.ok.hd hc) hl hsz fun v h' tk hv hk=>?_;obtain ⟨t,rfl⟩:=intItems_at hv;obtain ⟨h1,h2⟩:=argBest_gt (numAt zs) (zs.size-1);refine ⟨.int _,H,I.kept hk,⟨t,rfl⟩,q _ ?_ fun n hn=>?_⟩
 ·rw [hns,numAt_eq]; exact getD_mem (by rw [aI8,aJI]; omega)
 ·rw [hns] at hn;obtain ⟨j,hj,rfl⟩:=mem_getD hn;rw [aI8,aJI] at hj;rw [<- numAt_eq]; exact h2 j (by omega)
theorem QG {P:Program}{w:World}{H:Hp}{h:Heap}{a:Addr}{kvs:List (List Key×V)}(ok:cJ P w H h a (.dT kvs)) :
  (a==sysModules)=false/\∃ o,h.get? a=some o/\o.ExactDict/\∃ es ep,o.data=.dict es ep/\es.size=kvs.length/\∀ (i:Nat) k v,kvs[i]? = some (k,v)->∃ q ent,es[i]? = some ent/\ent.key=.ref q/\H q=some (.tup (k.map kV)):=by
 obtain ⟨z,y,xs,r,ob,es,ep,e2,ex,hd,he,nd⟩:=ok;have hl:kvs.length=xs.length:=Paired.length r;refine ⟨y,ob,e2,ex,es,ep,hd,?_,fun i k v hk=>?_⟩
 ·rw [<- aJI,he,aI8,hl]
 ·have get:∀ {l1:List (List Key×V)}{l2:List (List Key×Addr×Value)}{i:Nat}{k:List Key}{v:V},Paired (fun (p:List Key×V) (q:List Key×Addr×Value)=>p.1=q.1/\H q.2.1=some (.tup (p.1.map kV))/\RelV p.2 q.2.2) l1 l2->l1[i]? = some (k,v) ->
    ∃ q:List Key×Addr×Value,l2[i]? = some q/\H q.2.1=some (.tup (k.map kV)):=by
   intro l1 l2 i k v r
   induction r generalizing i with
   | nil=>intro z; simp at z
   | cons h t ih =>
    intro z;cases i with
    | zero=>simp at z; subst z; exact ⟨_,rfl,h.2.1⟩
    | succ j=>exact ih (by simpa using z)
  obtain ⟨q,hq,ht⟩:=get r hk;refine ⟨q.2.1,entryOfKey (tupleKind (dW P w)) q,?_,rfl,ht⟩;rw [<- aKA,he,aJh,hq]
  rfl
theorem Hj {P:Program}{w:World}{A:Around}(hh:A.handled=none)(it d:Addr)(hne:it≠d)(o:Obj)(es:Array DictEntry)(ep:Nat)(hd:o.data=.dict es ep) :
  Walks P w A it [it,d] [it] es.size (fun i v=>∃ ent,es[i]? = some ent/\ent.key=v) (fun i h=>h.IsKeyIter it d i es.size ep/\h.get? d=some o) where
 sub:=fun b hb=>by rw [aJk.mp hb]; exact .head _
 frame:=fun i h h' st k=>⟨st.1.at fun o e=>k it (.head _) o e,k d (.tail _ (.head _)) _ st.2⟩
 item:=fun i s Q E hi st hQ=>by
  refine xR st.1 st.2 hd (aKq hi) fun h' st' sb=>?_;exact hQ _ h' s.toks ⟨_,aKq hi,rfl⟩ ⟨st',(sb.2 d (Ne.symm hne)).trans st.2⟩ fun b o hb e=>(sb.2 b (fun z=>hb (by rw [z]; exact .head _))).trans e
 done:=fun s Q E st hQ=>by
  refine Cj hh st.1 st.2 hd (aJd _) fun h' eb=>?_;exact hQ h' s.toks fun b o hb e=>eb b o (fun z=>hb (by rw [z]; exact .head _)) e
 self:=fun i s Q E st hQ=>wpAny_pyIter_keyiter st.1 hQ
theorem Ja {P:Program}{w:World}(d:Addr)(lo:(d==sysModules)=false)(o:Obj)(ex:o.ExactDict)(es:Array DictEntry)(ep:Nat)(hd:o.data=.dict es ep) :
  PySem.W.KdlSrc P w "dict" d d es.size (fun i v=>∃ ent,es[i]? = some ent/\ent.key=v) (fun h=>h.get? d=some o) where
 type:=fun s e=>⟨o,e,ex.1⟩
 there:=fun h e=>⟨aJm e,aJm e⟩
 keep:=fun h h' e k=>k d (.inl rfl) o e
 notList:=by decide
 notTuple:=by decide
 hint:=fun A E s Q e hq=>PySem.W.kdl_hint_dict ⟨o,e,ex.1⟩ hq
 iter:=fun A s hh e=>⟨_,_,(fun E Q hq=>xT lo e ex hd hq),Hj hh _ d (aKW (aJm e)) o es ep hd,⟨⟨_,aJr _ rfl,rfl,rfl⟩,aJb _ e⟩⟩
theorem FP {X:Cx}(hc:X.calm=true):eZ X (.type "list") (fun xs H Q=>∃ (d:Addr) (kvs:List (List Key×V)),xs=[.ref d]/\(H d=some (.dT kvs)∨∃ o,H d=some (.frz o (.dT kvs))) ∧
  ∀ (l:Addr) (qs:List Addr),H l=none->qs.length=kvs.length->(∀ (i:Nat) k v,kvs[i]? = some (k,v)->∃ q,qs[i]? = some q/\H q=some (.tup (k.map kV)))->Q (.ref l) (aX H l (.lst (qs.map V.ref)))):=by
 intro pins s σ H xs us Q I r h;obtain ⟨d,kvs,rfl,hD,q⟩:=h;obtain ⟨u,rfl,ru⟩:=vals1 r;cases (show u=Value.ref d from ru);have ok:cJ X.prog X.w H s.heap d (.dT kvs):=by
  rcases hD with e | ⟨o,e⟩
  ·exact I.hok d _ e
  ·exact (I.hok d _ e).2
 have hz:kvs.length<=sizeLine:=ok.1;obtain ⟨lo,o,e,ex,es,ep,hd,hsz,get⟩:=QG ok;refine PySem.W.kdl_call (Ja d lo o ex es ep hd) (I.ok.hd hc) e (by rw [hsz]; exact hz) fun h' tk acc c hk hl hacc=>?_;have key:∀ (i:Nat),i<kvs.length->∃ q,acc.toList[i]? = some (Value.ref q)/\∀ k v,kvs[i]? = some (k,v)->H q=some (.tup (k.map kV)):=fun i hi=>by
  have hia:i<acc.size:=by rw [hacc.1,hsz]; exact hi
  obtain ⟨ent,e1,e2⟩:=hacc.2 i _ (aKq hia);obtain ⟨q,ent',e3,e4,e5⟩:=get i _ _ (aI7 hi);rw [e1] at e3;cases e3;refine ⟨q,?_,fun k v ek=>?_⟩
  ·rw [aKA,aKq hia,<- e2,e4]
  ·rw [aI7 hi] at ek;have ek:=aJU.inj ek;have:kvs[i].1=k:=by rw [ek]
   rw [<- this];exact e5
 have hla:acc.toList.length=kvs.length:=by rw [aJI,hacc.1,hsz]
 have eacc:acc.toList=(acc.toList.map Pr).map Value.ref:=by
  refine List.ext_getElem? fun i=>?_;rw [aJh,aJh]
  by_cases hi:i<kvs.length
  ·obtain ⟨q,e1,_⟩:=key i hi;rw [e1]
   rfl
  ·rw [aKB (by omega)]
   rfl
 refine ⟨.ref s.heap.objs.size,_,I.laid (t':=tk) hk (aJd _) (show cJ X.prog X.w _ h' _ (.lst ((acc.toList.map Pr).map V.ref)) from ⟨?_,acc.toList,c,?_,?_⟩),rfl,q _ (acc.toList.map Pr) (I.hok.fresh (aJd _)) (by rw [aI8,hla]) fun i k v ek=>?_⟩
 ·rw [aI8,aI8,hla]; exact hz
 ·have z:=rD (acc.toList.map Pr);rw [<- eacc] at z;exact z
 ·rw [aK4]; exact hl
 ·have hi:=(aJl.mp ek).1;obtain ⟨q2,e1,e2⟩:=key i hi;exact ⟨q2,by rw [aJh,e1]; rfl,e2 k v ek⟩
end L2
namespace Fr
theorem Ly (a b:Int):aJR b (a.fmod b)=aJR a b:=by
 rw [aLY,Int.gcd_sub_mul_left_right,Int.gcd_comm]
theorem Hw {a b:Int}(hb:b≠0):(a.fmod b).natAbs<b.natAbs:=by
 rcases aLU hb with h | h
 ·have e:a.fmod b = -((-a).fmod (-b)):=by
   rw [aLY,aLY,Int.neg_fdiv_neg,Int.neg_mul];omega
  have h1:=aLA (-a) (show (0:Int) < -b by omega);have h2:=aLV (-a) (show (0:Int) < -b by omega);omega
 ·have h1:=aLA a h;have h2:=aLV a h;omega
def dv (t b:Int):Int:=if b<0 then -(aJR t b:Int) else (aJR t b:Int)
def sh (t b:Int):Int×Int:=(t.fdiv (dv t b),b.fdiv (dv t b))
structure jD (t b:Int):Prop where
 pos:0<b
 red:aJR t b=1
theorem rB (t b:Int):(dv t b).natAbs=aJR t b:=by unfold dv; split <;> omega
theorem Pb {t b:Int}(hb:b≠0):dv t b≠0:=by
 have:=aJ1 t hb;have e:=rB t b;omega
theorem Dh (t b:Int):dv t b∣t:=by
 have h:=aLq t b;unfold dv
 split
 ·exact Int.neg_dvd.mpr h
 ·exact h
theorem Aw (t b:Int):dv t b∣b:=by
 have h:=aLk t b;unfold dv
 split
 ·exact Int.neg_dvd.mpr h
 ·exact h
theorem Et (t b:Int):(sh t b).1*dv t b=t:=aLO (Dh t b)
theorem zT (t b:Int):(sh t b).2*dv t b=b:=aLO (Aw t b)
theorem qL (t b:Int):(sh t b).1*b=t*(sh t b).2:=by
 have h1:=Et t b;have h2:=zT t b;generalize (sh t b).1=x at *;generalize (sh t b).2=y at *;generalize dv t b=d at *;rw [<- h1,<- h2];rw [Int.mul_assoc x d y,aKY d y]
theorem Fi {t b:Int}(hb:b≠0):0<(sh t b).2:=by
 have h2:=zT t b;have g:=aJ1 t hb;rcases aLU hb with h | h
 ·have e:dv t b<0:=by unfold dv; rw [if_pos h]; omega
  rcases (by omega:0<(sh t b).2∨(sh t b).2<=0) with q | q
  ·exact q
  ·have:=Int.mul_nonneg_of_nonpos_of_nonpos q (aJn e);omega
 ·have e:0<dv t b:=by unfold dv; rw [if_neg (by omega)]; omega
  rcases (by omega:0<(sh t b).2∨(sh t b).2<=0) with q | q
  ·exact q
  ·have:=aKS q (aJn e);omega
theorem Ep {t b:Int}(hb:b≠0):aJR (sh t b).1 (sh t b).2=1:=by
 have h:=Int.gcd_mul_right (sh t b).1 (dv t b) (sh t b).2;rw [Et,zT,rB] at h;have g:=aJ1 t hb;have:1*aJR t b=aJR (sh t b).1 (sh t b).2*aJR t b:=by omega
 exact (Nat.eq_of_mul_eq_mul_right g this).symm
theorem PN {t b:Int}(hb:b≠0):jD (sh t b).1 (sh t b).2:=⟨Fi hb,Ep hb⟩
theorem Z1 {a b d:Int}(g:aJR a b=1)(h:b∣a*d):b∣d:=by
 have h1:=aLJ.mpr h;rw [Int.natAbs_mul] at h1;have h2:Nat.Coprime b.natAbs a.natAbs:=by
  show Nat.gcd b.natAbs a.natAbs=1;rw [Nat.gcd_comm];exact g
 exact aLJ.mp (h2.dvd_of_dvd_mul_left h1)
theorem unique {a b c d:Int}(p:jD a b)(q:jD c d)(e:a*d=c*b):a=c/\b=d:=by
 have pp:=p.pos;have qp:=q.pos;have h1:b∣d:=by
  have:b∣a*d:=⟨c,by rw [e,aKY]⟩
  exact Z1 p.red this
 have h2:d∣b:=by
  have:d∣c*b:=⟨a,by rw [<- e,aKY]⟩
  exact Z1 q.red this
 have hbd:b=d:=Int.dvd_antisymm (aJn pp) (aJn qp) h1 h2;subst hbd;exact ⟨aKF (by omega) e,rfl⟩
end Fr
namespace Tb
structure Rw where
 t:Int
 b:Int
 w:Int
def T (B:Int)(r:Rw):Int:=r.t*(B/r.b)
def mx (x:Int):Int:=if 0<x then x else 0
def S (B l0 l1:Int)(rs:List Rw):Int:=(rs.map fun r=>r.w*mx (T B r*l1-l0*B)).sum
def WT (B:Int)(rs:List Rw):Int:=(rs.map fun r=>r.w*T B r).sum
def W (rs:List Rw):Int:=(rs.map (·.w)).sum
structure CM (B:Int)(rs:List Rw):Prop where
 pos:0<B
 dv:∀ r∈rs,0<r.b/\r.b∣B
theorem gK (r:Rw)(rs:List Rw):W (r::rs)=r.w+W rs:=by simp [W]
theorem u0 (B:Int)(r:Rw)(rs:List Rw):WT B (r::rs)=r.w*T B r+WT B rs:=by simp [WT]
theorem vZ (B l0 l1:Int)(r:Rw)(rs:List Rw):S B l0 l1 (r::rs)=r.w*mx (T B r*l1-l0*B)+S B l0 l1 rs:=by simp [S]
theorem Cv (B l0 l1:Int)(xs ys:List Rw):S B l0 l1 (xs++ys)=S B l0 l1 xs+S B l0 l1 ys:=by simp [S]
theorem BL (xs ys:List Rw):W (xs++ys)=W xs+W ys:=by simp [W]
theorem Zh {B b:Int}(hb:0<b)(hB:0<B)(h:b∣B):∃ c,0<c/\B=b*c/\B/b=c:=by
 obtain ⟨c,e⟩:=h;have hc:0<c:=by
  rcases (by omega:0<c∨c<=0) with z | z
  ·exact z
  ·have:=aJQ (aJn hb) z;omega
 refine ⟨c,hc,e,?_⟩;rw [e,aKY,Int.mul_ediv_cancel _ (by omega)]
theorem Kd {B:Int}{r:Rw}(hb:0<r.b)(hB:0<B)(h:r.b∣B):T B r*r.b=r.t*B:=by
 obtain ⟨c,hc,e,q⟩:=Zh hb hB h;unfold T;rw [q,e]
 grind
theorem By {c x:Int}(hc:0<c):0<c*x↔0<x:=by
 constructor
 ·intro h;rcases (by omega:0<x∨x<=0) with z | z
  ·exact z
  ·have:=aJQ (aJn hc) z;omega
 ·intro h;exact aKh hc h
theorem Hs {B l0 l1:Int}{r:Rw}(hb:0<r.b)(hB:0<B)(h:r.b∣B):0<T B r*l1-l0*B↔l0*r.b<r.t*l1:=by
 obtain ⟨c,hc,e,q⟩:=Zh hb hB h;have e2:T B r*l1-l0*B=c*(r.t*l1-l0*r.b):=by
  unfold T;rw [q,e]
  grind
 rw [e2,By hc];omega
theorem U3 (x:Int):0<=mx x:=by unfold mx; split <;> omega
theorem SJ (x:Int):x<=mx x:=by unfold mx; split <;> omega
theorem ZQ {B l0 l1 ws tops:Int}(hw:0<ws)(hl:0<l1)(hc:l0*(ws*B)=tops*l1):∀ {hi:List Rw},(∀ r∈hi,tops<=T B r*ws)->ws*S B l0 l1 hi=l1*(ws*WT B hi-tops*W hi)
 | [],_=>by simp [S,WT,W]
 | r::hi,h=>by
  have ih:=ZQ hw hl hc (fun x hx=>h x (aI9 _ hx));have hr:=h r aJa;have e:ws*(T B r*l1-l0*B)=l1*(T B r*ws-tops):=by grind
  have m:mx (T B r*l1-l0*B)=T B r*l1-l0*B:=by
   unfold mx
   split
   ·rfl
   ·rename_i n;have h1:0<=l1*(T B r*ws-tops):=aKi (aJn hl) (by omega);rw [<- e] at h1;rcases (by omega:T B r*l1-l0*B=0∨T B r*l1-l0*B<0) with z | z
    ·omega
    ·have:=Int.mul_neg_of_pos_of_neg hw z;omega
  rw [vZ,u0,gK,m];have a1:ws*(r.w*(T B r*l1-l0*B)+S B l0 l1 hi)=r.w*(ws*(T B r*l1-l0*B))+ws*S B l0 l1 hi:=by grind
  rw [a1,e,ih]
  grind
theorem V3 {B l0 l1 ws tops:Int}(hw:0<ws)(hl:0<l1)(hc:l0*(ws*B)=tops*l1):∀ {lo:List Rw},(∀ r∈lo,T B r*ws<=tops)->S B l0 l1 lo=0
 | [],_=>by simp [S]
 | r::lo,h=>by
  have ih:=V3 hw hl hc (fun x hx=>h x (aI9 _ hx));have hr:=h r aJa;have e:ws*(T B r*l1-l0*B)=l1*(T B r*ws-tops):=by grind
  have m:mx (T B r*l1-l0*B)=0:=by
   unfold mx
   split
   ·rename_i n;have h1:=aKh hw n;have h2:l1*(T B r*ws-tops)<=0:=aJQ (aJn hl) (by omega);omega
   ·rfl
  rw [vZ,m,ih];simp
theorem Ik {B l0 l1 ws tops P:Int}{lo hi:List Rw}(hw:0<ws)(hl:0<l1)(hc:l0*(ws*B)=tops*l1)(ew:ws=W hi)(et:tops=WT B hi-P)(h1:∀ r∈hi,tops<=T B r*ws)(h2:∀ r∈lo,T B r*ws<=tops) :
  S B l0 l1 (lo++hi)=P*l1:=by
 have a:=ZQ hw hl hc h1;have b:=V3 hw hl hc h2;rw [Cv,b,aK6];have:ws*S B l0 l1 hi=ws*(P*l1):=by rw [a,<- ew]; grind
 exact aLd (by omega) this
theorem YL (B m0 m1:Int):∀ {hi:List Rw},(∀ r∈hi,0<=r.w)->m1*WT B hi-m0*B*W hi<=S B m0 m1 hi
 | [],_=>by simp [S,WT,W]
 | r::hi,h=>by
  have ih:=YL B m0 m1 (fun x hx=>h x (aI9 _ hx));have hr:=h r aJa;have g:=aJq (SJ (T B r*m1-m0*B)) hr;rw [vZ,u0,gK];have e:m1*(r.w*T B r+WT B hi)-m0*B*(r.w+W hi)=r.w*(T B r*m1-m0*B)+(m1*WT B hi-m0*B*W hi):=by grind
  rw [e];omega
theorem Ua (B m0 m1:Int):∀ {lo:List Rw},(∀ r∈lo,0<=r.w)->0<=S B m0 m1 lo
 | [],_=>by simp [S]
 | r::lo,h=>by
  have ih:=Ua B m0 m1 (fun x hx=>h x (aI9 _ hx));have g:=aKi (h r aJa) (U3 (T B r*m1-m0*B));rw [vZ];omega
theorem Ec {B l0 l1 m0 m1 ws tops P:Int}{lo hi:List Rw}(hB:0<B)(hw:0<ws)(hl:0<l1)(hc:l0*(ws*B)=tops*l1)(ew:ws=W hi)(et:tops=WT B hi-P)
  (hp:∀ r∈lo++hi,0<=r.w) (lt:m0*l1<l0*m1):P*m1<S B m0 m1 (lo++hi):=by
 have a:=YL B m0 m1 (hi:=hi) (fun r hr=>hp r (aJs _ hr));have b:=Ua B m0 m1 (lo:=lo) (fun r hr=>hp r (aJ3 _ hr));rw [Cv];have q:=Int.mul_lt_mul_of_pos_left lt (aKh hw hB);have e1:ws*B*(m0*l1)=l1*(m0*B*ws):=by grind
 have e2:ws*B*(l0*m1)=l1*(m1*tops):=by grind
 rw [e1,e2] at q;have q2:m0*B*ws<m1*tops:=Int.lt_of_mul_lt_mul_left q (aJn hl);have e3:m1*WT B hi-m0*B*W hi=m1*tops+P*m1-m0*B*ws:=by rw [<- ew]; grind
 omega
def Le (x y:Rw):Prop:=x.t*y.b<=y.t*x.b
theorem QW {B:Int}{x y:Rw}(hB:0<B)(hx:0<x.b)(hy:0<y.b)(dx:x.b∣B)(dy:y.b∣B)(h:Le x y):T B x<=T B y:=by
 have e1:=Kd hx hB dx;have e2:=Kd hy hB dy;have g:=aJq h (aJn hB);have k:(x.b*y.b)*T B x<=(x.b*y.b)*T B y:=by
  have a1:(x.b*y.b)*T B x=B*(x.t*y.b):=by grind
  have a2:(x.b*y.b)*T B y=B*(y.t*x.b):=by grind
  rw [a1,a2];exact g
 exact aLe k (aKh hx hy)
structure Lp (B P:Int)(rs:List Rw)(i:Nat)(tops ws:Int):Prop where
 le:i<=rs.length
 ew:ws=W (rs.drop (rs.length-i))
 et:tops=WT B (rs.drop (rs.length-i))-P
 hi:0<i->∀ r∈rs.drop (rs.length-i),tops<=T B r*ws
 z:P=0->i<=1
theorem Lp.start {B P:Int}{rs:List Rw}(e:0<=P):Lp B P rs 0 (-P) 0:=by
 refine ⟨aJD _,?_,?_,fun h=>absurd h (by omega),fun _=>by omega⟩
 ·simp [W]
 ·simp [WT]
structure Tab (B:Int)(rs:List Rw):Prop where
 cm:CM B rs
 w:∀ r∈rs,1<=r.w
 so:rs.Pairwise Le
theorem JD:∀ {rs:List Rw},(∀ r∈rs,1<=r.w)->rs≠[]->0<W rs
 | [],_,h=>absurd rfl h
 | [r],h,_=>by
  have:=h r aJa;simp [W];omega
 | r::s::rs,h,_=>by
  have:=h r aJa;have q:=JD (rs:=s::rs) (fun x hx=>h x (aI9 _ hx)) (by simp);rw [gK];omega
theorem xM {rs:List Rw}{i:Nat}(h:i<rs.length):∃ r,rs[rs.length-1-i]? = some r/\rs.drop (rs.length-(i+1))=r::rs.drop (rs.length-i)/\r∈rs:=by
 have hk:rs.length-1-i<rs.length:=by omega
 refine ⟨rs[rs.length-1-i],aI7 hk,?_,aKo hk⟩;have e1:rs.length-(i+1)=rs.length-1-i:=by omega
 have e2:rs.length-i=rs.length-1-i+1:=by omega
 rw [e1,e2];exact List.drop_eq_getElem_cons hk
theorem Tab.mono {B:Int}{rs:List Rw}(tb:Tab B rs){x y:Rw}(hx:x∈rs)(hy:y∈rs)(h:Le x y):T B x<=T B y :=
 QW tb.cm.pos (tb.cm.dv x hx).1 (tb.cm.dv y hy).1 (tb.cm.dv x hx).2 (tb.cm.dv y hy).2 h
theorem Lp.ws_pos {B P tops ws:Int}{rs:List Rw}{i:Nat}(tb:Tab B rs)(l:Lp B P rs i tops ws)(h:0<i):0<ws:=by
 rw [l.ew];have:=l.le;refine JD (fun r hr=>tb.w r (aKG hr)) ?_;intro e;have:=congrArg aKr e;simp at this;omega
theorem Lp.next {B P tops ws:Int}{rs:List Rw}{i:Nat}{r:Rw}(tb:Tab B rs)(hP:0<=P)(l:Lp B P rs i tops ws)(hi:i<rs.length)(hr:rs[rs.length-1-i]? = some r)(go:¬ (0<ws/\T B r*ws<=tops)) :
  Lp B P rs (i+1) (tops+r.w*T B r) (ws+r.w):=by
 obtain ⟨r',e1,e2,hm⟩:=xM hi;rw [hr] at e1;cases e1;have hw:=tb.w r hm;have last:tops<=T B r*ws:=by
  by_cases h0:0<i
  ·have:=l.ws_pos tb h0;omega
  ·have z:i=0:=by omega
   subst z;have a:=l.ew;have b:=l.et;simp [W] at a;simp [WT] at b;rw [a,b];omega
 have mine:tops+r.w*T B r<=T B r*(ws+r.w):=by
  have:T B r*(ws+r.w)=T B r*ws+r.w*T B r:=by grind
  omega
 have wp:0<ws+r.w:=by
  by_cases h0:0<i
  ·have:=l.ws_pos tb h0;omega
  ·have z:i=0:=by omega
   subst z;have a:=l.ew;simp [W] at a;omega
 refine ⟨hi,?_,?_,fun _ x hx=>?_,fun p0=>?_⟩
 ·rw [e2,gK,<- l.ew]; omega
 ·rw [e2,u0,l.et]; omega
 ·rw [e2] at hx;rcases aJx.mp hx with z | z
  ·subst z; exact mine
  ·have pw:(r::rs.drop (rs.length-i)).Pairwise Le:=by
    rw [<- e2];exact tb.so.sublist (aLZ _ _)
   have le:=(aKT.mp pw).1 x z;have tm:=tb.mono hm (aKG z) le;have:=aJo tm (aJn wp);omega
 ·have k:=l.z p0;rcases (by omega:i=0∨i=1) with z | z
  ·omega
  ·exfalso;subst z;apply go;have wp1:=l.ws_pos tb (by decide);refine ⟨wp1,?_⟩;obtain ⟨r2,f1,f2,fm⟩:=xM (rs:=rs) (i:=0) (by omega);have f3:rs.drop (rs.length-1)=[r2]:=by
    have:rs.drop (rs.length-0)=[]:=by simp
    rw [f2,this]
   have a:=l.ew;have b:=l.et;rw [f3] at a b;simp [W] at a;simp [WT] at b;have pw:(r::rs.drop (rs.length-1)).Pairwise Le:=by
    rw [<- e2];exact tb.so.sublist (aLZ _ _)
   have le:=(aKT.mp pw).1 r2 (by rw [f3]; exact aJa);have tm:=tb.mono hm fm le;have:=aJo tm (aJn wp1);rw [b,a] at *;have e:T B r2*r2.w=r2.w*T B r2:=aKY _ _;omega
structure Lv (B P l0 l1:Int)(rs:List Rw):Prop where
 pos:0<l1
 has:S B l0 l1 rs=P*l1
 more:∀ m0 m1:Int,m0*l1<l0*m1->P*m1<S B m0 m1 rs
theorem Lp.ends {B P tops ws l0 l1:Int}{rs:List Rw}{i:Nat}(tb:Tab B rs)(l:Lp B P rs i tops ws)(h0:0<i)(stop:i=rs.length∨∃ r,rs[rs.length-1-i]? = some r/\i<rs.length/\T B r*ws<=tops)
  (hl:0<l1) (hc:l0*(ws*B)=tops*l1):Lv B P l0 l1 rs:=by
 have wp:=l.ws_pos tb h0;have e:rs=rs.take (rs.length-i)++rs.drop (rs.length-i):=(aK1 _ _).symm;have lo:∀ r∈rs.take (rs.length-i),T B r*ws<=tops:=by
  rcases stop with z | ⟨r,hr,hi,ht⟩
  ·subst z;simp
  ·intro x hx;obtain ⟨j,hj,ex⟩:=aKH.mp hx;rw [aJz] at hj;rw [List.getElem_take] at ex;have hk:rs.length-1-i<rs.length:=by omega
   rw [aI7 hk] at hr;have er:=aJU.inj hr;have tm:T B x<=T B r:=by
    by_cases ej:j=rs.length-1-i
    ·subst ej;rw [<- ex,<- er];exact aJO _
    ·have le:=aKM.mp tb.so j (rs.length-1-i) (by omega) hk (by omega);rw [ex,er] at le;exact tb.mono (by rw [<- ex]; exact aKo _) (by rw [<- er]; exact aKo _) le
   have:=aJo tm (aJn wp);omega
 refine ⟨hl,?_,fun m0 m1 lt=>?_⟩
 ·rw [e];exact Ik wp hl hc l.ew l.et (l.hi h0) lo
 ·rw [e];exact Ec tb.cm.pos wp hl hc l.ew l.et (fun r hr=>by rw [<- e] at hr; have:=tb.w r hr; omega) lt
def Wt (ps:List Rw)(t b:Int):Int:=(ps.map fun r=>if r.t=t/\r.b=b then r.w else 0).sum
def uV (ps:List Rw)(t b:Int):Prop:=∃ p∈ps,p.t=t/\p.b=b
def Lt (x y:Rw):Prop:=x.t*y.b<y.t*x.b
structure Bq (ps ys:List Rw):Prop where
 lt:ys.Pairwise Lt
 fr:∀ y∈ys,Fr.jD y.t y.b
 has:∀ t b,uV ys t b↔uV ps t b
 d:∃ d,0<d/\∀ y∈ys,Wt ps y.t y.b=y.w*d
 one:∀ e:Int,(∀ y∈ys,e∣y.w)->e∣1
theorem RM (t b:Int):Wt [] t b=0:=rfl
theorem lF (r:Rw)(ps:List Rw)(t b:Int):Wt (r::ps) t b=(if r.t=t/\r.b=b then r.w else 0)+Wt ps t b:=by simp [Wt]
theorem xN (ps qs:List Rw)(t b:Int):Wt (ps++qs) t b=Wt ps t b+Wt qs t b:=by simp [Wt]
theorem lJ {ps qs:List Rw}{t b:Int}:uV (ps++qs) t b↔uV ps t b∨uV qs t b:=by
 constructor
 ·rintro ⟨p,hp,e⟩;rcases aJy.mp hp with z | z
  ·exact .inl ⟨p,z,e⟩
  ·exact .inr ⟨p,z,e⟩
 ·rintro (⟨p,hp,e⟩ | ⟨p,hp,e⟩)
  ·exact ⟨p,aJ3 _ hp,e⟩
  ·exact ⟨p,aJs _ hp,e⟩
theorem iV {r:Rw}{ps:List Rw}{t b:Int}:uV (r::ps) t b↔(r.t=t/\r.b=b)∨uV ps t b:=by
 constructor
 ·rintro ⟨p,hp,e⟩;rcases aJx.mp hp with z | z
  ·subst z; exact .inl e
  ·exact .inr ⟨p,z,e⟩
 ·rintro (e | ⟨p,hp,e⟩)
  ·exact ⟨r,aJa,e⟩
  ·exact ⟨p,aI9 _ hp,e⟩
theorem uZ {t b:Int}:¬ uV [] t b:=by rintro ⟨p,hp,_⟩; cases hp
theorem Gv:∀ {ps:List Rw}{t b:Int},¬ uV ps t b->Wt ps t b=0
 | [],_,_,_=>rfl
 | r::ps,t,b,h=>by
  rw [lF,if_neg fun e=>h (iV.mpr (.inl e)),Gv fun e=>h (iV.mpr (.inr e))]
  rfl
theorem Od:∀ {ps:List Rw} (t b:Int),(∀ r∈ps,1<=r.w)->0<=Wt ps t b
 | [],_,_,_=>aJO 0
 | r::ps,t,b,h=>by
  have:=Od t b fun x hx=>h x (aI9 _ hx);have hr:=h r aJa;rw [lF]
  split <;> omega
theorem Ah:∀ {ps:List Rw}{t b:Int},(∀ r∈ps,1<=r.w)->uV ps t b->1<=Wt ps t b
 | [],_,_,_,h=>absurd h uZ
 | r::ps,t,b,h,q=>by
  have hr:=h r aJa;have hn:=Od t b fun x hx=>h x (aI9 _ hx);rw [lF]
  split
  ·omega
  ·rename_i ne;rcases iV.mp q with z | z
   ·exact absurd z ne
   ·have:=Ah (fun x hx=>h x (aI9 _ hx)) z;omega
theorem PJ:∀ {ps:List Rw} (t b:Int),(∀ r∈ps,1<=r.w)->Wt ps t b<=W ps
 | [],_,_,_=>aJO 0
 | r::ps,t,b,h=>by
  have hr:=h r aJa;have:=PJ t b fun x hx=>h x (aI9 _ hx);rw [lF,gK]
  split <;> omega
theorem Jc {x y:Rw}(h:Lt x y)(e1:x.t=y.t)(e2:x.b=y.b):False:=by
 unfold Lt at h;rw [e1,e2] at h;omega
theorem MK {t b u c m:Int}(hb:0<b)(hc:0<c)(bm:b<=m)(cm:c<=m)(lt:t*c<u*b):(t*(m*m)).fdiv b<(u*(m*m)).fdiv c:=by
 have hm:0<m:=by omega
 rw [aJ6 _ (aJn hb),aJ6 _ (aJn hc)];have k1:(t*(m*m))/b*b<=t*(m*m):=Int.ediv_mul_le _ (aJL hb);have hbc:b*c<=m*m:=Int.mul_le_mul bm cm (aJn hc) (aJn hm);have h1:(t*c+1)*(m*m)<=u*b*(m*m):=aJo (by omega) (aJn (aKh hm hm))
 suffices h:(t*(m*m))/b+1<=(u*(m*m))/c by omega
 refine (Int.le_ediv_iff_mul_le hc).mpr ?_;have h2:b*(((t*(m*m))/b+1)*c)<=b*(u*(m*m)):=by
  have e1:b*(((t*(m*m))/b+1)*c)=c*((t*(m*m))/b*b)+b*c:=by grind
  have e2:b*(u*(m*m))=u*b*(m*m):=by grind
  have e3:(t*c+1)*(m*m)=c*(t*(m*m))+m*m:=by grind
  have h3:=aJq k1 (aJn hc);omega
 exact aLe h2 hb
def vP (ns:List Int):Int:=ns.foldl (fun d n=>((aJR d n:Nat):Int)) 0
theorem Ij (ns:List Int)(n:Int):vP (ns++[n])=((aJR (vP ns) n:Nat):Int):=by unfold vP; rw [aL0]; rfl
theorem vV:∀ (ns:List Int) (d:Int),(ns.foldl (fun d n=>((aJR d n:Nat):Int)) d∣d)/\(∀ n∈ns,ns.foldl (fun d n=>((aJR d n:Nat):Int)) d∣n)/\∀ e:Int,e∣d->(∀ n∈ns,e∣n)->e∣ns.foldl (fun d n=>((aJR d n:Nat):Int)) d
 | [],d=>⟨aK7 d,(fun _ h=>nomatch h),fun e h _=>h⟩
 | n::ns,d=>by
  obtain ⟨a,b,c⟩:=vV ns ((aJR d n:Nat):Int);refine ⟨aKP a (aLq d n),fun k hk=>?_,fun e he hn=>c e (Int.dvd_coe_gcd he (hn n aJa)) fun k hk=>hn k (aI9 _ hk)⟩;rcases aJx.mp hk with z | z
  ·subst z; exact aKP a (aLk d k)
  ·exact b k z
theorem vG {ns:List Int}{n:Int}(h:n∈ns):vP ns∣n:=(vV ns 0).2.1 n h
theorem El {ns:List Int}{e:Int}(h:∀ n∈ns,e∣n):e∣vP ns:=(vV ns 0).2.2 e (Int.dvd_zero e) h
theorem HY:∀ (ns:List Int) (d:Int),0<=d->0<=ns.foldl (fun d n=>((aJR d n:Nat):Int)) d
 | [],_,h=>h
 | n::ns,d,_=>HY ns _ (aLT _)
theorem Kh {ns:List Int}{n:Int}(h:n∈ns)(hn:1<=n):0<vP ns:=by
 have h0:0<=vP ns:=HY ns 0 (aJO 0);rcases (by omega:0<vP ns∨vP ns=0) with z | z
 ·exact z
 ·have:=vG h;rw [z] at this;have:=Int.zero_dvd.mp this;omega
end Tb
set_option maxHeartbeats 4000000
namespace TD
open PySem L2
open Builtin.Int (intBits)
structure Row where
 p:Addr
 q:Addr
 t:Int
 b:Int
 w:Int
def Row.r (x:Row):Tb.Rw:=⟨x.t,x.b,x.w⟩
def jB (H:Hp)(x:Row):Prop:=H x.p=some (.tup [.ref x.q,.int x.w])/\H x.q=some (.tup [.int x.t,.int x.b])
def refs (xs:List Row):List V:=xs.map fun x=>V.ref x.p
structure TabAt (H:Hp)(a:Addr)(xs:List Row):Prop where
 lst:H a=some (.lst (refs xs))
 rows:∀ x∈xs,jB H x
def dG (xs:List Row):List Tb.Rw:=xs.map Row.r
theorem jB.same {H H':Hp}{x:Row}(s:aN H H')(h:jB H x):jB H' x:=⟨s _ _ h.1,s _ _ h.2⟩
theorem TabAt.same {H H':Hp}{a:Addr}{xs:List Row}(s:aN H H')(h:TabAt H a xs):TabAt H' a xs:=⟨s _ _ h.lst,fun x hx=>(h.rows x hx).same s⟩
theorem refs_length (xs:List Row):(refs xs).length=xs.length:=aI8 _
theorem eG (xs:List Row):(dG xs).length=xs.length:=aI8 _
theorem nF {xs:List Row}{i:Nat}{v:V}(h:(refs xs)[i]? = some v):∃ x,xs[i]? = some x/\v=.ref x.p:=by
 unfold refs at h;rw [aJh] at h;cases e:xs[i]? with
 | none=>rw [e] at h; cases h
 | some x=>rw [e] at h; cases h; exact ⟨x,rfl,rfl⟩
theorem mZ (xs:List Row)(y:Row):refs (xs++[y])=refs xs++[V.ref y.p]:=by unfold refs; rw [aJj]; rfl
theorem jY (xs:List Row)(y:Row):dG (xs++[y])=dG xs++[y.r]:=by unfold dG; rw [aJj]; rfl
theorem Ef (xs ys:List Row):dG (xs++ys)=dG xs++dG ys:=by unfold dG; rw [aJj]
theorem take_snoc {α:Type}{xs:List α}{i:Nat}{x:α}(h:xs[i]? = some x):xs.take (i+1)=xs.take i++[x]:=by
 rw [aLi,h]
 rfl
theorem jB.over {H:Hp}{a:Addr}{xs zs:List V}{x:Row}(h:jB H x)(e:H a=some (.lst xs)):jB (aX H a (.lst zs)) x :=
 ⟨by rw [aK (bI h.1 e fun z=>nomatch z)]; exact h.1,by rw [aK (bI h.2 e fun z=>nomatch z)]; exact h.2⟩
theorem R4:1<=sizeLine:=aJH (aU (by decide))
theorem uL:2<=sizeLine:=aJH (aU (by decide))
theorem Yo:3<=sizeLine:=aJH (aU (by decide))
theorem gB {m n:Nat}{x y:Int}(hx:intBits x<=m)(hy:intBits y<=n)(h:m+n<=134217728):K5 x y:=aJc (Nat.add_le_add hx hy) h
theorem fD {K:PySem.W.Frag}(T:String):PySem.W.kitOne K (.type T) (.type T)=some true:=by
 unfold PySem.W.kitOne;rw [if_pos (beq_self_eq_true _)]
theorem zR {K:PySem.W.Frag}:PySem.W.kitOne K (.type "int") (.type "bool")=some false:=by rfl
structure Rs where
 q:Addr
 t:Int
 b:Int
def lO (rs:List Rs):List V:=rs.map fun r=>V.ref r.q
def Rj (x y:Rs):Prop:=x.t*y.b<y.t*x.b
def LeR (x y:Rs):Prop:=x.t*y.b<=y.t*x.b
def jT (r:Rs):List Key:=[.inl r.t,.inl r.b]
def R5 (H:Hp)(r:Rs):Prop:=H r.q=some (.tup [.int r.t,.int r.b])
theorem q8 (rs:List Rs):(lO rs).length=rs.length:=aI8 _
theorem Nj (rs:List Rs):lO rs=(rs.map (·.q)).map V.ref:=by unfold lO; rw [aJ0]; rfl
theorem DW {rs:List Rs}{i:Nat}{v:V}(h:(lO rs)[i]? = some v):∃ x,rs[i]? = some x/\v=.ref x.q:=by
 unfold lO at h;rw [aJh] at h;cases e:rs[i]? with
 | none=>rw [e] at h; cases h
 | some x=>rw [e] at h; cases h; exact ⟨x,rfl,rfl⟩
theorem u6 {x:Rs}{t b:Int}:jT x=[.inl t,.inl b]↔x.t=t/\x.b=b:=by
 unfold jT;constructor
 ·intro h;injection h with h1 h2
  injection h2 with h2 _
  injection h1 with h1
  injection h2 with h2
  exact ⟨h1,h2⟩
 ·rintro ⟨rfl,rfl⟩; rfl
theorem YF {x y:Rs}(fx:Fr.jD x.t x.b)(fy:Fr.jD y.t y.b)(h:LeR x y)(ne:jT x≠jT y):Rj x y:=by
 unfold LeR at h;unfold Rj;rcases (by omega:x.t*y.b<y.t*x.b∨x.t*y.b=y.t*x.b) with z | z
 ·exact z
 ·obtain ⟨e1,e2⟩:=Fr.unique fx fy z;exact absurd (u6.mpr ⟨e1,e2⟩) ne
structure Dk (ps:List Tb.Rw)(kvs:List (List Key×V)):Prop where
 nd:(kvs.map (·.1)).Nodup
 en:∀ kv∈kvs,∃ t b,kv=([.inl t,.inl b],.int (Tb.Wt ps t b))/\Tb.uV ps t b
 all:∀ t b,Tb.uV ps t b->([Sum.inl t,Sum.inl b]:List Key)∈kvs.map (·.1)
theorem Dk.nil:Dk [] []:=⟨aKX,(fun _ h=>nomatch h),fun t b h=>absurd h Tb.uZ⟩
theorem vK {kvs:List (List Key×V)}{k:List Key}{v:V}(h:lZ kvs k=some v):(k,v)∈kvs:=by
 unfold lZ at h;cases e:kvs.find? fun kv=>decide (kv.1=k) with
 | none=>rw [e] at h; cases h
 | some kv =>
  rw [e] at h;have h1:kv.2=v:=aJU.inj h;have h2:=List.find?_some e;have h3:kv.1=k:=of_decide_eq_true h2;rw [<- h1,<- h3];exact List.mem_of_find?_eq_some e
theorem Ft {t b t' b':Int}(h:([Sum.inl t,Sum.inl b]:List Key)=[.inl t',.inl b']):t=t'/\b=b':=by
 injection h with h1 h2
 injection h2 with h2 _
 injection h1 with h1
 injection h2 with h2
 exact ⟨h1,h2⟩
theorem Dk.val {ps:List Tb.Rw}{kvs:List (List Key×V)}(d:Dk ps kvs){t b:Int}(h:Tb.uV ps t b):lZ kvs [.inl t,.inl b]=some (.int (Tb.Wt ps t b)):=by
 cases e:lZ kvs [.inl t,.inl b] with
 | none=>exact absurd (d.all t b h) (KQ e)
 | some v =>
  obtain ⟨t',b',e2,_⟩:=d.en _ (vK e);injection e2 with e3 e4
  obtain ⟨rfl,rfl⟩:=Ft e3;rw [e4]
theorem Dk.get {ps:List Tb.Rw}{kvs:List (List Key×V)}(d:Dk ps kvs)(t b:Int):(lZ kvs [.inl t,.inl b]).getD (.int 0)=.int (Tb.Wt ps t b):=by
 by_cases h:Tb.uV ps t b
 ·rw [d.val h]; rfl
 ·cases e:lZ kvs [.inl t,.inl b] with
  | none=>rw [Tb.Gv h]; rfl
  | some v =>
   obtain ⟨t',b',e2,h2⟩:=d.en _ (vK e);injection e2 with e3 e4
   obtain ⟨rfl,rfl⟩:=Ft e3;exact absurd h2 h
theorem JW {kvs:List (List Key×V)}{k:List Key}{v:V}{kv:List Key×V}(h:kv∈putK kvs k v):kv=(k,v)∨(kv∈kvs/\kv.1≠k):=by
 unfold putK at h
 split at h
 ·obtain ⟨x,hx,e⟩:=aJe.mp h
  split at e
  ·rename_i ek
   left
   rw [<- e,ek]
  ·rename_i ek
   right
   rw [<- e];exact ⟨hx,ek⟩
 ·rename_i na;rcases aJy.mp h with z | z
  ·right
   refine ⟨z,fun ek=>na ?_⟩;exact aKu.mpr ⟨kv,z,decide_eq_true ek⟩
  ·exact .inl (by simpa using z)
theorem yP {kvs:List (List Key×V)}{k:List Key}{v:V}:(putK kvs k v).map (·.1)=if (kvs.any fun kv=>decide (kv.1=k))=true then kvs.map (·.1) else kvs.map (·.1)++[k]:=by
 unfold putK
 split
 ·rw [aJ0];refine aJS fun x _=>?_;show (if x.1=k then (x.1,v) else x).1=x.1
  split <;> rfl
 ·rw [aJj]; rfl
theorem Dk.put {ps:List Tb.Rw}{kvs:List (List Key×V)}(d:Dk ps kvs)(x:Tb.Rw):Dk (ps++[x]) (putK kvs [.inl x.t,.inl x.b] (.int (Tb.Wt ps x.t x.b+x.w))):=by
 have hx:∀ t b,Tb.Wt [x] t b=if x.t=t/\x.b=b then x.w else 0:=fun t b=>by rw [Tb.lF,Tb.RM,Int.add_zero]
 refine ⟨?_,fun kv hkv=>?_,fun t b h=>?_⟩
 ·rw [yP]
  split
  ·exact d.nd
  ·rename_i na;refine aKZ.mpr ⟨d.nd,aKl.mpr ⟨aKp,aKX⟩,fun y hy z hz=>?_⟩;rw [aJk.mp hz];rintro rfl;obtain ⟨kv,hkv,e⟩:=aJe.mp hy;exact na (aKu.mpr ⟨kv,hkv,decide_eq_true e⟩)
 ·rcases JW hkv with z | ⟨z,ne⟩
  ·refine ⟨x.t,x.b,?_,Tb.lJ.mpr (.inr ⟨x,aJa,rfl,rfl⟩)⟩;rw [z,Tb.xN,hx,if_pos ⟨rfl,rfl⟩]
  ·obtain ⟨t,b,e,h⟩:=d.en kv z;refine ⟨t,b,?_,Tb.lJ.mpr (.inl h)⟩;rw [Tb.xN,hx,if_neg ?_,Int.add_zero]
   ·exact e
   ·rintro ⟨rfl,rfl⟩;exact ne (by rw [e])
 ·rw [yP];have key:([Sum.inl t,Sum.inl b]:List Key)∈kvs.map (·.1)∨([Sum.inl t,Sum.inl b]:List Key)=[.inl x.t,.inl x.b]:=by
   rcases Tb.lJ.mp h with z | ⟨p,hp,e1,e2⟩
   ·exact .inl (d.all t b z)
   ·right
    rw [aJk.mp hp] at e1 e2;rw [e1,e2]
  split
  ·rename_i ya;rcases key with z | z
   ·exact z
   ·obtain ⟨kv,hkv,e⟩:=aKu.mp ya;rw [z,<- of_decide_eq_true e];exact aJe.mpr ⟨kv,hkv,rfl⟩
  ·rcases key with z | z
   ·exact aJ3 _ z
   ·rw [z]; exact aJs _ (.head _)
def wOf (kv:List Key×V):Int:=match kv.2 with | .int w=>w | _=>0
def iH (kvs:List (List Key×V)):Int:=Tb.vP (kvs.map wOf)
theorem Dk.wOf {ps:List Tb.Rw}{kvs:List (List Key×V)}(d:Dk ps kvs){t b:Int}(h:Tb.uV ps t b):Tb.Wt ps t b∈kvs.map TD.wOf:=by
 have m:=vK (d.val h);exact aJe.mpr ⟨_,m,rfl⟩
theorem Dk.ne {ps:List Tb.Rw}{kvs:List (List Key×V)}(d:Dk ps kvs)(h:ps≠[]):kvs≠[]:=by
 cases ps with
 | nil=>exact absurd rfl h
 | cons p ps =>
  intro e;have:=d.all p.t p.b (Tb.iV.mpr (.inl ⟨rfl,rfl⟩));rw [e] at this;cases this
theorem Dk.div_pos {ps:List Tb.Rw}{kvs:List (List Key×V)}(d:Dk ps kvs)(h:ps≠[])(hw:∀ p∈ps,1<=p.w):0<iH kvs:=by
 cases ps with
 | nil=>exact absurd rfl h
 | cons p ps =>
  have hp:Tb.uV (p::ps) p.t p.b:=Tb.iV.mpr (.inl ⟨rfl,rfl⟩);exact Tb.Kh (d.wOf hp) (Tb.Ah hw hp)
theorem O9 {w d:Int}(hd:0<d)(hw:1<=w)(h:d∣w):w=w.fdiv d*d/\1<=w.fdiv d/\w.fdiv d<=w:=by
 obtain ⟨c,e⟩:=h;have ec:w.fdiv d=c:=by
  have h:=aKQ (a:=d) c (aJL hd);rw [<- e] at h;exact h
 rw [ec];have cp:0<c:=by
  rcases (by omega:0<c∨c<=0) with z | z
  ·exact z
  ·have:=aJQ (aJn hd) z;omega
 have:=aJo (show (1:Int)<=d by omega) (aJn cp);refine ⟨by rw [e,aKY],by omega,by omega⟩
theorem Qu {ps:List Tb.Rw}{kvs:List (List Key×V)}{rs:List Rs}{ys:List Row}(d:Dk ps kvs)(hw:∀ p∈ps,1<=p.w)(hf:∀ p∈ps,Fr.jD p.t p.b)(hne:ps≠[])(pr:(rs.map jT).Perm (kvs.map (·.1)))(so:rs.Pairwise Rj)
  (ey:ys.map (fun y=>Rs.mk y.q y.t y.b)=rs) (yw:∀ y∈ys,y.w=(Tb.Wt ps y.t y.b).fdiv (iH kvs)):Tb.Bq ps (dG ys)/\∀ y∈ys,1<=y.w/\y.w<=Tb.Wt ps y.t y.b:=by
 have dp:=d.div_pos hne hw;have yk:∀ y∈ys,Tb.uV ps y.t y.b:=fun y hy=>by
  have h1:jT (Rs.mk y.q y.t y.b)∈rs.map jT:=by
   rw [<- ey];exact aJe.mpr ⟨_,aJe.mpr ⟨y,hy,rfl⟩,rfl⟩
  obtain ⟨kv,hkv,e⟩:=aJe.mp (pr.mem_iff.mp h1);obtain ⟨t,b,e2,h⟩:=d.en kv hkv;rw [e2] at e;obtain ⟨e3,e4⟩:=u6.mp e.symm;have e3:y.t=t:=e3;have e4:y.b=b:=e4;rw [e3,e4];exact h
 have pb:∀ y∈ys,Tb.Wt ps y.t y.b=y.w*iH kvs/\1<=y.w/\y.w<=Tb.Wt ps y.t y.b:=fun y hy=>by
  rw [yw y hy];exact O9 dp (Tb.Ah hw (yk y hy)) (Tb.vG (d.wOf (yk y hy)))
 have back:∀ t b,Tb.uV ps t b->∃ y∈ys,y.t=t/\y.b=b:=fun t b h=>by
  obtain ⟨r,hr,e⟩:=aJe.mp (pr.mem_iff.mpr (d.all t b h));rw [<- ey] at hr;obtain ⟨y,hy,rfl⟩:=aJe.mp hr;exact ⟨y,hy,u6.mp e⟩
 refine ⟨⟨?_,fun y hy=>?_,fun t b=>?_,⟨iH kvs,dp,fun y hy=>?_⟩,fun e he=>?_⟩,fun y hy=>(pb y hy).2⟩
 ·have h:(ys.map fun y=>Rs.mk y.q y.t y.b).Pairwise Rj:=by rw [ey]; exact so
  unfold dG;rw [aKs] at h ⊢;exact h
 ·obtain ⟨z,hz,rfl⟩:=aJe.mp hy;obtain ⟨p,hp,e1,e2⟩:=yk z hz;have:=hf p hp;rw [e1,e2] at this;exact this
 ·constructor
  ·rintro ⟨y,hy,rfl,rfl⟩;obtain ⟨z,hz,rfl⟩:=aJe.mp hy;exact yk z hz
  ·intro h;obtain ⟨y,hy,e1,e2⟩:=back t b h;exact ⟨y.r,aJe.mpr ⟨y,hy,rfl⟩,e1,e2⟩
 ·obtain ⟨z,hz,rfl⟩:=aJe.mp hy;exact (pb z hz).1
 ·have g:e*iH kvs∣iH kvs:=by
   refine Tb.El fun n hn=>?_;obtain ⟨kv,hkv,rfl⟩:=aJe.mp hn;obtain ⟨t,b,e2,h⟩:=d.en kv hkv;obtain ⟨y,hy,rfl,rfl⟩:=back t b h;have q:=(pb y hy).1;have q2:=he y.r (aJe.mpr ⟨y,hy,rfl⟩);rw [e2];show e*iH kvs∣Tb.Wt ps y.t y.b;rw [q];exact Int.mul_dvd_mul_right _ q2
  have g2:e*iH kvs∣1*iH kvs:=by rw [aLl]; exact g
  exact Int.dvd_of_mul_dvd_mul_right (aJL dp) g2
theorem Ig {α β:Type}{f:α->β}:∀ {x m:List β},x.Perm m->∀ l:List α,x=l.map f->∃ l':List α,l'.Perm l/\m=l'.map f:=by
 intro x m h
 induction h with
 | nil=>intro l e; exact ⟨l,.refl _,e⟩
 | cons a p ih =>
  intro l e;cases l with
  | nil=>cases e
  | cons b l =>
   injection e with e1 e2
   obtain ⟨l',p',e'⟩:=ih l e2;exact ⟨b::l',p'.cons b,by rw [aJi,<- e1,<- e']⟩
 | swap a b t =>
  intro l e
  match l,e with
  | c::d::l,e =>
   injection e with e1 e2
   injection e2 with e2 e3
   exact ⟨d::c::l,.swap ..,by rw [aJi,aJi,<- e1,<- e2,<- e3]⟩
 | trans p q ih1 ih2 =>
  intro l e;obtain ⟨l1,p1,e1⟩:=ih1 l e;obtain ⟨l2,p2,e2⟩:=ih2 l1 e1;exact ⟨l2,p2.trans p1,e2⟩
def J3 (m:Int)(r:Rs):Int:=(r.t*(m*m)).fdiv r.b
theorem CG {β:Type}(f:Rs->β)(g:Rs->Addr):∀ rs:List Rs,(rs.map f).zip (rs.map g)=rs.map fun r=>(f r,g r)
 | []=>rfl
 | r::rs=>by simp [CG f g rs]
theorem Nu {m:Int}{rs:List Rs}{ps:List (Int×Addr)}(hp:ps.Perm ((rs.map (J3 m)).zip (rs.map (·.q))))(hs:ps.Pairwise fun p q=>p.1<=q.1)(nd:(rs.map jT).Nodup)(fr:∀ r∈rs,Fr.jD r.t r.b)(hm:∀ r∈rs,r.b<=m) :
  ∃ rs':List Rs,rs'.Perm rs/\ps.map (fun p=>V.ref p.2)=lO rs'/\rs'.Pairwise Rj:=by
 rw [CG] at hp;obtain ⟨rs',p',e⟩:=Ig hp.symm rs rfl;refine ⟨rs',p',?_,?_⟩
 ·rw [e,aJ0]; rfl
 ·have nd':(rs'.map jT).Nodup:=(p'.map jT).nodup_iff.mpr nd;rw [e,aKs] at hs;have nd2:rs'.Pairwise fun x y=>jT x≠jT y:=aKs.mp nd';refine (hs.and nd2).imp_of_mem fun {x y} hx hy h=>?_;have fx:=fr x (p'.mem_iff.mp hx);have fy:=fr y (p'.mem_iff.mp hy);refine YF fx fy ?_ h.2;unfold LeR;rcases (by omega:x.t*y.b<=y.t*x.b∨y.t*x.b<x.t*y.b) with z | z
  ·exact z
  ·have:=Tb.MK fy.pos fx.pos (hm y (p'.mem_iff.mp hy)) (hm x (p'.mem_iff.mp hx)) z;have h1:J3 m x<=J3 m y:=h.1;unfold J3 at h1;omega
def dB (m n:Int):Int:=m*(n.fdiv ((aJR m n:Nat):Int))
def c7 (ns:List Int):Int:=ns.foldl dB 1
theorem En {m n:Int}(hm:0<m)(hn:0<n):0<dB m n/\m∣dB m n/\n∣dB m n:=by
 have hg:0<((aJR m n:Nat):Int):=by have:=aJ1 m (aJL hn); omega
 obtain ⟨c,hc⟩:=aLk m n;obtain ⟨d,hd⟩:=aLq m n;have e:n.fdiv ((aJR m n:Nat):Int)=c:=by
  have h:=aKQ (a:=((aJR m n:Nat):Int)) c (by omega);rw [<- hc] at h;exact h
 have cp:0<c:=by
  rcases (by omega:0<c∨c<=0) with z | z
  ·exact z
  ·have:=aJQ (aJn hg) z;omega
 unfold dB;rw [e];refine ⟨aKh hm cp,⟨c,rfl⟩,⟨d,?_⟩⟩;generalize ((aJR m n:Nat):Int)=g at *;rw [hc,hd]
 grind
theorem Br:∀ (ns:List Int) (m:Int),0<m->(∀ n∈ns,0<n)->0<ns.foldl dB m/\m∣ns.foldl dB m/\∀ n∈ns,n∣ns.foldl dB m
 | [],m,hm,_=>⟨hm,aK7 m,fun _ h=>nomatch h⟩
 | n::ns,m,hm,h=>by
  obtain ⟨a,b,c⟩:=En hm (h n aJa);obtain ⟨x,y,z⟩:=Br ns (dB m n) a fun k hk=>h k (aI9 _ hk);refine ⟨x,aKP b y,fun k hk=>?_⟩;rcases aJx.mp hk with e | e
  ·subst e; exact aKP c y
  ·exact z k e
theorem Gi {ns:List Int}(h:∀ n∈ns,0<n):0<c7 ns/\∀ n∈ns,n∣c7 ns:=by
 obtain ⟨a,_,c⟩:=Br ns 1 (by decide) h;exact ⟨a,c⟩
theorem Cz:∀ (ns:List Int) (m:Int) (k:Nat),intBits m<=k->intBits (ns.foldl dB m)<=k+(ns.map intBits).sum
 | [],m,k,h=>by simpa using h
 | n::ns,m,k,h=>by
  have h1:intBits (dB m n)<=k+intBits n:=PySem.intBits_mul_le h (PySem.intBits_fdiv_le (aJd _));have:=Cz ns (dB m n) _ h1;simp only [aJi,aJu];show intBits (ns.foldl dB (dB m n))<=_;omega
theorem yH (ns:List Int):intBits (c7 ns)<=1+(ns.map intBits).sum:=Cz ns 1 1 (by decide)
theorem Ib (ns:List Int)(n:Int):c7 (ns++[n])=dB (c7 ns) n:=by unfold c7; rw [aL0]; rfl
theorem Be (ns:List Int)(i:Nat):((ns.take i).map intBits).sum<=(ns.map intBits).sum:=by
 have e:ns.map intBits=(ns.take i).map intBits++(ns.drop i).map intBits:=by rw [<- aJj,aK1]
 rw [e,aLF];omega
theorem o8 {k:Nat}:∀ {l:List Nat},(∀ n∈l,n<=k)->l.sum<=k*l.length
 | [],_=>by simp
 | n::l,h=>by
  have a:=o8 (l:=l) fun m hm=>h m (aI9 _ hm);have b:=h n aJa;simp only [aJu,aJJ];rw [aL6,Nat.mul_one];omega
def Nm:Sp:=fun vs H Q _=>∃ a b:Int,vs=[.int a,.int b]/\Q (.int ((aJR a b:Nat):Int)) H
def zQ:Sp:=fun vs H Q _=>∃ t b:Int,vs=[.int t,.int b]/\b≠0/\intBits b<=9000/\∀ p H',aN H H'->H' p=some (.tup [.int (Fr.sh t b).1,.int (Fr.sh t b).2])->Q (.ref p) H'
structure Sz (a b c d:Int):Prop where
 a:intBits a<=10000
 b:intBits b<=10000
 c:intBits c<=10000
 d:intBits d<=10000
def uU (K:PySem.W.Frag):Sp:=fun vs H Q _=>∃ p q a b c d,vs=[.ref p,.ref q]/\cV K H p [.int a,.int b]/\cV K H q [.int c,.int d]/\Sz a b c d/\Q (.bl (decide (a*d<c*b))) H
def QD (K:PySem.W.Frag):Sp:=fun vs H Q _=>∃ (a:Addr) (ns:List Int),vs=[.ref a]/\bG K H a (ns.map V.int)/\(∀ n∈ns,0<n)/\(∀ n∈ns,intBits n<=9000)/\(ns.map intBits).sum<=200000/\Q (.int (c7 ns)) H
def wsum (xs:List Row):Int:=(xs.map Row.w).sum
def RL:Sp:=fun vs H Q _=>∃ (a:Addr) (xs:List Row),vs=[.ref a]/\TabAt H a xs/\xs.length<=1000/\∀ H',aN H H'->Q (.int (wsum xs)) H'
def fO:Str:=("rising" : Str)++".<locals>."++"<lambda>"
def Jf (K:PySem.W.Frag)(P:Addr)(lp:Pos):Sp:=fun vs H Q _=>∃ (a:Addr) (rs:List Rs),vs=[.ref a]/\bG K H a (lO rs)/\rs≠[]/\rs.length<64/\(∀ r∈rs,R5 H r/\Fr.jD r.t r.b/\intBits r.t<=4000/\intBits r.b<=4000)/\(rs.map jT).Nodup/\cX P lp fO H ∧
 ∀ (D:Addr) (H':Hp) (rs':List Rs),bH P H H'->cX P lp fO H'->H' D=some (.lst (lO rs'))->rs'.Perm rs->rs'.Pairwise Rj->Q (.ref D) H'
def CP:Int:=2^4000
def PB (xs:List Row):Prop:=∀ x∈xs,Fr.jD x.t x.b/\intBits x.t<=4000/\intBits x.b<=4000/\1<=x.w/\x.w<=CP
structure Out (ps:List Tb.Rw)(ys:List Row):Prop where
 tab:Tb.Bq ps (dG ys)
 w:∀ y∈ys,1<=y.w/\y.w<=Tb.Wt ps y.t y.b
def Eo (P:Addr)(lp:Pos):Sp:=fun vs H Q _=>∃ (a:Addr) (xs:List Row),vs=[.ref a]/\TabAt H a xs/\xs≠[]/\xs.length<64/\PB xs/\cX P lp fO H ∧
 ∀ (r:Addr) (H':Hp) (ys:List Row),bH P H H'->cX P lp fO H'->H r=none->TabAt H' r ys->Out (dG xs) ys->ys.length<=xs.length->Q (.ref r) H'
theorem PB.ps {xs:List Row}(h:PB xs):(∀ p∈dG xs,1<=p.w)/\∀ p∈dG xs,Fr.jD p.t p.b:=by
 refine ⟨fun p hp=>?_,fun p hp=>?_⟩ <;>
 ·obtain ⟨x,hx,rfl⟩:=aJe.mp hp
  first | exact (h x hx).2.2.2.1 | exact (h x hx).1
theorem sE (xs:List Row):wsum xs=Tb.W (dG xs):=by
 unfold wsum Tb.W dG;rw [aJ0]
 rfl
theorem Xa {m:Int}(hm:0<=m):∀ {ps:List Tb.Rw},(∀ p∈ps,1<=p.w/\p.w<=m)->0<=Tb.W ps/\Tb.W ps<=m*(ps.length:Int)
 | [],_=>by simp [Tb.W]
 | p::ps,h=>by
  obtain ⟨a,b⟩:=Xa hm (ps:=ps) fun y hy=>h y (aI9 _ hy);obtain ⟨c,d⟩:=h p aJa;have f:m*((p::ps).length:Int)=m+m*(ps.length:Int):=by rw [aJJ]; grind
  rw [Tb.gK];omega
theorem Out.key {ps:List Tb.Rw}{ys:List Row}(o:Out ps ys){y:Row}(hy:y∈ys):∃ p∈ps,p.t=y.t/\p.b=y.b:=(o.tab.has y.t y.b).mp ⟨y.r,aJe.mpr ⟨y,hy,rfl⟩,rfl,rfl⟩
theorem Out.ne {ps:List Tb.Rw}{ys:List Row}(o:Out ps ys)(h:ps≠[]):ys≠[]:=by
 rintro rfl;cases ps with
 | nil=>exact h rfl
 | cons p ps=>exact Tb.uZ ((o.tab.has p.t p.b).mpr (Tb.iV.mpr (.inl ⟨rfl,rfl⟩)))
theorem KZ {ps:List Tb.Rw}{kvs:List (List Key×V)}(d:Dk ps kvs)(hne:ps≠[])(hw:∀ p∈ps,1<=p.w/\p.w<=CP)(hl:ps.length<=1000):intBits (iH kvs)<=9000:=by
 have dp:=d.div_pos hne fun p hp=>(hw p hp).1;cases ps with
 | nil=>exact absurd rfl hne
 | cons p ps =>
  have hp:Tb.uV (p::ps) p.t p.b:=Tb.iV.mpr (.inl ⟨rfl,rfl⟩);have w1:=Tb.Ah (fun p hp=>(hw p hp).1) hp;have w2:=Tb.PJ p.t p.b (ps:=p::ps) fun p hp=>(hw p hp).1;have w3:=(Xa (by decide) hw).2;have dv:=aK3 (by omega) (Tb.vG (d.wOf hp));have dv:iH kvs<=Tb.Wt (p::ps) p.t p.b:=dv;refine PySem.intBits_le_iff.mpr ?_;have e:CP*(((p::ps).length:Nat):Int)<=CP*1000:=aJq (by omega) (by decide);have e2:CP*1000<((2^9000:Nat):Int):=by decide +kernel
  omega
end TD
namespace Sd
structure Fq (t b N k:Int):Prop where
 fr:Fr.jD t b
 dv:b∣N
 lo:-(k*b)<=t
 hi:t<=k*b
theorem qJ {a b c:Int}(h:a<=b)(hc:0<=c):a*c<=b*c:=aJo h hc
theorem Fq.mono {t b N k N' k':Int}(f:Fq t b N k)(h:N∣N')(hk:k<=k'):Fq t b N' k':=by
 have p:=aJn f.fr.pos;have e:=qJ hk p;exact ⟨f.fr,aKP f.dv h,by have:=f.lo; omega,by have:=f.hi; omega⟩
theorem Q9 {t b u N:Int}(hb:0<b)(e:t*N=u*b):(Fr.sh t b).2∣N:=by
 have hn:b≠0:=aJL hb;have cr:=Fr.qL t b;refine Fr.Z1 (a:=(Fr.sh t b).1) (Fr.Ep hn) ⟨u,?_⟩;have h:(Fr.sh t b).1*N*b=(Fr.sh t b).2*u*b:=by
  have h1:(Fr.sh t b).1*N*b=((Fr.sh t b).1*b)*N:=by grind
  have h2:(Fr.sh t b).2*u*b=(Fr.sh t b).2*(u*b):=by grind
  rw [h1,h2,cr,<- e]
  grind
 exact aKF hn h
theorem VB {t b u N k:Int}(hb:0<b)(e:t*N=u*b)(lo:-(k*b)<=t)(hi:t<=k*b):Fq (Fr.sh t b).1 (Fr.sh t b).2 N k:=by
 have hn:b≠0:=aJL hb;have cr:=Fr.qL t b;have yp:=aJn (Fr.Fi (t:=t) hn);refine ⟨Fr.PN hn,Q9 hb e,?_,?_⟩
 ·have h:=qJ lo yp;rw [<- cr] at h;refine aLc (a:=b) ?_ hb;have:-(k*(Fr.sh t b).2)*b = -(k*b)*(Fr.sh t b).2:=by grind
  rw [this];exact h
 ·have h:=qJ hi yp;rw [<- cr] at h;refine aLc (a:=b) ?_ hb;have:k*(Fr.sh t b).2*b=k*b*(Fr.sh t b).2:=by grind
  rw [this];exact h
abbrev FQ (x:Int×Int)(N k:Int):Prop:=Fq x.1 x.2 N k
inductive Sd where
 | en (v:Int)
 | st (p:Int) (rs:List (Int×Sd))
inductive Ok:Sd->Nat->Nat->Prop
 | en {v:Int}{d m:Nat} (h0:0<=v) (h9:v<=1000000000) (hm:1<=m):Ok (.en v) d m
 | st {p:Int}{rs:List (Int×Sd)}{d m:Nat}{f:Int×Sd->Nat} (h0:0<=p) (h9:p<=1000000000) (ne:rs≠[]) (l4:rs.length<=4) (w:∀ r∈rs,1<=r.1/\r.1<=1000) (sub:∀ r∈rs,Ok r.2 d (f r)) (hk:(rs.map f).sum<=m):Ok (.st p rs) (d+1) m
def gZ (rs:List (Int×Sd)):Int:=(rs.map (·.1)).sum
def fH:List Int->Int
 | []=>1
 | n::ns=>n*fH ns
theorem nH:∀ {l:List Int},(∀ n∈l,0<n)->0<fH l
 | [],_=>by decide
 | n::l,h=>aKh (h n aJa) (nH fun m hm=>h m (aI9 _ hm))
theorem rF:∀ {l:List Int}{n:Int},n∈l->n∣fH l
 | m::l,n,h=>by
  rcases aJx.mp h with e | e
  ·subst e; exact ⟨_,rfl⟩
  ·exact aKP (rF e) ⟨m,by show m*fH l=fH l*m; grind⟩
theorem cI (n:Nat):(0:Int)<2^n:=Int.pow_pos (by decide)
theorem Dq {e:Nat}:∀ {l:List Int},(∀ n∈l,0<n/\n<=2^e)->fH l<=2^(l.length*e)
 | [],_=>by simp [fH]
 | n::l,h=>by
  have ih:=Dq (l:=l) fun m hm=>h m (aI9 _ hm);have hn:=h n aJa;have pp:=nH (l:=l) fun m hm=>(h m (aI9 _ hm)).1;show n*fH l<=_;rw [aJJ,aLy,aLW,aKI];exact aJF (aJo hn.2 (aJn pp)) (aJq ih (aJn (cI e)))
theorem Pj:∀ {rs:List (Int×Sd)},(∀ r∈rs,1<=r.1/\r.1<=1000)->(rs.length:Int)<=gZ rs/\gZ rs<=1000*(rs.length:Int)
 | [],_=>by decide
 | r::rs,h=>by
  have ih:=Pj (rs:=rs) fun x hx=>h x (aI9 _ hx);have hr:=h r aJa;have e:gZ (r::rs)=r.1+gZ rs:=by unfold gZ; rw [aJi,aJu]
  rw [e,aJJ]
  push_cast
  omega
theorem eU {a b:Nat}(h:a<=b):(2:Int)^a<=2^b:=by
 obtain ⟨c,rfl⟩:=Nat.exists_eq_add_of_le h;rw [aKI];have h1:(1:Int)<=2^c:=by have:=cI c; omega
 have:=aJq h1 (aJn (cI a));omega
theorem Qk {rs:List (Int×Sd)}(ne:rs≠[])(w:∀ r∈rs,1<=r.1/\r.1<=1000)(l4:rs.length<=4):1<=gZ rs/\gZ rs<=4000:=by
 have:=Pj w;have:0<rs.length:=aKO.mpr ne;omega
theorem Ok.m1 {s:Sd}{d m:Nat}(ok:Ok s d m):1<=m:=by
 induction ok with
 | en _ _ h=>exact h
 | @st p rs d m k h0 h9 ne l4 w sub hk ih =>
  cases rs with
  | nil=>exact absurd rfl ne
  | cons r rs =>
   have h1:=ih r aJa;rw [aJi,aJu] at hk;omega
theorem Ng {α:Type}{f:α->Nat}{m:Nat}:∀ {l:List α},(l.map f).sum<=m->∀ x∈l,f x<=m
 | y::l,h,x,hx=>by
  rw [aJi,aJu] at h;rcases aJx.mp hx with e | e
  ·subst e; omega
  ·exact Ng (l:=l) (by omega) x e
def kB:Nat->Int
 | 0=>2147483648
 | d+1=>1000000000+4*kB d
theorem fr1 (v:Int):Fr.jD v 1:=⟨by decide,by simp⟩
end Sd
namespace L2
open PySem PySem.Spec PyProof.Rows
theorem range_all (bs:List Bool):(aKk bs.length).all (fun i=>bs.getD i false)=bs.all id:=by
 rw [aJY];simp only [aJN,aJV];constructor
 ·intro h b hb;obtain ⟨i,hi,e⟩:=aKH.mp hb;have q:=h i hi;rw [getD_at hi,e] at q;exact q
 ·intro h i hi;rw [getD_at hi];exact h _ (aKo hi)
theorem range_any (bs:List Bool):(aKk bs.length).any (fun i=>bs.getD i false)=bs.any id:=by
 rw [aJY];simp only [aKu,aJV];constructor
 ·rintro ⟨i,hi,h⟩;rw [getD_at hi] at h;exact ⟨_,aKo hi,h⟩
 ·rintro ⟨b,hb,h⟩;obtain ⟨i,hi,e⟩:=aKH.mp hb;refine ⟨i,hi,?_⟩;rw [getD_at hi,e];exact h
section
variable {X:Cx}{K:PySem.W.Frag}
theorem K7 {us:List Value}{bs:List Bool}(h:bK (bs.map V.bl) us){i:Nat}{v:Value}(e:us[i]? = some v):v=.bool (bs.getD i false):=by
 have hl:=h.length;rw [aI8] at hl;have hi:i<us.length:=(aJl.mp e).1;have e2:(bs.map V.bl)[i]? = some (.bl (bs.getD i false)):=by
  rw [aJh,aI7 (by omega),getD_at (by omega)]
  rfl
 obtain ⟨u,hu,r⟩:=h.get e2;rw [e] at hu;cases hu;exact r
theorem j7 (hK:X.K=K)(hc:X.calm=true):eZ X (.builtin "all") (fun xs H Q=>∃ (a:Addr) (bs:List Bool),xs=[.ref a]/\bG K H a (bs.map V.bl)/\Q (.bl (bs.all id)) H):=by
 subst hK;intro pins s σ H xs us Q I r h;obtain ⟨a,bs,rfl,hS,q⟩:=h;obtain ⟨u,rfl,ru⟩:=vals1 r;cases (show u=Value.ref a from ru);obtain ⟨its,rv,pl,hz⟩:=I.list hS;have lt:a<s.heap.objs.size:=by obtain ⟨o,e,_⟩:=pl.isList; exact aJm e
 have hl:=rv.length;rw [aI8] at hl;refine call_all_walk (wpAny_pyIter_list pl.isList ⟨s.heap.objs.size,_,_,_,_,_,fun i=>bs.getD i false,rfl,Walks.list (A:=X.A.in1) (I.ok.hd hc) s.heap.objs.size a (aJB lt) its.toArray,⟨⟨_,aJr _ rfl,rfl,rfl⟩,pl.isList.push _⟩,?_,fun h' tk hk=>?_⟩)
 ·intro i v s' Q' E' hv hQ;have e:=K7 rv (i:=i) (v:=v) (by simpa using hv);rw [e];exact wpAny_truthy_bool hQ
 ·refine ⟨.bl (bs.all id),H,I.kept (t':=tk) fun b o e=>hk b o (fun z=>?_) (aJb _ e),?_,q⟩
  ·rw [aJk.mp z] at e;exact absurd (aJm e) (aKg _)
  ·show Value.bool _=Value.bool _;rw [aJf,<- hl,range_all]
theorem Ht (hK:X.K=K)(hc:X.calm=true):eZ X (.builtin "any") (fun xs H Q=>∃ (a:Addr) (bs:List Bool),xs=[.ref a]/\bG K H a (bs.map V.bl)/\Q (.bl (bs.any id)) H):=by
 subst hK;intro pins s σ H xs us Q I r h;obtain ⟨a,bs,rfl,hS,q⟩:=h;obtain ⟨u,rfl,ru⟩:=vals1 r;cases (show u=Value.ref a from ru);obtain ⟨its,rv,pl,hz⟩:=I.list hS;have lt:a<s.heap.objs.size:=by obtain ⟨o,e,_⟩:=pl.isList; exact aJm e
 have hl:=rv.length;rw [aI8] at hl;refine call_any_walk (wpAny_pyIter_list pl.isList ⟨s.heap.objs.size,_,_,_,_,_,fun i=>bs.getD i false,rfl,Walks.list (A:=X.A.in1) (I.ok.hd hc) s.heap.objs.size a (aJB lt) its.toArray,⟨⟨_,aJr _ rfl,rfl,rfl⟩,pl.isList.push _⟩,?_,fun h' tk hk=>?_⟩)
 ·intro i v s' Q' E' hv hQ;have e:=K7 rv (i:=i) (v:=v) (by simpa using hv);rw [e];exact wpAny_truthy_bool hQ
 ·refine ⟨.bl (bs.any id),H,I.kept (t':=tk) fun b o e=>hk b o (fun z=>?_) (aJb _ e),?_,q⟩
  ·rw [aJk.mp z] at e;exact absurd (aJm e) (aKg _)
  ·show Value.bool _=Value.bool _;rw [aJf,<- hl,range_any]
end
structure Nq (K:PySem.W.Frag)(C:Addr)(m:Str)(f:Addr):Prop where
 ga:PySem.W.specialIn K (.ref C) "__getattribute__" = some (some (.builtin "type.__getattribute__"))
 rd:PySem.W.readsIn K C (.type "type")=true
 at_:PySem.W.findCls K (.ref C) (.type "type") m=some (.val (.ref f))
 hd:PySem.W.handedIn (.ref f)=true
 kp:PySem.W.keepIn K (.ref f)=true
section
variable {X:Cx}{CX:Aj}{C f:Addr}{fd:FuncData}{k:Nat}{x m:Str}{ps:List Str}{ds:List Value}{dvs:List V}{sp:Sp}{E:XK}{e:Expr}{es:List Expr}{t:TA}{p apos pos:Pos}
theorem Fx {pl:Sem Bool}(hg:Gl X x)(hm:X.mg x=some (.ref C))(c:Nq X.K C m f)(F:aP X.prog X.w X.K X.mg X.base CX k f fd ps sp)(hr:fM k X.A)(hb:Binds X.K fd ps ds)(hd:bK dvs ds)(hx:jC CX X E)(ha:PA X (e::es) t)
  (hdb:(x==("__debug__" : Str))=false:=by decide)
  (hst:starEach (e::es) X.env=(false,eval e X.env)::starEach es X.env:=by rfl) (hpl:(backTo pos (starEach es X.env)).any (·.1)=false:=by rfl)
  (ht:eval (.Call (.Attribute (.Name x p) m apos) (e::es) [] pos) X.env=(do
   let ov <- eval (.Name x p) X.env
   standAt apos.atName
   let (f,first) <- holding [ov] (getMethod ov m pl)
   callWith pos f first (backTo pos (starEach (e::es) X.env)) (backToKw pos (keywordEach [] X.env))):=by rfl) :
  PE X (.Call (.Attribute (.Name x p) m apos) (e::es) [] pos) (Ci sp dvs E t):=by
 intro pins s σ H Q I h;refine PySem.W.methodCall_KW (pl:=pl) (qK I hg hm ?_ hdb) ht;refine PySem.W.method_cls I.kIn c.ga (PySem.W.cls_value I.kIn c.rd c.at_ c.hd ?_);have I2:=I.tok (s.toks+1);refine PySem.W.callWith_K (first:=[]) (h₀:=X.base) I.ok.mod.kin c.kp (dH (ha pos pins _ σ H _ I2 h) fun us s1 ⟨vs,H1,I1,r,q⟩=>⟨I1.kIn,?_⟩) hst hpl;exact zP F hr hb hd hx I1 r q
theorem d8 {e:Expr}{t u:TE}(h1:PE X e t)(h2:PE X e u):PE X e (fun σ H Q=>t σ H Q∨u σ H Q):=fun pins s σ H Q I h=>h.elim (h1 pins s σ H Q I) (h2 pins s σ H Q I)
theorem gA {K:PySem.W.Frag}(hK:X.K=K):eZ X (.builtin "isinstance") (fun xs H Q=>∃ (x:V) (C:Addr) (t:Value) (b:Bool),xs=[x,.ref C]/\gF K H x t/\PySem.W.kitOne K t (.ref C)=some b/\Q (.bl b) H):=by
 subst hK;intro pins s σ H xs us Q I r h;obtain ⟨x,C,t,b,rfl,ty,e,q⟩:=h;obtain ⟨u,w',rfl,rx,rt⟩:=vals2 r;cases (show w'=Value.ref C from rt);exact yR I rx ty e fun tk=>⟨.bl b,H,I.tok _,rfl,q⟩
end
def o9 (P:Program)(w:World):Aj:=fun outer H s E e s' =>
 ∃ (a:Addr) (cls a0:Value) (H':Hp) (B:Heap),e=.ref a/\s'.os=s.os/\AllBare s'.gens/\Un (rN outer) [] H H' s.heap s'.heap/\nA P w H' s'.heap/\Heap.FlyingW B outer a cls a0 s'.heap ∧
  (∀ b o,s.heap.get? b=some o->b∉rN outer->∃ o',B.get? b=some o')/\(∀ b u,H' b=some u->∃ o',B.get? b=some o')/\E cls none H'
section
variable {P:Program}{w:World}{H H':Hp}{B h0 h1 h2:Heap}{fs:List Addr}
theorem GR (b1:B.StaysIn h1)(b2:B.StaysIn h2){b:Addr}{o:Obj}(q:h1.get? b=some o)(x:∃ o',B.get? b=some o'):h2.get? b=some o:=by
 obtain ⟨o',e⟩:=x;have:=b1 b o' e;rw [q] at this;cases this;exact b2 b _ e
theorem J7 (u:Un fs [] H H' h0 h1)(b1:B.StaysIn h1)(b2:B.StaysIn h2)(up:h1.UpToSlots h2)(nf:∀ b∈fs,∃ o,h1.get? b=some o/\∀ vs,o.data≠.fields vs)
  (hB:∀ b o,h0.get? b=some o->b∉fs->∃ o',B.get? b=some o'):Un fs [] H H' h0 h2:=by
 refine ⟨fun b o q n hb hx=>GR b1 b2 (u.keep b o q n hb hx) (hB b o q hb),fun b o q n hb hx=>?_,u.free,fun b o q hx=>?_,u.tups,u.frzs,u.tbls⟩
 ·obtain ⟨sl,e⟩:=u.slot b o q n hb hx;obtain ⟨o1,e1,d1⟩:=nf b hb;rw [e] at e1;cases e1;obtain ⟨sl2,e2⟩:=up b _ e d1;exact ⟨sl2,e2⟩
 ·by_cases hb:b∈fs
  ·obtain ⟨o1,e1,d1⟩:=nf b hb;obtain ⟨sl2,e2⟩:=up b _ e1 d1;exact ⟨_,e2⟩
  ·obtain ⟨o1,e1⟩:=hB b o q hb;exact ⟨_,b2 b _ e1⟩
theorem Ga (x:nA P w H h1)(b1:B.StaysIn h1)(b2:B.StaysIn h2)(hH:∀ b u,H b=some u->∃ o',B.get? b=some o'):nA P w H h2:=fun a o e =>
 (x a o e).stay (fun b u hb q=>GR b1 b2 q (by
  rcases hb with rfl | hb
  ·exact hH _ _ e
  ·exact hH _ _ hb)) (fun _ q=>q) fun _ _ q=>q
end
theorem obj_some {P:Program}{w:World}{H:Hp}{h:Heap}{b:Addr}{u:HO}(x:cJ P w H h b u)(z:h.get? b=none):False:=by
 cases u with
 | lst xs=>obtain ⟨_,_,_,_,e⟩:=x; rw [z] at e; cases e
 | tup xs=>obtain ⟨_,_,_,_,e,_⟩:=x; rw [z] at e; cases e
 | dK kvs=>obtain ⟨_,_,_,_,o,_,_,e,_⟩:=x; rw [z] at e; cases e
 | dT kvs=>obtain ⟨_,_,_,_,o,_,_,e,_⟩:=x; rw [z] at e; cases e
 | set S n=>obtain ⟨o,_,_,_,e,_⟩:=x; rw [z] at e; cases e
 | ins C dx fs=>obtain ⟨_,_,_,e,_⟩:=x; rw [z] at e; cases e
 | own y=>obtain ⟨_,e⟩:=x; rw [z] at e; cases e
 | xd fs=>obtain ⟨_,⟨_,_,_,e,_⟩,_⟩:=x; rw [z] at e; cases e
 | rng lo hi=>obtain ⟨_,_,_,e⟩:=x; rw [z] at e; cases e
 | frz ob v=>obtain ⟨e,_⟩:=x; rw [z] at e; cases e
 | tbl ps=>have e:=(show h.get? b=some _ from x); rw [z] at e; cases e
 | met f y=>have e:=(show h.get? b=some _ from x); rw [z] at e; cases e
 | ext φ=>obtain ⟨_,⟨_,e⟩,_⟩:=x; rw [z] at e; cases e
theorem GX {env:Env}{outer:List Env}{L b:Addr}(hf:env.frame=some L):b∈rN (env::outer)↔b=L∨b∈rN outer:=by
 unfold rN;rw [aKN,hf];exact aJx
structure uG (K:PySem.W.Frag)(C:Addr):Prop where
 isx:PySem.W.excIn K C ([.type "ValueError",.type "Exception",.type "BaseException",.type "object"]) "ValueError.__new__" = true
section
variable {X:Cx}
def Throws (X:Cx)(E:XK):Prop:=∀ (pins:List (Addr×Obj)) (σ:St) (H:Hp) (s:Shared) (h':Heap) (e:Addr) (cls:Value) (args:List Value),aZ X pins σ H s->Heap.MadeExcOf s.heap h' e cls args->E cls none H ->
 X.xe (.ref e) { s with heap:=h' }
end
section
variable {P:Program}{w:World}{K:PySem.W.Frag}{mg:Str->Option Value}{base:Heap}{N:List Str}{qual:Str}{scope:Scope}{f:Addr}{cd:Value}{A:Around}{outer:List Env}{s:Shared}{H:Hp}{E:XK}
theorem fX:Throws (wZ (o9 P w) P w K mg base N qual scope f cd A outer s H E) E:=by
 intro pins σ H1 s1 h' e cls args I mk hE;have hfr:=I.ok.frames;have hst:=I.stack;have nsz:∀ b o,s.heap.get? b=some o->b≠s.heap.objs.size:=fun b o q z=>absurd (aJm q) (by rw [z]; exact aKg _);have hide:∀ b o,s1.heap.get? b=some o->b∉rN (envOfC qual scope s.heap.objs.size f cd::outer)->(PySem.W.hideAll s1.heap (rN (envOfC qual scope s.heap.objs.size f cd::outer))).get? b=some o:=fun b o q hb=>PySem.W.hideAll_get _ q hb;have inS:∀ b o,s.heap.get? b=some o->b∉rN outer->∃ o',(PySem.W.hideAll s1.heap (rN (envOfC qual scope s.heap.objs.size f cd::outer))).get? b=some o':=fun b o q hb=>by
  obtain ⟨o',e'⟩:=I.base.there b o q (by show b∉([]:List Addr); simp);exact ⟨o',hide b o' e' fun z=>((GX rfl).mp z).elim (nsz b o q) hb⟩
 have inH:∀ b u,H1 b=some u->∃ o',(PySem.W.hideAll s1.heap (rN (envOfC qual scope s.heap.objs.size f cd::outer))).get? b=some o':=fun b u q=>by
  have lt:=I.hok.lt q;obtain ⟨o',e'⟩:∃ o',s1.heap.get? b=some o':=by
   have:=I.hok b u q;cases z:s1.heap.get? b with
   | some o'=>exact ⟨o',rfl⟩
   | none=>exact (obj_some this z).elim
  refine ⟨o',hide b o' e' fun z=>?_⟩;have:=I.stkFree b z;rw [q] at this;cases this
 show wpAny (model P w) (A.deeper (envOfC qual scope s.heap.objs.size f cd)) (leaving (envOfC qual scope s.heap.objs.size f cd) (.ref e)) _ _ _;refine wpAny_leaves_madeW (h:=s1.heap) (base:=PySem.W.hideAll s1.heap (rN (envOfC qual scope s.heap.objs.size f cd::outer))) hfr rfl (fun b o q=>PySem.W.of_hideAll _ q)
  (PySem.W.funFrames_hide hst fun env he b hb=>aKw.mpr ⟨env,he,hb⟩) mk fun h'' t fl _ _ up=>?_
 have b1:Heap.StaysIn (PySem.W.hideAll s1.heap (rN (envOfC qual scope s.heap.objs.size f cd::outer))) h':=fun b o q=>mk.keeps _ _ (PySem.W.of_hideAll _ q);refine ⟨e,cls,.ref t,H1,_,rfl,I.os,I.bare,?_,Ga (I.hok.kept mk.keeps) b1 fl.1 inH,fl,inS,inH,hE⟩;have u1:Un (rN outer) [] H H1 s.heap h':=Un.trans (show Un (rN outer) [] H H1 s.heap s1.heap from I.base) (Un.kept mk.keeps);refine J7 u1 b1 fl.1 up (fun b hb=>?_) inS;obtain ⟨_,o,ho,hd⟩:=I.funs.mem hb;exact ⟨o,mk.keeps _ _ ho,hd⟩
theorem gO:jC (o9 P w) (wZ (o9 P w) P w K mg base N qual scope f cd A outer s H E) E:=by
 rintro pins σ H1 s1 e s' I ⟨a,cls,a0,H',B,rfl,hos,hg,un,hok,fl,inB,inH,hE⟩;have nsz:∀ b o,s.heap.get? b=some o->b≠s.heap.objs.size:=fun b o q z=>absurd (aJm q) (by rw [z]; exact aKg _);have J:=I.call' (s':=s') (H':=H') (ch:=[]) hos un hok hg (fun b z=>absurd z (by simp));have inS:∀ b o,s.heap.get? b=some o->b∉rN outer->∃ o',B.get? b=some o':=fun b o q hb=>by
  obtain ⟨o',e'⟩:=I.base.there b o q (by show b∉([]:List Addr); simp);exact inB b o' e' fun z=>((GX rfl).mp z).elim (nsz b o q) hb
 show wpAny (model P w) (A.deeper (envOfC qual scope s.heap.objs.size f cd)) (leaving (envOfC qual scope s.heap.objs.size f cd) (.ref a)) _ _ _;refine wpAny_leaves_onW I.ok.frames rfl fl fun h'' fl' up=>?_;refine ⟨a,cls,a0,H',B,rfl,J.os,hg,?_,Ga hok fl.1 fl'.1 inH,fl',inS,inH,hE⟩;refine J7 (show Un (rN outer) [] H H' s.heap s'.heap from J.base) fl.1 fl'.1 up (fun b hb=>?_) inS;obtain ⟨_,o,ho,hd⟩:=fl.2.2.1.mem (aKw.mpr (by
  obtain ⟨env,he,z⟩:=aKw.mp hb;exact ⟨env,aI9 _ he,z⟩))
 exact ⟨o,ho,hd⟩
end
end L2
namespace L2
open PySem PySem.Spec PySem.W PyProof.Rows
section
variable {X:Cx}
theorem Qf:∀ (cs:List String) (its:List Value),bK (cs.map V.ty) its->its=cs.map Value.type:=by
 intro cs
 induction cs with
 | nil=>intro its r; cases r; rfl
 | cons c cs ih=>intro its r; cases r with | cons r1 r2=>rw [ih _ r2]; cases r1; rfl
theorem qO {K:Frag}(hK:X.K=K):eZ X (.builtin "isinstance") (fun xs H Q=>∃ (x:V) (p:Addr) (t:Value) (cs:List String) (b:Bool),xs=[x,.ref p]/\gF K H x t/\H p=some (.tup (cs.map V.ty))/\kitAny K t (cs.map Value.type)=some b/\Q (.bl b) H):=by
 subst hK;rintro pins s σ H vs us Q I r ⟨x,p,t,cs,b,rfl,ty,ht,e,q⟩;obtain ⟨u,u2,rfl,rx,r2⟩:=vals2 r;obtain rfl:u2=Value.ref p:=r2;obtain ⟨_,its,rv,o,ho,hc,n,hd⟩:=(show cJ X.prog X.w H s.heap p (.tup (cs.map V.ty)) from I.hok p _ ht)
 obtain rfl:=Qf cs its rv;obtain ⟨oc,od,oda,osl⟩:=o;dsimp only at hc hd;subst hc;subst hd;have fin:∀ tk,EP X pins σ Q (.bool b) { s with toks:=tk }:=fun tk=>⟨.bl b,H,I.tok _,rfl,q⟩
 cases ty with
 | non=>cases (show u=Value.none from rx); exact kia_tup kitx_none I.kIn True.intro ho e (fun z=>nomatch z) fin
 | bl y=>cases (show u=Value.bool y from rx); exact kia_tup kitx_bool I.kIn True.intro ho e (fun z=>nomatch z) fin
 | int i=>obtain ⟨t,z⟩:=(show ∃ t,u=Value.int i t from rx); cases z; exact kia_tup kitx_int I.kIn True.intro ho e (fun z=>nomatch z) fin
 | str y=>obtain ⟨t,z⟩:=(show ∃ t,u=Value.str y t from rx); cases z; exact kia_tup kitx_str I.kIn True.intro ho e (fun z=>nomatch z) fin
 | flt y=>obtain ⟨t,z⟩:=(show ∃ t,u=Value.float y t from rx); cases z; exact kia_tup kitx_float I.kIn True.intro ho e (fun z=>nomatch z) fin
 | @lst a xs ea =>
  cases (show u=Value.ref a from rx);obtain ⟨_,_,n,_,h1⟩:=(show cJ X.prog X.w H s.heap a (.lst xs) from I.hok a _ ea)
  exact kia_tup kitx_list I.kIn ⟨_,h1,rfl⟩ ho e (fun z=>nomatch z) fin
 | @frz a ob xs ea =>
  cases (show u=Value.ref a from rx);obtain ⟨_,_,_,n,_,h1⟩:=(show cJ X.prog X.w H s.heap a (.frz ob (.lst xs)) from I.hok a _ ea)
  exact kia_tup kitx_list I.kIn ⟨_,h1,rfl⟩ ho e (fun z=>nomatch z) fin
 | @tup a xs ea =>
  cases (show u=Value.ref a from rx);obtain ⟨_,_,_,pp⟩:=(show cJ X.prog X.w H s.heap a (.tup xs) from I.hok a _ ea)
  obtain ⟨o,h1,h2,_⟩:=pp;exact kia_tup kitx_tuple I.kIn ⟨o,h1,h2⟩ ho e (fun z=>nomatch z) fin
 | @dK a kvs ea =>
  cases (show u=Value.ref a from rx);obtain ⟨_,_,vs,_,pp⟩:=(show cJ X.prog X.w H s.heap a (.dK kvs) from I.hok a _ ea)
  obtain ⟨o,es,ep,h1,h2,_⟩:=pp;exact kia_tup kitx_dict I.kIn ⟨o,h1,h2.1⟩ ho e (fun z=>nomatch z) fin
 | @dT a kvs ea =>
  cases (show u=Value.ref a from rx);obtain ⟨_,_,xs,_,o,es,ep,h1,h2,_⟩:=(show cJ X.prog X.w H s.heap a (.dT kvs) from I.hok a _ ea)
  exact kia_tup kitx_dict I.kIn ⟨o,h1,h2.1⟩ ho e (fun z=>nomatch z) fin
 | @ins a C dx fs ea cl ha hn htk hm =>
  cases (show u=Value.ref a from rx);obtain ⟨mA,O,_⟩:=qX I.hok ea;obtain ⟨od,J,_⟩:=O.look;exact kia_tup (kitx_own (cl.get _) cl.hd ha hn htk hm) I.kIn J ho e (fun z=>nomatch z) fin
end
end L2
namespace L2
open PySem PySem.Spec PyProof.Rows
section
variable {X:Cx}
theorem aZ.turnedLaid {pins:List (Addr×Obj)}{σ:St}{H:Hp}{s:Shared}{h':Heap}{t':Nat}{ch:List Addr}{a:Addr}{o:HO}(I:aZ X pins σ H s)(hf:∀ b∈ch,jE X pins H b)
  (k:∀ b u,b∉ch->s.heap.get? b=some u->h'.get? b=some u) (hp:s.heap.objs.size<=a) (new:cJ X.prog X.w (aX H a o) h' a o):aZ X pins σ (aX H a o) { s with heap:=h',toks:=t' }:=by
 have hn:=I.hok.fresh hp;have nit:∀ b u,H b=some u->b∉ch:=fun b u e z=>by rw [(hf b z).1] at e; cases e
 refine I.step (g':=s.gens) (d':=s.drawn) (ch:=ch) (fun b hb=>?_) (fun b o _ _ hc e _=>k b o hc e) (fun b o _ _ hc e _=>⟨o.slots,k b o hc e⟩) (fun b u hc e n=>?_) (fun b o hc e=>⟨o,k b o hc e⟩)
  (fun b xs e=>by rw [aK (aV e hn)]; exact e) (fun b o u e=>by rw [aK (aV e hn)]; exact e) (fun b ps e=>⟨#[],by rw [aK (aV e hn),e]; simp⟩) (fun m hm=>?_) (fun b u e=>?_) I.bare
 ·obtain ⟨_,f1,f2,f3,f4,f5⟩:=hf b hb;exact ⟨f3,f1,f4,f5⟩
 ·rw [aK (aJB (aJC (aJm e) hp))];exact n
 ·obtain ⟨o,es,ep,ho,r⟩:=hm;exact ⟨o,es,ep,k _ o (fun z=>(hf _ z).2.1 rfl) ho,r⟩
 ·by_cases hb:b=a
  ·subst hb;rw [aB] at e;cases e;exact new
  ·rw [aK hb] at e;refine (I.hok b u e).stay (fun c v hc q=>k c v ?_ q) (fun c q=>by rw [aK (aV q hn)]; exact q) fun c xs q=>by rw [aK (aV q hn)]; exact q
   rcases hc with z | z
   ·rw [z]; exact nit b u e
   ·exact nit c _ z
theorem aZ.turnedN {pins:List (Addr×Obj)}{σ:St}{H:Hp}{s:Shared}{h':Heap}{t':Nat}{ch:List Addr}(I:aZ X pins σ H s)(hf:∀ b∈ch,jE X pins H b)
  (k:∀ b u,b∉ch->s.heap.get? b=some u->h'.get? b=some u):aZ X pins σ H { s with heap:=h',toks:=t' }:=by
 have nit:∀ b u,H b=some u->b∉ch:=fun b u e z=>by rw [(hf b z).1] at e; cases e
 refine I.step (g':=s.gens) (d':=s.drawn) (ch:=ch) (fun b hb=>?_) (fun b o _ _ hc e _=>k b o hc e) (fun b o _ _ hc e _=>⟨o.slots,k b o hc e⟩) (fun _ _ _ _ n=>n) (fun b o hc e=>⟨o,k b o hc e⟩)
  (fun _ _ e=>e) (fun _ _ _ e=>e) (fun b ps e=>⟨#[],by rw [e]; simp⟩) (fun m hm=>?_) (fun b u e=>?_) I.bare
 ·obtain ⟨_,f1,f2,f3,f4,f5⟩:=hf b hb;exact ⟨f3,f1,f4,f5⟩
 ·obtain ⟨o,es,ep,ho,r⟩:=hm;exact ⟨o,es,ep,k _ o (fun z=>(hf _ z).2.1 rfl) ho,r⟩
 ·refine (I.hok b u e).stay (fun c v hc q=>k c v ?_ q) (fun _ q=>q) fun _ _ q=>q;rcases hc with z | z
  ·rw [z]; exact nit b u e
  ·exact nit c _ z
end
theorem Jl {K:PySem.W.Frag}{a:Addr}{xs:List V}{k:Nat}{g:TG}{c:TT}{te:TE}{σ:St}{H1:Hp}{D:Addr}{Q:VK}(Pv:Nat->St->Hp->Prop)(h0:Pv 0 (aJt k none++σ) (aX H1 D (.lst [])))
  (hl:∀ i τ H,i<=xs.length->Pv i τ H->cV K H a xs)
  (hs:∀ i m x τ H,m=xs.length-i->i<xs.length->xs[i]? = some x->Pv i τ H->g x τ H fun τ2 H2=>c τ2 H2 fun b H3=>if b=true then te τ2 H3 fun y H4=>∃ ys m',m'<m/\H4 D=some (.lst ys)/\ys.length<sizeLine/\CW xs.length Pv (i+1) m' τ2 (aX H4 D (.lst (ys++[y]))) else ∃ m',m'<m/\CW xs.length Pv (i+1) m' τ2 H3)
  (hd:∀ τ H,Pv xs.length τ H->Q (.ref D) H):CQ k (Rn K a) g c te σ H1 D Q:=by
 refine ⟨CW xs.length Pv,⟨xs.length,rfl,aJD _,h0⟩,?_⟩;rintro i m τ H ⟨hm,hi,p⟩;have q:=hl i τ H hi p
 by_cases hlt:i<xs.length
 ·refine .inr ⟨⟨xs,xs[i],q,by simp [hlt]⟩,fun x H' y=>?_⟩;obtain ⟨e,y⟩:=y;subst e;exact hs i m x τ _ hm hlt (y xs q) p
 ·have e:i=xs.length:=by omega
  subst e;exact .inl ⟨⟨xs,q,aJd _⟩,hd τ H p⟩
theorem rQ {i:Nat}{v:V}{τ:St}{H:Hp}{A B:St->Hp->Prop}(h:A (τ.set i (some v)) H):qT i v τ H (fun τ2 H2=>Qm τ2 H2 (fun b H3=>if b=true then A τ2 H3 else B τ2 H3)):=eO (τ:=τ.set i (some v)) (A:=A (τ.set i (some v))) (B:=B (τ.set i (some v))) h
theorem O2 {K:PySem.W.Frag}{a:Addr}{xs:List V}{g:TG}{tb:TS}{D:Ends}{σ:St}{H:Hp}(Pv:Nat->St->Hp->Prop)(h0:Pv 0 σ H)(hl:∀ i σ H,i<=xs.length->Pv i σ H->bG K H a xs)
  (hs:∀ i x σ H,i<xs.length->xs[xs.length-1-i]? = some x->Pv i σ H->g x σ H fun σ2 H2=>tb { D with nx:=Pv (i+1),ct:=Pv (i+1),bk:=D.nx } σ2 H2) (hd:∀ σ H,Pv xs.length σ H->D.nx σ H) :
  ∃ W:Nat->Nat->St->Hp->Prop,(∃ m,W 0 m σ H)/\∀ i m σ H,W i m σ H ->
   ((WY K a xs).stop i H/\D.nx σ H)∨((WY K a xs).go i H/\∃ N:St->Hp->Prop,(∀ σ' H',N σ' H'->∃ m',m'<m/\W (i+1) m' σ' H')/\∀ x H',(WY K a xs).yld i H x H'->g x σ H' fun σ2 H2=>tb { D with nx:=N,ct:=N,bk:=D.nx } σ2 H2):=by
 refine ⟨fun i m σ H=>m=xs.length-i/\i<=xs.length/\Pv i σ H,⟨xs.length,by simp,aJD _,h0⟩,?_⟩;rintro i m σ H ⟨rfl,hi,p⟩;have q:=hl i σ H hi p
 by_cases hlt:i<xs.length
 ·refine .inr ⟨⟨hlt,q⟩,Pv (i+1),fun σ' H' p'=>⟨xs.length-(i+1),by omega,rfl,hlt,p'⟩,fun x H' y=>?_⟩;obtain ⟨e,y⟩:=y;subst e;exact hs i x σ _ hlt y p
 ·have e:i=xs.length:=by omega
  subst e;exact .inl ⟨aJd _,hd σ H p⟩
end L2
namespace TD
open PySem L2
open Builtin.Int (intBits)
abbrev Tq (H:Hp)(p:Addr)(x:Int×Int):Prop:=H p=some (.tup [.int x.1,.int x.2])
structure Z4 (x:Int×Int):Prop where
 t:intBits x.1<=4400
 b:intBits x.2<=4400
 p:0<x.2
abbrev Is (ns:List Int):List V:=ns.map V.int
theorem bM (ns:List Int):(Is ns).length=ns.length:=aI8 _
theorem fZ (xs:List Int)(y:Int):Is (xs++[y])=Is xs++[V.int y]:=by show (xs++[y]).map V.int=_; rw [aJj]; rfl
theorem nW {ns:List Int}{i:Nat}{v:V}(h:(Is ns)[i]? = some v):∃ n,ns[i]? = some n/\v=.int n:=by
 rw [aJh] at h;cases e:ns[i]? with
 | none=>rw [e] at h; cases h
 | some n=>rw [e] at h; cases h; exact ⟨n,rfl,rfl⟩
def Km:Sp:=fun vs H Q _=>∃ i lo hi:Int,vs=[.int i,.int lo,.int hi]/\lo<=i/\i<=hi/\Q (.bl true) H
def Qz:Sp:=fun vs H Q _=>∃ i:Int,vs=[.int i]/\∀ p H',aN H H'->Tq H' p (i,1)->Q (.ref p) H'
def QQ (K:PySem.W.Frag):Sp:=fun vs H Q _=>∃ p q a b c d,vs=[.ref p,.ref q]/\cV K H p [.int a,.int b]/\cV K H q [.int c,.int d]/\Sz a b c d/\(c*b<a*d->Q (.ref q) H)/\(¬ c*b<a*d->Q (.ref p) H)
theorem nC {x:Int}{k:Nat}(h0:-(2^k)<x)(h1:x<2^k):intBits x<=k:=by
 refine PySem.intBits_le_iff.mpr ?_;have e:((2^k:Nat):Int)=2^k:=by push_cast; rfl
 omega
theorem qW {t b N k:Int}{n j:Nat}(f:Sd.Fq t b N k)(hN:0<N)(hn:N<=2^n)(k0:0<=k)(hj:k<=2^j):intBits b<=n+1/\intBits t<=n+j+1:=by
 have bp:=f.fr.pos;have bl:=aK3 hN f.dv;have e1:b<=2^n:=aJF bl hn;have e2:k*b<=2^j*2^n:=aJF (aJo hj (aJn bp)) (aJq e1 (aJn (Sd.cI j)));rw [<- aKI,aLW] at e2;have p1:(2:Int)^(n+1)=2*2^n:=by rw [aKL]; omega
 have p2:(2:Int)^(n+j+1)=2*2^(n+j):=by rw [aKL]; omega
 have q1:=Sd.cI n;have q2:=Sd.cI (n+j);have l:=f.lo;have h:=f.hi;exact ⟨nC (by omega) (by omega),nC (by omega) (by omega)⟩
structure GT (xs:List Row)(n:Nat)(W M k:Int):Prop where
 ne:xs≠[]
 len:xs.length<=n
 w1:∀ x∈xs,1<=x.w
 ws:wsum xs<=W
 mp:0<M
 fq:∀ x∈xs,Sd.Fq x.t x.b M k
structure Cp (n:Nat)(W M k:Int):Prop where
 n:n<=12
 w:W<=2^600
 m:M<=2^1600
 k0:0<=k
 k:k<=2^1600
theorem mQ {xs:List Row}(w1:∀ x∈xs,1<=x.w):∀ {x:Row},x∈xs->x.w<=wsum xs:=by
 induction xs with
 | nil=>intro x h; cases h
 | cons y ys ih =>
  intro x hx;have e:wsum (y::ys)=y.w+wsum ys:=by unfold wsum; rw [aJi,aJu]
  have y1:=w1 y aJa;have n0:0<=wsum ys:=by
   clear ih hx
   induction ys with
   | nil=>exact aJO _
   | cons z zs ih =>
    have e:wsum (z::zs)=z.w+wsum zs:=by unfold wsum; rw [aJi,aJu]
    have z1:=w1 z (aI9 _ aJa);have:=ih (fun x hx=>by
     rcases aJx.mp hx with h | h
     ·subst h; exact y1
     ·exact w1 x (aI9 _ (aI9 _ h))) (by unfold wsum; rw [aJi,aJu])
    omega
  rcases aJx.mp hx with h | h
  ·subst h; omega
  ·have:=ih (fun x hx=>w1 x (aI9 _ hx)) h;omega
theorem GT.bits {xs:List Row}{n:Nat}{W M k:Int}(g:GT xs n W M k)(c:Cp n W M k){x:Row}(hx:x∈xs):intBits x.b<=1601/\intBits x.t<=3201:=by
 have:=qW (g.fq x hx) g.mp c.m c.k0 c.k;omega
theorem GT.pb {xs:List Row}{n:Nat}{W M k:Int}(g:GT xs n W M k)(c:Cp n W M k):PB xs:=fun x hx=>by
 have b:=g.bits c hx;have w:=mQ g.w1 hx;have w2:=g.ws;have w3:=c.w;have e:(2:Int)^600<=CP:=by decide +kernel
 exact ⟨(g.fq x hx).fr,by omega,by omega,g.w1 x hx,by omega⟩
theorem GT.tot {xs:List Row}{n:Nat}{W M k:Int}(g:GT xs n W M k):1<=wsum xs:=by
 cases xs with
 | nil=>exact absurd rfl g.ne
 | cons x xs =>
  have:=mQ g.w1 (x:=x) aJa;have:=g.w1 x aJa;omega
def KR (H:Hp)(a:Addr)(xs:List Row):Prop:=H a=some (.tup (refs xs))/\∀ x∈xs,jB H x
def be:Nat->Nat
 | 0=>1
 | d+1=>be d+(12*(d+1)+1)
def ka:Nat->Nat
 | 0=>30
 | d+1=>ka d+(12*(d+1)+1)*12+1
def wB (d m:Nat):Int:=2^((12*d+1)*m)
def kK (d:Nat):Int:=2^ka d
theorem GQ {d m:Nat}{M:Int}(hd:d<=4)(hm:m<=12)(hM:M<=2^(be d*m)):Cp m (wB d m) M (kK d):=by
 have b:be d<=125:=by
  rcases (by omega:d=0∨d=1∨d=2∨d=3∨d=4) with z | z | z | z | z <;> subst z <;> decide
 have a:ka d<=1600:=by
  rcases (by omega:d=0∨d=1∨d=2∨d=3∨d=4) with z | z | z | z | z <;> subst z <;> decide
 refine ⟨hm,Sd.eU ?_,aJF hM (Sd.eU ?_),aJn (Sd.cI _),Sd.eU a⟩
 ·calc (12*d+1)*m<=49*m:=aKJ _ (by omega)
   _<=49*12:=aJ8 _ hm
   _<=600:=by decide
 ·calc be d*m<=125*m:=aKJ _ b
   _<=125*12:=aJ8 _ hm
   _<=1600:=by decide
end TD
namespace Fr
theorem Og {x y t b:Int}(f:jD x y)(hb:b≠0)(e:x*b=t*y):(x,y)=sh t b:=by
 have q:=PN (t:=t) hb;have c2:=qL t b;generalize (sh t b)=z at *;obtain ⟨z1,z2⟩:=z;have k:b*(x*z2)=b*(z1*y):=by
  have k1:b*(x*z2)=(x*b)*z2:=by grind
  have k2:b*(z1*y)=(z1*b)*y:=by grind
  rw [k1,k2,c2,e]
  grind
 obtain ⟨a,c⟩:=unique f q (aLd hb k);rw [a,c]
end Fr
namespace Tb
def iZ (l0 l1:Int)(r:Rw):Rw:=if l0*r.b<r.t*l1 then ⟨l0,l1,r.w⟩ else r
end Tb
namespace TD
open PySem L2
open Builtin.Int (intBits)
structure Ent where
 p:Addr
 w:Int
 a:Addr
 ys:List Row
def zA (H:Hp)(e:Ent):Prop:=H e.p=some (.tup [.int e.w,.ref e.a])/\TabAt H e.a e.ys
def qN (es:List Ent):List V:=es.map fun e=>V.ref e.p
structure wA (H:Hp)(a:Addr)(es:List Ent):Prop where
 lst:H a=some (.lst (qN es))
 ents:∀ e∈es,zA H e
theorem zA.same {H H':Hp}{e:Ent}(s:aN H H')(h:zA H e):zA H' e:=⟨s _ _ h.1,h.2.same s⟩
theorem wA.same {H H':Hp}{a:Addr}{es:List Ent}(s:aN H H')(h:wA H a es):wA H' a es:=⟨s _ _ h.lst,fun e he=>(h.ents e he).same s⟩
theorem qM (es:List Ent):(qN es).length=es.length:=aI8 _
theorem DN {es:List Ent}{i:Nat}{v:V}(h:(qN es)[i]? = some v):∃ x,es[i]? = some x/\v=.ref x.p:=by
 unfold qN at h;rw [aJh] at h;cases e:es[i]? with
 | none=>rw [e] at h; cases h
 | some x=>rw [e] at h; cases h; exact ⟨x,rfl,rfl⟩
theorem FJ (xs:List Ent)(y:Ent):qN (xs++[y])=qN xs++[V.ref y.p]:=by unfold qN; rw [aJj]; rfl
def q9 (S:Int)(e:Ent):Int:=e.w*S.fdiv (wsum e.ys)
def partsOf (S:Int)(es:List Ent):List Tb.Rw:=es.flatMap fun e=>e.ys.map fun y=>⟨y.t,y.b,q9 S e*y.w⟩
def cT (es:List Ent):List Int:=es.map fun e=>wsum e.ys
theorem zL (S:Int)(es:List Ent)(e:Ent):partsOf S (es++[e])=partsOf S es++e.ys.map fun y=>⟨y.t,y.b,q9 S e*y.w⟩:=by
 unfold partsOf;rw [List.flatMap_append];simp
def bY (xs:List Row):Int:=c7 (xs.map Row.b)
theorem Fd {m n:Int}(hn:0<n):dB m n=m*(Fr.sh m n).2:=by
 unfold dB Fr.sh Fr.dv;rw [if_neg (by omega)]
theorem Cu {m n M:Int}(hn:0<n)(h1:m∣M)(h2:n∣M):dB m n∣M:=by
 rw [Fd hn];obtain ⟨a,ea⟩:=h1;obtain ⟨b,eb⟩:=h2;have d1:=Fr.Et m n;have d2:=Fr.zT m n;have dn:=Fr.Pb (t:=m) (aJL hn);have h:(Fr.sh m n).2∣(Fr.sh m n).1*a:=by
  refine ⟨b,aKF dn ?_⟩;have e1:(Fr.sh m n).1*a*Fr.dv m n=((Fr.sh m n).1*Fr.dv m n)*a:=by grind
  have e2:(Fr.sh m n).2*b*Fr.dv m n=((Fr.sh m n).2*Fr.dv m n)*b:=by grind
  rw [e1,e2,d1,d2,<- ea,<- eb]
 obtain ⟨c,hc⟩:=Fr.Z1 (Fr.Ep (t:=m) (aJL hn)) h;exact ⟨c,by rw [ea,hc]; grind⟩
theorem qZ:∀ (ns:List Int) (m M:Int),(∀ n∈ns,0<n)->m∣M->(∀ n∈ns,n∣M)->ns.foldl dB m∣M
 | [],_,_,_,h,_=>h
 | n::ns,m,M,hp,h,hd=>qZ ns _ M (fun k hk=>hp k (aI9 _ hk)) (Cu (hp n aJa) h (hd n aJa)) fun k hk=>hd k (aI9 _ hk)
theorem BR {ns:List Int}{M:Int}(hp:∀ n∈ns,0<n)(hd:∀ n∈ns,n∣M):c7 ns∣M:=qZ ns 1 M hp ⟨M,(aLl _).symm⟩ hd
theorem Gj {ns:List Int}(hp:∀ n∈ns,0<n):c7 ns<=Sd.fH ns:=aK3 (Sd.nH hp) (BR hp fun n hn=>Sd.rF hn)
theorem GT.bp {xs:List Row}{n:Nat}{W M k:Int}(g:GT xs n W M k):∀ b∈xs.map Row.b,0<b:=fun b hb=>by
 obtain ⟨x,hx,rfl⟩:=aJe.mp hb;exact (g.fq x hx).fr.pos
theorem GT.lcm {xs:List Row}{n:Nat}{W M k:Int}(g:GT xs n W M k):0<bY xs/\bY xs∣M/\∀ x∈xs,x.b∣bY xs:=by
 obtain ⟨a,b⟩:=Gi g.bp;exact ⟨a,BR g.bp fun b hb=>by obtain ⟨x,hx,rfl⟩:=aJe.mp hb; exact (g.fq x hx).dv,fun x hx=>b _ (aJe.mpr ⟨x,hx,rfl⟩)⟩
theorem GT.own {xs:List Row}{n:Nat}{W M k:Int}(g:GT xs n W M k):GT xs n W (bY xs) k/\bY xs<=M:=by
 obtain ⟨a,b,c⟩:=g.lcm;exact ⟨⟨g.ne,g.len,g.w1,g.ws,a,fun x hx=>⟨(g.fq x hx).fr,c x hx,(g.fq x hx).lo,(g.fq x hx).hi⟩⟩,aK3 g.mp b⟩
theorem Gw {r:Tb.Rw}(hr:1<=r.w):∀ {ys:List Tb.Rw},ys.Pairwise Tb.Lt->(ys.map fun y=>if r.t=y.t/\r.b=y.b then r.w else 0).sum<=r.w
 | [],_=>by show (0:Int)<=r.w; omega
 | y::ys,h=>by
  obtain ⟨h1,h2⟩:=aKT.mp h;rw [aJi,aJu]
  by_cases e:r.t=y.t/\r.b=y.b
  ·rw [if_pos e];have z:(ys.map fun y=>if r.t=y.t/\r.b=y.b then r.w else 0).sum=0:=by
    have:∀ zs:List Tb.Rw,(∀ z∈zs,Tb.Lt y z)->(zs.map fun y=>if r.t=y.t/\r.b=y.b then r.w else 0).sum=0:=by
     intro zs
     induction zs with
     | nil=>intro _; rfl
     | cons z zs ih =>
      intro hz;rw [aJi,aJu,ih fun x hx=>hz x (aI9 _ hx),if_neg fun q=>Tb.Jc (hz z aJa) (e.1.symm.trans q.1) (e.2.symm.trans q.2)]
      rfl
    exact this ys h1
   omega
  ·rw [if_neg e];have:=Gw hr h2;omega
theorem Kr {ys:List Tb.Rw}(so:ys.Pairwise Tb.Lt):∀ {ps:List Tb.Rw},(∀ r∈ps,1<=r.w)->(ys.map fun y=>Tb.Wt ps y.t y.b).sum<=Tb.W ps
 | [],_=>by
  have:∀ zs:List Tb.Rw,(zs.map fun y=>Tb.Wt [] y.t y.b).sum=0:=by
   intro zs
   induction zs with
   | nil=>rfl
   | cons z zs ih=>rw [aJi,aJu,ih]; rfl
  rw [this];exact aJO _
 | r::ps,h=>by
  have ih:=Kr so (ps:=ps) fun x hx=>h x (aI9 _ hx);have k:=Gw (h r aJa) so;have e:∀ zs:List Tb.Rw,(zs.map fun y=>Tb.Wt (r::ps) y.t y.b).sum=(zs.map fun y=>if r.t=y.t/\r.b=y.b then r.w else 0).sum+(zs.map fun y=>Tb.Wt ps y.t y.b).sum:=by
   intro zs
   induction zs with
   | nil=>rfl
   | cons z zs ih =>
    rw [aJi,aJu,aJi,aJu,aJi,aJu,ih,Tb.lF];omega
  rw [e,Tb.gK];omega
theorem Out.sum {ps:List Tb.Rw}{ys:List Row}(o:Out ps ys)(h:∀ r∈ps,1<=r.w):wsum ys<=Tb.W ps:=by
 have s:=Kr o.tab.lt h;have le:∀ zs:List Row,(∀ y∈zs,y.w<=Tb.Wt ps y.t y.b)->wsum zs<=((dG zs).map fun y=>Tb.Wt ps y.t y.b).sum:=by
  intro zs
  induction zs with
  | nil=>intro _; exact aJO _
  | cons z zs ih =>
   intro hz;have e:wsum (z::zs)=z.w+wsum zs:=by unfold wsum; rw [aJi,aJu]
   have e2:dG (z::zs)=z.r::dG zs:=rfl;rw [e,e2,aJi,aJu];have h1:=hz z aJa;have h2:=ih fun y hy=>hz y (aI9 _ hy);have h3:Tb.Wt ps z.r.t z.r.b=Tb.Wt ps z.t z.b:=rfl;omega
 exact aJF (le ys fun y hy=>(o.w y hy).2) s
structure GM (es:List Ent)(k0:Nat)(W0 kk:Int):Prop where
 ne:es≠[]
 len:es.length<=4
 k:k0<=12
 n:es.length*k0<=48
 w:∀ e∈es,1<=e.w/\e.w<=1000
 g:∀ e∈es,GT e.ys k0 W0 (bY e.ys) kk
 c:∀ e∈es,Cp k0 W0 (bY e.ys) kk
theorem GM.tp {es:List Ent}{k0:Nat}{W0 kk:Int}(g:GM es k0 W0 kk):∀ n∈cT es,0<n/\n<=2^600:=fun n hn=>by
 obtain ⟨e,he,rfl⟩:=aJe.mp hn;have:=(g.g e he).tot;have:=(g.g e he).ws;have:=(g.c e he).w;omega
theorem GM.tb {es:List Ent}{k0:Nat}{W0 kk:Int}(g:GM es k0 W0 kk):(∀ n∈cT es,intBits n<=601)/\((cT es).map intBits).sum<=2404:=by
 have e1:∀ n∈cT es,intBits n<=601:=fun n hn=>by
  have:=g.tp n hn;have p1:(2:Int)^601=2*2^600:=by rw [aKL]; omega
  have q1:=Sd.cI 600;exact nC (by omega) (by omega)
 have h:=o8 (k:=601) (l:=(cT es).map intBits) fun n hn=>by
  obtain ⟨z,hz,rfl⟩:=aJe.mp hn;exact e1 z hz
 have l:=g.len;have e:((cT es).map intBits).length=es.length:=by rw [aI8]; unfold cT; rw [aI8]
 rw [e] at h;exact ⟨e1,by omega⟩
theorem GM.S {es:List Ent}{k0:Nat}{W0 kk:Int}(g:GM es k0 W0 kk):0<c7 (cT es)/\c7 (cT es)<=2^2400/\intBits (c7 (cT es))<=2405/\∀ e∈es,wsum e.ys∣c7 (cT es):=by
 have tp:∀ n∈cT es,0<n:=fun n hn=>(g.tp n hn).1;obtain ⟨a,b⟩:=Gi tp;have l:=g.len;have pl:=Sd.Dq (e:=600) g.tp;have e:(cT es).length=es.length:=by unfold cT; rw [aI8]
 rw [e] at pl;have hb:=yH (cT es);have:=g.tb.2;exact ⟨a,aJF (aJF (Gj tp) pl) (Sd.eU (by omega)),by omega,fun e he=>b _ (aJe.mpr ⟨e,he,rfl⟩)⟩
theorem An {S:Int}{e:Ent}(hp:1<=wsum e.ys)(d:wsum e.ys∣S):q9 S e*wsum e.ys=e.w*S:=by
 unfold q9;obtain ⟨s,es⟩:=d;have q1:S.fdiv (wsum e.ys)=s:=by rw [es]; exact aKQ _ (by omega)
 rw [q1,es]
 grind
theorem Oa {S:Int}{e:Ent}(hw:1<=e.w)(hp:1<=wsum e.ys)(hS:0<S)(d:wsum e.ys∣S):1<=q9 S e:=by
 have h:=An hp d;have p:0<e.w*S:=aKh (by omega) hS;rcases Int.lt_or_le 0 (q9 S e) with z | z
 ·omega
 ·have:=aKS z (show (0:Int)<=wsum e.ys by omega);omega
theorem GM.part {es:List Ent}{k0:Nat}{W0 kk:Int}(g:GM es k0 W0 kk){e:Ent}(he:e∈es){y:Row}(hy:y∈e.ys):1<=q9 (c7 (cT es)) e*y.w/\q9 (c7 (cT es)) e*y.w<=1000*c7 (cT es):=by
 obtain ⟨Sp,_,_,Sd'⟩:=g.S;have ge:=g.g e he;have w:=g.w e he;have f1:=Oa w.1 ge.tot Sp (Sd' e he);have y1:=ge.w1 y hy;have y2:=mQ ge.w1 hy;have a:=An ge.tot (Sd' e he);have b:=aJq y2 (show 0<=q9 (c7 (cT es)) e by omega);have c:=aJo w.2 (aJn Sp);have d:1*1<=q9 (c7 (cT es)) e*y.w:=Int.mul_le_mul f1 y1 (by decide) (by omega);omega
theorem GM.pb {es:List Ent}{k0:Nat}{W0 kk:Int}(g:GM es k0 W0 kk){e:Ent}(he:e∈es){y:Row}(hy:y∈e.ys):Fr.jD y.t y.b/\intBits y.t<=4000/\intBits y.b<=4000/\1<=q9 (c7 (cT es)) e*y.w/\q9 (c7 (cT es)) e*y.w<=CP:=by
 have b:=(g.g e he).bits (g.c e he) hy;have p:=g.part he hy;have s:=g.S.2.1;have m:(1000:Int)*2^2400<=CP:=by decide +kernel
 exact ⟨((g.g e he).fq y hy).fr,by omega,by omega,p.1,by omega⟩
theorem GK {S:Int}:∀ {es:List Ent},(∀ e∈es,1<=wsum e.ys/\wsum e.ys∣S/\e.w<=1000)->0<=S->Tb.W (partsOf S es)<=1000*(es.length:Int)*S
 | [],_,_=>by show (0:Int)<=_; simp
 | e::es,h,hS=>by
  have ih:=GK (es:=es) (fun x hx=>h x (aI9 _ hx)) hS;obtain ⟨h1,h2,h3⟩:=h e aJa;have e1:partsOf S (e::es)=(e.ys.map fun y=>⟨y.t,y.b,q9 S e*y.w⟩)++partsOf S es:=rfl;have e2:∀ zs:List Row,Tb.W (zs.map fun y=>(⟨y.t,y.b,q9 S e*y.w⟩:Tb.Rw))=q9 S e*wsum zs:=by
   intro zs
   induction zs with
   | nil=>show (0:Int)=_*0; simp
   | cons z zs ih =>
    have e:wsum (z::zs)=z.w+wsum zs:=by unfold wsum; rw [aJi,aJu]
    rw [aJi,Tb.gK,ih,e,Int.mul_add]
  rw [e1,Tb.BL,e2,An h1 h2,aJJ];have:=aJo h3 hS
  push_cast
  have e3:1000*((es.length:Int)+1)*S=1000*(es.length:Int)*S+1000*S:=by grind
  rw [e3];omega
theorem Im {S:Int}{es:List Ent}{t b:Int}(h:Tb.uV (partsOf S es) t b):∃ e∈es,∃ y∈e.ys,y.t=t/\y.b=b:=by
 obtain ⟨p,hp,e1,e2⟩:=h;obtain ⟨e,he,hq⟩:=aL4.mp hp;obtain ⟨y,hy,rfl⟩:=aJe.mp hq;exact ⟨e,he,y,hy,e1,e2⟩
theorem GM.out {es:List Ent}{k0:Nat}{W0 kk:Int}{ys:List Row}(g:GM es k0 W0 kk)(o:Out (partsOf (c7 (cT es)) es) ys)(hl:ys.length<=es.length*k0) :
  GT ys (es.length*k0) (4000*Sd.fH (cT es)) (Sd.fH (es.map fun e=>bY e.ys)) kk:=by
 obtain ⟨Sp,_,_,Sd'⟩:=g.S;have tp:∀ n∈cT es,0<n:=fun n hn=>(g.tp n hn).1;have pw:∀ r∈partsOf (c7 (cT es)) es,1<=r.w:=fun r hr=>by
  obtain ⟨e,he,hq⟩:=aL4.mp hr;obtain ⟨y,hy,rfl⟩:=aJe.mp hq;exact (g.part he hy).1
 have pne:partsOf (c7 (cT es)) es≠[]:=by
  cases es with
  | nil=>exact absurd rfl g.ne
  | cons e es =>
   intro z;have h1:=(List.append_eq_nil_iff.mp (show (e.ys.map fun y=>(⟨y.t,y.b,q9 _ e*y.w⟩:Tb.Rw))++partsOf _ es=[] from z)).1;exact (g.g e aJa).ne (aJ9.mp h1)
 have wp:=GK (S:=c7 (cT es)) (es:=es) (fun e he=>⟨(g.g e he).tot,Sd' e he,(g.w e he).2⟩) (aJn Sp);have sl:=Gj tp;have l:=g.len;have mpos:∀ n∈es.map (fun e=>bY e.ys),0<n:=fun n hn=>by
  obtain ⟨e,he,rfl⟩:=aJe.mp hn;exact (g.g e he).mp
 refine ⟨o.ne pne,hl,fun y hy=>(o.w y hy).1,?_,Sd.nH mpos,fun y hy=>?_⟩
 ·have a:=o.sum pw;have b:1000*(es.length:Int)*c7 (cT es)<=4000*c7 (cT es):=aJo (by omega) (aJn Sp);omega
 ·obtain ⟨p,hp,e1,e2⟩:=o.key hy;obtain ⟨e,he,z,hz,e3,e4⟩:=Im ⟨p,hp,e1,e2⟩;have f:=(g.g e he).fq z hz;rw [e3,e4] at f;exact Sd.Fq.mono f (Sd.rF (aJe.mpr ⟨e,he,rfl⟩)) (aJO _)
theorem GT.cm {xs:List Row}{n:Nat}{W M k:Int}(g:GT xs n W M k):Tb.CM (bY xs) (dG xs):=by
 obtain ⟨a,b,c⟩:=g.lcm;refine ⟨a,fun r hr=>?_⟩;obtain ⟨x,hx,rfl⟩:=aJe.mp hr;exact ⟨(g.fq x hx).fr.pos,c x hx⟩
theorem GT.tab {xs:List Row}{n:Nat}{W M k:Int}(g:GT xs n W M k)(so:(dG xs).Pairwise Tb.Lt):Tb.Tab (bY xs) (dG xs) :=
 ⟨g.cm,fun r hr=>by obtain ⟨x,hx,rfl⟩:=aJe.mp hr; exact g.w1 x hx,so.imp fun h=>aJn h⟩
theorem Ze {B k:Int}{r:Tb.Rw}(hb:0<r.b)(hB:0<B)(d:r.b∣B)(lo:-(k*r.b)<=r.t)(hi:r.t<=k*r.b):-(k*B)<=Tb.T B r/\Tb.T B r<=k*B:=by
 obtain ⟨c,hc,e,q⟩:=Tb.Zh hb hB d;unfold Tb.T;rw [q,e];have h1:=aJo lo (aJn hc);have h2:=aJo hi (aJn hc);have e1:-(k*r.b)*c = -(k*(r.b*c)):=by grind
 have e2:k*r.b*c=k*(r.b*c):=by grind
 rw [e1] at h1;rw [e2] at h2;exact ⟨h1,h2⟩
theorem Ou {B k:Int}(kB:0<=k*B):∀ {rs:List Tb.Rw},(∀ r∈rs,1<=r.w/\-(k*B)<=Tb.T B r/\Tb.T B r<=k*B)->-(k*B*Tb.W rs)<=Tb.WT B rs/\Tb.WT B rs<=k*B*Tb.W rs
 | [],_=>by simp [Tb.W,Tb.WT]
 | r::rs,h=>by
  obtain ⟨a,b⟩:=Ou kB (rs:=rs) fun x hx=>h x (aI9 _ hx);obtain ⟨w1,l,u⟩:=h r aJa;rw [Tb.u0,Tb.gK];have h1:=aJq l (show 0<=r.w by omega);have h2:=aJq u (show 0<=r.w by omega);have e1:r.w * -(k*B) = -(k*B*r.w):=by grind
  have e2:r.w*(k*B)=k*B*r.w:=by grind
  have e3:k*B*(r.w+Tb.W rs)=k*B*r.w+k*B*Tb.W rs:=by grind
  rw [e1] at h1;rw [e2] at h2;rw [e3];omega
theorem Qv {rs:List Tb.Rw}(h:∀ r∈rs,1<=r.w)(j:Nat):0<=Tb.W (rs.drop j)/\Tb.W (rs.drop j)<=Tb.W rs:=by
 have nn:∀ zs:List Tb.Rw,(∀ r∈zs,1<=r.w)->0<=Tb.W zs:=by
  intro zs
  induction zs with
  | nil=>intro _; exact aJO _
  | cons z zs ih =>
   intro hz;rw [Tb.gK];have:=hz z aJa;have:=ih fun x hx=>hz x (aI9 _ hx);omega
 have e:Tb.W rs=Tb.W (rs.take j)+Tb.W (rs.drop j):=by rw [<- Tb.BL,aK1]
 have a:=nn (rs.take j) fun r hr=>h r (List.mem_of_mem_take hr);have b:=nn (rs.drop j) fun r hr=>h r (aKG hr);omega
theorem GT.lp {xs:List Row}{n:Nat}{W M k p tops ws:Int}{i:Nat}(g:GT xs n W M k)(k0:0<=k)(p0:0<=p)(l:Tb.Lp (bY xs) (p*Tb.W (dG xs)*bY xs) (dG xs) i tops ws) :
  0<=ws/\ws<=wsum xs/\-((p+k)*wsum xs*bY xs)<=tops/\tops<=(p+k)*wsum xs*bY xs:=by
 have cm:=g.cm;have Bp:=cm.pos;have w1:∀ r∈dG xs,1<=r.w:=fun r hr=>by obtain ⟨x,hx,rfl⟩:=aJe.mp hr; exact g.w1 x hx
 have wd:=Qv w1 ((dG xs).length-i);have kB:0<=k*bY xs:=aKi k0 (aJn Bp);have wt:=Ou kB (rs:=(dG xs).drop ((dG xs).length-i)) fun r hr=>by
  obtain ⟨x,hx,rfl⟩:=aJe.mp (aKG hr);have f:=g.fq x hx;exact ⟨g.w1 x hx,Ze (r:=x.r) f.fr.pos Bp (g.lcm.2.2 x hx) f.lo f.hi⟩
 have ew:=l.ew;have et:=l.et;rw [<- ew] at wd wt;have m:=aJq wd.2 kB;have P0:0<=p*Tb.W (dG xs)*bY xs:=aKi (aKi p0 (by omega)) (aJn Bp);have e:(p+k)*wsum xs*bY xs=p*Tb.W (dG xs)*bY xs+k*bY xs*Tb.W (dG xs):=by rw [sE]; grind
 rw [e,sE];exact ⟨wd.1,wd.2,by omega,by omega⟩
theorem RD {tops ws B k:Int}(hw:1<=ws)(hB:0<B)(k0:0<=k)(lo:-(k*B)<=tops)(hi:tops<=k*B):Sd.FQ (Fr.sh tops (ws*B)) (ws*B) k:=by
 have p:0<ws*B:=aKh (by omega) hB;have kb:0<=k*B:=aKi k0 (aJn hB);have e:k*(ws*B)=k*B*ws:=by grind
 have h:k*B*1<=k*B*ws:=aJq hw kb;exact Sd.VB (u:=tops) p rfl (by rw [e]; omega) (by rw [e]; omega)
def PL:Sp:=fun vs H Q _=>∃ (a:Addr) (xs:List Row) (p:Int) (n:Nat) (W k:Int),vs=[.ref a,.int p]/\TabAt H a xs/\GT xs n W (bY xs) k/\Cp n W (bY xs) k/\(dG xs).Pairwise Tb.Lt/\0<=p/\p<=1000000000 ∧
 ∀ (r:Addr) (H':Hp) (l:Int×Int) (u:Int),aN H H'->Tq H' r l->1<=u->u<=wsum xs->Sd.FQ l (u*bY xs) ((p+k)*wsum xs)->Tb.Lv (bY xs) (p*Tb.W (dG xs)*bY xs) l.1 l.2 (dG xs)->Q (.ref r) H'
theorem Qg {xs ys:List Row}{n:Nat}{W M k l0 l1:Int}(g:GT xs n W M k)(f:Sd.Fq l0 l1 M k)(o:Out ((dG xs).map (Tb.iZ l0 l1)) ys)(hl:ys.length<=xs.length):GT ys n W M k:=by
 have cw:∀ r:Tb.Rw,(Tb.iZ l0 l1 r).w=r.w:=fun r=>by unfold Tb.iZ; split <;> rfl
 have pw:∀ r∈(dG xs).map (Tb.iZ l0 l1),1<=r.w:=fun r hr=>by
  obtain ⟨p,hp,rfl⟩:=aJe.mp hr;obtain ⟨x,hx,rfl⟩:=aJe.mp hp;rw [cw];exact g.w1 x hx
 have eW:∀ rs:List Tb.Rw,Tb.W (rs.map (Tb.iZ l0 l1))=Tb.W rs:=by
  intro rs
  induction rs with
  | nil=>rfl
  | cons r rs ih=>rw [aJi,Tb.gK,Tb.gK,ih,cw]
 have s:=o.sum pw;rw [eW,<- sE] at s;refine ⟨o.ne fun z=>g.ne (aJ9.mp (aJ9.mp z)),aJc hl g.len,fun y hy=>(o.w y hy).1,aJF s g.ws,g.mp,fun y hy=>?_⟩;obtain ⟨p,hp,e1,e2⟩:=o.key hy;obtain ⟨q,hq,rfl⟩:=aJe.mp hp;obtain ⟨x,hx,rfl⟩:=aJe.mp hq;rw [<- e1,<- e2];unfold Tb.iZ
 split
 ·exact f
 ·exact g.fq x hx
theorem RX {xs ys:List Row}{n:Nat}{W M k l0 l1:Int}(g:GT xs n W M k)(c:Cp n W M k)(f:Sd.Fq l0 l1 M k)(e:dG ys=(dG xs).map (Tb.iZ l0 l1)):PB ys:=fun y hy=>by
 have m:y.r∈(dG xs).map (Tb.iZ l0 l1):=by rw [<- e]; exact aJe.mpr ⟨y,hy,rfl⟩
 obtain ⟨p,hp,ep⟩:=aJe.mp m;obtain ⟨x,hx,rfl⟩:=aJe.mp hp;have pb:=g.pb c x hx;have lb:=qW f g.mp c.m c.k0 c.k;unfold Tb.iZ at ep
 by_cases cc:l0*x.r.b<x.r.t*l1
 ·rw [if_pos cc] at ep;have e1:l0=y.t:=congrArg Tb.Rw.t ep;have e2:l1=y.b:=congrArg Tb.Rw.b ep;have e3:x.w=y.w:=congrArg Tb.Rw.w ep;rw [<- e1,<- e2,<- e3];exact ⟨f.fr,by omega,by omega,pb.2.2.2.1,pb.2.2.2.2⟩
 ·rw [if_neg cc] at ep;have e1:x.t=y.t:=congrArg Tb.Rw.t ep;have e2:x.b=y.b:=congrArg Tb.Rw.b ep;have e3:x.w=y.w:=congrArg Tb.Rw.w ep;rw [<- e1,<- e2,<- e3];exact pb
def K6 (Pt:Addr)(lp:Pos):Sp:=fun vs H Q _=>∃ (a l:Addr) (xs:List Row) (x:Int×Int) (n:Nat) (W M k:Int),vs=[.ref a,.ref l]/\TabAt H a xs/\GT xs n W M k/\Cp n W M k/\Tq H l x/\Sd.FQ x M k/\cX Pt lp fO H ∧
 ∀ (r:Addr) (H':Hp) (ys:List Row),bH Pt H H'->cX Pt lp fO H'->H r=none->TabAt H' r ys->GT ys n W M k->Out ((dG xs).map (Tb.iZ x.1 x.2)) ys->Q (.ref r) H'
def Ke (Pt:Addr)(lp:Pos):Sp:=fun vs H Q _=>∃ (a:Addr) (es:List Ent) (k0:Nat) (W0 kk:Int),vs=[.ref a]/\wA H a es/\GM es k0 W0 kk/\cX Pt lp fO H ∧
 ∀ (r:Addr) (H':Hp) (ys:List Row),bH Pt H H'->cX Pt lp fO H'->H r=none->TabAt H' r ys->GT ys (es.length*k0) (4000*Sd.fH (cT es)) (Sd.fH (es.map fun e=>bY e.ys)) kk->Out (partsOf (c7 (cT es)) es) ys->ys.length<=(partsOf (c7 (cT es)) es).length->Q (.ref r) H'
def Iw (xs:List Row)(d m:Nat):Prop:=GT xs m (wB d m) (bY xs) (kK d)/\bY xs<=2^(be d*m)
theorem Iw.up {xs:List Row}{d k:Nat}(h:Iw xs d k)(hk:k<=12):Iw xs d 12:=by
 obtain ⟨g,l⟩:=h;have a:wB d k<=wB d 12:=Sd.eU (aJ8 _ hk);exact ⟨⟨g.ne,aJc g.len hk,g.w1,aJF g.ws a,g.mp,g.fq⟩,aJF l (Sd.eU (aJ8 _ hk))⟩
inductive Ae (d:Nat)(f:Int×Sd.Sd->Nat):List Ent->List (Int×Sd.Sd)->Prop
 | nil:Ae d f [] []
 | cons {e:Ent}{t:Int×Sd.Sd}{es:List Ent}{rs:List (Int×Sd.Sd)} (g:Iw e.ys d (f t)) (h:Ae d f es rs):Ae d f (e::es) (t::rs)
theorem Ae.snoc {d:Nat}{f:Int×Sd.Sd->Nat}{es:List Ent}{rs:List (Int×Sd.Sd)}(h:Ae d f es rs){e:Ent}{t:Int×Sd.Sd}(g:Iw e.ys d (f t)):Ae d f (es++[e]) (rs++[t]):=by
 induction h with
 | nil=>exact .cons g .nil
 | cons g' _ ih=>exact .cons g' ih
structure AeB (d n:Nat)(es:List Ent):Prop where
 t0:0<Sd.fH (cT es)
 t:Sd.fH (cT es)<=2^((12*d+1)*n)
 l:Sd.fH (es.map fun e=>bY e.ys)<=2^(be d*n)
 p:∀ S,(partsOf S es).length<=n
theorem Ae.b {d:Nat}{f:Int×Sd.Sd->Nat}{es:List Ent}{rs:List (Int×Sd.Sd)}(h:Ae d f es rs):AeB d (rs.map f).sum es:=by
 induction h with
 | nil=>exact ⟨by decide,by show (1:Int)<=_; simp,by show (1:Int)<=_; simp,fun _=>aJD _⟩
 | @cons e t es rs g _ ih =>
  have a:=g.1.tot;have b:=g.1.ws;unfold wB at b;have c:=g.1.mp;have e1:cT (e::es)=wsum e.ys::cT es:=rfl;have lp:0<Sd.fH (es.map fun e=>bY e.ys)∨True:=.inr trivial;rw [aJi,aJu];refine ⟨?_,?_,?_,fun S=>?_⟩
  ·rw [e1]; exact aKh (by omega) ih.t0
  ·rw [e1,aL6,aKI];exact aJF (aJo b (aJn ih.t0)) (aJq ih.t (aJn (Sd.cI _)))
  ·rw [aJi,aL6,aKI];exact aJF (aJq ih.l (aJn c)) (aJo g.2 (aJn (Sd.cI _)))
  ·have e2:partsOf S (e::es)=(e.ys.map fun y=>⟨y.t,y.b,q9 S e*y.w⟩)++partsOf S es:=rfl;rw [e2,aJv,aI8];have:=g.1.len;have:=ih.p S;omega
theorem Ae.all {d:Nat}{f:Int×Sd.Sd->Nat}{es:List Ent}{rs:List (Int×Sd.Sd)}(h:Ae d f es rs)(hf:∀ t∈rs,f t<=12):∀ e∈es,Iw e.ys d 12:=by
 induction h with
 | nil=>intro e he; cases he
 | @cons e t es rs g _ ih =>
  intro x hx;rcases aJx.mp hx with z | z
  ·subst z; exact g.up (hf t aJa)
  ·exact ih (fun u hu=>hf u (aI9 _ hu)) x z
theorem VR {es:List Ent}{d:Nat}(hd:d<=4)(ne:es≠[])(l4:es.length<=4)(w:∀ e∈es,1<=e.w/\e.w<=1000)(g:∀ e∈es,Iw e.ys d 12):GM es 12 (wB d 12) (kK d) :=
 ⟨ne,l4,by decide,by omega,w,fun e he=>(g e he).1,fun e he=>GQ hd (by decide) (g e he).2⟩
structure Mx (es:List Ent)(ys:List Row)(d m:Nat):Prop where
 g:GT ys m (wB (d+1) m) (bY ys) (kK d)
 l:bY ys<=2^(be d*m)
theorem VF {es:List Ent}{ys:List Row}{d m n n0:Nat}(ab:AeB d n es)(hn:n<=m)(hm1:1<=m)(o:ys.length<=n)(h:GT ys n0 (4000*Sd.fH (cT es)) (Sd.fH (es.map fun e=>bY e.ys)) (kK d)):Mx es ys d m:=by
 have x2:(12*d+1)*n<=(12*d+1)*m:=aJ8 _ hn;have x3:12+(12*d+1)*m<=(12*(d+1)+1)*m:=by
  have:(12*(d+1)+1)*m=12*m+(12*d+1)*m:=by rw [show 12*(d+1)+1=12+(12*d+1) by omega,Nat.add_mul]
  omega
 have y2:be d*n<=be d*m:=aJ8 _ hn;have W1:4000*Sd.fH (cT es)<=wB (d+1) m:=by
  have a:4000*Sd.fH (cT es)<=2^12*Sd.fH (cT es):=aJo (by decide) (aJn ab.t0);have b:(2:Int)^12*Sd.fH (cT es)<=2^12*2^((12*d+1)*n):=aJq ab.t (by decide);rw [<- aKI] at b;have c:(2:Int)^(12+(12*d+1)*n)<=wB (d+1) m:=Sd.eU (by omega);omega
 obtain ⟨o1,o2⟩:=h.own;have M1:bY ys<=2^(be d*m):=aJF (aJF o2 ab.l) (Sd.eU (by omega));exact ⟨⟨o1.ne,aJc o hn,o1.w1,aJF o1.ws W1,o1.mp,o1.fq⟩,M1⟩
theorem Mx.cp {es:List Ent}{ys:List Row}{d m:Nat}(x:Mx es ys d m)(hd:d+1<=4)(hm:m<=12):Cp m (wB (d+1) m) (bY ys) (kK d):=by
 have a:=GQ (d:=d) (by omega) hm x.l;have b:=GQ (d:=d+1) (m:=m) (M:=1) hd hm (by have:=Sd.cI (be (d+1)*m); omega);exact ⟨hm,b.w,a.m,a.k0,a.k⟩
theorem k30 (d:Nat):(1000000000:Int)<=kK d:=by
 have h:30<=ka d:=by
  induction d with
  | zero=>exact aJd _
  | succ d ih=>show 30<=ka d+(12*(d+1)+1)*12+1; omega
 have:=Sd.eU h;have e:(2:Int)^30=1073741824:=by decide
 unfold kK;omega
structure Lx (ys:List Row)(l:Int×Int)(M k:Int)(d m:Nat):Prop where
 g:GT ys m (wB (d+1) m) M k
 c:Cp m (wB (d+1) m) M k
 f:Sd.FQ l M k
 m:M<=2^(be (d+1)*m)
 k:k<=kK (d+1)
theorem Vg {es:List Ent}{ys:List Row}{d m:Nat}{p u:Int}{l:Int×Int}(x:Mx es ys d m)(hd:d+1<=4)(hm:m<=12)(p0:0<=p)(p9:p<=1000000000)(u1:1<=u)(u2:u<=wsum ys)(f:Sd.FQ l (u*bY ys) ((p+kK d)*wsum ys)) :
  Lx ys l (u*bY ys) ((p+kK d)*wsum ys) d m:=by
 have kp:=Sd.cI (ka d);have kp:0<kK d:=kp;have k9:=k30 d;have ws:=x.g.ws;have w1:=x.g.tot;have mp:=x.g.mp;have wp:(0:Int)<wB (d+1) m:=Sd.cI _;have kk:kK d<=(p+kK d)*wsum ys:=by
  have a:(p+kK d)*1<=(p+kK d)*wsum ys:=aJq w1 (by omega);omega
 have M1:u*bY ys<=2^(be (d+1)*m):=by
  have a:u*bY ys<=wB (d+1) m*2^(be d*m):=aJF (aJo (aJF u2 ws) (aJn mp)) (aJq x.l (aJn wp));unfold wB at a;rw [<- aKI] at a;refine aJF a (Sd.eU ?_);have e:be (d+1)*m=be d*m+(12*(d+1)+1)*m:=by rw [<- Nat.add_mul]; rfl
  omega
 have K1:(p+kK d)*wsum ys<=kK (d+1):=by
  have a:(p+kK d)*wsum ys<=(2*kK d)*wB (d+1) m:=aJF (aJo (by omega) (by omega)) (aJq ws (by omega));have e:(2*kK d)*wB (d+1) m=2^(ka d+1+(12*(d+1)+1)*m):=by
   unfold kK wB;rw [aKI,aKL]
   grind
  rw [e] at a;refine aJF a (Sd.eU ?_);show _<=ka d+(12*(d+1)+1)*12+1;have:=aJ8 (12*(d+1)+1) hm;omega
 have c1:=GQ (d:=d+1) hd hm M1;refine ⟨⟨x.g.ne,x.g.len,x.g.w1,x.g.ws,aKh (by omega) mp,fun y hy=>Sd.Fq.mono (x.g.fq y hy) ⟨u,by grind⟩ kk⟩,⟨hm,c1.w,c1.m,by omega,aJF K1 c1.k⟩,f,M1,K1⟩
theorem TY {ys zs:List Row}{l:Int×Int}{M k:Int}{d m:Nat}(x:Lx ys l M k d m)(g:GT zs m (wB (d+1) m) M k):Iw zs (d+1) m:=by
 obtain ⟨a,b⟩:=g.own;exact ⟨⟨a.ne,a.len,a.w1,a.ws,a.mp,fun y hy=>Sd.Fq.mono (a.fq y hy) (aK7 _) x.k⟩,aJF b x.m⟩
end TD
namespace Sd
def V (x:Int×Int):Rat:=(x.1:Rat)/(x.2:Rat)
def yS (a b:Rat):Rat:=if a<b then b else a
def rb (l:Rat):Nat->Sd->Rat
 | 0,_=>0
 | _+1,.en v=>yS l (v:Rat)
 | n+1,.st p rs=>yS l (rs.foldl (fun a r=>a+(r.1:Rat)/(gZ rs:Rat)*rb l n r.2) (-(p:Rat)))
def ZX (l:Rat):Nat->Sd->Rat
 | 0,_=>0
 | _+1,.en v=>(v:Rat)
 | n+1,.st p rs=>rs.foldl (fun a r=>a+(r.1:Rat)/(gZ rs:Rat)*rb l n r.2) (-(p:Rat))
theorem QJ (l:Rat)(n:Nat)(s:Sd):rb l (n+1) s=yS l (ZX l (n+1) s):=by cases s <;> rfl
theorem gC {b:Int}(h:0<b):(0:Rat)<(b:Rat):=by exact_mod_cast h
theorem jR {b:Int}(h:0<b):(b:Rat)≠0:=by have:=gC h; grind
theorem V_lt {x y:Int×Int}(hx:0<x.2)(hy:0<y.2):x.1*y.2<y.1*x.2↔V x<V y:=by
 have p1:=gC hx;have p2:=gC hy;have n1:=jR hx;have n2:=jR hy;have e1:V x*(x.2:Rat)=(x.1:Rat):=by unfold V; grind
 have e2:V y*(y.2:Rat)=(y.1:Rat):=by unfold V; grind
 have pp:(0:Rat)<(x.2:Rat)*(y.2:Rat):=aL7 p1 p2;have c:x.1*y.2<y.1*x.2↔(x.1:Rat)*(y.2:Rat)<(y.1:Rat)*(x.2:Rat):=by
  constructor
  ·intro h; exact_mod_cast h
  ·intro h; exact_mod_cast h
 rw [c,<- e1,<- e2];constructor
 ·intro h
  by_cases z:V x<V y
  ·exact z
  ·have:=aKe (aLB.mp z) (c:=(x.2:Rat)*(y.2:Rat)) (by grind)
   grind
 ·intro h;have:=aK8 h pp
  grind
theorem Rt {x y:Int×Int}(fx:Fr.jD x.1 x.2)(fy:Fr.jD y.1 y.2)(h:V x=V y):x=y:=by
 have n1:=jR fx.pos;have n2:=jR fy.pos;have c:(x.1:Rat)*(y.2:Rat)=(y.1:Rat)*(x.2:Rat):=by unfold V at h; grind
 have c':x.1*y.2=y.1*x.2:=by exact_mod_cast c
 have e:=Fr.Og fx (aJL fy.pos) c';have e2:=Fr.Og fy (aJL fy.pos) (rfl:y.1*y.2=y.1*y.2);exact e.trans e2.symm
def cv (r:Tb.Rw):Rat:=(r.t:Rat)/(r.b:Rat)
def up (l:Rat)(ys:List Tb.Rw):Rat:=(ys.map fun r=>(r.w:Rat)*(yS l (cv r)-l)).sum
def dJ (ys:List Tb.Rw):Rat:=(ys.map fun r=>(r.w:Rat)).sum
theorem rO (l:Rat):up l []=0:=rfl
theorem gP (l:Rat)(r:Tb.Rw)(ys:List Tb.Rw):up l (r::ys)=(r.w:Rat)*(yS l (cv r)-l)+up l ys:=by unfold up; rw [aJi,aJu]
theorem iK (r:Tb.Rw)(ys:List Tb.Rw):dJ (r::ys)=(r.w:Rat)+dJ ys:=by unfold dJ; rw [aJi,aJu]
theorem Hl (l:Rat)(xs ys:List Tb.Rw):up l (xs++ys)=up l xs+up l ys:=by unfold up; rw [aJj,aLF]
theorem Cy (xs ys:List Tb.Rw):dJ (xs++ys)=dJ xs+dJ ys:=by unfold dJ; rw [aJj,aLF]
theorem wJ:∀ ys:List Tb.Rw,dJ ys=((Tb.W ys:Int):Rat)
 | []=>rfl
 | r::ys=>by rw [iK,Tb.gK,wJ ys]; push_cast; rfl
theorem GF {f:Int->Int->Rat}{r:Tb.Rw}:∀ {ys:List Tb.Rw},ys.Pairwise Tb.Lt->((ys.map fun y=>(((if r.t=y.t/\r.b=y.b then r.w else 0:Int)):Rat)*f y.t y.b).sum=if (∃ y∈ys,y.t=r.t/\y.b=r.b) then (r.w:Rat)*f r.t r.b else 0)
 | [],_=>by simp
 | y::ys,so=>by
  obtain ⟨h1,h2⟩:=aKT.mp so;rw [aJi,aJu,GF (f:=f) (r:=r) h2]
  by_cases e:r.t=y.t/\r.b=y.b
  ·have no:¬ ∃ z∈ys,z.t=r.t/\z.b=r.b:=by
    rintro ⟨z,hz,e1,e2⟩;exact Tb.Jc (h1 z hz) (by omega) (by omega)
   rw [if_pos e,if_neg no,if_pos ⟨y,aJa,e.1.symm,e.2.symm⟩,<- e.1,<- e.2]
   grind
  ·rw [if_neg e]
   by_cases h:∃ z∈ys,z.t=r.t/\z.b=r.b
   ·obtain ⟨z,hz,ez⟩:=h;rw [if_pos ⟨z,hz,ez⟩,if_pos ⟨z,aI9 _ hz,ez⟩]
    push_cast
    grind
   ·rw [if_neg h,if_neg]
    ·push_cast
     grind
    ·rintro ⟨z,hz,ez⟩;rcases aJx.mp hz with w | w
     ·subst w; exact e ⟨ez.1.symm,ez.2.symm⟩
     ·exact h ⟨z,w,ez⟩
theorem Gg {α:Type}{f g:α->Rat}:∀ l:List α,(l.map fun x=>f x+g x).sum=(l.map f).sum+(l.map g).sum
 | []=>by show (0:Rat)=0+0; grind
 | x::l=>by rw [aJi,aJu,Gg l,aJi,aJu,aJi,aJu]; grind
theorem zO {α:Type}{f:α->Rat}(d:Rat):∀ l:List α,(l.map fun x=>d*f x).sum=d*(l.map f).sum
 | []=>by simp
 | x::l=>by rw [aJi,aJu,zO d l,aJi,aJu]; grind
theorem DY {ys:List Tb.Rw}(so:ys.Pairwise Tb.Lt)(f:Int->Int->Rat):∀ {ps:List Tb.Rw},(∀ r∈ps,Tb.uV ys r.t r.b)->(ps.map fun r=>(r.w:Rat)*f r.t r.b).sum=(ys.map fun y=>((Tb.Wt ps y.t y.b:Int):Rat)*f y.t y.b).sum
 | [],_=>by
  have e:(ys.map fun y=>((Tb.Wt [] y.t y.b:Int):Rat)*f y.t y.b)=ys.map fun y=>(0:Rat)*f y.t y.b:=aJS fun y _=>rfl;rw [e,zO];simp
 | r::ps,h=>by
  rw [aJi,aJu,DY so f fun x hx=>h x (aI9 _ hx)];have e:(ys.map fun y=>((Tb.Wt (r::ps) y.t y.b:Int):Rat)*f y.t y.b)=ys.map fun y=>(((if r.t=y.t/\r.b=y.b then r.w else 0:Int)):Rat)*f y.t y.b+((Tb.Wt ps y.t y.b:Int):Rat)*f y.t y.b:=aJS fun y _=>by
   rw [Tb.lF]
   push_cast
   grind
  rw [e,Gg,GF so,if_pos];obtain ⟨y,hy,e1,e2⟩:=h r aJa;exact ⟨y,hy,e1,e2⟩
theorem Bb {ps ys:List Tb.Rw}(h:Tb.Bq ps ys):∃ d:Rat,0<d/\(∀ l,up l ps=d*up l ys)/\dJ ps=d*dJ ys:=by
 obtain ⟨d,d0,hd⟩:=h.d;have hh:∀ r∈ps,Tb.uV ys r.t r.b:=fun r hr=>(h.has r.t r.b).mpr ⟨r,hr,rfl,rfl⟩;have key:∀ f:Int->Int->Rat,(ps.map fun r=>(r.w:Rat)*f r.t r.b).sum=(d:Rat)*(ys.map fun y=>(y.w:Rat)*f y.t y.b).sum:=fun f=>by
  rw [DY h.lt f hh,<- zO]
  congr 1
  refine aJS fun y hy=>?_;rw [hd y hy]
  push_cast
  grind
 refine ⟨(d:Rat),gC d0,fun l=>key fun t b=>yS l ((t:Rat)/(b:Rat))-l,?_⟩;have k1:=key fun _ _=>1;unfold dJ;have e:∀ l:List Tb.Rw,(l.map fun r=>(r.w:Rat)*1)=l.map fun r=>(r.w:Rat):=fun l=>aJS fun r _=>by grind
 rw [e,e] at k1;exact k1
theorem RV (a b:Rat):a<=yS a b:=by unfold yS; split <;> grind
theorem Ut {l:Rat}:∀ {ys:List Tb.Rw},(∀ r∈ys,1<=r.w)->0<=up l ys
 | [],_=>by rw [rO]; grind
 | r::ys,h=>by
  have a:=Ut (l:=l) (ys:=ys) fun x hx=>h x (aI9 _ hx);have w:=gC (show 0<r.w by have:=h r aJa; omega);have m:=RV l (cv r);have b:0<=(r.w:Rat)*(yS l (cv r)-l):=Rat.mul_nonneg (by grind) (by grind);rw [gP]
  grind
theorem Gu {l l':Rat}(h:l<=l'):∀ {ys:List Tb.Rw},(∀ r∈ys,1<=r.w)->up l' ys<=up l ys
 | [],_=>by rw [rO,rO]; grind
 | r::ys,hw=>by
  have a:=Gu h (ys:=ys) fun x hx=>hw x (aI9 _ hx);have w:=gC (show 0<r.w by have:=hw r aJa; omega);have m:yS l' (cv r)-l'<=yS l (cv r)-l:=by unfold yS; split <;> split <;> grind
  have b:=aKv m (c:=(r.w:Rat)) (by grind);rw [gP,gP]
  grind
theorem Lg {ys:List Tb.Rw}(ne:ys≠[])(h:∀ r∈ys,1<=r.w):0<dJ ys:=by
 rw [wJ];exact gC (Tb.JD h ne)
theorem R6 {l0 l1:Int}(hl:0<l1){r:Tb.Rw}(hb:0<r.b):cv (Tb.iZ l0 l1 r)=(if V (l0,l1)<cv r then V (l0,l1) else cv r)/\(Tb.iZ l0 l1 r).w=r.w:=by
 have e:=V_lt (x:=(l0,l1)) (y:=(r.t,r.b)) hl hb;have e:l0*r.b<r.t*l1↔V (l0,l1)<cv r:=e;unfold Tb.iZ
 by_cases h:l0*r.b<r.t*l1
 ·rw [if_pos h,if_pos (e.mp h)];exact ⟨rfl,rfl⟩
 ·rw [if_neg h,if_neg (fun z=>h (e.mpr z))];exact ⟨rfl,rfl⟩
theorem FZ {l0 l1:Int}(hl:0<l1){l:Rat}:∀ {ys:List Tb.Rw},(∀ r∈ys,0<r.b)->up l (ys.map (Tb.iZ l0 l1))=(if l<V (l0,l1) then up l ys-up (V (l0,l1)) ys else 0)/\dJ (ys.map (Tb.iZ l0 l1))=dJ ys
 | [],_=>by
  constructor
  ·simp only [aLw,rO]; split <;> grind
  ·rfl
 | r::ys,h=>by
  obtain ⟨a,b⟩:=FZ (l0:=l0) hl (l:=l) (ys:=ys) fun x hx=>h x (aI9 _ hx);obtain ⟨c,d⟩:=R6 (l0:=l0) hl (h r aJa);rw [aJi,gP,iK,a,b,c,d,iK,gP,gP];refine ⟨?_,rfl⟩;unfold yS
  by_cases h1:l<V (l0,l1)
  ·rw [if_pos h1,if_pos h1]
   by_cases h2:V (l0,l1)<cv r
   ·simp only [if_pos h2];rw [if_pos h1,if_pos (show l<cv r by grind)]
    grind
   ·simp only [if_neg h2]
    by_cases h3:l<cv r
    ·rw [if_pos h3]; grind
    ·rw [if_neg h3]; grind
  ·rw [if_neg h1,if_neg h1];have:¬ l<(if V (l0,l1)<cv r then V (l0,l1) else cv r):=by split <;> grind
   rw [if_neg this]
   grind
theorem Rg {B l0 l1:Int}(hB:0<B)(hl:0<l1):∀ {ys:List Tb.Rw},(∀ r∈ys,0<r.b/\r.b∣B)->((Tb.S B l0 l1 ys:Int):Rat)=(B:Rat)*(l1:Rat)*up (V (l0,l1)) ys
 | [],_=>by rw [rO]; show ((0:Int):Rat)=_; push_cast; grind
 | r::ys,h=>by
  have a:=Rg (l0:=l0) hB hl (ys:=ys) fun x hx=>h x (aI9 _ hx);obtain ⟨hb,dv⟩:=h r aJa;have tm:=Tb.Kd hb hB dv;have ai:=Tb.Hs (l0:=l0) (l1:=l1) hb hB dv;have e:=V_lt (x:=(l0,l1)) (y:=(r.t,r.b)) hl hb;have e:l0*r.b<r.t*l1↔V (l0,l1)<cv r:=e;have n1:=jR hB;have n2:=jR hl;have n3:=jR hb;have tm':((Tb.T B r:Int):Rat)*(r.b:Rat)=(r.t:Rat)*(B:Rat):=by exact_mod_cast tm
  rw [Tb.vZ,gP]
  push_cast
  rw [a];unfold Tb.mx yS
  by_cases c:V (l0,l1)<cv r
  ·rw [if_pos (ai.mpr (e.mpr c)),if_pos c]
   push_cast
   unfold V cv;have t2:((Tb.T B r:Int):Rat)=(r.t:Rat)*(B:Rat)/(r.b:Rat):=by grind
   rw [t2]
   grind
  ·rw [if_neg (fun z=>c (e.mp (ai.mp z))),if_neg c]
   push_cast
   grind
structure LvR (p:Int)(L:Rat)(ys:List Tb.Rw):Prop where
 has:up L ys=(p:Rat)*dJ ys
 more:∀ m:Rat,m<L->(p:Rat)*dJ ys<up m ys
theorem PQ (m:Rat):V (m.num,(m.den:Int))=m:=by
 unfold V;show (m.num:Rat)/((m.den:Int):Rat)=m;rw [<- Rat.divInt_eq_div,Rat.num_divInt_den]
theorem QR {B p l0 l1:Int}{ys:List Tb.Rw}(hB:0<B)(h:∀ r∈ys,0<r.b/\r.b∣B)(L:Tb.Lv B (p*Tb.W ys*B) l0 l1 ys):LvR p (V (l0,l1)) ys:=by
 have n1:=jR hB;have n2:=jR L.pos;have q1:=gC hB;constructor
 ·have a:=Rg (l0:=l0) hB L.pos h;rw [L.has] at a
  push_cast at a
  rw [wJ]
  grind
 ·intro m hm;have mp:(0:Int)<(m.den:Int):=by exact_mod_cast m.den_pos
  have lt:=(V_lt (x:=(m.num,(m.den:Int))) (y:=(l0,l1)) mp L.pos).mpr (by rw [PQ]; exact hm);have b:=L.more m.num m.den lt;have a:=Rg (l0:=m.num) hB mp h;rw [PQ] at a;have b':((p*Tb.W ys*B*(m.den:Int):Int):Rat)<((Tb.S B m.num m.den ys:Int):Rat):=by exact_mod_cast b
  rw [a] at b'
  push_cast at b'
  have q2:=gC mp
  push_cast at q2
  have q3:(0:Rat)<(B:Rat)*(m.den:Rat):=aL7 q1 q2;rw [wJ]
  by_cases z:(p:Rat)*((Tb.W ys:Int):Rat)<up m ys
  ·exact z
  ·have:=aKe (aLB.mp z) (c:=(B:Rat)*(m.den:Rat)) (by grind)
   grind
end Sd
namespace Sd
open TD
structure Mt (s:Sd)(d:Nat)(lv:Int×Int)(ys:List Tb.Rw):Prop where
 a:∀ n,d<n->∀ l:Rat,(rb l n s-l)*dJ ys=up l ys
 b:∀ l:Rat,0<up l ys↔l<V lv
 c:∀ n,d<n->ZX (V lv) n s=V lv
 t:0<dJ ys
inductive Al (d:Nat):List Ent->List (Int×Sd)->Prop
 | nil:Al d [] []
 | cons {e:Ent}{t:Int×Sd}{es:List Ent}{rs:List (Int×Sd)} (w:e.w=t.1) (m:∃ lv,Mt t.2 d lv (dG e.ys)) (h:Al d es rs):Al d (e::es) (t::rs)
theorem Al.snoc {d:Nat}{es:List Ent}{rs:List (Int×Sd)}(h:Al d es rs){e:Ent}{t:Int×Sd}(w:e.w=t.1)(m:∃ lv,Mt t.2 d lv (dG e.ys)):Al d (es++[e]) (rs++[t]):=by
 induction h with
 | nil=>exact .cons w m .nil
 | cons w' m' _ ih=>exact .cons w' m' ih
theorem Df (l:Rat)(k:Int):∀ ys:List Row,up l (ys.map fun y=>⟨y.t,y.b,k*y.w⟩)=(k:Rat)*up l (dG ys)/\dJ (ys.map fun y=>(⟨y.t,y.b,k*y.w⟩:Tb.Rw))=(k:Rat)*dJ (dG ys)
 | []=>by
  constructor
  ·show (0:Rat)=(k:Rat)*0; grind
  ·show (0:Rat)=(k:Rat)*0; grind
 | y::ys=>by
  obtain ⟨a,b⟩:=Df l k ys;have e:dG (y::ys)=y.r::dG ys:=rfl;rw [aJi,gP,iK,a,b,e,gP,iK];have e2:cv y.r=cv ⟨y.t,y.b,k*y.w⟩:=rfl;have e3:y.r.w=y.w:=rfl;rw [e2,e3]
  push_cast
  constructor <;> grind
theorem Kq {S:Int}{d n:Nat}(hn:d<n)(l:Rat){es:List Ent}{rs:List (Int×Sd)}(al:Al d es rs):(∀ e∈es,1<=wsum e.ys/\wsum e.ys∣S) ->
  up l (partsOf S es)=(S:Rat)*(rs.map fun t=>(t.1:Rat)*(rb l n t.2-l)).sum/\dJ (partsOf S es)=(S:Rat)*((gZ rs:Int):Rat):=by
 induction al with
 | nil =>
  intro _;constructor
  ·show (0:Rat)=(S:Rat)*0; grind
  ·show (0:Rat)=(S:Rat)*((0:Int):Rat); push_cast; grind
 | @cons e t es rs w m _ ih =>
  intro h;obtain ⟨a,b⟩:=ih fun x hx=>h x (aI9 _ hx);obtain ⟨h1,h2⟩:=h e aJa;obtain ⟨lv,mt⟩:=m;have ef:=An h1 h2;have ew:dJ (dG e.ys)=((wsum e.ys:Int):Rat):=by rw [wJ,sE]
  have ef':((q9 S e:Int):Rat)*dJ (dG e.ys)=(t.1:Rat)*(S:Rat):=by
   rw [ew,<- w]
   exact_mod_cast ef
  have ma:=mt.a n hn l;have pe:partsOf S (e::es)=(e.ys.map fun y=>(⟨y.t,y.b,q9 S e*y.w⟩:Tb.Rw))++partsOf S es:=rfl;obtain ⟨u1,u2⟩:=Df l (q9 S e) e.ys;have wt:gZ (t::rs)=t.1+gZ rs:=by unfold gZ; rw [aJi,aJu]
  rw [pe,Hl,Cy,u1,u2,a,b,aJi,aJu,wt,<- ma,ef']
  push_cast
  constructor
  ·have:((q9 S e:Int):Rat)*((rb l n t.2-l)*dJ (dG e.ys))=(rb l n t.2-l)*(((q9 S e:Int):Rat)*dJ (dG e.ys)):=by grind
   rw [this,ef']
   grind
  ·grind
theorem Dt (W l:Rat)(n:Nat):∀ (rs:List (Int×Sd)) (z:Rat),rs.foldl (fun a r=>a+(r.1:Rat)/W*rb l n r.2) z=z+(rs.map fun r=>(r.1:Rat)/W*rb l n r.2).sum
 | [],z=>by show z=z+0; grind
 | r::rs,z=>by rw [aLE,Dt W l n rs,aJi,aJu]; grind
theorem zB {W:Rat}(hW:W≠0)(l:Rat)(n:Nat):∀ rs:List (Int×Sd),(rs.map fun r=>(r.1:Rat)/W*rb l n r.2).sum=(rs.map fun t=>(t.1:Rat)*(rb l n t.2-l)).sum/W+l*((gZ rs:Int):Rat)/W
 | []=>by show (0:Rat)=0/W+l*((0:Int):Rat)/W; push_cast; grind
 | r::rs=>by
  have wt:gZ (r::rs)=r.1+gZ rs:=by unfold gZ; rw [aJi,aJu]
  rw [aJi,aJu,zB hW l n rs,aJi,aJu,wt]
  push_cast
  grind
theorem Pz {p:Int}{rs:List (Int×Sd)}(hW:0<gZ rs)(l:Rat)(n:Nat):ZX l (n+1) (.st p rs)=l-(p:Rat)+(rs.map fun t=>(t.1:Rat)*(rb l n t.2-l)).sum/((gZ rs:Int):Rat):=by
 have ne:=jR hW;show rs.foldl (fun a r=>a+(r.1:Rat)/(gZ rs:Rat)*rb l n r.2) (-(p:Rat))=_;rw [Dt,zB ne]
 grind
theorem XD (v:Int)(d:Nat):Mt (.en v) d (v,1) [⟨v,1,1⟩]:=by
 have e1:V (v,1)=(v:Rat):=by unfold V; push_cast; grind
 have e2:cv ⟨v,1,1⟩=(v:Rat):=e1;have e3:dJ [⟨v,1,1⟩]=1:=by rw [iK]; show ((1:Int):Rat)+0=1; push_cast; grind
 have e4:∀ l:Rat,up l [⟨v,1,1⟩]=yS l (v:Rat)-l:=fun l=>by rw [gP,e2,rO]; push_cast; grind
 refine ⟨fun n hn l=>?_,fun l=>?_,fun n hn=>?_,by rw [e3]; grind⟩
 ·obtain ⟨n,rfl⟩:∃ k,n=k+1:=⟨n-1,by omega⟩
  rw [e3,e4];show (yS l (v:Rat)-l)*1=_
  grind
 ·rw [e4,e1];unfold yS
  split <;> grind
 ·obtain ⟨n,rfl⟩:∃ k,n=k+1:=⟨n-1,by omega⟩
  rw [e1]
  rfl
theorem X8 {d:Nat}{es:List Ent}{rs:List (Int×Sd)}{S p:Int}{lv:Int×Int}{ys zs:List Tb.Rw}(al:Al d es rs)(hS:0<S)(hd:∀ e∈es,1<=wsum e.ys/\wsum e.ys∣S)(hW:0<gZ rs)(o:Tb.Bq (partsOf S es) ys)(ne:ys≠[])(hw:∀ r∈ys,1<=r.w)(hb:∀ r∈ys,0<r.b)
  (lp:0<lv.2) (L:LvR p (V lv) ys) (o2:Tb.Bq (ys.map (Tb.iZ lv.1 lv.2)) zs):Mt (.st p rs) (d+1) lv zs:=by
 obtain ⟨k1,k1p,u1,t1⟩:=Bb o;obtain ⟨k2,k2p,u2,t2⟩:=Bb o2;have Tp:=Lg ne hw;have Wp:=gC hW;have Sp:=gC hS;obtain ⟨_,tc⟩:=FZ (l0:=lv.1) lp (l:=0) hb;have t2':dJ ys=k2*dJ zs:=by rw [<- tc,t2]
 have op:∀ n,d<n->∀ l:Rat,ZX l (n+1) (.st p rs)=l-(p:Rat)+up l ys/dJ ys:=fun n hn l=>by
  obtain ⟨a,b⟩:=Kq hn l al hd;rw [Pz hW];rw [u1] at a;rw [t1] at b;have n1:((gZ rs:Int):Rat)≠0:=by grind
  have n2:dJ ys≠0:=by grind
  have n3:(S:Rat)≠0:=by grind
  have n4:k1≠0:=by grind
  have c:(rs.map fun t=>(t.1:Rat)*(rb l n t.2-l)).sum*dJ ys=up l ys*((gZ rs:Int):Rat):=by
   have e1:(S:Rat)*((rs.map fun t=>(t.1:Rat)*(rb l n t.2-l)).sum*dJ ys)*k1=(S:Rat)*(up l ys*((gZ rs:Int):Rat))*k1:=by grind
   grind
  grind
 have cap:∀ l:Rat,k2*up l zs=if l<V lv then up l ys-(p:Rat)*dJ ys else 0:=fun l=>by
  rw [<- u2,(FZ (l0:=lv.1) lp (l:=l) hb).1];show (if l<V lv then up l ys-up (V lv) ys else 0)=_;rw [L.has]
 have key:∀ l:Rat,(yS l (l-(p:Rat)+up l ys/dJ ys)-l)*dJ ys=if l<V lv then up l ys-(p:Rat)*dJ ys else 0:=fun l=>by
  have n2:dJ ys≠0:=by grind
  have q:up l ys/dJ ys*dJ ys=up l ys:=by grind
  by_cases h:l<V lv
  ·have m:=L.more l h;have g:(p:Rat)<up l ys/dJ ys:=by
    by_cases z:(p:Rat)<up l ys/dJ ys
    ·exact z
    ·have:=aKe (aLB.mp z) (c:=dJ ys) (by grind)
     grind
   unfold yS;rw [if_pos h,if_pos (by grind)]
   grind
  ·have m:=Gu (l:=V lv) (l':=l) (by grind) hw;rw [L.has] at m;have g:¬ (p:Rat)<up l ys/dJ ys:=fun z=>by
    have:=aK8 z Tp
    grind
   unfold yS;rw [if_neg h,if_neg (by grind)]
   grind
 have tz:0<dJ zs:=by
  by_cases z:0<dJ zs
  ·exact z
  ·have:=aKv (aLB.mp z) (c:=k2) (by grind)
   grind
 refine ⟨fun n hn l=>?_,fun l=>?_,fun n hn=>?_,tz⟩
 ·obtain ⟨n,rfl⟩:∃ k,n=k+1:=⟨n-1,by omega⟩
  rw [QJ,op n (by omega) l];have a:=key l;rw [<- cap l,t2'] at a;have n4:k2≠0:=by grind
  rw [t2']
  grind
 ·have c:=cap l;have n4:k2≠0:=by grind
  by_cases h:l<V lv
  ·have m:=L.more l h;rw [if_pos h] at c;refine ⟨fun _=>h,fun _=>?_⟩
   by_cases z:0<up l zs
   ·exact z
   ·have:=aKv (aLB.mp z) (c:=k2) (by grind)
    grind
  ·rw [if_neg h] at c;refine ⟨fun z=>?_,fun z=>absurd z h⟩;have:=Rat.mul_lt_mul_of_pos_left z k2p
   grind
 ·obtain ⟨n,rfl⟩:∃ k,n=k+1:=⟨n-1,by omega⟩
  rw [op n (by omega),L.has];have n2:dJ ys≠0:=by grind
  grind
def Rv (s:Sd)(d:Nat)(lv:Int×Int):Prop:=∃ ys,Mt s d lv ys
theorem Rv.iff {s:Sd}{d:Nat}{lv:Int×Int}(h:Rv s d lv){n:Nat}(hn:d<n)(l:Rat):l<V lv↔l<rb l n s:=by
 obtain ⟨ys,m⟩:=h;rw [<- m.b l,<- m.a n hn l];have t:=m.t;constructor
 ·intro z
  by_cases y:l<rb l n s
  ·exact y
  ·have:=aKe (a:=rb l n s-l) (b:=0) (c:=dJ ys) (by grind) (by grind)
   grind
 ·intro z;exact aL7 (by grind) t
theorem Nf {a b:Rat}(h:∀ l:Rat,l<a↔l<b):a=b:=by
 have h1:=h a;have h2:=h b
 grind
theorem Rv.one {s:Sd}{d:Nat}{lv lw:Int×Int}(h:Rv s d lv)(h':Rv s d lw)(f:Fr.jD lv.1 lv.2)(f':Fr.jD lw.1 lw.2):lv=lw :=
 Rt f f' (Nf fun l=>(h.iff (aKK d) l).trans (h'.iff (aKK d) l).symm)
end Sd
namespace Sd
structure Lw (l:Int×Int):Prop where
 fr:Fr.jD l.1 l.2
 b:l.2<=2^1500
 lo:-(2^1530*l.2)<=l.1
 hi:l.1<=2^1530*l.2
theorem p30:(1000000000:Int)<=2^1530:=by decide +kernel
theorem Lw.fq {l:Int×Int}(h:Lw l):FQ l l.2 (2^1530):=⟨h.fr,aK7 _,h.lo,h.hi⟩
end Sd
namespace TD
open PySem L2
open Builtin.Int (intBits)
theorem Va {x:Int×Int}{N k:Int}(f:Sd.FQ x N k)(hN:0<N)(hn:N<=2^2200)(k0:0<=k)(hk:k<=2^1600):Z4 x:=by
 have h:=qW f hN hn k0 hk;exact ⟨by omega,by omega,f.fr.pos⟩
theorem Dp {l:Int×Int}(h:Sd.Lw l):Z4 l:=Va h.fq h.fr.pos (aJF h.b (Sd.eU (by decide))) (aJn (Sd.cI _)) (Sd.eU (by decide))
end TD
namespace Sd
def nE:Nat->Sd->Int
 | 0,_=>0
 | _+1,.en _=>1
 | n+1,.st _ rs=>(rs.map fun r=>nE n r.2).sum
def mxL (l:List Int):Int:=l.foldl max 0
def nS:Nat->Sd->Int
 | 0,_=>0
 | _+1,.en _=>0
 | n+1,.st _ rs=>1+mxL (rs.map fun r=>nS n r.2)
theorem Dn:∀ (l:List Int) (a:Int),a<=l.foldl max a/\(∀ x∈l,x<=l.foldl max a)/\(l.foldl max a=a∨l.foldl max a∈l)
 | [],a=>⟨aJO _,(fun _ h=>nomatch h),.inl rfl⟩
 | y::l,a=>by
  obtain ⟨h1,h2,h3⟩:=Dn l (max a y);rw [aLE];refine ⟨by omega,fun x hx=>?_,?_⟩
  ·rcases aJx.mp hx with e | e
   ·subst e; omega
   ·exact h2 x e
  ·rcases h3 with e | e
   ·rw [e]
    by_cases z:a<=y
    ·right; rw [show max a y=y by omega]; exact aJa
    ·left; omega
   ·exact .inr (aI9 _ e)
theorem RT {l:List Int}{M:Int}(h0:∀ x∈l,0<=x)(hm:M∈l)(hx:∀ x∈l,x<=M):M=mxL l:=by
 obtain ⟨h1,h2,h3⟩:=Dn l 0;have a:=h2 M hm;unfold mxL;rcases h3 with e | e
 ·have:=h0 M hm;omega
 ·have:=hx _ e;omega
theorem Z2 {s:Sd}{d m:Nat}(ok:Ok s d m):∀ n,d<n->nE n s=nE (d+1) s:=by
 induction ok with
 | en _ _ _=>intro n hn; obtain ⟨n,rfl⟩:∃ k,n=k+1:=⟨n-1,by omega⟩; rfl
 | @st p rs d m k h0 h9 ne l4 w sub hk ih =>
  intro n hn;obtain ⟨n,rfl⟩:∃ k,n=k+1:=⟨n-1,by omega⟩
  show (rs.map fun r=>nE n r.2).sum=(rs.map fun r=>nE (d+1) r.2).sum
  congr 1
  exact aJS fun r hr=>ih r hr n (by omega)
theorem Ok.nE {s:Sd}{d m:Nat}(ok:Ok s d m):∀ n,d<n->nE n s<=(m:Int):=by
 induction ok with
 | en _ _ hm=>intro n hn; obtain ⟨n,rfl⟩:∃ k,n=k+1:=⟨n-1,by omega⟩; show (1:Int)<=_; omega
 | @st p rs d m k h0 h9 ne l4 w sub hk ih =>
  intro n hn;obtain ⟨n,rfl⟩:∃ k,n=k+1:=⟨n-1,by omega⟩
  show (rs.map fun r=>Sd.nE n r.2).sum<=_;have key:∀ l:List (Int×Sd),(∀ r∈l,r∈rs)->(l.map fun r=>Sd.nE n r.2).sum<=(((l.map k).sum:Nat):Int):=by
   intro l
   induction l with
   | nil=>intro _; exact aJO _
   | cons r l ih2 =>
    intro h;have a:=ih2 fun x hx=>h x (aI9 _ hx);have b:=ih r (h r aJa) n (by omega);rw [aJi,aJu,aJi,aJu]
    push_cast
    omega
  have a:=key rs fun r hr=>hr;omega
end Sd
namespace TD
open PySem L2
open Builtin.Int (intBits)
structure Cs where
 e:Addr
 s:Addr
def fB (n k:Int)(l cp:Addr):List (Str×V):=[("end_count",.int n),("stage_count",.int k),("level",.ref l),("cap_rows",.ref cp)]
def fE (n k:Int)(l cp:Addr)(v:Int):List (Str×V):=[("end_count",.int n),("stage_count",.int k),("level",.ref l),("cap_rows",.ref cp),("worth",.int v)]
def fS (n k:Int)(l cp:Addr)(p:Int)(r:Addr):List (Str×V):=[("end_count",.int n),("stage_count",.int k),("level",.ref l),("cap_rows",.ref cp),("price",.int p),("rows",.ref r)]
structure RQ (H:Hp)(l cp:Addr)(s:Sd.Sd)(lq:Int×Int)(xs:List Row)(n k:Int)(d m:Nat):Prop where
 lv:Tq H l lq
 caps:KR H cp xs
 gs:Iw xs d m
 so:(dG xs).Pairwise Tb.Lt
 n1:1<=n
 nm:n<=(m:Int)
 k0:0<=k
 kd:k<=(d:Int)
 mt:Sd.Mt s d lq (dG xs)
 lw:Sd.Lw lq
 nx:n=Sd.nE (d+1) s
 kx:k=Sd.nS (d+1) s
inductive dU (c:Cs)(H:Hp):Addr->Sd.Sd->Nat->Nat->Prop
 | en {x dx l cp:Addr}{v n k:Int}{d m:Nat}{xs:List Row} (h:H x=some (.ins c.e dx (fE n k l cp v))) (vv:RQ H l cp (.en v) (v,1) xs n k d m) (ok:Sd.Ok (.en v) d m):dU c H x (.en v) d m
 | st {x dx l cp r:Addr}{p n k:Int}{lv:Int×Int}{d m:Nat}{j:Int×Sd.Sd->Nat}{xs:List Row}{rs:List (Int×Sd.Sd)}{ps ys:List Addr} (h:H x=some (.ins c.s dx (fS n k l cp p r))) (vv:RQ H l cp (.st p rs) lv xs n k (d+1) m) (g:H r=some (.tup (ps.map V.ref)))
   (lp:ps.length=rs.length) (ly:ys.length=rs.length) (row:∀ (i:Nat) q y t,ps[i]? = some q->ys[i]? = some y->rs[i]? = some t->H q=some (.tup [.int t.1,.ref y])) (sub:∀ (i:Nat) y t,ys[i]? = some y->rs[i]? = some t->dU c H y t.2 d (j t))
   (p0:0<=p) (p9:p<=1000000000) (ne:rs≠[]) (l4:rs.length<=4) (w:∀ r∈rs,1<=r.1/\r.1<=1000) (hk:(rs.map j).sum<=m):dU c H x (.st p rs) (d+1) m
def Kp (H H':Hp):Prop:=∀ b o,H b=some o->(∀ ps,o≠.tbl ps)->(∀ C dx,o≠.ins C dx [])->H' b=some o
theorem aN.kp {H H':Hp}(s:aN H H'):Kp H H':=fun b o h _ _=>s b o h
theorem bH.kp {P:Addr}{pos:Pos}{qual:Str}{H H':Hp}(s:bH P H H')(t:cX P pos qual H):Kp H H':=fun b o h n _=>s.get t h n
theorem Kp.trans {H H1 H2:Hp}(a:Kp H H1)(b:Kp H1 H2):Kp H H2:=fun c o h n m=>b c o (a c o h n m) n m
theorem Kp.tup {H H':Hp}(k:Kp H H'){b:Addr}{xs:List V}(h:H b=some (.tup xs)):H' b=some (.tup xs):=k _ _ h (fun _ z=>nomatch z) (fun _ _ z=>nomatch z)
theorem Kp.ins {H H':Hp}(k:Kp H H'){b C dx:Addr}{f:Str×V}{fs:List (Str×V)}(h:H b=some (.ins C dx (f::fs))):H' b=some (.ins C dx (f::fs)):=k _ _ h (fun _ z=>nomatch z) (fun _ _ z=>by injection z with _ _ z; exact nomatch z)
theorem jB.kp {H H':Hp}{x:Row}(s:Kp H H')(h:jB H x):jB H' x:=⟨s.tup h.1,s.tup h.2⟩
theorem KR.kp {H H':Hp}{a:Addr}{xs:List Row}(s:Kp H H')(h:KR H a xs):KR H' a xs:=⟨s.tup h.1,fun x hx=>(h.2 x hx).kp s⟩
theorem RQ.kp {H H':Hp}{l cp:Addr}{sd:Sd.Sd}{lv:Int×Int}{xs:List Row}{n k:Int}{d m:Nat}(s:Kp H H')(h:RQ H l cp sd lv xs n k d m):RQ H' l cp sd lv xs n k d m:=⟨s.tup h.lv,h.caps.kp s,h.gs,h.so,h.n1,h.nm,h.k0,h.kd,h.mt,h.lw,h.nx,h.kx⟩
theorem dU.kp {c:Cs}{H H':Hp}{x:Addr}{s:Sd.Sd}{d m:Nat}(h:dU c H x s d m)(k:Kp H H'):dU c H' x s d m:=by
 induction h with
 | en h vv ok=>exact .en (k.ins h) (vv.kp k) ok
 | st h vv g lp ly row sub p0 p9 ne l4 w hk ih=>exact .st (k.ins h) (vv.kp k) (k.tup g) lp ly (fun i q y t a b c=>k.tup (row i q y t a b c)) ih p0 p9 ne l4 w hk
theorem dU.same {c:Cs}{H H':Hp}{x:Addr}{s:Sd.Sd}{d m:Nat}(k:aN H H')(h:dU c H x s d m):dU c H' x s d m:=h.kp (aN.kp k)
theorem JQ {α β:Type}{ys:List α}{rs:List β}(l:ys.length=rs.length){r:β}(h:r∈rs):∃ (i:Nat) (y:α),ys[i]? = some y/\rs[i]? = some r:=by
 obtain ⟨i,hi,e⟩:=aLP h;exact ⟨i,ys[i]'(by omega),aI7 _,by rw [aI7 hi,e]⟩
theorem dU.ok {c:Cs}{H:Hp}{x:Addr}{s:Sd.Sd}{d m:Nat}(h:dU c H x s d m):Sd.Ok s d m:=by
 induction h with
 | en _ _ ok=>exact ok
 | st h vv g lp ly row sub p0 p9 ne l4 w hk ih=>exact .st p0 p9 ne l4 w (fun r hr=>by obtain ⟨i,y,a,b⟩:=JQ ly hr; exact ih i y r a b) hk
inductive jZ (H:Hp):Addr->Sd.Sd->Prop
 | en {a:Addr}{v:Int} (h:H a=some (.tup [.str "end",.int v])):jZ H a (.en v)
 | st {a r:Addr}{p:Int}{rs:List (Int×Sd.Sd)}{ps ys:List Addr} (h:H a=some (.tup [.str "stage",.int p,.ref r])) (g:H r=some (.tup (ps.map V.ref))) (lp:ps.length=rs.length) (ly:ys.length=rs.length)
   (row:∀ (i:Nat) q y t,ps[i]? = some q->ys[i]? = some y->rs[i]? = some t->H q=some (.tup [.int t.1,.ref y])) (sub:∀ (i:Nat) y t,ys[i]? = some y->rs[i]? = some t->jZ H y t.2):jZ H a (.st p rs)
theorem jZ.keep {H H':Hp}{a:Addr}{s:Sd.Sd}(h:jZ H a s)(k:∀ b xs,H b=some (.tup xs)->H' b=some (.tup xs)):jZ H' a s:=by
 induction h with
 | en h=>exact .en (k _ _ h)
 | st h g lp ly row sub ih=>exact .st (k _ _ h) (k _ _ g) lp ly (fun i q y t a b c=>k _ _ (row i q y t a b c)) ih
theorem jZ.same {H H':Hp}{a:Addr}{s:Sd.Sd}(k:aN H H')(h:jZ H a s):jZ H' a s:=h.keep fun b xs e=>k _ _ e
structure CK (K:PySem.W.Frag)(c:Cs):Prop where
 ce:tK K c.e
 cs:tK K c.s
 e1:cA K c.e "end_count"
 e2:cA K c.e "stage_count"
 e3:cA K c.e "level"
 e4:cA K c.e "cap_rows"
 e5:cA K c.e "worth"
 s1:cA K c.s "end_count"
 s2:cA K c.s "stage_count"
 s3:cA K c.s "level"
 s4:cA K c.s "cap_rows"
 s5:cA K c.s "price"
 s6:cA K c.s "rows"
structure CT (K:PySem.W.Frag)(c:Cs):Prop where
 hn:PySem.W.specialIn K (.builtin "object.__class__") "__get__" = some (some (.builtin "getset_descriptor.__get__"))
 htk:PySem.W.takesIn K (.builtin "object.__class__")=some true
 ea:PySem.W.findIn K (.ref c.e) "__class__" = some (some (.builtin "object.__class__"))
 em:PySem.W.mroIn K c.e (.type "object")=some true
 sa:PySem.W.findIn K (.ref c.s) "__class__" = some (some (.builtin "object.__class__"))
 sm:PySem.W.mroIn K c.s (.type "object")=some true
 ee:PySem.W.kitOne K (.ref c.e) (.ref c.e)=some true
 se:PySem.W.kitOne K (.ref c.s) (.ref c.e)=some false
 ss:PySem.W.kitOne K (.ref c.s) (.ref c.s)=some true
def Lk (c:Cs):Sp:=fun vs H Q _=>∃ (x:Addr) (s:Sd.Sd) (d m:Nat),vs=[.ref x]/\dU c H x s d m/\∀ n:Int,1<=n->n<=(m:Int)->n=Sd.nE (d+1) s->Q (.int n) H
def Ls (c:Cs):Sp:=fun vs H Q _=>∃ (x:Addr) (s:Sd.Sd) (d m:Nat),vs=[.ref x]/\dU c H x s d m/\∀ k:Int,0<=k->k<=(d:Int)->k=Sd.nS (d+1) s->Q (.int k) H
def JV (c:Cs):Sp:=fun vs H Q _=>∃ (x:Addr) (s:Sd.Sd) (d m:Nat),vs=[.ref x]/\dU c H x s d m/\∀ (r:Addr) (H':Hp) (xs:List Row),aN H H'->H r=none->TabAt H' r xs->Iw xs d m->(dG xs).Pairwise Tb.Lt->(∃ lv,Sd.Mt s d lv (dG xs)/\Sd.Lw lv)->Q (.ref r) H'
def nT (c:Cs):Sp:=fun vs H Q _=>∃ (x:Addr) (s:Sd.Sd) (d m:Nat),vs=[.ref x]/\dU c H x s d m/\∀ l lv,Tq H l lv->Sd.Lw lv->Sd.Rv s d lv->Q (.ref l) H
def Kw (c:Cs):Sp:=fun vs H Q _=>∃ (x dx C l a:Addr) (n k:Int) (xs:List Row),vs=[.ref x,.int n,.int k,.ref l,.ref a]/\(C=c.e∨C=c.s)/\H x=some (.ins C dx [])/\TabAt H a xs ∧
 ∀ (cp:Addr) (H':Hp),H cp=none->(∀ b o,b≠x->H b=some o->H' b=some o)->H' x=some (.ins C dx (fB n k l cp))->H' cp=some (.tup (refs xs))->Q .non H'
structure uO (c:Cs)(H:Hp)(ps ys:List Addr)(rs:List (Int×Sd.Sd))(d:Nat)(j:Int×Sd.Sd->Nat):Prop where
 lp:ps.length=rs.length
 ly:ys.length=rs.length
 row:∀ (i:Nat) q y t,ps[i]? = some q->ys[i]? = some y->rs[i]? = some t->H q=some (.tup [.int t.1,.ref y])
 sub:∀ (i:Nat) y t,ys[i]? = some y->rs[i]? = some t->dU c H y t.2 d (j t)
theorem uO.kp {c:Cs}{H H':Hp}{ps ys:List Addr}{rs:List (Int×Sd.Sd)}{d:Nat}{j:Int×Sd.Sd->Nat}(h:uO c H ps ys rs d j)(k:Kp H H'):uO c H' ps ys rs d j:=⟨h.lp,h.ly,fun i q y t a b e=>k.tup (h.row i q y t a b e),fun i y t a b=>(h.sub i y t a b).kp k⟩
theorem uO.at_ {c:Cs}{H:Hp}{ps ys:List Addr}{rs:List (Int×Sd.Sd)}{d i:Nat}{j:Int×Sd.Sd->Nat}{v:V}(h:uO c H ps ys rs d j)(hv:(ps.map V.ref)[i]? = some v):∃ q y t,ps[i]? = some q/\ys[i]? = some y/\rs[i]? = some t/\v=.ref q/\H q=some (.tup [.int t.1,.ref y])/\dU c H y t.2 d (j t)/\t∈rs:=by
 rw [aJh] at hv;cases e:ps[i]? with
 | none=>rw [e] at hv; cases hv
 | some q =>
  rw [e] at hv;cases hv;have hi:=(aJl.mp e).1;have l1:=h.lp;have l2:=h.ly;have ey:ys[i]? = some (ys[i]'(by omega)):=aI7 _;have er:rs[i]? = some (rs[i]'(by omega)):=aI7 _;exact ⟨q,_,_,rfl,ey,er,rfl,h.row i q _ _ e ey er,h.sub i _ _ ey er,aJg er⟩
def SM (c:Cs):Sp:=fun vs H Q _=>∃ (x:Addr) (p:Int) (rs:List (Int×Sd.Sd)) (d m i:Nat) (t:Int×Sd.Sd),vs=[.ref x,.int (i:Int)]/\dU c H x (.st p rs) (d+1) m/\rs[i]? = some t/\∀ (y:Addr) (j:Nat),j<=m->dU c H y t.2 d j->Q (.ref y) H
theorem Qx {p q:Addr}{v:Int}{d m:Nat}(h0:0<=v)(h9:v<=1000000000)(hm:1<=m):Iw [⟨p,q,v,1,1⟩] d m:=by
 have e:bY [⟨p,q,v,1,1⟩]=1:=by show c7 [1]=1; decide
 have w1:wsum [(⟨p,q,v,1,1⟩:Row)]=1:=rfl;have wp:=Sd.cI ((12*d+1)*m);have bp:=Sd.cI (be d*m);have k9:=k30 d;unfold Iw;rw [e];refine ⟨⟨by simp,by show 1<=m; exact hm,fun x hx=>?_,by rw [w1]; unfold wB; omega,by decide,fun x hx=>?_⟩,by omega⟩
 ·rw [aJk.mp hx]; exact aJO _
 ·rw [aJk.mp hx];exact ⟨Sd.fr1 v,aK7 _,by show -(kK d*1)<=v; omega,by show v<=kK d*1; omega⟩
def Dm (x:Addr)(H H':Hp):Prop:=∀ b o,b≠x->H b=some o->H' b=some o
theorem Dm.kp {x C dx:Addr}{H H':Hp}(s:Dm x H H')(hx:H x=some (.ins C dx [])):Kp H H':=fun b o h _ n=>s b o (fun e=>by rw [e,hx] at h; cases h; exact n C dx rfl) h
theorem cX.sameX {P x C dx:Addr}{pos:Pos}{qual:Str}{fs:List (Str×V)}{H H':Hp}(t:cX P pos qual H)(s:Dm x H H')(hx:H x=some (.ins C dx fs)):cX P pos qual H':=by
 rcases t with t | ⟨c,t,u⟩
 ·exact .inl (s _ _ (bI t hx fun z=>nomatch z) t)
 ·exact .inr ⟨c,s _ _ (bI t hx fun z=>nomatch z) t,s _ _ (bI u hx fun z=>by unfold vQ at z; exact nomatch z) u⟩
theorem Lq {c:Cs}{H H0:Hp}{y:Addr}{s:Sd.Sd}{d m:Nat}{σ:St}{ta:TE}{nm:Str}{sp:Sp}{Q:VK}(st:dU c H y s d m)(le:∀ n k l cp v,(fE n k l cp v).lookup nm=none)(ls:∀ n k l cp p r,(fS n k l cp p r).lookup nm=none)(hv:∀ R:VK,R (.ref y) H->ta σ H0 R)(q:sp [.ref y] H Q E0) :
  kI c.e nm sp [] E0 ta qR σ H0 Q∨kI c.s nm sp [] E0 ta qR σ H0 Q:=by
 cases st with
 | en h vv ok=>exact .inl (hv _ ⟨y,_,_,rfl,h,le _ _ _ _ _,q⟩)
 | st h vv g lp ly row sub p0 p9 ne l4 w hk=>exact .inr (hv _ ⟨y,_,_,rfl,h,ls _ _ _ _ _ _,q⟩)
def Oh (K:PySem.W.Frag):Sp:=fun vs H Q _=>∃ (a:Addr) (ns:List Int) (k:Int),vs=[.ref a,.int k]/\bG K H a (ns.map V.int)/\0<=k/\∀ j,Q (.int j) H
def Do:Sp:=fun vs H Q _=>∃ c k:Int,vs=[.int c,.int k]/\0<=k/\k<=100000/\∀ j,0<=j->j<2147483587->Q (.int j) H
def pp:Nat->Nat->Nat
 | 0,_=>2
 | d+1,m=>((aKk 4).map fun i=>if i+1<=m then 2+(i+1)*(1+pp d (m/(i+1))) else 2).foldl max 2
theorem lH:∀ (l:List Nat) (a:Nat),a<=l.foldl max a/\∀ x∈l,x<=l.foldl max a
 | [],a=>⟨aJd _,fun _ h=>nomatch h⟩
 | y::l,a=>by
  obtain ⟨h1,h2⟩:=lH l (max a y);refine ⟨aJc (Nat.le_max_left _ _) h1,fun x hx=>?_⟩;rcases aJx.mp hx with e | e
  ·subst e; exact aJc (Nat.le_max_right _ _) h1
  ·exact h2 x e
theorem RN (d m:Nat):2<=pp d m:=by
 cases d with
 | zero=>exact aJd _
 | succ d=>exact (lH _ 2).1
theorem aAt {d m n:Nat}(h1:1<=n)(h4:n<=4)(hm:n<=m):2+n*(1+pp d (m/n))<=pp (d+1) m:=by
 refine (lH _ 2).2 _ (aJe.mpr ⟨n-1,aJV.mpr (by omega),?_⟩);rw [show n-1+1=n by omega,if_pos hm]
def Gq (n:Nat):Sp:=fun vs H Q _=>∃ (L:Addr) (ns:List Int) (d m:Nat) (sc:Int),vs=[.ref L,.int (d:Int),.int (m:Int),.int sc]/\H L=some (.lst (Is ns))/\d<n/\d<=4/\1<=m/\m<=12/\1<=sc/\sc<=1000000001/\pp d m<=ns.length/\ns.length<=1000 ∧
 ∀ (r:Addr) (H':Hp) (s:Sd.Sd) (ns':List Int),(∀ b o,b≠L->H b=some o->H' b=some o)->H' L=some (.lst (Is ns'))->ns.length<=ns'.length+pp d m->ns'.length<=ns.length->jZ H' r s->Sd.Ok s d m->Q (.ref r) H'
def Ir (c:Cs)(Pt:Addr)(lp:Pos)(n:Nat):Sp:=fun vs H Q _=>∃ (a:Addr) (s:Sd.Sd) (d m:Nat),vs=[.ref a]/\jZ H a s/\Sd.Ok s d m/\d<n/\d<=4/\m<=12/\cX Pt lp fO H/\∀ (x:Addr) (H':Hp),bH Pt H H'->cX Pt lp fO H'->dU c H' x s d m->Q (.ref x) H'
def uT (K:PySem.W.Frag)(Pt:Addr)(lp:Pos):Sp:=fun vs H Q _=>∃ (a:Addr) (ns:List Int),vs=[.ref a]/\bG K H a (ns.map V.int)/\ns.length<=63/\H Pt=some (.tbl #[])/\∀ H',Q (.bl true) H'
theorem Ra {v:Int}(h0:0<=v)(h9:v<=1000000000):Sd.Lw (v,1):=by
 have:=Sd.p30;exact ⟨Sd.fr1 v,Sd.cI 1500,by show -(2^1530*1)<=v; omega,by show v<=2^1530*1; omega⟩
theorem be4:∀ d,d+1<=4->be (d+1)<=125/\ka (d+1)<=1530
 | 0,_=>by decide
 | 1,_=>by decide
 | 2,_=>by decide
 | 3,_=>by decide
 | d+4,h=>by omega
theorem Xl {ys:List Row}{l:Int×Int}{M k:Int}{d m:Nat}(x:Lx ys l M k d m)(hd:d+1<=4)(hm:m<=12):Sd.Lw l:=by
 obtain ⟨b1,b2⟩:=be4 d hd;have a:=aK3 x.g.mp x.f.dv;have e:(2:Int)^(be (d+1)*m)<=2^1500:=Sd.eU (aJc (Nat.mul_le_mul b1 hm) (by decide));have g:k<=2^1530:=aJF x.k (Sd.eU b2);have h:=Sd.qJ g (aJn x.f.fr.pos);have:=x.f.lo;have:=x.f.hi;exact ⟨x.f.fr,aJF a (aJF x.m e),by omega,by omega⟩
theorem Xp {d:Nat}{es:List Ent}{rs:List (Int×Sd.Sd)}{p:Int}{lv:Int×Int}{ys zs:List Row}{n:Nat}{W k W0 kk:Int}{k0:Nat}(al:Sd.Al d es rs)(gm:GM es k0 W0 kk)(hW:0<Sd.gZ rs)(o:Out (partsOf (c7 (cT es)) es) ys)(g:GT ys n W (bY ys) k)
  (lp:0<lv.2) (L:Tb.Lv (bY ys) (p*Tb.W (dG ys)*bY ys) lv.1 lv.2 (dG ys)) (o2:Out ((dG ys).map (Tb.iZ lv.1 lv.2)) zs):Sd.Mt (.st p rs) (d+1) lv (dG zs):=by
 obtain ⟨S1,_,_,S2⟩:=gm.S;have fr:∀ r∈dG ys,0<r.b/\r.b∣bY ys:=fun r hr=>by
  obtain ⟨y,hy,rfl⟩:=aJe.mp hr;exact ⟨(g.fq y hy).fr.pos,(g.fq y hy).dv⟩
 refine Sd.X8 al S1 (fun e he=>⟨(gm.g e he).tot,S2 e he⟩) hW o.tab (fun e=>g.ne (aJ9.mp e)) (fun r hr=>?_) (fun r hr=>(fr r hr).1) lp (Sd.QR g.mp fr L) o2.tab;obtain ⟨y,hy,rfl⟩:=aJe.mp hr;exact g.w1 y hy
end TD
namespace TD
open PySem L2
def nZ (c:Cs)(b:Bool):Sp:=fun vs H Q _=>∃ (x:Addr),vs=[.ref x]/\Q (.bl b) H
end TD
namespace L2
open PySem PySem.Spec PyProof.Rows
abbrev Wu:List Value:=[.type "ValueError",.type "Exception",.type "BaseException",.type "object"]
theorem uG.obj {K:PySem.W.Frag}{h:Heap}{C:Addr}(x:uG K C)(k:K.In h):∃ (bm:List Value) (N:Addr) (nm q:Str) (bs:List Value) (hdct:Bool) (sn:List Str) (sub:List Value) (ab:Bool) (col:Option Bool) (dd:Option Addr) (k0 k1 k2 k3 k5:Option Value) (mN:Str->Option Value),
  h.get? C=some (excClassObj nm q C N bs bm hdct sn sub ab col dd k0 k1 k2 k3 k5 "ValueError.__new__")/\h.Ns N mN/\mN "__init__" = none/\OwnTail h Wu bm:=by
 have z:=x.isx;unfold PySem.W.excIn at z
 split at z
 case h_2=>cases z
 case h_1 dd cd sl ho =>
  split at z
  case h_2=>cases z
  case h_1 C' bm k0 k1 k2 k3 n k5 hm hs =>
   simp only [aJA,beq_iff_eq,Bool.not_eq_true'] at z;obtain ⟨⟨⟨⟨⟨e1,e2⟩,hdel⟩,ht⟩,hok⟩,hni⟩:=z;subst e1;subst e2;obtain ⟨nm,bs,mro,ns,qn,hd,sn,sub,ab,col,del⟩:=cd;dsimp only at hm hdel hok hni;subst hm;subst hdel;obtain ⟨l⟩:=sl;obtain rfl:l=[k0,k1,k2,k3,some (.builtin "ValueError.__new__"),k5]:=hs;have g:=k _ _ ho;have nn:=PySem.W.isNs_of_in k hok;exact ⟨bm,ns,nm,qn,bs,hd,sn,sub,ab,col,dd,k0,k1,k2,k3,k5,_,g,.of_isNs nn,PySem.W.nsMap_none_of_in k hok hni,PySem.W.tail_of_in k ht⟩
theorem gY {X:Cx}{x:Str}{C:Addr}{E:XK}{np cpos pos:Pos}(T:Throws X E)(hc:X.calm=true)(hg:Gl X x)(hm:X.mg x=some (.ref C))(xc:uG X.K C)(hd:(x==("__debug__" : Str))=false:=by decide) :
  PS X (.Raise (some (.Call (.Name x np) [] [] cpos)) none pos) (fun _ _ H=>E (.ref C) none H):=by
 intro pins s σ H D I h;obtain ⟨bm,N,nm,q,bs,hdct,sn,sub,ab,col,dd,k0,k1,k2,k3,k5,mN,hC,hN,hni,TL⟩:=xc.obj I.kIn;refine wpAny_Raise_call_subT (C:=C) (nm:=nm) (q:=q) (N:=N) (bs:=bs) (bm:=bm) (hdct:=hdct) (sn:=sn) (sub:=sub) (ab:=ab) (col:=col) (dd:=dd) (k0:=k0) (k1:=k1) (k2:=k2) (k3:=k3) (k5:=k5) PySem.F.excBase_ValueError (mN:=mN)
  (TL.hasType PySem.F.excBase_ValueError.hasBase) (I.ok.hd hc) rfl hni (qK I hg hm ⟨rfl,?_⟩ hd)
 exact evalArgs_empty ⟨rfl,aJD _,hC,hN,TL,fun h' e mk=>T pins σ H s h' e _ _ I mk h⟩
section
variable {P:Program}{w:World}{K:PySem.W.Frag}{mg:Str->Option Value}{base:Heap}
theorem dN.okX {x qual:Str}{st:Stmt}{f:Addr}{fd:FuncData}{N ps:List Str}{k:Nat}{sp:Sp}(F:dN K x qual st f fd)(S:aM N ps (aL st))(len:∀ vs H Q E,sp vs H Q E->vs.length=ps.length)
  (hbody:∀ (cdv:Value) (A:Around) (outer:List Env) (s:Shared) (H:Hp) (vs:List V) (Q:VK) (E:XK),fM k (A.deeper (envOfC qual (aL st) s.heap.objs.size f cdv))->sp vs H Q E ->
   ∃ t,yW (wZ (o9 P w) P w K mg base N qual (aL st) f cdv A outer s H E) (gD st) t/\t { nx:=fun _ H'=>Q .non H',rt:=Q } (start N vs) H):aP P w K mg base (o9 P w) (k+1) f fd ps sp:=by
 obtain ⟨oc,od,kV,doc,pm,an,cdv,ct,osl,rfl,lk,hcd⟩:=F.ex;exact Kc lk hcd S len fun A outer s H vs Q E hr hsp=>hbody cdv A outer s H vs Q E hr hsp
end
structure z9 (P:Program)(w:World)(K:PySem.W.Frag)(mg:Str->Option Value)(base:Heap)(n:Nat)(x:Str)(ps:List Str)(sp:Sp)(g:Addr)(gd:FuncData):Prop where
 ok:aP P w K mg base (o9 P w) n g gd ps sp
 bi:Binds K gd ps []
 kp:PySem.W.keepIn K (.ref g)=true
 at_:mg x=some (.ref g)
theorem z9.up {P:Program}{w:World}{K:PySem.W.Frag}{mg:Str->Option Value}{base:Heap}{n m:Nat}{x:Str}{ps:List Str}{sp:Sp}{g:Addr}{gd:FuncData}(c:z9 P w K mg base n x ps sp g gd)(h:n<=m):z9 P w K mg base m x ps sp g gd:=⟨c.ok.mono h,c.bi,c.kp,c.at_⟩
theorem jJ {X:Cx}:jC (o9 X.prog X.w) X E0:=fun _ _ _ _ _ _ _ ⟨_,_,_,_,_,_,_,_,_,_,_,_,_,h⟩=>False.elim h
theorem J5 {X:Cx}{n:Nat}{x:Str}{ps:List Str}{sp:Sp}{g:Addr}{gd:FuncData}{E:XK}{p pos:Pos}{e:Expr}{es:List Expr}{t:TA}(c:z9 X.prog X.w X.K X.mg X.base n x ps sp g gd)(hr:fM n X.A)(hx:jC (o9 X.prog X.w) X E)(ha:PA X (e::es) t)(hg:Gl X x:=by rfl)
  (hd:(x==("__debug__" : Str))=false:=by decide) (he:starEach (e::es) X.env=(false,eval e X.env)::starEach es X.env:=by rfl) (hpl:(backTo pos (starEach es X.env)).any (·.1)=false:=by rfl) :
  PE X (.Call (.Name x p) (e::es) [] pos) (Ci sp [] E t):=Gn c.ok hr hg c.at_ c.kp c.bi .nil hx ha hd he hpl
theorem PS.nox {X:Cx}{st:Stmt}{t:TS}(h:PS X.nox st t):PS X st t:=fun pins s σ H D I hw =>
 wpAny_mono (h pins s σ H D (I.wish _) hw) (fun _ _ q=>q.unwish) fun _ _ z=>False.elim z
end L2
namespace TD
open PySem L2
open Builtin.Int (intBits)
theorem gF.same {K:PySem.W.Frag}{H H':Hp}{v:V}{t:Value}(s:aN H H')(h:gF K H v t):gF K H' v t:=by
 cases h with
 | non=>exact .non
 | bl x=>exact .bl x
 | int i=>exact .int i
 | str x=>exact .str x
 | flt x=>exact .flt x
 | lst e=>exact .lst (s _ _ e)
 | frz e=>exact .frz (s _ _ e)
 | tup e=>exact .tup (s _ _ e)
 | dK e=>exact .dK (s _ _ e)
 | dT e=>exact .dT (s _ _ e)
 | ins e a b c d f=>exact .ins (s _ _ e) a b c d f
def Nk (H:Hp)(T:String)(v:V):Prop:=∀ K:PySem.W.Frag,∃ t,gF K H v t/\PySem.W.kitOne K t (.type T)=some false
theorem Nk.same {H H':Hp}{T:String}{v:V}(s:aN H H')(h:Nk H T v):Nk H' T v:=fun K=>let ⟨t,a,b⟩:=h K; ⟨t,gF.same s a,b⟩
theorem zV {K:PySem.W.Frag}:PySem.W.kitOne K (.type "bool") (.type "int")=some true:=by rfl
inductive pF (H:Hp)(lo hi:Int):V->Bool->Prop where
 | no {v:V} (h:Nk H "int" v):pF H lo hi v false
 | bl (c:Bool):pF H lo hi (.bl c) false
 | int (i:Int):pF H lo hi (.int i) (decide (lo<=i)&&decide (i<=hi))
theorem pF.yes {H:Hp}{lo hi i:Int}(h1:lo<=i)(h2:i<=hi):pF H lo hi (.int i) true:=by
 have h:=pF.int (H:=H) (lo:=lo) (hi:=hi) i;rw [decide_eq_true h1,decide_eq_true h2] at h;exact h
def pA:Sp:=fun vs H Q _=>∃ (v:V) (lo hi:Int) (b:Bool),vs=[v,.int lo,.int hi]/\pF H lo hi v b/\Q (.bl b) H
theorem gF.kp {K:PySem.W.Frag}{H H':Hp}{v:V}{t:Value}(s:∀ b o,H b=some o->(∀ ps,o≠.tbl ps)->H' b=some o)(h:gF K H v t):gF K H' v t:=by
 cases h with
 | non=>exact .non
 | bl x=>exact .bl x
 | int i=>exact .int i
 | str x=>exact .str x
 | flt x=>exact .flt x
 | lst e=>exact .lst (s _ _ e fun _ z=>nomatch z)
 | frz e=>exact .frz (s _ _ e fun _ z=>nomatch z)
 | tup e=>exact .tup (s _ _ e fun _ z=>nomatch z)
 | dK e=>exact .dK (s _ _ e fun _ z=>nomatch z)
 | dT e=>exact .dT (s _ _ e fun _ z=>nomatch z)
 | ins e a b c d f=>exact .ins (s _ _ e fun _ z=>nomatch z) a b c d f
def Kt (H H':Hp):Prop:=∀ b o,H b=some o->(∀ ps,o≠.tbl ps)->H' b=some o
theorem aN.kt {H H':Hp}(s:aN H H'):Kt H H':=fun b o h _=>s b o h
theorem bH.kt {P:Addr}{pos:Pos}{qual:Str}{H H':Hp}(s:bH P H H')(t:cX P pos qual H):Kt H H':=fun b o h n=>s.get t h n
theorem Kt.trans {H H1 H2:Hp}(a:Kt H H1)(b:Kt H1 H2):Kt H H2:=fun c o h n=>b c o (a c o h n) n
theorem Kt.kp {H H':Hp}(k:Kt H H'):Kp H H':=fun b o h n _=>k b o h n
theorem Kt.tup {H H':Hp}(k:Kt H H'){b:Addr}{xs:List V}(h:H b=some (.tup xs)):H' b=some (.tup xs):=k _ _ h fun _ z=>nomatch z
theorem Kt.lst {H H':Hp}(k:Kt H H'){b:Addr}{xs:List V}(h:H b=some (.lst xs)):H' b=some (.lst xs):=k _ _ h fun _ z=>nomatch z
theorem Nk.kt {H H':Hp}{T:String}{v:V}(s:Kt H H')(h:Nk H T v):Nk H' T v:=fun K=>let ⟨t,a,b⟩:=h K; ⟨t,gF.kp s a,b⟩
theorem pF.kt {H H':Hp}{lo hi:Int}{v:V}{b:Bool}(s:Kt H H')(h:pF H lo hi v b):pF H' lo hi v b:=by
 cases h with
 | no h=>exact .no (h.kt s)
 | bl c=>exact .bl c
 | int i=>exact .int i
theorem pF.inv {H:Hp}{lo hi:Int}{v:V}(h:pF H lo hi v true):∃ i,v=.int i/\lo<=i/\i<=hi:=by
 generalize hb:true=b at h;cases h with
 | no h=>cases hb
 | bl c=>cases hb
 | int i =>
  have:=hb.symm;rw [aJA,decide_eq_true_eq,decide_eq_true_eq] at this;exact ⟨i,rfl,this⟩
structure CN (K:PySem.W.Frag)(c:Cs):Prop where
 all:∀ T∈["tuple","int","NoneType","str","list"],PySem.W.kitOne K (.type T) (.ref c.e)=some false/\PySem.W.kitOne K (.type T) (.ref c.s)=some false
 et:PySem.W.kitOne K (.ref c.e) (.type "tuple")=some false
inductive Aa (c:Cs)(K:PySem.W.Frag)(H:Hp):V->Bool->Prop where
 | yes {x:Addr}{s:Sd.Sd}{d m:Nat} (h:dU c H x s d m):Aa c K H (.ref x) true
 | no {v:V}{T:String} (h:gF K H v (.type T)) (ht:T∈["tuple","int","NoneType","str","list"]):Aa c K H v false
inductive zJ (c:Cs)(K:PySem.W.Frag)(H:Hp):V->Bool->Prop where
 | no {v:V}{t:Value} (h:gF K H v t) (hk:PySem.W.kitOne K t (.type "tuple")=some false):zJ c K H v false
 | len {a:Addr}{xs:List V} (e:H a=some (.tup xs)) (hl:xs.length≠2):zJ c K H (.ref a) false
 | two {a:Addr}{x y:V}{b b2:Bool} (e:H a=some (.tup [x,y])) (hx:pF H 1 1000 x b) (hy:Aa c K H y b2):zJ c K H (.ref a) (b&&b2)
inductive p7 (c:Cs)(K:PySem.W.Frag)(H:Hp):V->Bool->Prop where
 | no {v:V} (h:Nk H "list" v):p7 c K H v false
 | len {a:Addr}{xs:List V} (e:H a=some (.lst xs)) (hl:¬ (1<=xs.length/\xs.length<=4)):p7 c K H (.ref a) false
 | all {a:Addr}{xs:List V}{bs:List Bool} (e:H a=some (.lst xs)) (h1:1<=xs.length) (h4:xs.length<=4) (hb:bs.length=xs.length) (h:∀ (i:Nat) x,xs[i]? = some x->zJ c K H x (bs.getD i false)):p7 c K H (.ref a) (bs.all id)
inductive Bh (c:Cs)(K:PySem.W.Frag)(H:Hp):V->Bool->Prop where
 | no {v:V} (h:Nk H "list" v):Bh c K H v false
 | len {a:Addr}{xs:List V} (e:H a=some (.lst xs)) (hl:¬ (1<=xs.length/\xs.length<=6)):Bh c K H (.ref a) false
 | all {a:Addr}{xs:List V}{bs:List Bool} (e:H a=some (.lst xs)) (h1:1<=xs.length) (h6:xs.length<=6) (hb:bs.length=xs.length) (h:∀ (i:Nat) x,xs[i]? = some x->Aa c K H x (bs.getD i false)):Bh c K H (.ref a) (bs.all id)
section
variable {c:Cs}{K:PySem.W.Frag}{H H':Hp}{v:V}{b:Bool}
theorem Aa.kt (s:Kt H H')(h:Aa c K H v b):Aa c K H' v b:=by
 cases h with
 | yes h=>exact .yes (h.kp s.kp)
 | no h ht=>exact .no (gF.kp s h) ht
theorem zJ.kt (s:Kt H H')(h:zJ c K H v b):zJ c K H' v b:=by
 cases h with
 | no h hk=>exact .no (gF.kp s h) hk
 | len e hl=>exact .len (s.tup e) hl
 | two e hx hy=>exact .two (s.tup e) (hx.kt s) (hy.kt s)
end
def Lf (c:Cs)(K:PySem.W.Frag):Sp:=fun vs H Q _=>∃ (v:V) (b:Bool),vs=[v]/\Aa c K H v b/\Q (.bl b) H
def GP (c:Cs)(K:PySem.W.Frag):Sp:=fun vs H Q _=>∃ (v:V) (b:Bool),vs=[v]/\zJ c K H v b/\Q (.bl b) H
def Cg (c:Cs)(K:PySem.W.Frag):Sp:=fun vs H Q _=>∃ (v:V) (b:Bool),vs=[v]/\p7 c K H v b/\∀ H',aN H H'->Q (.bl b) H'
def Oj (c:Cs)(C:Addr):Sp:=fun vs H Q E =>
 (∃ (x dx:Addr) (v:Int),vs=[.ref x,.int v]/\H x=some (.ins c.e dx [])/\0<=v/\v<=1000000000/\∀ H':Hp,(∀ b o,b≠x->H b=some o->H' b=some o)->(∀ d m:Nat,1<=m->dU c H' x (.en v) d m)->Q .non H') ∨
 ∃ (x:Addr) (v:V),vs=[.ref x,v]/\pF H 0 1000000000 v false/\E (.ref C) none H
structure Vo (c:Cs)(H:Hp)(a:Addr)(ps ys:List Addr)(rs:List (Int×Sd.Sd))(d:Nat)(j:Int×Sd.Sd->Nat):Prop where
 ha:H a=some (.lst (ps.map V.ref))
 R:uO c H ps ys rs d j
 ne:rs≠[]
 l4:rs.length<=4
 ww:∀ r∈rs,1<=r.1/\r.1<=1000
def PX (c:Cs)(K:PySem.W.Frag)(C Pt:Addr)(lp:Pos):Sp:=fun vs H Q E =>
 (∃ (x dx a:Addr) (p:Int) (ps ys:List Addr) (rs:List (Int×Sd.Sd)) (d:Nat) (j:Int×Sd.Sd->Nat),vs=[.ref x,.int p,.ref a]/\H x=some (.ins c.s dx [])/\Vo c H a ps ys rs d j/\0<=p/\p<=1000000000 ∧
  (((12<Sd.nE (d+1+1) (.st p rs)∨4<Sd.nS (d+1+1) (.st p rs))/\∀ H',aN H H'->E (.ref C) none H') ∨
   ∃ m:Nat,(rs.map j).sum<=m/\m<=12/\d+1<=4/\cX Pt lp fO H/\∀ H':Hp,(∀ b o,b≠x->b≠Pt->H b=some o->H' b=some o)->cX Pt lp fO H'->dU c H' x (.st p rs) (d+1) m->Q .non H')) ∨
 ∃ (x:Addr) (v w:V),vs=[.ref x,v,w]/\(pF H 0 1000000000 v false∨(pF H 0 1000000000 v true/\p7 c K H w false))/\∀ H',aN H H'->E (.ref C) none H'
def Ve (c:Cs)(K:PySem.W.Frag)(C:Addr):Sp:=fun vs H Q E=>∃ (v:V) (b:Bool),vs=[v]/\Bh c K H v b/\(b=true->∀ H',aN H H'->Q .non H')/\(b=false->∀ H',aN H H'->E (.ref C) none H')
section
variable {c:Cs}{K:PySem.W.Frag}{H H':Hp}{a:Addr}{ps ys:List Addr}{rs:List (Int×Sd.Sd)}{d:Nat}{j:Int×Sd.Sd->Nat}
theorem made {x dx:Addr}{o1 o2:HO}(hx:H x=none)(hd:H dx=none)(kp:∀ b o,b≠x->aX (aX H dx o1) x o2 b=some o->H' b=some o):aN H H':=fun b o e=>kp b o (aV e hx) (by rw [aK (aV e hx),aK (aV e hd)]; exact e)
theorem nJ {x dx:Addr}{o1 o2:HO}(hx:H x=none)(hd:H dx=none)(ne:dx≠x):aN H (aX (aX H dx o1) x o2):=(aG hd o1).trans (aG (by rw [aK (Ne.symm ne)]; exact hx) o2)
end
section
variable {c:Cs}{H H':Hp}
theorem qH (kt:∀ b xs,H b=some (.tup xs)->H' b=some (.tup xs)){l cp:Addr}{sd:Sd.Sd}{lv:Int×Int}{xs:List Row}{n k:Int}{d m:Nat}(h:RQ H l cp sd lv xs n k d m):RQ H' l cp sd lv xs n k d m :=
 ⟨kt _ _ h.lv,⟨kt _ _ h.caps.1,fun x hx=>⟨kt _ _ (h.caps.2 x hx).1,kt _ _ (h.caps.2 x hx).2⟩⟩,h.gs,h.so,h.n1,h.nm,h.k0,h.kd,h.mt,h.lw,h.nx,h.kx⟩
theorem zX (kt:∀ b xs,H b=some (.tup xs)->H' b=some (.tup xs))(ki:∀ b C dx f fs,H b=some (.ins C dx (f::fs))->H' b=some (.ins C dx (f::fs))){x:Addr}{s:Sd.Sd}{d m:Nat}(h:dU c H x s d m):dU c H' x s d m:=by
 induction h with
 | en h vv ok=>exact .en (ki _ _ _ _ _ h) (qH kt vv) ok
 | st h vv g lp ly row sub p0 p9 ne l4 w hk ih=>exact .st (ki _ _ _ _ _ h) (qH kt vv) (kt _ _ g) lp ly (fun i q y t a b c=>kt _ _ (row i q y t a b c)) ih p0 p9 ne l4 w hk
theorem vN {D:Addr}{zs zs':List V}(hD:H D=some (.lst zs)){x:Addr}{s:Sd.Sd}{d m:Nat}(h:dU c H x s d m):dU c (aX H D (.lst zs')) x s d m :=
 zX (fun b xs e=>by rw [aK (bI e hD fun z=>nomatch z)]; exact e) (fun b C dx f fs e=>by rw [aK (bI e hD fun z=>nomatch z)]; exact e) h
end
end TD
namespace L2
open PySem PySem.Spec PyProof.Rows
section
variable {X:Cx}
def SX (K:PySem.W.Frag):R2:=fun x y H Q=>∃ a b xs ys,x=.ref a/\y=.ref b/\cV K H a xs/\cV K H b ys/\xs.length+ys.length<=sizeLine ∧
 (xs=[]->Q (.ref b) H)/\(ys=[]->Q (.ref a) H)/\∀ p,H p=none->Q (.ref p) (aX H p (.tup (xs++ys)))
theorem zH:mK X (binaryOp .Add) (SX X.K):=by
 intro pins s σ H x y v u Q I rx ry h;obtain ⟨a,b,xs,ys,rfl,rfl,ha,hb,hz,q0,q1,q2⟩:=h
 by_cases hx:xs=[]
 ·cases rx;cases ry;obtain ⟨its,r1,p1,_⟩:=I.tuple ha;obtain ⟨its2,r2,p2,_⟩:=I.tuple hb;have e1:its=[]:=r1.nil_iff.mpr hx;obtain ⟨⟨cls,dd,data,sl⟩,ho,hc,n,hd⟩:=id p1;obtain ⟨⟨cls2,dd2,data2,sl2⟩,ho2,hc2,n2,hd2⟩:=id p2;simp only at hc hd hc2 hd2;subst hc hd hc2 hd2;exact concat_meets ⟨_,ho,rfl⟩ ⟨_,ho2,rfl⟩ noFill_tuple_add seq_tuple_add PySem.F.slot_tuple_add PySem.F.entry_tuple_add (PySem.F.args_tuple_add_2 _ _)
   (tuple_addW0 a b its.toArray its2.toArray n n2 dd dd2 sl sl2 (by rw [e1]; rfl)) ⟨ho,ho2,.ref b,H,I,rfl,q0 hx⟩
 ·exact Np pins s σ H _ _ v u Q I rx ry ⟨a,b,xs,ys,rfl,rfl,ha,hb,hx,hz,q1,fun _=>q2⟩
end
end L2
namespace TD
open PySem L2
open Builtin.Int (intBits)
def qP (tp tl th:Addr)(sp:Int)(td:Addr):List (Str×V):=[("present",.ref tp),("lowest",.ref tl),("held",.ref th),("spent",.int sp),("done",.ref td)]
inductive Ia (H:Hp):V->Prop where
 | non:Ia H .non
 | sh {a:Addr}{lv:Int×Int} (h:Tq H a lv) (w:Sd.Lw lv):Ia H (.ref a)
inductive uB (H:Hp):Addr->Prop where
 | op {q:Addr}{b r:Int} (h:H q=some (.tup [.str "open",.int b,.int r])):uB H q
 | tk {q:Addr}{b:Int} (h:H q=some (.tup [.str "take",.int b])):uB H q
structure Ca where
 dx:Addr
 tp:Addr
 tl:Addr
 th:Addr
 td:Addr
 ys:List Addr
 ss:List (Sd.Sd×Nat×Nat)
 ls:List V
 bs:List Bool
 sp:Int
 ds:List Addr
structure fP (c:Cs)(cC:Addr)(H:Hp)(x:Addr)(q:Ca):Prop where
 hx:H x=some (.ins cC q.dx (qP q.tp q.tl q.th q.sp q.td))
 hp:H q.tp=some (.tup (q.ys.map V.ref))
 hl:H q.tl=some (.tup q.ls)
 hh:H q.th=some (.tup (q.bs.map V.bl))
 hd:H q.td=some (.tup (q.ds.map V.ref))
 n1:1<=q.ys.length
 n6:q.ys.length<=6
 es:q.ss.length=q.ys.length
 el:q.ls.length=q.ys.length
 eb:q.bs.length=q.ys.length
 st:∀ (i:Nat) y s,q.ys[i]? = some y->q.ss[i]? = some s->dU c H y s.1 s.2.1 s.2.2/\s.2.1<=4/\s.2.2<=12
 cp:∀ l∈q.ls,Ia H l
 en:∀ (i:Nat) s,q.bs[i]? = some true->q.ss[i]? = some s->∃ v,s.1=.en v
 dd:∀ d∈q.ds,uB H d
 d9:q.ds.length<=100
section
variable {c:Cs}{cC:Addr}{H H':Hp}{x:Addr}{q:Ca}
theorem Ia.kt (s:Kt H H'){l:V}(h:Ia H l):Ia H' l:=by
 cases h with
 | non=>exact .non
 | sh h w=>exact .sh (s.tup h) w
theorem uB.kt (s:Kt H H'){a:Addr}(h:uB H a):uB H' a:=by
 cases h with
 | op h=>exact .op (s.tup h)
 | tk h=>exact .tk (s.tup h)
theorem fP.kt (s:Kt H H')(h:fP c cC H x q):fP c cC H' x q :=
 ⟨s _ _ h.hx (fun _ z=>nomatch z),s.tup h.hp,s.tup h.hl,s.tup h.hh,s.tup h.hd,h.n1,h.n6,h.es,h.el,h.eb,fun i y t e1 e2=>⟨(h.st i y t e1 e2).1.kp s.kp,(h.st i y t e1 e2).2⟩,fun l hl=>(h.cp l hl).kt s,h.en,fun d hd=>(h.dd d hd).kt s,h.d9⟩
end
theorem ZW {n:Nat}(h:n<=1000):n<=sizeLine:=aJH (aU h)
def KX (x:Addr)(H H':Hp):Prop:=∀ b o,b≠x->H b=some o->H' b=some o
theorem KX.trans {x:Addr}{H H1 H2:Hp}(a:KX x H H1)(b:KX x H1 H2):KX x H H2:=fun c o n h=>b c o n (a c o n h)
theorem KX.of {x:Addr}{H H':Hp}(s:aN H H'):KX x H H':=fun b o _ h=>s b o h
theorem KX.put {x:Addr}{H:Hp}(o:HO):KX x H (aX H x o):=fun b u n h=>by rw [aK n]; exact h
theorem wC {α:Type}:∀ {xs:List α}{i:Nat}{v:α},i<xs.length->xs.take i++[v]++xs.drop (i+1)=xs.set i v
 | x::xs,0,v,_=>by simp
 | x::xs,i+1,v,h=>by
  have:=wC (xs:=xs) (i:=i) (v:=v) (by simpa using h);simp only [List.take_succ_cons,List.cons_append,List.drop_succ_cons,List.set_cons_succ];rw [this]
theorem My {c:Cs}{K:PySem.W.Frag}{H:Hp}{a:Addr}{xs:List V}(e:H a=some (.lst xs))(h:∀ x∈xs,Aa c K H x true)(b:Bool)(hb:b=(decide (0<(xs.length:Int))&&decide ((xs.length:Int)<7))):Bh c K H (.ref a) b:=by
 by_cases h1:1<=xs.length
 ·by_cases h6:xs.length<=6
  ·have z:=Bh.all (c:=c) (K:=K) (bs:=aJt xs.length true) e h1 h6 (by simp) fun i x hx=>by
    have hi:=(aJl.mp hx).1;have e2:(aJt xs.length true).getD i false=true:=by simp [List.getD,hi]
    rw [e2];exact h x (aJg hx)
   have e2:(aJt xs.length true).all id=true:=by simp
   rw [e2] at z;rw [hb,decide_eq_true (by omega),decide_eq_true (by omega)];exact z
  ·rw [hb,decide_eq_true (by omega),decide_eq_false (by omega)];exact .len e (by omega)
 ·rw [hb,decide_eq_false (by omega)];exact .len e (by omega)
theorem IK (xs:List V)(n:Nat)(h:n<=xs.length):iI xs none (some (n:Int))=xs.take n:=by
 unfold iI;have e1:HT.gG xs.length 0 none=0:=rfl;have e2:HT.gG xs.length xs.length (some (n:Int))=n:=by rw [HT.qF]; omega
 rw [e1,e2,List.drop_zero,Nat.sub_zero]
theorem Ba (xs:List V)(n:Nat)(h:n<=xs.length):iI xs (some (n:Int)) none=xs.drop n:=by
 unfold iI;have e1:HT.gG xs.length xs.length none=xs.length:=rfl;have e2:HT.gG xs.length 0 (some (n:Int))=n:=by rw [HT.qF]; omega
 rw [e1,e2,aLz (by rw [aKt]; omega)]
theorem KX.kp {x:Addr}{H H':Hp}{o:HO}(k:KX x H H')(h:H x=some o){b:Addr}{u:HO}(e:H b=some u)(n:u≠o):H' b=some u:=k b u (fun z=>n (by rw [z,h] at e; exact (aJU.inj e).symm)) e
theorem dU.kx {c:Cs}{cC x:Addr}{q:Addr}{fs:List (Str×V)}{H H':Hp}(ne:cC≠c.e)(ns:cC≠c.s)(k:KX x H H')(hx:H x=some (.ins cC q fs)){y:Addr}{s:Sd.Sd}{d m:Nat}(h:dU c H y s d m):dU c H' y s d m:=by
 induction h with
 | en h vv ok=>exact .en (k.kp hx h (fun z=>by injection z with z; exact ne z.symm)) (qH (fun b xs e=>k.kp hx e fun z=>nomatch z) vv) ok
 | st h vv g lp ly row sub p0 p9 ne' l4 w hk ih=>exact .st (k.kp hx h (fun z=>by injection z with z; exact ns z.symm)) (qH (fun b xs e=>k.kp hx e fun z=>nomatch z) vv) (k.kp hx g fun z=>nomatch z) lp ly (fun i q y t e1 e2 e3=>k.kp hx (row i q y t e1 e2 e3) fun z=>nomatch z) ih p0 p9 ne' l4 w hk
theorem uB.kx {cC x:Addr}{q:Addr}{fs:List (Str×V)}{H H':Hp}(k:KX x H H')(hx:H x=some (.ins cC q fs)){a:Addr}(h:uB H a):uB H' a:=by
 cases h with
 | op h=>exact .op (k.kp hx h fun z=>nomatch z)
 | tk h=>exact .tk (k.kp hx h fun z=>nomatch z)
structure Az (K:PySem.W.Frag)(c:Cs)(cC:Addr):Prop where
 ne:cC≠c.e
 nS:cC≠c.s
 cl:tK K cC
 np:cA K cC "present"
 nl:cA K cC "lowest"
 nh:cA K cC "held"
 ns:cA K cC "spent"
 nd:cA K cC "done"
def tO (q:Ca):List Nat:=(aKk q.ys.length).filter fun i=>q.bs.getD i false
def cU (q:Ca):List Int:=(tO q).map aLa
section
variable (c:Cs)(cC:Addr)(C:Addr)
def Ko:Sp:=fun vs H Q _=>∃ (x:Addr) (q:Ca),vs=[.ref x]/\fP c cC H x q/\Q (.int (q.ys.length:Int)) H
def RZ:Sp:=fun vs H Q E=>∃ (x:Addr) (v:V) (q:Ca) (b:Bool),vs=[.ref x,v]/\fP c cC H x q/\pF H 0 ((q.ys.length:Int)-1) v b/\(b=true->Q .non H)/\(b=false->E (.ref C) none H)
def DP:Sp:=fun vs H Q E=>∃ (x:Addr) (v:V) (q:Ca) (b:Bool),vs=[.ref x,v]/\fP c cC H x q/\pF H 0 ((q.ys.length:Int)-1) v b/\(∀ (i:Nat) y,v=.int i->q.ys[i]? = some y->Q (.ref y) H)/\(b=false->E (.ref C) none H)
def J4:Sp:=fun vs H Q E=>∃ (x:Addr) (v:V) (q:Ca) (b:Bool),vs=[.ref x,v]/\fP c cC H x q/\pF H 0 ((q.ys.length:Int)-1) v b/\(∀ (i:Nat) l,v=.int i->q.ls[i]? = some l->Q l H)/\(b=false->E (.ref C) none H)
def Fo:Sp:=fun vs H Q _=>∃ (x:Addr) (q:Ca),vs=[.ref x]/\fP c cC H x q/\∀ l H',aN H H'->H' l=some (.lst ((cU q).map V.int))->Q (.ref l) H'
def JL (K:PySem.W.Frag)(CB:Addr):Sp:=fun vs H Q E =>
 (∃ (x dx a:Addr) (ys:List Addr),vs=[.ref x,.ref a]/\H x=some (.ins cC dx [])/\H a=some (.lst (ys.map V.ref))/\1<=ys.length/\ys.length<=6/\(∀ y∈ys,∃ s d m,dU c H y s d m) ∧
  ∀ (tp tl th td:Addr) (H':Hp),(∀ b o,b≠x->H b=some o->H' b=some o)->H' x=some (.ins cC dx (qP tp tl th 0 td))->H' tp=some (.tup (ys.map V.ref))->H' tl=some (.tup (ys.map fun _=>V.non))->H' th=some (.tup (ys.map fun _=>V.bl false))->H' td=some (.tup [])->Q .non H') ∨
 ∃ (x:Addr) (v:V),vs=[.ref x,v]/\Bh c K H v false/\∀ H',aN H H'->E (.ref CB) none H'
def Lr:Sp:=fun vs H Q _=>∃ (x dq:Addr) (q:Ca),vs=[.ref x,.ref dq]/\fP c cC H x q/\uB H dq/\q.ds.length<=99/\∀ (x2 dx tp td:Addr) (H':Hp),H x2=none->aN H H'->fP c cC H' x2 { q with dx:=dx,tp:=tp,td:=td,ds:=q.ds++[dq] }->Q (.ref x2) H'
def RW (K:PySem.W.Frag):Sp:=fun vs H Q _=>∃ (a:Addr) (xs:List V) (i:Nat) (v:V),vs=[.ref a,.int (i:Int),v]/\H a=some (.tup xs)/\i<xs.length/\xs.length<=900/\∀ t H',aN H H'->H' t=some (.tup (xs.set i v))->Q (.ref t) H'
end
theorem p9:Tu 10 9:=⟨by decide,by decide,by decide⟩
theorem Gk {q:Ca}{b:Nat}(h:b<q.ys.length):Gd (.int (b:Int)) ((cU q).map V.int)=q.bs.getD b false:=by
 apply aJY.mpr;unfold Gd;rw [aKu];constructor
 ·rintro ⟨y,hy,e⟩;obtain ⟨z,hz,rfl⟩:=aJe.mp hy;obtain ⟨i,hi,rfl⟩:=aJe.mp hz;have e:((aLa i)==(b:Int))=true:=e;have e2:aLa i=(b:Int):=by simpa using e
  have e3:i=b:=aLa.inj e2;subst e3;exact (aJE.mp hi).2
 ·intro e;exact ⟨.int b,aJe.mpr ⟨b,aJe.mpr ⟨b,aJE.mpr ⟨aJV.mpr h,e⟩,rfl⟩,rfl⟩,by show ((b:Int)==(b:Int))=true; simp⟩
theorem Ih (q:Ca):((cU q).map V.int).all lN=true:=aJN.mpr fun v hv=>by
 obtain ⟨z,_,rfl⟩:=aJe.mp hv
 rfl
end TD
namespace Tb
def lo (l0 l1:Int)(ps:List Rw):List Rw:=ps.filter fun r=>decide (r.t*l1<l0*r.b)
end Tb
namespace Sd
def sm (ps:List Tb.Rw):Rat:=(ps.map fun r=>(r.w:Rat)*cv r).sum
end Sd
namespace TD
open PySem L2
open Builtin.Int (intBits)
def Qi (H:Hp)(y:Addr)(xs:List Row):Prop:=∃ (C dx:Addr) (fs:List (Str×V)) (cp:Addr),H y=some (.ins C dx fs)/\fs.lookup ("cap_rows" : Str)=some (V.ref cp)/\KR H cp xs
theorem dU.tab {c:Cs}{H:Hp}{y:Addr}{s:Sd.Sd}{d m:Nat}(h:dU c H y s d m):∃ xs lv,Qi H y xs/\Iw xs d m/\(dG xs).Pairwise Tb.Lt/\Sd.Mt s d lv (dG xs)/\Sd.Lw lv:=by
 cases h with
 | en h vv ok=>exact ⟨_,_,⟨_,_,_,_,h,rfl,vv.caps⟩,vv.gs,vv.so,vv.mt,vv.lw⟩
 | st h vv g lp ly row sub p0 p9 ne l4 w hk=>exact ⟨_,_,⟨_,_,_,_,h,rfl,vv.caps⟩,vv.gs,vv.so,vv.mt,vv.lw⟩
structure Z6 (x:Int×Int):Prop where
 t:intBits x.1<=20000
 b:intBits x.2<=4400
 p:0<x.2
theorem M3 {l:Int×Int}(h:Sd.Lw l):intBits l.2<=1501/\intBits l.1<=3031:=qW h.fq h.fr.pos h.b (aJn (Sd.cI _)) (aJO _)
section
variable (c:Cs)(cC:Addr)(C:Addr)(Pt:Addr)(lp:Pos)
def Jg:Sp:=fun vs H Q _=>∃ (p q:Addr) (x y:Int×Int),vs=[.ref p,.ref q]/\Tq H p x/\Tq H q y/\Z6 x/\Z6 y/\Q (.bl (decide (x.1*y.2<y.1*x.2))) H
end
theorem join {α:Type}{G:α->Prop}{A:Prop}(Cond:α->Prop)(main:(∀ H1,Cond H1->G H1)->A)(rest:∀ H1,Cond H1->G H1):A:=main rest
theorem CZ {l:Int×Int}(h:Sd.Lw l):Z6 l:=by
 have b:=M3 h;exact ⟨by omega,by omega,h.fr.pos⟩
def RC (c:Cs)(H H':Hp)(ts ys:List Addr):Prop:=∀ (i:Nat) t y,ts[i]? = some t->ys[i]? = some y->∃ s,jZ H t s/\dU c H' y s 4 12
theorem KY {c:Cs}{H H':Hp}:∀ {ts ys:List Addr},ys.length=ts.length->RC c H H' ts ys->∃ ss:List Sd.Sd,ss.length=ts.length/\(∀ (i:Nat) t s,ts[i]? = some t->ss[i]? = some s->jZ H t s)/\∀ (i:Nat) y s,ys[i]? = some y->ss[i]? = some s->dU c H' y s 4 12
 | [],[],_,_=>⟨[],rfl,fun i t s h=>by simp at h,fun i t s h=>by simp at h⟩
 | [],_::_,h,_=>by simp at h
 | _::_,[],h,_=>by simp at h
 | t::ts,y::ys,hl,h=>by
  obtain ⟨ss,l,a,b⟩:=KY (ts:=ts) (ys:=ys) (by simpa using hl) fun i t y e1 e2=>h (i+1) t y e1 e2;obtain ⟨s,to,st⟩:=h 0 t y rfl rfl;refine ⟨s::ss,by simp [l],fun i t' s' e1 e2=>?_,fun i t' s' e1 e2=>?_⟩
  ·cases i with
   | zero=>cases e1; cases e2; exact to
   | succ i=>exact a i t' s' e1 e2
  ·cases i with
   | zero=>cases e1; cases e2; exact st
   | succ i=>exact b i t' s' e1 e2
theorem RC.kp {c:Cs}{H H1 H2:Hp}{ts ys:List Addr}(k:Kp H1 H2)(h:RC c H H1 ts ys):RC c H H2 ts ys:=fun i t y e1 e2=>let ⟨s,to,st⟩:=h i t y e1 e2; ⟨s,to,st.kp k⟩
def Mod (H:Hp)(ts:List Addr)(q:Ca):Prop:=∀ (i:Nat) t s,ts[i]? = some t->q.ss[i]? = some s->jZ H t s.1
theorem Mod.keep {H H':Hp}{ts:List Addr}{q:Ca}(k:∀ b xs,H b=some (.tup xs)->H' b=some (.tup xs))(h:Mod H ts q):Mod H' ts q:=fun i t s e1 e2=>(h i t s e1 e2).keep k
theorem fP.lst {c:Cs}{cC:Addr}{H:Hp}{x:Addr}{q:Ca}{l:Addr}{xs zs:List V}(h:fP c cC H x q)(e:H l=some (.lst xs)):fP c cC (aX H l (.lst zs)) x q:=by
 have kt:∀ b xs,H b=some (.tup xs)->aX H l (.lst zs) b=some (.tup xs):=fun b xs e1=>by rw [aK (bI e1 e fun z=>nomatch z)]; exact e1
 refine ⟨by rw [aK (bI h.hx e fun z=>nomatch z)]; exact h.hx,kt _ _ h.hp,kt _ _ h.hl,kt _ _ h.hh,kt _ _ h.hd,h.n1,h.n6,h.es,h.el,h.eb,fun i y s e1 e2=>⟨vN e (h.st i y s e1 e2).1,(h.st i y s e1 e2).2⟩,fun v hv=>?_,h.en,fun d hd=>?_,h.d9⟩
 ·cases h.cp v hv with
  | non=>exact .non
  | sh a b=>exact .sh (kt _ _ a) b
 ·cases h.dd d hd with
  | op a=>exact .op (kt _ _ a)
  | tk a=>exact .tk (kt _ _ a)
theorem J9 (ns:List Int)(lo hi:Option Int):∃ ms:List Int,iI (ns.map V.int) lo hi=ms.map V.int/\ms.length<=ns.length:=by
 unfold iI;rw [aI8,<- List.map_drop,<- List.map_take];exact ⟨_,rfl,by rw [aJz,aKt]; omega⟩
structure SS where
 la:Addr
 ca:Addr
 ka:Addr
 da:Addr
 ts:List Addr
 ls:List V
 ks:List Int
 pd:Int
 ds:List Addr
def Js (H H':Hp)(q q2:Ca)(i:Nat)(s:Sd.Sd)(d:Nat):Prop:=∃ L lv rv,q2.ls=q.ls.set i (.ref L)/\Tq H' L lv/\Sd.Lw lv/\Sd.Lw rv/\Sd.Rv s d rv ∧
 ((q.ls[i]? = some .non/\lv=rv)∨∃ l0 lv0,q.ls[i]? = some (.ref l0)/\Tq H l0 lv0/\lv=if rv.1*lv0.2<lv0.1*rv.2 then rv else lv0)
section
variable (c:Cs)(cC:Addr)(C:Addr)
def Ph:Sp:=fun vs H Q _=>∃ (x:Addr) (i j:Nat) (q:Ca) (p:Int) (rs:List (Int×Sd.Sd)) (d m:Nat),vs=[.ref x,.int (i:Int),.int (j:Int)]/\fP c cC H x q/\q.ss[i]? = some (.st p rs,d,m)/\j<rs.length/\q.ds.length<=99 ∧
 ∀ x2 q2 H',aN H H'->fP c cC H' x2 q2->q2.ys.length=q.ys.length->(∃ t d2 m2,rs[j]? = some t/\q2.ss=q.ss.set i (t.2,d2,m2))->q2.bs=q.bs->Js H H' q q2 i (.st p rs) d->q2.sp=q.sp+p->(∃ t,q2.ds=q.ds++[t]/\H' t=some (.tup [.str "open",.int (i:Int),.int (j:Int)]))->Q (.ref x2) H'
def Oe:Sp:=fun vs H Q _=>∃ (x:Addr) (i:Nat) (q:Ca) (u:Int) (d m:Nat),vs=[.ref x,.int (i:Int)]/\fP c cC H x q/\q.ss[i]? = some (.en u,d,m)/\q.bs[i]? = some false/\q.ds.length<=99 ∧
 ∀ x2 q2 H',aN H H'->fP c cC H' x2 q2->q2.ys.length=q.ys.length->q2.ss=q.ss->q2.bs=q.bs.set i true->q2.ls=q.ls->q2.sp=q.sp->(∃ t,q2.ds=q.ds++[t]/\H' t=some (.tup [.str "take",.int (i:Int)]))->Q (.ref x2) H'
end
theorem Ld {l1 l2:List Int}(h:l1.Perm l2):l1.sum=l2.sum:=by
 induction h with
 | nil=>rfl
 | cons x _ ih=>rw [aJu,aJu,ih]
 | swap x y l=>simp only [aJu]; omega
 | trans _ _ a b=>exact a.trans b
theorem O1 (q:Ca):(cU q).Pairwise (·<=·):=by
 unfold cU tO;refine aKs.mpr (aLm.sublist aLQ ?_);exact (List.pairwise_lt_range).imp fun h=>Int.ofNat_le.mpr (aJH h)
theorem Bd {q:Ca}{ks ms:List Int}(p:ms.Perm ks)(k:ks.Perm (cU q))(h:ms.Pairwise (·<=·)):ms=cU q:=(p.trans k).eq_of_pairwise (fun _ _ _ _ a b=>Int.le_antisymm a b) h (O1 q)
theorem DG {c:Cs}{cC:Addr}{H H3:Hp}{x dx tp tl th td:Addr}{ts ys:List Addr}(hx3:H3 x=some (.ins cC dx (qP tp tl th 0 td)))(htp:H3 tp=some (.tup (ys.map V.ref)))(htl:H3 tl=some (.tup (ys.map fun _=>V.non)))(hth:H3 th=some (.tup (ys.map fun _=>V.bl false)))(htd:H3 td=some (.tup []))
  (n1:1<=ys.length) (n6:ys.length<=6) (yl:ys.length=ts.length) (cor:RC c H H3 ts ys) (kt:∀ b xs,H b=some (.tup xs)->H3 b=some (.tup xs)):∃ q1:Ca,fP c cC H3 x q1/\q1.ys=ys/\q1.ds=[]/\Mod H3 ts q1/\q1.ls=ys.map (fun _=>V.non)/\q1.bs=ys.map (fun _=>false)/\q1.sp=0:=by
 obtain ⟨ss,sl,a,b⟩:=KY yl cor;refine ⟨⟨dx,tp,tl,th,td,ys,ss.map fun s=>(s,4,12),ys.map fun _=>V.non,ys.map fun _=>false,0,[]⟩,⟨hx3,htp,htl,?_,htd,n1,n6,?_,by rw [aI8],by rw [aI8],fun i y s e1 e2=>?_,fun v hv=>?_,fun i s e1 _=>?_,(fun d hd=>nomatch hd),aJD _⟩,rfl,rfl,fun i t s e1 e2=>?_,rfl,rfl,rfl⟩
 ·show H3 th=some (.tup ((ys.map fun _=>false).map V.bl));rw [aJ0];exact hth
 ·show (ss.map _).length=ys.length;rw [aI8];omega
 ·rw [aJh] at e2;cases e:ss[i]? with
  | none=>rw [e] at e2; cases e2
  | some z=>rw [e] at e2; cases e2; exact ⟨b i y z e1 e,aJd 4,aJd 12⟩
 ·obtain ⟨_,_,rfl⟩:=aJe.mp hv;exact .non
 ·rw [aJh] at e1;cases e:ys[i]? with
  | none=>rw [e] at e1; cases e1
  | some y=>rw [e] at e1; cases e1
 ·rw [aJh] at e2;cases e:ss[i]? with
  | none=>rw [e] at e2; cases e2
  | some z=>rw [e] at e2; cases e2; exact (a i t z e1 e).keep kt
theorem j8 {q:Ca}{b:Nat}:(b:Int)∈cU q↔b<q.ys.length/\q.bs.getD b false=true:=by
 unfold cU tO;constructor
 ·intro h;obtain ⟨i,hi,e⟩:=aJe.mp h;obtain ⟨h1,h2⟩:=aJE.mp hi;have:i=b:=aLa.inj e;subst this;exact ⟨aJV.mp h1,h2⟩
 ·rintro ⟨h1,h2⟩;exact aJe.mpr ⟨b,aJE.mpr ⟨aJV.mpr h1,h2⟩,rfl⟩
theorem HD (q:Ca):(cU q).Nodup:=by
 unfold cU tO;exact (aKs.mpr ((aLm.sublist aLQ List.nodup_range).imp fun h e=>h (aLa.inj e)))
theorem Hh {q q2:Ca}{b:Nat}(hb:b<q.ys.length)(hl:q.bs.length=q.ys.length)(e:q.bs[b]? = some false)(ey:q2.ys.length=q.ys.length)(eb:q2.bs=q.bs.set b true):((cU q)++[(b:Int)]).Perm (cU q2):=by
 have nb:(b:Int)∉cU q:=fun h=>by
  have:=(j8.mp h).2;rw [getD_at (show b<q.bs.length by omega)] at this;rw [aI7 (show b<q.bs.length by omega)] at e;rw [this] at e;cases e
 refine (List.perm_ext_iff_of_nodup ?_ (HD q2)).mpr fun x=>?_
 ·refine aKZ.mpr ⟨HD q,by simp,fun x hx y hy=>?_⟩;rw [aJk.mp hy];exact fun z=>nb (z ▸ hx)
 ·constructor
  ·intro h;rcases aJy.mp h with h | h
   ·obtain ⟨i,_,rfl⟩:=aJe.mp h;obtain ⟨h1,h2⟩:=j8.mp h;refine j8.mpr ⟨by omega,?_⟩;rw [eb,aJG,aJ7]
    by_cases z:b=i
    ·rw [if_pos z,if_pos (by omega)]; rfl
    ·rw [if_neg z,<- aJG]; exact h2
   ·rw [aJk.mp h];refine j8.mpr ⟨by omega,?_⟩;rw [eb,aJG,aJ7,if_pos rfl,if_pos (by omega)]
    rfl
  ·intro h;obtain ⟨i,_,rfl⟩:=aJe.mp h;obtain ⟨h1,h2⟩:=j8.mp h;rw [eb,aJG,aJ7] at h2
   by_cases z:b=i
   ·exact aJs _ (by rw [z]; exact aJk.mpr rfl)
   ·rw [if_neg z,<- aJG] at h2;exact aJ3 _ (j8.mpr ⟨by omega,h2⟩)
theorem Il {q q2:Ca}(ey:q2.ys.length=q.ys.length)(eb:q2.bs=q.bs):cU q2=cU q:=by
 unfold cU tO;rw [ey,eb]
theorem yL (ks:List Int):(ks.map V.int).all lN=true:=aJN.mpr fun v hv=>by
 obtain ⟨i,_,rfl⟩:=aJe.mp hv
 rfl
end TD
namespace L2
open PySem PySem.Spec PyProof.Rows
section
variable {X:Cx}
def Jw (ns:List Int):List Int:=ns.foldl step_dedup []
theorem Bu (ns:List Int):firstMet (fun i=>ns.getD i 0) ns.length=Jw ns:=by
 unfold firstMet Jw
 congr 1
 apply List.ext_getElem
 ·simp
 ·intro i h1 h2;simp [h2]
theorem Hq (hc:X.calm=true):eZ X (.type "set") (fun xs H Q=>∃ (a:Addr) (ns:List Int),xs=[.ref a]/\bG X.K H a (ns.map V.int)/\ns.length+1<scanBound ∧
  ∀ r,H r=none->Q (.ref r) (aX H r (.set (fun k=>(Jw ns).any (·==k)) (Jw ns).length))):=by
 intro pins s σ H xs us Q I r h;obtain ⟨a,ns,rfl,hS,hb,q⟩:=h;obtain ⟨u,rfl,ru⟩:=vals1 r;cases (show u=Value.ref a from ru);obtain ⟨its,rv,p,hz⟩:=I.list hS;have hi:=intsAre_of rv;have hl:its.toArray.size=ns.length:=by
  have h:=rv.length;rw [aI8] at h
  simpa using h.symm
 refine call_set_list (items:=its.toArray) (ns:=ns) (I.ok.hd hc) p.isList hi (by rw [hl]; exact hb) fun h' tk hSO kp=>?_;rw [hl,Bu] at hSO;refine ⟨.ref s.heap.objs.size,_,I.laid (t':=tk) (fun b o e=>kp b o (aJm e) e) (aJd _) (show cJ X.prog X.w _ h' _ (.set _ _) from hSO),rfl,q _ (I.hok.fresh (aJd _))⟩
theorem xB:eZ X (.builtin "len") (fun xs H Q=>∃ (a:Addr) (S:Int->Bool) (n:Nat),xs=[.ref a]/\H a=some (.set S n)/\Q (.int n) H):=by
 intro pins s σ H xs us Q I r h;obtain ⟨a,S,n,rfl,ha,q⟩:=h;obtain ⟨u,rfl,ru⟩:=vals1 r;cases (show u=Value.ref a from ru);obtain ⟨o,es,ep,t,ho,hex,hd,_,_,hsb,hf,hn⟩:=(show cJ X.prog X.w H s.heap a (.set S n) from I.hok a _ ha)
 subst hn;refine call_len_set ho hex hd hf ?_ ⟨.int es.size,H,I.kept (h':=s.heap) (fun _ _ e=>e),⟨_,rfl⟩,q⟩;have:(es.size:Int)<4096:=by unfold scanBound at hsb; omega
 exact aL1 this (by decide)
end
section
variable {prog:Program}{w:World}{A:Around}{E:Value->Shared->Prop}{s:Shared}{a₀:Array PyProof.Rows.Keyed}
theorem M8 {st:SortSt}{m:Nat}{Q:Option Nat->SortSt->Prop}(h0:IntKeys a₀)(hn:m<=a₀.size)(h1:1<=m)(hB:SBase a₀ st)(hs:SortedTo (arrOf st) m)(h:Q (some m) st) :
  wpS (model prog w) A E s (countRun' 0 m) Q st:=by
 rw [countRun0_eq];refine wpS_bind (wpS_ascLoop h0 hn (aJd 1) h1 hB (fun i j hij hj=>hs i j hij (by omega)) fun n n1 n2 _ hor=>?_);have e:n=m:=by
  rcases hor with e | e
  ·exact e
  ·by_cases z:n=m
   ·exact z
   ·exact absurd (hs (n-1) n (by omega) (by omega)) (Int.not_le.mpr e)
 subst e;dsimp only;rw [if_pos (beq_self_eq_true n)];exact wpS_pure h
theorem QC {st:SortSt}{Q:Unit->SortSt->Prop}(h0:IntKeys a₀)(hB:SBase a₀ st)(h64:a₀.size=64)(hs:SortedTo (arrOf st) a₀.size)
  (h:∀ st',(arrOf st').Perm a₀->failedOf st'=none->SortedTo (arrOf st') a₀.size->Q () st'):wpS (model prog w) A E s sortRuns' Q st:=by
 rw [sortRuns'_eq];refine wpS_bind (wpS_get ?_);have hm:minRun' 64 64 0=32:=by decide
 simp only [hB.size,h64,hm];rw [h64] at hs;refine wpS_bind (wpS_mono (wpS_forRange (I:=fun x c st'=>(x=0/\c=(none,0)/\st'=st)∨(1<=x/\c=(none,64)/\st'=setPending st ((pendingOf st).push (0,64,0)))) (Q:=fun c st'=>c=(none,64)/\st'=setPending st ((pendingOf st).push (0,64,0))) ?step ?fin (.inl ⟨rfl,rfl,rfl⟩)) ?post)
 case fin =>
  rintro c st' (⟨hx,_,_⟩ | ⟨_,hc,hD⟩)
  ·omega
  ·exact ⟨hc,hD⟩
 case step =>
  rintro x c st' _ hx (⟨rfl,rfl,rfl⟩ | ⟨hx1,rfl,hD⟩)
  ·dsimp only;rw [if_neg (by omega)];simp only [Nat.sub_zero,aLX];refine wpS_bind (M8 h0 (by omega) (by decide) hB hs ?_);dsimp only;rw [if_neg (by decide)];refine wpS_bind (wpS_get ?_);rw [show (pendingOf st').back? = none by rw [hB.pend]; rfl];dsimp only;exact wpS_bind (wpS_modify (wpS_pure (.inr ⟨by omega,rfl,rfl⟩)))
  ·dsimp only;rw [if_pos (aJd _)];exact wpS_pure ⟨rfl,hD⟩
 case post =>
  rintro c st' ⟨rfl,rfl⟩;dsimp only;refine wpS_bind (wpS_mono (wpS_forRange (I:=fun _ c st''=>st''=setPending st ((pendingOf st).push (0,64,0))/\c=(none,())) (Q:=fun c st''=>st''=setPending st ((pendingOf st).push (0,64,0))/\c=(none,())) ?_ (fun _ _ hh=>hh) ⟨rfl,rfl⟩) ?_)
  ·rintro x c st'' _ _ ⟨rfl,rfl⟩;refine wpS_bind (wpS_get ?_);rw [if_pos (by show ((pendingOf st).push (0,64,0)).size<=1; rw [hB.pend]; exact aJd 1)];exact wpS_pure ⟨rfl,rfl⟩
  ·rintro c st'' ⟨rfl,rfl⟩;exact wpS_pure (h _ hB.perm hB.failed (by rw [h64]; exact hs))
theorem Am {vs:List Value}{ns:List Int}(hI:IntsAre vs ns)(hs:ns.Pairwise (·<=·)):SortedTo (pairsOf vs) (pairsOf vs).size:=by
 intro i j hij hj;have hi:i<(pairsOf vs).size:=by omega
 have hn:=hI.nums;have kk:∀ (k:Nat) (hk:k<(pairsOf vs).size),K (pairsOf vs) k=ns[k]'(by rw [<- hn,aI8]; rw [pairsOf_size] at hk; exact hk):=fun k hk=>by
  rw [K_eq hk];simp only [pairsOf,Array.getElem_zip,aJP];have e:ns[k]'(by rw [<- hn,aI8]; rw [pairsOf_size] at hk; exact hk)=(vs.map numOf)[k]'(by rw [aI8]; rw [pairsOf_size] at hk; exact hk):=by simp only [hn]
  rw [e,List.getElem_map]
 rw [kk i hi,kk j hj]
 by_cases e:i=j
 ·subst e; exact aJO _
 ·exact aKM.mp hs i j _ _ (by omega)
theorem Q3 {a:Addr}{vs:List Value}{ns:List Int}{n:Nat}{P:PySem.Fin->Shared->Prop}(ho:s.heap.get? a=some (seqObj "list" vs.toArray n))(hI:IntsAre vs ns)(h64:vs.length=64)(hs:ns.Pairwise (·<=·))
  (h:∀ (out:Array Value) (ns':List Int),IntsAre out.toList ns'->ns'.Perm ns->ns'.Pairwise (·<=·)->P (.done (.ret .none)) { s with heap:=sortedHeap s.heap a vs out }) :
  wpAny (model prog w) A (Builtin.«list.sort» ⟨[.ref a],[]⟩) P E s:=by
 rw [list_sort_plain];have ha:a<s.heap.objs.size:=aJm ho;have hl:vs.toArray.size=64:=by simpa using h64
 refine wpAny_bind (listItems_at ho rfl (wpAny_bind (listUpdate_at ho rfl ?_ (by rw [hl,sizeLine_eq]; decide) (aJD _))));obtain ⟨e1,ho1⟩:∃ e1,(s.heap.update a (Obj.mapSeq fun _=>#[])).get? a=some (seqObj "list" #[] e1):=⟨_,get?_update_seq ho (fun _=>#[])⟩
 refine wpAny_bind (seqEpoch_at ho1 rfl (wpAny_bind (wpAny_newTuple (wpAny_bind (wpAny_newList (wpAny_holding ?_))) (by rw [show vs.toArray.toList=vs from rfl,h64,sizeLine_eq]; decide))));have ho6:(((s.heap.update a (Obj.mapSeq fun _=>#[])).push (seqObj "tuple" vs.toArray 0)).push (seqObj "list" #[] 0)).get? a=some (seqObj "list" #[] e1):=aJb _ (aJb _ ho1);show wpAny (model prog w) A _ P E { s with heap:=((s.heap.update a (Obj.mapSeq fun _=>#[])).push (seqObj "tuple" vs.toArray 0)).push (seqObj "list" #[] 0) };dsimp only;rw [if_neg (by rw [hl]; decide),if_neg (by rw [hl]; decide)];obtain ⟨v1,v2,rest,rfl⟩:∃ v1 v2 rest,vs=v1::v2::rest:=by
  match vs,h64 with
  | v1::v2::rest,_=>exact ⟨v1,v2,rest,rfl⟩
 rw [keyKind_ints hI];refine wpAny_bind (wpAny_pure ?_);refine wpAny_bind (wpAny_mono (QC (a₀:=pairsOf (v1::v2::rest)) (st:=SortSt.mk' oneType' ((v1::v2::rest).toArray.zip (v1::v2::rest).toArray) #[] 7 none)
  (Q:=fun _ st'=>(arrOf st').Perm (pairsOf (v1::v2::rest))/\failedOf st'=none/\SortedTo (arrOf st') (pairsOf (v1::v2::rest)).size)
  hI.intKeys ⟨aMd.refl _,rfl,rfl,rfl⟩ (by rw [pairsOf_size]; exact h64) (Am hI hs) fun st' a1 a2 a3=>⟨a1,a2,a3⟩) ?_ fun _ _ e=>e)
 rintro ⟨⟨⟩,st'⟩ s' ⟨rfl,hp,hf,hso⟩;dsimp only;refine wpAny_bind (seqEpoch_at ho6 rfl (wpAny_bind (listUpdate_at ho6 rfl ?_ (aJD _) (aJc (aLv ((Array.size_map ..).trans (hp.size_eq.trans ((pairsOf_size _).trans h64)))) (by rw [sizeLine_eq]; decide)))));rw [hf];simp only [bne_self_eq_false,aKd,if_false];obtain ⟨ns',b1,b2,b3⟩:=sorted_out hI hp hso;exact wpAny_pure (h _ ns' b1 b2 b3)
theorem BZ {l:Addr}{o:Obj}{T:String}{vs:List Value}{n:Nat}{Q:List Value->Shared->Prop}(hT:T = "list"∨T = "tuple")(ho:s.heap.get? l=some o)(hc:o.cls=.type T)(hd:o.data=.seq vs.toArray n)(hz:vs.length<=sizeLine)
  (h:∀ h',(∀ b u,s.heap.get? b=some u->h'.get? b=some u)->Q vs { s with heap:=h' }):wpAny (model prog w) A (collect (.ref l)) Q E s:=by
 unfold collect;refine wpAny_bind (wpAny_runValue (codeAny_builtin entry_proto_collect' ?_));show wpAny _ _ (do again (.builtin "list.__iadd__" ⟨[<- newList [],.ref l],[]⟩)) _ _ s;refine wpAny_bind (wpAny_newList (wpAny_pure ⟨Code.quiet_builtin _ (by decide +kernel),codeAny_builtin entry_list_iadd' ?_⟩));show wpAny _ _ (Builtin.List.listExtendWith (.ref s.heap.objs.size) (.ref l) (.ref s.heap.objs.size)) _ _ { s with heap:=s.heap.push (seqObj "list" #[] 0) };unfold Builtin.List.listExtendWith;have ho':(s.heap.push (seqObj "list" #[] 0)).get? l=some o:=aJb _ ho;refine wpAny_bind (wpAny_typeOf (T:=T) ⟨o,ho',hc⟩ ?_);rw [if_pos (by rcases hT with e | e <;> subst e <;> simp)];refine wpAny_bind (listItems_at ho' hd (wpAny_bind (listItems_at (xs:=#[]) (n:=0) (aJr _ rfl) rfl ?_)));rw [if_neg (by simp)];refine wpAny_bind (listUpdate_at (xs:=#[]) (n:=0) (aJr _ rfl) rfl ?_ (aJD _) (by show (#[]++vs.toArray).size<=sizeLine+1; simp only [Array.size_append,aJf,aL9]; omega));refine wpAny_pure ?_;show wpAny (model prog w) A (do
   let o <- load s.heap.objs.size
   match o.data with
   | .seq xs _=>pure xs.toList
   | _=>unsupported "internal:collect") Q E { s with heap:=(s.heap.push (seqObj "list" #[] 0)).update s.heap.objs.size (Obj.mapSeq (·++vs.toArray)) }
 refine wpAny_bind (wpAny_load (get?_update_seq (aJr _ rfl) _) ?_);show wpAny _ _ (pure ((#[]:Array Value)++vs.toArray).toList) Q E _;rw [show ((#[]:Array Value)++vs.toArray).toList=vs by simp];refine wpAny_pure (h _ fun b u e=>?_);rw [Heap.get?_update_ne _ _ _ _ (aJB (aJm e))];exact aJb _ e
end
section
variable {X:Cx}
def Jz (ns:List Int):Prop:=ns.length<64∨(ns.length=64/\ns.Pairwise (·<=·))
theorem Aq:eZ X (.builtin "sorted") (fun xs H Q=>∃ (p:Addr) (ns:List Int),xs=[.ref p]/\(bG X.K H p (ns.map V.int)∨cV X.K H p (ns.map V.int))/\Jz ns ∧
  ∀ (l:Addr) (ms:List Int),H l=none->ms.Perm ns->ms.Pairwise (·<=·)->Q (.ref l) (aX H l (.lst (ms.map V.int)))):=by
 intro pins s σ H xs us Q I r h;obtain ⟨p,ns,rfl,hq,h64,q⟩:=h;obtain ⟨u,rfl,ru⟩:=vals1 r;cases (show u=Value.ref p from ru);obtain ⟨T,hT,o,its,n,ho,hc,hd,rv,hz⟩:∃ T,(T = "list"∨T = "tuple")/\∃ (o:Obj) (its:List Value) (n:Nat),s.heap.get? p=some o/\o.cls=.type T/\o.data=.seq its.toArray n/\bK (ns.map V.int) its/\(ns.map V.int).length<=sizeLine:=by
  rcases hq with hq | hq
  ·obtain ⟨its,rv,pl,hz⟩:=I.list hq;obtain ⟨o,ho,hc,n,hd⟩:=pl.isList;exact ⟨"list",.inl rfl,o,its,n,ho,hc,hd,rv,hz⟩
  ·obtain ⟨its,rv,pl,hz⟩:=I.tuple hq;obtain ⟨o,ho,hc,n,hd⟩:=pl;exact ⟨"tuple",.inr rfl,o,its,n,ho,hc,hd,rv,hz⟩
 have hlen:=rv.length;have hi:=intsAre_of rv;have hln:its.length=ns.length:=hi.length;refine Calls.call_function_entry kind_sorted plain_sorted entry_sorted (args_sorted1 _) ?_;unfold Builtin.«sorted»;refine wpAny_bind (m:=checkCount "sorted" 1 1 _) (wpAny_pure ?_);refine wpAny_bind (BZ hT ho hc hd (by omega) fun h' kp=>?_);refine wpAny_bind (wpAny_newList ?_ (by omega));have hoL:(h'.push (seqObj "list" its.toArray 0)).get? h'.objs.size=some (seqObj "list" its.toArray 0):=aJr _ rfl;have fin:∀ (out:Array Value) (ns':List Int),IntsAre out.toList ns'->ns'.Perm ns->ns'.Pairwise (·<=·)->EP X pins σ Q (.ref h'.objs.size) { s with heap:=sortedHeap (h'.push (seqObj "list" its.toArray 0)) h'.objs.size its out }:=fun out ns' a1 a2 a3=>by
  have I1:aZ X pins σ H { s with heap:=h' }:=I.kept (t':=s.toks) kp;obtain ⟨ep2,eo⟩:=sortedHeap_at (out:=out) hoL;have hlo:out.toList.length=ns'.length:=a1.length;have hl2:ns'.length=ns.length:=a2.length_eq;refine ⟨.ref h'.objs.size,aX H h'.objs.size (.lst (ns'.map V.int)),I1.laid (t':=s.toks) (fun b u q=>?_) (aJd _) ⟨by rw [aI8]; omega,out.toList,ep2,sO a1,by rw [aK4]; exact eo⟩,rfl,q _ _ (I1.hok.fresh (aJd _)) a2 a3⟩;rw [sortedHeap_old (aJB (aJm q)) (by rw [aLM]; exact aLj (aJm q))];exact aJb _ q
 rcases h64 with h64 | ⟨h64,hs⟩
 ·refine wpAny_bind (wpAny_holding (wpAny_call_entry slot_list_sort ⟨_,hoL,rfl⟩ entry_list_sort (list_sort_tree hoL hi (by omega) fun out ns' a1 a2 a3=>⟨_,rfl,?_⟩) (args_list_sort _)));exact wpAny_pure ⟨_,rfl,fin out ns' a1 a2 a3⟩
 ·refine wpAny_bind (wpAny_holding (wpAny_call_entry slot_list_sort ⟨_,hoL,rfl⟩ entry_list_sort (Q3 hoL hi (by omega) hs fun out ns' a1 a2 a3=>⟨_,rfl,?_⟩) (args_list_sort _)));exact wpAny_pure ⟨_,rfl,fin out ns' a1 a2 a3⟩
def Qd:V->List V->Hp->VK->Prop:=fun x vs H Q=>∃ (l:Addr) (ns:List Int) (k:Int),x=.ref l/\vs=[.int k]/\H l=some (.lst (ns.map V.int))/\Q (.int (ns.count k:Nat)) H
theorem yO {k:Int}:∀ {us:List Value}{ns:List Int},IntsAre us ns->us.countP (fun y=>numOf y==k)=ns.count k
 | _,_,.nil=>rfl
 | _,_,.cons n t h=>by
  rw [aLr,aMa,yO h]
  rfl
theorem Jj:Z0 X "list.count" Qd:=by
 intro pins s σ H x vs v us Q I rx rv h;obtain ⟨l,ns,k,rfl,rfl,hH,q⟩:=h;cases rx;obtain ⟨u,rfl,ru⟩:=rv.one;obtain ⟨t,rfl⟩:=ru;obtain ⟨z,its,n,r,hl,e⟩:=I.lstM hH;have hi:=intsAre_of r;refine call_meets F.slot_list_count ⟨_,e,rfl⟩ F.entry_list_count (F.args_list_count_2 _ _) (SeqAt.list_countAt l its.toArray n none #[] (.int k t) fun y=>numOf y==k) ⟨e,fun y hy=>?_,?_⟩
 ·obtain ⟨m,t',rfl⟩:=hi.all y (by simpa using hy);exact SeqAt.EqAt.int_int m t' k t
 ·refine ⟨.int (ns.count k:Nat),H,I.kept (h':=s.heap) (fun _ _ e=>e),⟨s.toks,?_⟩,q⟩;rw [show its.toArray.toList=its from rfl,yO hi]
theorem Ez {e:Expr}{a b c:TE}(h1:PE X e a)(h2:PE X e b)(h3:PE X e c):PE X e (fun σ H Q=>a σ H Q∨b σ H Q∨c σ H Q):=fun pins s σ H Q I h=>by
 rcases h with h | h | h
 ·exact h1 pins s σ H Q I h
 ·exact h2 pins s σ H Q I h
 ·exact h3 pins s σ H Q I h
end
theorem NT {ns:List Int}(nd:ns.Nodup):Jw ns=ns:=by
 have go:∀ (ms ds:List Int),(ds++ms).Nodup->ms.foldl PyProof.Rows.step_dedup ds=ds++ms:=by
  intro ms
  induction ms with
  | nil=>intro ds _; simp
  | cons m ms ih =>
   intro ds h;have hm:ds.any (·==m)=false:=by
    rw [aLg];intro x hx z;have hxm:x=m:=by simpa using z
    have:=(aKZ.mp h).2.2 x hx m aJa;exact this hxm
   show ms.foldl PyProof.Rows.step_dedup (PyProof.Rows.step_dedup ds m)=_;have e:PyProof.Rows.step_dedup ds m=ds++[m]:=by unfold PyProof.Rows.step_dedup; rw [if_neg (by rw [hm]; exact aJp)]
   rw [e,ih (ds++[m]) (by rw [aLh]; exact h),aLh]
   rfl
 exact go ns [] (by simpa using nd)
theorem oF {X:Cx}{K:PySem.W.Frag}(hK:X.K=K):eZ X (.builtin "sorted") (fun xs H Q=>∃ (p:Addr) (ns:List Int),xs=[.ref p]/\(bG K H p (ns.map V.int)∨cV K H p (ns.map V.int))/\Jz ns ∧
  ∀ (l:Addr) (ms:List Int),H l=none->ms.Perm ns->ms.Pairwise (·<=·)->Q (.ref l) (aX H l (.lst (ms.map V.int)))):=by subst hK; exact Aq
theorem Fe {X:Cx}{K:PySem.W.Frag}(hK:X.K=K)(hc:X.calm=true):eZ X (.type "set") (fun xs H Q=>∃ (a:Addr) (ns:List Int),xs=[.ref a]/\bG K H a (ns.map V.int)/\ns.length+1<scanBound ∧
  ∀ r,H r=none->Q (.ref r) (aX H r (.set (fun k=>(Jw ns).any (·==k)) (Jw ns).length))):=by subst hK; exact Hq hc
theorem RJ:bootBuiltins "set" = some (.type "set"):=by decide +kernel
section
variable {X:Cx}{K:PySem.W.Frag}{o e:Expr}{es:List Expr}{ta to:TE}{t:TA}{f name:Str}{pos apos cpos:Pos}{T id:String}{r:V->List V->Hp->VK->Prop}
theorem uX (hK:X.K=K)(he:PE X e ta)(hb:attributeBase e f X.env (eval e X.env)=eval e X.env):PE X (.Attribute e f pos) (ZS K ta f):=by subst hK; exact dI he hb
theorem Qc (hK:X.K=K)(pa:PlainAttrs T)(slot:Slot T name id)(hty:typeOf (.builtin id)=pure (.type "method_descriptor"))(hm:MtR X id r)(ho:PE X o to)(ha:PA X (e::es) t)
  (hbase:attributeBase o name X.env (eval o X.env)=eval o X.env:=by rfl)
  (hfew:((backTo cpos (starEach (e::es) X.env)).all (fun x=>!x.1)&&(backToKw cpos (keywordEach [] X.env)).all (fun x=>x.1.isSome)
  &&decide ((e::es).length+([]:List Keyword).length+(if ([]:List Keyword).isEmpty then 0 else 1)<30))=true:=by rfl)
  (hline:(apos.endLine==cpos.line)=true:=by rfl) (hs:starEach (e::es) X.env=(false,eval e X.env)::starEach es X.env:=by rfl) (hplain:(backTo cpos (starEach es X.env)).any (·.1)=false:=by rfl) :
  PE X (.Call (.Attribute o name apos) (e::es) [] cpos) (tBM K T r to t):=by subst hK; exact lY pa slot hty hm ho ha hbase hfew hline hs hplain
end
end L2
namespace TP
open PySem L2 TD
open Builtin.Int (intBits)
def hb (k b:Int):Bool:=decide (V.int (Builtin.bitAnd (k/2^b.toNat) 1)=V.int 1)
def six (n:Nat):List Int:=(aKk n).map fun (i:Nat)=>(0:Int)+(i:Int)
def gJ (k:Int):List Int:=(six 6).filter (hb k)
theorem kW (n:Nat):six (n+1)=six n++[0+(n:Int)]:=by unfold six; rw [aLG,aJj]; rfl
theorem uR {n:Nat}{b:Int}(h:b∈six n):0<=b/\b<n:=by
 obtain ⟨i,hi,rfl⟩:=aJe.mp h;have:=aJV.mp hi;omega
theorem pU (k:Int):(gJ k).length<=6:=aJc (aJM _ _) (by unfold six; rw [aI8,aJX]; exact aJd _)
theorem lG {k b:Int}(h:b∈gJ k):0<=b/\b<6:=uR (aJE.mp h).1
def JM:Sp:=fun vs H Q _=>∃ k b:Int,vs=[.int k,.int b]/\0<=b/\Q (.bl (hb k b)) H
def vM:Sp:=fun vs H Q _=>∃ k:Int,vs=[.int k]/\∀ r H',aN H H'->H r=none->H' r=some (.lst (Is (gJ k)))->Q (.ref r) H'
def Q7:Sp:=fun vs H Q _=>∃ k:Int,vs=[.int k]/\∀ H',aN H H'->Q (.int ((gJ k).length:Nat)) H'
def FW:Sp:=fun vs H Q _=>∃ (a:Addr) (ns:List Int) (lo hi g:Int),vs=[.ref a,.int lo,.int hi,.int g]/\H a=some (.lst (Is ns))/\lo<=(ns.length:Int)/\(ns.length:Int)<=hi/\ns.length<=64/\(∀ n∈ns,0<=n/\n<=g)/\∀ H',aN H H'->Q (.bl true) H'
inductive Sk where
 | few (c:Int)
 | groups (gs ms:List Int)
 | listed (ks:List Int)
structure O3 (gs ms:List Int):Prop where
 l1:1<=gs.length
 l6:gs.length<=6
 g:∀ g∈gs,0<=g/\g<=5
 m6:ms.length=6
 m:∀ m∈ms,0<=m/\m<=6
structure Rk (ks:List Int):Prop where
 l1:1<=ks.length
 few:Jz ks
 nd:ks.Nodup
 k:∀ k∈ks,0<=k/\k<=63
theorem Rk.l64 {ks:List Int}(g:Rk ks):ks.length<=64:=by rcases g.few with h | h <;> omega
def t7:Sk->Prop
 | .few c=>0<=c/\c<=6
 | .groups gs ms=>O3 gs ms
 | .listed ks=>Rk ks
def rG (gs ms:List Int)(k:Int):Bool:=(gJ k).all (fun b=>decide (b<(gs.length:Int)))&&((gJ k).map fun b=>gs.getD b.toNat 0).all fun g=>decide ((((gJ k).map fun b=>gs.getD b.toNat 0).count g:Nat)<=ms.getD g.toNat 0)
def lE:Sk->Int->Bool
 | .few c,k=>decide (((gJ k).length:Nat)<=c)
 | .groups gs ms,k=>rG gs ms k
 | .listed ks,k=>Gd (.int k) (Is ks)
structure yX where
 f:Addr
 g:Addr
 l:Addr
def tY (C:Addr)(H:Hp)(x:Addr)(c:Int):Prop:=∃ dx,H x=some (.ins C dx [("limit",.int c)])
def Av (C:Addr)(H:Hp)(x:Addr)(gs ms:List Int):Prop:=∃ dx g m,H x=some (.ins C dx [("groups",.ref g),("most",.ref m)])/\H g=some (.tup (Is gs))/\H m=some (.tup (Is ms))
def Fl (C:Addr)(H:Hp)(x:Addr)(ks:List Int):Prop:=∃ dx k,H x=some (.ins C dx [("sets",.ref k)])/\H k=some (.tup (Is ks))
theorem tY.same {C:Addr}{H H':Hp}{x:Addr}{c:Int}(s:aN H H')(h:tY C H x c):tY C H' x c:=by obtain ⟨dx,a⟩:=h; exact ⟨dx,s _ _ a⟩
theorem Av.same {C:Addr}{H H':Hp}{x:Addr}{gs ms:List Int}(s:aN H H')(h:Av C H x gs ms):Av C H' x gs ms:=by obtain ⟨dx,g,m,a,b,c⟩:=h; exact ⟨dx,g,m,s _ _ a,s _ _ b,s _ _ c⟩
theorem Fl.same {C:Addr}{H H':Hp}{x:Addr}{ks:List Int}(s:aN H H')(h:Fl C H x ks):Fl C H' x ks:=by obtain ⟨dx,k,a,b⟩:=h; exact ⟨dx,k,s _ _ a,s _ _ b⟩
def Pk (C:Addr):Sp:=fun vs H Q _=>∃ (x dx:Addr) (c:Int),vs=[.ref x,.int c]/\H x=some (.ins C dx [])/\0<=c/\c<=6/\Q .non (aX H x (.ins C dx [("limit",.int c)]))
def rY (C:Addr):Sp:=fun vs H Q _=>∃ (x:Addr) (c k:Int),vs=[.ref x,.int k]/\tY C H x c/\∀ H',aN H H'->Q (.bl (lE (.few c) k)) H'
def Oo (C:Addr):Sp:=fun vs H Q _=>∃ (x dx a b:Addr) (gs ms:List Int),vs=[.ref x,.ref a,.ref b]/\H x=some (.ins C dx [])/\H a=some (.lst (Is gs))/\H b=some (.lst (Is ms))/\O3 gs ms ∧
 ∀ g m H',(∀ b o,b≠x->H b=some o->H' b=some o)->H' g=some (.tup (Is gs))->H' m=some (.tup (Is ms))->H' x=some (.ins C dx [("groups",.ref g),("most",.ref m)])->Q .non H'
def sJ (C:Addr):Sp:=fun vs H Q _=>∃ (x:Addr) (gs ms:List Int) (k:Int),vs=[.ref x,.int k]/\Av C H x gs ms/\O3 gs ms/\∀ H',aN H H'->Q (.bl (rG gs ms k)) H'
def Oc (C:Addr):Sp:=fun vs H Q _=>∃ (x dx a:Addr) (ks:List Int),vs=[.ref x,.ref a]/\H x=some (.ins C dx [])/\H a=some (.lst (Is ks))/\Rk ks ∧
 ∀ k ms H',aN H H'->ms.Perm ks->ms.Pairwise (·<=·)->H' k=some (.tup (Is ms))->Q .non (aX H' x (.ins C dx [("sets",.ref k)]))
def rC (C:Addr):Sp:=fun vs H Q _=>∃ (x:Addr) (ks:List Int) (k:Int),vs=[.ref x,.int k]/\Fl C H x ks/\Q (.bl (Gd (.int k) (Is ks))) H
theorem NZ (ns:List Int):(Is ns).all lN=true:=by
 rw [aJN];intro v hv;obtain ⟨n,_,rfl⟩:=aJe.mp hv
 rfl
theorem Om {ns:List Int}{k:Int}(h0:0<=k)(h:k<(ns.length:Int)):Dv (Is ns) k=some (.int (ns.getD k.toNat 0)):=by
 have hk:k.toNat<ns.length:=by omega
 have e:=dZ (xs:=Is ns) (j:=k.toNat) (v:=.int (ns.getD k.toNat 0)) (by rw [aJh,aI7 hk]; simp [hk]);rw [show ((k.toNat:Nat):Int)=k by omega] at e;exact e
def fC (cs:yX)(H:Hp)(x:Addr):Sk->Prop
 | .few c=>tY cs.f H x c
 | .groups gs ms=>Av cs.g H x gs ms
 | .listed ks=>∃ ms,ms.Perm ks/\ms.Pairwise (·<=·)/\Fl cs.l H x ms
theorem fC.same {cs:yX}{H H':Hp}{x:Addr}{S:Sk}(s:aN H H')(h:fC cs H x S):fC cs H' x S:=by
 cases S with
 | few c=>exact tY.same s h
 | groups gs ms=>exact Av.same s h
 | listed ks=>obtain ⟨ms,a,b,c⟩:=h; exact ⟨ms,a,b,c.same s⟩
end TP
namespace TP
open PySem L2 TD
theorem getD_mem {ns:List Int}{i:Nat}(h:i<ns.length):ns.getD i 0∈ns:=by
 rw [show ns.getD i 0=ns[i] by simp [h]];exact aKo h
theorem O7 (x y:Int):MP (.int x) (.int y)=(x==y):=rfl
theorem rP {x:Int}:∀ {ks:List Int},Gd (.int x) (Is ks)=true↔x∈ks
 | []=>⟨fun h=>(nomatch h),fun h=>(nomatch h)⟩
 | k::ks=>by
  have e:Gd (.int x) (Is (k::ks))=(MP (.int k) (.int x)||Gd (.int x) (Is ks)):=rfl;rw [e,O7,aKz,rP,aJx,beq_iff_eq];exact ⟨fun h=>h.imp Eq.symm id,fun h=>h.imp Eq.symm id⟩
theorem Ml {ks:List Int}(h1:1<=ks.length)(h64:ks.length<=64)(lt:ks.Pairwise (· < ·))(hk:∀ x∈ks,0<=x/\x<=63):Rk ks:=by
 refine ⟨h1,?_,lt.imp fun h=>Int.ne_of_lt h,hk⟩
 by_cases e:ks.length=64
 ·exact .inr ⟨e,lt.imp fun h=>aJn h⟩
 ·exact .inl (by omega)
def Ey:Sp:=fun vs H Q _=>∃ k b:Int,vs=[.int k,.int b]/\0<=b/\b<100/\Q (.int (Builtin.bitOr k (1*2^b.toNat))) H
abbrev Bs (bs:List Bool):List V:=bs.map V.bl
theorem BV {bs:List Bool}{k:Int}(h0:0<=k)(h:k<(bs.length:Int)):Dv (Bs bs) k=some (.bl (bs.getD k.toNat false)):=by
 have hk:k.toNat<bs.length:=by omega
 have e:=dZ (xs:=Bs bs) (j:=k.toNat) (v:=.bl (bs.getD k.toNat false)) (by rw [aJh,aI7 hk]; simp [hk]);rw [show ((k.toNat:Nat):Int)=k by omega] at e;exact e
theorem m7 (bs:List Bool):(Bs bs).length=bs.length:=aI8 _
theorem Mg:∀ (k:Fin 64) (b:Fin 6),hb ((k.val:Nat):Int) ((b.val:Nat):Int)=true->(2:Int)^b.val<=((k.val:Nat):Int):=by decide +kernel
theorem low {k b:Int}(h0:0<=k)(h1:k<64)(hb1:b∈gJ k):0<=k-1*2^b.toNat/\k-1*2^b.toNat<k:=by
 have r:=lG hb1;have e:=Mg ⟨k.toNat,by omega⟩ ⟨b.toNat,by omega⟩;simp only [show ((k.toNat:Nat):Int)=k by omega,show ((b.toNat:Nat):Int)=b by omega] at e;have h2:=e (aJE.mp hb1).2;have h3:(0:Int)<2^b.toNat:=Int.pow_pos (by decide);omega
def R9 (bs:List Bool)(n:Nat):Prop:=∀ o:Nat,o<n->∀ b∈gJ (0+(o:Int)),bs.getD (0+(o:Int)).toNat false=true->bs.getD (0+(o:Int)-1*2^b.toNat).toNat false=true
theorem QH:∀ (m:Fin 7) (k:Fin 64) (b:Fin 6),k.val<2^m.val->hb ((k.val:Nat):Int) ((b.val:Nat):Int)=true->b.val<m.val:=by decide +kernel
theorem Td:∀ (m:Fin 7) (k:Fin 64) (b:Fin 6),k.val<2^m.val->b.val<m.val->0<=Builtin.bitOr ((k.val:Nat):Int) (2^b.val)/\Builtin.bitOr ((k.val:Nat):Int) (2^b.val)<2^m.val:=by decide +kernel
theorem zG {m:Nat}{o e b:Int}(hm:m<=6)(o0:0<=o)(o1:o<2^m)(e0:0<=e)(e1:e<2^m)(h:b∈gJ o):0<=Builtin.bitOr e (1*2^b.toNat)/\Builtin.bitOr e (1*2^b.toNat)<2^m:=by
 have r:=lG h;have p6:(2:Int)^m<=64:=by
  have:m=0∨m=1∨m=2∨m=3∨m=4∨m=5∨m=6:=by omega
  rcases this with z | z | z | z | z | z | z <;> subst z <;> decide
 have pn:((2^m:Nat):Int)=(2:Int)^m:=by push_cast; rfl
 have ko:o.toNat<2^m:=by omega
 have ke:e.toNat<2^m:=by omega
 have x:=QH ⟨m,by omega⟩ ⟨o.toNat,by omega⟩ ⟨b.toNat,by omega⟩ ko;simp only [show ((o.toNat:Nat):Int)=o by omega,show ((b.toNat:Nat):Int)=b by omega] at x;have y:=Td ⟨m,by omega⟩ ⟨e.toNat,by omega⟩ ⟨b.toNat,by omega⟩ ke (x (aJE.mp h).2);simp only [show ((e.toNat:Nat):Int)=e by omega] at y;rw [aLl];exact y
def Ha (bs:List Bool)(o e:Int):List Bool:=((gJ o).filter fun b=>!hb e b).map fun b=>bs.getD (Builtin.bitOr e (1*2^b.toNat)).toNat false
def K4:Sp:=fun vs H Q _=>∃ (a:Addr) (bs:List Bool) (m:Nat) (o e:Int),vs=[.ref a,.int o,.int e]/\H a=some (.lst (Bs bs))/\bs.length=2^m/\m<=6/\0<=o/\o<(bs.length:Int)/\0<=e/\e<(bs.length:Int)/\∀ H',aN H H'->Q (.bl ((Ha bs o e).any id)) H'
def pick (bs:List Bool)(s:Nat)(k:Int):Bool:=bs.getD k.toNat false&&((gJ k).length==s)
def Cw (bs:List Bool)(i s:Nat):List Int:=(six i).filter (pick bs s)
theorem JZ (bs:List Bool)(i s:Nat):(Cw bs i s).length<=i:=aJc (aJM _ _) (by unfold six; rw [aI8,aJX]; exact aJd _)
theorem rZ (bs:List Bool)(i s:Nat):Cw bs (i+1) s=Cw bs i s++(if pick bs s (0+(i:Int))=true then [0+(i:Int)] else []):=by
 unfold Cw;rw [kW,aJ2]
 congr 1
 rw [aKf]
 split <;> rfl
structure Yx (H:Hp)(D:Addr)(ls:List Addr)(bs:List Bool)(i:Nat):Prop where
 lst:H D=some (.lst (ls.map V.ref))
 len:ls.length=7
 nd:ls.Nodup
 ne:∀ l∈ls,l≠D
 each:∀ (s:Nat) l,ls[s]? = some l->H l=some (.lst (Is (Cw bs i s)))
def JK:Sp:=fun vs H Q _=>∃ (a:Addr) (bs:List Bool),vs=[.ref a]/\H a=some (.lst (Bs bs))/\bs.length<=64/\∀ r H' ls,aN H H'->Yx H' r ls bs bs.length->Q (.ref r) H'
structure Pn (bs:List Bool)(o e:Int):Prop where
 o0:0<=o
 o1:o<(bs.length:Int)
 e0:0<=e
 e1:e<(bs.length:Int)
 bo:bs.getD o.toNat false=true
 be:bs.getD e.toNat false=true
 sz:(gJ o).length=(gJ e).length+1
 no:(Ha bs o e).any id=false
theorem Cr {bs:List Bool}{i s:Nat}{x:Int}(h:x∈Cw bs i s):0<=x/\x<(i:Int)/\bs.getD x.toNat false=true/\(gJ x).length=s:=by
 obtain ⟨h1,h2⟩:=aJE.mp h;have r:=uR h1;unfold pick at h2;rw [aJA,beq_iff_eq] at h2;exact ⟨r.1,r.2,h2.1,h2.2⟩
theorem at0 {xs:List V}{i:Nat}{v:V}(h:xs[i]? = some v):Dv xs (0+(i:Int))=some v:=by rw [aK6]; exact dZ h
theorem at1 {xs:List V}{i:Nat}{v:V}(h:xs[i+1]? = some v):Dv xs (0+(i:Int)+1)=some v:=by
 have:=dZ h;rw [show ((i+1:Nat):Int)=0+(i:Int)+1 by omega] at this;exact this
def Lz:Sp:=fun vs H Q _=>∃ (a:Addr) (bs:List Bool) (m:Nat),vs=[.ref a]/\H a=some (.lst (Bs bs))/\bs.length=2^m/\m<=6/\(∀ H',aN H H'->Q .non H') ∧
 ∀ (r:Addr) (H':Hp) (o e:Int),aN H H'->H' r=some (.tup [.str "more",.int o,.int e])->Pn bs o e->Q (.ref r) H'
theorem HJ:∀ {xs ys:List Int},(∀ g,xs.count g<=ys.count g)->xs.length<=ys.length
 | [],_,_=>aJD _
 | x::xs,ys,h=>by
  have hx:=h x;rw [List.count_cons_self] at hx;have mem:x∈ys:=List.count_pos_iff.mp (by omega);have ih:=HJ (xs:=xs) (ys:=ys.erase x) fun g=>by
   have a:=h g;rw [aMa] at a;rw [List.count_erase]
   by_cases e:(x==g)=true
   ·rw [if_pos e] at a ⊢; omega
   ·rw [if_neg e] at a ⊢; omega
  rw [List.length_erase_of_mem mem] at ih;have:=aLC mem;rw [aJJ];omega
theorem Nh:∀ (k:Fin 64),∀ b∈six 6,∀ x∈six 6,hb ((k.val:Nat):Int) b=true->hb (((k.val:Nat):Int)-1*2^b.toNat) x=(hb ((k.val:Nat):Int) x&&!(x==b)):=by decide +kernel
theorem Qt:∀ (k:Fin 64),∀ b∈six 6,∀ x∈six 6,hb (Builtin.bitOr ((k.val:Nat):Int) (1*2^b.toNat)) x=(hb ((k.val:Nat):Int) x||x==b):=by decide +kernel
theorem nd6:(six 6).Nodup:=by decide +kernel
def Nc (gf:Int->Int)(k g:Int):Nat:=((gJ k).map gf).count g
theorem sV (gf:Int->Int)(k g:Int):Nc gf k g=(six 6).countP fun b=>(gf b==g)&&hb k b:=by
 unfold Nc gJ;rw [List.count,List.countP_map,List.countP_filter]
 rfl
theorem len_eq (k:Int):(gJ k).length=(six 6).countP (hb k):=by unfold gJ; rw [List.countP_eq_length_filter]
structure MT (n:Int)(may:Int->Bool)(L:Int)(gf M:Int->Int)(c:Int):Prop where
 n64:n<=64
 m0:∀ g,0<=M g
 c0:0<=c
 iff:∀ k,0<=k->k<n->(may k=true↔(∀ b∈gJ k,b<L)/\(∀ g,(Nc gf k g:Int)<=M g)/\((gJ k).length:Int)<=c)
theorem aDJ:gJ 0=[]:=by decide +kernel
theorem MT.zero {n:Int}{may:Int->Bool}{L:Int}{gf M:Int->Int}{c:Int}(h:MT n may L gf M c)(hn:0<n):may 0=true:=by
 refine (h.iff 0 (aJO _) hn).mpr ?_;unfold Nc;rw [aDJ];exact ⟨(fun b hb=>nomatch hb),h.m0,h.c0⟩
theorem MT.down {n:Int}{may:Int->Bool}{L:Int}{gf M:Int->Int}{c:Int}(h:MT n may L gf M c){o b:Int}(o0:0<=o)(o1:o<n)(hb1:b∈gJ o)(ho:may o=true):may (o-1*2^b.toNat)=true:=by
 have n64:=h.n64;have lw:=low o0 (by omega) hb1;obtain ⟨a1,a2,a3⟩:=(h.iff o o0 o1).mp ho;obtain ⟨m1,m2⟩:=aJE.mp hb1;have key:∀ x∈six 6,hb (o-1*2^b.toNat) x=(hb o x&&!(x==b)):=fun x hx=>by
  have z:=Nh ⟨o.toNat,by omega⟩ b m1 x hx;have e:((o.toNat:Nat):Int)=o:=by omega
  simp only [e] at z;exact z m2
 have imp:∀ x∈six 6,hb (o-1*2^b.toNat) x=true->hb o x=true:=fun x hx hh=>by
  rw [key x hx,aJA] at hh;exact hh.1
 refine (h.iff _ lw.1 (by omega)).mpr ⟨fun x hx=>?_,fun g=>?_,?_⟩
 ·obtain ⟨x1,x2⟩:=aJE.mp hx;exact a1 x (aJE.mpr ⟨x1,imp x x1 x2⟩)
 ·have z:Nc gf (o-1*2^b.toNat) g<=Nc gf o g:=by
   rw [sV,sV];exact aKC fun x hx hh=>by
    rw [aJA] at hh ⊢;exact ⟨hh.1,imp x hx hh.2⟩
  have:=a2 g;omega
 ·have z:(gJ (o-1*2^b.toNat)).length<=(gJ o).length:=by
   rw [len_eq,len_eq];exact aKC imp
  omega
theorem rA {p q:Int->Bool}{b:Int}:∀ {l:List Int},l.Nodup->(∀ x∈l,q x=(p x||x==b))->l.countP q<=l.countP p+1
 | [],_,_=>by simp
 | x::l,nd,h=>by
  obtain ⟨n1,n2⟩:=aKl.mp nd;rw [aLr,aLr]
  by_cases e:x=b
  ·subst e;have same:l.countP q=l.countP p:=by
    refine List.countP_congr fun y hy=>?_;rw [h y (aI9 _ hy)];have:(y==x)=false:=by
     have ne:y≠x:=fun z=>n1 (z ▸ hy)
     simpa using ne
    rw [this,Bool.or_false]
   rw [same]
   split <;> split <;> omega
  ·have ih:=rA (p:=p) (q:=q) (b:=b) (l:=l) n2 fun y hy=>h y (aI9 _ hy);have e2:=h x aJa;have:(x==b)=false:=by simpa using e
   rw [this,Bool.or_false] at e2;rw [e2]
   split <;> omega
theorem MT.more {m:Nat}{may:Int->Bool}{L:Int}{gf M:Int->Int}{c:Int}(h:MT ((2^m:Nat):Int) may L gf M c)(m6:m<=6){o e:Int}(o0:0<=o)(o1:o<((2^m:Nat):Int))(e0:0<=e)(e1:e<((2^m:Nat):Int))(ho:may o=true)(he:may e=true)(sz:(gJ o).length=(gJ e).length+1):∃ b∈gJ o,hb e b=false/\may (Builtin.bitOr e (1*2^b.toNat))=true:=by
 have n64:=h.n64;obtain ⟨a1,a2,a3⟩:=(h.iff o o0 o1).mp ho;obtain ⟨c1,c2,c3⟩:=(h.iff e e0 e1).mp he;have ex:∃ g,Nc gf e g<Nc gf o g:=by
  by_cases z:∃ g,Nc gf e g<Nc gf o g
  ·exact z
  ·have l:=HJ (xs:=(gJ o).map gf) (ys:=(gJ e).map gf) fun g=>by
    by_cases y:Nc gf e g<Nc gf o g
    ·exact absurd ⟨g,y⟩ z
    ·exact Nat.not_lt.mp y
   rw [aI8,aI8] at l;omega
 obtain ⟨g,hg⟩:=ex;have eb:∃ b∈gJ o,gf b=g/\hb e b=false:=by
  by_cases z:∃ b∈gJ o,gf b=g/\hb e b=false
  ·exact z
  ·refine absurd hg (Nat.not_lt.mpr ?_);rw [sV,sV];refine aKC fun x hx hh=>?_;rw [aJA] at hh ⊢;refine ⟨hh.1,?_⟩;cases y:hb e x with
   | true=>rfl
   | false=>exact absurd ⟨x,aJE.mpr ⟨hx,hh.2⟩,by simpa using hh.1,y⟩ z
 obtain ⟨b,b1,b2,b3⟩:=eb;obtain ⟨m1,m2⟩:=aJE.mp b1;have p2:((2^m:Nat):Int)=2^m:=by rw [aMb]; rfl
 have gi:=zG m6 o0 (by rw [<- p2]; exact o1) e0 (by rw [<- p2]; exact e1) b1;have key:∀ x∈six 6,hb (Builtin.bitOr e (1*2^b.toNat)) x=(hb e x||x==b):=fun x hx=>by
  have z:=Qt ⟨e.toNat,by omega⟩ b m1 x hx;have ee:((e.toNat:Nat):Int)=e:=by omega
  simp only [ee] at z;exact z
 refine ⟨b,b1,b3,(h.iff _ gi.1 (by rw [p2]; exact gi.2)).mpr ⟨fun x hx=>?_,fun g'=>?_,?_⟩⟩
 ·obtain ⟨x1,x2⟩:=aJE.mp hx;rw [key x x1,aKz] at x2;rcases x2 with x2 | x2
  ·exact c1 x (aJE.mpr ⟨x1,x2⟩)
  ·have:x=b:=by simpa using x2
   subst this;exact a1 x b1
 ·by_cases eg:g'=g
  ·subst eg;have z:Nc gf (Builtin.bitOr e (1*2^b.toNat)) g'<=Nc gf e g'+1:=by
    rw [sV,sV];refine rA (b:=b) nd6 fun x hx=>?_;rw [key x hx];cases y:x==b with
    | true =>
     have:x=b:=by simpa using y
     subst this;rw [b2];simp
    | false=>simp
   have:=a2 g';omega
  ·have z:Nc gf (Builtin.bitOr e (1*2^b.toNat)) g'<=Nc gf e g':=by
    rw [sV,sV];refine aKC fun x hx hh=>?_;rw [aJA] at hh ⊢;refine ⟨hh.1,?_⟩;have h2:=hh.2;rw [key x hx,aKz] at h2;rcases h2 with y | y
    ·exact y
    ·have:x=b:=by simpa using y
     subst this;have:gf x=g':=by simpa using hh.1
     exact absurd (this.symm.trans b2) eg
   have:=c2 g';omega
 ·have z:(gJ (Builtin.bitOr e (1*2^b.toNat))).length<=(gJ e).length+1:=by
   rw [len_eq,len_eq];exact rA nd6 key
  omega
theorem GJ {c:Int}(h:0<=c)(m:Nat)(m6:m<=6):MT ((2^m:Nat):Int) (lE (.few c)) 6 (fun _=>0) (fun _=>6) c:=by
 refine ⟨?_,fun _=>by decide,h,fun k k0 k1=>?_⟩
 ·have:2^m<=2^6:=aJ5 (by decide) m6;omega
 ·show decide (((gJ k).length:Int)<=c)=true↔_;rw [decide_eq_true_eq];refine ⟨fun z=>⟨fun b hb=>(lG hb).2,fun g=>?_,z⟩,fun z=>z.2.2⟩;have a:Nc (fun _=>0) k g<=6:=aJc (List.count_le_length) (by rw [aI8]; exact pU k);show ((Nc (fun _=>0) k g:Nat):Int)<=6;omega
theorem Bc {gs ms:List Int}(g:O3 gs ms)(k:Int):rG gs ms k=true↔(∀ b∈gJ k,b<(gs.length:Int))/\∀ z,(Nc (fun b=>gs.getD b.toNat 0) k z:Int)<=ms.getD z.toNat 0:=by
 unfold rG;rw [aJA,aJN,aJN];refine and_congr ⟨fun h b hb=>by simpa using h b hb,fun h b hb=>by simpa using h b hb⟩ ⟨fun h z=>?_,fun h z hz=>decide_eq_true (h z)⟩
 by_cases hz:z∈(gJ k).map fun b=>gs.getD b.toNat 0
 ·exact of_decide_eq_true (h z hz)
 ·have e:Nc (fun b=>gs.getD b.toNat 0) k z=0:=List.count_eq_zero.mpr hz;rw [e]
  by_cases hl:z.toNat<ms.length
  ·exact (g.m _ (getD_mem hl)).1
  ·rw [aJG,aKB (by omega)]
   decide
theorem ms0 {gs ms:List Int}(g:O3 gs ms)(z:Int):0<=ms.getD z.toNat 0:=by
 by_cases hl:z.toNat<ms.length
 ·exact (g.m _ (getD_mem hl)).1
 ·rw [aJG,aKB (by omega)]
  decide
theorem Ge {gs ms:List Int}(g:O3 gs ms)(m:Nat)(m6:m<=6):MT ((2^m:Nat):Int) (lE (.groups gs ms)) (gs.length:Int) (fun b=>gs.getD b.toNat 0) (fun z=>ms.getD z.toNat 0) 6:=by
 refine ⟨?_,ms0 g,by decide,fun k k0 k1=>?_⟩
 ·have:2^m<=2^6:=aJ5 (by decide) m6;omega
 ·show rG gs ms k=true↔_;rw [Bc g];have:=pU k;exact ⟨fun z=>⟨z.1,z.2,by omega⟩,fun z=>⟨z.1,z.2.1⟩⟩
theorem Ma {gs ms ks:List Int}{c:Int}(g:O3 gs ms)(h:0<=c)(m:Nat)(m6:m<=6)(hk:∀ k,0<=k->k<((2^m:Nat):Int)->Gd (.int k) (Is ks)=(rG gs ms k&&lE (.few c) k)):MT ((2^m:Nat):Int) (lE (.listed ks)) (gs.length:Int) (fun b=>gs.getD b.toNat 0) (fun z=>ms.getD z.toNat 0) c:=by
 refine ⟨?_,ms0 g,h,fun k k0 k1=>?_⟩
 ·have:2^m<=2^6:=aJ5 (by decide) m6;omega
 ·show Gd (.int k) (Is ks)=true↔_;rw [hk k k0 k1,aJA,Bc g];show _/\decide (((gJ k).length:Int)<=c)=true↔_;rw [decide_eq_true_eq];exact ⟨fun z=>⟨z.1.1,z.1.2,z.2⟩,fun z=>⟨⟨z.1,z.2.1⟩,z.2.2⟩⟩
def lB (S:Sk)(m:Nat):Prop:=∃ L gf M c,MT ((2^m:Nat):Int) (lE S) L gf M c
end TP
namespace L2
open PySem
theorem xA {X:Cx}{K:PySem.W.Frag}(h:X.K=K):eZ X (.builtin "len") (fun xs H Q=>∃ p ys,xs=[.ref p]/\(bG K H p ys∨cV K H p ys)/\Q (.int ys.length) H):=by subst h; exact bU
end L2
namespace TP
open PySem L2 TD
structure Pu (K:PySem.W.Frag)(p:yX):Prop where
 hn:PySem.W.specialIn K (.builtin "object.__class__") "__get__" = some (some (.builtin "getset_descriptor.__get__"))
 htk:PySem.W.takesIn K (.builtin "object.__class__")=some true
 cf:tK K p.f
 cg:tK K p.g
 cl:tK K p.l
 fa:PySem.W.findIn K (.ref p.f) "__class__" = some (some (.builtin "object.__class__"))
 fm:PySem.W.mroIn K p.f (.type "object")=some true
 ga:PySem.W.findIn K (.ref p.g) "__class__" = some (some (.builtin "object.__class__"))
 gm:PySem.W.mroIn K p.g (.type "object")=some true
 la:PySem.W.findIn K (.ref p.l) "__class__" = some (some (.builtin "object.__class__"))
 lm:PySem.W.mroIn K p.l (.type "object")=some true
 ff:PySem.W.kitOne K (.ref p.f) (.ref p.f)=some true
 gf:PySem.W.kitOne K (.ref p.g) (.ref p.f)=some false
 gg:PySem.W.kitOne K (.ref p.g) (.ref p.g)=some true
 lf:PySem.W.kitOne K (.ref p.l) (.ref p.f)=some false
 lg:PySem.W.kitOne K (.ref p.l) (.ref p.g)=some false
 ll:PySem.W.kitOne K (.ref p.l) (.ref p.l)=some true
def jM (S:Sk)(n:Nat):List Bool:=(six n).map (lE S)
theorem m9 (S:Sk)(n:Nat):(jM S n).length=n:=by unfold jM six; rw [aI8,aI8,aJX]
theorem kJ {S:Sk}{n:Nat}{k:Int}(h0:0<=k)(h:k<(n:Int)):(jM S n).getD k.toNat false=lE S k:=by
 have hk:k.toNat<n:=by omega
 unfold jM six;rw [aJG,aJh,aJh,List.getElem?_range hk];show lE S (0+(k.toNat:Int))=_;rw [show (0:Int)+(k.toNat:Int)=k by omega]
theorem N5 {S:Sk}{m:Nat}(m6:m<=6)(h:lB S m):R9 (jM S (2^m)) (jM S (2^m)).length:=by
 obtain ⟨L,gf,M,c,mt⟩:=h;rw [m9];intro o ho b hb1 e;have o1:(0:Int)+(o:Int)<((2^m:Nat):Int):=by omega
 have n64:=mt.n64;have lw:=low (k:=0+(o:Int)) (by omega) (by omega) hb1;rw [kJ (by omega) o1] at e;rw [kJ lw.1 (by omega)];exact mt.down (by omega) o1 hb1 e
theorem OJ {S:Sk}{m:Nat}(m6:m<=6)(h:lB S m){o e:Int}(f:Pn (jM S (2^m)) o e):False:=by
 obtain ⟨L,gf,M,c,mt⟩:=h;have o1:=f.o1;have e1:=f.e1;have bo:=f.bo;have be:=f.be;rw [m9] at o1 e1;rw [kJ f.o0 o1] at bo;rw [kJ f.e0 e1] at be;obtain ⟨b,b1,b2,b3⟩:=mt.more m6 f.o0 o1 f.e0 e1 bo be f.sz;have no:=f.no;rw [aLg] at no;have p2:((2^m:Nat):Int)=2^m:=by rw [aMb]; rfl
 have gi:=zG m6 f.o0 (by rw [<- p2]; exact o1) f.e0 (by rw [<- p2]; exact e1) b1;refine no true ?_ rfl;unfold Ha;refine aJe.mpr ⟨b,aJE.mpr ⟨b1,by rw [b2]; rfl⟩,?_⟩;rw [kJ gi.1 (by rw [p2]; exact gi.2)];exact b3
theorem Ms {S:Sk}{m:Nat}(h:lB S m):(jM S (2^m)).getD 0 false=true:=by
 obtain ⟨L,gf,M,c,mt⟩:=h;have p:0<2^m:=aL8 (by decide);have z:=kJ (S:=S) (n:=2^m) (k:=0) (by decide) (by omega);rw [show (0:Int).toNat=0 from rfl] at z;rw [z];exact mt.zero (by omega)
def pQ (ks:List Int):Int:=(ks.map fun b=>(1:Int)*2^b.toNat).sum
def keepB (q:Ca)(S:Sk)(i:Nat):Bool:=!(q.bs.getD i false)&&lE S (Builtin.bitOr (pQ (cU q)) (1*2^((i:Int)).toNat))
def jP (f:Nat->Bool)(r:Nat->Rat):Nat->Option Nat
 | 0=>none
 | i+1=>if f i=true then (match jP f r i with
  | none=>some i
  | some j=>if r j<r i then some i else some j) else jP f r i
theorem kZ (f:Nat->Bool)(r:Nat->Rat)(i:Nat):jP f r (i+1)=if f i=true then (match jP f r i with
  | none=>some i
  | some j=>if r j<r i then some i else some j) else jP f r i:=rfl
theorem qC {f:Nat->Bool}{r:Nat->Rat}:∀ {n j:Nat},jP f r n=some j->j<n
 | 0,_,h=>nomatch h
 | n+1,j,h=>by
  unfold jP at h
  split at h
  ·split at h
   ·cases h; omega
   ·rename_i j' e;have:=qC e
    split at h
    ·cases h; omega
    ·cases h; omega
  ·have:=qC h;omega
def mU (f:Nat->Bool)(r:Nat->Rat):Nat->Option Nat×Rat
 | 0=>(none,0)
 | i+1=>if f i=true/\(mU f r i).2<r i then (some i,r i) else mU f r i
theorem Cd {f:Nat->Bool}{r:Nat->Rat}:∀ n,mU f r n=match jP f r n with
  | none=>(none,0)
  | some j=>if 0<r j then (some j,r j) else (none,0)
 | 0=>rfl
 | n+1=>by
  have ih:=Cd (f:=f) (r:=r) n;unfold mU jP;rw [ih];cases e:jP f r n with
  | none =>
   simp only
   by_cases hf:f n=true
   ·rw [if_pos hf];simp only
    by_cases h0:0<r n
    ·rw [if_pos ⟨hf,h0⟩,if_pos h0]
    ·rw [if_neg (fun z=>h0 z.2),if_neg h0]
   ·rw [if_neg (fun z=>hf z.1),if_neg hf]
  | some j =>
   simp only
   by_cases hf:f n=true
   ·rw [if_pos hf]
    by_cases h0:0<r j
    ·rw [if_pos h0];simp only
     by_cases h1:r j<r n
     ·rw [if_pos ⟨hf,h1⟩,if_pos h1];simp only;rw [if_pos (by grind)]
     ·rw [if_neg (fun z=>h1 z.2),if_neg h1];simp only;rw [if_pos h0]
    ·rw [if_neg h0];simp only
     by_cases h1:0<r n
     ·rw [if_pos ⟨hf,h1⟩,if_pos (by grind)];simp only;rw [if_pos h1]
     ·rw [if_neg (fun z=>h1 z.2)]
      by_cases h2:r j<r n
      ·rw [if_pos h2];simp only;rw [if_neg h1]
      ·rw [if_neg h2];simp only;rw [if_neg h0]
   ·rw [if_neg (fun z=>hf z.1),if_neg hf]
structure Ui (c:Cs)(q:Ca)(r:Nat->Int×Int):Prop where
 rv:∀ i s,i<q.ys.length->q.ss[i]? = some s->Sd.Rv s.1 s.2.1 (r i)/\Sd.Lw (r i)
theorem MJ {c:Cs}{cC:Addr}{H:Hp}{x:Addr}{q:Ca}(h:fP c cC H x q):∃ r,Ui c q r:=by
 have es:=h.es;have a:∀ i,∃ r:Int×Int,∀ s,i<q.ys.length->q.ss[i]? = some s->Sd.Rv s.1 s.2.1 r/\Sd.Lw r:=fun i=>by
  by_cases hi:i<q.ys.length
  ·have ei:q.ss[i]? = some (q.ss[i]'(by omega)):=aI7 _;obtain ⟨st,_⟩:=h.st i _ _ (aI7 hi) ei;obtain ⟨xs,lv,ct,gs,so,mt,lw⟩:=st.tab;exact ⟨lv,fun s _ e=>by rw [ei] at e; cases e; exact ⟨⟨_,mt⟩,lw⟩⟩
  ·exact ⟨(0,1),fun s z=>absurd z hi⟩
 exact ⟨fun i=>Classical.choose (a i),⟨fun i s=>Classical.choose_spec (a i) s⟩⟩
def iD (H:Hp)(a:Addr)(q:Ca)(o:Option Nat):Prop:=match o with
 | none=>H a=some (.tup [.str "stop"])
 | some j=>∃ s,q.ss[j]? = some s/\((∃ v,s.1=.en v)/\H a=some (.tup [.str "take",.int (j:Int)])∨(∃ p rs,s.1=.st p rs)/\H a=some (.tup [.str "open",.int (j:Int)]))
section
variable (p:yX)(c:Cs)(cC:Addr)
def GZ:Sp:=fun vs H Q _=>∃ (a:Addr) (bs:List Bool),vs=[.ref a]/\H a=some (.lst (Bs bs))/\bs.length<=64/\R9 bs bs.length/\∀ H',aN H H'->Q .non H'
def uQ:Sp:=fun vs H Q _=>∃ (x:Addr) (S:Sk) (m:Nat),vs=[.ref x,.int (m:Int)]/\fC p H x S/\t7 S/\1<=m/\m<=6/\lB S m/\∀ H',aN H H'->Q .non H'
def Oq:Sp:=fun vs H Q _=>∃ (x:Addr) (S:Sk),vs=[.ref x]/\fC p H x S/\Q (.bl true) H
def Ku:Sp:=fun vs H Q _=>∃ (a:Addr) (ks:List Int),vs=[.ref a]/\H a=some (.lst (Is ks))/\ks.length<=100/\(∀ k∈ks,0<=k/\k<100)/\∀ H',aN H H'->Q (.int (pQ ks)) H'
def Lb:Sp:=fun vs H Q _=>∃ (x y:Addr) (i:Nat) (q:Ca) (S:Sk),vs=[.ref x,.ref y,.int (i:Int)]/\fC p H x S/\t7 S/\fP c cC H y q/\i<q.ys.length/\∀ H',aN H H'->Q (.bl (keepB q S i)) H'
def JN:Sp:=fun vs H Q _=>∃ (x y:Addr) (q:Ca) (S:Sk) (r:Nat->Int×Int),vs=[.ref x,.ref y]/\fC p H x S/\t7 S/\fP c cC H y q/\Ui c q r/\∀ H',aN H H'->Q (match jP (keepB q S) (fun i=>Sd.V (r i)) q.ys.length with | none=>.non | some j=>.int (j:Int)) H'
def Gm:Sp:=fun vs H Q _=>∃ (x y:Addr) (q:Ca) (S:Sk) (r:Nat->Int×Int),vs=[.ref x,.ref y]/\fC p H x S/\t7 S/\fP c cC H y q/\Ui c q r/\∀ a H',aN H H'->iD H' a q (mU (keepB q S) (fun i=>Sd.V (r i)) q.ys.length).1->Q (.ref a) H'
def Kv:Sp:=fun vs H Q _=>∃ (x y:Addr) (q:Ca) (S:Sk) (r:Nat->Int×Int),vs=[.ref x,.ref y]/\fC p H x S/\t7 S/\lB S q.ys.length/\fP c cC H y q/\Ui c q r/\∀ a H',aN H H'->iD H' a q (mU (keepB q S) (fun i=>Sd.V (r i)) q.ys.length).1->Q (.ref a) H'
end
theorem QZ {p:yX}{ta tb:TE}{σ:St}{H:Hp}{Q:VK}{x:Addr}{S:Sk}{k:Int}(hX:fC p H x S)(hG:t7 S)(hta:∀ Q':VK,Q' (.ref x) H->ta σ H Q')(htb:∀ Q':VK,(∀ H1,aN H H1->Q' (.int k) H1)->tb σ H Q')(K:∀ H2,aN H H2->Q (.bl (lE S k)) H2) :
  kI p.f "may" (rY p.f) [] E0 ta (yF tb qR) σ H Q∨kI p.g "may" (sJ p.g) [] E0 ta (yF tb qR) σ H Q∨kI p.l "may" (rC p.l) [] E0 ta (yF tb qR) σ H Q:=by
 cases S with
 | few cc =>
  obtain ⟨dx,hx⟩:=(show tY p.f H x cc from hX)
  exact .inl (hta _ ⟨x,dx,_,rfl,hx,rfl,htb _ fun H1 s1=>⟨x,cc,k,rfl,⟨dx,s1 _ _ hx⟩,fun H2 s2=>K H2 (s1.trans s2)⟩⟩)
 | groups gs ms =>
  obtain ⟨dx,g,m0,hx,hg,hm0⟩:=(show Av p.g H x gs ms from hX)
  exact .inr (.inl (hta _ ⟨x,dx,_,rfl,hx,rfl,htb _ fun H1 s1=>⟨x,gs,ms,k,rfl,⟨dx,g,m0,s1 _ _ hx,s1 _ _ hg,s1 _ _ hm0⟩,hG,fun H2 s2=>K H2 (s1.trans s2)⟩⟩))
 | listed ks =>
  obtain ⟨ms,pm,so,dx,t,hx,ht⟩:=(show ∃ ms,ms.Perm ks/\ms.Pairwise (·<=·)/\Fl p.l H x ms from hX)
  have ei:Gd (.int k) (Is ms)=lE (.listed ks) k:=by
   show _=Gd _ _;rw [aJY,rP,rP];exact pm.mem_iff
  exact .inr (.inr (hta _ ⟨x,dx,_,rfl,hx,rfl,htb _ fun H1 s1=>⟨x,ms,k,rfl,⟨dx,t,s1 _ _ hx,s1 _ _ ht⟩,by rw [ei]; exact K H1 s1⟩⟩))
theorem o4 {c:Cs}{ta:TE}{σ:St}{H:Hp}{Q:VK}{y:Addr}{s:Sd.Sd}{d m:Nat}(hta:∀ Q':VK,Q' (.ref y) H->ta σ H Q')(st:dU c H y s d m)
  (k:∀ l lv,Tq H l lv->Sd.Lw lv->Sd.Rv s d lv->Q (.ref l) H):kI c.e "reserve" (nT c) [] E0 ta qR σ H Q∨kI c.s "reserve" (nT c) [] E0 ta qR σ H Q:=by
 have st0:=st;cases st with
 | en h vv ok=>exact .inl (hta _ ⟨y,_,_,rfl,h,rfl,y,_,_,_,rfl,st0,k⟩)
 | st h vv g lp ly row sub p0 p9 ne l4 w hk=>exact .inr (hta _ ⟨y,_,_,rfl,h,rfl,y,_,_,_,rfl,st0,k⟩)
theorem Jh {c:Cs}{ta:TE}{σ:St}{H:Hp}{Q:VK}{y:Addr}{s:Sd.Sd}{d m:Nat}(hta:∀ Q':VK,Q' (.ref y) H->ta σ H Q')(st:dU c H y s d m)
  (k:∀ b,((∃ v,s=.en v)/\b=true∨(∃ p rs,s=.st p rs)/\b=false)->Q (.bl b) H):kI c.e "is_end" (nZ c true) [] E0 ta qR σ H Q∨kI c.s "is_end" (nZ c false) [] E0 ta qR σ H Q:=by
 cases st with
 | en h vv ok=>exact .inl (hta _ ⟨y,_,_,rfl,h,rfl,y,rfl,k _ (.inl ⟨⟨_,rfl⟩,rfl⟩)⟩)
 | st h vv g lp ly row sub p0 p9 ne l4 w hk=>exact .inr (hta _ ⟨y,_,_,rfl,h,rfl,y,rfl,k _ (.inr ⟨⟨_,_,rfl⟩,rfl⟩)⟩)
def LR:Sp:=fun vs H Q _=>∃ (c b n:Int),vs=[.int c,.int b,.int n]/\n=601/\∀ r H' ns,aN H H'->H r=none->H' r=some (.lst (Is ns))->ns.length=601->Q (.ref r) H'
def Uw (v:V):Prop:=(∃ i,v=.int i)∨∃ x,v=.str x
def Oi:Sp:=fun vs H Q _=>∃ v,vs=[v]/\Uw v/\∀ H',aN H H'->Q (.bl true) H'
def Ow:Sp:=fun vs H Q _=>∃ (a:Addr) (xs:List V),vs=[.ref a]/\H a=some (.tup xs)/\(∀ x∈xs,Uw x)/\∀ H',aN H H'->Q (.bl true) H'
def Ox:Sp:=fun vs H Q _=>∃ (a b:Addr) (q:Ca) (o:Option Nat),vs=[.ref a,.ref b]/\iD H a q o/\iD H b q o/\∀ H',aN H H'->Q (.bl true) H'
theorem NB {H:Hp}{a b:Addr}{q:Ca}{o:Option Nat}(h:iD H a q o)(g:iD H b q o):∃ xs,H a=some (.tup xs)/\H b=some (.tup xs)/\(∀ x∈xs,Uw x)/\xs.all lN=true/\xs.length<=2:=by
 cases o with
 | none=>exact ⟨_,h,g,fun x hx=>by rw [aJk.mp hx]; exact .inr ⟨_,rfl⟩,rfl,by decide⟩
 | some j =>
  have pl:∀ (w:Str) (j:Int),∀ x∈[V.str w,V.int j],Uw x:=fun w j x hx=>by
   rcases aJx.mp hx with e | e
   ·rw [e]; exact .inr ⟨_,rfl⟩
   ·rw [aJk.mp e]; exact .inl ⟨_,rfl⟩
  obtain ⟨s,es,h⟩:=h;obtain ⟨s',es',g⟩:=g;rw [es] at es';cases es';rcases h with ⟨⟨v,ev⟩,h⟩ | ⟨⟨p,rs,ev⟩,h⟩
  ·rcases g with ⟨_,g⟩ | ⟨⟨p,rs,eg⟩,_⟩
   ·exact ⟨_,h,g,pl _ _,rfl,aJd 2⟩
   ·rw [ev] at eg; cases eg
  ·rcases g with ⟨⟨v,eg⟩,_⟩ | ⟨_,g⟩
   ·rw [ev] at eg; cases eg
   ·exact ⟨_,h,g,pl _ _,rfl,aJd 2⟩
theorem iD.same {H H':Hp}(k:aN H H'){a:Addr}{q:Ca}{o:Option Nat}(h:iD H a q o):iD H' a q o:=by
 cases o with
 | none=>exact k _ _ h
 | some j =>
  obtain ⟨s,es,h⟩:=h;exact ⟨s,es,h.imp (fun z=>⟨z.1,k _ _ z.2⟩) (fun z=>⟨z.1,k _ _ z.2⟩)⟩
theorem aCa:pp 4 8<=100:=by decide +kernel
def JT (p:yX):Sp:=fun vs H Q _=>∃ (c:Int) (m:Nat),vs=[.int c,.int (m:Int)]/\1<=m/\m<=6/\∀ x H' S,aN H H'->fC p H' x S->t7 S->lB S m->Q (.ref x) H'
def pM (gs ms:List Int)(c:Int)(n:Nat):List Int:=(six n).filter fun k=>rG gs ms k&&lE (.few c) k
theorem pC (gs ms:List Int)(c:Int)(n:Nat):pM gs ms c (n+1)=pM gs ms c n++(if (rG gs ms (0+(n:Int))&&lE (.few c) (0+(n:Int)))=true then [0+(n:Int)] else []):=by
 unfold pM;rw [kW,aJ2,aKf,List.filter_nil]
theorem JX:∀ n,(six n).Pairwise (· < ·)
 | 0=>aLm.nil
 | n+1=>by
  rw [kW,List.pairwise_append];refine ⟨JX n,aLs _ _,fun a ha b hb=>?_⟩;have:=uR ha;rw [aJk.mp hb];omega
theorem Es {gs ms:List Int}{c:Int}(g:O3 gs ms)(h:0<=c){m:Nat}(m6:m<=6):Rk (pM gs ms c (2^m))/\lB (.listed (pM gs ms c (2^m))) m:=by
 have p:0<2^m:=aL8 (by decide);have p64:2^m<=64:=aJc (aJ5 (by decide) m6) (by decide);have mem:∀ k,k∈pM gs ms c (2^m)↔k∈six (2^m)/\(rG gs ms k&&lE (.few c) k)=true:=fun k=>aJE;have in6:∀ k:Int,0<=k->k<((2^m:Nat):Int)->k∈six (2^m):=fun k h0 h1=>aJe.mpr ⟨k.toNat,aJV.mpr (by omega),by omega⟩;have m0:(0:Int)∈pM gs ms c (2^m):=(mem 0).mpr ⟨in6 0 (by decide) (by omega),by
  have a:=(Ge g m m6).zero (by omega);have b:=(GJ h m m6).zero (by omega);rw [show rG gs ms 0=true from a,b]
  rfl⟩
 refine ⟨Ml (aLC m0) (aJc (aJM _ _) (by unfold six; rw [aI8,aJX]; exact p64)) ((JX _).filter _) fun x hx=>?_,_,_,_,_,Ma g h m m6 fun k k0 k1=>?_⟩
 ·have:=uR ((mem x).mp hx).1;omega
 ·rw [aJY,rP,mem];exact ⟨fun z=>z.2,fun z=>⟨in6 k k0 k1,z⟩⟩
theorem Mh {q:Ca}{ks:List Int}(k:ks.Perm (cU q)):pQ ks=pQ (cU q):=by
 unfold pQ;exact Ld (k.map _)
structure Ob (H:Hp)(q:Ca)(l kl:Addr)(ts:List Addr)(ks:List Int):Prop where
 hl:H l=some (.lst (ts.map V.ref))
 mo:Mod H ts q
 tl:ts.length=q.ys.length
 hk:H kl=some (.lst (ks.map V.int))
 kk:ks.Perm (cU q)
theorem Ob.kt {H H':Hp}{q:Ca}{l kl:Addr}{ts:List Addr}{ks:List Int}(k:Kt H H')(h:Ob H q l kl ts ks):Ob H' q l kl ts ks:=⟨k.lst h.hl,h.mo.keep fun b xs e=>k.tup e,h.tl,k.lst h.hk,h.kk⟩
def lC (H:Hp)(ws:List V):Prop:=∀ w∈ws,w=.non∨∃ a lv,w=.ref a/\Tq H a lv/\Sd.Lw lv
theorem lC.keep {H H':Hp}(k:∀ b xs,H b=some (.tup xs)->H' b=some (.tup xs)){ws:List V}(h:lC H ws):lC H' ws:=fun w hw=>(h w hw).imp_right fun ⟨a,lv,e,t,l⟩=>⟨a,lv,e,k _ _ t,l⟩
theorem fC.kp {p:yX}{H H':Hp}{x:Addr}{S:Sk}(k:Kp H H')(h:fC p H x S):fC p H' x S:=by
 cases S with
 | few c=>obtain ⟨dx,hx⟩:=h; exact ⟨dx,k.ins hx⟩
 | groups gs ms=>obtain ⟨dx,g,m,hx,hg,hm⟩:=h; exact ⟨dx,g,m,k.ins hx,k.tup hg,k.tup hm⟩
 | listed ks=>obtain ⟨ms,pm,so,dx,t,hx,ht⟩:=h; exact ⟨ms,pm,so,dx,t,k.ins hx,k.tup ht⟩
theorem iD.keep {H H':Hp}(k:∀ b xs,H b=some (.tup xs)->H' b=some (.tup xs)){a:Addr}{q:Ca}{o:Option Nat}(h:iD H a q o):iD H' a q o:=by
 cases o with
 | none=>exact k _ _ h
 | some j =>
  obtain ⟨s,es,h⟩:=h;exact ⟨s,es,h.imp (fun z=>⟨z.1,k _ _ z.2⟩) (fun z=>⟨z.1,k _ _ z.2⟩)⟩
section
variable (p:yX)(c:Cs)(cC:Addr)(Pt:Addr)(lp:Pos)
def Jo:Sp:=fun vs H Q _=>∃ (l kl x:Addr) (q:Ca) (ts:List Addr) (ks:List Int) (S:Sk) (r:Nat->Int×Int),vs=[.ref l,.ref kl,.ref x]/\Ob H q l kl ts ks/\fC p H x S/\t7 S/\(∃ y,fP c cC H y q)/\Ui c q r/\cX Pt lp fO H ∧
 ∀ a H',bH Pt H H'->cX Pt lp fO H'->iD H' a q (mU (keepB q S) (fun i=>Sd.V (r i)) q.ys.length).1->Q (.ref a) H'
def Fr3 (l lo kl:Addr)(H H':Hp):Prop:=∀ b o,b≠l->b≠lo->b≠kl->(∀ ps,o≠.tbl ps)->H b=some o->H' b=some o
def GD:Sp:=fun vs H Q _=>∃ (x l lo kl:Addr) (cell:Int) (q:Ca) (ts:List Addr) (ws:List V) (ks:List Int),vs=[.ref x,.ref l,.ref lo,.ref kl,.int cell]/\fP c cC H x q/\Ob H q l kl ts ks/\H lo=some (.lst ws)/\ws.length=q.ys.length/\lC H ws/\q.ds.length<=99/\l≠lo/\l≠kl/\lo≠kl/\cX Pt lp fO H ∧
 ∀ x2 q2 ts2 ws2 ks2 H',Fr3 l lo kl H H'->cX Pt lp fO H'->fP c cC H' x2 q2->Ob H' q2 l kl ts2 ks2->H' lo=some (.lst ws2)->ws2.length=q2.ys.length->lC H' ws2->q2.ys.length=q.ys.length->q2.ds.length<=q.ds.length+1->Q (.ref x2) H'
end
theorem CV {c:Cs}{Pt:Addr}{lp:Pos}{ta:TE}{σ:St}{H:Hp}{Q:VK}{s:Sd.Sd}{d m:Nat}(hta:∀ Q':VK,(∀ y H',bH Pt H H'->cX Pt lp fO H'->dU c H' y s d m->Q' (.ref y) H')->ta σ H Q')
  (k:∀ l lv H',bH Pt H H'->cX Pt lp fO H'->Tq H' l lv->Sd.Lw lv->Sd.Rv s d lv->Q (.ref l) H'):kI c.e "reserve" (nT c) [] E0 ta qR σ H Q∨kI c.s "reserve" (nT c) [] E0 ta qR σ H Q:=by
 cases s with
 | en v =>
  refine .inl (hta _ fun y H' sT tb st=>?_);have st0:=st;cases st with
  | en h vv ok=>exact ⟨y,_,_,rfl,h,rfl,y,_,_,_,rfl,st0,fun l lv t w r=>k l lv H' sT tb t w r⟩
 | st p rs =>
  refine .inr (hta _ fun y H' sT tb st=>?_);have st0:=st;cases st with
  | st h vv g lp ly row sub p0 p9 ne l4 w hk=>exact ⟨y,_,_,rfl,h,rfl,y,_,_,_,rfl,st0,fun l lv t w r=>k l lv H' sT tb t w r⟩
end TP
namespace TD
open PySem PySem.Spec PyProof.Rows L2
theorem CN.of {K:PySem.W.Frag}{c:Cs}(h:(["tuple","int","NoneType","str","list"].map fun T=>(PySem.W.kitOne K (.type T) (.ref c.e),PySem.W.kitOne K (.type T) (.ref c.s)))=aJt 5 (some false,some false))(t:PySem.W.kitOne K (.ref c.e) (.type "tuple")=some false):CN K c :=
 ⟨fun T hT=>by
  have:=List.mem_map_of_mem (f:=fun T=>(PySem.W.kitOne K (.type T) (.ref c.e),PySem.W.kitOne K (.type T) (.ref c.s))) hT;rw [h] at this;have e:=aLn this;exact ⟨congrArg (·.1) e,congrArg (·.2) e⟩,t⟩
end TD
namespace L2
open PySem PySem.Spec PyProof.Rows
theorem cL {X:Cx}{K:PySem.W.Frag}(h:X.K=K):eZ X (.type "tuple") (fun xs H Q=>∃ p ys,xs=[.ref p]/\((bG K H p ys/\∀ l,H l=none->Q (.ref l) (aX H l (.tup ys)))∨(cV K H p ys/\Q (.ref p) H))):=by subst h; exact xF
structure QE (X:Cx)(e:Expr)(t:TE):Prop where
 h:PE X e t
section
variable {X:Cx}{pos pos' p p2:Pos}{e a b:Expr}{es:List Expr}{te ta tb:TE}{t:TA}{x:Str}{st:Stmt}{rest:List Stmt}{ts us:TS}
theorem qv (i:Nat){x:Str}{pos:Pos}(hN:X.N[i]? = some x:=by rfl)(hv:Z3 X.env.scope x:=by first | exact Or.inl rfl | exact Or.inr (Or.inl rfl) | exact Or.inr (Or.inr rfl))(hd:(x==("__debug__" : Str))=false:=by decide)
  (hcd:(x==("__classdict__" : Str))=false:=by decide):QE X (.Name x pos) (Hm i):=⟨KJ hN hv hd hcd⟩
end
end L2
namespace K54
open PySem L2 TD
def top (i:Nat):Stmt:=PySem.Challenge.pw_lidprice_k54_the_deed_by_prices.main.body.getD i (.Pass ⟨0,0,0,0⟩)
def eN:Pos:=⟨49,30,49,72⟩
theorem tE:aM ["thing","least","most"] ["thing","least","most"] (aL (top 8)):=⟨rfl,rfl,rfl,by decide +kernel,rfl,by decide +kernel,by decide +kernel⟩
theorem jH:aM ["one","other","rest"] ["one","other"] (aL (top 9)):=⟨rfl,rfl,rfl,by decide +kernel,rfl,by decide +kernel,by decide +kernel⟩
theorem iT:aM ["numbers","multiple","number"] ["numbers"] (aL (top 10)):=⟨rfl,rfl,rfl,by decide +kernel,rfl,by decide +kernel,by decide +kernel⟩
theorem Bt:aM ["top","bottom","divisor"] ["top","bottom"] (aL (top 11)):=⟨rfl,rfl,rfl,by decide +kernel,rfl,by decide +kernel,by decide +kernel⟩
theorem Bo:aM ["number"] ["number"] (aL (top 12)):=⟨rfl,rfl,rfl,by decide +kernel,rfl,by decide +kernel,by decide +kernel⟩
theorem Bx:aM ["one","other"] ["one","other"] (aL (top 13)):=⟨rfl,rfl,rfl,by decide +kernel,rfl,by decide +kernel,by decide +kernel⟩
theorem yM:aM ["one","other"] ["one","other"] (aL (top 14)):=⟨rfl,rfl,rfl,by decide +kernel,rfl,by decide +kernel,by decide +kernel⟩
theorem xY:aM ["worths","most","scale"] ["worths"] (aL (top 18)):=⟨rfl,rfl,rfl,by decide +kernel,rfl,by decide +kernel,by decide +kernel⟩
theorem vJ:aM ["rows","weights","worth","weight","divisor"] ["rows"] (aL (top 19)):=⟨rfl,rfl,rfl,by decide +kernel,rfl,by decide +kernel,by decide +kernel⟩
theorem mV:aM ["table"] ["table"] (aL (top 20)):=⟨rfl,rfl,rfl,by decide +kernel,rfl,by decide +kernel,by decide +kernel⟩
theorem xO:aM ["table","level"] ["table","level"] (aL (top 21)):=⟨rfl,rfl,rfl,by decide +kernel,rfl,by decide +kernel,by decide +kernel⟩
theorem Du:aM ["rows","scale","parts","weight","table","factor"] ["rows"] (aL (top 22)):=⟨rfl,rfl,rfl,by decide +kernel,rfl,by decide +kernel,by decide +kernel⟩
theorem qY:aM ["table","price","bottom","tops","weights","worth","weight","top"] ["table","price"] (aL (top 23)):=⟨rfl,rfl,rfl,by decide +kernel,rfl,by decide +kernel,by decide +kernel⟩
theorem tX:aM ["thing"] ["thing"] (aL (top 33)):=⟨rfl,rfl,rfl,by decide +kernel,rfl,by decide +kernel,by decide +kernel⟩
theorem lL:aM ["row"] ["row"] (aL (top 34)):=⟨rfl,rfl,rfl,by decide +kernel,rfl,by decide +kernel,by decide +kernel⟩
theorem j6:aM ["rows"] ["rows"] (aL (top 35)):=⟨rfl,rfl,rfl,by decide +kernel,rfl,by decide +kernel,by decide +kernel⟩
theorem nY:aM ["boxes"] ["boxes"] (aL (top 36)):=⟨rfl,rfl,rfl,by decide +kernel,rfl,by decide +kernel,by decide +kernel⟩
theorem oJ:aM ["things","place","thing"] ["things","place","thing"] (aL (top 38)):=⟨rfl,rfl,rfl,by decide +kernel,rfl,by decide +kernel,by decide +kernel⟩
theorem wD:aM ["kept","box"] ["kept","box"] (aL (top 42)):=⟨rfl,rfl,rfl,by decide +kernel,rfl,by decide +kernel,by decide +kernel⟩
theorem tU:aM ["kept"] ["kept"] (aL (top 43)):=⟨rfl,rfl,rfl,by decide +kernel,rfl,by decide +kernel,by decide +kernel⟩
theorem vY:aM ["kept"] ["kept"] (aL (top 44)):=⟨rfl,rfl,rfl,by decide +kernel,rfl,by decide +kernel,by decide +kernel⟩
theorem t8:aM ["kept","box"] ["kept","box"] (aL (top 45)):=⟨rfl,rfl,rfl,by decide +kernel,rfl,by decide +kernel,by decide +kernel⟩
theorem xZ:aM ["boxes"] ["boxes"] (aL (top 46)):=⟨rfl,rfl,rfl,by decide +kernel,rfl,by decide +kernel,by decide +kernel⟩
theorem oA:aM ["things","fewest","most","greatest_number"] ["things","fewest","most","greatest_number"] (aL (top 47)):=⟨rfl,rfl,rfl,by decide +kernel,rfl,by decide +kernel,by decide +kernel⟩
theorem nM:aM ["thing"] ["thing"] (aL (top 52)):=⟨rfl,rfl,rfl,by decide +kernel,rfl,by decide +kernel,by decide +kernel⟩
theorem pO:aM ["lets","one","box","other"] ["lets"] (aL (top 53)):=⟨rfl,rfl,rfl,by decide +kernel,rfl,by decide +kernel,by decide +kernel⟩
theorem tD:aM ["lets","one","other"] ["lets","one","other"] (aL (top 54)):=⟨rfl,rfl,rfl,by decide +kernel,rfl,by decide +kernel,by decide +kernel⟩
theorem lW:aM ["lets","by_size","kept"] ["lets"] (aL (top 55)):=⟨rfl,rfl,rfl,by decide +kernel,rfl,by decide +kernel,by decide +kernel⟩
theorem pW:aM ["lets","by_size","size","other","one"] ["lets"] (aL (top 56)):=⟨rfl,rfl,rfl,by decide +kernel,rfl,by decide +kernel,by decide +kernel⟩
theorem HW:aM ["pattern","many","lets","less"] ["pattern","many"] (aL (top 57)):=⟨rfl,rfl,rfl,by decide +kernel,rfl,by decide +kernel,by decide +kernel⟩
theorem lR:aM ["pattern","many","found"] ["pattern","many"] (aL (top 58)):=⟨rfl,rfl,rfl,by decide +kernel,rfl,by decide +kernel,by decide +kernel⟩
theorem tV:aM ["pattern","case","box","kept"] ["pattern","case","box"] (aL (top 60)):=⟨rfl,rfl,rfl,by decide +kernel,rfl,by decide +kernel,by decide +kernel⟩
theorem wG:aM ["pattern","case","first","box"] ["pattern","case"] (aL (top 62)):=⟨rfl,rfl,rfl,by decide +kernel,rfl,by decide +kernel,by decide +kernel⟩
theorem vD:aM ["pattern","case","box"] ["pattern","case"] (aL (top 63)):=⟨rfl,rfl,rfl,by decide +kernel,rfl,by decide +kernel,by decide +kernel⟩
theorem Gh:aM ["pattern","case"] ["pattern","case"] (aL (top 64)):=⟨rfl,rfl,rfl,by decide +kernel,rfl,by decide +kernel,by decide +kernel⟩
theorem lV:aM ["_law_script","_law_k"] ["_law_script","_law_k"] (aL (top 66)):=⟨rfl,rfl,rfl,by decide +kernel,rfl,by decide +kernel,by decide +kernel⟩
theorem oG:aM ["_law_cell","_law_k","_law_number"] ["_law_cell","_law_k"] (aL (top 67)):=⟨rfl,rfl,rfl,by decide +kernel,rfl,by decide +kernel,by decide +kernel⟩
theorem gQ:aM ["_law_thing","_law_part"] ["_law_thing"] (aL (top 68)):=⟨rfl,rfl,rfl,by decide +kernel,rfl,by decide +kernel,by decide +kernel⟩
theorem pR:aM ["_law_found","_law_due_here"] ["_law_found","_law_due_here"] (aL (top 69)):=⟨rfl,rfl,rfl,by decide +kernel,rfl,by decide +kernel,by decide +kernel⟩
theorem Mr:aM ["_law_one","_law_other"] ["_law_one","_law_other"] (aL (top 71)):=⟨rfl,rfl,rfl,by decide +kernel,rfl,by decide +kernel,by decide +kernel⟩
theorem pI:aM ["_law_one","_law_other"] ["_law_one","_law_other"] (aL (top 73)):=⟨rfl,rfl,rfl,by decide +kernel,rfl,by decide +kernel,by decide +kernel⟩
theorem sZ:aM ["_law_cell","_law_bit","_law_many","_law_row_here","_law_k"] ["_law_cell","_law_bit","_law_many"] (aL (top 74)):=⟨rfl,rfl,rfl,by decide +kernel,rfl,by decide +kernel,by decide +kernel⟩
theorem tG:aM ["_law_row_here","_law_deep","_law_most","_law_scale","_law_number","_law_many","_law_cost","_law_rows","_law_j","_law_weight"] ["_law_row_here","_law_deep","_law_most","_law_scale"] (aL (top 75)):=⟨rfl,rfl,rfl,by decide +kernel,rfl,by decide +kernel,by decide +kernel⟩
theorem oO:aM ["_law_told"] ["_law_told"] (aL (top 76)):=⟨rfl,rfl,rfl,by decide +kernel,rfl,by decide +kernel,by decide +kernel⟩
theorem lX:aM ["_law_cell","_law_many","_law_way","_law_count","_law_groups","_law_most","_law_one"] ["_law_cell","_law_many"] (aL (top 77)):=⟨rfl,rfl,rfl,by decide +kernel,rfl,by decide +kernel,by decide +kernel⟩
theorem qI:aM ["_law_case","_law_stands","_law_lows","_law_kept","_law_cell","_law_box_here","_law_told","_law_here","_law_row_here"] ["_law_case","_law_stands","_law_lows","_law_kept","_law_cell"] (aL (top 78)):=⟨rfl,rfl,rfl,by decide +kernel,rfl,by decide +kernel,by decide +kernel⟩
theorem tH:aM ["_law_stands","_law_kept","_law_pattern_here","_law_bits","_law_found","_law_most","_law_box_here","_law_told","_law_here"] ["_law_stands","_law_kept","_law_pattern_here"] (aL (top 79)):=⟨rfl,rfl,rfl,by decide +kernel,rfl,by decide +kernel,by decide +kernel⟩
theorem Ln:aM ["_law_script","_law_first","_law_many","_law_row_here","_law_scale","_law_stands","_law_pattern_here","_law_boxes","_law_case","_law_lows","_law_kept","_law_cell"] ["_law_script"] (aL (top 80)):=⟨rfl,rfl,rfl,by decide +kernel,rfl,by decide +kernel,by decide +kernel⟩
theorem jN:aM ["self","end_count","stage_count","level","cap_rows"] ["self","end_count","stage_count","level","cap_rows"] (aL (inClass (top 30) 0)):=⟨rfl,rfl,rfl,by decide +kernel,rfl,by decide +kernel,by decide +kernel⟩
theorem oM:aM ["self"] ["self"] (aL (inClass (top 30) 1)):=⟨rfl,rfl,rfl,by decide +kernel,rfl,by decide +kernel,by decide +kernel⟩
theorem lK:aM ["self"] ["self"] (aL (inClass (top 30) 2)):=⟨rfl,rfl,rfl,by decide +kernel,rfl,by decide +kernel,by decide +kernel⟩
theorem jX:aM ["self"] ["self"] (aL (inClass (top 30) 3)):=⟨rfl,rfl,rfl,by decide +kernel,rfl,by decide +kernel,by decide +kernel⟩
theorem oK:aM ["self"] ["self"] (aL (inClass (top 30) 4)):=⟨rfl,rfl,rfl,by decide +kernel,rfl,by decide +kernel,by decide +kernel⟩
theorem lM:aM ["self","worth"] ["self","worth"] (aL (inClass (top 31) 0)):=⟨rfl,rfl,rfl,by decide +kernel,rfl,by decide +kernel,by decide +kernel⟩
theorem oR:aM ["self"] ["self"] (aL (inClass (top 31) 1)):=⟨rfl,rfl,rfl,by decide +kernel,rfl,by decide +kernel,by decide +kernel⟩
theorem jF:aM ["self","price","rows","end_count","stage_count","behind","level"] ["self","price","rows"] (aL (inClass (top 32) 0)):=⟨rfl,rfl,rfl,by decide +kernel,rfl,by decide +kernel,by decide +kernel⟩
theorem lQ:aM ["self"] ["self"] (aL (inClass (top 32) 1)):=⟨rfl,rfl,rfl,by decide +kernel,rfl,by decide +kernel,by decide +kernel⟩
theorem mJ:aM ["self","row"] ["self","row"] (aL (inClass (top 32) 3)):=⟨rfl,rfl,rfl,by decide +kernel,rfl,by decide +kernel,by decide +kernel⟩
theorem j5:aM ["self","boxes"] ["self","boxes"] (aL (inClass (top 39) 0)):=⟨rfl,rfl,rfl,by decide +kernel,rfl,by decide +kernel,by decide +kernel⟩
theorem j9:aM ["self"] ["self"] (aL (inClass (top 39) 1)):=⟨rfl,rfl,rfl,by decide +kernel,rfl,by decide +kernel,by decide +kernel⟩
theorem kO:aM ["self","box"] ["self","box"] (aL (inClass (top 39) 2)):=⟨rfl,rfl,rfl,by decide +kernel,rfl,by decide +kernel,by decide +kernel⟩
theorem oN:aM ["self","box"] ["self","box"] (aL (inClass (top 39) 3)):=⟨rfl,rfl,rfl,by decide +kernel,rfl,by decide +kernel,by decide +kernel⟩
theorem tW:aM ["self","box"] ["self","box"] (aL (inClass (top 39) 4)):=⟨rfl,rfl,rfl,by decide +kernel,rfl,by decide +kernel,by decide +kernel⟩
theorem qD:aM ["self"] ["self"] (aL (inClass (top 39) 5)):=⟨rfl,rfl,rfl,by decide +kernel,rfl,by decide +kernel,by decide +kernel⟩
theorem mO:aM ["self","deed","case"] ["self","deed"] (aL (inClass (top 39) 12)):=⟨rfl,rfl,rfl,by decide +kernel,rfl,by decide +kernel,by decide +kernel⟩
theorem mH:aM ["self","box","row","stage","cap","lower","case"] ["self","box","row"] (aL (inClass (top 39) 13)):=⟨rfl,rfl,rfl,by decide +kernel,rfl,by decide +kernel,by decide +kernel⟩
theorem nU:aM ["self","box","case"] ["self","box"] (aL (inClass (top 39) 14)):=⟨rfl,rfl,rfl,by decide +kernel,rfl,by decide +kernel,by decide +kernel⟩
theorem lU:aM ["self","count"] ["self","count"] (aL (inClass (top 49) 0)):=⟨rfl,rfl,rfl,by decide +kernel,rfl,by decide +kernel,by decide +kernel⟩
theorem wF:aM ["self","kept"] ["self","kept"] (aL (inClass (top 49) 1)):=⟨rfl,rfl,rfl,by decide +kernel,rfl,by decide +kernel,by decide +kernel⟩
theorem jA:aM ["self","groups","most"] ["self","groups","most"] (aL (inClass (top 50) 0)):=⟨rfl,rfl,rfl,by decide +kernel,rfl,by decide +kernel,by decide +kernel⟩
theorem oE:aM ["self","kept","boxes","groups"] ["self","kept"] (aL (inClass (top 50) 1)):=⟨rfl,rfl,rfl,by decide +kernel,rfl,by decide +kernel,by decide +kernel⟩
theorem iW:aM ["self","sets"] ["self","sets"] (aL (inClass (top 51) 0)):=⟨rfl,rfl,rfl,by decide +kernel,rfl,by decide +kernel,by decide +kernel⟩
theorem nR:aM ["self","kept"] ["self","kept"] (aL (inClass (top 51) 1)):=⟨rfl,rfl,rfl,by decide +kernel,rfl,by decide +kernel,by decide +kernel⟩
end K54
namespace K54
open PySem L2 TD
open Builtin.Int (intBits)
section
variable {P:Program}{w:World}{K:PySem.W.Frag}{mg:Str->Option Value}{base:Heap}{Pt:Addr}
theorem pX {n:Nat}{f:Addr}{fd:FuncData}(F:dN K "common_divisor" "common_divisor" (top 9) f fd)(aHm:mg "abs" = none):aP P w K mg base cN (n+1) f fd ["one","other"] Nm:=by
 refine F.ok jH (fun vs H Q E h=>?_) (fun cdv A outer s H vs Q E hr h=>?_)
 ·obtain ⟨a,b,rfl,_⟩:=h
  rfl
 obtain ⟨a,b,rfl,q⟩:=h;have nd:=jH.nd;refine ⟨_,(aD (JF PassesOwn.never (bV Jd (pv 1) aH (bW _)) (aD (aY (i:=2) nd rfl (Or.inl rfl) (aW Mw (pv 0) (pv 1))) (aD (aY (i:=0) nd rfl (Or.inl rfl) (pv 1)) (aF (aY (i:=1) nd rfl (Or.inl rfl) (pv 2)))))) (aF (aO (aR Ju rfl aHm Qp (aA (pv 0) aC))))),?_⟩;refine Kl (fun σ H'=>∃ x y r,σ = [some (.int x),some (.int y),r]/\aJR x y=aJR a b/\H'=H) (fun σ _=>match σ with | [_,some (.int y),_]=>y.natAbs | _=>0) ⟨a,b,none,rfl,rfl,rfl⟩ (fun σ H' ⟨x,y,r,e,hg,eH⟩=>?_) (fun σ H Q Q' hQ ⟨v,e,hs,k,ek,q⟩=>⟨v,e,hs,k,ek,hQ _ _ q⟩);subst e eH;refine ⟨_,rfl,rfl,_,rfl,?_⟩
 by_cases hy:y=0
 ·subst hy;refine mY (by simp) ?_;refine ⟨_,rfl,_,rfl,?_⟩;have e:(if x<0 then -x else x)=((aJR a b:Nat):Int):=by
   rw [<- hg,Int.gcd_zero]
   split <;> omega
  rw [e];exact q
 ·refine m5 (by simp [hy]) ?_;refine ⟨_,rfl,_,rfl,x,y,rfl,rfl,hy,?_⟩;refine ⟨_,rfl,?_⟩;refine ⟨_,rfl,?_⟩;exact ⟨⟨y,x.fmod y,_,rfl,(Fr.Ly x y).trans hg,rfl⟩,Fr.Hw hy⟩
theorem Jk {n:Nat}{f:Addr}{fd:FuncData}(F:dN K "share" "share" (top 11) f fd){v_:Addr}{q_:FuncData}(x_:dY P w K mg base n "common_divisor" ["one","other"] Nm v_ q_):aP P w K mg base cN (n+1) f fd ["top","bottom"] zQ:=by
 refine F.ok Bt (fun vs H Q E h=>?_) (fun cdv A outer s H vs Q E hr h=>?_)
 ·obtain ⟨t,b,rfl,_⟩:=h
  rfl
 obtain ⟨t,b,rfl,hb,hz,q⟩:=h;have nd:=Bt.nd;refine ⟨_,(aD (aY (i:=2) nd rfl (Or.inl rfl) (aJ x_ hr (aA (pv 0) (aA (pv 1) aC)))) (aD (bZ (bV xW (pv 1) aH (bW _)) (aF (aY (i:=2) nd rfl (Or.inl rfl) (Ol Kz (pv 2)))) bA) (aF (aO (cW (aA (aW gU (pv 0) (pv 2)) (aA (aW gU (pv 1) (pv 2)) aC))))))),?_⟩;have hdz:intBits (Fr.dv t b)<=9000:=PySem.intBits_le_of_natAbs (by rw [Fr.rB]; exact aLt t hb) hz;have hdn:=Fr.Pb (t:=t) hb;refine ⟨_,rfl,_,rfl,t,b,rfl,?_⟩;refine ⟨_,rfl,_,_,rfl,rfl,_,rfl,?_⟩;refine uC (fun c=>?_) (fun c=>?_)
 ·have e:-((aJR t b:Nat):Int)=Fr.dv t b:=by unfold Fr.dv; rw [if_pos (of_decide_eq_true c)]
  unfold Fr.sh at q;rw [<- e] at q hdz hdn;refine ⟨_,rfl,_,rfl,?_⟩;refine ⟨_,rfl,_,rfl,_,_,rfl,rfl,⟨hdn,hdz⟩,_,rfl,_,rfl,_,_,rfl,rfl,⟨hdn,hdz⟩,uL,fun p hp=>?_⟩;exact q p _ (aG hp _) aB
 ·have e:((aJR t b:Nat):Int)=Fr.dv t b:=by unfold Fr.dv; rw [if_neg (of_decide_eq_false (Bool.eq_false_iff.mpr c))]
  unfold Fr.sh at q;rw [<- e] at q hdz hdn;refine ⟨_,rfl,_,rfl,_,_,rfl,rfl,⟨hdn,hdz⟩,_,rfl,_,rfl,_,_,rfl,rfl,⟨hdn,hdz⟩,uL,fun p hp=>?_⟩;exact q p _ (aG hp _) aB
theorem oZ {n:Nat}{f:Addr}{fd:FuncData}(F:dN K "common_multiple" "common_multiple" (top 10) f fd){v_:Addr}{q_:FuncData}(x_:dY P w K mg base n "common_divisor" ["one","other"] Nm v_ q_):aP P w K mg base cN (n+1) f fd ["numbers"] (QD K):=by
 refine F.ok iT (fun vs H Q E h=>?_) (fun cdv A outer s H vs Q E hr h=>?_)
 ·obtain ⟨a,ns,rfl,_⟩:=h
  rfl
 obtain ⟨a,ns,rfl,hS,hp,h9,hz,q⟩:=h;have nd:=iT.nd;refine ⟨_,(aD (aY (i:=1) nd rfl (Or.inl rfl) aH) (aD (eE PassesOwn.never rfl (bO (pv 0)) (aQ (i:=2) nd rfl (Or.inl rfl)) (aF (aY (i:=1) nd rfl (Or.inl rfl) (aW dO (pv 1) (aW gU (pv 2) (aJ x_ hr (aA (pv 1) (aA (pv 2) aC)))))))) (aF (aO (pv 1))))),?_⟩;have hl:(ns.map V.int).length=ns.length:=aI8 _;refine ⟨_,rfl,a,rfl,⟨_,hS⟩,?_⟩;refine iU (xs:=ns.map V.int) (fun i σ H'=>∃ r,σ = [some (.ref a),some (.int (c7 (ns.take i))),r]/\H'=H) ⟨none,rfl,rfl⟩ (fun i σ H' _ ⟨r,_,e⟩=>by subst e; exact hS) ?turn ?done
 case turn =>
  rintro i x σ H' hx ⟨r,rfl,rfl⟩;rw [aJh] at hx;cases e:ns[i]? with
  | none=>rw [e] at hx; cases hx
  | some n =>
   rw [e] at hx;cases hx;have hm:=aJg e;have hn:=hp n hm;have nz:=h9 n hm;have gz:intBits ((aJR (c7 (ns.take i)) n:Nat):Int)<=9000:=aJc (PySem.intBits_le_of_natAbs (y:=n) (by have:=aLt (c7 (ns.take i)) (aJL hn); omega) (aJd _)) (by omega);have gn:((aJR (c7 (ns.take i)) n:Nat):Int)≠0:=by have:=aJ1 (c7 (ns.take i)) (aJL hn); omega
   have lb:=yH (ns.take i);have st:=Be ns i;refine ⟨_,rfl,_,rfl,_,rfl,_,rfl,c7 (ns.take i),n,rfl,_,_,rfl,rfl,⟨gn,gz⟩,_,_,rfl,rfl,gB (m:=200001) (n:=9000) (by omega) (PySem.intBits_fdiv_le nz) (by decide),?_⟩;refine ⟨some (V.int n),?_,rfl⟩;rw [aLi,e];show _=[some (V.ref a),some (V.int (c7 (ns.take i++[n]))),some (V.int n)]
   rw [Ib]
   rfl
 case done =>
  rintro σ H' ⟨r,rfl,rfl⟩;rw [hl,aJw];exact ⟨_,rfl,q⟩
theorem LC {n:Nat}{f:Addr}{fd:FuncData}(F:dN K "whole" "whole" (top 12) f fd):aP P w K mg base cN (n+1) f fd ["number"] Qz:=by
 refine F.ok Bo (fun vs H Q E h=>?_) (fun cdv A outer s H vs Q E hr h=>?_)
 ·obtain ⟨t,rfl,_⟩:=h
  rfl
 obtain ⟨t,rfl,q⟩:=h;have nd:=Bo.nd;refine ⟨_,(aF (aO (cW (aA (pv 0) (aA aH aC))))),?_⟩;refine ⟨_,rfl,uL,fun p hp=>?_⟩;exact q p _ (aG hp _) aB
theorem J8 {n:Nat}{f:Addr}{fd:FuncData}(F:dN K "below" "below" (top 13) f fd):aP P w K mg base cN (n+1) f fd ["one","other"] (uU K):=by
 refine F.ok Bx (fun vs H Q E h=>?_) (fun cdv A outer s H vs Q E hr h=>?_)
 ·obtain ⟨p,q,a,b,c,d,rfl,_⟩:=h
  rfl
 obtain ⟨p,q,a,b,c,d,rfl,hp,hq,z,k⟩:=h;have nd:=Bx.nd;refine ⟨_,(aF (aO (fY xW (aW dO (bQ cQ (pv 0) aH (fun _ _=>rfl)) (bQ cQ (pv 1) aH (fun _ _=>rfl))) (aW dO (bQ cQ (pv 1) aH (fun _ _=>rfl)) (bQ cQ (pv 0) aH (fun _ _=>rfl))) (bW _)))),?_⟩;exact ⟨_,rfl,p,_,_,_,rfl,rfl,hp,rfl,_,rfl,q,_,_,_,rfl,rfl,hq,rfl,_,_,rfl,rfl,gB z.a z.d (by decide),_,rfl,q,_,_,_,rfl,rfl,hq,rfl,_,rfl,p,_,_,_,rfl,rfl,hp,rfl,_,_,rfl,rfl,gB z.c z.b (by decide),_,_,rfl,rfl,k⟩
theorem IW {n:Nat}{f:Addr}{fd:FuncData}(F:dN K "lesser" "lesser" (top 14) f fd){aEY:Addr}{aEm:FuncData}(aEZ:dY P w K mg base n "below" ["one","other"] (uU K) aEY aEm):aP P w K mg base cN (n+1) f fd ["one","other"] (QQ K):=by
 refine F.ok yM (fun vs H Q E h=>?_) (fun cdv A outer s H vs Q E hr h=>?_)
 ·obtain ⟨p,q,a,b,c,d,rfl,_⟩:=h
  rfl
 obtain ⟨p,q,a,b,c,d,rfl,hp,hq,z,k1,k2⟩:=h;have nd:=yM.nd;refine ⟨_,(aF (aO (pJ (bD (aJ aEZ hr (aA (pv 1) (aA (pv 0) aC)))) (pv 1) (pv 0)))),?_⟩;refine ⟨_,rfl,_,rfl,q,p,c,d,a,b,rfl,hq,hp,⟨z.c,z.d,z.a,z.b⟩,_,rfl,?_⟩
 by_cases cc:c*b<a*d
 ·refine m5 (decide_eq_true cc) ?_;exact ⟨_,rfl,k1 cc⟩
 ·refine mY (decide_eq_false cc) ?_;exact ⟨_,rfl,k2 cc⟩
theorem Hk {n:Nat}{f c:Addr}{fd:FuncData}(F:dN K "rising" "rising" (top 18) f fd)(hc:fd.code=.ref c)(hC:PySem.W.CodeHd base c Pt)(hB:base.BuiltinsAt mg Pt)(I_:mg "sorted" = none)(aEi:mg "max" = none):aP P w K mg base cN (n+1) f fd ["worths"] (Jf K Pt eN):=by
 refine F.okc hc xY (fun vs H Q E h=>?_) (fun A outer s H vs Q E hr h=>?_)
 ·obtain ⟨a,rs,rfl,_⟩:=h
  rfl
 obtain ⟨a,rs,rfl,hS,hne,h64,hrs,nd0,hT,q⟩:=h;have nd:=xY.nd;refine ⟨_,(aD (aY (i:=1) nd rfl (Or.inl rfl) (aR (zE rfl) rfl aEi Ao (aA (cD (ls:=["worth"]) (M:=["worths","most","scale"]) rfl (bJ.of (by rfl)) (NL.of (by rfl)) (bO (pv 0)) (fun _ _ _ _=>⟨(aQ (i:=0) (cH (by rfl)) rfl (Or.inl rfl)),b7,(bQ (lD (K:=K) rfl) (pv 0) aH (fun _ _=>rfl))⟩)) aC))) (aD (aY (i:=2) nd rfl (Or.inr rfl) (aW dO (pv 1) (pv 1))) (aF (aO (Jv (p:="worth") (M:=["worths","most","scale"]) hr rfl rfl I_ rfl hC hB (bJ.of (by rfl)) (NL.of (by rfl)) rfl rfl rfl (pv 0) (fun _ _ _ _ _=>(aW gU (aW dO (bQ (lD (K:=K) rfl) (pv 0) aH (fun _ _=>rfl)) (pv 3)) (bQ (lD (K:=K) rfl) (pv 0) aH (fun _ _=>rfl))))))))),?_⟩;have hlr:=q8 rs;refine ⟨_,rfl,a,rfl,⟨_,hS⟩,fun D hD=>?_⟩;refine bN (xs:=lO rs) (fun i τ H'=>∃ v0,τ = [v0,some (.ref a),none,none]/\aN H H'/\H' D=some (.lst ((rs.take i).map fun r=>V.int r.b))) ⟨none,rfl,aG hD _,aB⟩ ?keep ?turn ?done
 case keep =>
  rintro i τ H' hi ⟨v0,rfl,hs,_⟩;exact hs.seq hS
 case turn =>
  rintro i m v τ H' hm hi hv ⟨v0,rfl,hs,hD'⟩;obtain ⟨x,hx,rfl⟩:=DW hv;have hr2:=hs _ _ (hrs x (aJg hx)).1;unfold qT;refine eO ?_;refine ⟨_,rfl,x.q,_,_,_,rfl,rfl,cV.of hr2,rfl,?_⟩;refine bB hm hi hD' (by rw [aI8]; exact aU (aJc (aKn _ _) (by omega))) ⟨_,rfl,hs.upd_new hD _,?_⟩;rw [aB,take_snoc hx,aJj]
  rfl
 case done =>
 rintro τ H1 ⟨v0,rfl,s1,hD1⟩;rw [hlr,aJw] at hD1;refine ⟨D,rs.map Rs.b,rfl,bG.of (by rw [hD1,aJ0]; rfl),fun e=>hne (aJ9.mp e),fun mx hmx hmax=>?_⟩;obtain ⟨r0,hr0,rfl⟩:=aJe.mp hmx;have z0:=(hrs r0 hr0).2.2.2;refine ⟨_,rfl,_,rfl,_,_,rfl,rfl,gB z0 z0 (by decide),?_⟩;have zz:intBits (r0.b*r0.b)<=8000:=PySem.intBits_mul_le z0 z0;refine ⟨_,rfl,a,rs.map Rs.q,rs.map (J3 r0.b),rfl,by rw [<- Nj]; exact s1.seq hS,by rw [aI8,aI8],by rw [aI8]; exact h64,hT.same s1,fun H2 c' st hit=>⟨fun i qa kk eq ek=>?_,fun D2 ps hD2 hp hs=>?_⟩⟩
 ·rw [aJh] at eq ek;cases er:rs[i]? with
  | none=>rw [er] at eq; cases eq
  | some r =>
   rw [er] at eq ek;cases eq;cases ek;obtain ⟨ra,rf,rt,rb⟩:=hrs r (aJg er);have ra2:H2 r.q=some (.tup [.int r.t,.int r.b]):=st.get (hT.same s1) (s1 _ _ ra) fun _ z=>nomatch z
   exact ⟨_,rfl,r.q,_,_,_,rfl,rfl,(cV.of ra2),rfl,_,rfl,_,_,rfl,rfl,gB rt zz (by decide),_,rfl,r.q,_,_,_,rfl,rfl,(cV.of ra2),rfl,_,_,rfl,rfl,⟨aJL rf.pos,aJc rb (by decide)⟩,rfl,rfl⟩
 ·obtain ⟨rs',pm,e,so⟩:=Nu hp hs nd0 (fun r hr=>(hrs r hr).2.1) (fun r hr=>hmax _ (aJe.mpr ⟨r,hr,rfl⟩));rw [e];have tb2:cX Pt eN fO H2:=.inr ⟨c',hit⟩;exact q D2 _ rs' (((s1.toT).trans st).trans (aN.toT (aG hD2 _))) (tb2.same (aG hD2 _)) aB pm so
theorem PP {H:Hp}:∀ {kvs:List (List Key×V)}{qs:List Addr},qs.length=kvs.length->(∀ kv∈kvs,∃ t b:Int,kv.1=[.inl t,.inl b])->(∀ (i:Nat) k v,kvs[i]? = some (k,v)->∃ q,qs[i]? = some q/\H q=some (.tup (k.map kV))) ->
  ∃ rs:List Rs,lO rs=qs.map V.ref/\rs.map jT=kvs.map (·.1)/\∀ r∈rs,R5 H r
 | [],[],_,_,_=>⟨[],rfl,rfl,fun _ h=>nomatch h⟩
 | [],_::_,h,_,_=>by simp at h
 | _::_,[],h,_,_=>by simp at h
 | kv::kvs,q::qs,hl,hk,hq=>by
  obtain ⟨rs,e1,e2,e3⟩:=PP (kvs:=kvs) (qs:=qs) (by simpa using hl) (fun x hx=>hk x (aI9 _ hx)) fun i k v e=>by
   obtain ⟨z,z1,z2⟩:=hq (i+1) k v (by simpa using e);exact ⟨z,by simpa using z1,z2⟩
  obtain ⟨t,b,ek⟩:=hk kv aJa;obtain ⟨z,z1,z2⟩:=hq 0 kv.1 kv.2 rfl;have z1:q=z:=by simpa using z1
  subst z1;refine ⟨⟨q,t,b⟩::rs,?_,?_,fun r hr=>?_⟩
  ·show V.ref q::lO rs=V.ref q::qs.map V.ref;rw [e1]
  ·show jT ⟨q,t,b⟩::rs.map jT=kv.1::kvs.map (·.1);rw [e2,ek]
   rfl
  ·rcases aJx.mp hr with e | e
   ·subst e;rw [ek] at z2;exact z2
   ·exact e3 r e
theorem Bj {xs:List Row}{kvs:List (List Key×V)}(pb:PB xs)(d:Dk (dG xs) kvs){r:Rs}(h:jT r∈kvs.map (·.1)):Tb.uV (dG xs) r.t r.b/\Fr.jD r.t r.b/\intBits r.t<=4000/\intBits r.b<=4000:=by
 obtain ⟨kv,hkv,e⟩:=aJe.mp h;obtain ⟨t,b,e2,hh⟩:=d.en kv hkv;rw [e2] at e;obtain ⟨e3,e4⟩:=u6.mp e.symm;rw [e3,e4];refine ⟨hh,?_⟩;obtain ⟨p,hp,e5,e6⟩:=hh;obtain ⟨x,hx,rfl⟩:=aJe.mp hp;have g:=pb x hx;have e5:x.t=t:=e5;have e6:x.b=b:=e6;rw [<- e5,<- e6];exact ⟨g.1,g.2.1,g.2.2.1⟩
theorem Ea {n:Nat}{f:Addr}{fd:FuncData}(F:dN K "in_form" "in_form" (top 19) f fd){aHn:Addr}{aG2:FuncData}(aHo:dY P w K mg base n "rising" ["worths"] (Jf K Pt eN) aHn aG2){v_:Addr}{q_:FuncData}(x_:dY P w K mg base n "common_divisor" ["one","other"] Nm v_ q_)(o_:mg "list" = none):aP P w K mg base cN (n+1) f fd ["rows"] (Eo Pt eN):=by
 refine F.ok vJ (fun vs H Q E h=>?_) (fun cdv A outer s H vs Q E hr h=>?_)
 ·obtain ⟨a,xs,rfl,_⟩:=h
  rfl
 obtain ⟨a,xs,rfl,hT,xne,xlen,pb,hTb,q⟩:=h;have nd:=vJ.nd;have hu:=Vn hr;refine ⟨_,(aD (aY (i:=1) nd rfl (Or.inr rfl) Jr) (aD (eE PassesOwn.never rfl (bO (pv 0)) (wI rfl (bL (aQ (i:=2) nd rfl (Or.inl rfl)) (bL (aQ (i:=3) nd rfl (Or.inl rfl)) fK))) (aF (O5 hu (pv 1) (pv 2) (aW eY (J6 hu (pv 1) (pv 2) aH ⟨rfl,rfl,rfl,rfl⟩) (pv 3)) rfl))) (aD (aY (i:=4) nd rfl (Or.inr rfl) aH) (aD (eE PassesOwn.never rfl (Nz (pv 1)) (aQ (i:=2) nd rfl (Or.inl rfl)) (aF (aY (i:=4) nd rfl (Or.inr rfl) (aJ x_ hr (aA (pv 4) (aA (Gx hu (pv 1) (pv 2) (fun _ _=>rfl)) aC)))))) (aF (aO (cD (ls:=["worth"]) (M:=["rows","weights","worth#","weight","divisor"]) rfl (bJ.of (by rfl)) (NL.of (by rfl)) (bO (aJ aHo hr (aA (cY (FP rfl) rfl o_ jG (aA (pv 1) aC)) aC))) (fun _ _ _ _=>⟨(aQ (i:=0) (cH (by rfl)) rfl (Or.inl rfl)),b7,(cW (aA (pv 0) (aA (aW gU (Gx hu (pv 2) (pv 0) (fun _ _=>rfl)) (pv 5)) aC)))⟩)))))))),?_⟩;have hlr:=refs_length xs;intro Dd hDd;have n0:=aG hDd (.dT []);refine ⟨_,rfl,a,rfl,⟨_,bG.of (hT.same n0).lst⟩,?_⟩;refine iU (xs:=refs xs) (fun i σ H'=>∃ kvs v2 v3,σ = [some (.ref a),some (.ref Dd),v2,v3,none]/\aN H H'/\H' Dd=some (.dT kvs)/\Dk (dG (xs.take i)) kvs/\kvs.length<=i) ⟨[],none,none,rfl,n0,aB,Dk.nil,aJd _⟩ ?keep ?turn ?done
 case keep =>
  rintro i σ H' hi ⟨kvs,v2,v3,rfl,hs,_⟩;exact bG.of (hT.same hs).lst
 case turn =>
  rintro i v σ H' hv ⟨kvs,v2,v3,rfl,hs,hd,dk,kl⟩;obtain ⟨x,hx,rfl⟩:=nF hv;have hmem:=aJg hx;have hi:=(aJl.mp hx).1;have hr:=(hT.same hs).rows x hmem;have hq:H' x.q=some (.tup (([.inl x.t,.inl x.b]:List Key).map kV)):=hr.2;refine ⟨x.p,_,rfl,cV.of hr.1,rfl,_,_,rfl,_,_,rfl,rfl,?_⟩;refine ⟨_,rfl,Dd,rfl,.inr ⟨_,.inl hd⟩,_,rfl,_,Ce.t hd hq,_,rfl,Tb.Wt (dG (xs.take i)) x.t x.b,x.w,dk.get x.t x.b,rfl,?_⟩;refine ⟨_,rfl,_,rfl,Dd,_,rfl,Jx.t hd hq (aU (by omega)),?_⟩;refine ⟨_,_,_,rfl,hs.upd_new hDd _,aB,?_,?_⟩
  ·rw [take_snoc hx,jY];exact dk.put x.r
  ·have:=mG kvs [.inl x.t,.inl x.b] (.int (Tb.Wt (dG (xs.take i)) x.t x.b+x.w));exact aJc this (by omega)
 case done =>
 rintro σ H1 ⟨kvs,v2,v3,rfl,s1,hd1,dk,kl⟩;rw [hlr,aJw] at dk;rw [hlr] at kl;obtain ⟨hw1,hf1⟩:=pb.ps;have pne:dG xs≠[]:=fun e=>xne (aJ9.mp e);have plen:(dG xs).length<=1000:=by rw [eG]; omega
 have dpos:=dk.div_pos pne hw1;have dbits:=KZ dk pne (fun p hp=>by obtain ⟨x,hx,rfl⟩:=aJe.mp hp; exact ⟨(pb x hx).2.2.2.1,(pb x hx).2.2.2.2⟩) plen;refine ⟨_,rfl,Dd,kvs,rfl,.inl ⟨hd1,fun o=>?_⟩⟩;have s2:aN H (aX H1 Dd (.frz o (.dT kvs))):=s1.upd_new hDd _;have hfz:aX H1 Dd (.frz o (.dT kvs)) Dd=some (.frz o (.dT kvs)):=aB;generalize aX H1 Dd (.frz o (.dT kvs))=H2 at s2 hfz ⊢;refine Lh (fun i σ H'=>∃ d v2,σ = [some (.ref a),some (.ref Dd),v2,v3,some (.int d)]/\H'=H2/\d=Tb.vP ((kvs.take i).map wOf)) ⟨0,_,rfl,rfl,rfl⟩ (fun i σ H' _ ⟨_,_,_,e,_⟩=>by rw [e]; exact hfz) ?turn3 ?done3
 case turn3 =>
  rintro i k v kq σ H' hk hkt ⟨d,v2,rfl,rfl,ed⟩;obtain ⟨t,b,ekv,hh⟩:=dk.en _ (aJg hk);injection ekv with ek1 ek2
  subst ek1 ek2;refine ⟨_,rfl,_,rfl,_,rfl,Dd,.int (Tb.Wt (dG xs) t b),rfl,.inr ⟨kvs,[.inl t,.inl b],kq,.inr ⟨o,hfz⟩,rfl,hkt,(dk.val hh).symm⟩,d,Tb.Wt (dG xs) t b,rfl,?_⟩;refine ⟨_,_,rfl,rfl,?_⟩;rw [take_snoc hk,aJj,ed];exact (Tb.Ij _ _).symm
 case done3 =>
 rintro σ H3 ⟨d,v2,rfl,rfl,ed⟩;rw [aJw] at ed;have ed:d=iH kvs:=ed;subst ed;have kb:∀ kv∈kvs,∃ t b:Int,kv.1=[.inl t,.inl b]:=fun kv hkv=>by
  obtain ⟨t,b,e,_⟩:=dk.en kv hkv;exact ⟨t,b,by rw [e]⟩
 refine ⟨_,rfl,Dd,kvs,rfl,.inr ⟨o,hfz⟩,fun l qs hl hql hqs=>?_⟩;obtain ⟨rs0,er1,er2,er3⟩:=PP hql kb hqs;have n3:=aG hl (.lst (qs.map V.ref));have s3:=s2.trans n3;have rl0:rs0.length=kvs.length:=by simpa using congrArg aKr er2
 have kin0:∀ r∈rs0,jT r∈kvs.map (·.1):=fun r hr=>by rw [<- er2]; exact aJe.mpr ⟨r,hr,rfl⟩
 refine ⟨l,rs0,rfl,bG.of (by rw [er1]; exact aB),?_,by omega,fun r hr=>⟨n3 _ _ (er3 r hr),(Bj pb dk (kin0 r hr)).2⟩,by rw [er2]; exact dk.nd,hTb.same s3,fun R H4 rs st4 tb4 hR pm so=>?_⟩
 ·rintro rfl;exact dk.ne pne (aKV.mp rl0.symm)
 have tb3:=hTb.same s3;have hfz4:H4 Dd=some (.frz o (.dT kvs)):=st4.get tb3 (n3 _ _ hfz) fun _ z=>nomatch z
 have pmk:(rs.map jT).Perm (kvs.map (·.1)):=by rw [<- er2]; exact pm.map jT
 have kin:∀ r∈rs,jT r∈kvs.map (·.1):=fun r hr=>pmk.mem_iff.mp (aJe.mpr ⟨r,hr,rfl⟩);have rat:∀ r∈rs,R5 H4 r:=fun r hr=>st4.get tb3 (n3 _ _ (er3 r (pm.mem_iff.mp hr))) fun _ z=>nomatch z
 have rlen:rs.length=kvs.length:=by rw [pm.length_eq,rl0]
 have sT:bH Pt H H4:=(s3.toT).trans st4;refine ⟨R,rfl,⟨_,bG.of hR⟩,fun D hD=>?_⟩;refine bN (xs:=lO rs) (fun i τ H'=>∃ v0 ys,τ = [v0,some (.ref a),some (.ref Dd),v2,v3,some (.int (iH kvs))]/\aN H4 H'/\TabAt H' D ys/\ys.map (fun y=>Rs.mk y.q y.t y.b)=rs.take i/\∀ y∈ys,y.w=(Tb.Wt (dG xs) y.t y.b).fdiv (iH kvs)) ⟨none,[],rfl,aG hD _,⟨aB,fun _ h=>nomatch h⟩,rfl,(fun _ h=>nomatch h)⟩ ?keep4 ?turn4 ?done4
 case keep4 =>
  rintro i τ H' hi ⟨v0,ys,rfl,hs,_⟩;exact bG.of (hs _ _ hR)
 case turn4 =>
  rintro i m v τ H' hm hi hv ⟨v0,ys,rfl,hs,hY,ey,yw⟩;obtain ⟨r,hr,rfl⟩:=DW hv;have hmem:=aJg hr;have hh:=(Bj pb dk (kin r hmem)).1;have rq:H' r.q=some (.tup [.int r.t,.int r.b]):=hs _ _ (rat r hmem);have ylen:ys.length<=1000:=by
   have h:=congrArg aKr ey;rw [aI8,aJz] at h;omega
  unfold qT;refine eO ?_;refine ⟨_,rfl,_,rfl,_,rfl,Dd,.int (Tb.Wt (dG xs) r.t r.b),rfl,.inr ⟨kvs,[.inl r.t,.inl r.b],r.q,.inr ⟨o,hs _ _ hfz4⟩,rfl,rq,(dk.val hh).symm⟩,_,rfl,_,_,rfl,rfl,⟨aJL dpos,dbits⟩,uL,fun p hp=>?_⟩;have n1:=aG hp (.tup [.ref r.q,.int ((Tb.Wt (dG xs) r.t r.b).fdiv (iH kvs))]);have hY1:=hY.same n1;refine bB hm hi hY1.lst (by rw [refs_length]; exact aU ylen) ⟨_,ys++[⟨p,r.q,r.t,r.b,(Tb.Wt (dG xs) r.t r.b).fdiv (iH kvs)⟩],rfl,(hs.trans n1).upd_new hD _,⟨?_,?_⟩,?_,?_⟩
  ·rw [aB,mZ]
  ·intro y hy;rcases aJy.mp hy with z | z
   ·exact (hY1.rows y z).over hY1.lst
   ·rw [aJk.mp z];exact jB.over ⟨aB,n1 _ _ rq⟩ hY1.lst
  ·rw [aJj,ey,take_snoc hr]
   rfl
  ·intro y hy;rcases aJy.mp hy with z | z
   ·exact yw y z
   ·rw [aJk.mp z]
 case done4 =>
  rintro τ H5 ⟨v0,ys,rfl,s5,hY,ey,yw⟩;rw [q8,aJw] at ey;obtain ⟨tab,wok⟩:=Qu dk hw1 hf1 pne pmk so ey yw;have yl:ys.length=rs.length:=by rw [<- ey,aI8]
  refine q D H5 ys (sT.trans (s5.toT)) (tb4.same s5) (sT.free hD tb4.at_) hY ⟨tab,wok⟩ (by omega)
theorem vC {n:Nat}{f:Addr}{fd:FuncData}(F:dN K "all_weights" "all_weights" (top 20) f fd)(aEj:mg "sum" = none):aP P w K mg base cN (n+1) f fd ["table"] RL:=by
 refine F.ok mV (fun vs H Q E h=>?_) (fun cdv A outer s H vs Q E hr h=>?_)
 ·obtain ⟨a,xs,rfl,_⟩:=h
  rfl
 obtain ⟨a,xs,rfl,hT,hl,q⟩:=h;have nd:=mV.nd;refine ⟨_,(aF (aO (aR (pN rfl) rfl aEj Ad (aA (cD (ls:=["worth","weight"]) (M:=["table"]) rfl (bJ.of (by rfl)) (NL.of (by rfl)) (bO (pv 0)) (fun _ _ _ _=>⟨(iJ (K:=K) (n:=2) rfl rfl (bL (aQ (i:=0) (cH (by rfl)) rfl (Or.inl rfl)) (bL (aQ (i:=1) (cH (by rfl)) rfl (Or.inl rfl)) fK))),b7,(pv 1)⟩)) aC)))),?_⟩;have hlr:=refs_length xs;refine ⟨_,rfl,a,rfl,⟨_,bG.of hT.lst⟩,fun D hD=>?_⟩;refine bN (xs:=refs xs) (fun i τ H'=>∃ v0 v1,τ = [v0,v1,some (.ref a)]/\aN H H'/\H' D=some (.lst ((xs.take i).map fun x=>V.int x.w))) ⟨none,none,rfl,aG hD _,aB⟩ ?keep ?turn ?done
 case keep =>
  rintro i τ H' hi ⟨v0,v1,rfl,hs,_⟩;exact bG.of (hT.same hs).lst
 case turn =>
  rintro i m v τ H' hm hi hv ⟨v0,v1,rfl,hs,hD'⟩;obtain ⟨x,hx,rfl⟩:=nF hv;have hr:=(hT.same hs).rows x (aJg hx);refine ⟨x.p,_,rfl,cV.of hr.1,rfl,_,_,rfl,_,_,rfl,rfl,?_⟩;refine eO ?_;refine ⟨_,rfl,?_⟩;refine bB hm hi hD' (by rw [aI8]; exact aU (aJc (aKn _ _) (by omega))) ⟨_,_,rfl,hs.upd_new hD _,?_⟩;rw [aB,take_snoc hx,aJj]
  rfl
 case done =>
  rintro τ H' ⟨v0,v1,rfl,hs,hD'⟩;rw [hlr,aJw] at hD';refine ⟨D,xs.map Row.w,rfl,bG.of (by rw [hD',aJ0]; rfl),?_⟩;exact q H' hs
theorem Hu {n:Nat}{f:Addr}{fd:FuncData}(F:dN K "capped" "capped" (top 21) f fd){aE7:Addr}{aEN:FuncData}(aE8:dY P w K mg base n "in_form" ["rows"] (Eo Pt eN) aE7 aEN){aFv:Addr}{aE9:FuncData}(aFw:dY P w K mg base n "lesser" ["one","other"] (QQ K) aFv aE9):aP P w K mg base cN (n+1) f fd ["table","level"] (K6 Pt eN):=by
 refine F.ok xO (fun vs H Q E h=>?_) (fun cdv A outer s H vs Q E hr h=>?_)
 ·obtain ⟨a,l,xs,x0,n,W,M,kk,rfl,_⟩:=h
  rfl
 obtain ⟨a,l,xs,x0,n,W,M,kk,rfl,hT,g,c,hl,f,hTb,q⟩:=h;have nd:=xO.nd;refine ⟨_,(aF (aO (aJ aE8 hr (aA (cD (ls:=["worth","weight"]) (M:=["table","level"]) rfl (bJ.of (by rfl)) (NL.of (by rfl)) (bO (pv 0)) (fun _ _ _ _=>⟨(iJ (K:=K) (n:=2) rfl rfl (bL (aQ (i:=0) (cH (by rfl)) rfl (Or.inl rfl)) (bL (aQ (i:=1) (cH (by rfl)) rfl (Or.inl rfl)) fK))),b7,(cW (aA (aJ aFw hr (aA (pv 0) (aA (pv 3) aC))) (aA (pv 1) aC)))⟩)) aC)))),?_⟩;obtain ⟨l0,l1⟩:=x0;have hl:H l=some (.tup [.int l0,.int l1]):=hl;have f:Sd.Fq l0 l1 M kk:=f;have lb:=qW f g.mp c.m c.k0 c.k;have hlr:=refs_length xs;have glen:=g.len;have gn:=c.n;have ylen:∀ {i:Nat}{ys:List Row},dG ys=(dG (xs.take i)).map (Tb.iZ l0 l1)->ys.length<=12:=fun {i ys} e=>by
  have h1:=congrArg aKr e;rw [eG,aI8,eG,aJz] at h1;omega
 refine ⟨_,rfl,a,rfl,⟨_,bG.of hT.lst⟩,fun D hD=>?_⟩;refine bN (xs:=refs xs) (fun i τ H'=>∃ v0 v1 ys,τ = [v0,v1,some (.ref a),some (.ref l)]/\aN H H'/\TabAt H' D ys/\dG ys=(dG (xs.take i)).map (Tb.iZ l0 l1)) ⟨none,none,[],rfl,aG hD _,⟨aB,fun _ h=>nomatch h⟩,rfl⟩ ?keep ?turn ?done
 case keep =>
  rintro i τ H' hi ⟨v0,v1,ys,rfl,hs,_⟩;exact bG.of (hT.same hs).lst
 case turn =>
  rintro i m v τ H' hm hi hv ⟨v0,v1,ys,rfl,hs,hY,ey⟩;obtain ⟨x,hx,rfl⟩:=nF hv;have hmem:=aJg hx;have hr:=(hT.same hs).rows x hmem;have xz:=g.bits c hmem;have yl:=ylen ey;refine ⟨x.p,_,rfl,cV.of hr.1,rfl,_,_,rfl,_,_,rfl,rfl,?_⟩;refine eO ?_;refine ⟨_,rfl,_,rfl,x.q,l,x.t,x.b,l0,l1,rfl,cV.of hr.2,cV.of (hs _ _ hl),⟨by omega,by omega,by omega,by omega⟩,fun c=>?_,fun c=>?_⟩
  ·
   refine ⟨_,rfl,uL,fun p hp=>?_⟩;have n1:=aG hp (.tup [.ref l,.int x.w]);have hY1:=hY.same n1;refine bB hm hi hY1.lst (by rw [refs_length]; exact aU (by omega)) ⟨_,_,ys++[⟨p,l,l0,l1,x.w⟩],rfl,(hs.trans n1).upd_new hD _,⟨?_,?_⟩,?_⟩
   ·rw [aB,mZ]
   ·intro y hy;rcases aJy.mp hy with z | z
    ·exact (hY1.rows y z).over hY1.lst
    ·rw [aJk.mp z];exact jB.over ⟨aB,n1 _ _ (hs _ _ hl)⟩ hY1.lst
   ·rw [jY,ey,take_snoc hx,jY,aJj];show _++[_]=_++[Tb.iZ l0 l1 x.r]
    unfold Tb.iZ;rw [if_pos (show l0*x.r.b<x.r.t*l1 from c)]
    rfl
  ·
   refine ⟨_,rfl,uL,fun p hp=>?_⟩;have n1:=aG hp (.tup [.ref x.q,.int x.w]);have hY1:=hY.same n1;refine bB hm hi hY1.lst (by rw [refs_length]; exact aU (by omega)) ⟨_,_,ys++[⟨p,x.q,x.t,x.b,x.w⟩],rfl,(hs.trans n1).upd_new hD _,⟨?_,?_⟩,?_⟩
   ·rw [aB,mZ]
   ·intro y hy;rcases aJy.mp hy with z | z
    ·exact (hY1.rows y z).over hY1.lst
    ·rw [aJk.mp z];exact jB.over ⟨aB,n1 _ _ hr.2⟩ hY1.lst
   ·rw [jY,ey,take_snoc hx,jY,aJj];show _++[_]=_++[Tb.iZ l0 l1 x.r]
    unfold Tb.iZ;rw [if_neg (show ¬ l0*x.r.b<x.r.t*l1 from c)]
    rfl
 case done =>
 rintro τ H1 ⟨v0,v1,ys,rfl,s1,hY,ey⟩;have yl:=ylen ey;rw [hlr,aJw] at ey;have el:ys.length=xs.length:=by
  have h1:=congrArg aKr ey;rw [eG,aI8,eG] at h1;exact h1
 refine ⟨D,ys,rfl,hY,?_,by omega,RX g c f ey,hTb.same s1,fun r H5 zs s5 tb5 hr5 hZ o hzl=>?_⟩
 ·rintro rfl;exact g.ne (aKV.mp el.symm)
 ·rw [ey] at o;exact q r H5 zs ((s1.toT).trans s5) tb5 (s1.free hr5) hZ (Qg g f o (by omega)) o
theorem _root_.TD.GM.wz {es:List Ent}{k0:Nat}{W0 kk:Int}(g:GM es k0 W0 kk){e:Ent}(he:e∈es){y:Row}(hy:y∈e.ys):intBits y.w<=601:=by
 have ge:=g.g e he;have a:=ge.w1 y hy;have b:=mQ ge.w1 hy;have c:=ge.ws;have d:=(g.c e he).w;have p1:(2:Int)^601=2*2^600:=by rw [aKL]; omega
 have q1:=Sd.cI 600;exact nC (by omega) (by omega)
theorem JP {n:Nat}{f:Addr}{fd:FuncData}(F:dN K "mixed" "mixed" (top 22) f fd){aE7:Addr}{aEN:FuncData}(aE8:dY P w K mg base n "in_form" ["rows"] (Eo Pt eN) aE7 aEN){aBA:Addr}{S_:FuncData}(P_:dY P w K mg base n "all_weights" ["table"] RL aBA S_){J_:Addr}{F_:FuncData}(K_:dY P w K mg base n "common_multiple" ["numbers"] (QD K) J_ F_):aP P w K mg base cN (n+1) f fd ["rows"] (Ke Pt eN):=by
 refine F.ok Du (fun vs H Q E h=>?_) (fun cdv A outer s H vs Q E hr h=>?_)
 ·obtain ⟨a,es,k0,W0,kk,rfl,_⟩:=h
  rfl
 obtain ⟨a,es,k0,W0,kk,rfl,hE,g,hTb,q⟩:=h;have nd:=Du.nd;refine ⟨_,(aD (aY (i:=1) nd rfl (Or.inl rfl) (aJ K_ hr (aA (cD (ls:=["weight","table"]) (M:=["rows","scale","parts","weight#","table#","factor"]) rfl (bJ.of (by rfl)) (NL.of (by rfl)) (bO (pv 0)) (fun _ _ _ _=>⟨(iJ (K:=K) (n:=2) rfl rfl (bL (aQ (i:=0) (cH (by rfl)) rfl (Or.inl rfl)) (bL (aQ (i:=1) (cH (by rfl)) rfl (Or.inl rfl)) fK))),b7,(aJ P_ hr (aA (pv 1) aC))⟩)) aC))) (aD (aY (i:=2) nd rfl (Or.inl rfl) (iR aC)) (aD (eE PassesOwn.never rfl (bO (pv 0)) (wI rfl (bL (aQ (i:=3) nd rfl (Or.inl rfl)) (bL (aQ (i:=4) nd rfl (Or.inl rfl)) fK))) (aD (aY (i:=5) nd rfl (Or.inr rfl) (aW dO (pv 3) (aW gU (pv 1) (aJ P_ hr (aA (pv 4) aC))))) (aF (fU (lY PySem.F.plainAttrs_list PySem.F.slot_list_extend PySem.F.type_list_extend Io (pv 2) (aA (cD (ls:=["worth","inner"]) (M:=["rows","scale","parts","weight","table","factor"]) rfl (bJ.of (by rfl)) (NL.of (by rfl)) (bO (pv 4)) (fun _ _ _ _=>⟨(iJ (K:=K) (n:=2) rfl rfl (bL (aQ (i:=0) (cH (by rfl)) rfl (Or.inl rfl)) (bL (aQ (i:=1) (cH (by rfl)) rfl (Or.inl rfl)) fK))),b7,(cW (aA (pv 0) (aA (aW dO (pv 7) (pv 1)) aC)))⟩)) aC)))))) (aF (aO (aJ aE8 hr (aA (pv 2) aC))))))),?_⟩;have hlr:=qM es;have glen:=g.len;have tpos:∀ n∈cT es,0<n:=fun n hn=>(g.tp n hn).1;have tb:=g.tb;obtain ⟨Sp,_,Sz,Sdv⟩:=g.S;have k12:=g.k;have n12:=g.n;refine ⟨_,rfl,a,rfl,⟨_,bG.of hE.lst⟩,fun D hD=>?_⟩;refine bN (xs:=qN es) (fun i τ H'=>∃ v0 v1,τ = [v0,v1,some (.ref a),none,none,none,none,none]/\aN H H'/\H' D=some (.lst ((es.take i).map fun e=>V.int (wsum e.ys)))) ⟨none,none,rfl,aG hD _,aB⟩ ?keep ?turn ?done
 case keep =>
  rintro i τ H' hi ⟨v0,v1,rfl,hs,_⟩;exact bG.of (hE.same hs).lst
 case turn =>
  rintro i m v τ H' hm hi hv ⟨v0,v1,rfl,hs,hD'⟩;obtain ⟨e,he,rfl⟩:=DN hv;have hr:=(hE.same hs).ents e (aJg he);have ge:=g.g e (aJg he);refine ⟨e.p,_,rfl,cV.of hr.1,rfl,_,_,rfl,_,_,rfl,rfl,?_⟩;refine eO ?_;refine ⟨_,rfl,e.a,e.ys,rfl,hr.2,by have:=ge.len; omega,fun H2 s2=>?_⟩;refine bB hm hi (s2 _ _ hD') (by rw [aI8]; exact aU (aJc (aKn _ _) (by omega))) ⟨_,_,rfl,(hs.trans s2).upd_new hD _,?_⟩;rw [aB,take_snoc he,aJj]
  rfl
 case done =>
 rintro τ H1 ⟨v0,v1,rfl,s1,hD1⟩;rw [hlr,aJw] at hD1;refine ⟨D,cT es,rfl,bG.of (by rw [hD1]; unfold cT; rw [aJ0]; rfl),tpos,fun n hn=>aJc (tb.1 n hn) (by decide),aJc tb.2 (by decide),?_⟩;refine ⟨aJD _,fun Rp hRp=>?_⟩;have hRn:H Rp=none:=s1.free hRp;have s2:=s1.upd_new hRn (.lst []);refine ⟨_,rfl,a,rfl,⟨_,bG.of (hE.same s2).lst⟩,?_⟩;refine iU (xs:=qN es) (fun i σ H'=>∃ v3 v4 v5 xs,σ = [some (.ref a),some (.int (c7 (cT es))),some (.ref Rp),v3,v4,v5]/\aN H H'/\TabAt H' Rp xs/\dG xs=partsOf (c7 (cT es)) (es.take i)/\PB xs/\xs.length<=i*k0) ⟨none,none,none,[],rfl,s2,⟨aB,fun _ h=>nomatch h⟩,rfl,(fun _ h=>nomatch h),by rw [Nat.zero_mul]; exact aJd _⟩ ?keep2 ?turn2 ?done2
 case keep2 =>
  rintro i σ H' hi ⟨v3,v4,v5,xs,rfl,hs,_⟩;exact bG.of (hE.same hs).lst
 case turn2 =>
  rintro i v σ H' hv ⟨v3,v4,v5,xs,rfl,hs,hX,ex,pb,xl⟩;obtain ⟨e,he,rfl⟩:=DN hv;have hmem:=aJg he;have hi:=(aJl.mp he).1;have hr:=(hE.same hs).ents e hmem;have ge:=g.g e hmem;have gw:=g.w e hmem;have gl:=ge.len;have gs:=ge.tot;have tz:=tb.1 _ (aJe.mpr ⟨e,hmem,rfl⟩);have wz:intBits e.w<=64:=PySem.intBits_le_64 (by omega) (by omega);have fz:intBits (q9 (c7 (cT es)) e)<=64+2405:=PySem.intBits_mul_le wz (PySem.intBits_fdiv_le Sz);refine ⟨e.p,_,rfl,cV.of hr.1,rfl,_,_,rfl,_,_,rfl,rfl,?_⟩;refine ⟨_,rfl,_,rfl,_,rfl,e.a,e.ys,rfl,hr.2,by omega,fun H2 s2=>?_⟩;refine ⟨_,_,rfl,rfl,⟨by omega,aJc tz (by decide)⟩,_,_,rfl,rfl,gB (m:=64) (n:=2405) wz (PySem.intBits_fdiv_le Sz) (by decide),?_⟩;have hs2:=hs.trans s2;have hr2:=hr.2.same s2;refine ⟨_,rfl,.inl ⟨rfl,_,bG.of (hX.same s2).lst⟩,_,rfl,e.a,rfl,⟨_,bG.of hr2.lst⟩,fun D2 hD2=>?_⟩;refine bN (xs:=refs e.ys) (fun j τ H''=>∃ v0 v1 zs,τ = [v0,v1,some (.ref a),some (.int (c7 (cT es))),some (.ref Rp),some (.int e.w),some (.ref e.a),some (.int (q9 (c7 (cT es)) e))]/\aN H2 H''/\TabAt H'' D2 zs/\dG zs=(e.ys.take j).map (fun y=>⟨y.t,y.b,q9 (c7 (cT es)) e*y.w⟩)) ⟨none,none,[],rfl,aG hD2 _,⟨aB,fun _ h=>nomatch h⟩,rfl⟩ ?keep3 ?turn3 ?done3
  case keep3 =>
   rintro j τ H'' hj ⟨v0,v1,zs,rfl,hs3,_⟩;exact bG.of (hr2.same hs3).lst
  case turn3 =>
   rintro j m v τ H'' hm hj hv ⟨v0,v1,zs,rfl,hs3,hZ,ez⟩;obtain ⟨y,hy,rfl⟩:=nF hv;have hym:=aJg hy;have ry:=(hr2.same hs3).rows y hym;have yz:=g.wz hmem hym;have zl:zs.length<=12:=by
    have h:=congrArg aKr ez;rw [eG,aI8,aJz] at h;omega
   refine ⟨y.p,_,rfl,cV.of ry.1,rfl,_,_,rfl,_,_,rfl,rfl,?_⟩;refine eO ?_;refine ⟨_,rfl,_,rfl,_,rfl,_,_,rfl,rfl,gB fz yz (by decide),uL,fun p hp=>?_⟩;have n1:=aG hp (.tup [.ref y.q,.int (q9 (c7 (cT es)) e*y.w)]);have hZ1:=hZ.same n1;refine bB hm hj hZ1.lst (by rw [refs_length]; exact aU (by omega)) ⟨_,_,zs++[⟨p,y.q,y.t,y.b,q9 (c7 (cT es)) e*y.w⟩],rfl,(hs3.trans n1).upd_new hD2 _,⟨?_,?_⟩,?_⟩
   ·rw [aB,mZ]
   ·intro z hz;rcases aJy.mp hz with q1 | q1
    ·exact (hZ1.rows z q1).over hZ1.lst
    ·rw [aJk.mp q1];exact jB.over ⟨aB,n1 _ _ ry.2⟩ hZ1.lst
   ·rw [jY,ez,take_snoc hy,aJj]
    rfl
  case done3 =>
   rintro τ H3 ⟨v0,v1,zs,rfl,s3,hZ,ez⟩;rw [refs_length,aJw] at ez;have zl:zs.length=e.ys.length:=by
    have h:=congrArg aKr ez;rw [eG,aI8] at h;exact h
   have hX3:=hX.same (s2.trans s3);have il:i*k0<=es.length*k0:=aKJ _ (by omega);refine ⟨Rp,D2,refs xs,refs zs,rfl,rfl,hX3.lst,hZ.lst,by rw [refs_length,refs_length]; exact aJH (aU (by omega)),?_⟩;have s4:aN H (aX H3 Rp (.lst (refs xs++refs zs))):=(hs2.trans s3).upd_new hRn _;refine ⟨_,_,_,xs++zs,rfl,s4,⟨?_,?_⟩,?_,?_,?_⟩
   ·rw [aB];unfold refs;rw [aJj]
   ·intro z hz;rcases aJy.mp hz with q1 | q1
    ·exact (hX3.rows z q1).over hX3.lst
    ·exact (hZ.rows z q1).over hX3.lst
   ·rw [Ef,ex,ez,take_snoc he,zL]
   ·intro z hz;rcases aJy.mp hz with q1 | q1
    ·exact pb z q1
    ·have m:z.r∈dG zs:=aJe.mpr ⟨z,q1,rfl⟩;rw [ez] at m;obtain ⟨y,hy,ey⟩:=aJe.mp m;have e1:y.t=z.t:=congrArg Tb.Rw.t ey;have e2:y.b=z.b:=congrArg Tb.Rw.b ey;have e3:q9 (c7 (cT es)) e*y.w=z.w:=congrArg Tb.Rw.w ey;rw [<- e1,<- e2,<- e3];exact g.pb hmem hy
   ·rw [aJv,aLy];omega
 case done2 =>
  rintro σ H4 ⟨v3,v4,v5,xs,rfl,s4,hX,ex,pb,xl⟩;rw [hlr,aJw] at ex;rw [hlr] at xl;refine ⟨_,rfl,Rp,xs,rfl,hX,?_,by omega,pb,hTb.same s4,fun r H5 ys s5 tb5 hr5 hY o hyl=>?_⟩
  ·rintro rfl;have ex:([]:List Tb.Rw)=partsOf (c7 (cT es)) es:=ex;cases hes:es with
   | nil=>exact g.ne hes
   | cons e es' =>
    have ge:=g.g e (by rw [hes]; exact aJa);cases hys:e.ys with
    | nil=>exact ge.ne hys
    | cons y ys =>
     have z:Tb.uV (partsOf (c7 (cT es)) es) y.t y.b:=by
      rw [hes];exact Tb.lJ.mpr (.inl ⟨⟨y.t,y.b,_⟩,aJe.mpr ⟨y,by rw [hys]; exact aJa,rfl⟩,rfl,rfl⟩)
     rw [<- ex] at z;exact Tb.uZ z
  ·rw [ex] at o;exact q r H5 ys ((s4.toT).trans s5) tb5 (s4.free hr5) hY (g.out o (by omega)) o (by rw [<- ex,eG]; exact hyl)
theorem zU {n:Nat}{f:Addr}{fd:FuncData}(F:dN K "level_for" "level_for" (top 23) f fd){aH0:Addr}{aHp:FuncData}(aH1:dY P w K mg base n "share" ["top","bottom"] zQ aH0 aHp){aBA:Addr}{S_:FuncData}(P_:dY P w K mg base n "all_weights" ["table"] RL aBA S_){J_:Addr}{F_:FuncData}(K_:dY P w K mg base n "common_multiple" ["numbers"] (QD K) J_ F_)(aEO:mg "reversed" = none):aP P w K mg base cN (n+1) f fd ["table","price"] PL:=by
 refine F.ok qY (fun vs H Q E h=>?_) (fun cdv A outer s H vs Q E hr h=>?_)
 ·obtain ⟨a,xs,p,n,W,kk,rfl,_⟩:=h
  rfl
 obtain ⟨a,xs,p,n,W,kk,rfl,hT,g,c,so,p0,p9,q⟩:=h;have nd:=qY.nd;refine ⟨_,(aD (aY (i:=2) nd rfl (Or.inl rfl) (aJ K_ hr (aA (cD (ls:=["worth","weight"]) (M:=["table","price","bottom","tops","weights","worth#","weight#","top"]) rfl (bJ.of (by rfl)) (NL.of (by rfl)) (bO (pv 0)) (fun _ _ _ _=>⟨(iJ (K:=K) (n:=2) rfl rfl (bL (aQ (i:=0) (cH (by rfl)) rfl (Or.inl rfl)) (bL (aQ (i:=1) (cH (by rfl)) rfl (Or.inl rfl)) fK))),b7,(bQ (lD (K:=K) rfl) (pv 0) aH (fun _ _=>rfl))⟩)) aC))) (aD (aY (i:=3) nd rfl (Or.inl rfl) (aW dO (aW dO (Ol Kz (pv 1)) (aJ P_ hr (aA (pv 0) aC))) (pv 2))) (aD (aY (i:=4) nd rfl (Or.inl rfl) aH) (aD (eE PassesOwn.never rfl (RK rfl aEO (aA (pv 0) aC)) (wI rfl (bL (aQ (i:=5) nd rfl (Or.inl rfl)) (bL (aQ (i:=6) nd rfl (Or.inl rfl)) fK))) (aD (aY (i:=7) nd rfl (Or.inl rfl) (aW dO (bQ cQ (pv 5) aH (fun _ _=>rfl)) (aW gU (pv 2) (bQ cQ (pv 5) aH (fun _ _=>rfl))))) (aD (bZ (PW.pt (rW (bV GC (pv 4) aH (bW _)) (pL (bV mL (aW dO (pv 7) (pv 4)) (pv 3) (bW _))))) (aF Ks) bA) (aD (aY (i:=3) nd rfl (Or.inl rfl) (aW eY (pv 3) (aW dO (pv 6) (pv 7)))) (aF (aY (i:=4) nd rfl (Or.inl rfl) (aW eY (pv 4) (pv 6)))))))) (aF (aO (aJ aH1 hr (aA (pv 3) (aA (aW dO (pv 4) (pv 2)) aC))))))))),?_⟩;have hlr:=refs_length xs;have hrl:=eG xs;have glen:=g.len;have gn:=c.n;have tab:=g.tab so;have wt1:=g.tot;have wt2:=g.ws;have wt3:=c.w;have lm:0<bY xs/\bY xs<=2^1600:=⟨g.mp,c.m⟩
 have p601:(2:Int)^601=2*2^600:=by rw [aKL]; omega
 have p600:=Sd.cI 600;have p1601:(2:Int)^1601=2*2^1600:=by rw [aKL]; omega
 have glz:intBits (bY xs)<=1601:=nC (by omega) (by omega);have wsz:∀ z:Int,0<=z->z<=wsum xs->intBits z<=601:=fun z h1 h2=>nC (by omega) (by omega);have nz:0<xs.length:=by
  rcases aLb xs.length with z | z
  ·exact absurd (aKV.mp z) g.ne
  ·exact z
 have b1:∀ x:Int,0<=x->x<=1000000000->intBits x<=64:=fun x h1 h2=>PySem.intBits_le_64 (by omega) (by omega);have bpos:∀ n∈xs.map Row.b,0<n:=fun n hn=>by
  obtain ⟨x,hx,rfl⟩:=aJe.mp hn;exact (g.fq x hx).fr.pos
 refine ⟨_,rfl,a,rfl,⟨_,bG.of hT.lst⟩,fun D hD=>?_⟩;refine bN (xs:=refs xs) (fun i τ H'=>∃ v0 v1,τ = [v0,v1,some (.ref a),some (.int p),none,none,none,none,none,none]/\aN H H'/\H' D=some (.lst ((xs.take i).map fun x=>V.int x.b))) ⟨none,none,rfl,aG hD _,aB⟩ ?keep ?turn ?done
 case keep =>
  rintro i τ H' hi ⟨v0,v1,rfl,hs,_⟩;exact bG.of (hT.same hs).lst
 case turn =>
  rintro i m v τ H' hm hi hv ⟨v0,v1,rfl,hs,hD'⟩;obtain ⟨x,hx,rfl⟩:=nF hv;have hr:=(hT.same hs).rows x (aJg hx);refine ⟨x.p,_,rfl,cV.of hr.1,rfl,_,_,rfl,_,_,rfl,rfl,?_⟩;refine eO ?_;refine ⟨_,rfl,x.q,_,_,_,rfl,rfl,cV.of hr.2,rfl,?_⟩;refine bB hm hi hD' (by rw [aI8]; exact aU (aJc (aKn _ _) (by omega))) ⟨_,_,rfl,hs.upd_new hD _,?_⟩;rw [aB,take_snoc hx,aJj]
  rfl
 case done =>
 rintro τ H1 ⟨v0,v1,rfl,s1,hD1⟩;rw [hlr,aJw] at hD1;have b9:∀ n∈xs.map Row.b,intBits n<=1601:=fun n hn=>by
  obtain ⟨x,hx,rfl⟩:=aJe.mp hn;exact (g.bits c hx).1
 have b10:((xs.map Row.b).map intBits).sum<=200000:=by
  have h:=o8 (k:=1601) (l:=(xs.map Row.b).map intBits) fun n hn=>by
   obtain ⟨z,hz,rfl⟩:=aJe.mp hn;exact b9 z hz
  rw [aI8,aI8] at h;omega
 refine ⟨D,xs.map Row.b,rfl,bG.of (by rw [hD1,aJ0]; rfl),bpos,fun n hn=>aJc (b9 n hn) (by decide),b10,?_⟩;have hT1:=hT.same s1;refine ⟨_,rfl,_,rfl,_,rfl,a,xs,rfl,hT1,by omega,fun H2 s2=>⟨_,_,rfl,rfl,gB (m:=64) (n:=601) (PySem.intBits_neg_le (b1 p p0 p9)) (wsz _ (by omega) (aJO _)) (by decide),_,rfl,_,_,rfl,rfl,gB (m:=64+601) (n:=1601) (PySem.intBits_mul_le (PySem.intBits_neg_le (b1 p p0 p9)) (wsz _ (by omega) (aJO _))) glz (by decide),?_⟩⟩;have hT2:=hT1.same s2;have gw2:=wt1;rw [sE] at gw2;have P0:0<=p*Tb.W (dG xs)*bY xs:=aKi (aKi p0 (by omega)) (aJn tab.cm.pos);have fin:∀ (i:Nat) (tops ws:Int) (v5 v6 v7:Option V),0<i->Tb.Lp (bY xs) (p*Tb.W (dG xs)*bY xs) (dG xs) i tops ws ->
   (i=(dG xs).length∨∃ r,(dG xs)[(dG xs).length-1-i]? = some r/\i<(dG xs).length/\Tb.T (bY xs) r*ws<=tops) ->
   Vw (Ci zQ [] E0 (yF (Hm 3) (yF (Uz (rI K5 fun i j=>.int (i*j)) (Hm 4) (Hm 2)) qR))) { nx:=fun _ H'=>Q .non H',rt:=Q } [some (.ref a),some (.int p),some (.int (bY xs)),some (.int tops),some (.int ws),v5,v6,v7] H2:=by
  intro i tops ws v5 v6 v7 hi L stop;have wp:=L.ws_pos tab hi;obtain ⟨w0,wl,tlo,thi⟩:=g.lp c.k0 p0 L;have wz:=wsz ws w0 wl;have ne:ws*bY xs≠0:=aJL (aKh wp tab.cm.pos);refine ⟨_,rfl,_,rfl,_,rfl,_,_,rfl,rfl,gB wz glz (by decide),tops,ws*bY xs,rfl,ne,aJc (PySem.intBits_mul_le wz glz) (by decide),fun r H' s' hr'=>?_⟩;have kp:0<=(p+kk)*wsum xs:=aKi (by have:=c.k0; omega) (by omega);exact q r H' (Fr.sh tops (ws*bY xs)) ws ((s1.trans s2).trans s') hr' (by omega) wl (RD (by omega) lm.1 kp tlo thi) (L.ends tab hi stop (Fr.Fi ne) (Fr.qL tops (ws*bY xs)))
 refine ⟨_,rfl,a,refs xs,rfl,bG.of hT2.lst,?_⟩;refine O2 (fun i σ H'=>∃ tops ws v5 v6 v7,σ = [some (.ref a),some (.int p),some (.int (bY xs)),some (.int tops),some (.int ws),v5,v6,v7]/\H'=H2/\Tb.Lp (bY xs) (p*Tb.W (dG xs)*bY xs) (dG xs) i tops ws) ?start (fun i σ H' _ ⟨_,_,_,_,_,_,e,_⟩=>by subst e; exact bG.of hT2.lst) ?turn2 ?done2
 case start =>
  refine ⟨_,_,none,none,none,rfl,rfl,?_⟩;have e:-p*wsum xs*bY xs = -(p*Tb.W (dG xs)*bY xs):=by rw [sE]; grind
  show Tb.Lp _ _ _ 0 (-p*wsum xs*bY xs) 0;rw [e];exact Tb.Lp.start P0
 case turn2 =>
  rintro i v σ H' hi hv ⟨tops,ws,v5,v6,v7,rfl,rfl,L⟩;obtain ⟨x,hx,rfl⟩:=nF hv;have hmem:=aJg hx;have hr:=hT2.rows x hmem;have xp:=(g.fq x hmem).fr.pos;have xbz:=g.bits c hmem;rw [hlr] at hi hx;have hx':(dG xs)[(dG xs).length-1-i]? = some x.r:=by rw [hrl]; unfold dG; rw [aJh,hx]; rfl
  have tT:x.t*(bY xs).fdiv x.b=Tb.T (bY xs) x.r:=by
   unfold Tb.T;rw [aJ6 _ (aJn xp)]
   rfl
  have tz:intBits (x.t*(bY xs).fdiv x.b)<=3201+1601:=PySem.intBits_mul_le xbz.2 (PySem.intBits_fdiv_le glz);obtain ⟨w0,wl,tlo,thi⟩:=g.lp c.k0 p0 L;have wz:=wsz ws w0 wl;have xw:=wsz x.w (by have:=g.w1 x hmem; omega) (mQ g.w1 hmem);refine ⟨x.p,_,rfl,cV.of hr.1,rfl,_,_,rfl,_,_,rfl,rfl,?_⟩;refine ⟨_,rfl,x.q,_,_,_,rfl,rfl,cV.of hr.2,rfl,_,rfl,_,rfl,x.q,_,_,_,rfl,rfl,cV.of hr.2,rfl,_,_,rfl,rfl,⟨aJL xp,by omega⟩,_,_,rfl,rfl,gB xbz.2 (PySem.intBits_fdiv_le glz) (by decide),?_⟩;refine ⟨_,rfl,_,_,rfl,rfl,_,rfl,?_⟩;have go:¬ (0<ws/\Tb.T (bY xs) x.r*ws<=tops)->∃ tops' ws' v5 v6 v7,[some (V.ref a),some (.int p),some (.int (bY xs)),some (.int (tops+x.w*(x.t*(bY xs).fdiv x.b))),some (.int (ws+x.w)),some (.ref x.q),some (.int x.w),some (.int (x.t*(bY xs).fdiv x.b))]=[some (.ref a),some (.int p),some (.int (bY xs)),some (.int tops'),some (.int ws'),v5,v6,v7]/\H'=H'/\Tb.Lp (bY xs) (p*Tb.W (dG xs)*bY xs) (dG xs) (i+1) tops' ws':=fun h=>by
   have L2:=L.next tab P0 (by rw [hrl]; exact hi) hx' h;rw [<- tT] at L2;exact ⟨_,_,_,_,_,rfl,rfl,L2⟩
  by_cases hw:0<ws
  ·refine m5 (decide_eq_true hw) ?_;refine ⟨_,rfl,_,rfl,_,_,rfl,rfl,gB tz wz (by decide),_,rfl,_,_,rfl,rfl,_,rfl,?_⟩
   by_cases hb:x.t*(bY xs).fdiv x.b*ws<=tops
   ·refine m5 (decide_eq_true hb) ?_;have ip:0<i:=by
     rcases aLb i with z | z
     ·subst z;have a0:=L.ew;simp [Tb.W] at a0;omega
     ·exact z
    exact fin i tops ws _ _ _ ip L (.inr ⟨x.r,hx',by rw [hrl]; exact hi,by rw [<- tT]; exact hb⟩)
   ·refine mY (decide_eq_false hb) ?_;refine ⟨_,rfl,_,rfl,_,rfl,_,_,rfl,rfl,gB xw tz (by decide),_,_,rfl,rfl,?_⟩;refine ⟨_,rfl,_,rfl,_,_,rfl,rfl,?_⟩;exact go fun z=>hb (by rw [tT]; exact z.2)
  ·refine mY (decide_eq_false hw) ?_;refine dM ?_;refine ⟨_,rfl,_,rfl,_,rfl,_,_,rfl,rfl,gB xw tz (by decide),_,_,rfl,rfl,?_⟩;refine ⟨_,rfl,_,rfl,_,_,rfl,rfl,?_⟩;exact go fun z=>hw z.1
 case done2 =>
  rintro σ H' ⟨tops,ws,v5,v6,v7,rfl,rfl,L⟩;rw [hlr] at L;exact fin xs.length tops ws v5 v6 v7 nz L (.inl hrl.symm)
theorem wN {n:Nat}{f:Addr}{fd:FuncData}(F:dN K "ends" "Stand.ends" (inClass (top 30) 1) f fd){c:Cs}(ck:CK K c):aP P w K mg base cN (n+1) f fd ["self"] (Lk c):=by
 refine F.ok oM (fun vs H Q E h=>?_) (fun cdv A outer s H vs Q E hr h=>?_)
 ·obtain ⟨x,s,d,m,rfl,_⟩:=h
  rfl
 obtain ⟨x,s,d,m,rfl,st,q⟩:=h;have nd:=oM.nd;refine ⟨_,(aF (aO (dI (pv 0) rfl))),?_⟩;cases st with
 | en h vv ok=>exact ⟨_,rfl,x,c.e,_,_,_,rfl,h,ck.ce,ck.e1,rfl,q _ vv.n1 vv.nm vv.nx⟩
 | st h vv g lp ly row sub p0 p9 ne l4 w hk=>exact ⟨_,rfl,x,c.s,_,_,_,rfl,h,ck.cs,ck.s1,rfl,q _ vv.n1 vv.nm vv.nx⟩
theorem uK {n:Nat}{f:Addr}{fd:FuncData}(F:dN K "stages" "Stand.stages" (inClass (top 30) 2) f fd){c:Cs}(ck:CK K c):aP P w K mg base cN (n+1) f fd ["self"] (Ls c):=by
 refine F.ok lK (fun vs H Q E h=>?_) (fun cdv A outer s H vs Q E hr h=>?_)
 ·obtain ⟨x,s,d,m,rfl,_⟩:=h
  rfl
 obtain ⟨x,s,d,m,rfl,st,q⟩:=h;have nd:=lK.nd;refine ⟨_,(aF (aO (dI (pv 0) rfl))),?_⟩;cases st with
 | en h vv ok=>exact ⟨_,rfl,x,c.e,_,_,_,rfl,h,ck.ce,ck.e2,rfl,q _ vv.k0 vv.kd vv.kx⟩
 | st h vv g lp ly row sub p0 p9 ne l4 w hk=>exact ⟨_,rfl,x,c.s,_,_,_,rfl,h,ck.cs,ck.s2,rfl,q _ vv.k0 vv.kd vv.kx⟩
theorem xC {n:Nat}{f:Addr}{fd:FuncData}(F:dN K "caps" "Stand.caps" (inClass (top 30) 4) f fd){c:Cs}(ck:CK K c)(o_:mg "list" = none):aP P w K mg base cN (n+1) f fd ["self"] (JV c):=by
 refine F.ok oK (fun vs H Q E h=>?_) (fun cdv A outer s H vs Q E hr h=>?_)
 ·obtain ⟨x,s,d,m,rfl,_⟩:=h
  rfl
 obtain ⟨x,s,d,m,rfl,st,q⟩:=h;have nd:=oK.nd;refine ⟨_,(aF (aO (cY pG rfl o_ jG (aA (dI (pv 0) rfl) aC)))),?_⟩;cases st with
 | @en _ _ l cp v n' k' _ _ xs h vv ok =>
  refine ⟨_,rfl,x,c.e,_,_,_,rfl,h,ck.ce,ck.e4,rfl,?_⟩;refine ⟨cp,_,rfl,.inr (cV.of vv.caps.1),fun r hr0=>?_⟩;have n1:=aG hr0 (.lst (refs xs));exact q r _ xs n1 hr0 ⟨aB,fun y hy=>(vv.caps.2 y hy).same n1⟩ vv.gs vv.so ⟨_,vv.mt,vv.lw⟩
 | @st _ _ l cp r0 p n' k' lv _ _ j xs rs ps ys h vv g lp ly row sub p0 p9 ne l4 w hk =>
  refine ⟨_,rfl,x,c.s,_,_,_,rfl,h,ck.cs,ck.s4,rfl,?_⟩;refine ⟨cp,_,rfl,.inr (cV.of vv.caps.1),fun r hr0=>?_⟩;have n1:=aG hr0 (.lst (refs xs));exact q r _ xs n1 hr0 ⟨aB,fun y hy=>(vv.caps.2 y hy).same n1⟩ vv.gs vv.so ⟨_,vv.mt,vv.lw⟩
theorem pZ {n:Nat}{f:Addr}{fd:FuncData}(F:dN K "__init__" "Stand.__init__" (inClass (top 30) 0) f fd){c:Cs}(ck:CK K c)(h_:mg "tuple" = none):aP P w K mg base cN (n+1) f fd ["self","end_count","stage_count","level","cap_rows"] (Kw c):=by
 refine F.ok jN (fun vs H Q E h=>?_) (fun cdv A outer s H vs Q E hr h=>?_)
 ·obtain ⟨x,dx,C,l,a,n1,k1,xs,rfl,_⟩:=h
  rfl
 obtain ⟨x,dx,C,l,a,n1,k1,xs,rfl,hC,hx,hT,q⟩:=h;have nd:=jN.nd;refine ⟨_,(aD (dF (pv 0) (pv 1) rfl) (aD (dF (pv 0) (pv 2) rfl) (aD (dF (pv 0) (pv 3) rfl) (aF (dF (pv 0) (cY (cL (K:=K) rfl) rfl h_ eV (aA (pv 4) aC)) rfl))))),?_⟩;have cC:tK K C/\cA K C "end_count"/\cA K C "stage_count"/\cA K C "level"/\cA K C "cap_rows":=by
  rcases hC with e | e <;> subst e
  ·exact ⟨ck.ce,ck.e1,ck.e2,ck.e3,ck.e4⟩
  ·exact ⟨ck.cs,ck.s1,ck.s2,ck.s3,ck.s4⟩
 have nax:a≠x:=bI hT.lst hx fun z=>nomatch z
 refine ⟨_,rfl,_,rfl,x,C,dx,[],rfl,hx,cC.1,cC.2.1,(by show _<1000; decide),?_⟩;refine ⟨_,rfl,_,rfl,x,C,dx,_,rfl,aB,cC.1,cC.2.2.1,(by show 1<1000; decide),?_⟩;refine ⟨_,rfl,_,rfl,x,C,dx,_,rfl,aB,cC.1,cC.2.2.2.1,(by show 2<1000; decide),?_⟩;refine ⟨_,rfl,a,_,rfl,.inl ⟨bG.of (by rw [aK nax,aK nax,aK nax]; exact hT.lst),fun t ht=>?_⟩⟩;have htx:t≠x:=fun e=>by rw [e,aB] at ht; cases ht
 refine ⟨_,rfl,x,C,dx,_,rfl,by rw [aK (Ne.symm htx)]; exact aB,cC.1,cC.2.2.2.2,(by show 3<1000; decide),?_⟩;rw [aK htx,aK htx,aK htx] at ht;refine q t _ ht (fun b o nb e=>?_) aB ?_
 ·rw [aK nb,aK (aV e ht),aK nb,aK nb,aK nb];exact e
 ·rw [aK htx];exact aB
theorem CJ {n:Nat}{f:Addr}{fd:FuncData}(F:dN K "is_whole" "is_whole" (top 8) f fd)(a_:mg "isinstance" = none)(aD9:mg "bool" = none)(aEk:mg "int" = none):aP P w K mg base cN (n+1) f fd ["thing","least","most"] pA:=by
 refine F.ok tE (fun vs H Q E h=>?_) (fun cdv A outer s H vs Q E hr h=>?_)
 ·obtain ⟨v,lo,hi,b,rfl,_⟩:=h
  rfl
 obtain ⟨v,lo,hi,b,rfl,h,q⟩:=h;have nd:=tE.nd;refine ⟨_,(aF (aO (oY (aR (cO (T:="int")) rfl a_ bC (aA (pv 0) (aA (d7 (v:=.ty "int") rfl aEk Ar rfl) aC))) (oY (Fp (aR (cO (T:="bool")) rfl a_ bC (aA (pv 0) (aA (d7 (v:=.ty "bool") rfl aD9 Ax rfl) aC)))) (mR (Jq mL mL (pv 1) (pv 0) (pv 2))))))),?_⟩;cases h with
 | no h =>
  obtain ⟨t,ht,hk⟩:=h K;refine ⟨_,rfl,_,_,_,rfl,ht,hk,_,rfl,?_⟩;exact dM q
 | bl c =>
  refine ⟨_,rfl,_,_,_,rfl,.bl c,zV,_,rfl,?_⟩;refine fQ ?_;refine ⟨_,rfl,_,_,_,rfl,.bl c,fD _,_,rfl,?_⟩;refine ⟨_,rfl,?_⟩;exact dM q
 | int i =>
  refine ⟨_,rfl,_,_,_,rfl,.int i,fD _,_,rfl,?_⟩;refine fQ ?_;refine ⟨_,rfl,_,_,_,rfl,.int i,zR,_,rfl,?_⟩;refine ⟨_,rfl,?_⟩;refine fQ ?_;refine ⟨_,rfl,_,rfl,_,_,rfl,rfl,_,rfl,?_⟩
  by_cases h1:lo<=i
  ·refine m5 (decide_eq_true h1) ?_;refine ⟨_,rfl,_,_,rfl,rfl,?_⟩;rw [decide_eq_true h1] at q;exact q
  ·refine mY (decide_eq_false h1) ?_;rw [decide_eq_false h1] at q;exact q
theorem Bm {n:Nat}{f:Addr}{fd:FuncData}(F:dN K "is_stand" "is_stand" (top 33) f fd){c:Cs}(ck:CK K c)(ct:CT K c)(cn:CN K c)(aFY:mg "End" = some (.ref c.e))(aEF:mg "Stage" = some (.ref c.s))(a_:mg "isinstance" = none):aP P w K mg base cN (n+1) f fd ["thing"] (Lf c K):=by
 refine F.ok tX (fun vs H Q E h=>?_) (fun cdv A outer s H vs Q E hr h=>?_)
 ·obtain ⟨v,b,rfl,_⟩:=h
  rfl
 obtain ⟨v,b,rfl,h,q⟩:=h;have nd:=tX.nd;refine ⟨_,(aF (aO (Kf (aR (gA (K:=K) rfl) rfl a_ bC (aA (pv 0) (aA (cM (v:=.ref c.e) rfl aFY rfl) aC))) (mR (aR (gA (K:=K) rfl) rfl a_ bC (aA (pv 0) (aA (cM (v:=.ref c.s) rfl aEF rfl) aC))))))),?_⟩;cases h with
 | yes st =>
  cases st with
  | en h vv ok =>
   refine ⟨_,rfl,_,c.e,.ref c.e,true,rfl,.ins h ck.ce ct.ea ct.hn ct.htk ct.em,ct.ee,?_⟩;refine ⟨_,rfl,?_⟩;refine fQ ?_;exact q
  | st h vv g lp ly row sub p0 p9 ne l4 w hk =>
   refine ⟨_,rfl,_,c.e,.ref c.s,false,rfl,.ins h ck.cs ct.sa ct.hn ct.htk ct.sm,ct.se,?_⟩;refine ⟨_,rfl,?_⟩;refine dM ?_;exact ⟨_,rfl,_,c.s,.ref c.s,true,rfl,.ins h ck.cs ct.sa ct.hn ct.htk ct.sm,ct.ss,q⟩
 | no h ht =>
  have z:=cn.all _ ht;refine ⟨_,rfl,_,c.e,_,false,rfl,h,z.1,?_⟩;refine ⟨_,rfl,?_⟩;refine dM ?_;exact ⟨_,rfl,_,c.s,_,false,rfl,h,z.2,q⟩
theorem uH {n:Nat}{f:Addr}{fd:FuncData}(F:dN K "is_stage_row" "is_stage_row" (top 34) f fd){c:Cs}{aEP:Addr}{aEn:FuncData}(aEQ:dY P w K mg base n "is_stand" ["thing"] (Lf c K) aEP aEn){m_:Addr}{k_:FuncData}(n_:dY P w K mg base n "is_whole" ["thing","least","most"] pA m_ k_)(l_:mg "len" = none)(a_:mg "isinstance" = none)(h_:mg "tuple" = none){aEI:Value}(aBI:mg "MOST_WEIGHT" = some aEI)(aBN:RelV (.int 1000) aEI):aP P w K mg base cN (n+1) f fd ["row"] (GP c K):=by
 refine F.ok lL (fun vs H Q E h=>?_) (fun cdv A outer s H vs Q E hr h=>?_)
 ·obtain ⟨v,b,rfl,_⟩:=h
  rfl
 obtain ⟨v,b,rfl,h,q⟩:=h;have nd:=lL.nd;refine ⟨_,(aD (bZ (PW.pt (iB (cG (bD (aR (cO (T:="tuple")) rfl a_ bC (aA (pv 0) (aA (d7 (v:=.ty "tuple") rfl h_ eV rfl) aC))))) (fW (bV Jd (aR bU rfl l_ fV (aA (pv 0) aC)) aH (bW _))))) (aF (aO gH)) bA) (aF (aO (oY (aJ n_ hr (aA (bQ cQ (pv 0) aH (fun _ _=>rfl)) (aA aH (aA (cM (v:=.int 1000) rfl aBI aBN) aC)))) (mR (aJ aEQ hr (aA (bQ cQ (pv 0) aH (fun _ _=>rfl)) aC))))))),?_⟩;cases h with
 | no ht hk =>
  refine ⟨_,rfl,_,_,_,rfl,ht,hk,_,rfl,?_⟩;exact fQ (fQ q)
 | @len a xs e hl =>
  refine ⟨_,rfl,_,_,_,rfl,.tup e,fD _,_,rfl,?_⟩;refine dM ?_;refine ⟨_,rfl,a,_,rfl,.inr (cV.of e),rfl,_,rfl,?_⟩;refine m5 ?_ q;rw [decide_eq_false (fun z=>hl (by injection z with z; omega))]
  rfl
 | @two a x y b1 b2 e hx hy =>
  refine ⟨_,rfl,_,_,_,rfl,.tup e,fD _,_,rfl,?_⟩;refine dM ?_;refine ⟨_,rfl,a,_,rfl,.inr (cV.of e),rfl,_,rfl,?_⟩;refine dM ?_;refine ⟨_,rfl,a,_,_,_,rfl,rfl,cV.of e,rfl,x,1,1000,b1,rfl,hx,_,rfl,?_⟩;cases b1 with
  | false=>exact dM q
  | true =>
   refine fQ ?_;exact ⟨_,rfl,a,_,_,_,rfl,rfl,cV.of e,rfl,y,b2,rfl,hy,q⟩
theorem rT {n:Nat}{f:Addr}{fd:FuncData}(F:dN K "is_stage_rows" "is_stage_rows" (top 35) f fd){c:Cs}{aFx:Addr}{aFn:FuncData}(aFy:dY P w K mg base n "is_stage_row" ["row"] (GP c K) aFx aFn)(aD6:mg "all" = none)(l_:mg "len" = none)(a_:mg "isinstance" = none)(o_:mg "list" = none){W_:Value}(L_:mg "MOST_STAGE_ROWS" = some W_)(M_:RelV (.int 4) W_):aP P w K mg base cN (n+1) f fd ["rows"] (Cg c K):=by
 refine F.ok j6 (fun vs H Q E h=>?_) (fun cdv A outer s H vs Q E hr h=>?_)
 ·obtain ⟨v,b,rfl,_⟩:=h
  rfl
 obtain ⟨v,b,rfl,h,q⟩:=h;have nd:=j6.nd;refine ⟨_,(aD (bZ (PW.pt (iB (cG (bD (aR (cO (T:="list")) rfl a_ bC (aA (pv 0) (aA (d7 (v:=.ty "list") rfl o_ jG rfl) aC))))) (fW (cG (vL mL mL aH (aR bU rfl l_ fV (aA (pv 0) aC)) (cM (v:=.int 4) rfl L_ M_)))))) (aF (aO gH)) bA) (aF (aO (aR (j7 rfl rfl) rfl aD6 wK (aA (cD (ls:=["row"]) (M:=["rows"]) rfl (bJ.of (by rfl)) (NL.of (by rfl)) (bO (pv 0)) (fun _ _ _ _=>⟨(aQ (i:=0) (cH (by rfl)) rfl (Or.inl rfl)),b7,(aJ aFy hr (aA (pv 0) aC))⟩)) aC))))),?_⟩;cases h with
 | no h =>
  obtain ⟨t,ht,hk⟩:=h K;refine ⟨_,rfl,_,_,_,rfl,ht,hk,_,rfl,?_⟩;exact fQ (fQ (q H (aN.refl _)))
 | @len a xs e hl =>
  refine ⟨_,rfl,_,_,_,rfl,.lst e,fD _,_,rfl,?_⟩;refine dM ?_;refine ⟨_,rfl,a,_,rfl,.inl (bG.of e),_,_,rfl,rfl,_,rfl,?_⟩
  by_cases h1:1<=xs.length
  ·refine m5 (decide_eq_true (show (1:Int)<=_ by omega)) ?_;refine ⟨_,_,rfl,rfl,_,rfl,?_⟩;refine m5 ?_ (q H (aN.refl _));rw [decide_eq_false (show ¬ (xs.length:Int)<=4 by omega)]
   rfl
  ·refine mY (decide_eq_false (show ¬ (1:Int)<=_ by omega)) ?_;refine ⟨_,rfl,?_⟩;exact fQ (q H (aN.refl _))
 | @all a xs bs e h1 h8 hb h =>
  refine ⟨_,rfl,_,_,_,rfl,.lst e,fD _,_,rfl,?_⟩;refine dM ?_;refine ⟨_,rfl,a,_,rfl,.inl (bG.of e),_,_,rfl,rfl,_,rfl,?_⟩;refine m5 (decide_eq_true (show (1:Int)<=_ by omega)) ?_;refine ⟨_,_,rfl,rfl,_,rfl,?_⟩;refine mY (by rw [decide_eq_true (show (xs.length:Int)<=4 by omega)]; rfl) ?_;refine ⟨_,rfl,a,rfl,⟨_,bG.of e⟩,fun D hD=>?_⟩;refine bN (xs:=xs) (fun i τ H'=>∃ v0,τ = [v0,some (.ref a)]/\aN H H'/\H' D=some (.lst ((bs.take i).map V.bl))) ⟨none,rfl,aG hD _,aB⟩ ?keep ?turn ?done
  case keep =>
   rintro i τ H' hi ⟨v0,rfl,hs,_⟩;exact bG.of (hs _ _ e)
  case turn =>
   rintro i m v τ H' hm hi hv ⟨v0,rfl,hs,hD'⟩;have hib:i<bs.length:=by omega
   have eb:bs[i]? = some (bs.getD i false):=by rw [aI7 hib,getD_at hib]
   refine rQ ?_;refine ⟨_,rfl,v,bs.getD i false,rfl,(h i v hv).kt (aN.kt hs),?_⟩;refine bB hm hi hD' (by rw [aI8,aJz]; exact aU (by omega)) ⟨_,rfl,hs.upd_new hD _,?_⟩;rw [aB,take_snoc eb,aJj]
   rfl
  case done =>
   rintro τ H' ⟨v0,rfl,hs,hD'⟩;rw [<- hb,aJw] at hD';exact ⟨D,_,rfl,bG.of hD',q H' hs⟩
theorem xE {n:Nat}{f:Addr}{fd:FuncData}(F:dN K "need_boxes" "need_boxes" (top 36) f fd){c:Cs}{j_:Addr}(D_:mg "NoBox" = some (.ref j_))(X_:uG K j_){aEP:Addr}{aEn:FuncData}(aEQ:dY P w K mg base n "is_stand" ["thing"] (Lf c K) aEP aEn)(aD6:mg "all" = none)(l_:mg "len" = none)(a_:mg "isinstance" = none)(o_:mg "list" = none){gV:Value}(b_:mg "MOST_BOXES" = some gV)(d_:RelV (.int 6) gV):aP P w K mg base (o9 P w) (n+1) f fd ["boxes"] (Ve c K j_):=by
 refine F.okX nY (fun vs H Q E h=>?_) (fun cdv A outer s H vs Q E hr h=>?_)
 ·obtain ⟨v,b,rfl,_⟩:=h
  rfl
 obtain ⟨v,b,rfl,h,qt,qf⟩:=h;have nd:=nY.nd;refine ⟨_,(aD (bZ (PT.nox (PW.pt (iB (cG (bD (aR (cO (T:="list")) rfl a_ bC (aA (pv 0) (aA (d7 (v:=.ty "list") rfl o_ jG rfl) aC))))) (fW (cG (vL mL mL aH (aR bU rfl l_ fV (aA (pv 0) aC)) (cM (v:=.int 6) rfl b_ d_))))))) (aF (gY fX rfl rfl D_ X_)) bA) (aF (bZ (PT.nox (cG (bD (aR (j7 rfl rfl) rfl aD6 wK (aA (cD (ls:=["box"]) (M:=["boxes"]) rfl (bJ.of (by rfl)) (NL.of (by rfl)) (bO (pv 0)) (fun _ _ _ _=>⟨(aQ (i:=0) (cH (by rfl)) rfl (Or.inl rfl)),b7,(aJ aEQ hr (aA (pv 0) aC))⟩)) aC)))) ) (aF (gY fX rfl rfl D_ X_)) bA))),?_⟩;cases h with
 | no h =>
  obtain ⟨t,ht,hk⟩:=h K;refine ⟨_,rfl,_,_,_,rfl,ht,hk,_,rfl,?_⟩;exact fQ (fQ (qf rfl H (aN.refl _)))
 | @len a xs e hl =>
  refine ⟨_,rfl,_,_,_,rfl,.lst e,fD _,_,rfl,?_⟩;refine dM ?_;refine ⟨_,rfl,a,_,rfl,.inl (bG.of e),_,_,rfl,rfl,_,rfl,?_⟩
  by_cases h1:1<=xs.length
  ·refine m5 (decide_eq_true (show (1:Int)<=_ by omega)) ?_;refine ⟨_,_,rfl,rfl,_,rfl,?_⟩;refine m5 ?_ (qf rfl H (aN.refl _));rw [decide_eq_false (show ¬ (xs.length:Int)<=6 by omega)]
   rfl
  ·refine mY (decide_eq_false (show ¬ (1:Int)<=_ by omega)) ?_;refine ⟨_,rfl,?_⟩;exact fQ (qf rfl H (aN.refl _))
 | @all a xs bs e h1 h8 hb h =>
  refine ⟨_,rfl,_,_,_,rfl,.lst e,fD _,_,rfl,?_⟩;refine dM ?_;refine ⟨_,rfl,a,_,rfl,.inl (bG.of e),_,_,rfl,rfl,_,rfl,?_⟩;refine m5 (decide_eq_true (show (1:Int)<=_ by omega)) ?_;refine ⟨_,_,rfl,rfl,_,rfl,?_⟩;refine mY (by rw [decide_eq_true (show (xs.length:Int)<=6 by omega)]; rfl) ?_;refine ⟨_,rfl,a,rfl,⟨_,bG.of e⟩,fun D hD=>?_⟩;refine bN (xs:=xs) (fun i τ H'=>∃ v0,τ = [v0,some (.ref a)]/\aN H H'/\H' D=some (.lst ((bs.take i).map V.bl))) ⟨none,rfl,aG hD _,aB⟩ ?keep ?turn ?done
  case keep =>
   rintro i τ H' hi ⟨v0,rfl,hs,_⟩;exact bG.of (hs _ _ e)
  case turn =>
   rintro i m v τ H' hm hi hv ⟨v0,rfl,hs,hD'⟩;have hib:i<bs.length:=by omega
   have eb:bs[i]? = some (bs.getD i false):=by rw [aI7 hib,getD_at hib]
   refine rQ ?_;refine ⟨_,rfl,v,bs.getD i false,rfl,(h i v hv).kt (aN.kt hs),?_⟩;refine bB hm hi hD' (by rw [aI8,aJz]; exact aU (by omega)) ⟨_,rfl,hs.upd_new hD _,?_⟩;rw [aB,take_snoc eb,aJj]
   rfl
  case done =>
   rintro τ H' ⟨v0,rfl,hs,hD'⟩;rw [<- hb,aJw] at hD';refine ⟨D,bs,rfl,bG.of hD',_,rfl,?_⟩;cases hbb:bs.all id with
   | true=>exact dM (qt hbb H' hs)
   | false=>exact fQ (qf hbb H' hs)
theorem uP {n:Nat}{f:Addr}{fd:FuncData}(F:dN K "__init__" "End.__init__" (inClass (top 31) 0) f fd){c:Cs}(ck:CK K c){cSt fStI:Addr}{fdStI:FuncData}(aEG:mg "Stand" = some (.ref cSt))(aG3:Nq K cSt "__init__" fStI)(aHq:aP P w K mg base cN n fStI fdStI ["self","end_count","stage_count","level","cap_rows"] (Kw c))(aHr:Binds K fdStI ["self","end_count","stage_count","level","cap_rows"] []){j_:Addr}(D_:mg "NoBox" = some (.ref j_))(X_:uG K j_){aF1:Addr}{aFz:FuncData}(aFu:dY P w K mg base n "whole" ["number"] Qz aF1 aFz){m_:Addr}{k_:FuncData}(n_:dY P w K mg base n "is_whole" ["thing","least","most"] pA m_ k_){aE0:Value}(aEa:mg "MOST_WORTH" = some aE0)(aEb:RelV (.int 1000000000) aE0):aP P w K mg base (o9 P w) (n+1) f fd ["self","worth"] (Oj c j_):=by
 refine F.okX lM (fun vs H Q E h=>?_) (fun cdv A outer s H vs Q E hr h=>?_)
 ·rcases h with ⟨x,dx,v,rfl,_⟩ | ⟨x,v,rfl,_⟩ <;> rfl
 have nd:=lM.nd;refine ⟨_,(aD (bZ (PT.nox (cG (bD (aJ n_ hr (aA (pv 1) (aA aH (aA (cM (v:=.int 1000000000) rfl aEa aEb) aC))))))) (aF (gY fX rfl rfl D_ X_)) bA) (yW.nox (aD (fU (Fx rfl aEG aG3 aHq hr aHr .nil bR (aA (pv 0) (aA aH (aA aH (aA (aJ aFu hr (aA (pv 1) aC)) (aA (iR (aA (cW (aA (aJ aFu hr (aA (pv 1) aC)) (aA aH aC))) aC)) aC))))))) (aF (dF (pv 0) (pv 1) rfl))))),?_⟩;rcases h with ⟨x,dx,v,rfl,hx,h0,h9,q⟩ | ⟨x,v,rfl,h,q⟩
 rotate_left
 ·refine ⟨_,rfl,v,0,1000000000,false,rfl,h,?_⟩;refine ⟨_,rfl,?_⟩;exact fQ q
 refine ⟨_,rfl,.int v,0,1000000000,true,rfl,pF.yes h0 h9,?_⟩;refine ⟨_,rfl,?_⟩;refine dM ?_;refine ⟨_,rfl,_,rfl,v,rfl,fun l H1 s1 hl=>?_⟩;refine ⟨_,rfl,v,rfl,fun p H2 s2 hp=>?_⟩;refine ⟨uL,fun t ht=>?_⟩;refine ⟨R4,fun a ha=>?_⟩;have n3:=aG ht (.tup [.ref p,.int 1]);have n4:=aG ha (.lst [.ref t]);have s4:=((s1.trans s2).trans n3).trans n4;have hT:TabAt (aX (aX H2 t (.tup [.ref p,.int 1])) a (.lst [.ref t])) a [⟨t,p,v,1,1⟩]:=⟨aB,fun y hy=>by rw [aJk.mp hy]; exact ⟨n4 _ _ aB,(n3.trans n4) _ _ hp⟩⟩
 have hl4:=(s2.trans (n3.trans n4)) _ _ hl;generalize aX (aX H2 t (.tup [.ref p,.int 1])) a (.lst [.ref t])=H4 at n4 s4 hT hl4 ⊢;refine ⟨x,dx,c.e,l,a,1,0,_,rfl,.inl rfl,s4 _ _ hx,hT,fun cp H5 cn k5 hx5 hc5=>?_⟩;refine ⟨_,rfl,_,rfl,x,c.e,dx,_,rfl,hx5,ck.ce,ck.e5,(by show 4<1000; decide),?_⟩;have hx4:=s4 _ _ hx;have hu:∀ b o,b≠x->H4 b=some o->aX H5 x (.ins c.e dx (fE 1 0 l cp v)) b=some o:=fun b o nb e=>by rw [aK nb]; exact k5 b o nb e
 have tu:∀ b xs,H4 b=some (.tup xs)->aX H5 x (.ins c.e dx (fE 1 0 l cp v)) b=some (.tup xs):=fun b xs e=>hu b _ (bI e hx4 fun z=>nomatch z) e;refine q _ (fun b o nb e=>hu b o nb (s4 _ _ e)) fun d m hm=>?_;refine .en (dx:=dx) (l:=l) (cp:=cp) (n:=1) (k:=0) (xs:=[⟨t,p,v,1,1⟩]) aB ⟨tu _ _ hl4,⟨?_,fun y hy=>?_⟩,Qx h0 h9 hm,aLs _ _,by decide,by omega,by decide,by omega,Sd.XD v d,Ra h0 h9,rfl,rfl⟩ (.en h0 h9 hm)
 ·have:cp≠x:=fun e=>by rw [e,hx5] at hc5; cases hc5
  rw [aK this];exact hc5
 ·have:=hT.rows y hy;exact ⟨tu _ _ this.1,tu _ _ this.2⟩
theorem Gs {H:Hp}{D:Addr}{e:Ent}{zs:List V}{o:HO}(hD:H D=some (.lst zs))(n:e.a≠D)(h:zA H e):zA (aX H D o) e:=by
 refine ⟨?_,?_,fun x hx=>⟨?_,?_⟩⟩
 ·rw [aK (bI h.1 hD fun z=>nomatch z)]; exact h.1
 ·rw [aK n]; exact h.2.lst
 ·rw [aK (bI (h.2.rows x hx).1 hD fun z=>nomatch z)]; exact (h.2.rows x hx).1
 ·rw [aK (bI (h.2.rows x hx).2 hD fun z=>nomatch z)]; exact (h.2.rows x hx).2
theorem QT {ns:List Int}(h:∀ n∈ns,1<=n/\True):(ns.length:Int)<=ns.sum:=by
 induction ns with
 | nil=>simp
 | cons n ns ih =>
  have a:=(h n aJa).1;have b:=ih fun m hm=>h m (aI9 _ hm);rw [aJu,aJJ]
  push_cast
  omega
theorem p7.good {c:Cs}{K:PySem.W.Frag}{H:Hp}{a:Addr}{ps ys:List Addr}{rs:List (Int×Sd.Sd)}{d:Nat}{j:Int×Sd.Sd->Nat}(g:Vo c H a ps ys rs d j):p7 c K H (.ref a) true:=by
 have hl:(ps.map V.ref).length=rs.length:=by rw [aI8]; exact g.R.lp
 have h:=p7.all (c:=c) (K:=K) (bs:=aJt rs.length true) g.ha (by rw [hl]; exact aKO.mpr g.ne) (by rw [hl]; exact g.l4) (by rw [aKb,hl]) fun i v hv=>by
  obtain ⟨q1,y,t,_,_,er,rfl,h1,st,mem⟩:=g.R.at_ hv;have hi:=(aJl.mp er).1;have e:(aJt rs.length true).getD i false=true:=by simp [List.getD,hi]
  rw [e];exact zJ.two h1 (pF.yes (g.ww t mem).1 (g.ww t mem).2) (.yes st)
 have e:(aJt rs.length true).all id=true:=by simp
 rw [e] at h;exact h
theorem pY {n:Nat}{f:Addr}{fd:FuncData}(F:dN K "__init__" "Stage.__init__" (inClass (top 32) 0) f fd){c:Cs}(ck:CK K c){cSt fStI:Addr}{fdStI:FuncData}(aEG:mg "Stand" = some (.ref cSt))(aG3:Nq K cSt "__init__" fStI)(aHq:aP P w K mg base cN n fStI fdStI ["self","end_count","stage_count","level","cap_rows"] (Kw c))(aHr:Binds K fdStI ["self","end_count","stage_count","level","cap_rows"] [])(cfE:tK K c.e)(cfS:tK K c.s){aGz:Addr}{aGZ:FuncData}(aIP:cF K c.e "ends" aGz)(aIQ:cF K c.s "ends" aGz)(aHs:aP P w K mg base cN n aGz aGZ ["self"] (Lk c))(aHt:Binds K aGZ ["self"] []){aGA:Addr}{aG0:FuncData}(aIR:cF K c.e "stages" aGA)(aIS:cF K c.s "stages" aGA)(aHu:aP P w K mg base cN n aGA aG0 ["self"] (Ls c))(aHv:Binds K aG0 ["self"] []){aGB:Addr}{aG1:FuncData}(aIT:cF K c.e "caps" aGB)(aIU:cF K c.s "caps" aGB)(aHw:aP P w K mg base cN n aGB aG1 ["self"] (JV c))(aHx:Binds K aG1 ["self"] []){j_:Addr}(D_:mg "NoBox" = some (.ref j_))(X_:uG K j_){aHy:Addr}{aG4:FuncData}(aHz:dY P w K mg base n "capped" ["table","level"] (K6 Pt eN) aHy aG4){aGg:Addr}{aF2:FuncData}(aGh:dY P w K mg base n "level_for" ["table","price"] PL aGg aF2){aH2:Addr}{aHA:FuncData}(aH3:dY P w K mg base n "mixed" ["rows"] (Ke Pt eN) aH2 aHA){aFo:Addr}{aFa:FuncData}(aFp:dY P w K mg base n "is_stage_rows" ["rows"] (Cg c K) aFo aFa){m_:Addr}{k_:FuncData}(n_:dY P w K mg base n "is_whole" ["thing","least","most"] pA m_ k_)(h_:mg "tuple" = none)(aEi:mg "max" = none)(aEj:mg "sum" = none){aEJ:Value}(aCv:mg "MOST_STAGES" = some aEJ)(aDw:RelV (.int 4) aEJ){aFi:Value}(aEo:mg "MOST_ENDS" = some aFi)(aEp:RelV (.int 12) aFi){aE1:Value}(aEc:mg "MOST_PRICE" = some aE1)(aEd:RelV (.int 1000000000) aE1):aP P w K mg base (o9 P w) (n+1) f fd ["self","price","rows"] (PX c K j_ Pt eN):=by
 refine F.okX jF (fun vs H Q E h=>?_) (fun cdv A outer s H vs Q E hr h=>?_)
 ·rcases h with ⟨x,dx,a,p,ps,ys,rs,d,j,rfl,_⟩ | ⟨x,v,w,rfl,_⟩ <;> rfl
 have nd:=jF.nd;refine ⟨_,(aD (bZ (PT.nox (PW.pt (iB (cG (bD (aJ n_ hr (aA (pv 1) (aA aH (aA (cM (v:=.int 1000000000) rfl aEc aEd) aC)))))) (fW (cG (bD (aJ aFp hr (aA (pv 2) aC)))))))) (aF (gY fX rfl rfl D_ X_)) bA) (aD (PS.nox (aY (i:=3) nd rfl (Or.inl rfl) (aR (pN rfl) rfl aEj Ad (aA (cD (ls:=["weight","stand"]) (M:=["self","price","rows","end_count","stage_count","behind","level"]) rfl (bJ.of (by rfl)) (NL.of (by rfl)) (bO (pv 2)) (fun _ _ _ _=>⟨(iJ (K:=K) (n:=2) rfl rfl (bL (aQ (i:=0) (cH (by rfl)) rfl (Or.inl rfl)) (bL (aQ (i:=1) (cH (by rfl)) rfl (Or.inl rfl)) fK))),b7,(d8 (bF (pv 1) cfE aIP aHs hr aHt .nil bR) (bF (pv 1) cfS aIQ aHs hr aHt .nil bR))⟩)) aC)))) (aD (PS.nox (aY (i:=4) nd rfl (Or.inl rfl) (aW eY aH (aR (zE rfl) rfl aEi Ao (aA (cD (ls:=["weight","stand"]) (M:=["self","price","rows","end_count","stage_count","behind","level"]) rfl (bJ.of (by rfl)) (NL.of (by rfl)) (bO (pv 2)) (fun _ _ _ _=>⟨(iJ (K:=K) (n:=2) rfl rfl (bL (aQ (i:=0) (cH (by rfl)) rfl (Or.inl rfl)) (bL (aQ (i:=1) (cH (by rfl)) rfl (Or.inl rfl)) fK))),b7,(d8 (bF (pv 1) cfE aIR aHu hr aHv .nil bR) (bF (pv 1) cfS aIS aHu hr aHv .nil bR))⟩)) aC))))) (aD (bZ (PT.nox (PW.pt (iB (bV GC (pv 3) (cM (v:=.int 12) rfl aEo aEp) (bW _)) (fW (bV GC (pv 4) (cM (v:=.int 4) rfl aCv aDw) (bW _)))))) (aF (gY fX rfl rfl D_ X_)) bA) (yW.nox (aD (aY (i:=5) nd rfl (Or.inl rfl) (aJ aH3 hr (aA (cD (ls:=["weight","stand"]) (M:=["self","price","rows","end_count","stage_count","behind","level"]) rfl (bJ.of (by rfl)) (NL.of (by rfl)) (bO (pv 2)) (fun _ _ _ _=>⟨(iJ (K:=K) (n:=2) rfl rfl (bL (aQ (i:=0) (cH (by rfl)) rfl (Or.inl rfl)) (bL (aQ (i:=1) (cH (by rfl)) rfl (Or.inl rfl)) fK))),b7,(cW (aA (pv 0) (aA (d8 (bF (pv 1) cfE aIT aHw hr aHx .nil bR) (bF (pv 1) cfS aIU aHw hr aHx .nil bR)) aC)))⟩)) aC))) (aD (aY (i:=6) nd rfl (Or.inl rfl) (aJ aGh hr (aA (pv 5) (aA (pv 1) aC)))) (aD (fU (Fx rfl aEG aG3 aHq hr aHr .nil bR (aA (pv 0) (aA (pv 3) (aA (pv 4) (aA (pv 6) (aA (aJ aHz hr (aA (pv 5) (aA (pv 6) aC))) aC))))))) (aD (dF (pv 0) (pv 1) rfl) (aF (dF (pv 0) (cY (cL (K:=K) rfl) rfl h_ eV (aA (pv 2) aC)) rfl))))))))))),?_⟩;rcases h with ⟨x,dx,a,p,ps,ys,rs,d,j,rfl,hx,g0,p0,p9,hq⟩ | ⟨x,v,u,rfl,h,q⟩
 rotate_left
 ·rcases h with h | ⟨h,h2⟩
  ·refine ⟨_,rfl,v,0,1000000000,false,rfl,h,?_⟩;refine ⟨_,rfl,?_⟩;exact fQ (fQ (q H (aN.refl _)))
  ·refine ⟨_,rfl,v,0,1000000000,true,rfl,h,?_⟩;refine ⟨_,rfl,?_⟩;refine dM ?_;refine ⟨_,rfl,u,false,rfl,h2,fun H1 s1=>?_⟩;refine ⟨_,rfl,?_⟩;exact fQ (q H1 s1)
 have ha:=g0.ha;have R:=g0.R;have ne:=g0.ne;have l4:=g0.l4;have ww:=g0.ww;have hl:(ps.map V.ref).length=rs.length:=by rw [aI8]; exact R.lp
 have n1:1<=rs.length:=aKO.mpr ne;refine ⟨_,rfl,.int p,0,1000000000,true,rfl,pF.yes p0 p9,?_⟩;refine ⟨_,rfl,?_⟩;refine dM ?_;refine ⟨_,rfl,.ref a,true,rfl,p7.good g0,fun H1 s1=>?_⟩;refine ⟨_,rfl,?_⟩;refine dM ?_;have R1:=R.kp (aN.kp s1);have ha1:=s1 _ _ ha;refine ⟨_,rfl,a,rfl,⟨_,bG.of ha1⟩,fun D hD=>?_⟩;refine bN (xs:=ps.map V.ref) (fun i τ H'=>∃ v0 v1 cs,τ = [v0,v1,some (.ref x),some (.int p),some (.ref a),none,none,none,none]/\aN H1 H'/\H' D=some (.lst (Is cs))/\cs=(rs.take i).map (fun t=>Sd.nE (d+1) t.2)/\∀ n∈cs,1<=n/\True) ⟨none,none,[],rfl,aG hD _,aB,rfl,fun _ h=>nomatch h⟩ ?keepA ?turnA ?doneA
 case keepA =>
  rintro i τ H' hi ⟨v0,v1,cs,rfl,hs,_⟩;exact bG.of (hs _ _ ha1)
 case turnA =>
  rintro i mm v τ H' hm hi hv ⟨v0,v1,cs,rfl,hs,hD',nl,hn⟩;obtain ⟨q1,y,t,_,_,er,rfl,h1,st,mem⟩:=R1.at_ hv;refine ⟨q1,_,rfl,cV.of (hs _ _ h1),rfl,_,_,rfl,_,_,rfl,rfl,?_⟩;refine eO ?_;refine Lq (st.same hs) (fun _ _ _ _ _=>rfl) (fun _ _ _ _ _ _=>rfl) (fun R h=>⟨_,rfl,h⟩) ?_;refine ⟨y,t.2,d,_,rfl,st.same hs,fun n n1 n2 n3=>?_⟩;refine bB hm hi hD' (by rw [bM,nl,aI8]; exact aU (aJc (aKn _ _) (by rw [hl] at hi; omega))) ⟨_,_,cs++[n],rfl,hs.upd_new hD _,by rw [aB,fZ],by rw [nl,take_snoc er,aJj,n3]; rfl,fun z hz=>?_⟩;rcases aJy.mp hz with u | u
  ·exact hn z u
  ·rw [aJk.mp u];exact ⟨n1,trivial⟩
 case doneA =>
 rintro τ H2 ⟨v0,v1,ns,rfl,s2,hD2,nl,hn⟩;have nx0:=nl;rw [hl,aJw] at nx0;have nl:ns.length=rs.length:=by rw [nx0,aI8]
 have sn:=QT hn;refine ⟨D,ns,rfl,bG.of hD2,?_⟩;have R2:=R1.kp (aN.kp s2);have ha2:=s2 _ _ ha1;refine ⟨_,rfl,a,rfl,⟨_,bG.of ha2⟩,fun D2 hD2=>?_⟩;refine bN (xs:=ps.map V.ref) (fun i τ H'=>∃ v0 v1 cs,τ = [v0,v1,some (.ref x),some (.int p),some (.ref a),some (.int ns.sum),none,none,none]/\aN H2 H'/\H' D2=some (.lst (Is cs))/\cs=(rs.take i).map (fun t=>Sd.nS (d+1) t.2)/\∀ n∈cs,0<=n/\n<=(d:Int)) ⟨none,none,[],rfl,aG hD2 _,aB,rfl,fun _ h=>nomatch h⟩ ?keepB ?turnB ?doneB
 case keepB =>
  rintro i τ H' hi ⟨v0,v1,cs,rfl,hs,_⟩;exact bG.of (hs _ _ ha2)
 case turnB =>
  rintro i mm v τ H' hm hi hv ⟨v0,v1,cs,rfl,hs,hD',nl,hn⟩;obtain ⟨q1,y,t,_,_,er,rfl,h1,st,mem⟩:=R2.at_ hv;refine ⟨q1,_,rfl,cV.of (hs _ _ h1),rfl,_,_,rfl,_,_,rfl,rfl,?_⟩;refine eO ?_;refine Lq (st.same hs) (fun _ _ _ _ _=>rfl) (fun _ _ _ _ _ _=>rfl) (fun R h=>⟨_,rfl,h⟩) ?_;refine ⟨y,t.2,d,_,rfl,st.same hs,fun n n1 n2 n3=>?_⟩;refine bB hm hi hD' (by rw [bM,nl,aI8]; exact aU (aJc (aKn _ _) (by rw [hl] at hi; omega))) ⟨_,_,cs++[n],rfl,hs.upd_new hD2 _,by rw [aB,fZ],by rw [nl,take_snoc er,aJj,n3]; rfl,fun z hz=>?_⟩;rcases aJy.mp hz with u | u
  ·exact hn z u
  ·rw [aJk.mp u];exact ⟨n1,n2⟩
 case doneB =>
 rintro τ H3 ⟨v0,v1,ms,rfl,s3,hD3,ml,hms⟩;have kx0:=ml;rw [hl,aJw] at kx0;have ml:ms.length=rs.length:=by rw [kx0,aI8]
 refine ⟨D2,ms,rfl,bG.of hD3,fun e=>by rw [e] at ml; have:(0:Nat)=rs.length:=ml; omega,fun mx hmx hmax=>?_⟩;have kx1:1+mx=Sd.nS (d+1+1) (.st p rs):=by rw [Sd.RT (fun x hx=>(hms x hx).1) hmx hmax,kx0]; rfl
 have nx1:ns.sum=Sd.nE (d+1+1) (.st p rs):=by rw [nx0]; rfl
 have mb:=hms mx hmx;refine ⟨_,_,rfl,rfl,?_⟩;refine ⟨_,rfl,_,_,rfl,rfl,_,rfl,?_⟩;rcases hq with ⟨big,qE⟩ | ⟨m,hm,m12,d4,hTb,q⟩
 ·have BJ:=(s1.trans s2).trans s3
  by_cases h12:(12:Int)<ns.sum
  ·refine m5 (decide_eq_true h12) ?_;refine fQ ?_;exact qE _ BJ
  ·refine mY (decide_eq_false h12) ?_;refine ⟨_,rfl,_,_,rfl,rfl,_,rfl,?_⟩;refine m5 (decide_eq_true (show (4:Int)<1+mx by omega)) ?_;exact qE _ BJ
 have okS:Sd.Ok (.st p rs) (d+1) m:=.st p0 p9 ne l4 ww (fun r hr=>by obtain ⟨i,y,a,b⟩:=JQ R.ly hr; exact (R.sub i y r a b).ok) hm;have jl:ns.sum<=(m:Int):=by have:=okS.nE (d+1+1) (aKK _); rw [nx0]; exact this
 refine mY (decide_eq_false (by omega)) ?_;refine ⟨_,rfl,_,_,rfl,rfl,_,rfl,?_⟩;refine mY (decide_eq_false (by omega)) ?_;have BJ:=(s1.trans s2).trans s3;have R3:=R2.kp (aN.kp s3);have ha3:=s3 _ _ ha2;refine ⟨_,rfl,a,rfl,⟨_,bG.of ha3⟩,fun D3 hD3n=>?_⟩;refine bN (xs:=ps.map V.ref) (fun i τ H'=>∃ v0 v1 es,τ = [v0,v1,some (.ref x),some (.int p),some (.ref a),some (.int ns.sum),some (.int (1+mx)),none,none]/\aN H3 H'/\wA H' D3 es/\Sd.Al d es (rs.take i)/\Ae d j es (rs.take i)/\es.length=i/\∀ e∈es,e.a≠D3/\(1<=e.w/\e.w<=1000)) ⟨none,none,[],rfl,aG hD3n _,⟨aB,fun _ h=>nomatch h⟩,.nil,.nil,rfl,fun _ h=>nomatch h⟩ ?keepC ?turnC ?doneC
 case keepC =>
  rintro i τ H' hi ⟨v0,v1,es,rfl,hs,_⟩;exact bG.of (hs _ _ ha3)
 case turnC =>
  rintro i mm v τ H' hm' hi hv ⟨v0,v1,es,rfl,hs,hE,al,ae,el,he⟩;obtain ⟨q1,y,t,_,_,er,rfl,h1,st,mem⟩:=R3.at_ hv;refine ⟨q1,_,rfl,cV.of (hs _ _ h1),rfl,_,_,rfl,_,_,rfl,rfl,?_⟩;refine eO ?_;refine ⟨_,rfl,?_⟩;refine Lq (st.same hs) (fun _ _ _ _ _=>rfl) (fun _ _ _ _ _ _=>rfl) (fun R h=>⟨_,rfl,h⟩) ?_;refine ⟨y,t.2,d,_,rfl,st.same hs,fun r H4 xs s4 hr4 hT4 gs so ⟨lv4,mt4,_⟩=>?_⟩;refine ⟨uL,fun T hT=>?_⟩;have n5:=aG hT (.tup [.int t.1,.ref r]);have hE5:=(hE.same s4).same n5;have nr:r≠D3:=fun e=>by rw [e,hE.lst] at hr4; cases hr4
  refine bB hm' hi hE5.lst (by rw [qM]; exact aU (by rw [hl] at hi; omega)) ⟨_,_,es++[⟨T,t.1,r,xs⟩],rfl,((hs.trans s4).trans n5).upd_new hD3n _,⟨by rw [aB,FJ],fun e h=>?_⟩,by rw [take_snoc er]; exact al.snoc rfl ⟨lv4,mt4⟩,by rw [take_snoc er]; exact ae.snoc gs,by rw [aJv,el]; rfl,fun e h=>?_⟩
  ·rcases aJy.mp h with u | u
   ·exact Gs hE5.lst (he e u).1 (hE5.ents e u)
   ·rw [aJk.mp u];exact Gs hE5.lst nr ⟨aB,hT4.same n5⟩
  ·rcases aJy.mp h with u | u
   ·exact he e u
   ·rw [aJk.mp u];exact ⟨nr,ww t mem⟩
 case doneC =>
 rintro τ H4 ⟨v0,v1,es,rfl,s4,hE,al,ae,el,he⟩;rw [hl,aJw] at al ae;rw [hl] at el;have ene:es≠[]:=fun e=>by rw [e] at el; have:(0:Nat)=rs.length:=el; omega
 have gall:=ae.all fun t ht=>aJc (Sd.Ng hm t ht) m12;have gm0:=VR (show d<=4 by omega) ene (by omega) (fun e h=>(he e h).2) gall;have m1:1<=m:=okS.m1;have tb4:cX Pt eN fO H4:=hTb.same (BJ.trans s4);refine ⟨D3,es,12,wB d 12,kK d,rfl,hE,gm0,tb4,fun B H5 xs s5 tb5 _ hB5 g5 o5 l5=>?_⟩;have Mx1:=VF ae.b hm m1 (aJc l5 (ae.b.p _)) g5;refine ⟨_,rfl,_,rfl,B,xs,p,m,_,kK d,rfl,hB5,Mx1.g,Mx1.cp d4 m12,o5.tab.lt,p0,p9,fun lv H6 l u s6 hl6 u1 u2 f hLv=>?_⟩;have Lx1:=Vg Mx1 d4 m12 p0 p9 u1 u2 f;have tb6:=tb5.same s6;refine ⟨_,rfl,_,rfl,_,rfl,_,rfl,_,rfl,_,rfl,B,lv,xs,l,m,_,_,_,rfl,hB5.same s6,Lx1.g,Lx1.c,hl6,Lx1.f,tb6,fun cr H7 zs s7 tb7 _ hZ g7 o7=>?_⟩;have sT:bH Pt H H7:=((((BJ.trans s4).toT).trans s5).trans s6.toT).trans s7;have hx7:H7 x=some (.ins c.s dx []):=sT.get hTb hx fun _ z=>nomatch z
 have ha7:H7 a=some (.lst (ps.map V.ref)):=sT.get hTb ha fun _ z=>nomatch z
 have hl7:H7 lv=some (.tup [.int l.1,.int l.2]):=s7.get tb6 hl6 fun _ z=>nomatch z
 have nax:a≠x:=bI ha7 hx7 fun z=>nomatch z
 refine ⟨x,dx,c.s,lv,cr,ns.sum,1+mx,zs,rfl,.inr rfl,hx7,hZ,fun cp H8 cn k8 hx8 hc8=>?_⟩;have ncx:cp≠x:=fun e=>by rw [e,hx8] at hc8; cases hc8
 refine ⟨_,rfl,_,rfl,x,c.s,dx,_,rfl,hx8,ck.cs,ck.s5,(by show 4<1000; decide),?_⟩;refine ⟨_,rfl,a,_,rfl,.inl ⟨bG.of (by rw [aK nax]; exact k8 _ _ nax ha7),fun r hr0=>?_⟩⟩;have nrx:r≠x:=fun e=>by rw [e,aB] at hr0; cases hr0
 refine ⟨_,rfl,x,c.s,dx,_,rfl,by rw [aK (Ne.symm nrx)]; exact aB,ck.cs,ck.s6,(by show 5<1000; decide),?_⟩;rw [aK nrx] at hr0;have kx:∀ b o,b≠x->H8 b=some o->aX (aX (aX H8 x (.ins c.s dx (b8 "price" (.int p) (fB ns.sum (1+mx) lv cp)))) r (.tup (ps.map V.ref))) x (.ins c.s dx (fS ns.sum (1+mx) lv cp p r)) b=some o:=fun b o nb e=>by
  rw [aK nb,aK (aV e hr0),aK nb];exact e
 have hr9:aX (aX (aX H8 x (.ins c.s dx (b8 "price" (.int p) (fB ns.sum (1+mx) lv cp)))) r (.tup (ps.map V.ref))) x (.ins c.s dx (fS ns.sum (1+mx) lv cp p r)) r=some (.tup (ps.map V.ref)):=by rw [aK nrx]; exact aB
 have hx9:aX (aX (aX H8 x (.ins c.s dx (b8 "price" (.int p) (fB ns.sum (1+mx) lv cp)))) r (.tup (ps.map V.ref))) x (.ins c.s dx (fS ns.sum (1+mx) lv cp p r)) x=some (.ins c.s dx (fS ns.sum (1+mx) lv cp p r)):=aB;show Q .non (aX (aX (aX H8 x (.ins c.s dx (b8 "price" (.int p) (fB ns.sum (1+mx) lv cp)))) r (.tup (ps.map V.ref))) x (.ins c.s dx (fS ns.sum (1+mx) lv cp p r)));generalize aX (aX (aX H8 x (.ins c.s dx (b8 "price" (.int p) (fB ns.sum (1+mx) lv cp)))) r (.tup (ps.map V.ref))) x (.ins c.s dx (fS ns.sum (1+mx) lv cp p r))=HF at kx hr9 hx9 ⊢;have sX:Dm x H7 HF:=fun b o nb e=>kx b o nb (k8 b o nb e);have kF:Kp H7 HF:=sX.kp hx7;have RF:=R.kp ((bH.kp sT hTb).trans kF);refine q HF (fun b o nb nP e=>sX b o nb (sT b o nP e)) (cX.sameX tb7 sX hx7) ?_;exact .st hx9 ⟨kF.tup hl7,⟨kx _ _ ncx hc8,fun y hy=>(hZ.rows y hy).kp kF⟩,TY Lx1 g7,o7.tab.lt,by omega,by omega,by omega,by omega,Xp al gm0 (by have:=(Sd.Qk ne ww l4).1; omega) o5 Mx1.g Lx1.f.fr.pos hLv o7,Xl Lx1 d4 m12,nx1,kx1⟩ hr9 RF.lp RF.ly RF.row RF.sub p0 p9 ne l4 ww hm
theorem rR {n:Nat}{f:Addr}{fd:FuncData}(F:dN K "how_many" "Case.how_many" (inClass (top 39) 1) f fd){c:Cs}{cC:Addr}(ca:Az K c cC)(l_:mg "len" = none):aP P w K mg base cN (n+1) f fd ["self"] (Ko c cC):=by
 refine F.ok j9 (fun vs H Q E h=>?_) (fun cdv A outer s H vs Q E hr h=>?_)
 ·obtain ⟨x,q,rfl,_⟩:=h
  rfl
 obtain ⟨x,q,rfl,h,k⟩:=h;have nd:=j9.nd;refine ⟨_,(aF (aO (aR bU rfl l_ fV (aA (dI (pv 0) rfl) aC)))),?_⟩;refine ⟨_,rfl,x,cC,_,_,_,rfl,h.hx,ca.cl,ca.np,rfl,q.tp,_,rfl,.inr (cV.of h.hp),?_⟩;rw [aI8];exact k
theorem sH {n:Nat}{f:Addr}{fd:FuncData}(F:dN K "need_box" "Case.need_box" (inClass (top 39) 2) f fd){c:Cs}{cC:Addr}(ca:Az K c cC){g_:Addr}(N_:mg "NoDeed" = some (.ref g_))(aEq:uG K g_){aFA:Addr}{aEr:FuncData}(aGC:cF K cC "how_many" aFA)(aGD:aP P w K mg base cN n aFA aEr ["self"] (Ko c cC))(aGE:Binds K aEr ["self"] []){m_:Addr}{k_:FuncData}(n_:dY P w K mg base n "is_whole" ["thing","least","most"] pA m_ k_):aP P w K mg base (o9 P w) (n+1) f fd ["self","box"] (RZ c cC g_):=by
 refine F.okX kO (fun vs H Q E h=>?_) (fun cdv A outer s H vs Q E hr h=>?_)
 ·obtain ⟨x,v,q,b,rfl,_⟩:=h
  rfl
 have nd:=kO.nd;refine ⟨_,(aF (bZ (PT.nox (cG (bD (aJ n_ hr (aA (pv 1) (aA aH (aA (aW jU (bF (pv 0) ca.cl aGC aGD hr aGE .nil bR) aH) aC))))))) (aF (gY fX rfl rfl N_ aEq)) bA)),?_⟩;obtain ⟨x,v,q,b,rfl,h,iw,qt,qf⟩:=h;refine ⟨_,rfl,_,rfl,x,_,_,rfl,h.hx,rfl,x,q,rfl,h,_,_,rfl,rfl,v,0,(q.ys.length:Int)-1,b,rfl,iw,?_⟩;refine ⟨_,rfl,?_⟩;cases b with
 | true=>exact dM (qt rfl)
 | false=>exact fQ (qf rfl)
theorem xJ {n:Nat}{f:Addr}{fd:FuncData}(F:dN K "stand" "Case.stand" (inClass (top 39) 3) f fd){c:Cs}{cC:Addr}(ca:Az K c cC){g_:Addr}{aHB:Addr}{aGi:FuncData}(aIt:cF K cC "need_box" aHB)(aIu:aP P w K mg base (o9 P w) n aHB aGi ["self","box"] (RZ c cC g_))(aIv:Binds K aGi ["self","box"] []):aP P w K mg base (o9 P w) (n+1) f fd ["self","box"] (DP c cC g_):=by
 refine F.okX oN (fun vs H Q E h=>?_) (fun cdv A outer s H vs Q E hr h=>?_)
 ·obtain ⟨x,v,q,b,rfl,_⟩:=h
  rfl
 have nd:=oN.nd;refine ⟨_,(aD (fU (bT (pv 0) ca.cl aIt aIu hr aIv .nil gO (aA (pv 1) aC))) (aF (aO (bQ cQ (dI (pv 0) rfl) (pv 1) (fun _ _=>rfl))))),?_⟩;obtain ⟨x,v,q,b,rfl,h,iw,qt,qf⟩:=h;refine ⟨_,rfl,x,_,_,rfl,h.hx,rfl,_,rfl,x,v,q,b,rfl,h,iw,fun hb=>?_,fun hb=>qf hb⟩;subst hb;obtain ⟨i,rfl,i0,i9⟩:=iw.inv;obtain ⟨j,rfl⟩:∃ j:Nat,i=(j:Int):=⟨i.toNat,by omega⟩
 have n1:=h.n1;have el:=h.el;have hj:j<q.ys.length:=by omega
 refine ⟨_,rfl,x,cC,_,_,_,rfl,h.hx,ca.cl,ca.np,rfl,_,rfl,q.tp,_,_,_,rfl,rfl,cV.of h.hp,dZ (by rw [aJh,aI7 hj]; rfl),qt j _ rfl (aI7 hj)⟩
theorem De {n:Nat}{f:Addr}{fd:FuncData}(F:dN K "cap" "Case.cap" (inClass (top 39) 4) f fd){c:Cs}{cC:Addr}(ca:Az K c cC){g_:Addr}{aHB:Addr}{aGi:FuncData}(aIt:cF K cC "need_box" aHB)(aIu:aP P w K mg base (o9 P w) n aHB aGi ["self","box"] (RZ c cC g_))(aIv:Binds K aGi ["self","box"] []):aP P w K mg base (o9 P w) (n+1) f fd ["self","box"] (J4 c cC g_):=by
 refine F.okX tW (fun vs H Q E h=>?_) (fun cdv A outer s H vs Q E hr h=>?_)
 ·obtain ⟨x,v,q,b,rfl,_⟩:=h
  rfl
 have nd:=tW.nd;refine ⟨_,(aD (fU (bT (pv 0) ca.cl aIt aIu hr aIv .nil gO (aA (pv 1) aC))) (aF (aO (bQ cQ (dI (pv 0) rfl) (pv 1) (fun _ _=>rfl))))),?_⟩;obtain ⟨x,v,q,b,rfl,h,iw,qt,qf⟩:=h;refine ⟨_,rfl,x,_,_,rfl,h.hx,rfl,_,rfl,x,v,q,b,rfl,h,iw,fun hb=>?_,fun hb=>qf hb⟩;subst hb;obtain ⟨i,rfl,i0,i9⟩:=iw.inv;obtain ⟨j,rfl⟩:∃ j:Nat,i=(j:Int):=⟨i.toNat,by omega⟩
 have n1:=h.n1;have el:=h.el;have hj:j<q.ys.length:=by omega
 refine ⟨_,rfl,x,cC,_,_,_,rfl,h.hx,ca.cl,ca.nl,rfl,_,rfl,q.tl,_,_,_,rfl,rfl,cV.of h.hl,dZ (aI7 (show j<q.ls.length by omega)),qt j _ rfl (aI7 (show j<q.ls.length by omega))⟩
theorem Ag {n:Nat}{f:Addr}{fd:FuncData}(F:dN K "kept" "Case.kept" (inClass (top 39) 5) f fd){c:Cs}{cC:Addr}(ca:Az K c cC){aFA:Addr}{aEr:FuncData}(aGC:cF K cC "how_many" aFA)(aGD:aP P w K mg base cN n aFA aEr ["self"] (Ko c cC))(aGE:Binds K aEr ["self"] [])(e_:mg "range" = none):aP P w K mg base cN (n+1) f fd ["self"] (Fo c cC):=by
 refine F.ok qD (fun vs H Q E h=>?_) (fun cdv A outer s H vs Q E hr h=>?_)
 ·obtain ⟨x,q,rfl,_⟩:=h
  rfl
 obtain ⟨x,q,rfl,h,k⟩:=h;have nd:=qD.nd;refine ⟨_,(aF (aO (cD (ls:=["box"]) (M:=["self"]) rfl (bJ.of (by rfl)) (NL.of (by rfl)) (cZ rfl e_ (aA (bF (pv 0) ca.cl aGC aGD hr aGE .nil bR) aC)) (fun _ _ _ _=>⟨(aQ (i:=0) (cH (by rfl)) rfl (Or.inl rfl)),(uY (bD (bQ (lD (K:=K) rfl) (uX (K:=K) rfl (pv 1) rfl) (pv 0) (fun _ _=>rfl)))),(pv 0)⟩)))),?_⟩;have n6:=h.n6;refine ⟨_,rfl,x,_,_,rfl,h.hx,rfl,x,q,rfl,h,(q.ys.length:Int),rfl,by omega,by omega,fun D hD=>?_⟩;refine fG (n:=(q.ys.length:Int).toNat) (fun i τ H'=>∃ v0,τ = [v0,some (.ref x)]/\aN H H'/\H' D=some (.lst ((((aKk i).filter fun j=>q.bs.getD j false).map aLa).map V.int))) ⟨none,rfl,aG hD _,aB⟩ ?turn ?done
 case turn =>
  rintro i m τ H' hm hi ⟨v0,rfl,hs,hD'⟩;have h':=h.kt (aN.kt hs);have hib:i<q.bs.length:=by rw [h.eb]; omega
  have eb:q.bs[i]? = some (q.bs.getD i false):=by rw [aI7 hib,getD_at hib]
  refine ⟨_,rfl,x,cC,_,_,_,rfl,h'.hx,ca.cl,ca.nh,rfl,_,rfl,q.th,_,_,_,rfl,rfl,cV.of h'.hh,(by rw [aK6]; exact dZ (v:=V.bl (q.bs.getD i false)) (by rw [aJh,eb]; rfl)),?_⟩;cases e:q.bs.getD i false with
  | false =>
   refine ⟨_,rfl,?_⟩;refine mY rfl ?_;refine j4 hm hi ⟨_,rfl,hs,?_⟩;rw [aLG,aJ2,show [i].filter (fun j=>q.bs.getD j false)=[] by rw [aKf,e]; rfl,aJZ];exact hD'
  | true =>
   refine ⟨_,rfl,?_⟩;refine m5 rfl ?_;refine ⟨_,rfl,?_⟩;refine bB hm hi hD' (by rw [aI8,aI8]; exact aU (aJc (aJM _ _) (by rw [aJX]; omega))) ⟨_,rfl,hs.upd_new hD _,?_⟩;rw [aB,aLG,aJ2,show [i].filter (fun j=>q.bs.getD j false)=[i] by rw [aKf,e]; rfl,aJj,aJj];show some (HO.lst (_++[V.int (0+(i:Int))]))=_;rw [aK6]
   rfl
 case done =>
  rintro τ H' ⟨v0,rfl,hs,hD'⟩;exact k D H' hs hD'
theorem w6 {n:Nat}{f:Addr}{fd:FuncData}(F:dN K "with_thing" "with_thing" (top 38) f fd):aP P w K mg base cN (n+1) f fd ["things","place","thing"] (RW K):=by
 refine F.ok oJ (fun vs H Q E h=>?_) (fun cdv A outer s H vs Q E hr h=>?_)
 ·obtain ⟨a,xs,i,v,rfl,_⟩:=h
  rfl
 obtain ⟨a,xs,i,v,rfl,ha,hi,h9,k⟩:=h;have nd:=oJ.nd;refine ⟨_,(aF (aO (aW zH (aW zH (vO LK (pv 0) Gf (uW (pv 1))) (cW (aA (pv 2) aC))) (vO LK (pv 0) (uW (aW eY (pv 1) aH)) Gf)))),?_⟩;refine ⟨_,rfl,_,rfl,_,rfl,a,_,rfl,cV.of ha,(fun ⟨_,z⟩=>by rw [HT.qF] at z; omega),fun p hp=>?_⟩;have m1:=aG hp (.tup (iI xs none (some (i:Int))));have e1:aX H p (.tup (iI xs none (some (i:Int)))) p=some (.tup (xs.take i)):=by rw [aB,IK _ _ (by omega)]
 generalize aX H p (.tup (iI xs none (some (i:Int))))=H1 at m1 e1 ⊢;refine ⟨_,rfl,R4,fun t ht=>?_⟩;have m2:=aG ht (.tup [v]);refine ⟨p,t,_,_,rfl,rfl,cV.of (m2 _ _ e1),cV.of aB,ZW (by rw [aJz]; show _+1<=1000; omega),?g0,(fun z=>nomatch z),?g2⟩
 case g0 =>
  intro z;have sR:=m1.trans m2;have eR:aX H1 t (.tup [v]) t=some (.tup (xs.take i++[v])):=by rw [aB,z]; rfl
  generalize aX H1 t (.tup [v])=H3 at sR eR ⊢;generalize t=r at eR ⊢;refine ⟨_,rfl,_,rfl,_,_,rfl,rfl,_,rfl,a,_,rfl,cV.of (sR _ _ ha),(fun ⟨z,_⟩=>by rw [show ((i:Int)+1)=((i+1:Nat):Int) by push_cast; rfl,HT.qF] at z; omega),fun p2 hp2=>?_⟩;have m2:=aG hp2 (.tup (iI xs (some ((i:Int)+1)) none));have e2:aX H3 p2 (.tup (iI xs (some ((i:Int)+1)) none)) p2=some (.tup (xs.drop (i+1))):=by rw [aB,show ((i:Int)+1)=((i+1:Nat):Int) by push_cast; rfl,Ba _ _ (by omega)]
  generalize aX H3 p2 (.tup (iI xs (some ((i:Int)+1)) none))=H4 at m2 e2 ⊢;refine ⟨r,p2,_,_,rfl,rfl,cV.of (m2 _ _ eR),cV.of e2,ZW (by rw [aJv,aJz,aKt]; show _+1+_<=1000; omega),(fun z=>by simp at z),fun z=>?_,fun t2 ht2=>?_⟩
  ·refine k r H4 (sR.trans m2) ?_;rw [m2 _ _ eR,<- wC hi,z,aJZ]
  ·refine k t2 _ ((sR.trans m2).trans (aG ht2 _)) ?_;rw [aB,wC hi]
 case g2 =>
  intro r hr0;have sR:=(m1.trans m2).trans (aG hr0 (.tup (xs.take i++[v])));have eR:aX (aX H1 t (.tup [v])) r (.tup (xs.take i++[v])) r=some (.tup (xs.take i++[v])):=aB;generalize aX (aX H1 t (.tup [v])) r (.tup (xs.take i++[v]))=H3 at sR eR ⊢;refine ⟨_,rfl,_,rfl,_,_,rfl,rfl,_,rfl,a,_,rfl,cV.of (sR _ _ ha),(fun ⟨z,_⟩=>by rw [show ((i:Int)+1)=((i+1:Nat):Int) by push_cast; rfl,HT.qF] at z; omega),fun p2 hp2=>?_⟩;have m2:=aG hp2 (.tup (iI xs (some ((i:Int)+1)) none));have e2:aX H3 p2 (.tup (iI xs (some ((i:Int)+1)) none)) p2=some (.tup (xs.drop (i+1))):=by rw [aB,show ((i:Int)+1)=((i+1:Nat):Int) by push_cast; rfl,Ba _ _ (by omega)]
  generalize aX H3 p2 (.tup (iI xs (some ((i:Int)+1)) none))=H4 at m2 e2 ⊢;refine ⟨r,p2,_,_,rfl,rfl,cV.of (m2 _ _ eR),cV.of e2,ZW (by rw [aJv,aJz,aKt]; show _+1+_<=1000; omega),(fun z=>by simp at z),fun z=>?_,fun t2 ht2=>?_⟩
  ·refine k r H4 (sR.trans m2) ?_;rw [m2 _ _ eR,<- wC hi,z,aJZ]
  ·refine k t2 _ ((sR.trans m2).trans (aG ht2 _)) ?_;rw [aB,wC hi]
theorem sU {n:Nat}{f:Addr}{fd:FuncData}(F:dN K "__init__" "Case.__init__" (inClass (top 39) 0) f fd){c:Cs}{cC:Addr}(ca:Az K c cC){j_:Addr}(D_:mg "NoBox" = some (.ref j_))(X_:uG K j_){aF3:Addr}{aFT:FuncData}(aF4:z9 P w K mg base n "need_boxes" ["boxes"] (Ve c K j_) aF3 aFT)(h_:mg "tuple" = none):aP P w K mg base (o9 P w) (n+1) f fd ["self","boxes"] (JL c cC K j_):=by
 refine F.okX j5 (fun vs H Q E h=>?_) (fun cdv A outer s H vs Q E hr h=>?_)
 ·rcases h with ⟨x,dx,a,ys,rfl,_⟩ | ⟨x,v,rfl,_⟩ <;> rfl
 have nd:=j5.nd;refine ⟨_,(aD (fU (J5 aF4 hr gO (aA (pv 1) aC))) (yW.nox (aD (dF (pv 0) (cY (cL (K:=K) rfl) rfl h_ eV (aA (pv 1) aC)) rfl) (aD (dF (pv 0) (cY (cL (K:=K) rfl) rfl h_ eV (aA (cD (ls:=["box"]) (M:=["self","boxes"]) rfl (bJ.of (by rfl)) (NL.of (by rfl)) (bO (pv 1)) (fun _ _ _ _=>⟨(aQ (i:=0) (cH (by rfl)) rfl (Or.inl rfl)),b7,gM⟩)) aC)) rfl) (aD (dF (pv 0) (cY (cL (K:=K) rfl) rfl h_ eV (aA (cD (ls:=["box"]) (M:=["self","boxes"]) rfl (bJ.of (by rfl)) (NL.of (by rfl)) (bO (pv 1)) (fun _ _ _ _=>⟨(aQ (i:=0) (cH (by rfl)) rfl (Or.inl rfl)),b7,gH⟩)) aC)) rfl) (aD (dF (pv 0) aH rfl) (aF (dF (pv 0) (cW aC) rfl)))))))),?_⟩;rcases h with ⟨x,dx,a,ys,rfl,hx,ha,n1,n6,hst,k⟩ | ⟨x,v,rfl,hb,qE⟩
 rotate_left
 ·exact ⟨_,rfl,v,false,rfl,hb,(fun z=>nomatch z),fun _ H' s=>qE H' s⟩
 have bx:Bh c K H (.ref a) true:=My ha (fun v hv=>by
  obtain ⟨y,hy,rfl⟩:=aJe.mp hv;obtain ⟨s,d,m,st⟩:=hst y hy;exact .yes st) true (by rw [aI8,decide_eq_true (by omega),decide_eq_true (by omega)]; rfl)
 refine ⟨_,rfl,.ref a,true,rfl,bx,fun _ H1 s1=>?_,fun z=>nomatch z⟩;have ha1:=s1 _ _ ha;have hx1:=s1 _ _ hx;have nax:a≠x:=bI ha hx fun z=>nomatch z
 refine ⟨_,rfl,a,_,rfl,.inl ⟨bG.of ha1,fun tp htp=>?_⟩⟩;have np:=aG htp (.tup (ys.map V.ref));have ex:tp≠x:=fun z=>by rw [z,hx1] at htp; cases htp
 refine ⟨_,rfl,x,cC,dx,[],rfl,np _ _ hx1,ca.cl,ca.np,(by show 0<1000; decide),?_⟩;have k2:KX x H1 (aX (aX H1 tp (.tup (ys.map V.ref))) x (.ins cC dx (b8 "present" (.ref tp) []))):=(KX.of np).trans (KX.put _);have ep:aX (aX H1 tp (.tup (ys.map V.ref))) x (.ins cC dx (b8 "present" (.ref tp) [])) tp=some (.tup (ys.map V.ref)):=by rw [aK ex]; exact aB
 have hx2:aX (aX H1 tp (.tup (ys.map V.ref))) x (.ins cC dx (b8 "present" (.ref tp) [])) x=some (.ins cC dx [("present",.ref tp)]):=aB;generalize aX (aX H1 tp (.tup (ys.map V.ref))) x (.ins cC dx (b8 "present" (.ref tp) []))=H2 at k2 ep hx2 ⊢;refine ⟨_,rfl,a,rfl,⟨_,bG.of (k2 _ _ nax ha1)⟩,fun DL hDL=>?_⟩;refine bN (xs:=ys.map V.ref) (fun i τ H'=>∃ v0,τ = [v0,some (.ref x),some (.ref a)]/\aN H2 H'/\H' DL=some (.lst (((ys.map fun _=>V.non)).take i))) ⟨none,rfl,aG hDL _,aB⟩ ?keepL ?turnL ?doneL
 case keepL =>
  rintro i τ H' hi ⟨v0,rfl,hs,_⟩;exact bG.of (hs _ _ (k2 _ _ nax ha1))
 case turnL =>
  rintro i m v τ H' hm hi hv ⟨v0,rfl,hs,hD'⟩;have hi':i<ys.length:=by rw [aI8] at hi; exact hi
  refine rQ ?_;refine bB hm hi hD' (by rw [aJz,aI8]; exact aU (by omega)) ⟨_,rfl,hs.upd_new hDL _,?_⟩;rw [aB,take_snoc (x:=V.non) (by rw [aJh,aI7 hi']; rfl)]
 case doneL =>
 rintro τ HL ⟨v0,rfl,hsL,hDL'⟩;rw [show (ys.map V.ref).length=(ys.map fun _=>V.non).length by rw [aI8,aI8],aJw] at hDL';refine ⟨DL,_,rfl,.inl ⟨bG.of hDL',fun tL htL=>?_⟩⟩;have nL:=aG htL (.tup (ys.map fun _=>V.non));have hx3:=(hsL.trans nL) _ _ hx2;have el:tL≠x:=fun z=>by rw [z,hsL _ _ hx2] at htL; cases htL
 refine ⟨_,rfl,x,cC,dx,_,rfl,hx3,ca.cl,ca.nl,(by show 1<1000; decide),?_⟩;have k4:KX x H2 (aX (aX HL tL (.tup (ys.map fun _=>V.non))) x (.ins cC dx (b8 "lowest" (.ref tL) [("present",.ref tp)]))):=(KX.of (hsL.trans nL)).trans (KX.put _);have eL:aX (aX HL tL (.tup (ys.map fun _=>V.non))) x (.ins cC dx (b8 "lowest" (.ref tL) [("present",.ref tp)])) tL=some (.tup (ys.map fun _=>V.non)):=by rw [aK el]; exact aB
 have hx4:aX (aX HL tL (.tup (ys.map fun _=>V.non))) x (.ins cC dx (b8 "lowest" (.ref tL) [("present",.ref tp)])) x=some (.ins cC dx [("present",.ref tp),("lowest",.ref tL)]):=aB;generalize aX (aX HL tL (.tup (ys.map fun _=>V.non))) x (.ins cC dx (b8 "lowest" (.ref tL) [("present",.ref tp)]))=H4 at k4 eL hx4 ⊢;refine ⟨_,rfl,a,rfl,⟨_,bG.of (k4 _ _ nax (k2 _ _ nax ha1))⟩,fun DQ hDQ=>?_⟩;refine bN (xs:=ys.map V.ref) (fun i τ H'=>∃ v0,τ = [v0,some (.ref x),some (.ref a)]/\aN H4 H'/\H' DQ=some (.lst (((ys.map fun _=>V.bl false)).take i))) ⟨none,rfl,aG hDQ _,aB⟩ ?keepQ ?turnQ ?doneQ
 case keepQ =>
  rintro i τ H' hi ⟨v0,rfl,hs,_⟩;exact bG.of (hs _ _ (k4 _ _ nax (k2 _ _ nax ha1)))
 case turnQ =>
  rintro i m v τ H' hm hi hv ⟨v0,rfl,hs,hD'⟩;have hi':i<ys.length:=by rw [aI8] at hi; exact hi
  refine rQ ?_;refine bB hm hi hD' (by rw [aJz,aI8]; exact aU (by omega)) ⟨_,rfl,hs.upd_new hDQ _,?_⟩;rw [aB,take_snoc (x:=V.bl false) (by rw [aJh,aI7 hi']; rfl)]
 case doneQ =>
 rintro τ HQ ⟨v0,rfl,hsQ,hDQ'⟩;rw [show (ys.map V.ref).length=(ys.map fun _=>V.bl false).length by rw [aI8,aI8],aJw] at hDQ';refine ⟨DQ,_,rfl,.inl ⟨bG.of hDQ',fun tQ htQ=>?_⟩⟩;have nQ:=aG htQ (.tup (ys.map fun _=>V.bl false));have hx5:=(hsQ.trans nQ) _ _ hx4;have eq:tQ≠x:=fun z=>by rw [z,hsQ _ _ hx4] at htQ; cases htQ
 refine ⟨_,rfl,x,cC,dx,_,rfl,hx5,ca.cl,ca.nh,(by show 2<1000; decide),?_⟩;have k6:KX x H4 (aX (aX HQ tQ (.tup (ys.map fun _=>V.bl false))) x (.ins cC dx (b8 "held" (.ref tQ) [("present",.ref tp),("lowest",.ref tL)]))):=(KX.of (hsQ.trans nQ)).trans (KX.put _);have eQ:aX (aX HQ tQ (.tup (ys.map fun _=>V.bl false))) x (.ins cC dx (b8 "held" (.ref tQ) [("present",.ref tp),("lowest",.ref tL)])) tQ=some (.tup (ys.map fun _=>V.bl false)):=by rw [aK eq]; exact aB
 have hx6:aX (aX HQ tQ (.tup (ys.map fun _=>V.bl false))) x (.ins cC dx (b8 "held" (.ref tQ) [("present",.ref tp),("lowest",.ref tL)])) x=some (.ins cC dx [("present",.ref tp),("lowest",.ref tL),("held",.ref tQ)]):=aB;generalize aX (aX HQ tQ (.tup (ys.map fun _=>V.bl false))) x (.ins cC dx (b8 "held" (.ref tQ) [("present",.ref tp),("lowest",.ref tL)]))=H6 at k6 eQ hx6 ⊢;refine ⟨_,rfl,x,cC,dx,_,rfl,hx6,ca.cl,ca.ns,(by show 3<1000; decide),?_⟩;have k7:KX x H6 (aX H6 x (.ins cC dx (b8 "spent" (.int 0) [("present",.ref tp),("lowest",.ref tL),("held",.ref tQ)]))):=KX.put _;have hx7:aX H6 x (.ins cC dx (b8 "spent" (.int 0) [("present",.ref tp),("lowest",.ref tL),("held",.ref tQ)])) x=some (.ins cC dx [("present",.ref tp),("lowest",.ref tL),("held",.ref tQ),("spent",.int 0)]):=aB;generalize aX H6 x (.ins cC dx (b8 "spent" (.int 0) [("present",.ref tp),("lowest",.ref tL),("held",.ref tQ)]))=H7 at k7 hx7 ⊢;refine ⟨aJD _,fun td htd=>?_⟩;have n8:=aG htd (.tup []);have ed:td≠x:=fun z=>by rw [z,hx7] at htd; cases htd
 refine ⟨_,rfl,x,cC,dx,_,rfl,n8 _ _ hx7,ca.cl,ca.nd,(by show 4<1000; decide),?_⟩;have k8:KX x H7 (aX (aX H7 td (.tup [])) x (.ins cC dx (b8 "done" (.ref td) [("present",.ref tp),("lowest",.ref tL),("held",.ref tQ),("spent",.int 0)]))):=(KX.of n8).trans (KX.put _);have kL:=k6.trans (k7.trans k8);refine k tp tL tQ td _ (((KX.of s1).trans k2).trans (k4.trans kL)) aB ((k4.trans kL) _ _ ex ep) (kL _ _ el eL) ((k7.trans k8) _ _ eq eQ) ?_;rw [aK ed];exact aB
theorem wH {n:Nat}{f:Addr}{fd:FuncData}(F:dN K "behind" "Case.behind" (inClass (top 39) 12) f fd){c:Cs}{cC:Addr}(ca:Az K c cC){j_:Addr}{iC:Addr}{dC:FuncData}{kC:Nat}(aGF:Mk K cC iC)(aGG:aP P w K mg base (o9 P w) kC iC dC ["self","boxes"] (JL c cC K j_))(aGH:Binds K dC ["self","boxes"] [])(aFb:mg "Case" = some (.ref cC))(aF5:kC+1<=n)(o_:mg "list" = none):aP P w K mg base cN (n+1) f fd ["self","deed"] (Lr c cC):=by
 refine F.ok mO (fun vs H Q E h=>?_) (fun cdv A outer s H vs Q E hr h=>?_)
 ·obtain ⟨x,dq,q,rfl,_⟩:=h
  rfl
 obtain ⟨x,dq,q,rfl,h,hd,h9,k⟩:=h;have nd:=mO.nd;refine ⟨_,(aD (aY (i:=2) nd rfl (Or.inl rfl) (jL aGF aGG (hr.mono aF5) rfl aFb aGH .nil jJ (aA (cY pG rfl o_ jG (aA (dI (pv 0) rfl) aC)) aC))) (aD (dF (pv 2) (dI (pv 0) rfl) rfl) (aD (dF (pv 2) (dI (pv 0) rfl) rfl) (aD (dF (pv 2) (dI (pv 0) rfl) rfl) (aD (dF (pv 2) (aW zH (dI (pv 0) rfl) (cW (aA (pv 1) aC))) rfl) (aF (aO (pv 2)))))))),?_⟩;have n6:=h.n6;refine ⟨_,rfl,x,cC,_,_,_,rfl,h.hx,ca.cl,ca.np,rfl,?_⟩;refine ⟨q.tp,_,rfl,.inr (cV.of h.hp),fun r hr0=>?_⟩;have s1:=aG hr0 (.lst (q.ys.map V.ref));have er:aX H r (.lst (q.ys.map V.ref)) r=some (.lst (q.ys.map V.ref)):=aB;generalize aX H r (.lst (q.ys.map V.ref))=H1 at s1 er ⊢;intro x2 dx2 hx2 hdx2 nd2;have nO:=nJ (o1:=.own x2) (o2:=.ins cC dx2 []) hx2 hdx2 nd2;have h1:=h.kt (aN.kt (s1.trans nO));refine .inl ⟨x2,dx2,r,q.ys,rfl,aB,nO _ _ er,h.n1,h.n6,(fun y hy=>?_),fun tp tl th td H3 kx hx3 htp htl hth htd=>⟨rfl,?_⟩⟩
 ·obtain ⟨i,hi,rfl⟩:=aKH.mp hy;exact ⟨_,_,_,(h1.st i _ _ (aI7 hi) (aI7 (by rw [h.es]; exact hi))).1⟩
 have s3:aN H H3:=s1.trans (made hx2 hdx2 kx);have hxn:H x2=none:=by
  cases e:H x2 with
  | none=>rfl
  | some o=>rw [s1 _ _ e] at hx2; cases hx2
 have nx:x≠x2:=fun z=>by rw [<- z,h.hx] at hxn; cases hxn
 have e3:=s3 _ _ h.hx;refine ⟨_,rfl,x,cC,_,_,_,rfl,e3,ca.cl,ca.nl,rfl,_,rfl,x2,cC,dx2,_,rfl,hx3,ca.cl,ca.nl,(by show 5<1000; decide),?_⟩;refine ⟨_,rfl,x,cC,_,_,_,rfl,(by rw [aK nx]; exact e3),ca.cl,ca.nh,rfl,_,rfl,x2,cC,dx2,_,rfl,aB,ca.cl,ca.nh,(by show 5<1000; decide),?_⟩;refine ⟨_,rfl,x,cC,_,_,_,rfl,(by rw [aK nx,aK nx]; exact e3),ca.cl,ca.ns,rfl,_,rfl,x2,cC,dx2,_,rfl,aB,ca.cl,ca.ns,(by show 5<1000; decide),?_⟩;have k4:KX x2 H3 (aX (aX (aX H3 x2 (.ins cC dx2 (b8 "lowest" (.ref q.tl) (qP tp tl th 0 td)))) x2 (.ins cC dx2 (b8 "held" (.ref q.th) (b8 "lowest" (.ref q.tl) (qP tp tl th 0 td))))) x2 (.ins cC dx2 (b8 "spent" (.int q.sp) (b8 "held" (.ref q.th) (b8 "lowest" (.ref q.tl) (qP tp tl th 0 td)))))):=((KX.put _).trans (KX.put _)).trans (KX.put _);have hx4:aX (aX (aX H3 x2 (.ins cC dx2 (b8 "lowest" (.ref q.tl) (qP tp tl th 0 td)))) x2 (.ins cC dx2 (b8 "held" (.ref q.th) (b8 "lowest" (.ref q.tl) (qP tp tl th 0 td))))) x2 (.ins cC dx2 (b8 "spent" (.int q.sp) (b8 "held" (.ref q.th) (b8 "lowest" (.ref q.tl) (qP tp tl th 0 td))))) x2=some (.ins cC dx2 (qP tp q.tl q.th q.sp td)):=aB;generalize aX (aX (aX H3 x2 (.ins cC dx2 (b8 "lowest" (.ref q.tl) (qP tp tl th 0 td)))) x2 (.ins cC dx2 (b8 "held" (.ref q.th) (b8 "lowest" (.ref q.tl) (qP tp tl th 0 td))))) x2 (.ins cC dx2 (b8 "spent" (.int q.sp) (b8 "held" (.ref q.th) (b8 "lowest" (.ref q.tl) (qP tp tl th 0 td)))))=H4 at k4 hx4 ⊢;have e4:=k4 _ _ nx e3;have s4:aN H H4:=fun b o e=>k4 b o (aV e hxn) (s3 b o e);refine ⟨_,rfl,x,cC,_,_,_,rfl,e4,ca.cl,ca.nd,rfl,_,rfl,R4,fun t ht=>?_⟩;have n5:=aG ht (.tup [V.ref dq]);have e5:aX H4 t (.tup [V.ref dq]) t=some (.tup [V.ref dq]):=aB;have hx5:=n5 _ _ hx4;have s5:=s4.trans n5;have tx:tp≠x2:=bI htp hx3 fun z=>nomatch z
 have ep5:=n5 _ _ (k4 _ _ tx htp);generalize aX H4 t (.tup [V.ref dq])=H5 at n5 e5 hx5 s5 ep5 ⊢;have fin:∀ (t2:Addr) (H6:Hp),aN H5 H6->H6 t2=some (.tup ((q.ds++[dq]).map V.ref))->t2≠x2->Q (.ref x2) (aX H6 x2 (.ins cC dx2 (qP tp q.tl q.th q.sp t2))):=fun t2 H6 s6 e6 n26=>by
  have s7:aN H (aX H6 x2 (.ins cC dx2 (qP tp q.tl q.th q.sp t2))):=fun b o e=>by rw [aK (aV e hxn)]; exact s6 _ _ (s5 _ _ e)
  have h7:=h.kt (aN.kt s7);refine k x2 dx2 tp t2 _ hxn s7 ⟨aB,?_,h7.hl,h7.hh,?_,h7.n1,h7.n6,h7.es,h7.el,h7.eb,h7.st,h7.cp,h7.en,fun d hd'=>?_,?_⟩
  ·rw [aK tx]; exact s6 _ _ ep5
  ·rw [aK n26]; exact e6
  ·rcases aJy.mp hd' with e | e
   ·exact h7.dd d e
   ·rw [aJk.mp e]; exact hd.kt (aN.kt s7)
  ·show (q.ds++[dq]).length<=100;rw [aJv];show _+1<=100;omega
 refine ⟨q.td,t,_,_,rfl,rfl,cV.of (s5 _ _ h.hd),cV.of e5,ZW (by rw [aI8]; show _+1<=1000; omega),fun z=>?_,(fun z=>nomatch z),fun t2 ht2=>?_⟩
 ·refine ⟨_,rfl,x2,cC,dx2,_,rfl,hx5,ca.cl,ca.nd,(by show 5<1000; decide),?_⟩;refine ⟨_,rfl,?_⟩;refine fin t H5 (aN.refl _) ?_ (bI e5 hx5 fun z=>nomatch z);rw [e5,aJj,z]
  rfl
 ·have n6':=aG ht2 (.tup (q.ds.map V.ref++[V.ref dq]));refine ⟨_,rfl,x2,cC,dx2,_,rfl,n6' _ _ hx5,ca.cl,ca.nd,(by show 5<1000; decide),?_⟩;refine ⟨_,rfl,?_⟩;refine fin t2 _ n6' ?_ (fun z=>by rw [z,hx5] at ht2; cases ht2);rw [aB,aJj]
  rfl
theorem vA {n:Nat}{f:Addr}{fd:FuncData}(F:dN K "opened" "Case.opened" (inClass (top 39) 13) f fd){c:Cs}{cC:Addr}(ca:Az K c cC)(ck:CK K c){g_:Addr}(N_:mg "NoDeed" = some (.ref g_))(aEq:uG K g_){aFB:Addr}{aEs:FuncData}(aE2:cF K cC "stand" aFB)(aE3:aP P w K mg base (o9 P w) n aFB aEs ["self","box"] (DP c cC g_))(aE4:Binds K aEs ["self","box"] []){aII:Addr}{aIj:FuncData}(aIV:cF K cC "cap" aII)(aIW:aP P w K mg base (o9 P w) n aII aIj ["self","box"] (J4 c cC g_))(aIX:Binds K aIj ["self","box"] []){aGj:Addr}{aFj:FuncData}(aHC:cF K c.e "is_end" aGj)(aHD:aP P w K mg base cN n aGj aFj ["self"] (nZ c true))(aHE:Binds K aFj ["self"] []){aGk:Addr}{aFk:FuncData}(aHF:cF K c.s "is_end" aGk)(aHG:aP P w K mg base cN n aGk aFk ["self"] (nZ c false))(aHH:Binds K aFk ["self"] []){aIk:Addr}{aHI:FuncData}(aFC:cF K c.s "reserve" aIk)(aIl:aP P w K mg base cN n aIk aHI ["self"] (nT c))(aIm:Binds K aHI ["self"] []){aIJ:Addr}{aIn:FuncData}(aIY:cF K c.s "after" aIJ)(aIZ:aP P w K mg base cN n aIJ aIn ["self","row"] (SM c))(aI0:Binds K aIn ["self","row"] []){aHJ:Addr}{aGl:FuncData}(aIw:cF K cC "behind" aHJ)(aIx:aP P w K mg base cN n aHJ aGl ["self","deed"] (Lr c cC))(aIy:Binds K aGl ["self","deed"] []){aEe:Addr}{aDA:FuncData}(Q_:dY P w K mg base n "with_thing" ["things","place","thing"] (RW K) aEe aDA){aFv:Addr}{aE9:FuncData}(aFw:dY P w K mg base n "lesser" ["one","other"] (QQ K) aFv aE9){m_:Addr}{k_:FuncData}(n_:dY P w K mg base n "is_whole" ["thing","least","most"] pA m_ k_)(l_:mg "len" = none):aP P w K mg base (o9 P w) (n+1) f fd ["self","box","row"] (Ph c cC):=by
 refine F.okX mH (fun vs H Q E h=>?_) (fun cdv A outer s H vs Q E hr h=>?_)
 ·obtain ⟨x,i,j,q,p,rs,d,m,rfl,_⟩:=h
  rfl
 have nd:=mH.nd;refine ⟨_,(aD (aY (i:=3) nd rfl (Or.inl rfl) (bT (pv 0) ca.cl aE2 aE3 hr aE4 .nil gO (aA (pv 1) aC))) (aD (bZ (PT.nox (PW.pt (iB (bD (d8 (bF (pv 3) ck.ce aHC aHD hr aHE .nil bR) (bF (pv 3) ck.cs aHF aHG hr aHH .nil bR))) (fW (cG (bD (aJ n_ hr (aA (pv 2) (aA aH (aA (aW jU (aR bU rfl l_ fV (aA (dI (pv 3) rfl) aC)) aH) aC)))))))))) (aF (gY fX rfl rfl N_ aEq)) bA) (aD (aY (i:=4) nd rfl (Or.inl rfl) (bT (pv 0) ca.cl aIV aIW hr aIX .nil gO (aA (pv 1) aC))) (yW.nox (aD (aY (i:=5) nd rfl (Or.inl rfl) (pJ (bV oX (pv 4) gM (bW _)) (bF (pv 3) ck.cs aFC aIl hr aIm .nil bR) (aJ aFw hr (aA (pv 4) (aA (bF (pv 3) ck.cs aFC aIl hr aIm .nil bR) aC))))) (aD (aY (i:=6) nd rfl (Or.inl rfl) (bT (pv 0) ca.cl aIw aIx hr aIy .nil bR (aA (cW (aA fL (aA (pv 1) (aA (pv 2) aC)))) aC))) (aD (dF (pv 6) (aJ Q_ hr (aA (dI (pv 0) rfl) (aA (pv 1) (aA (bT (pv 3) ck.cs aIY aIZ hr aI0 .nil bR (aA (pv 2) aC)) aC)))) rfl) (aD (dF (pv 6) (aJ Q_ hr (aA (dI (pv 0) rfl) (aA (pv 1) (aA (pv 5) aC)))) rfl) (aD (dF (pv 6) (aW eY (dI (pv 0) rfl) (dI (pv 3) rfl)) rfl) (aF (aO (pv 6)))))))))))),?_⟩;obtain ⟨x,i,j,q,p,rs,d,m,rfl,h,ei,hj,h9,k⟩:=h;have es:=h.es;have el:=h.el;have ebl:=h.eb;have n6:=h.n6;have hi:i<q.ys.length:=by have:=(aJl.mp ei).1; omega
 have ey:q.ys[i]? = some q.ys[i]:=aI7 hi;refine ⟨_,rfl,x,_,_,rfl,h.hx,rfl,_,rfl,x,.int (i:Int),q,true,rfl,h,pF.yes (by omega) (by omega),fun j0 y e1 e2=>?_,(fun z=>nomatch z)⟩;obtain rfl:i=j0:=by injection e1 with e1; omega
 obtain rfl:q.ys[i]=y:=by rw [aI7 (by omega)] at e2; exact aJU.inj e2
 have d12:=(h.st i _ _ ey ei).2;have st0:=(h.st i _ _ ey ei).1;have st:=st0;cases st with
 | @st _ dx l0 cp0 r0 _ n' k' lv2 d0 _ jj xs _ ps zs hh vv g lp ly row sub p0 p9 ne l4 ww hk =>
 refine .inr ⟨_,rfl,q.ys[i],_,_,rfl,hh,rfl,q.ys[i],rfl,?_⟩;refine ⟨_,rfl,?_⟩;refine dM ?_;refine ⟨_,rfl,_,rfl,q.ys[i],c.s,_,_,_,rfl,hh,ck.cs,ck.s6,rfl,r0,_,rfl,.inr (cV.of g),_,_,rfl,rfl,.int (j:Int),0,_,true,rfl,(by rw [aI8,lp]; exact pF.yes (by omega) (by omega)),?_⟩;refine ⟨_,rfl,?_⟩;refine dM ?_;refine ⟨_,rfl,x,_,_,rfl,h.hx,rfl,_,rfl,x,.int (i:Int),q,true,rfl,h,pF.yes (by omega) (by omega),fun j0 y e1 e2=>?_,(fun z=>nomatch z)⟩;obtain rfl:i=j0:=by injection e1 with e1; omega
 have cp:=h.cp y (aJg e2)
 refine' join (fun L=>∃ lv rv:Int×Int,Tq H L lv/\Sd.Lw lv/\Sd.Lw rv/\Sd.Rv (.st p rs) (d0+1) rv/\((q.ls[i]? = some .non/\lv=rv)∨∃ l0 lv0,q.ls[i]? = some (.ref l0)/\Tq H l0 lv0/\lv=if rv.1*lv0.2<lv0.1*rv.2 then rv else lv0)) (fun rest=>?main) ?rst
 case main =>
  have cpd:y=.non∨∃ ca0 lv0,y=.ref ca0/\Tq H ca0 lv0/\Sd.Lw lv0:=by
   cases cp with
   | non=>exact .inl rfl
   | @sh ca0 lv0 tq0 lw0=>exact .inr ⟨ca0,lv0,rfl,tq0,lw0⟩
  refine ⟨_,rfl,rfl,_,rfl,?_⟩;rcases cpd with ey0 | ⟨ca0,lv0,ey0,tq0,lw0⟩
  ·refine m5 (decide_eq_true ey0) ?_;refine ⟨_,rfl,q.ys[i],_,_,rfl,hh,rfl,q.ys[i],.st p rs,_,m,rfl,st0,fun l lv tq lw rv=>?_⟩;exact rest l ⟨lv,lv,tq,lw,lw,rv,.inl ⟨ey0 ▸ e2,rfl⟩⟩
  ·refine mY (decide_eq_false (fun z=>by rw [ey0] at z; cases z)) ?_;refine ⟨_,rfl,_,rfl,q.ys[i],_,_,rfl,hh,rfl,q.ys[i],.st p rs,_,m,rfl,st0,fun l lv tq lw rv=>?_⟩;have z1:=Dp lw0;have z2:=Dp lw;refine ⟨ca0,l,lv0.1,lv0.2,lv.1,lv.2,congrArg (fun z=>[z,V.ref l]) ey0,cV.of tq0,cV.of tq,⟨aJc z1.t (by decide),aJc z1.b (by decide),aJc z2.t (by decide),aJc z2.b (by decide)⟩,fun hlt=>?_,fun hlt=>?_⟩
   ·exact rest l ⟨lv,lv,tq,lw,lw,rv,.inr ⟨ca0,lv0,ey0 ▸ e2,tq0,(if_pos hlt).symm⟩⟩
   ·rw [ey0];exact rest ca0 ⟨lv0,lv,tq0,lw0,lw,rv,.inr ⟨ca0,lv0,ey0 ▸ e2,tq0,(if_neg hlt).symm⟩⟩
 case rst =>
 rintro l ⟨lv,rv,tq,lw,lwr,hrv,hnc⟩;refine ⟨_,rfl,x,_,_,rfl,h.hx,rfl,_,rfl,_,rfl,Yo,fun t ht=>?_⟩;have n1:=aG ht (.tup [.str "open",.int (i:Int),.int (j:Int)]);refine ⟨x,t,q,rfl,h.kt (aN.kt n1),.op aB,h9,fun x2 dx2 tp td H2 hxn s2 ca2=>?_⟩;have hxn:H x2=none:=by
  cases e:H x2 with
  | none=>rfl
  | some o=>rw [n1 _ _ e] at hxn; cases hxn
 have mC:=n1.trans s2;have h2:=h.kt (aN.kt mC);have nx:x≠x2:=fun z=>by rw [<- z,h.hx] at hxn; cases hxn
 have st2:=st0.kp (aN.kp mC);have hh2:=mC _ _ hh;have ej:rs[j]? = some rs[j]:=aI7 hj;refine ⟨_,rfl,x,cC,_,_,_,rfl,h2.hx,ca.cl,ca.np,rfl,_,rfl,_,rfl,q.ys[i],_,_,rfl,hh2,rfl,_,rfl,q.ys[i],p,rs,d0,m,j,rs[j],rfl,st2,ej,fun y2 j2 hj2 st3=>?_⟩;refine ⟨q.tp,_,i,.ref y2,rfl,h2.hp,by rw [aI8]; exact hi,by rw [aI8]; omega,fun t2 H3 s3 e3=>?_⟩;have hx3:=s3 _ _ ca2.hx;refine ⟨_,rfl,x2,cC,dx2,_,rfl,hx3,ca.cl,ca.np,(by show 5<1000; decide),?_⟩;have k4:KX x2 H3 (aX H3 x2 (.ins cC dx2 (b8 "present" (.ref t2) (qP tp q.tl q.th q.sp td)))):=KX.put _;have hx4:aX H3 x2 (.ins cC dx2 (b8 "present" (.ref t2) (qP tp q.tl q.th q.sp td))) x2=some (.ins cC dx2 (qP t2 q.tl q.th q.sp td)):=aB;have e4:=k4 _ _ (bI e3 hx3 fun z=>nomatch z) e3;generalize aX H3 x2 (.ins cC dx2 (b8 "present" (.ref t2) (qP tp q.tl q.th q.sp td)))=H4 at k4 hx4 e4 ⊢;have s4:aN H H4:=fun b o e=>k4 b o (aV e hxn) (s3 _ _ (mC b o e));have h4:=h.kt (aN.kt s4);refine ⟨_,rfl,x,cC,_,_,_,rfl,h4.hx,ca.cl,ca.nl,rfl,_,rfl,_,rfl,q.tl,_,i,.ref l,rfl,h4.hl,by omega,by omega,fun t5 H5 s5 e5=>?_⟩;have hx5:=s5 _ _ hx4;refine ⟨_,rfl,x2,cC,dx2,_,rfl,hx5,ca.cl,ca.nl,(by show 5<1000; decide),?_⟩;have k6:KX x2 H5 (aX H5 x2 (.ins cC dx2 (b8 "lowest" (.ref t5) (qP t2 q.tl q.th q.sp td)))):=KX.put _;have hx6:aX H5 x2 (.ins cC dx2 (b8 "lowest" (.ref t5) (qP t2 q.tl q.th q.sp td))) x2=some (.ins cC dx2 (qP t2 t5 q.th q.sp td)):=aB;have e6:=k6 _ _ (bI e5 hx5 fun z=>nomatch z) e5;have e46:=k6 _ _ (bI (s5 _ _ e4) hx5 fun z=>nomatch z) (s5 _ _ e4);generalize aX H5 x2 (.ins cC dx2 (b8 "lowest" (.ref t5) (qP t2 q.tl q.th q.sp td)))=H6 at k6 hx6 e6 e46 ⊢;have s6:aN H H6:=fun b o e=>k6 b o (aV e hxn) (s5 _ _ (s4 b o e));have h6:=h.kt (aN.kt s6);have kx26:KX x2 H2 H6:=((KX.of s3).trans k4).trans ((KX.of s5).trans k6);refine ⟨_,rfl,x,cC,_,_,_,rfl,h6.hx,ca.cl,ca.ns,rfl,_,rfl,q.ys[i],c.s,_,_,_,rfl,s6 _ _ hh,ck.cs,ck.s5,rfl,_,_,rfl,rfl,?_⟩;refine ⟨_,rfl,x2,cC,dx2,_,rfl,hx6,ca.cl,ca.ns,(by show 5<1000; decide),?_⟩;have k7:KX x2 H6 (aX H6 x2 (.ins cC dx2 (b8 "spent" (.int (q.sp+p)) (qP t2 t5 q.th q.sp td)))):=KX.put _;have s7:aN H (aX H6 x2 (.ins cC dx2 (b8 "spent" (.int (q.sp+p)) (qP t2 t5 q.th q.sp td)))):=fun b o e=>k7 b o (aV e hxn) (s6 b o e);have h7:=h.kt (aN.kt s7);have kx27:=kx26.trans k7;have st7:dU c (aX H6 x2 (.ins cC dx2 (b8 "spent" (.int (q.sp+p)) (qP t2 t5 q.th q.sp td)))) y2 rs[j].2 d0 j2:=dU.kx ca.ne ca.nS kx27 ca2.hx st3;refine ⟨_,rfl,?_⟩;refine k x2 ⟨dx2,t2,t5,q.th,td,q.ys.set i y2,q.ss.set i (rs[j].2,d0,j2),q.ls.set i (.ref l),q.bs,q.sp+p,q.ds++[t]⟩ _ s7 ⟨aB,?_,?_,h7.hh,?_,?_,?_,?_,?_,?_,?_,?_,?_,?_,?_⟩ ?_ ⟨rs[j],d0,j2,ej,rfl⟩ rfl ⟨l,lv,rv,rfl,s7 _ _ tq,lw,lwr,hrv,hnc⟩ rfl ⟨t,rfl,kx27 _ _ (bI (s2 _ _ aB) ca2.hx fun z=>nomatch z) (s2 _ _ aB)⟩
 ·rw [aK (bI e46 hx6 fun z=>nomatch z),aK9]; exact e46
 ·rw [aK (bI e6 hx6 fun z=>nomatch z)]; exact e6
 ·exact kx27 _ _ (bI ca2.hd ca2.hx fun z=>nomatch z) ca2.hd
 ·rw [aJK]; exact h.n1
 ·rw [aJK]; exact h.n6
 ·rw [aJK,aJK]; exact h.es
 ·rw [aJK,aJK]; exact h.el
 ·rw [aJK]; exact h.eb
 ·intro a y0 s0 ea eb0;rw [aJ7] at ea eb0
  by_cases hia:i=a
  ·rw [if_pos hia,if_pos (by omega)] at ea eb0;cases ea;cases eb0;exact ⟨st7,by have d13:d0+1<=4:=d12.1; show d0<=4; omega,by have d14:m<=12:=d12.2; show j2<=12; omega⟩
  ·rw [if_neg hia] at ea eb0;exact h7.st a y0 s0 ea eb0
 ·intro l0 hl0;rcases aLf hl0 with e | e
  ·exact h7.cp l0 e
  ·rw [e]; exact .sh (s7 _ _ tq) lw
 ·intro a s0 ea eb0;rw [aJ7] at eb0
  by_cases hia:i=a
  ·subst hia;obtain ⟨v0,z⟩:=h.en i _ ea ei;cases z
  ·rw [if_neg hia] at eb0;exact h.en a s0 ea eb0
 ·intro d' hd';exact uB.kx kx27 ca2.hx (ca2.dd d' hd')
 ·exact ca2.d9
 ·rw [aJK]
theorem wW {n:Nat}{f:Addr}{fd:FuncData}(F:dN K "taken" "Case.taken" (inClass (top 39) 14) f fd){c:Cs}{cC:Addr}(ca:Az K c cC)(ck:CK K c){g_:Addr}(N_:mg "NoDeed" = some (.ref g_))(aEq:uG K g_){aFB:Addr}{aEs:FuncData}(aE2:cF K cC "stand" aFB)(aE3:aP P w K mg base (o9 P w) n aFB aEs ["self","box"] (DP c cC g_))(aE4:Binds K aEs ["self","box"] []){aGj:Addr}{aFj:FuncData}(aHC:cF K c.e "is_end" aGj)(aHD:aP P w K mg base cN n aGj aFj ["self"] (nZ c true))(aHE:Binds K aFj ["self"] []){aGk:Addr}{aFk:FuncData}(aHF:cF K c.s "is_end" aGk)(aHG:aP P w K mg base cN n aGk aFk ["self"] (nZ c false))(aHH:Binds K aFk ["self"] []){aHJ:Addr}{aGl:FuncData}(aIw:cF K cC "behind" aHJ)(aIx:aP P w K mg base cN n aHJ aGl ["self","deed"] (Lr c cC))(aIy:Binds K aGl ["self","deed"] []){aEe:Addr}{aDA:FuncData}(Q_:dY P w K mg base n "with_thing" ["things","place","thing"] (RW K) aEe aDA):aP P w K mg base (o9 P w) (n+1) f fd ["self","box"] (Oe c cC):=by
 refine F.okX nU (fun vs H Q E h=>?_) (fun cdv A outer s H vs Q E hr h=>?_)
 ·obtain ⟨x,i,q,u,d,m,rfl,_⟩:=h
  rfl
 have nd:=nU.nd;refine ⟨_,(aD (bZ (PW.pt (iB (cG (bD (d8 (bF (bT (pv 0) ca.cl aE2 aE3 hr aE4 .nil gO (aA (pv 1) aC)) ck.ce aHC aHD hr aHE .nil bR) (bF (bT (pv 0) ca.cl aE2 aE3 hr aE4 .nil gO (aA (pv 1) aC)) ck.cs aHF aHG hr aHH .nil bR)))) (fW (bD (bQ cQ (dI (pv 0) rfl) (pv 1) (fun _ _=>rfl)))))) (aF (gY fX rfl rfl N_ aEq)) bA) (yW.nox (aD (aY (i:=2) nd rfl (Or.inl rfl) (bT (pv 0) ca.cl aIw aIx hr aIy .nil bR (aA (cW (aA fL (aA (pv 1) aC))) aC))) (aD (dF (pv 2) (aJ Q_ hr (aA (dI (pv 0) rfl) (aA (pv 1) (aA gH aC)))) rfl) (aF (aO (pv 2))))))),?_⟩;obtain ⟨x,i,q,u,d,m,rfl,h,ei,eb,h9,k⟩:=h;have es:=h.es;have el:=h.el;have ebl:=h.eb;have n6:=h.n6;have hi:i<q.ys.length:=by have:=(aJl.mp ei).1; omega
 have ey:q.ys[i]? = some q.ys[i]:=aI7 hi;refine .inl ⟨_,rfl,x,_,_,rfl,h.hx,rfl,_,rfl,x,.int (i:Int),q,true,rfl,h,pF.yes (by omega) (by omega),fun j0 y e1 e2=>?_,(fun z=>nomatch z)⟩;obtain rfl:i=j0:=by injection e1 with e1; omega
 obtain rfl:q.ys[i]=y:=by rw [aI7 (by omega)] at e2; exact aJU.inj e2
 have st:=(h.st i _ _ ey ei).1;cases st with
 | en hh vv ok =>
 refine ⟨q.ys[i],_,_,rfl,hh,rfl,q.ys[i],rfl,?_⟩;refine ⟨_,rfl,?_⟩;refine dM ?_;refine ⟨_,rfl,x,cC,_,_,_,rfl,h.hx,ca.cl,ca.nh,rfl,_,rfl,q.th,_,_,_,rfl,rfl,cV.of h.hh,dZ (v:=V.bl false) (by rw [aJh,eb]; rfl),?_⟩;refine ⟨_,rfl,?_⟩;refine dM ?_;refine ⟨_,rfl,x,_,_,rfl,h.hx,rfl,_,rfl,uL,fun t ht=>?_⟩;have n1:=aG ht (.tup [.str "take",.int (i:Int)]);refine ⟨x,t,q,rfl,h.kt (aN.kt n1),.tk aB,h9,fun x2 dx2 tp td H2 hxn s2 ca2=>?_⟩;have hxn:H x2=none:=by
  cases e:H x2 with
  | none=>rfl
  | some o=>rw [n1 _ _ e] at hxn; cases hxn
 have mC:=n1.trans s2;have h2:=h.kt (aN.kt mC);refine ⟨_,rfl,x,cC,_,_,_,rfl,h2.hx,ca.cl,ca.nh,rfl,_,rfl,q.th,_,i,.bl true,rfl,h2.hh,by rw [aI8]; omega,by rw [aI8]; omega,fun t2 H3 s3 e3=>?_⟩;have hx3:=s3 _ _ ca2.hx;refine ⟨_,rfl,x2,cC,dx2,_,rfl,hx3,ca.cl,ca.nh,(by show 5<1000; decide),?_⟩;have k4:KX x2 H3 (aX H3 x2 (.ins cC dx2 (b8 "held" (.ref t2) (qP tp q.tl q.th q.sp td)))):=KX.put _;have k24:KX x2 H2 (aX H3 x2 (.ins cC dx2 (b8 "held" (.ref t2) (qP tp q.tl q.th q.sp td)))):=(KX.of s3).trans k4;have s4:aN H (aX H3 x2 (.ins cC dx2 (b8 "held" (.ref t2) (qP tp q.tl q.th q.sp td)))):=fun b o e=>k4 b o (aV e hxn) (s3 _ _ (mC b o e));have h4:=h.kt (aN.kt s4);refine ⟨_,rfl,?_⟩;refine k x2 ⟨dx2,tp,q.tl,t2,td,q.ys,q.ss,q.ls,q.bs.set i true,q.sp,q.ds++[t]⟩ _ s4 ⟨aB,?_,h4.hl,?_,?_,h.n1,h.n6,h.es,h.el,?_,h4.st,h4.cp,?_,?_,ca2.d9⟩ rfl rfl rfl rfl rfl ⟨t,rfl,k24 _ _ (bI (s2 _ _ aB) ca2.hx fun z=>nomatch z) (s2 _ _ aB)⟩
 ·exact k24 _ _ (bI ca2.hp ca2.hx fun z=>nomatch z) ca2.hp
 ·rw [aK (bI e3 hx3 fun z=>nomatch z),aK9]; exact e3
 ·exact k24 _ _ (bI ca2.hd ca2.hx fun z=>nomatch z) ca2.hd
 ·rw [aJK]; exact h.eb
 ·intro a s0 ea es0;rw [aJ7] at ea
  by_cases hia:i=a
  ·subst hia;rw [ei] at es0;cases es0;exact ⟨u,rfl⟩
  ·rw [if_neg hia] at ea;exact h.en a s0 ea es0
 ·intro d' hd';exact uB.kx k24 ca2.hx (ca2.dd d' hd')
theorem wY {n:Nat}{f:Addr}{fd:FuncData}(F:dN K "is_end" "End.is_end" (inClass (top 31) 1) f fd){c:Cs}:aP P w K mg base cN (n+1) f fd ["self"] (nZ c true):=by
 refine F.ok oR (fun vs H Q E h=>?_) (fun cdv A outer s H vs Q E hr h=>?_)
 ·obtain ⟨x,rfl,_⟩:=h
  rfl
 obtain ⟨x,rfl,q⟩:=h;have nd:=oR.nd;refine ⟨_,(aF (aO gH)),?_⟩;exact q
theorem uI {n:Nat}{f:Addr}{fd:FuncData}(F:dN K "is_end" "Stage.is_end" (inClass (top 32) 1) f fd){c:Cs}:aP P w K mg base cN (n+1) f fd ["self"] (nZ c false):=by
 refine F.ok lQ (fun vs H Q E h=>?_) (fun cdv A outer s H vs Q E hr h=>?_)
 ·obtain ⟨x,rfl,_⟩:=h
  rfl
 obtain ⟨x,rfl,q⟩:=h;have nd:=lQ.nd;refine ⟨_,(aF (aO gH)),?_⟩;exact q
section
variable {c:Cs}{H H':Hp}
theorem Mp (kt:∀ b xs,H b=some (.tup xs)->H' b=some (.tup xs))(ki:∀ b C dx f fs,H b=some (.ins C dx (f::fs))->H' b=some (.ins C dx (f::fs))){ps ys:List Addr}{rs:List (Int×Sd.Sd)}{d:Nat}{j:Int×Sd.Sd->Nat}(h:uO c H ps ys rs d j):uO c H' ps ys rs d j :=
 ⟨h.lp,h.ly,fun i q y t a b e=>kt _ _ (h.row i q y t a b e),fun i y t a b=>zX kt ki (h.sub i y t a b)⟩
theorem pK {α:Type}{l:List α}{x y:α}{i:Nat}(h:(l++[x])[i]? = some y):(i<l.length/\l[i]? = some y)∨(i=l.length/\y=x):=by
 by_cases hi:i<l.length
 ·exact .inl ⟨hi,by rwa [aKa hi] at h⟩
 ·have h2:=(aJl.mp h).1;rw [aJv,aK0] at h2;have e:i=l.length:=by omega
  subst e;rw [aJW (aJd _),Nat.sub_self] at h;cases h;exact .inr ⟨rfl,rfl⟩
theorem N7 {ps ys:List Addr}{rs:List (Int×Sd.Sd)}{d:Nat}{j:Int×Sd.Sd->Nat}(h:uO c H ps ys rs d j){q y:Addr}{t:Int×Sd.Sd}(hq:H q=some (.tup [.int t.1,.ref y]))(hy:dU c H y t.2 d (j t)):uO c H (ps++[q]) (ys++[y]) (rs++[t]) d j:=by
 have l1:=h.lp;have l2:=h.ly;refine ⟨by simp [l1],by simp [l2],fun i q' y' t' a b c=>?_,fun i y' t' b c=>?_⟩
 ·rcases pK a with ⟨i1,a⟩ | ⟨i1,rfl⟩ <;> rcases pK b with ⟨i2,b⟩ | ⟨i2,rfl⟩ <;> rcases pK c with ⟨i3,c⟩ | ⟨i3,rfl⟩
  ·exact h.row i _ _ _ a b c
  all_goals first | exact hq | (exfalso; omega)
 ·rcases pK b with ⟨i2,b⟩ | ⟨i2,rfl⟩ <;> rcases pK c with ⟨i3,c⟩ | ⟨i3,rfl⟩
  ·exact h.sub i _ _ b c
  all_goals first | exact hy | (exfalso; omega)
theorem V4 {ps ys:List Addr}{rs:List (Int×Sd.Sd)}(lp:ps.length=rs.length)(ly:ys.length=rs.length)(row:∀ (i:Nat) q y t,ps[i]? = some q->ys[i]? = some y->rs[i]? = some t->H q=some (.tup [.int t.1,.ref y]))(sub:∀ (i:Nat) y t,ys[i]? = some y->rs[i]? = some t->jZ H y t.2)
  {i:Nat}{v:V} (hv:(ps.map V.ref)[i]? = some v):∃ q y t,rs[i]? = some t/\v=.ref q/\H q=some (.tup [.int t.1,.ref y])/\jZ H y t.2/\t∈rs:=by
 rw [aJh] at hv;cases e:ps[i]? with
 | none=>rw [e] at hv; cases hv
 | some q =>
  rw [e] at hv;cases hv;have hi:=(aJl.mp e).1;have ey:ys[i]? = some (ys[i]'(by omega)):=aI7 _;have er:rs[i]? = some (rs[i]'(by omega)):=aI7 _;exact ⟨q,_,_,er,rfl,row i q _ _ e ey er,sub i _ _ ey er,aJg er⟩
end
structure wO (H:Hp)(ps ys:List Addr)(rs:List (Int×Sd.Sd)):Prop where
 lp:ps.length=rs.length
 ly:ys.length=rs.length
 row:∀ (i:Nat) q y t,ps[i]? = some q->ys[i]? = some y->rs[i]? = some t->H q=some (.tup [.int t.1,.ref y])
 sub:∀ (i:Nat) y t,ys[i]? = some y->rs[i]? = some t->jZ H y t.2
theorem wO.keep {H H':Hp}{ps ys:List Addr}{rs:List (Int×Sd.Sd)}(h:wO H ps ys rs)(k:∀ b xs,H b=some (.tup xs)->H' b=some (.tup xs)):wO H' ps ys rs :=
 ⟨h.lp,h.ly,fun i q y t a b c=>k _ _ (h.row i q y t a b c),fun i y t a b=>(h.sub i y t a b).keep k⟩
theorem wO.same {H H':Hp}{ps ys:List Addr}{rs:List (Int×Sd.Sd)}(s:aN H H')(h:wO H ps ys rs):wO H' ps ys rs:=h.keep fun b xs e=>s _ _ e
theorem mF {α:Type}{l:List α}{x y:α}{i:Nat}(h:(l++[x])[i]? = some y):(i<l.length/\l[i]? = some y)∨(i=l.length/\y=x):=by
 by_cases hi:i<l.length
 ·exact .inl ⟨hi,by rwa [aKa hi] at h⟩
 ·have h2:=(aJl.mp h).1;rw [aJv,aK0] at h2;have e:i=l.length:=by omega
  subst e;rw [aJW (aJd _),Nat.sub_self] at h;cases h;exact .inr ⟨rfl,rfl⟩
theorem wO.snoc {H:Hp}{ps ys:List Addr}{rs:List (Int×Sd.Sd)}(h:wO H ps ys rs){q y:Addr}{t:Int×Sd.Sd}(hq:H q=some (.tup [.int t.1,.ref y]))(hy:jZ H y t.2):wO H (ps++[q]) (ys++[y]) (rs++[t]):=by
 have l1:=h.lp;have l2:=h.ly;refine ⟨by simp [l1],by simp [l2],fun i q' y' t' a b c=>?_,fun i y' t' b c=>?_⟩
 ·rcases mF a with ⟨i1,a⟩ | ⟨i1,rfl⟩ <;> rcases mF b with ⟨i2,b⟩ | ⟨i2,rfl⟩ <;> rcases mF c with ⟨i3,c⟩ | ⟨i3,rfl⟩
  ·exact h.row i _ _ _ a b c
  all_goals first | exact hq | (exfalso; omega)
 ·rcases mF b with ⟨i2,b⟩ | ⟨i2,rfl⟩ <;> rcases mF c with ⟨i3,c⟩ | ⟨i3,rfl⟩
  ·exact h.sub i _ _ b c
  all_goals first | exact hy | (exfalso; omega)
theorem gR (x:Int){m:Int}(h:0<m):0<=x%m/\x%m<m:=⟨aKR x (aJL h),aKx x h⟩
theorem Qj {n:Nat}(h:0<n):seqIndex? 0 n=some 0:=by
 have e:Fz n 0=some 0:=by
  unfold Fz;rw [if_pos (by decide),if_pos (by omega)]
  rfl
 exact (zW e).1
theorem Wm {c A S:Prop}[Decidable c](h:S)(k:S->A):if c then A else S:=uC (fun _=>k h) (fun _=>h)
theorem at2 {α:Type}(x y:α)(c:Int):∃ v,Dv [x,y] (c%2)=some v/\(v=x∨v=y):=by
 have h:=gR c (show (0:Int)<2 by decide);rcases (by omega:c%2=0∨c%2=1) with z | z
 ·exact ⟨x,by rw [z]; rfl,.inl rfl⟩
 ·exact ⟨y,by rw [z]; rfl,.inr rfl⟩
theorem sS {n:Nat}{f:Addr}{fd:FuncData}(F:dN K "reserve" "Stand.reserve" (inClass (top 30) 3) f fd){c:Cs}(ck:CK K c):aP P w K mg base cN (n+1) f fd ["self"] (nT c):=by
 refine F.ok jX (fun vs H Q E h=>?_) (fun cdv A outer s H vs Q E hr h=>?_)
 ·obtain ⟨x,s,d,m,rfl,_⟩:=h
  rfl
 obtain ⟨x,s,d,m,rfl,st,q⟩:=h;have nd:=jX.nd;refine ⟨_,(aF (aO (dI (pv 0) rfl))),?_⟩;cases st with
 | en h vv ok=>exact ⟨_,rfl,x,c.e,_,_,_,rfl,h,ck.ce,ck.e3,rfl,q _ _ vv.lv vv.lw ⟨_,vv.mt⟩⟩
 | st h vv g lp ly row sub p0 p9 ne l4 w hk=>exact ⟨_,rfl,x,c.s,_,_,_,rfl,h,ck.cs,ck.s3,rfl,q _ _ vv.lv vv.lw ⟨_,vv.mt⟩⟩
theorem VN {c:Cs}{H:Hp}{ps ys:List Addr}{rs:List (Int×Sd.Sd)}{d i:Nat}{j:Int×Sd.Sd->Nat}{t:Int×Sd.Sd}(R:uO c H ps ys rs d j)(h:rs[i]? = some t):∃ q y,(ps.map V.ref)[i]? = some (.ref q)/\H q=some (.tup [.int t.1,.ref y])/\dU c H y t.2 d (j t):=by
 have hi:=(aJl.mp h).1;have l1:=R.lp;have l2:=R.ly;have ep:ps[i]? = some (ps[i]'(by omega)):=aI7 _;have ey:ys[i]? = some (ys[i]'(by omega)):=aI7 _;exact ⟨_,_,by rw [aJh,ep]; rfl,R.row i _ _ _ ep ey h,R.sub i _ _ ey h⟩
theorem vR {n:Nat}{f:Addr}{fd:FuncData}(F:dN K "after" "Stage.after" (inClass (top 32) 3) f fd){c:Cs}(ck:CK K c):aP P w K mg base cN (n+1) f fd ["self","row"] (SM c):=by
 refine F.ok mJ (fun vs H Q E h=>?_) (fun cdv A outer s H vs Q E hr h=>?_)
 ·obtain ⟨x,p,rs,d,m,i,t,rfl,_⟩:=h
  rfl
 obtain ⟨x,p,rs,d,m,i,t,rfl,st,ht,q⟩:=h;have nd:=mJ.nd;refine ⟨_,(aF (aO (bQ cQ (bQ cQ (dI (pv 0) rfl) (pv 1) (fun _ _=>rfl)) aH (fun _ _=>rfl)))),?_⟩;cases st with
 | @st _ dx l cp r _ n' k' lv _ _ j xs _ ps ys h vv g lp ly row sub p0 p9 ne l4 w hk =>
  obtain ⟨q0,y,e1,e2,e3⟩:=VN ⟨lp,ly,row,sub⟩ ht;exact ⟨_,rfl,x,c.s,dx,_,_,rfl,h,ck.cs,ck.s6,rfl,_,rfl,r,_,_,_,rfl,rfl,cV.of g,dZ e1,q0,_,_,_,rfl,rfl,cV.of e2,rfl,q y _ (Sd.Ng hk t (aJg ht)) e3⟩
theorem wR {n:Nat}{f:Addr}{fd:FuncData}(F:dN K "_law_stand" "_law_stand" (top 76) f fd){n0:Nat}{c:Cs}{j_ iE iS:Addr}{dE dS:FuncData}{kE kS:Nat}(aIK:Mk K c.e iE)(aIL:aP P w K mg base (o9 P w) kE iE dE ["self","worth"] (Oj c j_))(aIM:Binds K dE ["self","worth"] [])(aFY:mg "End" = some (.ref c.e))(aIz:kE+1<=n)(aH4:Mk K c.s iS)(aH5:aP P w K mg base (o9 P w) kS iS dS ["self","price","rows"] (PX c K j_ Pt eN))(aH6:Binds K dS ["self","price","rows"] [])(aEF:mg "Stage" = some (.ref c.s))(aHK:kS+1<=n){z_:Addr}{t_:FuncData}(p_:dY P w K mg base n "_law_stand" ["_law_told"] (Ir c Pt eN n0) z_ t_):aP P w K mg base cN (n+1) f fd ["_law_told"] (Ir c Pt eN (n0+1)):=by
 refine F.ok oO (fun vs H Q E h=>?_) (fun cdv A outer s H vs Q E hr h=>?_)
 ·obtain ⟨a,s,d,m,rfl,_⟩:=h
  rfl
 obtain ⟨a,s,d,m,rfl,to,ok,dn,d4,m12,hTb,q⟩:=h;have nd:=oO.nd;refine ⟨_,(aD (bZ (bV oH (bQ cQ (pv 0) aH (fun _ _=>rfl)) fL (bW _)) (aF (aO (jL aIK aIL (hr.mono aIz) rfl aFY aIM .nil jJ (aA (bQ cQ (pv 0) aH (fun _ _=>rfl)) aC)))) bA) (aF (aO (jL aH4 aH5 (hr.mono aHK) rfl aEF aH6 .nil jJ (aA (bQ cQ (pv 0) aH (fun _ _=>rfl)) (aA (cD (ls:=["_law_weight","_law_part"]) (M:=["_law_told"]) rfl (bJ.of (by rfl)) (NL.of (by rfl)) (Ed (bQ cQ (pv 0) aH (fun _ _=>rfl))) (fun _ _ _ _=>⟨(iJ (K:=K) (n:=2) rfl rfl (bL (aQ (i:=0) (cH (by rfl)) rfl (Or.inl rfl)) (bL (aQ (i:=1) (cH (by rfl)) rfl (Or.inl rfl)) fK))),b7,(cW (aA (pv 0) (aA (aJ p_ hr (aA (pv 1) aC)) aC)))⟩)) aC)))))),?_⟩;cases to with
 | @en _ v h =>
  cases ok with
  | en h0 h9 hm =>
  refine ⟨_,rfl,a,_,_,_,rfl,rfl,cV.of h,rfl,rfl,_,rfl,?_⟩;refine fQ ?_;refine ⟨_,rfl,a,_,_,_,rfl,rfl,cV.of h,rfl,?_⟩;intro x dx hx hdx ndx;have nO:aN H (aX (aX H dx (.own x)) x (.ins c.e dx [])):=(aG hdx (.own x)).trans (aG (by rw [aK (Ne.symm ndx)]; exact hx) _);refine .inl ⟨x,dx,v,rfl,aB,h0,h9,fun H' k5 st=>⟨rfl,?_⟩⟩;have sX:Dm x (aX (aX H dx (.own x)) x (.ins c.e dx [])) H':=k5;exact q x H' (fun b o _ e=>k5 b o (aV e hx) (nO _ _ e)) (cX.sameX (hTb.same nO) sX aB) (st d m hm)
 | @st _ r p rs ps ys h g lp ly row sub =>
  cases ok with
  | @st _ _ d _ j h0 h9 ne l4 ww oks hk =>
  have hlr:(ps.map V.ref).length=rs.length:=by rw [aI8]; exact lp
  refine ⟨_,rfl,a,_,_,_,rfl,rfl,cV.of h,rfl,rfl,_,rfl,?_⟩;refine dM ?_;refine ⟨_,rfl,a,_,_,_,rfl,rfl,cV.of h,rfl,?_⟩;refine ⟨_,rfl,a,_,_,_,rfl,rfl,cV.of h,rfl,r,rfl,⟨_,cV.of g⟩,fun D hD=>?_⟩;refine Jl (xs:=ps.map V.ref) (fun i τ H'=>∃ v0 v1 qs zs,τ = [v0,v1,some (.ref a)]/\bH Pt H H'/\cX Pt eN fO H'/\H' D=some (.lst (qs.map V.ref))/\uO c H' qs zs (rs.take i) d j) ⟨none,none,[],[],rfl,(aG hD _).toT,hTb.same (aG hD _),aB,⟨rfl,rfl,(fun i q y t a=>by simp at a),(fun i y t a=>by simp at a)⟩⟩ ?keep ?turn ?done
  case keep =>
   rintro u τ H' hi ⟨v0,v1,qs,zs,rfl,hs,_⟩;exact cV.of (hs.get hTb g fun _ z=>nomatch z)
  case turn =>
   rintro u mm v τ H' hm hi hv ⟨v0,v1,qs,zs,rfl,hs,tb,hD',R⟩;obtain ⟨q1,y,t,er,rfl,h1,to,mem⟩:=V4 lp ly row sub hv;have kt:∀ b xs,H b=some (.tup xs)->H' b=some (.tup xs):=fun b xs e=>hs.get hTb e fun _ z=>nomatch z
   refine ⟨q1,_,rfl,cV.of (kt _ _ h1),rfl,_,_,rfl,_,_,rfl,rfl,?_⟩;refine eO ?_;refine ⟨_,rfl,_,rfl,y,t.2,d,j t,rfl,to.keep kt,oks t mem,by omega,by omega,aJc (Sd.Ng hk t mem) m12,tb,fun x H2 s2 tb2 st2=>?_⟩;refine ⟨uL,fun T hT=>?_⟩;have n3:=aG hT (.tup [.int t.1,.ref x]);have hD2:H2 D=some (.lst (qs.map V.ref)):=s2.get tb hD' fun _ z=>nomatch z
   have hD3:=n3 _ _ hD2;have R3:=(R.kp (bH.kp s2 tb)).kp (aN.kp n3);have nD:∀ (o:HO),aN (aX H2 T (.tup [.int t.1,.ref x])) (aX H2 T (.tup [.int t.1,.ref x])):=fun _=>aN.refl _;have kt4:∀ (o:HO) b xs,aX H2 T (.tup [.int t.1,.ref x]) b=some (.tup xs)->aX (aX H2 T (.tup [.int t.1,.ref x])) D o b=some (.tup xs):=fun o b xs e=>by rw [aK (bI e hD3 fun z=>nomatch z)]; exact e
   have ki4:∀ (o:HO) b C dx f fs,aX H2 T (.tup [.int t.1,.ref x]) b=some (.ins C dx (f::fs))->aX (aX H2 T (.tup [.int t.1,.ref x])) D o b=some (.ins C dx (f::fs)):=fun o b C dx f fs e=>by rw [aK (bI e hD3 fun z=>nomatch z)]; exact e
   have ql:qs.length<=4:=by rw [R.lp,aJz]; omega
   refine bB hm hi hD3 (by rw [aI8]; exact aU (by omega)) ⟨_,_,qs++[T],zs++[x],rfl,((hs.trans s2).trans n3.toT).upd_new hD _,?_,by rw [aB,aJj]; rfl,?_⟩
   ·have:=tb2.same n3;rcases this with w | ⟨c',w1,w2⟩
    ·exact .inl (by rw [aK (bI w hD3 fun z=>nomatch z)]; exact w)
    ·exact .inr ⟨c',by rw [aK (bI w1 hD3 fun z=>nomatch z)]; exact w1,by rw [aK (bI w2 hD3 fun z=>by unfold vQ at z; exact nomatch z)]; exact w2⟩
   ·rw [take_snoc er];exact N7 (Mp (kt4 _) (ki4 _) R3) (kt4 _ _ _ aB) (zX (kt4 _) (ki4 _) (st2.kp (aN.kp n3)))
  case done =>
   rintro τ H1 ⟨v0,v1,qs,zs,rfl,hs,tb,hD',R⟩;rw [hlr,aJw] at R;intro x dx hx hdx ndx;have nO:aN H1 (aX (aX H1 dx (.own x)) x (.ins c.s dx [])):=(aG hdx (.own x)).trans (aG (by rw [aK (Ne.symm ndx)]; exact hx) _);refine .inl ⟨x,dx,D,p,qs,zs,rs,d,j,rfl,aB,⟨nO _ _ hD',R.kp (aN.kp nO),ne,l4,ww⟩,h0,h9,.inr ⟨m,hk,m12,d4,tb.same nO,fun H' k5 tb5 st5=>⟨rfl,?_⟩⟩⟩;exact q x H' (fun b o nP e=>k5 b o (aV (hs b o nP e) hx) nP (nO _ _ (hs b o nP e))) tb5 st5
end
end K54
namespace K54
open PySem L2 TD TP
open Builtin.Int (intBits)
section
variable {P:Program}{w:World}{K:PySem.W.Frag}{mg:Str->Option Value}{base:Heap}{Pt:Addr}
theorem EY {n:Nat}{f:Addr}{fd:FuncData}(F:dN K "has_box" "has_box" (top 42) f fd):aP P w K mg base cN (n+1) f fd ["kept","box"] JM:=by
 refine F.ok wD (fun vs H Q E h=>?_) (fun cdv A outer s H vs Q E hr h=>?_)
 ·obtain ⟨k,b,rfl,_⟩:=h
  rfl
 obtain ⟨k,b,rfl,hb0,q⟩:=h;have nd:=wD.nd;refine ⟨_,(aF (aO (fY oH (aW Q8 (aW Q6 (pv 0) (pv 1)) aH) aH (bW _)))),?_⟩;exact ⟨_,rfl,_,rfl,_,_,rfl,rfl,hb0,_,_,rfl,rfl,rfl,q⟩
theorem Bk {n:Nat}{f:Addr}{fd:FuncData}(F:dN K "boxes_of" "boxes_of" (top 43) f fd){aFc:Addr}{aER:FuncData}(aFd:dY P w K mg base n "has_box" ["kept","box"] JM aFc aER)(e_:mg "range" = none){gV:Value}(b_:mg "MOST_BOXES" = some gV)(d_:RelV (.int 6) gV):aP P w K mg base cN (n+1) f fd ["kept"] vM:=by
 refine F.ok tU (fun vs H Q E h=>?_) (fun cdv A outer s H vs Q E hr h=>?_)
 ·obtain ⟨k,rfl,_⟩:=h
  rfl
 obtain ⟨k,rfl,q⟩:=h;have nd:=tU.nd;refine ⟨_,(aF (aO (cD (ls:=["box"]) (M:=["kept"]) rfl (bJ.of (by rfl)) (NL.of (by rfl)) (cZ rfl e_ (aA (cM (v:=.int 6) rfl b_ d_) aC)) (fun _ _ _ _=>⟨(aQ (i:=0) (cH (by rfl)) rfl (Or.inl rfl)),(uY (bD (aJ aFd hr (aA (pv 1) (aA (pv 0) aC))))),(pv 0)⟩)))),?_⟩;refine ⟨6,rfl,by decide,by decide,fun D hD=>?_⟩;refine fG (n:=(6:Int).toNat) (fun i τ H'=>∃ v0,τ = [v0,some (.int k)]/\aN H H'/\H' D=some (.lst (Is ((six i).filter (hb k))))) ⟨none,rfl,aG hD _,aB⟩ ?turn ?done
 case turn =>
  rintro i m τ H' hm hi ⟨v0,rfl,hs,hD'⟩;refine ⟨_,rfl,_,rfl,k,0+(i:Int),rfl,by omega,?_⟩;cases eb:hb k (0+(i:Int)) with
  | false =>
   refine ⟨_,rfl,?_⟩;refine mY rfl ?_;refine j4 hm hi ⟨_,rfl,hs,?_⟩;rw [kW,aJ2,show [0+(i:Int)].filter (hb k)=[] by rw [aKf,eb]; rfl,aJZ];exact hD'
  | true =>
   refine ⟨_,rfl,?_⟩;refine m5 rfl ?_;refine ⟨_,rfl,?_⟩;refine bB hm hi hD' (by rw [bM]; exact aU (aJc (aJM _ _) (by unfold six; rw [aI8,aJX]; have:i<6:=hi; omega))) ⟨_,rfl,hs.upd_new hD _,?_⟩;rw [aB,kW,aJ2,show [0+(i:Int)].filter (hb k)=[0+(i:Int)] by rw [aKf,eb]; rfl,fZ]
 case done =>
  rintro τ H' ⟨v0,rfl,hs,hD'⟩;exact q D H' hs hD hD'
theorem Ej {n:Nat}{f:Addr}{fd:FuncData}(F:dN K "size_of" "size_of" (top 44) f fd){G_:Addr}{C_:FuncData}(H_:dY P w K mg base n "boxes_of" ["kept"] vM G_ C_)(l_:mg "len" = none):aP P w K mg base cN (n+1) f fd ["kept"] Q7:=by
 refine F.ok vY (fun vs H Q E h=>?_) (fun cdv A outer s H vs Q E hr h=>?_)
 ·obtain ⟨k,rfl,_⟩:=h
  rfl
 obtain ⟨k,rfl,q⟩:=h;have nd:=vY.nd;refine ⟨_,(aF (aO (aR bU rfl l_ fV (aA (aJ H_ hr (aA (pv 0) aC)) aC)))),?_⟩;refine ⟨_,rfl,k,rfl,fun r H1 s1 _ hr1=>?_⟩;refine ⟨r,_,rfl,.inl (bG.of hr1),?_⟩;rw [bM];exact q H1 s1
theorem wQ {n:Nat}{f:Addr}{fd:FuncData}(F:dN K "is_numbers" "is_numbers" (top 47) f fd){m_:Addr}{k_:FuncData}(n_:dY P w K mg base n "is_whole" ["thing","least","most"] Km m_ k_)(aD6:mg "all" = none)(l_:mg "len" = none)(a_:mg "isinstance" = none)(o_:mg "list" = none):aP P w K mg base cN (n+1) f fd ["things","fewest","most","greatest_number"] FW:=by
 refine F.ok oA (fun vs H Q E h=>?_) (fun cdv A outer s H vs Q E hr h=>?_)
 ·obtain ⟨a,ns,lo,hi,g,rfl,_⟩:=h
  rfl
 obtain ⟨a,ns,lo,hi,g,rfl,ha,h1,h2,h64,hg,q⟩:=h;have nd:=oA.nd;refine ⟨_,(aD (bZ (PW.pt (iB (cG (bD (aR (cO (T:="list")) rfl a_ bC (aA (pv 0) (aA (d7 (v:=.ty "list") rfl o_ jG rfl) aC))))) (fW (cG (vL mL mL (pv 1) (aR bU rfl l_ fV (aA (pv 0) aC)) (pv 2)))))) (aF (aO gH)) bA) (aF (aO (aR (j7 rfl rfl) rfl aD6 wK (aA (cD (ls:=["thing"]) (M:=["things","fewest","most","greatest_number"]) rfl (bJ.of (by rfl)) (NL.of (by rfl)) (bO (pv 0)) (fun _ _ _ _=>⟨(aQ (i:=0) (cH (by rfl)) rfl (Or.inl rfl)),b7,(aJ n_ hr (aA (pv 0) (aA aH (aA (pv 4) aC))))⟩)) aC))))),?_⟩;have hlr:=bM ns;refine ⟨_,rfl,_,_,_,rfl,.lst ha,fD _,_,rfl,?_⟩;refine dM ?_;refine ⟨_,rfl,_,rfl,a,_,rfl,.inl (bG.of ha),_,_,rfl,rfl,_,rfl,?_⟩;refine m5 (decide_eq_true (show lo<=_ by rw [hlr]; exact h1)) ?_;refine ⟨_,rfl,_,_,rfl,rfl,_,rfl,?_⟩;refine mY (by rw [decide_eq_true (show (_:Int)<=hi by rw [hlr]; exact h2)]; rfl) ?_;refine ⟨_,rfl,a,rfl,⟨_,bG.of ha⟩,fun D hD=>?_⟩;refine bN (xs:=Is ns) (fun i τ H'=>∃ v0,τ = [v0,some (.ref a),some (.int lo),some (.int hi),some (.int g)]/\aN H H'/\H' D=some (.lst ((aJt i true).map V.bl))) ⟨none,rfl,aG hD _,aB⟩ ?keep ?turn ?done
 case keep =>
  rintro i τ H' hi ⟨v0,rfl,hs,_⟩;exact bG.of (hs _ _ ha)
 case turn =>
  rintro i m v τ H' hm hi hv ⟨v0,rfl,hs,hD'⟩;obtain ⟨x,hx,rfl⟩:=nW hv;have hmem:=aJg hx;refine rQ ?_;refine ⟨_,rfl,_,rfl,x,0,g,rfl,(hg x hmem).1,(hg x hmem).2,?_⟩;refine bB hm hi hD' (by rw [aI8,aKb]; exact aU (by rw [hlr] at hi; omega)) ⟨_,rfl,hs.upd_new hD _,?_⟩;rw [aB,List.replicate_succ',aJj]
  rfl
 case done =>
  rintro τ H' ⟨v0,rfl,hs,hD'⟩;refine ⟨D,_,rfl,bG.of hD',?_⟩;have e:(aJt (Is ns).length true).all id=true:=by simp
  rw [e];exact q H' hs
theorem uD {n:Nat}{f:Addr}{fd:FuncData}(F:dN K "__init__" "Few.__init__" (inClass (top 49) 0) f fd){C:Addr}(cf:tK K C)(aFD:PySem.W.findIn K (.ref C) "limit" = some none){m_:Addr}{k_:FuncData}(n_:dY P w K mg base n "is_whole" ["thing","least","most"] Km m_ k_){gV:Value}(b_:mg "MOST_BOXES" = some gV)(d_:RelV (.int 6) gV):aP P w K mg base cN (n+1) f fd ["self","count"] (Pk C):=by
 refine F.ok lU (fun vs H Q E h=>?_) (fun cdv A outer s H vs Q E hr h=>?_)
 ·obtain ⟨x,dx,c,rfl,_⟩:=h
  rfl
 obtain ⟨x,dx,c,rfl,hx,h1,h2,q⟩:=h;have nd:=lU.nd;refine ⟨_,(aD (bZ (cG (bD (aJ n_ hr (aA (pv 1) (aA aH (aA (cM (v:=.int 6) rfl b_ d_) aC)))))) (aF jW) bA) (aF (dF (pv 0) (pv 1) rfl))),?_⟩;refine ⟨_,rfl,c,0,6,rfl,h1,h2,?_⟩;refine ⟨_,rfl,?_⟩;refine dM ?_;exact ⟨_,rfl,_,rfl,x,C,dx,[],rfl,hx,cf,aFD,(by show 0<1000; decide),q⟩
theorem FN {n:Nat}{f:Addr}{fd:FuncData}(F:dN K "may" "Few.may" (inClass (top 49) 1) f fd){C:Addr}(cf:tK K C)(aFD:PySem.W.findIn K (.ref C) "limit" = some none){aFe:Addr}{aES:FuncData}(aFf:dY P w K mg base n "size_of" ["kept"] Q7 aFe aES):aP P w K mg base cN (n+1) f fd ["self","kept"] (rY C):=by
 refine F.ok wF (fun vs H Q E h=>?_) (fun cdv A outer s H vs Q E hr h=>?_)
 ·obtain ⟨x,c,k,rfl,_⟩:=h
  rfl
 obtain ⟨x,c,k,rfl,hF,q⟩:=h;have nd:=wF.nd;refine ⟨_,(aF (aO (fY mL (aJ aFf hr (aA (pv 1) aC)) (dI (pv 0) rfl) (bW _)))),?_⟩;obtain ⟨dx,hx⟩:=hF;refine ⟨_,rfl,k,rfl,fun H1 s1=>?_⟩;exact ⟨_,rfl,x,C,dx,_,_,rfl,s1 _ _ hx,cf,aFD,rfl,_,_,rfl,rfl,q H1 s1⟩
theorem oW {n:Nat}{f:Addr}{fd:FuncData}(F:dN K "__init__" "Groups.__init__" (inClass (top 50) 0) f fd){C:Addr}(cf:tK K C)(aEH:PySem.W.findIn K (.ref C) "groups" = some none)(aF6:PySem.W.findIn K (.ref C) "most" = some none){aEf:Addr}{aD5:FuncData}(R_:dY P w K mg base n "is_numbers" ["things","fewest","most","greatest_number"] FW aEf aD5)(h_:mg "tuple" = none){gV:Value}(b_:mg "MOST_BOXES" = some gV)(d_:RelV (.int 6) gV):aP P w K mg base cN (n+1) f fd ["self","groups","most"] (Oo C):=by
 refine F.ok jA (fun vs H Q E h=>?_) (fun cdv A outer s H vs Q E hr h=>?_)
 ·obtain ⟨x,dx,a,b,gs,ms,rfl,_⟩:=h
  rfl
 obtain ⟨x,dx,a,b,gs,ms,rfl,hx,ha,hb,g,q⟩:=h;have nd:=jA.nd;refine ⟨_,(aD (bZ (cG (bD (aJ R_ hr (aA (pv 1) (aA aH (aA (cM (v:=.int 6) rfl b_ d_) (aA (aW jU (cM (v:=.int 6) rfl b_ d_) aH) aC))))))) (aF jW) bA) (aD (bZ (cG (bD (aJ R_ hr (aA (pv 2) (aA (cM (v:=.int 6) rfl b_ d_) (aA (cM (v:=.int 6) rfl b_ d_) (aA (cM (v:=.int 6) rfl b_ d_) aC))))))) (aF jW) bA) (aD (dF (pv 0) (cY (cL (K:=K) rfl) rfl h_ eV (aA (pv 1) aC)) rfl) (aF (dF (pv 0) (cY (cL (K:=K) rfl) rfl h_ eV (aA (pv 2) aC)) rfl))))),?_⟩;have g1:=g.l1;have g6:=g.l6;have gm:=g.m6;refine ⟨_,rfl,_,_,rfl,rfl,a,gs,1,6,5,rfl,ha,by omega,by omega,by omega,g.g,fun H1 s1=>?_⟩;refine ⟨_,rfl,?_⟩;refine dM ?_;refine ⟨_,rfl,b,ms,6,6,6,rfl,s1 _ _ hb,by omega,by omega,by omega,g.m,fun H2 s2=>?_⟩;refine ⟨_,rfl,?_⟩;refine dM ?_;have mC:=s1.trans s2;refine ⟨_,rfl,a,_,rfl,.inl ⟨bG.of (mC _ _ ha),fun t ht=>?_⟩⟩;have n1:=aG ht (.tup (Is gs));have hx1:=(mC.trans n1) _ _ hx;refine ⟨_,rfl,x,C,dx,[],rfl,hx1,cf,aEH,(by show 0<1000; decide),?_⟩;have nbx:b≠x:=bI hb hx fun z=>nomatch z
 have ntx:t≠x:=Ne.symm (aV (mC _ _ hx) ht);have kx:∀ c o,c≠x->H c=some o->aX (aX H2 t (.tup (Is gs))) x (.ins C dx [("groups",.ref t)]) c=some o:=fun c o nc e=>by rw [aK nc]; exact (mC.trans n1) _ _ e
 have ht3:aX (aX H2 t (.tup (Is gs))) x (.ins C dx [("groups",.ref t)]) t=some (.tup (Is gs)):=by rw [aK ntx]; exact aB
 have hx3:aX (aX H2 t (.tup (Is gs))) x (.ins C dx [("groups",.ref t)]) x=some (.ins C dx [("groups",.ref t)]):=aB;refine ⟨_,rfl,b,_,rfl,.inl ⟨bG.of (kx _ _ nbx hb),fun u hu=>?_⟩⟩;have n4:=aG hu (.tup (Is ms));have nux:u≠x:=Ne.symm (aV hx3 hu);refine ⟨_,rfl,x,C,dx,[("groups",.ref t)],rfl,n4 _ _ hx3,cf,aF6,(by show 1<1000; decide),?_⟩;refine q t u _ (fun c o nc e=>?_) ?_ ?_ aB
 ·rw [aK nc];exact n4 _ _ (kx c o nc e)
 ·rw [aK ntx];exact n4 _ _ ht3
 ·rw [aK nux];exact aB
theorem oU {n:Nat}{f:Addr}{fd:FuncData}(F:dN K "__init__" "Listed.__init__" (inClass (top 51) 0) f fd){C:Addr}(cf:tK K C)(aF7:PySem.W.findIn K (.ref C) "sets" = some none){aEf:Addr}{aD5:FuncData}(R_:dY P w K mg base n "is_numbers" ["things","fewest","most","greatest_number"] FW aEf aD5)(h_:mg "tuple" = none)(I_:mg "sorted" = none)(l_:mg "len" = none)(aHL:mg "set" = none){aFl:Value}(Y_:mg "MOST_SETS" = some aFl)(Z_:RelV (.int 64) aFl):aP P w K mg base cN (n+1) f fd ["self","sets"] (Oc C):=by
 refine F.ok iW (fun vs H Q E h=>?_) (fun cdv A outer s H vs Q E hr h=>?_)
 ·obtain ⟨x,dx,a,ks,rfl,_⟩:=h
  rfl
 obtain ⟨x,dx,a,ks,rfl,hx,ha,g,q⟩:=h;have nd:=iW.nd;refine ⟨_,(aD (bZ (PW.pt (iB (cG (bD (aJ R_ hr (aA (pv 1) (aA aH (aA (cM (v:=.int 64) rfl Y_ Z_) (aA (aW jU (cM (v:=.int 64) rfl Y_ Z_) aH) aC))))))) (fW (bV Jd (aR xB rfl l_ fV (aA (cY (Fe (K:=K) rfl rfl) rfl aHL RJ (aA (pv 1) aC)) aC)) (aR bU rfl l_ fV (aA (pv 1) aC)) (bW _))))) (aF jW) bA) (aF (dF (pv 0) (cY (cL (K:=K) rfl) rfl h_ eV (aA (aR (oF (K:=K) rfl) rfl I_ rE (aA (pv 1) aC)) aC)) rfl))),?_⟩;have g1:=g.l1;have g64:=g.l64;refine ⟨_,rfl,_,_,rfl,rfl,a,ks,1,64,63,rfl,ha,by omega,by omega,g64,g.k,fun H1 s1=>?_⟩;refine ⟨_,rfl,?_⟩;refine dM ?_;refine ⟨_,rfl,a,ks,rfl,bG.of (s1 _ _ ha),(by show ks.length+1<4096; omega),fun r hr0=>?_⟩;have n1:=aG hr0 (.set (fun k=>(Jw ks).any (·==k)) (Jw ks).length);refine ⟨r,_,_,rfl,aB,_,rfl,a,_,rfl,.inl (bG.of ((s1.trans n1) _ _ ha)),rfl,_,rfl,?_⟩;refine mY (by rw [NT g.nd,bM]; simp) ?_;have s2:=s1.trans n1;generalize aX H1 r (.set (fun k=>(Jw ks).any (·==k)) (Jw ks).length)=H2 at s2 ⊢;refine ⟨_,rfl,a,ks,rfl,.inl (bG.of (s2 _ _ ha)),g.few,fun l ms hl pm so=>?_⟩;have n3:=aG hl (.lst (Is ms));refine ⟨l,_,rfl,.inl ⟨bG.of aB,fun t ht=>?_⟩⟩;have n4:=aG ht (.tup (Is ms));have s4:=s2.trans (n3.trans n4);exact ⟨_,rfl,x,C,dx,[],rfl,s4 _ _ hx,cf,aF7,(by show 0<1000; decide),q t ms _ s4 pm so aB⟩
theorem xH {n:Nat}{f:Addr}{fd:FuncData}(F:dN K "may" "Listed.may" (inClass (top 51) 1) f fd){C:Addr}(cf:tK K C)(aF7:PySem.W.findIn K (.ref C) "sets" = some none):aP P w K mg base cN (n+1) f fd ["self","kept"] (rC C):=by
 refine F.ok nR (fun vs H Q E h=>?_) (fun cdv A outer s H vs Q E hr h=>?_)
 ·obtain ⟨x,ks,k,rfl,_⟩:=h
  rfl
 obtain ⟨x,ks,k,rfl,hF,q⟩:=h;have nd:=nR.nd;refine ⟨_,(aF (aO (fY yC (pv 1) (dI (pv 0) rfl) rfl))),?_⟩;obtain ⟨dx,t,hx,ht⟩:=hF;exact ⟨_,rfl,_,rfl,x,C,dx,_,_,rfl,hx,cf,aF7,rfl,t,_,rfl,.inr (cV.of ht),rfl,NZ ks,q⟩
theorem xG {n:Nat}{f:Addr}{fd:FuncData}(F:dN K "may" "Groups.may" (inClass (top 50) 1) f fd){C:Addr}(cf:tK K C)(aEH:PySem.W.findIn K (.ref C) "groups" = some none)(aF6:PySem.W.findIn K (.ref C) "most" = some none){G_:Addr}{C_:FuncData}(H_:dY P w K mg base n "boxes_of" ["kept"] vM G_ C_)(aD6:mg "all" = none)(l_:mg "len" = none):aP P w K mg base cN (n+1) f fd ["self","kept"] (sJ C):=by
 refine F.ok oE (fun vs H Q E h=>?_) (fun cdv A outer s H vs Q E hr h=>?_)
 ·obtain ⟨x,gs,ms,k,rfl,_⟩:=h
  rfl
 obtain ⟨x,gs,ms,k,rfl,hF,gg,q⟩:=h;have nd:=oE.nd;refine ⟨_,(aD (aY (i:=2) nd rfl (Or.inl rfl) (aJ H_ hr (aA (pv 1) aC))) (aD (bZ (cG (bD (aR (j7 rfl rfl) rfl aD6 wK (aA (cD (ls:=["box"]) (M:=["self","kept","boxes","groups"]) rfl (bJ.of (by rfl)) (NL.of (by rfl)) (bO (pv 2)) (fun _ _ _ _=>⟨(aQ (i:=0) (cH (by rfl)) rfl (Or.inl rfl)),b7,(fY xW (pv 0) (aR (xA (K:=K) rfl) rfl l_ fV (aA (uX (K:=K) rfl (pv 1) rfl) aC)) (bW _))⟩)) aC)))) (aF (aO gH)) bA) (aD (aY (i:=3) nd rfl (Or.inr rfl) (cD (ls:=["box"]) (M:=["self","kept","boxes","groups"]) rfl (bJ.of (by rfl)) (NL.of (by rfl)) (bO (pv 2)) (fun _ _ _ _=>⟨(aQ (i:=0) (cH (by rfl)) rfl (Or.inl rfl)),b7,(bQ (lD (K:=K) rfl) (uX (K:=K) rfl (pv 1) rfl) (pv 0) (fun _ _=>rfl))⟩))) (aF (aO (aR (j7 rfl rfl) rfl aD6 wK (aA (cD (ls:=["group"]) (M:=["self","kept","boxes","groups"]) rfl (bJ.of (by rfl)) (NL.of (by rfl)) (bO (pv 3)) (fun _ _ _ _=>⟨(aQ (i:=0) (cH (by rfl)) rfl (Or.inl rfl)),b7,(fY mL (Qc (K:=K) rfl PySem.F.plainAttrs_list PySem.F.slot_list_count PySem.F.type_list_count Jj (pv 4) (aA (pv 0) aC)) (bQ (lD (K:=K) rfl) (uX (K:=K) rfl (pv 1) rfl) (pv 0) (fun _ _=>rfl)) (bW _))⟩)) aC))))))),?_⟩;obtain ⟨dx,g,m,hx,hg,hm⟩:=hF;have bl:=pU k;have hlr:=bM (gJ k);refine ⟨_,rfl,k,rfl,fun B H1 s1 hBn hB=>?_⟩;refine ⟨_,rfl,B,rfl,⟨_,bG.of hB⟩,fun D hD=>?_⟩;refine bN (xs:=Is (gJ k)) (fun i τ H'=>∃ v0,τ = [v0,some (.ref x),some (.int k),some (.ref B),none]/\aN H1 H'/\H' D=some (.lst ((((gJ k).take i).map fun b=>decide (b<(gs.length:Int))).map V.bl))) ⟨none,rfl,aG hD _,aB⟩ ?keep ?turn ?done
 case keep =>
  rintro i τ H' hi ⟨v0,rfl,hs,_⟩;exact bG.of (hs _ _ hB)
 case turn =>
  rintro i j v τ H' hm' hi hv ⟨v0,rfl,hs,hD'⟩;obtain ⟨b,hb1,rfl⟩:=nW hv;have ss:=s1.trans hs;refine rQ ?_;refine ⟨_,rfl,_,rfl,x,C,dx,_,_,rfl,ss _ _ hx,cf,aEH,rfl,g,_,rfl,.inr (cV.of (ss _ _ hg)),_,_,rfl,rfl,?_⟩;refine bB hm' hi hD' (by rw [aI8,aI8,aJz]; exact aU (by omega)) ⟨_,rfl,hs.upd_new hD _,?_⟩;rw [aB,take_snoc hb1,aJj,aJj,bM]
  rfl
 case done =>
 rintro τ H2 ⟨v0,rfl,s2,hD2⟩;rw [hlr,aJw] at hD2;have mC:=s1.trans s2;refine ⟨D,_,rfl,bG.of hD2,?_⟩;refine ⟨_,rfl,?_⟩;have ea:((gJ k).map fun b=>decide (b<(gs.length:Int))).all id=(gJ k).all (fun b=>decide (b<(gs.length:Int))):=by rw [List.all_map]; rfl
 rw [ea];cases hall:(gJ k).all (fun b=>decide (b<(gs.length:Int))) with
 | false =>
  refine fQ ?_;have h:=q H2 mC;unfold rG at h;rw [hall] at h;exact h
 | true =>
 refine dM ?_;have hin:∀ b∈gJ k,b<(gs.length:Int):=fun b hb=>of_decide_eq_true (aJN.mp hall b hb);refine ⟨_,rfl,B,rfl,⟨_,bG.of (s2 _ _ hB)⟩,fun D2 hD2n=>?_⟩;refine bN (xs:=Is (gJ k)) (fun i τ H'=>∃ v0,τ = [v0,some (.ref x),some (.int k),some (.ref B),none]/\aN H2 H'/\H' D2=some (.lst (Is (((gJ k).take i).map fun b=>gs.getD b.toNat 0)))) ⟨none,rfl,aG hD2n _,aB⟩ ?keep2 ?turn2 ?done2
 case keep2 =>
  rintro i τ H' hi ⟨v0,rfl,hs,_⟩;exact bG.of ((s2.trans hs) _ _ hB)
 case turn2 =>
  rintro i j v τ H' hm' hi hv ⟨v0,rfl,hs,hD'⟩;obtain ⟨b,hb1,rfl⟩:=nW hv;have hbm:=aJg hb1;have ss:=mC.trans hs;refine rQ ?_;refine ⟨_,rfl,x,C,dx,_,_,rfl,ss _ _ hx,cf,aEH,rfl,_,rfl,g,_,_,_,rfl,rfl,cV.of (ss _ _ hg),Om (lG hbm).1 (hin b hbm),?_⟩;refine bB hm' hi hD' (by rw [bM,aI8,aJz]; exact aU (by omega)) ⟨_,rfl,hs.upd_new hD2n _,?_⟩;rw [aB,take_snoc hb1,aJj];show _=some (HO.lst (Is (_++[gs.getD b.toNat 0])));rw [fZ]
 case done2 =>
 rintro τ H3 ⟨v1,rfl,s3,hD3⟩;rw [hlr,aJw] at hD3;have BJ:=mC.trans s3;generalize hgl:((gJ k).map fun b=>gs.getD b.toNat 0)=gl at hD3;have gll:gl.length<=6:=by rw [<- hgl,aI8]; exact bl
 have gin:∀ z∈gl,0<=z/\z<(ms.length:Int):=fun z hz=>by
  rw [<- hgl] at hz;obtain ⟨b,hb1,rfl⟩:=aJe.mp hz;have e:=hin b hb1;have e0:=(lG hb1).1;have hbn:b.toNat<gs.length:=by omega
  have e2:=gg.g (gs.getD b.toNat 0) (by rw [show gs.getD b.toNat 0=gs[b.toNat] by simp [hbn]]; exact aKo hbn);have:=gg.m6;omega
 refine ⟨_,rfl,D2,rfl,⟨_,bG.of hD3⟩,fun D4 hD4n=>?_⟩;refine bN (xs:=Is gl) (fun i τ H'=>∃ v0,τ = [v0,some (.ref x),some (.int k),some (.ref B),some (.ref D2)]/\aN H3 H'/\H' D4=some (.lst (((gl.take i).map fun z=>decide ((gl.count z:Nat)<=ms.getD z.toNat 0)).map V.bl))) ⟨none,rfl,aG hD4n _,aB⟩ ?keep4 ?turn4 ?done4
 case keep4 =>
  rintro i τ H' hi ⟨v0,rfl,hs,_⟩;exact bG.of (hs _ _ hD3)
 case turn4 =>
  rintro i j v τ H' hm' hi hv ⟨v0,rfl,hs,hD'⟩;obtain ⟨z,hz1,rfl⟩:=nW hv;have hzm:=aJg hz1;have ss:=BJ.trans hs;refine rQ ?_;refine ⟨_,rfl,.inl ⟨rfl,_,bG.of (hs _ _ hD3)⟩,_,rfl,D2,gl,z,rfl,rfl,hs _ _ hD3,_,rfl,x,C,dx,_,_,rfl,ss _ _ hx,cf,aF6,rfl,_,rfl,m,_,_,_,rfl,rfl,cV.of (ss _ _ hm),Om (gin z hzm).1 (gin z hzm).2,_,_,rfl,rfl,?_⟩;refine bB hm' hi hD' (by rw [aI8,aI8,aJz]; exact aU (by omega)) ⟨_,rfl,hs.upd_new hD4n _,?_⟩;rw [aB,take_snoc hz1,aJj,aJj]
  rfl
 case done4 =>
  rintro τ H5 ⟨v2,rfl,s5,hD5⟩;rw [bM,aJw] at hD5;refine ⟨D4,_,rfl,bG.of hD5,?_⟩;have h:=q H5 (BJ.trans s5);unfold rG at h;rw [hall,hgl,aLR] at h;rw [List.all_map];exact h
theorem Bl {n:Nat}{f:Addr}{fd:FuncData}(F:dN K "with_box" "with_box" (top 45) f fd):aP P w K mg base cN (n+1) f fd ["kept","box"] Ey:=by
 refine F.ok t8 (fun vs H Q E h=>?_) (fun cdv A outer s H vs Q E hr h=>?_)
 ·obtain ⟨k,b,rfl,_⟩:=h
  rfl
 obtain ⟨k,b,rfl,hb0,hb1,q⟩:=h;have nd:=t8.nd;refine ⟨_,(aF (aO (aW Gz (pv 0) (aW lA aH (pv 1))))),?_⟩;exact ⟨_,rfl,_,rfl,_,_,rfl,rfl,⟨hb0,by omega,by decide⟩,_,_,rfl,rfl,q⟩
theorem zK {n:Nat}{f:Addr}{fd:FuncData}(F:dN K "less_flaw" "less_flaw" (top 53) f fd){G_:Addr}{C_:FuncData}(H_:dY P w K mg base n "boxes_of" ["kept"] vM G_ C_)(e_:mg "range" = none)(l_:mg "len" = none):aP P w K mg base cN (n+1) f fd ["lets"] GZ:=by
 refine F.ok pO (fun vs H Q E h=>?_) (fun cdv A outer s H vs Q E hr h=>?_)
 ·obtain ⟨a,bs,rfl,_⟩:=h
  rfl
 obtain ⟨a,bs,rfl,ha,h64,dnA,qn⟩:=h;have nd:=pO.nd;refine ⟨_,(aD (eE PassesOwn.never rfl (cZ rfl e_ (aA (aR bU rfl l_ fV (aA (pv 0) aC)) aC)) (aQ (i:=1) nd rfl (Or.inl rfl)) (aF (eE PassesOwn.never rfl (bO (aJ H_ hr (aA (pv 1) aC))) (aQ (i:=2) nd rfl (Or.inl rfl)) (aD (aY (i:=3) nd rfl (Or.inl rfl) (aW jU (pv 1) (aW lA aH (pv 2)))) (aF (bZ (PW.pt (rW (bD (bQ dR (pv 0) (pv 1) (fun _ _=>rfl))) (pL (cG (bD (bQ dR (pv 0) (pv 3) (fun _ _=>rfl))))))) (aF (aO (cW (aA fL (aA (pv 1) (aA (pv 3) aC)))))) bA)))))) (aF (aO gM))),?_⟩;refine ⟨_,rfl,a,_,rfl,.inl (bG.of ha),(bs.length:Int),by rw [m7],by omega,by omega,?_⟩;refine iQ (n:=(bs.length:Int).toNat) (fun i σ H'=>∃ v1 v2 v3,σ = [some (.ref a),v1,v2,v3]/\aN H H'/\R9 bs i) ⟨none,none,none,rfl,aN.refl _,fun o h=>absurd h (aLH _)⟩ ?turn ?done
 case turn =>
  rintro i σ H' hi ⟨v1,v2,v3,rfl,hs,dn⟩;have hil:i<bs.length:=by omega
  refine ⟨_,rfl,0+(i:Int),rfl,fun B H1 s1 hBn hB=>?_⟩;have ss:=hs.trans s1;refine ⟨B,rfl,⟨_,bG.of hB⟩,?_⟩;refine iU (xs:=Is (gJ (0+(i:Int)))) (fun j σ H2=>∃ v2 v3,σ = [some (.ref a),some (.int (0+(i:Int))),v2,v3]/\H2=H1/\∀ b∈(gJ (0+(i:Int))).take j,bs.getD (0+(i:Int)).toNat false=true->bs.getD (0+(i:Int)-1*2^b.toNat).toNat false=true) ⟨v2,v3,rfl,rfl,fun _ h=>nomatch h⟩ ?keep2 ?turn2 ?done2
  case keep2 =>
   rintro j σ H2 hj ⟨v2,v3,rfl,rfl,_⟩;exact bG.of hB
  case turn2 =>
   rintro j v σ H2 hv ⟨v2,v3,rfl,rfl,hd⟩;obtain ⟨b,hb1,rfl⟩:=nW hv;have hbm:=aJg hb1;have r:=lG hbm;have lo:=low (k:=0+(i:Int)) (by omega) (by omega) hbm;refine ⟨_,rfl,_,rfl,_,_,rfl,rfl,⟨r.1,by omega,by decide⟩,_,_,rfl,rfl,?_⟩;refine ⟨_,rfl,_,rfl,a,_,_,_,rfl,rfl,bG.of (ss _ _ ha),BV (k:=0+(i:Int)) (by omega) (by omega),_,rfl,?_⟩;have stay:(bs.getD (0+(i:Int)).toNat false=true->bs.getD (0+(i:Int)-1*2^b.toNat).toNat false=true)->∀ b'∈(gJ (0+(i:Int))).take (j+1),bs.getD (0+(i:Int)).toNat false=true->bs.getD (0+(i:Int)-1*2^b'.toNat).toNat false=true:=fun h b' hb'=>by
    rw [take_snoc hb1] at hb';rcases aJy.mp hb' with u | u
    ·exact hd b' u
    ·rw [aJk.mp u];exact h
   cases e1:bs.getD (0+(i:Int)).toNat false with
   | false =>
    refine mY rfl ?_;exact ⟨_,_,rfl,rfl,fun _ _ z=>nomatch z⟩
   | true =>
    refine m5 rfl ?_;refine ⟨_,rfl,_,rfl,a,_,_,_,rfl,rfl,bG.of (ss _ _ ha),BV (k:=0+(i:Int)-1*2^b.toNat) lo.1 (by omega),_,rfl,?_⟩;cases e2:bs.getD (0+(i:Int)-1*2^b.toNat).toNat false with
    | true =>
     refine dM ?_;exact ⟨_,_,rfl,rfl,fun b' hb' _=>stay (fun _=>e2) b' hb' e1⟩
    | false =>
     exact absurd (dnA i hil b hbm e1) (by rw [e2]; decide)
  case done2 =>
   rintro σ H2 ⟨v2,v3,rfl,rfl,hd⟩;rw [bM,aJw] at hd;refine ⟨_,_,_,rfl,ss,fun o ho b hb1=>?_⟩
   by_cases e:o=i
   ·subst e;exact hd b hb1
   ·exact dn o (by omega) b hb1
 case done =>
  rintro σ H' ⟨v1,v2,v3,rfl,hs,dn⟩;rw [show (bs.length:Int).toNat=bs.length by omega] at dn;exact qn H' hs
theorem DX {n:Nat}{f:Addr}{fd:FuncData}(F:dN K "can_grow" "can_grow" (top 54) f fd){G_:Addr}{C_:FuncData}(H_:dY P w K mg base n "boxes_of" ["kept"] vM G_ C_){aFc:Addr}{aER:FuncData}(aFd:dY P w K mg base n "has_box" ["kept","box"] JM aFc aER){aET:Addr}{aEt:FuncData}(T_:dY P w K mg base n "with_box" ["kept","box"] Ey aET aEt)(aHM:mg "any" = none):aP P w K mg base cN (n+1) f fd ["lets","one","other"] K4:=by
 refine F.ok tD (fun vs H Q E h=>?_) (fun cdv A outer s H vs Q E hr h=>?_)
 ·obtain ⟨a,bs,m,o,e,rfl,_⟩:=h
  rfl
 obtain ⟨a,bs,m,o,e,rfl,ha,hl,hm,o0,o1,e0,e1,q⟩:=h;have nd:=tD.nd;refine ⟨_,(aF (aO (aR (Ht rfl rfl) rfl aHM QL (aA (cD (ls:=["box"]) (M:=["lets","one","other"]) rfl (bJ.of (by rfl)) (NL.of (by rfl)) (bO (aJ H_ hr (aA (pv 1) aC))) (fun _ _ _ _=>⟨(aQ (i:=0) (cH (by rfl)) rfl (Or.inl rfl)),(uY (cG (bD (aJ aFd hr (aA (pv 3) (aA (pv 0) aC)))))),(bQ (Jb (K:=K) rfl) (pv 1) (aJ T_ hr (aA (pv 3) (aA (pv 0) aC))) (fun _ _=>rfl))⟩)) aC)))),?_⟩;have bl:=pU o;have pl:(bs.length:Int)=2^m:=by rw [hl]; push_cast; rfl
 refine ⟨_,rfl,o,rfl,fun B H1 s1 hBn hB=>?_⟩;refine ⟨B,rfl,⟨_,bG.of hB⟩,fun D hD=>?_⟩;refine bN (xs:=Is (gJ o)) (fun i τ H'=>∃ v0,τ = [v0,some (.ref a),some (.int o),some (.int e)]/\aN H1 H'/\H' D=some (.lst (Bs ((((gJ o).take i).filter fun b=>!hb e b).map fun b=>bs.getD (Builtin.bitOr e (1*2^b.toNat)).toNat false)))) ⟨none,rfl,aG hD _,aB⟩ ?keep ?turn ?done
 case keep =>
  rintro i τ H' hi ⟨v0,rfl,hs,_⟩;exact bG.of (hs _ _ hB)
 case turn =>
  rintro i j v τ H' hm' hi hv ⟨v0,rfl,hs,hD'⟩;obtain ⟨b,hb1,rfl⟩:=nW hv;have hbm:=aJg hb1;have r:=lG hbm;have gi:=zG hm o0 (by omega) e0 (by omega) hbm;refine ⟨_,rfl,_,rfl,e,b,rfl,r.1,?_⟩;refine ⟨_,rfl,?_⟩;cases eb:hb e b with
  | true =>
   refine mY rfl ?_;refine j4 hm' hi ⟨_,rfl,hs,?_⟩;rw [take_snoc hb1,aJ2,show [b].filter (fun b=>!hb e b)=[] by rw [aKf,eb]; rfl,aJZ];exact hD'
  | false =>
   refine m5 rfl ?_;refine ⟨_,rfl,_,rfl,_,rfl,e,b,rfl,r.1,by omega,a,_,_,_,rfl,rfl,bG.of ((s1.trans hs) _ _ ha),BV gi.1 (by omega),?_⟩;refine bB hm' hi hD' (by rw [m7,aI8]; exact aU (aJc (aJM _ _) (by rw [aJz]; omega))) ⟨_,rfl,hs.upd_new hD _,?_⟩;rw [aB,take_snoc hb1,aJ2,show [b].filter (fun b=>!hb e b)=[b] by rw [aKf,eb]; rfl,aJj];show _=some (HO.lst (List.map V.bl (_++[bs.getD (Builtin.bitOr e (1*2^b.toNat)).toNat false])));rw [aJj]
   rfl
 case done =>
  rintro τ H' ⟨v0,rfl,hs,hD'⟩;rw [bM,aJw] at hD';exact ⟨D,_,rfl,bG.of hD',q H' (s1.trans hs)⟩
theorem uF {n:Nat}{f:Addr}{fd:FuncData}(F:dN K "sets_by_size" "sets_by_size" (top 55) f fd){aFe:Addr}{aES:FuncData}(aFf:dY P w K mg base n "size_of" ["kept"] Q7 aFe aES)(e_:mg "range" = none)(l_:mg "len" = none){gV:Value}(b_:mg "MOST_BOXES" = some gV)(d_:RelV (.int 6) gV):aP P w K mg base cN (n+1) f fd ["lets"] JK:=by
 refine F.ok lW (fun vs H Q E h=>?_) (fun cdv A outer s H vs Q E hr h=>?_)
 ·obtain ⟨a,bs,rfl,_⟩:=h
  rfl
 obtain ⟨a,bs,rfl,ha,h64,q⟩:=h;have nd:=lW.nd;refine ⟨_,(aD (m8 (i:=1) (ls:=["size"]) (M:=["lets","by_size","kept"]) rfl (bJ.of (by rfl)) (NL.of (by rfl)) nd rfl (Or.inl rfl) (cZ rfl e_ (aA (aW eY (cM (v:=.int 6) rfl b_ d_) aH) aC)) (fun _ _ _ _=>⟨(aQ (i:=0) (cH (by rfl)) rfl (Or.inl rfl)),b7,(iR aC)⟩)) (aD (eE PassesOwn.never rfl (cZ rfl e_ (aA (aR bU rfl l_ fV (aA (pv 0) aC)) aC)) (aQ (i:=2) nd rfl (Or.inl rfl)) (aF (bZ (bD (bQ dR (pv 0) (pv 2) (fun _ _=>rfl))) (aF (fU (lY PySem.F.plainAttrs_list PySem.F.slot_list_append PySem.F.type_list_append iM (bQ dR (pv 1) (aJ aFf hr (aA (pv 2) aC)) (fun _ _=>rfl)) (aA (pv 2) aC)))) bA))) (aF (aO (pv 1))))),?_⟩;refine ⟨_,_,rfl,rfl,7,rfl,by decide,by decide,fun D hD=>?_⟩;refine fG (n:=(7:Int).toNat) (fun i τ H'=>∃ v0 ls,τ = [v0,some (.ref a),none,none]/\aN H H'/\H' D=some (.lst (ls.map V.ref))/\ls.length=i/\ls.Nodup/\∀ l∈ls,H' l=some (.lst [])/\l≠D/\H l=none) ⟨none,[],rfl,aG hD _,aB,rfl,aKX,fun _ h=>nomatch h⟩ ?turn ?done
 case turn =>
  rintro i m τ H' hm hi ⟨v0,ls,rfl,hs,hD',ll,nd',hl⟩;have hi7:i<7:=hi;refine rQ ?_;refine ⟨aJD _,fun l hl0=>?_⟩;have n1:=aG hl0 (.lst []);have nD:l≠D:=fun e=>by rw [e,hD'] at hl0; cases hl0
  have hD2:=n1 _ _ hD';refine bB hm hi hD2 (by rw [aI8]; exact aU (by omega)) ⟨_,ls++[l],rfl,(hs.trans n1).upd_new hD _,?_,by rw [aJv,ll]; rfl,?_,fun y hy=>?_⟩
  ·rw [aB,aJj]
   rfl
  ·exact aKZ.mpr ⟨nd',aKl.mpr ⟨aKp,aKX⟩,fun u hu v hv=>by rw [aJk.mp hv]; rintro rfl; have:=(hl _ hu).1; rw [this] at hl0; cases hl0⟩
  ·rcases aJy.mp hy with u | u
   ·obtain ⟨x1,x2,x3⟩:=hl y u;exact ⟨by rw [aK x2]; exact n1 _ _ x1,x2,x3⟩
   ·rw [aJk.mp u];exact ⟨by rw [aK nD]; exact aB,nD,hs.free hl0⟩
 case done =>
 rintro τ H1 ⟨v0,ls,rfl,s1,hD1,ll,nd1,hl1⟩;have ll:ls.length=7:=ll;refine ⟨_,rfl,a,_,rfl,.inl (bG.of (s1 _ _ ha)),(bs.length:Int),by rw [m7],by omega,by omega,?_⟩;refine iQ (n:=(bs.length:Int).toNat) (fun i σ H'=>∃ v2,σ = [some (.ref a),some (.ref D),v2]/\aN H H'/\Yx H' D ls bs i) ⟨none,rfl,s1,⟨hD1,ll,nd1,fun l hl=>(hl1 l hl).2.1,fun s l hl=>(hl1 l (aJg hl)).1⟩⟩ ?turn2 ?done2
 case turn2 =>
  rintro i σ H' hi ⟨v2,rfl,hs,by1⟩;have hil:i<bs.length:=by omega
  refine ⟨_,rfl,_,rfl,a,_,_,_,rfl,rfl,bG.of (hs _ _ ha),BV (k:=0+(i:Int)) (by omega) (by omega),_,rfl,?_⟩;cases e1:bs.getD (0+(i:Int)).toNat false with
  | false =>
   refine mY rfl ?_;refine ⟨_,rfl,hs,by1.lst,by1.len,by1.nd,by1.ne,fun s l hl=>?_⟩;have h:=by1.each s l hl;rw [rZ,if_neg (by unfold pick; rw [e1,Bool.false_and]; exact aJp),aJZ];exact h
  | true =>
   refine m5 rfl ?_;have bl:=pU (0+(i:Int));obtain ⟨l,hl⟩:∃ l,ls[(gJ (0+(i:Int))).length]? = some l:=⟨_,aI7 (by omega)⟩
   refine ⟨_,rfl,_,rfl,0+(i:Int),rfl,fun H2 s2=>?_⟩;have h2:=s2 _ _ (by1.each _ l hl);refine ⟨D,_,_,_,rfl,rfl,bG.of (s2 _ _ by1.lst),dZ (v:=V.ref l) (by rw [aJh,hl]; rfl),Or.inl ⟨rfl,_,bG.of h2⟩,_,rfl,l,_,_,rfl,rfl,h2,by rw [bM]; exact aU (aJc (JZ _ _ _) (by omega)),?_⟩;have nD:=by1.ne l (aJg hl);refine ⟨_,rfl,(hs.trans s2).upd_new (hl1 l (aJg hl)).2.2 _,by rw [aK (Ne.symm nD)]; exact s2 _ _ by1.lst,by1.len,by1.nd,by1.ne,fun s y hy=>?_⟩
   by_cases es:s=(gJ (0+(i:Int))).length
   ·subst es;rw [hl] at hy;cases hy;rw [aB,rZ,if_pos (by unfold pick; rw [e1,aLR,beq_self_eq_true]),fZ]
   ·have ny:y≠l:=fun z=>by
     subst z;have a1:=(aJl.mp hy)
     have a2:=(aJl.mp hl)
     have pw:=aKM.mp by1.nd;rcases Nat.lt_or_gt_of_ne es with u | u
     ·exact pw _ _ a1.1 a2.1 u (a1.2.trans a2.2.symm)
     ·exact pw _ _ a2.1 a1.1 u (a2.2.trans a1.2.symm)
    rw [aK ny,rZ,if_neg (by unfold pick; rw [e1,aLR]; intro z; exact es (beq_iff_eq.mp z).symm),aJZ];exact s2 _ _ (by1.each s y hy)
 case done2 =>
  rintro σ H' ⟨v2,rfl,hs,by1⟩;rw [show (bs.length:Int).toNat=bs.length by omega] at by1;exact ⟨_,rfl,q D H' ls hs by1⟩
theorem zY {n:Nat}{f:Addr}{fd:FuncData}(F:dN K "more_flaw" "more_flaw" (top 56) f fd){aGI:Addr}{aGm:FuncData}(aGJ:dY P w K mg base n "can_grow" ["lets","one","other"] K4 aGI aGm){aFE:Addr}{aFq:FuncData}(aFF:dY P w K mg base n "sets_by_size" ["lets"] JK aFE aFq)(e_:mg "range" = none){gV:Value}(b_:mg "MOST_BOXES" = some gV)(d_:RelV (.int 6) gV):aP P w K mg base cN (n+1) f fd ["lets"] Lz:=by
 refine F.ok pW (fun vs H Q E h=>?_) (fun cdv A outer s H vs Q E hr h=>?_)
 ·obtain ⟨a,bs,m,rfl,_⟩:=h
  rfl
 obtain ⟨a,bs,m,rfl,ha,hl,hm,qn,qm⟩:=h;have nd:=pW.nd;refine ⟨_,(aD (aY (i:=1) nd rfl (Or.inl rfl) (aJ aFF hr (aA (pv 0) aC))) (aD (eE PassesOwn.never rfl (cZ rfl e_ (aA (cM (v:=.int 6) rfl b_ d_) aC)) (aQ (i:=2) nd rfl (Or.inl rfl)) (aF (eE PassesOwn.never rfl (bO (bQ dR (pv 1) (pv 2) (fun _ _=>rfl))) (aQ (i:=3) nd rfl (Or.inl rfl)) (aF (eE PassesOwn.never rfl (bO (bQ dR (pv 1) (aW eY (pv 2) aH) (fun _ _=>rfl))) (aQ (i:=4) nd rfl (Or.inl rfl)) (aF (bZ (cG (bD (aJ aGJ hr (aA (pv 0) (aA (pv 4) (aA (pv 3) aC)))))) (aF (aO (cW (aA fL (aA (pv 4) (aA (pv 3) aC)))))) bA))))))) (aF (aO gM)))),?_⟩;have h64:bs.length<=64:=by rw [hl]; exact aJc (aJ5 (by decide) hm) (by decide)
 refine ⟨_,rfl,a,bs,rfl,ha,h64,fun D H1 ls s1 by1=>?_⟩;refine ⟨6,rfl,by decide,by decide,?_⟩;have len:=by1.len;refine iQ (n:=(6:Int).toNat) (fun i σ H'=>∃ v2 v3 v4,σ = [some (.ref a),some (.ref D),v2,v3,v4]/\aN H1 H') ⟨none,none,none,rfl,aN.refl _⟩ ?turn ?done
 case done =>
  rintro σ H' ⟨v2,v3,v4,rfl,hs⟩;exact qn H' (s1.trans hs)
 case turn =>
  rintro i σ H' hi ⟨v2,v3,v4,rfl,hs⟩;have hi6:i<6:=hi;obtain ⟨l1,hl1⟩:∃ l,ls[i]? = some l:=⟨_,aI7 (by omega)⟩
  obtain ⟨l2,hl2⟩:∃ l,ls[i+1]? = some l:=⟨_,aI7 (by omega)⟩
  have k1:=by1.each i l1 hl1;have k2:=by1.each (i+1) l2 hl2;refine ⟨_,rfl,_,rfl,D,_,_,_,rfl,rfl,bG.of (hs _ _ by1.lst),at0 (v:=V.ref l1) (by rw [aJh,hl1]; rfl),l1,rfl,⟨_,bG.of (hs _ _ k1)⟩,?_⟩;refine iU (xs:=Is (Cw bs bs.length i)) (fun j σ H2=>∃ v3 v4,σ = [some (.ref a),some (.ref D),some (.int (0+(i:Int))),v3,v4]/\aN H1 H2) ⟨v3,v4,rfl,hs⟩ ?keep2 ?turn2 ?done2
  case keep2 =>
   rintro j σ H2 hj ⟨v3,v4,rfl,hs2⟩;exact bG.of (hs2 _ _ k1)
  case done2 =>
   rintro σ H2 ⟨v3,v4,rfl,hs2⟩;exact ⟨_,_,_,rfl,hs2⟩
  case turn2 =>
   rintro j v σ H2 hv ⟨v3,v4,rfl,hs2⟩;obtain ⟨e,he,rfl⟩:=nW hv;have me:=Cr (aJg he);refine ⟨_,rfl,_,rfl,_,_,rfl,rfl,D,_,_,_,rfl,rfl,bG.of (hs2 _ _ by1.lst),at1 (v:=V.ref l2) (by rw [aJh,hl2]; rfl),l2,rfl,⟨_,bG.of (hs2 _ _ k2)⟩,?_⟩;refine iU (xs:=Is (Cw bs bs.length (i+1))) (fun j σ H3=>∃ v4,σ = [some (.ref a),some (.ref D),some (.int (0+(i:Int))),some (.int e),v4]/\aN H1 H3) ⟨v4,rfl,hs2⟩ ?keep3 ?turn3 ?done3
   case keep3 =>
    rintro j σ H3 hj ⟨v4,rfl,hs3⟩;exact bG.of (hs3 _ _ k2)
   case done3 =>
    rintro σ H3 ⟨v4,rfl,hs3⟩;exact ⟨_,_,rfl,hs3⟩
   case turn3 =>
    rintro j v σ H3 hv ⟨v4,rfl,hs3⟩;obtain ⟨o,ho,rfl⟩:=nW hv;have mo:=Cr (aJg ho);refine ⟨_,rfl,_,rfl,_,rfl,a,bs,m,o,e,rfl,(s1.trans hs3) _ _ ha,hl,hm,mo.1,mo.2.1,me.1,me.2.1,fun H4 s4=>?_⟩;refine ⟨_,rfl,?_⟩;cases eg:(Ha bs o e).any id with
    | true =>
     refine dM ?_;exact ⟨_,rfl,hs3.trans s4⟩
    | false =>
     refine fQ ?_;refine ⟨_,rfl,_,rfl,Yo,fun r hr0=>?_⟩;exact qm r _ o e (((s1.trans hs3).trans s4).trans (aG hr0 _)) aB ⟨mo.1,mo.2.1,me.1,me.2.1,mo.2.2.1,me.2.2.1,by rw [mo.2.2.2,me.2.2.2],eg⟩
theorem Mu {n:Nat}{f:Addr}{fd:FuncData}(F:dN K "flaw" "flaw" (top 57) f fd){p:yX}(pt:Pu K p){aFG:Addr}{aEu:FuncData}(aGK:cF K p.f "may" aFG)(aGL:aP P w K mg base cN n aFG aEu ["self","kept"] (rY p.f))(aGM:Binds K aEu ["self","kept"] []){aFH:Addr}{aEv:FuncData}(aGN:cF K p.g "may" aFH)(aGO:aP P w K mg base cN n aFH aEv ["self","kept"] (sJ p.g))(aGP:Binds K aEv ["self","kept"] []){aFI:Addr}{aEw:FuncData}(aG5:cF K p.l "may" aFI)(aG6:aP P w K mg base cN n aFI aEw ["self","kept"] (rC p.l))(aG7:Binds K aEw ["self","kept"] []){aGn:Addr}{aF8:FuncData}(aGo:dY P w K mg base n "more_flaw" ["lets"] Lz aGn aF8){aGp:Addr}{aF9:FuncData}(aGq:dY P w K mg base n "less_flaw" ["lets"] GZ aGp aF9)(e_:mg "range" = none):aP P w K mg base cN (n+1) f fd ["pattern","many"] (uQ p):=by
 refine F.ok HW (fun vs H Q E h=>?_) (fun cdv A outer s H vs Q E hr h=>?_)
 ·obtain ⟨x,S,m,rfl,_⟩:=h
  rfl
 obtain ⟨x,S,m,rfl,hO,hG,m1,m6,nf,k⟩:=h;have nd:=HW.nd;refine ⟨_,(aD (m8 (i:=2) (ls:=["kept"]) (M:=["pattern","many","lets","less"]) rfl (bJ.of (by rfl)) (NL.of (by rfl)) nd rfl (Or.inl rfl) (cZ rfl e_ (aA (aW lA aH (pv 1)) aC)) (fun _ _ _ _=>⟨(aQ (i:=0) (cH (by rfl)) rfl (Or.inl rfl)),b7,(Ez (bT (pv 1) pt.cf aGK aGL hr aGM .nil bR (aA (pv 0) aC)) (bT (pv 1) pt.cg aGN aGO hr aGP .nil bR (aA (pv 0) aC)) (bT (pv 1) pt.cl aG5 aG6 hr aG7 .nil bR (aA (pv 0) aC)))⟩)) (aD (bZ (cG (bD (bQ dR (pv 2) aH (fun _ _=>rfl)))) (aF (aO (cW (aA fL (aA aH (aA aH aC)))))) bA) (aD (aY (i:=3) nd rfl (Or.inl rfl) (aJ aGq hr (aA (pv 2) aC))) (aF (aO (pJ (bV oX (pv 3) gM (bW _)) (aJ aGo hr (aA (pv 2) aC)) (pv 3))))))),?_⟩;have p64:2^m<=64:=aJc (aJ5 (by decide) m6) (by decide);obtain ⟨N,hN⟩:∃ N:Nat,N=2^m:=⟨_,rfl⟩
 have pe:(1:Int)*2^((m:Int)).toNat=(N:Int):=by rw [aLl,aKj,hN]; push_cast; rfl
 rw [<- hN] at p64;refine ⟨_,rfl,_,_,rfl,rfl,⟨by omega,by omega,by decide⟩,(N:Int),congrArg (fun v=>[V.int v]) pe,by omega,by omega,fun D hD=>?_⟩;refine fG (n:=(N:Int).toNat) (fun i τ H'=>∃ v0,τ = [v0,some (.ref x),some (.int (m:Int)),none,none]/\aN H H'/\H' D=some (.lst (Bs (jM S i)))) ⟨none,rfl,aG hD _,aB⟩ ?turn ?done
 case turn =>
  rintro i j τ H' hm hi ⟨v0,rfl,hs,hD'⟩;refine rQ ?_;have hX:=hO.same hs;refine QZ hX hG (fun Q' h=>⟨_,rfl,h⟩) (fun Q' h=>⟨_,rfl,h H' (aN.refl _)⟩) fun H2 s2=>?_;refine bB hm hi (s2 _ _ hD') (by rw [m7,m9]; exact aU (by omega)) ⟨_,rfl,(hs.trans s2).upd_new hD _,?_⟩;rw [aB];unfold jM;rw [kW,aJj];show _=some (HO.lst (List.map V.bl (_++[lE S (0+(i:Int))])));rw [aJj]
  rfl
 case done =>
 rintro τ H1 ⟨v0,rfl,s1,hD1⟩;rw [aKj,hN] at hD1;rw [hN] at p64;have ll:=m9 S (2^m);have lp:0<(jM S (2^m)).length:=by rw [ll]; exact aL8 (by decide)
 refine ⟨_,rfl,D,_,_,_,rfl,rfl,bG.of hD1,BV (k:=0) (by decide) (by omega),_,rfl,?_⟩;rw [show (jM S (2^m)).getD (0:Int).toNat false=true from Ms nf];refine dM ?_;refine ⟨_,rfl,D,jM S (2^m),rfl,hD1,by omega,N5 m6 nf,fun H2 s2=>?_⟩;refine ⟨_,rfl,rfl,_,rfl,?_⟩;refine fQ ?_;exact ⟨_,rfl,D,jM S (2^m),m,rfl,s2 _ _ hD1,ll,m6,fun H3 s3=>k H3 ((s1.trans s2).trans s3),fun r H3 o e s3 hr3 mf=>(OJ m6 nf mf).elim⟩
theorem wM {n:Nat}{f:Addr}{fd:FuncData}(F:dN K "is_pattern" "is_pattern" (top 52) f fd){p:yX}(pt:Pu K p)(aFJ:mg "Few" = some (.ref p.f))(aD7:mg "Groups" = some (.ref p.g))(aD8:mg "Listed" = some (.ref p.l))(a_:mg "isinstance" = none):aP P w K mg base cN (n+1) f fd ["thing"] (Oq p):=by
 refine F.ok nM (fun vs H Q E h=>?_) (fun cdv A outer s H vs Q E hr h=>?_)
 ·obtain ⟨x,S,rfl,_⟩:=h
  rfl
 obtain ⟨x,S,rfl,hX,q⟩:=h;have nd:=nM.nd;refine ⟨_,(aF (aO (Kf (aR (gA (K:=K) rfl) rfl a_ bC (aA (pv 0) (aA (cM (v:=.ref p.f) rfl aFJ rfl) aC))) (Kf (aR (gA (K:=K) rfl) rfl a_ bC (aA (pv 0) (aA (cM (v:=.ref p.g) rfl aD7 rfl) aC))) (mR (aR (gA (K:=K) rfl) rfl a_ bC (aA (pv 0) (aA (cM (v:=.ref p.l) rfl aD8 rfl) aC)))))))),?_⟩;cases S with
 | few cc =>
  obtain ⟨dx,hx⟩:=(show tY p.f H x cc from hX)
  refine ⟨_,rfl,_,p.f,.ref p.f,true,rfl,.ins hx pt.cf pt.fa pt.hn pt.htk pt.fm,pt.ff,?_⟩;refine ⟨_,rfl,?_⟩;refine fQ ?_;exact q
 | groups gs ms =>
  obtain ⟨dx,g,m0,hx,hg,hm0⟩:=(show Av p.g H x gs ms from hX)
  refine ⟨_,rfl,_,p.f,.ref p.g,false,rfl,.ins hx pt.cg pt.ga pt.hn pt.htk pt.gm,pt.gf,?_⟩;refine ⟨_,rfl,?_⟩;refine dM ?_;refine ⟨_,rfl,_,p.g,.ref p.g,true,rfl,.ins hx pt.cg pt.ga pt.hn pt.htk pt.gm,pt.gg,?_⟩;refine ⟨_,rfl,?_⟩;refine fQ ?_;exact q
 | listed ks =>
  obtain ⟨ms,pm,so,dx,t,hx,ht⟩:=(show ∃ ms,ms.Perm ks/\ms.Pairwise (·<=·)/\Fl p.l H x ms from hX)
  refine ⟨_,rfl,_,p.f,.ref p.l,false,rfl,.ins hx pt.cl pt.la pt.hn pt.htk pt.lm,pt.lf,?_⟩;refine ⟨_,rfl,?_⟩;refine dM ?_;refine ⟨_,rfl,_,p.g,.ref p.l,false,rfl,.ins hx pt.cl pt.la pt.hn pt.htk pt.lm,pt.lg,?_⟩;refine ⟨_,rfl,?_⟩;refine dM ?_;exact ⟨_,rfl,_,p.l,.ref p.l,true,rfl,.ins hx pt.cl pt.la pt.hn pt.htk pt.lm,pt.ll,q⟩
theorem uE {n:Nat}{f:Addr}{fd:FuncData}(F:dN K "need_pattern" "need_pattern" (top 58) f fd){p:yX}{aIA:Addr}{aH7:FuncData}(aIB:dY P w K mg base n "flaw" ["pattern","many"] (uQ p) aIA aH7){aGa:Addr}{aFU:FuncData}(aGb:dY P w K mg base n "is_pattern" ["thing"] (Oq p) aGa aFU):aP P w K mg base cN (n+1) f fd ["pattern","many"] (uQ p):=by
 refine F.ok lR (fun vs H Q E h=>?_) (fun cdv A outer s H vs Q E hr h=>?_)
 ·obtain ⟨x,S,m,rfl,_⟩:=h
  rfl
 obtain ⟨x,S,m,rfl,hO,hG,m1,m6,nf,k⟩:=h;have nd:=lR.nd;refine ⟨_,(aD (bZ (cG (bD (aJ aGb hr (aA (pv 0) aC)))) (aF jW) bA) (aD (aY (i:=2) nd rfl (Or.inl rfl) (aJ aIB hr (aA (pv 0) (aA (pv 1) aC)))) (aF (bZ (bV NQ (pv 2) gM (bW _)) (aF jW) bA)))),?_⟩;refine ⟨_,rfl,x,S,rfl,hO,?_⟩;refine ⟨_,rfl,?_⟩;refine dM ?_;refine ⟨_,rfl,_,rfl,x,S,m,rfl,hO,hG,m1,m6,nf,fun H1 s1=>?_⟩;refine ⟨_,rfl,rfl,_,rfl,?_⟩;refine mY rfl ?_;exact k H1 s1
theorem Hz {n:Nat}{f:Addr}{fd:FuncData}(F:dN K "set_of" "set_of" (top 46) f fd)(aEj:mg "sum" = none):aP P w K mg base cN (n+1) f fd ["boxes"] Ku:=by
 refine F.ok xZ (fun vs H Q E h=>?_) (fun cdv A outer s H vs Q E hr h=>?_)
 ·obtain ⟨a,ks,rfl,_⟩:=h
  rfl
 obtain ⟨a,ks,rfl,ha,l9,hk,q⟩:=h;have nd:=xZ.nd;refine ⟨_,(aF (aO (aR (pN rfl) rfl aEj Ad (aA (cD (ls:=["box"]) (M:=["boxes"]) rfl (bJ.of (by rfl)) (NL.of (by rfl)) (bO (pv 0)) (fun _ _ _ _=>⟨(aQ (i:=0) (cH (by rfl)) rfl (Or.inl rfl)),b7,(aW lA aH (pv 0))⟩)) aC)))),?_⟩;have hlr:=bM ks;refine ⟨_,rfl,a,rfl,⟨_,bG.of ha⟩,fun D hD=>?_⟩;refine bN (xs:=Is ks) (fun i τ H'=>∃ v0,τ = [v0,some (.ref a)]/\aN H H'/\H' D=some (.lst (Is ((ks.take i).map fun b=>(1:Int)*2^b.toNat)))) ⟨none,rfl,aG hD _,aB⟩ ?keep ?turn ?done
 case keep =>
  rintro i τ H' hi ⟨v0,rfl,hs,_⟩;exact bG.of (hs _ _ ha)
 case turn =>
  rintro i mm v τ H' hm hi hv ⟨v0,rfl,hs,hD'⟩;obtain ⟨b,hb1,rfl⟩:=nW hv;have hb2:=hk b (aJg hb1);unfold qT;refine eO ?_;refine ⟨_,rfl,_,_,rfl,rfl,⟨hb2.1,by omega,by decide⟩,?_⟩;refine bB hm hi hD' (by rw [bM,aI8,aJz]; exact aU (by omega)) ⟨_,rfl,hs.upd_new hD _,?_⟩;rw [aB,take_snoc hb1,aJj];show _=some (HO.lst (Is (_++[(1:Int)*2^b.toNat])));rw [fZ]
 case done =>
  rintro τ H1 ⟨v0,rfl,s1,hD1⟩;rw [hlr,aJw] at hD1;exact ⟨D,_,rfl,bG.of hD1,q H1 s1⟩
theorem u5 {c:Cs}{cC:Addr}{H:Hp}{x:Addr}{q:Ca}(h:fP c cC H x q):(cU q).length<=100/\∀ k∈cU q,0<=k/\k<100:=by
 have n6:=h.n6;unfold cU tO;refine ⟨?_,fun k hk=>?_⟩
 ·rw [aI8];exact aJc (aJM _ _) (by rw [aJX]; omega)
 ·obtain ⟨i,hi,rfl⟩:=aJe.mp hk;have:=aJV.mp (aJE.mp hi).1;show 0<=(i:Int)/\(i:Int)<100;omega
theorem Cm {n:Nat}{f:Addr}{fd:FuncData}(F:dN K "may_keep" "may_keep" (top 60) f fd){p:yX}(pt:Pu K p){c:Cs}{cC:Addr}(ca:Az K c cC){aHN:Addr}{aGr:FuncData}(aIC:cF K cC "kept" aHN)(aID:aP P w K mg base cN n aHN aGr ["self"] (Fo c cC))(aIE:Binds K aGr ["self"] []){aFG:Addr}{aEu:FuncData}(aGK:cF K p.f "may" aFG)(aGL:aP P w K mg base cN n aFG aEu ["self","kept"] (rY p.f))(aGM:Binds K aEu ["self","kept"] []){aFH:Addr}{aEv:FuncData}(aGN:cF K p.g "may" aFH)(aGO:aP P w K mg base cN n aFH aEv ["self","kept"] (sJ p.g))(aGP:Binds K aEv ["self","kept"] []){aFI:Addr}{aEw:FuncData}(aG5:cF K p.l "may" aFI)(aG6:aP P w K mg base cN n aFI aEw ["self","kept"] (rC p.l))(aG7:Binds K aEw ["self","kept"] []){aET:Addr}{aEt:FuncData}(T_:dY P w K mg base n "with_box" ["kept","box"] Ey aET aEt){aHO:Addr}{aG8:FuncData}(aFK:dY P w K mg base n "set_of" ["boxes"] Ku aHO aG8):aP P w K mg base cN (n+1) f fd ["pattern","case","box"] (Lb p c cC):=by
 refine F.ok tV (fun vs H Q E h=>?_) (fun cdv A outer s H vs Q E hr h=>?_)
 ·obtain ⟨x,y,i,q,S,rfl,_⟩:=h
  rfl
 obtain ⟨x,y,i,q,S,rfl,hX,hG,h,hi,k⟩:=h;have nd:=tV.nd;refine ⟨_,(aD (aY (i:=3) nd rfl (Or.inl rfl) (bF (pv 1) ca.cl aIC aID hr aIE .nil bR)) (aF (aO (oY (fY pP (pv 2) (pv 3) rfl) (mR (Ez (bT (pv 0) pt.cf aGK aGL hr aGM .nil bR (aA (aJ T_ hr (aA (aJ aFK hr (aA (pv 3) aC)) (aA (pv 2) aC))) aC)) (bT (pv 0) pt.cg aGN aGO hr aGP .nil bR (aA (aJ T_ hr (aA (aJ aFK hr (aA (pv 3) aC)) (aA (pv 2) aC))) aC)) (bT (pv 0) pt.cl aG5 aG6 hr aG7 .nil bR (aA (aJ T_ hr (aA (aJ aFK hr (aA (pv 3) aC)) (aA (pv 2) aC))) aC)))))))),?_⟩;have n6:=h.n6;refine ⟨_,rfl,y,_,_,rfl,h.hx,rfl,y,q,rfl,h,fun l H1 s1 hl=>?_⟩;refine ⟨_,rfl,_,rfl,l,_,rfl,.inl (bG.of hl),rfl,Ih q,?_⟩;rw [Gk hi];refine ⟨_,rfl,?_⟩;cases e:q.bs.getD i false with
 | true =>
  refine dM ?_;have z:keepB q S i=false:=by unfold keepB; rw [e]; rfl
  rw [<- z];exact k H1 s1
 | false =>
  refine fQ ?_;have ki:=u5 h;refine QZ (hX.same s1) hG (fun Q' h=>⟨_,rfl,h⟩) (fun Q' h=>⟨_,rfl,l,cU q,rfl,hl,ki.1,ki.2,fun H2 s2=>⟨_,rfl,_,_,rfl,by omega,by omega,h H2 s2⟩⟩) fun H2 s2=>?_;have z:keepB q S i=lE S (Builtin.bitOr (pQ (cU q)) (1*2^((i:Int)).toNat)):=by unfold keepB; rw [e]; rfl
  rw [<- z];exact k H2 (s1.trans s2)
def oV:Option Nat->V
 | none=>.non
 | some j=>.int (j:Int)
theorem Ew {n:Nat}{f:Addr}{fd:FuncData}(F:dN K "dearest" "dearest" (top 62) f fd){p:yX}{c:Cs}{cC:Addr}(ca:Az K c cC)(ck:CK K c){g_:Addr}{aFA:Addr}{aEr:FuncData}(aGC:cF K cC "how_many" aFA)(aGD:aP P w K mg base cN n aFA aEr ["self"] (Ko c cC))(aGE:Binds K aEr ["self"] []){aFB:Addr}{aEs:FuncData}(aE2:cF K cC "stand" aFB)(aE3:aP P w K mg base (o9 P w) n aFB aEs ["self","box"] (DP c cC g_))(aE4:Binds K aEs ["self","box"] []){aEU:Addr}{aEx:FuncData}(aGs:cF K c.e "reserve" aEU)(aFC:cF K c.s "reserve" aEU)(aFg:aP P w K mg base cN n aEU aEx ["self"] (nT c))(aFh:Binds K aEx ["self"] []){aGQ:Addr}{aGt:FuncData}(aGR:dY P w K mg base n "may_keep" ["pattern","case","box"] (Lb p c cC) aGQ aGt){aEY:Addr}{aEm:FuncData}(aEZ:dY P w K mg base n "below" ["one","other"] (uU K) aEY aEm)(e_:mg "range" = none):aP P w K mg base cN (n+1) f fd ["pattern","case"] (JN p c cC):=by
 refine F.ok wG (fun vs H Q E h=>?_) (fun cdv A outer s H vs Q E hr h=>?_)
 ·obtain ⟨x,y,q,S,r,rfl,_⟩:=h
  rfl
 obtain ⟨x,y,q,S,r,rfl,hX,hG,h,rv,k⟩:=h;have nd:=wG.nd;refine ⟨_,(aD (aY (i:=2) nd rfl (Or.inl rfl) gM) (aD (eE PassesOwn.never rfl (cZ rfl e_ (aA (bF (pv 1) ca.cl aGC aGD hr aGE .nil bR) aC)) (aQ (i:=3) nd rfl (Or.inl rfl)) (aF (bZ (bD (aJ aGR hr (aA (pv 0) (aA (pv 1) (aA (pv 3) aC))))) (aF (bZ (PW.pt (iB (bV oX (pv 2) gM (bW _)) (fW (bD (aJ aEZ hr (aA (d8 (bF (bT (pv 1) ca.cl aE2 aE3 hr aE4 .nil jJ (aA (pv 2) aC)) ck.ce aGs aFg hr aFh .nil bR) (bF (bT (pv 1) ca.cl aE2 aE3 hr aE4 .nil jJ (aA (pv 2) aC)) ck.cs aFC aFg hr aFh .nil bR)) (aA (d8 (bF (bT (pv 1) ca.cl aE2 aE3 hr aE4 .nil jJ (aA (pv 3) aC)) ck.ce aGs aFg hr aFh .nil bR) (bF (bT (pv 1) ca.cl aE2 aE3 hr aE4 .nil jJ (aA (pv 3) aC)) ck.cs aFC aFg hr aFh .nil bR)) aC))))))) (aF (aY (i:=2) nd rfl (Or.inl rfl) (pv 3))) bA)) bA))) (aF (aO (pv 2))))),?_⟩;have n6:=h.n6;have es:=h.es;refine ⟨_,rfl,y,_,_,rfl,h.hx,rfl,y,q,rfl,h,(q.ys.length:Int),rfl,by omega,by omega,?_⟩;refine iQ (n:=(q.ys.length:Int).toNat) (fun i σ H'=>∃ v3,σ = [some (.ref x),some (.ref y),some (oV (jP (keepB q S) (fun i=>Sd.V (r i)) i)),v3]/\aN H H') ⟨none,rfl,aN.refl _⟩ ?turn ?done
 case done =>
  rintro σ H' ⟨v3,rfl,hs⟩;have et:(q.ys.length:Int).toNat=q.ys.length:=aKj _;rw [et];exact ⟨_,rfl,k H' hs⟩
 case turn =>
  rintro i σ H' hi ⟨v3,rfl,hs⟩;have hiy:i<q.ys.length:=by omega
  rw [aK6];refine ⟨_,rfl,_,rfl,_,rfl,x,y,i,q,S,rfl,hX.same hs,hG,h.kt (aN.kt hs),hiy,fun H2 s2=>?_⟩;have h2:=h.kt (aN.kt (hs.trans s2));refine ⟨_,rfl,?_⟩;cases e:keepB q S i with
  | false =>
   refine mY rfl ?_;refine ⟨some (.int (i:Int)),?_,hs.trans s2⟩;rw [kZ];rw [if_neg (by rw [e]; decide)]
   rfl
  | true =>
   refine m5 rfl ?_;refine ⟨_,rfl,rfl,_,rfl,?_⟩;cases e2:jP (keepB q S) (fun i=>Sd.V (r i)) i with
   | none =>
    refine m5 (decide_eq_true rfl) ?_;refine ⟨_,rfl,some (.int (i:Int)),?_,hs.trans s2⟩;rw [kZ];rw [if_pos e,e2]
    rfl
   | some j =>
    refine mY (decide_eq_false (fun z=>nomatch z)) ?_;have hj:=qC e2;have ei:q.ss[i]? = some (q.ss[i]'(by omega)):=aI7 _;have ej:q.ss[j]? = some (q.ss[j]'(by omega)):=aI7 _;have sti:=(h2.st i _ _ (aI7 hiy) ei).1;have stj:=(h2.st j _ _ (aI7 (by omega)) ej).1;refine o4 (fun Q' hq=>⟨_,rfl,y,_,_,rfl,h2.hx,rfl,_,rfl,y,.int (j:Int),q,true,rfl,h2,pF.yes (by omega) (by omega),fun j0 y0 e1 e2=>by obtain rfl:j=j0:=(by injection e1 with e1; omega); rw [aI7 (by omega)] at e2; cases e2; exact hq,(fun z=>nomatch z)⟩) stj fun l1 v1 t1 w1 r1=>?_;refine o4 (fun Q' hq=>⟨_,rfl,y,_,_,rfl,h2.hx,rfl,_,rfl,y,.int (i:Int),q,true,rfl,h2,pF.yes (by omega) (by omega),fun j0 y0 e1 e2=>by obtain rfl:i=j0:=(by injection e1 with e1; omega); rw [aI7 (by omega)] at e2; cases e2; exact hq,(fun z=>nomatch z)⟩) sti fun l2 v2 t2 w2 r2=>?_;obtain ⟨rj,wj⟩:=rv.rv j _ (by omega) ej;obtain ⟨ri,wi⟩:=rv.rv i _ hiy ei;obtain rfl:=Sd.Rv.one r1 rj w1.fr wj.fr;obtain rfl:=Sd.Rv.one r2 ri w2.fr wi.fr;have z1:=Dp w1;have z2:=Dp w2;refine ⟨l1,l2,(r j).1,(r j).2,(r i).1,(r i).2,rfl,cV.of t1,cV.of t2,⟨aJc z1.t (by decide),aJc z1.b (by decide),aJc z2.t (by decide),aJc z2.b (by decide)⟩,?_⟩;refine ⟨_,rfl,?_⟩;have lt:=Sd.V_lt w1.fr.pos w2.fr.pos
    by_cases hlt:(r j).1*(r i).2<(r i).1*(r j).2
    ·refine m5 (decide_eq_true hlt) ?_;refine ⟨_,rfl,some (.int (i:Int)),?_,hs.trans s2⟩;rw [kZ];rw [if_pos e,e2];simp only;rw [if_pos (lt.mp hlt)]
     rfl
    ·refine mY (decide_eq_false hlt) ?_;refine ⟨some (.int (i:Int)),?_,hs.trans s2⟩;rw [kZ];rw [if_pos e,e2];simp only;rw [if_neg (fun z=>hlt (lt.mpr z))]
     rfl
theorem Eb {n:Nat}{f:Addr}{fd:FuncData}(F:dN K "deed_in" "deed_in" (top 63) f fd){p:yX}{c:Cs}{cC:Addr}(ca:Az K c cC)(ck:CK K c){g_:Addr}{aFB:Addr}{aEs:FuncData}(aE2:cF K cC "stand" aFB)(aE3:aP P w K mg base (o9 P w) n aFB aEs ["self","box"] (DP c cC g_))(aE4:Binds K aEs ["self","box"] []){aEU:Addr}{aEx:FuncData}(aGs:cF K c.e "reserve" aEU)(aFC:cF K c.s "reserve" aEU)(aFg:aP P w K mg base cN n aEU aEx ["self"] (nT c))(aFh:Binds K aEx ["self"] []){aGj:Addr}{aFj:FuncData}(aHC:cF K c.e "is_end" aGj)(aHD:aP P w K mg base cN n aGj aFj ["self"] (nZ c true))(aHE:Binds K aFj ["self"] []){aGk:Addr}{aFk:FuncData}(aHF:cF K c.s "is_end" aGk)(aHG:aP P w K mg base cN n aGk aFk ["self"] (nZ c false))(aHH:Binds K aFk ["self"] []){aEY:Addr}{aEm:FuncData}(aEZ:dY P w K mg base n "below" ["one","other"] (uU K) aEY aEm){aF1:Addr}{aFz:FuncData}(aFu:dY P w K mg base n "whole" ["number"] Qz aF1 aFz){aG9:Addr}{aGS:FuncData}(aHa:dY P w K mg base n "dearest" ["pattern","case"] (JN p c cC) aG9 aGS):aP P w K mg base cN (n+1) f fd ["pattern","case"] (Gm p c cC):=by
 refine F.ok vD (fun vs H Q E h=>?_) (fun cdv A outer s H vs Q E hr h=>?_)
 ·obtain ⟨x,y,q,S,r,rfl,_⟩:=h
  rfl
 obtain ⟨x,y,q,S,r,rfl,hX,hG,h,rv,k⟩:=h;have nd:=vD.nd;refine ⟨_,(aD (aY (i:=2) nd rfl (Or.inl rfl) (aJ aHa hr (aA (pv 0) (aA (pv 1) aC)))) (aD (bZ (PW.pt (iB (bV oX (pv 2) gM (bW _)) (fW (cG (bD (aJ aEZ hr (aA (aJ aFu hr (aA aH aC)) (aA (d8 (bF (bT (pv 1) ca.cl aE2 aE3 hr aE4 .nil jJ (aA (pv 2) aC)) ck.ce aGs aFg hr aFh .nil bR) (bF (bT (pv 1) ca.cl aE2 aE3 hr aE4 .nil jJ (aA (pv 2) aC)) ck.cs aFC aFg hr aFh .nil bR)) aC)))))))) (aF (aO (cW (aA fL aC)))) bA) (aF (aO (pJ (bD (d8 (bF (bT (pv 1) ca.cl aE2 aE3 hr aE4 .nil jJ (aA (pv 2) aC)) ck.ce aHC aHD hr aHE .nil bR) (bF (bT (pv 1) ca.cl aE2 aE3 hr aE4 .nil jJ (aA (pv 2) aC)) ck.cs aHF aHG hr aHH .nil bR))) (cW (aA fL (aA (pv 2) aC))) (cW (aA fL (aA (pv 2) aC)))))))),?_⟩;have n6:=h.n6;have es:=h.es;refine ⟨_,rfl,_,rfl,x,y,q,S,r,rfl,hX,hG,h,rv,fun H1 s1=>?_⟩;have h1:=h.kt (aN.kt s1);have dp:=Cd (f:=keepB q S) (r:=fun i=>Sd.V (r i)) q.ys.length;refine ⟨_,rfl,rfl,_,rfl,?_⟩;cases e:jP (keepB q S) (fun i=>Sd.V (r i)) q.ys.length with
 | none =>
  rw [e] at dp;refine m5 (decide_eq_true rfl) ?_;refine ⟨R4,fun a ha=>?_⟩;refine k a _ (s1.trans (aG ha _)) ?_;rw [dp];exact aB
 | some j =>
  rw [e] at dp;refine mY (decide_eq_false (fun z=>nomatch z)) ?_;have hj:=qC e;have ej:q.ss[j]? = some (q.ss[j]'(by omega)):=aI7 _;refine ⟨_,rfl,fun p2 H2 s2 t2=>?_⟩;have h2:=h1.kt (aN.kt s2);have stj:=(h2.st j _ _ (aI7 hj) ej).1;refine o4 (fun Q' hq=>⟨_,rfl,y,_,_,rfl,h2.hx,rfl,_,rfl,y,.int (j:Int),q,true,rfl,h2,pF.yes (by omega) (by omega),fun j0 y0 e1 e2=>by obtain rfl:j=j0:=(by injection e1 with e1; omega); rw [aI7 (by omega)] at e2; cases e2; exact hq,(fun z=>nomatch z)⟩) stj fun l1 v1 t1 w1 r1=>?_;obtain ⟨rj,wj⟩:=rv.rv j _ hj ej;obtain rfl:=Sd.Rv.one r1 rj w1.fr wj.fr;have z1:=Dp w1;refine ⟨p2,l1,0,1,(r j).1,(r j).2,rfl,cV.of t2,cV.of t1,⟨by decide,by decide,aJc z1.t (by decide),aJc z1.b (by decide)⟩,?_⟩;refine ⟨_,rfl,?_⟩;have lt:=Sd.V_lt (x:=(0,1)) (y:=r j) (by decide) w1.fr.pos;have v0:Sd.V (0,1)=0:=by unfold Sd.V; push_cast; grind
  rw [v0] at lt
  by_cases hlt:(0:Int)*(r j).2<(r j).1*1
  ·rw [decide_eq_true hlt];refine dM ?_;simp only at dp;rw [if_pos (lt.mp hlt)] at dp;refine Jh (fun Q' hq=>⟨_,rfl,y,_,_,rfl,h2.hx,rfl,_,rfl,y,.int (j:Int),q,true,rfl,h2,pF.yes (by omega) (by omega),fun j0 y0 e1 e2=>by obtain rfl:j=j0:=(by injection e1 with e1; omega); rw [aI7 (by omega)] at e2; cases e2; exact hq,(fun z=>nomatch z)⟩) stj fun b hb=>?_;refine ⟨_,rfl,?_⟩;rcases hb with ⟨hb,rfl⟩ | ⟨hb,rfl⟩
   ·refine m5 rfl ?_;refine ⟨_,rfl,uL,fun a ha=>?_⟩;refine k a _ (s1.trans (s2.trans (aG ha _))) ?_;rw [dp];exact ⟨_,ej,.inl ⟨hb,aB⟩⟩
   ·refine mY rfl ?_;refine ⟨_,rfl,uL,fun a ha=>?_⟩;refine k a _ (s1.trans (s2.trans (aG ha _))) ?_;rw [dp];exact ⟨_,ej,.inr ⟨hb,aB⟩⟩
  ·rw [decide_eq_false hlt];refine fQ ?_;simp only at dp;rw [if_neg (fun z=>hlt (lt.mpr z))] at dp;refine ⟨R4,fun a ha=>?_⟩;refine k a _ (s1.trans (s2.trans (aG ha _))) ?_;rw [dp];exact aB
theorem Mv {n:Nat}{f:Addr}{fd:FuncData}(F:dN K "deed" "deed" (top 64) f fd){p:yX}{c:Cs}{cC:Addr}(ca:Az K c cC){aFA:Addr}{aEr:FuncData}(aGC:cF K cC "how_many" aFA)(aGD:aP P w K mg base cN n aFA aEr ["self"] (Ko c cC))(aGE:Binds K aEr ["self"] []){aHb:Addr}{aGT:FuncData}(aHc:dY P w K mg base n "deed_in" ["pattern","case"] (Gm p c cC) aHb aGT){aFL:Addr}{aFr:FuncData}(aFM:dY P w K mg base n "need_pattern" ["pattern","many"] (uQ p) aFL aFr):aP P w K mg base cN (n+1) f fd ["pattern","case"] (Kv p c cC):=by
 refine F.ok Gh (fun vs H Q E h=>?_) (fun cdv A outer s H vs Q E hr h=>?_)
 ·obtain ⟨x,y,q,S,r,rfl,_⟩:=h
  rfl
 obtain ⟨x,y,q,S,r,rfl,hX,hG,nf,h,rv,k⟩:=h;have nd:=Gh.nd;refine ⟨_,(aD (fU (aJ aFM hr (aA (pv 0) (aA (bF (pv 1) ca.cl aGC aGD hr aGE .nil bR) aC)))) (aF (aO (aJ aHc hr (aA (pv 0) (aA (pv 1) aC)))))),?_⟩;refine ⟨_,rfl,_,rfl,y,_,_,rfl,h.hx,rfl,y,q,rfl,h,x,S,q.ys.length,rfl,hX,hG,h.n1,h.n6,nf,fun H1 s1=>?_⟩;exact ⟨_,rfl,_,rfl,x,y,q,S,r,rfl,hX.same s1,hG,h.kt (aN.kt s1),rv,fun a H2 s2 dd=>k a H2 (s1.trans s2) dd⟩
theorem Dr {n:Nat}{f:Addr}{fd:FuncData}(F:dN K "_law_row" "_law_row" (top 74) f fd){A_:Addr}{u_:FuncData}(i_:dY P w K mg base n "_law_mixed" ["_law_cell","_law_k"] Do A_ u_)(e_:mg "range" = none):aP P w K mg base cN (n+1) f fd ["_law_cell","_law_bit","_law_many"] LR:=by
 refine F.ok sZ (fun vs H Q E h=>?_) (fun cdv A outer s H vs Q E hr h=>?_)
 ·obtain ⟨c,b,n,rfl,_⟩:=h
  rfl
 obtain ⟨c,b,n,rfl,rfl,q⟩:=h;have nd:=sZ.nd;refine ⟨_,(aD (aY (i:=3) nd rfl (Or.inl rfl) (iR aC)) (aD (eE PassesOwn.never rfl (cZ rfl e_ (aA (pv 2) aC)) (aQ (i:=4) nd rfl (Or.inl rfl)) (aF (bZ (bV oH (aW dD (pv 1) aH) aH (bW _)) (aD (fU (lY PySem.F.plainAttrs_list PySem.F.slot_list_append PySem.F.type_list_append iM (pv 3) (aA (aW dD (pv 0) aH) aC))) (aF (aY (i:=0) nd rfl (Or.inl rfl) (aW gU (pv 0) aH)))) (aF (fU (lY PySem.F.plainAttrs_list PySem.F.slot_list_append PySem.F.type_list_append iM (pv 3) (aA (aJ i_ hr (aA (pv 0) (aA (pv 4) aC))) aC))))))) (aF (aO (pv 3))))),?_⟩;refine ⟨aJD _,fun r hr0=>?_⟩;have n1:=aG hr0 (.lst []);refine ⟨_,rfl,601,rfl,by decide,by decide,?_⟩;refine iQ (n:=(601:Int).toNat) (fun i σ H'=>∃ c v ns,σ = [some (.int c),some (.int b),some (.int 601),some (.ref r),v]/\aN H H'/\H' r=some (.lst (Is ns))/\ns.length=i) ⟨c,none,[],rfl,n1,aB,rfl⟩ ?turn ?done
 case done =>
  rintro σ H' ⟨c,v,ns,rfl,hs,hr1,nl⟩;exact ⟨_,rfl,q r H' ns hs hr0 hr1 nl⟩
 case turn =>
  rintro i σ H' hi ⟨c,v,ns,rfl,hs,hr1,nl⟩;have hi':i<601:=hi;refine ⟨_,rfl,_,_,rfl,rfl,(by show (0:Int)<2; decide),rfl,_,rfl,?_⟩;have push:∀ (z:Int),aN H (aX H' r (.lst (Is ns++[V.int z])))/\aX H' r (.lst (Is ns++[V.int z])) r=some (.lst (Is (ns++[z])))/\(ns++[z]).length=i+1:=fun z=>⟨hs.upd_new hr0 _,by rw [aB,fZ],by rw [aJv,nl]; rfl⟩
  refine uC (fun _=>?_) (fun _=>?_)
  ·refine ⟨_,rfl,.inl ⟨rfl,_,bG.of hr1⟩,_,rfl,_,_,rfl,rfl,(by show (0:Int)<2147483647; decide),r,_,_,rfl,rfl,hr1,by rw [bM]; exact aU (by omega),?_⟩;refine ⟨_,rfl,_,_,rfl,rfl,⟨by decide,by decide⟩,?_⟩;obtain ⟨a1,a2,a3⟩:=push (c%2147483647);exact ⟨_,_,_,rfl,a1,a2,a3⟩
  ·refine ⟨_,rfl,.inl ⟨rfl,_,bG.of hr1⟩,_,rfl,_,rfl,c,0+(i:Int),rfl,by omega,by omega,fun j _ _=>?_⟩;refine ⟨r,_,_,rfl,rfl,hr1,by rw [bM]; exact aU (by omega),?_⟩;obtain ⟨a1,a2,a3⟩:=push j;exact ⟨_,_,_,rfl,a1,a2,a3⟩
theorem BW {n:Nat}{f:Addr}{fd:FuncData}(F:dN K "_law_box" "_law_box" (top 75) f fd){n0:Nat}{aEV:Addr}{aEy:FuncData}(aEW:dY P w K mg base n "_law_box" ["_law_row_here","_law_deep","_law_most","_law_scale"] (Gq n0) aEV aEy)(h_:mg "tuple" = none)(e_:mg "range" = none)(aFZ:mg "min" = none):aP P w K mg base cN (n+1) f fd ["_law_row_here","_law_deep","_law_most","_law_scale"] (Gq (n0+1)):=by
 refine F.ok tG (fun vs H Q E h=>?_) (fun cdv A outer s H vs Q E hr h=>?_)
 ·obtain ⟨L,ns,d,m,sc,rfl,_⟩:=h
  rfl
 obtain ⟨L,ns,d,m,sc,rfl,hL,dn,d4,h1,m12,s1,s9,hp,hq,q⟩:=h;have nd:=tG.nd;refine ⟨_,(aD (aY (i:=4) nd rfl (Or.inl rfl) (lY PySem.F.plainAttrs_list PySem.F.slot_list_pop PySem.F.type_list_pop mW (pv 0) (aA aH aC))) (aD (bZ (PW.pt (iB (bV oH (pv 1) aH (bW _)) (iB (bV oH (aW dD (pv 4) aH) aH (bW _)) (fW (PW.pt (rW (bV oH (pv 2) aH (bW _)) (pL (bV GC (aW dD (pv 4) aH) aH (bW _))))))))) (aF (aO (cW (aA fL (aA (aW dD (lY PySem.F.plainAttrs_list PySem.F.slot_list_pop PySem.F.type_list_pop mW (pv 0) (aA aH aC)) (pv 3)) aC))))) bA) (aD (aY (i:=5) nd rfl (Or.inl rfl) (aR (yQ rfl) rfl aFZ K9 (aA (aW eY aH (aW dD (aW qQ (pv 4) aH) aH)) (aA (pv 2) aC)))) (aD (aY (i:=6) nd rfl (Or.inl rfl) (aW qQ (aW dD (lY PySem.F.plainAttrs_list PySem.F.slot_list_pop PySem.F.type_list_pop mW (pv 0) (aA aH aC)) (pv 3)) (aW eY aH (aW dD (aW qQ (pv 4) aH) aH)))) (aD (aY (i:=7) nd rfl (Or.inl rfl) (iR aC)) (aD (eE PassesOwn.never rfl (cZ rfl e_ (aA (pv 5) aC)) (aQ (i:=8) nd rfl (Or.inl rfl)) (aD (aY (i:=9) nd rfl (Or.inl rfl) (aW eY aH (aW dD (lY PySem.F.plainAttrs_list PySem.F.slot_list_pop PySem.F.type_list_pop mW (pv 0) (aA aH aC)) (bQ dR (iR (aA aH (aA aH aC))) (aW dD (aW qQ (pv 4) aH) aH) (fun _ _=>rfl))))) (aF (fU (lY PySem.F.plainAttrs_list PySem.F.slot_list_append PySem.F.type_list_append iM (pv 7) (aA (cW (aA (pv 9) (aA (aJ aEW hr (aA (pv 0) (aA (aW jU (pv 1) aH) (aA (aW qQ (pv 2) (pv 5)) (aA (pv 3) aC))))) aC))) aC)))))) (aF (aO (cW (aA fL (aA (pv 6) (aA (cY (cL (K:=K) rfl) rfl h_ eV (aA (pv 7) aC)) aC)))))))))))),?_⟩;cases ns with
 | nil=>have:=RN d m; simp at hp; omega
 | cons m0 ns =>
 cases ns with
 | nil=>have:=RN d m; simp at hp; omega
 | cons m1 ns =>
 have hlen:(m0::m1::ns).length=ns.length+2:=rfl;have p2:=RN d m;have e1:=gR m1 (show 0<sc by omega);refine ⟨_,rfl,.inl ⟨rfl,_,bG.of hL⟩,L,_,0,0,.int m0,rfl,rfl,hL,by decide,by decide,Qj (by simp),rfl,?_⟩;have hL1:aX H L (.lst (Is (m1::ns))) L=some (.lst (Is (m1::ns))):=aB;have k1:∀ b o,b≠L->H b=some o->aX (aX H L (.lst (Is (m1::ns)))) L (.lst (Is ns)) b=some o:=fun b o nb e=>by rw [aK nb,aK nb]; exact e
 have hL2:(aX (aX H L (.lst (Is (m1::ns)))) L (.lst (Is ns))) L=some (.lst (Is ns)):=aB;have fin:∀ r,(aX (aX H L (.lst (Is (m1::ns)))) L (.lst (Is ns))) r=none->Q (.ref r) (aX (aX (aX H L (.lst (Is (m1::ns)))) L (.lst (Is ns))) r (.tup [.str "end",.int (m1%sc)])):=fun r hr1=>by
  have n3:=aG hr1 (.tup [.str "end",.int (m1%sc)]);refine q r _ (.en (m1%sc)) ns (fun b o nb e=>n3 _ _ (k1 b o nb e)) (n3 _ _ hL2) (by omega) (by omega) (.en aB) (.en e1.1 (by omega) h1)
 refine ⟨_,rfl,rfl,_,rfl,?_⟩;refine uC (fun _=>?_) (fun c0=>?_)
 ·refine ⟨_,rfl,.inl ⟨rfl,_,bG.of hL1⟩,L,_,0,0,.int m1,rfl,rfl,hL1,by decide,by decide,Qj (by simp),rfl,_,rfl,_,_,rfl,rfl,by omega,uL,fun r hr1=>?_⟩;exact fin r hr1
 have d0:d≠0:=fun e=>c0 (decide_eq_true (by rw [e]; rfl));refine ⟨_,rfl,_,_,rfl,rfl,(by show (0:Int)<5; decide),rfl,_,rfl,?_⟩;refine uC (fun _=>?_) (fun c1=>?_)
 ·refine ⟨_,rfl,.inl ⟨rfl,_,bG.of hL1⟩,L,_,0,0,.int m1,rfl,rfl,hL1,by decide,by decide,Qj (by simp),rfl,_,rfl,_,_,rfl,rfl,by omega,uL,fun r hr1=>?_⟩;exact fin r hr1
 refine ⟨_,rfl,rfl,_,rfl,?_⟩;refine Wm ?st (fun hS=>?en)
 case en =>
  refine ⟨_,rfl,_,_,rfl,rfl,(by show (0:Int)<3; decide),_,_,rfl,rfl,_,rfl,?_⟩;refine uC (fun _=>?_) (fun _=>hS);refine ⟨_,rfl,.inl ⟨rfl,_,bG.of hL1⟩,L,_,0,0,.int m1,rfl,rfl,hL1,by decide,by decide,Qj (by simp),rfl,_,rfl,_,_,rfl,rfl,by omega,uL,fun r hr1=>?_⟩;exact fin r hr1
 obtain ⟨d,rfl⟩:∃ d',d=d'+1:=⟨d-1,by omega⟩
 have b4:=gR (m0/5) (show (0:Int)<4 by decide);have b9:=gR (m0/40) (show (0:Int)<9 by decide);obtain ⟨M,hM,M1,M4,Mm⟩:∃ M:Nat,(if (m:Int)<1+m0/5%4 then (m:Int) else 1+m0/5%4)=(M:Int)/\1<=M/\M<=4/\M<=m:=by
  split
  ·exact ⟨m,rfl,h1,by omega,aJd _⟩
  ·exact ⟨(1+m0/5%4).toNat,by omega,by omega,by omega,by omega⟩
 refine ⟨_,rfl,_,_,rfl,rfl,⟨by decide,by decide⟩,_,_,rfl,rfl,(by show (0:Int)<4; decide),_,_,rfl,rfl,_,rfl,_,_,rfl,?_⟩;rw [hM];refine ⟨_,rfl,.inl ⟨rfl,_,bG.of hL1⟩,L,_,0,0,.int m1,rfl,rfl,hL1,by decide,by decide,Qj (by simp),rfl,_,rfl,_,_,rfl,rfl,by omega,_,rfl,_,_,rfl,rfl,⟨by decide,by decide⟩,_,_,rfl,rfl,(by show (0:Int)<9; decide),_,_,rfl,rfl,_,_,rfl,rfl,⟨by omega,by omega⟩,?_⟩;refine ⟨aJD _,fun R hR=>?_⟩;have n3:=aG hR (.lst []);have hL3:=n3 _ _ hL2;have k3:∀ b o,b≠L->H b=some o->(aX (aX (aX H L (.lst (Is (m1::ns)))) L (.lst (Is ns))) R (.lst [])) b=some o:=fun b o nb e=>n3 _ _ (k1 b o nb e);have nRL:R≠L:=fun e=>by rw [e,aB] at hR; cases hR
 have hR0:H R=none:=by rw [aK nRL,aK nRL] at hR; exact hR
 have hR3:(aX (aX (aX H L (.lst (Is (m1::ns)))) L (.lst (Is ns))) R (.lst [])) R=some (.lst (([]:List Addr).map V.ref)):=aB;have pn:=aAt (d:=d) (m:=m) (n:=M) M1 M4 Mm;have cb:0<=m1%sc/(1+m0/40%9)/\m1%sc/(1+m0/40%9)<=1000000000:=by
  have a:=Int.ediv_nonneg e1.1 (show (0:Int)<=1+m0/40%9 by omega);have b:=Int.ediv_le_self (b:=1+m0/40%9) e1.1;exact ⟨a,by omega⟩
 refine ⟨_,rfl,(M:Int),rfl,by omega,by omega,?_⟩;refine iQ (n:=(M:Int).toNat) (fun i σ H'=>∃ v8 v9 ps ys rs ns3,σ = [some (.ref L),some (.int ((d+1:Nat):Int)),some (.int (m:Int)),some (.int sc),some (.int m0),some (.int (M:Int)),some (.int (m1%sc/(1+m0/40%9))),some (.ref R),v8,v9]/\(∀ b o,b≠L->H b=some o->H' b=some o)/\H' L=some (.lst (Is ns3))/\H' R=some (.lst (ps.map V.ref))/\wO H' ps ys rs/\rs.length=i/\(∀ r∈rs,1<=r.1/\r.1<=1000)/\(∀ r∈rs,Sd.Ok r.2 d (m/M))/\ns.length<=ns3.length+i*(1+pp d (m/M))/\ns3.length<=ns.length)
  ⟨none,none,[],[],[],ns,rfl,k3,hL3,hR3,⟨rfl,rfl,(fun i q y t a=>by simp at a),(fun i y t a=>by simp at a)⟩,rfl,(fun _ h=>nomatch h),(fun _ h=>nomatch h),by omega,aJd _⟩ ?turn ?done
 case turn =>
  rintro i σ H' hi ⟨v8,v9,ps,ys,rs,ns3,rfl,kH,hLi,hRi,tw,rl,rw_,ro,l1,l2⟩;have hiM:i<M:=by omega
  have im:(i+1)*(1+pp d (m/M))<=M*(1+pp d (m/M)):=aKJ _ hiM;have im2:(i+1)*(1+pp d (m/M))=i*(1+pp d (m/M))+(1+pp d (m/M)):=aLy _ _;cases ns3 with
  | nil=>exfalso; simp at l1; omega
  | cons z ns4 =>
  have l3:(z::ns4).length=ns4.length+1:=rfl;refine ⟨_,rfl,.inl ⟨rfl,_,bG.of hLi⟩,L,_,0,0,.int z,rfl,rfl,hLi,by decide,by decide,Qj (by simp),rfl,?_⟩;refine ⟨uL,fun l hl=>?_⟩;have n5:=aG hl (.lst [.int 3,.int 1000]);obtain ⟨v,ev,hv⟩:=at2 (V.int 3) (V.int 1000) (m0/20);obtain ⟨u,rfl,u1,u9⟩:∃ u:Int,v=.int u/\1<=u/\u<=1000:=by
   rcases hv with e | e
   ·exact ⟨3,e,by decide,by decide⟩
   ·exact ⟨1000,e,by decide,by decide⟩
  refine ⟨_,rfl,_,_,rfl,rfl,⟨by decide,by decide⟩,_,_,rfl,rfl,(by show (0:Int)<2; decide),l,_,_,_,rfl,rfl,bG.of aB,ev,_,_,rfl,rfl,by omega,_,_,rfl,rfl,?_⟩;have zu:=gR z (show 0<u by omega);have hLj:aX (aX H' L (.lst (Is ns4))) l (.lst [.int 3,.int 1000]) L=some (.lst (Is ns4)):=n5 _ _ aB;have hRj:aX (aX H' L (.lst (Is ns4))) l (.lst [.int 3,.int 1000]) R=some (.lst (ps.map V.ref)):=n5 _ _ (by rw [aK nRL]; exact hRi);have kj:∀ b o,b≠L->H' b=some o->aX (aX H' L (.lst (Is ns4))) l (.lst [.int 3,.int 1000]) b=some o:=fun b o nb e=>n5 _ _ (by rw [aK nb]; exact e);refine ⟨_,rfl,.inl ⟨rfl,_,bG.of hRj⟩,_,rfl,_,rfl,_,rfl,_,_,rfl,rfl,_,rfl,_,rfl,_,_,rfl,rfl,⟨by omega,by omega⟩,_,rfl,L,ns4,d,m/M,sc,?_,hLj,by omega,by omega,?_,?_,s1,s9,by omega,by omega,fun r H6 s6 ns6 k6 hL6 l6 l7 t6 o6=>?_⟩
  ·have e1:((d+1:Nat):Int)-1=(d:Int):=by omega
   have e2:(m:Int)/(M:Int)=((m/M:Nat):Int):=(Int.natCast_ediv m M).symm;show [V.ref L,V.int (((d+1:Nat):Int)-1),V.int ((m:Int)/(M:Int)),V.int sc]=_;rw [e1,e2]
  ·exact (Nat.le_div_iff_mul_le (by omega)).mpr (by omega)
  ·exact aJc (Nat.div_le_self _ _) m12
  refine ⟨uL,fun T hT=>?_⟩;have n7:=aG hT (.tup [.int (1+z%u),.ref r]);have hR6:=k6 _ _ nRL hRj;have hR7:=n7 _ _ hR6;have nTR:T≠R:=fun e=>by rw [e,hR6] at hT; cases hT
  have pl:ps.length=i:=by rw [tw.lp,rl]
  have tR:∀ b xs,aX H6 T (.tup [.int (1+z%u),.ref r]) b=some (.tup xs)->aX (aX H6 T (.tup [.int (1+z%u),.ref r])) R (.lst (ps.map V.ref++[.ref T])) b=some (.tup xs):=fun b xs e=>by rw [aK (bI e hR7 fun w=>nomatch w)]; exact e
  have tw7:=((tw.keep fun b xs e=>n7 _ _ (k6 _ _ (bI e hLi fun w=>nomatch w) (kj _ _ (bI e hLi fun w=>nomatch w) e))).keep tR).snoc (t:=(1+z%u,s6)) (tR _ _ aB) ((t6.same n7).keep tR);refine ⟨R,_,_,rfl,rfl,hR7,by rw [aI8,pl]; exact aU (by omega),?_⟩;refine ⟨_,_,ps++[T],ys++[r],rs++[(1+z%u,s6)],ns6,rfl,fun b o nb e=>?_,?_,by rw [aB,aJj]; rfl,tw7,by rw [aJv,rl]; rfl,fun x hx=>?_,fun x hx=>?_,by omega,by omega⟩
  ·have hb:b≠R:=fun w=>by rw [w,hR0] at e; cases e
   rw [aK hb];exact n7 _ _ (k6 _ _ nb (kj _ _ nb (kH b o nb e)))
  ·rw [aK (Ne.symm nRL)];exact n7 _ _ hL6
  ·rcases aJy.mp hx with w | w
   ·exact rw_ x w
   ·rw [aJk.mp w];exact ⟨by show 1<=1+z%u; omega,by show 1+z%u<=1000; omega⟩
  ·rcases aJy.mp hx with w | w
   ·exact ro x w
   ·rw [aJk.mp w];exact o6
 case done =>
  rintro σ H' ⟨v8,v9,ps,ys,rs,ns3,rfl,kH,hLi,hRi,tw,rl,rw_,ro,l1,l2⟩;rw [show (M:Int).toNat=M by omega] at rl l1;refine ⟨_,rfl,_,rfl,R,_,rfl,.inl ⟨bG.of hRi,fun t ht=>?_⟩⟩;have n5:=aG ht (.tup (ps.map V.ref));refine ⟨Yo,fun r hr1=>?_⟩;have n6:=aG hr1 (.tup [.str "stage",.int (m1%sc/(1+m0/40%9)),.ref t]);have tw6:=(tw.same n5).same n6;refine q r _ (.st (m1%sc/(1+m0/40%9)) rs) ns3 (fun b o nb e=>n6 _ _ (n5 _ _ (kH b o nb e))) (n6 _ _ (n5 _ _ hLi)) (by omega) (by omega) (.st aB (n6 _ _ aB) tw6.lp tw6.ly tw6.row tw6.sub) (.st (f:=fun _=>m/M) cb.1 cb.2 (fun e=>by rw [e] at rl; have:(0:Nat)=M:=rl; omega) (by omega) rw_ ro (by rw [List.map_const',List.sum_replicate_nat,rl]; exact Nat.mul_div_le m M))
end
end K54
namespace L2
open PySem PySem.Spec PyProof.Rows
section
variable {X:Cx}
theorem yV {st:Stmt}{t u:TS}(h1:PS X st t)(h2:PS X st u):PS X st (fun D σ H=>t D σ H∨u D σ H):=fun pins s σ H D I h=>h.elim (h1 pins s σ H D I) (h2 pins s σ H D I)
end
end L2
namespace K54
open PySem L2 TD TP
open Builtin.Int (intBits)
section
variable {P:Program}{w:World}{K:PySem.W.Frag}{mg:Str->Option Value}{base:Heap}{Pt:Addr}
theorem vI {n:Nat}{f:Addr}{fd:FuncData}(F:dN K "_law_plain" "_law_plain" (top 68) f fd){O_:Addr}{E_:FuncData}(B_:dY P w K mg base n "_law_plain" ["_law_thing"] spNo O_ E_)(a_:mg "isinstance" = none)(aD9:mg "bool" = none)(aEk:mg "int" = none)(aF0:mg "str" = none)(o_:mg "list" = none)(h_:mg "tuple" = none):aP P w K mg base cN (n+1) f fd ["_law_thing"] Oi:=by
 refine F.ok gQ (fun vs H Q E h=>?_) (fun cdv A outer s H vs Q E hr h=>?_)
 ·obtain ⟨v,rfl,_⟩:=h
  rfl
 obtain ⟨v,rfl,pl,q⟩:=h;have nd:=gQ.nd;refine ⟨_,(aD (bZ (bD (aR (qO (K:=K) rfl) rfl a_ bC (aA (pv 0) (aA (cW (aA (d7 (v:=.ty "tuple") rfl h_ eV rfl) (aA (d7 (v:=.ty "list") rfl o_ jG rfl) aC))) aC)))) (aD (yV (eE PassesOwn.never rfl (Ed (pv 0)) (aQ (i:=1) nd rfl (Or.inl rfl)) (aF (bZ (cG (bD (aJ B_ hr (aA (pv 1) aC)))) (aF (aO gH)) bA))) (eE PassesOwn.never rfl (bO (pv 0)) (aQ (i:=1) nd rfl (Or.inl rfl)) (aF (bZ (cG (bD (aJ B_ hr (aA (pv 1) aC)))) (aF (aO gH)) bA)))) (aF (aO gH))) bA) (aD (bZ (PW.pt (iB (bV oX (pv 0) gM (bW _)) (fW (bD (aR (cO (T:="str")) rfl a_ bC (aA (pv 0) (aA (d7 (v:=.ty "str") rfl aF0 Ji rfl) aC))))))) (aF (aO gH)) bA) (aF (aO (oY (aR (cO (T:="int")) rfl a_ bC (aA (pv 0) (aA (d7 (v:=.ty "int") rfl aEk Ar rfl) aC))) (mR (Fp (aR (cO (T:="bool")) rfl a_ bC (aA (pv 0) (aA (d7 (v:=.ty "bool") rfl aD9 Ax rfl) aC)))))))))),?_⟩;rcases pl with ⟨i,rfl⟩ | ⟨x,rfl⟩
 ·
  refine ⟨_,rfl,uL,fun t ht=>?_⟩;have n1:=aG ht (.tup [.ty "tuple",.ty "list"]);refine ⟨_,t,_,["tuple","list"],false,rfl,.int i,aB,(by rfl),_,rfl,?_⟩;refine dM ?_;refine ⟨_,rfl,rfl,_,rfl,?_⟩;refine dM ?_;refine ⟨_,rfl,_,_,_,rfl,.int i,(by rfl),_,rfl,?_⟩;refine dM ?_;refine ⟨_,rfl,_,_,_,rfl,.int i,fD _,_,rfl,?_⟩;refine fQ ?_;refine ⟨_,rfl,_,_,_,rfl,.int i,(by rfl),_,rfl,?_⟩;exact q _ n1
 ·refine ⟨_,rfl,uL,fun t ht=>?_⟩;have n1:=aG ht (.tup [.ty "tuple",.ty "list"]);refine ⟨_,t,_,["tuple","list"],false,rfl,.str x,aB,(by rfl),_,rfl,?_⟩;refine dM ?_;refine ⟨_,rfl,rfl,_,rfl,?_⟩;refine dM ?_;refine ⟨_,rfl,_,_,_,rfl,.str x,fD _,_,rfl,?_⟩;refine fQ ?_;exact q _ n1
theorem wV {n:Nat}{f:Addr}{fd:FuncData}(F:dN K "_law_plain" "_law_plain" (top 68) f fd){O_:Addr}{E_:FuncData}(B_:dY P w K mg base n "_law_plain" ["_law_thing"] Oi O_ E_)(a_:mg "isinstance" = none)(aD9:mg "bool" = none)(aEk:mg "int" = none)(aF0:mg "str" = none)(o_:mg "list" = none)(h_:mg "tuple" = none):aP P w K mg base cN (n+1) f fd ["_law_thing"] Ow:=by
 refine F.ok gQ (fun vs H Q E h=>?_) (fun cdv A outer s H vs Q E hr h=>?_)
 ·obtain ⟨a,xs,rfl,_⟩:=h
  rfl
 obtain ⟨a,xs,rfl,ha,pl,q⟩:=h;have nd:=gQ.nd;refine ⟨_,(aD (bZ (bD (aR (qO (K:=K) rfl) rfl a_ bC (aA (pv 0) (aA (cW (aA (d7 (v:=.ty "tuple") rfl h_ eV rfl) (aA (d7 (v:=.ty "list") rfl o_ jG rfl) aC))) aC)))) (aD (yV (eE PassesOwn.never rfl (Ed (pv 0)) (aQ (i:=1) nd rfl (Or.inl rfl)) (aF (bZ (cG (bD (aJ B_ hr (aA (pv 1) aC)))) (aF (aO gH)) bA))) (eE PassesOwn.never rfl (bO (pv 0)) (aQ (i:=1) nd rfl (Or.inl rfl)) (aF (bZ (cG (bD (aJ B_ hr (aA (pv 1) aC)))) (aF (aO gH)) bA)))) (aF (aO gH))) bA) (aD (bZ (PW.pt (iB (bV oX (pv 0) gM (bW _)) (fW (bD (aR (cO (T:="str")) rfl a_ bC (aA (pv 0) (aA (d7 (v:=.ty "str") rfl aF0 Ji rfl) aC))))))) (aF (aO gH)) bA) (aF (aO (oY (aR (cO (T:="int")) rfl a_ bC (aA (pv 0) (aA (d7 (v:=.ty "int") rfl aEk Ar rfl) aC))) (mR (Fp (aR (cO (T:="bool")) rfl a_ bC (aA (pv 0) (aA (d7 (v:=.ty "bool") rfl aD9 Ax rfl) aC)))))))))),?_⟩;refine ⟨_,rfl,uL,fun t ht=>?_⟩;have n1:=aG ht (.tup [.ty "tuple",.ty "list"]);have ha1:=n1 _ _ ha;refine ⟨_,t,_,["tuple","list"],true,rfl,.tup ha1,aB,(by rfl),_,rfl,?_⟩;refine fQ ?_;generalize aX H t (.tup [.ty "tuple",.ty "list"])=H1 at n1 ha1 ⊢
 left
 refine ⟨_,rfl,a,rfl,⟨_,cV.of ha1⟩,?_⟩;refine N8 (xs:=xs) (fun i σ H'=>∃ v,σ = [some (.ref a),v]/\aN H1 H') ⟨none,rfl,aN.refl _⟩ ?keep ?turn ?done
 case keep =>
  rintro i σ H' hi ⟨v,rfl,hs⟩;exact cV.of (hs _ _ ha1)
 case turn =>
  rintro i y σ H' hy ⟨v,rfl,hs⟩;refine ⟨_,rfl,y,rfl,pl y (aJg hy),fun H2 s2=>?_⟩;refine ⟨_,rfl,?_⟩;refine dM ?_;exact ⟨_,rfl,hs.trans s2⟩
 case done =>
  rintro σ H' ⟨v,rfl,hs⟩;exact q H' (n1.trans hs)
theorem NK {K:PySem.W.Frag}{H:Hp}{a b:Addr}{xs:List V}(pl:∀ x∈xs,Uw x)(h1:H a=some (.tup xs))(h2:H b=some (.tup xs)):DE K H (0+1) (.ref a) (.ref b) true:=by
 have z:=DE.tup (K:=K) (H:=H) (n:=0) (e:=fun _=>true) (cV.of h1) (cV.of h2) fun j u v eu ev=>by
  rw [eu] at ev;cases ev;rcases pl u (aJg eu) with ⟨i,rfl⟩ | ⟨x,rfl⟩
  ·have y:=DE.int (K:=K) (H:=H) 0 i i;rw [beq_self_eq_true] at y;exact y
  ·have y:=DE.str (K:=K) (H:=H) 0 x x;rw [beq_self_eq_true] at y;exact y
 rw [show ((aKk (min xs.length xs.length)).all (fun _=>true)&&xs.length==xs.length)=true by simp] at z;exact z
theorem z7 {n:Nat}{f:Addr}{fd:FuncData}(F:dN K "_law_same" "_law_same" (top 69) f fd){O_:Addr}{E_:FuncData}(B_:dY P w K mg base n "_law_plain" ["_law_thing"] Ow O_ E_):aP P w K mg base cN (n+1) f fd ["_law_found","_law_due_here"] Ox:=by
 refine F.ok pR (fun vs H Q E h=>?_) (fun cdv A outer s H vs Q E hr h=>?_)
 ·obtain ⟨a,b,q,o,rfl,_⟩:=h
  rfl
 obtain ⟨a,b,q,o,rfl,ha,hb,k⟩:=h;have nd:=pR.nd;have hu1:_+0+1<cLine:=aKc (aK5 (by decide:1<=64) _) (fM.units hr);refine ⟨_,(aF (aO (oY (aJ B_ hr (aA (pv 0) aC)) (mR (fY (Ky (n:=0) hu1) (pv 0) (pv 1) (bW _)))))),?_⟩;obtain ⟨xs,h1,h2,pl,fl,l2⟩:=NB ha hb;refine ⟨_,rfl,a,xs,rfl,h1,pl,fun H1 s1=>?_⟩;refine ⟨_,rfl,?_⟩;refine fQ ?_;exact ⟨_,rfl,_,rfl,a,b,true,rfl,rfl,NK pl (s1 _ _ h1) (s1 _ _ h2),k H1 s1⟩
theorem uN {n:Nat}{f:Addr}{fd:FuncData}(F:dN K "_law_pattern" "_law_pattern" (top 77) f fd){p:yX}(pt:Pu K p){iF:Addr}{iDF:FuncData}{kOF:Nat}(aIo:Mk K p.f iF)(aIp:aP P w K mg base cN kOF iF iDF ["self","count"] (Pk p.f))(aIq:Binds K iDF ["self","count"] [])(aFJ:mg "Few" = some (.ref p.f))(aHP:kOF+1<=n){iG:Addr}{iDG:FuncData}{kOG:Nat}(aHQ:Mk K p.g iG)(aHR:aP P w K mg base cN kOG iG iDG ["self","groups","most"] (Oo p.g))(aHS:Binds K iDG ["self","groups","most"] [])(aD7:mg "Groups" = some (.ref p.g))(aHd:kOG+1<=n){iL:Addr}{iDL:FuncData}{kOL:Nat}(aHT:Mk K p.l iL)(aHU:aP P w K mg base cN kOL iL iDL ["self","sets"] (Oc p.l))(aHV:Binds K iDL ["self","sets"] [])(aD8:mg "Listed" = some (.ref p.l))(aHe:kOL+1<=n){aFG:Addr}{aEu:FuncData}(aGK:cF K p.f "may" aFG)(aGL:aP P w K mg base cN n aFG aEu ["self","kept"] (rY p.f))(aGM:Binds K aEu ["self","kept"] []){aFH:Addr}{aEv:FuncData}(aGN:cF K p.g "may" aFH)(aGO:aP P w K mg base cN n aFH aEv ["self","kept"] (sJ p.g))(aGP:Binds K aEv ["self","kept"] []){aFI:Addr}{aEw:FuncData}(aG5:cF K p.l "may" aFI)(aG6:aP P w K mg base cN n aFI aEw ["self","kept"] (rC p.l))(aG7:Binds K aEw ["self","kept"] []){A_:Addr}{u_:FuncData}(i_:dY P w K mg base n "_law_mixed" ["_law_cell","_law_k"] Do A_ u_)(e_:mg "range" = none)(aEi:mg "max" = none)(aFZ:mg "min" = none):aP P w K mg base cN (n+1) f fd ["_law_cell","_law_many"] (JT p):=by
 refine F.ok lX (fun vs H Q E h=>?_) (fun cdv A outer s H vs Q E hr h=>?_)
 ·obtain ⟨c,m,rfl,_⟩:=h
  rfl
 obtain ⟨c,m,rfl,m1,m6,k⟩:=h;have nd:=lX.nd;refine ⟨_,(aD (aY (i:=2) nd rfl (Or.inl rfl) (aW dD (aJ i_ hr (aA (pv 0) (aA aH aC))) aH)) (aD (aY (i:=3) nd rfl (Or.inr rfl) (aW dD (aJ i_ hr (aA (pv 0) (aA aH aC))) (aR (yQ rfl) rfl aFZ K9 (aA (aW eY (pv 1) aH) (aA aH aC))))) (aD (bZ (bV oH (pv 2) aH (bW _)) (aF (aO (jL aIo aIp (hr.mono aHP) rfl aFJ aIq .nil bR (aA (pv 3) aC)))) bA) (aD (m8 (i:=4) (ls:=["_law_k"]) (M:=["_law_cell","_law_many","_law_way","_law_count","_law_groups","_law_most","_law_one"]) rfl (bJ.of (by rfl)) (NL.of (by rfl)) nd rfl (Or.inl rfl) (cZ rfl e_ (aA (aR (yU rfl) rfl aEi Ao (aA aH (aA (aW jU (pv 1) (aW dD (aJ i_ hr (aA (pv 0) (aA aH aC))) aH)) aC))) aC)) (fun _ _ _ _=>⟨(aQ (i:=0) (cH (by rfl)) rfl (Or.inl rfl)),b7,(aW dD (aJ i_ hr (aA (pv 1) (aA (aW eY aH (pv 0)) aC))) aH)⟩)) (aD (m8 (i:=5) (ls:=["_law_k"]) (M:=["_law_cell","_law_many","_law_way","_law_count","_law_groups","_law_most","_law_one"]) rfl (bJ.of (by rfl)) (NL.of (by rfl)) nd rfl (Or.inl rfl) (cZ rfl e_ (aA aH aC)) (fun _ _ _ _=>⟨(aQ (i:=0) (cH (by rfl)) rfl (Or.inl rfl)),b7,(aW dD (aJ i_ hr (aA (pv 1) (aA (aW eY aH (pv 0)) aC))) aH)⟩)) (aD (aY (i:=6) nd rfl (Or.inr rfl) (jL aHQ aHR (hr.mono aHd) rfl aD7 aHS .nil bR (aA (pv 4) (aA (pv 5) aC)))) (aD (bZ (bV xW (pv 2) aH (bW _)) (aF (aO (pv 6))) bA) (aF (aO (jL aHT aHU (hr.mono aHe) rfl aD8 aHV .nil bR (aA (cD (ls:=["_law_kept"]) (M:=["_law_cell","_law_many","_law_way","_law_count","_law_groups","_law_most","_law_one"]) rfl (bJ.of (by rfl)) (NL.of (by rfl)) (cZ rfl e_ (aA (aW lA aH (pv 1)) aC)) (fun _ _ _ _=>⟨(aQ (i:=0) (cH (by rfl)) rfl (Or.inl rfl)),(uY (PW.pt (rW (bD (bT (pv 7) pt.cg aGN aGO hr aGP .nil bR (aA (pv 0) aC))) (pL (bD (bT (jL aIo aIp (hr.mono aHP) rfl aFJ aIq .nil bR (aA (pv 4) aC)) pt.cf aGK aGL hr aGM .nil bR (aA (pv 0) aC))))))),(pv 0)⟩)) aC))))))))))),?_⟩;have mi:∀ (x d:Int),0<d->0<=x%d/\x%d<d:=fun x d h=>⟨aKR x (aJL h),aKx x h⟩
 refine ⟨_,rfl,c,50,rfl,by decide,by decide,fun w _ _=>?_⟩;refine ⟨_,_,rfl,rfl,(by show (0:Int)<4; decide),?_⟩;refine ⟨_,rfl,c,51,rfl,by decide,by decide,fun w2 _ _=>?_⟩;refine ⟨_,rfl,_,_,rfl,rfl,_,_,rfl,_,_,rfl,rfl,(by show (0:Int)<(if (7:Int)<(m:Int)+2 then 7 else (m:Int)+2); split <;> omega),?_⟩;have cb:=mi w2 (if (7:Int)<(m:Int)+2 then 7 else (m:Int)+2) (by split <;> omega);have cb7:(if (7:Int)<(m:Int)+2 then 7 else (m:Int)+2)<=7:=by split <;> omega
 dsimp only;generalize w2%(if (7:Int)<(m:Int)+2 then 7 else (m:Int)+2)=cn at cb ⊢;have c6:0<=cn/\cn<=6:=by omega
 refine ⟨_,rfl,rfl,_,rfl,?_⟩;refine uC (fun c0=>?_) (fun c0=>?_)
 ·refine ⟨_,rfl,fun x dx hx hdx ndx=>?_⟩;have nO:=nJ (o1:=.own x) (o2:=.ins p.f dx []) hx hdx ndx;refine ⟨x,dx,cn,rfl,aB,c6.1,c6.2,⟨rfl,?_⟩⟩;exact k x _ (.few cn) (nO.upd_new hx _) ⟨dx,aB⟩ c6 ⟨_,_,_,_,GJ c6.1 m m6⟩
 have wb:=mi (w) 4 (by decide);dsimp only;generalize w%4=way at wb c0 ⊢;refine ⟨_,rfl,_,rfl,c,58,rfl,by decide,by decide,fun w3 _ _=>?_⟩;have w3b:=mi w3 2 (by decide);obtain ⟨N,hN,N1,N6⟩:∃ N:Nat,(if (1:Int)<(m:Int)-w3%2 then (m:Int)-w3%2 else 1)=(N:Int)/\1<=N/\N<=6:=⟨(if (1:Int)<(m:Int)-w3%2 then (m:Int)-w3%2 else 1).toNat,by split <;> omega,by split <;> omega,by split <;> omega⟩
 refine ⟨_,_,rfl,rfl,(by show (0:Int)<2; decide),_,_,rfl,rfl,_,_,rfl,(N:Int),congrArg (fun v=>[V.int v]) hN,by omega,by omega,fun D hD=>?_⟩;refine fG (n:=(N:Int).toNat) (fun i τ H'=>∃ v0 gs,τ = [v0,some (.int c),some (.int (m:Int)),some (.int way),some (.int cn),none,none,none]/\aN H H'/\H' D=some (.lst (Is gs))/\gs.length=i/\∀ g∈gs,0<=g/\g<=5) ⟨none,[],rfl,aG hD _,aB,rfl,fun _ h=>nomatch h⟩ ?turn ?done
 case turn =>
  rintro i j τ H' hm hi ⟨v0,gs,rfl,hs,hD',gl,gb⟩;refine rQ ?_;refine ⟨_,rfl,_,rfl,_,_,rfl,rfl,c,52+(0+(i:Int)),rfl,by omega,by omega,fun w4 _ _=>?_⟩;refine ⟨_,_,rfl,rfl,(by show (0:Int)<3; decide),?_⟩;have wb4:=mi w4 3 (by decide);refine bB hm hi hD' (by rw [bM,gl]; exact aU (by omega)) ⟨_,gs++[w4%3],rfl,hs.upd_new hD _,by rw [aB,fZ],by rw [aJv,gl]; rfl,fun g hg=>?_⟩;rcases aJy.mp hg with z | z
  ·exact gb g z
  ·rw [aJk.mp z]; omega
 case done =>
 rintro τ H1 ⟨v0,gs,rfl,s1,hD1,gl,gb⟩;rw [show (N:Int).toNat=N by omega] at gl;refine ⟨6,rfl,by decide,by decide,fun D2 hD2=>?_⟩;refine fG (n:=(6:Int).toNat) (fun i τ H'=>∃ v0 ms,τ = [v0,some (.int c),some (.int (m:Int)),some (.int way),some (.int cn),some (.ref D),none,none]/\aN H1 H'/\H' D2=some (.lst (Is ms))/\ms.length=i/\∀ g∈ms,0<=g/\g<=6) ⟨none,[],rfl,aG hD2 _,aB,rfl,fun _ h=>nomatch h⟩ ?turn2 ?done2
 case turn2 =>
  rintro i j τ H' hm hi ⟨v0,gs,rfl,hs,hD',gl,gb⟩;have hi6:i<6:=hi;refine rQ ?_;refine ⟨_,rfl,_,rfl,_,_,rfl,rfl,c,60+(0+(i:Int)),rfl,by omega,by omega,fun w4 _ _=>?_⟩;refine ⟨_,_,rfl,rfl,(by show (0:Int)<4; decide),?_⟩;have wb4:=mi w4 4 (by decide);refine bB hm hi hD' (by rw [bM,gl]; exact aU (by omega)) ⟨_,gs++[w4%4],rfl,hs.upd_new hD2 _,by rw [aB,fZ],by rw [aJv,gl]; rfl,fun g hg=>?_⟩;rcases aJy.mp hg with z | z
  ·exact gb g z
  ·rw [aJk.mp z]; omega
 case done2 =>
 rintro τ H2 ⟨v0,ms,rfl,s2,hD22,ml,mb⟩;have ml:ms.length=6:=ml;have gg:O3 gs ms:=⟨by omega,by omega,gb,ml,mb⟩
 refine ⟨_,rfl,_,rfl,fun x dx hx hdx ndx=>?_⟩;have nO:=nJ (o1:=.own x) (o2:=.ins p.g dx []) hx hdx ndx;refine ⟨x,dx,D,D2,gs,ms,rfl,aB,nO _ _ (s2 _ _ hD1),nO _ _ hD22,gg,fun g2 m2 HK kk hg2 hm2 hxK=>⟨rfl,?_⟩⟩;have sK:aN H2 HK:=fun b o e=>kk b o (aV e hx) (nO _ _ e);have s0K:aN H HK:=s1.trans (s2.trans sK);have hX:Av p.g HK x gs ms:=⟨dx,g2,m2,hxK,hg2,hm2⟩
 refine ⟨_,rfl,_,_,rfl,rfl,_,rfl,?_⟩;refine uC (fun c1=>?_) (fun c1=>?_)
 ·exact ⟨_,rfl,k x HK (.groups gs ms) s0K hX gg ⟨_,_,_,_,Ge gg m m6⟩⟩
 have p64:2^m<=64:=aJc (aJ5 (by decide) m6) (by decide);obtain ⟨N2,hN2⟩:∃ N:Nat,N=2^m:=⟨_,rfl⟩
 have pe:(1:Int)*2^((m:Int)).toNat=(N2:Int):=by rw [aLl,aKj,hN2]; push_cast; rfl
 rw [<- hN2] at p64;refine ⟨_,rfl,_,_,rfl,rfl,⟨by omega,by omega,by decide⟩,(N2:Int),congrArg (fun v=>[V.int v]) pe,by omega,by omega,fun D3 hD3=>?_⟩;refine fG (n:=(N2:Int).toNat) (fun i τ H'=>∃ v0,τ = [v0,some (.int c),some (.int (m:Int)),some (.int way),some (.int cn),some (.ref D),some (.ref D2),some (.ref x)]/\aN HK H'/\H' D3=some (.lst (Is (pM gs ms cn i)))) ⟨none,rfl,aG hD3 _,aB⟩ ?turn3 ?done3
 case turn3 =>
  rintro i j τ H' hm hi ⟨v0,rfl,hs,hD'⟩;have bl:(pM gs ms cn i).length<=i:=aJc (aJM _ _) (by unfold six; rw [aI8,aJX]; exact aJd _);refine ⟨_,rfl,x,dx,_,rfl,hs _ _ hxK,rfl,_,rfl,x,gs,ms,0+(i:Int),rfl,hX.same hs,gg,fun H3 s3=>?_⟩;refine ⟨_,rfl,?_⟩;cases e:rG gs ms (0+(i:Int)) with
  | false =>
   refine mY rfl ?_;refine j4 hm hi ⟨_,rfl,hs.trans s3,?_⟩;rw [pC,e,if_neg (by simp),aJZ];exact s3 _ _ hD'
  | true =>
   refine m5 rfl ?_;refine ⟨_,rfl,fun x3 dx3 hx3 hdx3 ndx3=>?_⟩;have nO3:=nJ (o1:=.own x3) (o2:=.ins p.f dx3 []) hx3 hdx3 ndx3;refine ⟨x3,dx3,cn,rfl,aB,c6.1,c6.2,⟨rfl,?_⟩⟩;refine ⟨x3,dx3,_,rfl,aB,rfl,_,rfl,x3,cn,0+(i:Int),rfl,⟨dx3,aB⟩,fun H4 s4=>?_⟩;have s34:aN H3 H4:=(nO3.upd_new hx3 _).trans s4;refine ⟨_,rfl,?_⟩;cases e2:lE (.few cn) (0+(i:Int)) with
   | false =>
    refine mY rfl ?_;refine j4 hm hi ⟨_,rfl,hs.trans (s3.trans s34),?_⟩;rw [pC,e2,if_neg (by simp),aJZ];exact s34 _ _ (s3 _ _ hD')
   | true =>
    refine m5 rfl ?_;refine ⟨_,rfl,?_⟩;refine bB hm hi (s34 _ _ (s3 _ _ hD')) (by rw [bM]; exact aU (by omega)) ⟨_,rfl,(hs.trans (s3.trans s34)).upd_new hD3 _,?_⟩;rw [aB,pC,e,e2,if_pos (show (true&&true)=true from rfl),fZ]
 case done3 =>
 rintro τ H3 ⟨v0,rfl,s3,hD33⟩;rw [show (N2:Int).toNat=2^m by omega] at hD33;obtain ⟨gl3,nf3⟩:=Es gg c6.1 m6;intro x4 dx4 hx4 hdx4 ndx4;have nO4:=nJ (o1:=.own x4) (o2:=.ins p.l dx4 []) hx4 hdx4 ndx4;refine ⟨x4,dx4,D3,_,rfl,aB,nO4 _ _ hD33,gl3,fun t mo H5 s5 pm so ht=>⟨rfl,?_⟩⟩;have s45:aN H3 (aX H5 x4 (.ins p.l dx4 [("sets",.ref t)])):=(nO4.trans s5).upd_new hx4 _;exact k x4 _ (.listed _) (s0K.trans (s3.trans s45)) ⟨mo,pm,so,dx4,t,aB,by rw [aK (bI ht (s5 _ _ aB) fun z=>nomatch z)]; exact ht⟩ gl3 nf3
end
end K54
namespace L2
open PySem PySem.Spec PyProof.Rows
section
variable {X:Cx}
def KC (a:Addr):It :=
 ⟨fun i H=>∃ xs x,H a=some (.lst xs)/\xs[i]? = some x,
  fun i H v H'=>∃ x T,H T=none/\v=.ref T/\H'=aX H T (.tup [.int i,x])/\∀ xs,H a=some (.lst xs)->xs[i]? = some x,
  fun i H=>∃ xs,H a=some (.lst xs)/\xs.length<=i⟩
theorem Mf {P:Program}{w:World}{K:PySem.W.Frag}{elts:List Expr}{kk:Nat}{tpos:Pos}{e it a:Addr}(n1:e≠it)(n2:a≠it)(n3:e≠a) :
  Turn P w K (.Tuple elts kk tpos) (KC a) [e,it] e (fun i h=>∃ old,IsEnum h e it i old/\h.IsListIter it a i) where
 mem:=by simp
 obj:=fun i h st c hc=>by
  obtain ⟨old,he,⟨o1,e1,c1,d1⟩⟩:=st;simp only [aJx,aKp,or_false] at hc;rcases hc with rfl | rfl
  ·exact ⟨_,he,fun v z=>nomatch z⟩
  ·exact ⟨_,e1,fun v z=>by rw [d1] at z; cases z⟩
 keep:=fun i h h' st k=>by
  obtain ⟨old,he,h1⟩:=st;exact ⟨old,k e (by simp) _ he,h1.at fun o e=>k it (by simp) o e⟩
 item:=by
  intro X hP hw hK hc i pins s σ H E I hf st hg;subst hP hw hK;obtain ⟨xs,x,ha,hx⟩:=hg;obtain ⟨old,he,h1⟩:=st;obtain ⟨hz,its,n,rv,hl,ea⟩:=I.lstM ha;obtain ⟨u,hu,ru⟩:=rv.get hx;have il:i<its.toArray.size:=by
   have:=(aJl.mp hu).1
   simpa using this
  refine wpAny_pyNext_enum_itemD (Draws.list (by rw [show X.A.in1.handled=X.A.handled from rfl]; exact I.ok.hd hc) it a n2 its.toArray) he ⟨h1,⟨_,ea,rfl,n,rfl⟩⟩ il n1 (by simp [n1,n3]) fun y h' tk hy g1 g2 g3 g4 g5=>?_;have ey:y=u:=by
   have hy:its.toArray[i]? = some y:=hy;rw [aLK,hu] at hy;cases hy
   rfl
  subst ey;refine ⟨_,rfl,?_⟩;refine wpAny_letOwnedTupleGo_enum (s:={ s with heap:=h',toks:=tk+1 }) g1 fun h2 e2 k2=>?_;have lt:∀ {c o},s.heap.get? c=some o->s.heap.objs.size≠c:=fun q=>aKW (aJm q);have fr:H s.heap.objs.size=none:=I.hok.fresh (aJd _);have hT:h2.get? s.heap.objs.size=some { cls:=.type "tuple",data:=.seq #[.int i tk,y] }:=k2.extBut _ _ (lt he) g3;obtain ⟨o1,e1,r1⟩:=id h1;refine ⟨.ref s.heap.objs.size,aX H s.heap.objs.size (.tup [.int i,x]),?_,rfl,⟨x,_,fr,rfl,rfl,fun zs h=>by rw [ha] at h; cases h; exact hx⟩,⟨y,by simpa using e2,g2.1.extBut k2.extBut n1.symm⟩,fun c hc=>?_⟩
  ·refine I.turnedLaid (t':=tk+1) (ch:=[e,it]) hf (fun c o hc q=>?_) (aJd _) ⟨aJH (aU (show 2<=1000 by decide)),[.int i tk,y],.cons ⟨_,rfl⟩ (.cons ru .nil),_,hT,rfl,_,rfl⟩;simp only [aJx,aKp,or_false,not_or] at hc;exact k2.extBut _ _ hc.1 (g5 c o hc.1 hc.2 q)
  ·have ne:c≠s.heap.objs.size:=fun z=>by
    simp only [aJx,aKp,or_false] at hc;rcases hc with rfl | rfl
    ·exact lt he z.symm
    ·exact lt e1 z.symm
   rw [aK ne];exact (hf c hc).1
 done:=by
  intro X hP hw hK hc i pins s σ H E I hf st hg;subst hP hw hK;obtain ⟨xs,ha,hx⟩:=hg;obtain ⟨old,he,h1⟩:=st;obtain ⟨hz,its,n,rv,hl,ea⟩:=I.lstM ha;refine wpAny_pyNext_enum_end (I.ok.hd hc) he h1 ⟨_,ea,rfl,n,rfl⟩ (by rw [aLK,aKB (by omega)]) fun h' g=>⟨rfl,I.turnedN (t':=s.toks) (ch:=[e,it]) hf fun c o hc q=>?_⟩
  simp only [aJx,aKp,or_false,not_or] at hc;exact g c o hc.2 q
 self:=fun _ _ _ _ _ st h=>by
  obtain ⟨old,he,_⟩:=st;exact wpAny_pyIter_enum he h
def iEn (ta:TA):TI:=fun σ H R=>ta σ H fun vs H1=>∃ a xs,vs=[.ref a]/\H1 a=some (.lst xs)/\R (KC a) H1
theorem zZ:bootBuiltins "enumerate" = some (.type "enumerate"):=by decide +kernel
theorem M5 {a:Expr}{ta:TA}{p pos tpos:Pos}{elts:List Expr}{kk:Nat}(hg:Gl X "enumerate")(hm:X.mg "enumerate" = none)(ha:PA X [a] ta)(hs:starEach [a] X.env=[(false,eval a X.env)]:=by rfl):PI X (.Tuple elts kk tpos) (.Call (.Name "enumerate" p) [a] [] pos) (iEn ta):=by
 intro pins s σ H R I h;refine Call_ (pD I hg hm zZ (PyProof.Rows.callWith_type1 (dH (ha pos pins s σ H _ I h) fun us s1 ⟨vs,H1,I1,r1,q1⟩=>?_) hs rfl));obtain ⟨b,xs,e,hS,q⟩:=q1;subst e;obtain ⟨u,rfl,ru⟩:=vals1 r1;cases (show u=Value.ref b from ru);obtain ⟨hz,its,n,rv,hl,ea⟩:=I1.lstM hS;have lb:b<s1.heap.objs.size:=aJm ea;refine call_enumerate_1 ea fun h' g1 g2 g3 g4=>?_;refine wpAny_pyIter_enum g1 ?_;refine ⟨s1.heap.objs.size+1,[s1.heap.objs.size+1,s1.heap.objs.size],_,_,H1,rfl,I1.kept (t':=s1.toks) g4,Mf (by show (_:Nat)≠_; omega) (by show (_:Nat)≠_; exact aJB lb) (by show (_:Nat)≠_; exact aKW (aLj lb)),⟨_,g1,g2⟩,fun c hc=>?_,q⟩;have le:s1.heap.objs.size<=c:=by
  simp only [aJx,aKp,or_false] at hc;rcases hc with rfl | rfl <;> first | exact Nat.le_add_right _ _ | exact aJd _
 exact I1.fpOk le (I1.hok.fresh le)
theorem Lj {a:Addr}{xs:List V}{g:TG}{tb:TS}{D:Ends}{σ:St}{H:Hp}(Pv:Nat->St->Hp->Prop)(h0:Pv 0 σ H)(hl:∀ i σ H,i<=xs.length->Pv i σ H->H a=some (.lst xs))
  (hs:∀ i x T σ H,xs[i]? = some x->H T=none->Pv i σ H->g (.ref T) σ (aX H T (.tup [.int (i:Int),x])) fun σ2 H2=>tb { D with nx:=Pv (i+1),ct:=Pv (i+1),bk:=D.nx } σ2 H2) (hd:∀ σ H,Pv xs.length σ H->D.nx σ H) :
  ∃ W:Nat->Nat->St->Hp->Prop,(∃ m,W 0 m σ H)/\∀ i m σ H,W i m σ H ->
   ((KC a).stop i H/\D.nx σ H)∨((KC a).go i H/\∃ N:St->Hp->Prop,(∀ σ' H',N σ' H'->∃ m',m'<m/\W (i+1) m' σ' H')/\∀ x H',(KC a).yld i H x H'->g x σ H' fun σ2 H2=>tb { D with nx:=N,ct:=N,bk:=D.nx } σ2 H2):=by
 refine ⟨fun i m σ H=>m=xs.length-i/\i<=xs.length/\Pv i σ H,⟨xs.length,by simp,aJD _,h0⟩,?_⟩;rintro i m σ H ⟨rfl,hi,pv⟩;have q1:=hl i σ H hi pv
 by_cases hlt:i<xs.length
 ·refine .inr ⟨⟨xs,xs[i],q1,by simp [hlt]⟩,Pv (i+1),fun σ' H' p'=>⟨xs.length-(i+1),by omega,rfl,hlt,p'⟩,fun x H' y=>?_⟩;obtain ⟨x,T,hT,rfl,rfl,e1⟩:=y;exact hs i x T σ _ (e1 xs q1) hT pv
 ·have e:i=xs.length:=by omega
  subst e;exact .inl ⟨⟨xs,q1,aJd _⟩,hd σ H pv⟩
end
end L2
namespace K54
open PySem L2 TD TP
open Builtin.Int (intBits)
section
variable {P:Program}{w:World}{K:PySem.W.Frag}{mg:Str->Option Value}{base:Heap}{Pt:Addr}
theorem Gp {q:Ca}{ks:List Int}(k:ks.Perm (cU q)){i:Nat}(h:i<q.ys.length):Gd (.int (i:Int)) (ks.map V.int)=q.bs.getD i false:=by
 rw [<- Gk h,aJY];exact (rP (ks:=ks)).trans (k.mem_iff.trans (rP (ks:=cU q)).symm)
theorem Dg {n:Nat}{f:Addr}{fd:FuncData}(F:dN K "_law_due" "_law_due" (top 79) f fd){p:yX}(pt:Pu K p){c:Cs}{cC:Addr}(ca:Az K c cC)(ck:CK K c){aEU:Addr}{aEx:FuncData}(aGs:cF K c.e "reserve" aEU)(aFC:cF K c.s "reserve" aEU)(aFg:aP P w K mg base cN n aEU aEx ["self"] (nT c))(aFh:Binds K aEx ["self"] []){aFG:Addr}{aEu:FuncData}(aGK:cF K p.f "may" aFG)(aGL:aP P w K mg base cN n aFG aEu ["self","kept"] (rY p.f))(aGM:Binds K aEu ["self","kept"] []){aFH:Addr}{aEv:FuncData}(aGN:cF K p.g "may" aFH)(aGO:aP P w K mg base cN n aFH aEv ["self","kept"] (sJ p.g))(aGP:Binds K aEv ["self","kept"] []){aFI:Addr}{aEw:FuncData}(aG5:cF K p.l "may" aFI)(aG6:aP P w K mg base cN n aFI aEw ["self","kept"] (rC p.l))(aG7:Binds K aEw ["self","kept"] []){aEz:Addr}{aEg:FuncData}(aEA:dY P w K mg base n "_law_less" ["_law_one","_law_other"] Jg aEz aEg){z_:Addr}{t_:FuncData}(p_:dY P w K mg base n "_law_stand" ["_law_told"] (Ir c Pt eN 5) z_ t_)(aEB:mg "enumerate" = none)(aEk:mg "int" = none)(aEj:mg "sum" = none):aP P w K mg base cN (n+1) f fd ["_law_stands","_law_kept","_law_pattern_here"] (Jo p c cC Pt eN):=by
 refine F.ok tH (fun vs H Q E h=>?_) (fun cdv A outer s H vs Q E hr h=>?_)
 ·obtain ⟨l,kl,x,q,ts,ks,S,r,rfl,_⟩:=h
  rfl
 obtain ⟨l,kl,x,q,ts,ks,S,r,rfl,bs,hX,hG,hca,rv,hT,k⟩:=h;have nd:=tH.nd;refine ⟨_,(aD (aY (i:=3) nd rfl (Or.inl rfl) (aR (pN rfl) rfl aEj Ad (aA (cD (ls:=["_law_box_here"]) (M:=["_law_stands","_law_kept","_law_pattern_here","_law_bits","_law_found","_law_most","_law_box_here#","_law_told","_law_here"]) rfl (bJ.of (by rfl)) (NL.of (by rfl)) (bO (pv 1)) (fun _ _ _ _=>⟨(aQ (i:=0) (cH (by rfl)) rfl (Or.inl rfl)),b7,(aW lA aH (pv 0))⟩)) aC))) (aD (aY (i:=4) nd rfl (Or.inl rfl) (cW (aA fL aC))) (aD (aY (i:=5) nd rfl (Or.inl rfl) (cW (aA aH (aA aH aC)))) (aD (eE PassesOwn.never rfl (M5 rfl aEB (aA (pv 0) aC)) (wI rfl (bL (aQ (i:=6) nd rfl (Or.inl rfl)) (bL (aQ (i:=7) nd rfl (Or.inl rfl)) fK))) (aD (aY (i:=8) nd rfl (Or.inl rfl) (d8 (bF (aJ p_ hr (aA (pv 7) aC)) ck.ce aGs aFg hr aFh .nil bR) (bF (aJ p_ hr (aA (pv 7) aC)) ck.cs aFC aFg hr aFh .nil bR))) (aF (bZ (PW.pt (rW (bV pP (pv 6) (pv 1) rfl) (rW (bD (Ez (bT (pv 2) pt.cf aGK aGL hr aGM .nil bR (aA (aW Gz (pv 3) (aW lA aH (pv 6))) aC)) (bT (pv 2) pt.cg aGN aGO hr aGP .nil bR (aA (aW Gz (pv 3) (aW lA aH (pv 6))) aC)) (bT (pv 2) pt.cl aG5 aG6 hr aG7 .nil bR (aA (aW Gz (pv 3) (aW lA aH (pv 6))) aC)))) (pL (bD (aJ aEA hr (aA (pv 5) (aA (pv 8) aC)))))))) (aD (aY (i:=5) nd rfl (Or.inl rfl) (pv 8)) (aF (aY (i:=4) nd rfl (Or.inl rfl) (cW (aA (bQ dR (iR (aA fL (aA fL aC))) (cY Hv rfl aEk Ar (aA (fY oH (bQ cQ (pv 7) aH (fun _ _=>rfl)) fL (bW _)) aC)) (fun _ _=>rfl)) (aA (pv 6) aC)))))) bA)))) (aF (aO (pv 4))))))),?_⟩;obtain ⟨y0,h⟩:=hca;have n6:=h.n6;have es:=h.es;have hlr:=bM ks;have kb:∀ b∈ks,0<=b/\b<100:=fun b hb=>(u5 h).2 b (bs.kk.mem_iff.mp hb);have kl6:ks.length<=100:=by rw [bs.kk.length_eq]; exact (u5 h).1
 refine ⟨_,rfl,kl,rfl,⟨_,bG.of bs.hk⟩,fun D hD=>?_⟩;refine bN (xs:=Is ks) (fun i τ H'=>∃ v0,τ = [v0,some (.ref l),some (.ref kl),some (.ref x),none,none,none,none,none,none]/\aN H H'/\H' D=some (.lst (Is ((ks.take i).map fun b=>(1:Int)*2^b.toNat)))) ⟨none,rfl,aG hD _,aB⟩ ?keep ?turn ?done
 case keep =>
  rintro i τ H' hi ⟨v0,rfl,hs,_⟩;exact bG.of (hs _ _ bs.hk)
 case turn =>
  rintro i mm v τ H' hm hi hv ⟨v0,rfl,hs,hD'⟩;obtain ⟨b,hb1,rfl⟩:=nW hv;have hb2:=kb b (aJg hb1);unfold qT;refine eO ?_;refine ⟨_,rfl,_,_,rfl,rfl,⟨hb2.1,by omega,by decide⟩,?_⟩;refine bB hm hi hD' (by rw [bM,aI8,aJz]; exact aU (by omega)) ⟨_,rfl,hs.upd_new hD _,?_⟩;rw [aB,take_snoc hb1,aJj];show _=some (HO.lst (Is (_++[(1:Int)*2^b.toNat])));rw [fZ]
 case done =>
 rintro τ H1 ⟨v0,rfl,s1,hD1⟩;rw [hlr,aJw] at hD1;refine ⟨D,_,rfl,bG.of hD1,?_⟩;rw [show (ks.map fun b=>(1:Int)*2^b.toNat).sum=pQ (cU q) from Mh bs.kk];refine ⟨R4,fun f0 hf0=>?_⟩;have n2:=aG hf0 (.tup [.str "stop"]);refine ⟨uL,fun m0 hm0=>?_⟩;have n3:=aG hm0 (.tup [.int 0,.int 1]);have hf3:=n3 _ _ (aB (H:=H1) (a:=f0) (o:=.tup [.str "stop"]));have hm3:aX (aX H1 f0 (.tup [.str "stop"])) m0 (.tup [.int 0,.int 1]) m0=some (.tup [.int 0,.int 1]):=aB;have s3:aN H (aX (aX H1 f0 (.tup [.str "stop"])) m0 (.tup [.int 0,.int 1])):=s1.trans (n2.trans n3);generalize aX (aX H1 f0 (.tup [.str "stop"])) m0 (.tup [.int 0,.int 1])=H3 at hf3 hm3 s3 ⊢;have v01:Sd.V (0,1)=0:=by unfold Sd.V; push_cast; grind
 refine ⟨_,rfl,l,_,rfl,s3 _ _ bs.hl,?_⟩;refine Lj (xs:=ts.map V.ref) (fun i σ H'=>∃ F M v6 v7 v8 mv,σ = [some (.ref l),some (.ref kl),some (.ref x),some (.int (pQ (cU q))),some (.ref F),some (.ref M),v6,v7,v8]/\bH Pt H H'/\cX Pt eN fO H'/\Tq H' M mv/\Z6 mv/\Sd.V mv=(mU (keepB q S) (fun i=>Sd.V (r i)) i).2/\iD H' F q (mU (keepB q S) (fun i=>Sd.V (r i)) i).1)
  ⟨f0,m0,none,none,none,(0,1),rfl,s3.toT,hT.same s3,hm3,⟨by decide,by decide,by decide⟩,v01,hf3⟩ ?keep2 ?turn2 ?done2
 case keep2 =>
  rintro i σ H' hi ⟨F,M,v6,v7,v8,mv,rfl,sT,_⟩;exact (bH.kt sT hT).lst bs.hl
 case done2 =>
  rintro σ H' ⟨F,M,v6,v7,v8,mv,rfl,sT,tb,_,_,_,dd⟩;rw [aI8,bs.tl] at dd;exact ⟨_,rfl,k F H' sT tb dd⟩
 case turn2 =>
  rintro i v T σ H4 hv hTn ⟨F,M,v6,v7,v8,mv,rfl,sT4,tb4,tM,zM,eM,dd⟩;obtain ⟨t,et,rfl⟩:∃ t,ts[i]? = some t/\v=.ref t:=by
   rw [aJh] at hv;cases e:ts[i]? with
   | none=>rw [e] at hv; cases hv
   | some z=>rw [e] at hv; cases hv; exact ⟨z,rfl,rfl⟩
  have tl:=bs.tl;have hi:i<q.ys.length:=by have:=(aJl.mp et).1; omega
  have ei:q.ss[i]? = some (q.ss[i]'(by omega)):=aI7 _;have n5:=aG hTn (.tup [.int (i:Int),.ref t]);have sT5:bH Pt H (aX H4 T (.tup [.int (i:Int),.ref t])):=sT4.trans n5.toT;have tb5:=tb4.same n5;refine ⟨T,_,rfl,cV.of aB,rfl,_,_,rfl,_,_,rfl,rfl,?_⟩;generalize aX H4 T (.tup [.int (i:Int),.ref t])=H5 at n5 sT5 tb5 ⊢;have kt5:=bH.kt sT5 hT;have to:=(bs.mo i _ _ et ei).keep (H':=H5) fun b xs e=>kt5.tup e;obtain ⟨st,d4,m12⟩:=h.st i _ _ (aI7 hi) ei;obtain ⟨ri,wi⟩:=rv.rv i _ hi ei;generalize q.ss[i]'(by omega)=ent at ei to st ri d4 m12;obtain ⟨s,d,m⟩:=ent;refine CV (s:=s) (d:=d) (m:=m) (fun Q' hq=>⟨_,rfl,t,s,d,m,rfl,to,st.ok,aKc d4 (by decide),d4,m12,tb5,fun y H6 sT tb6 st6=>hq y H6 sT tb6 st6⟩) fun lr lv H6 sT6 tb6 tq lw R=>?_;obtain rfl:=Sd.Rv.one R ri lw.fr wi.fr;have kt6:=bH.kt sT6 tb5;have sT06:=sT5.trans sT6;have b6:=(bs.kt kt5).kt kt6;have hX6:=(hX.kp kt5.kp).kp kt6.kp;have tM6:Tq H6 M mv:=kt6.tup (n5 _ _ tM);have dd6:iD H6 F q (mU (keepB q S) (fun i=>Sd.V (r i)) i).1:=dd.keep fun b xs e=>kt6.tup (n5 _ _ e);have to6:=to.keep (H':=H6) fun b xs e=>kt6.tup e;have skip:∀ H7,aN H6 H7->(keepB q S i=true->¬ Sd.V mv<Sd.V (r i))->bH Pt H H7/\cX Pt eN fO H7/\Tq H7 M mv/\Z6 mv/\Sd.V mv=(mU (keepB q S) (fun i=>Sd.V (r i)) (i+1)).2/\iD H7 F q (mU (keepB q S) (fun i=>Sd.V (r i)) (i+1)).1:=fun H7 s7 no=>by
   have e:mU (keepB q S) (fun i=>Sd.V (r i)) (i+1)=mU (keepB q S) (fun i=>Sd.V (r i)) i:=by
    show (if keepB q S i=true/\(mU (keepB q S) (fun i=>Sd.V (r i)) i).2<Sd.V (r i) then _ else _)=_;rw [if_neg (fun z=>no z.1 (by rw [eM]; exact z.2))]
   rw [e];exact ⟨sT06.trans s7.toT,tb6.same s7,s7 _ _ tM6,zM,eM,dd6.same s7⟩
  refine ⟨_,rfl,_,rfl,kl,_,rfl,.inl (bG.of b6.hk),rfl,yL ks,_,rfl,?_⟩;rw [Gp bs.kk hi];cases e:q.bs.getD i false with
  | true =>
   refine mY rfl ?_;refine mY rfl ?_;have sk:=skip H6 (aN.refl _) fun z=>by unfold keepB at z; rw [e] at z; cases z
   exact ⟨F,M,_,_,_,mv,rfl,sk⟩
  | false =>
  refine m5 rfl ?_;refine QZ hX6 hG (fun Q' h=>⟨_,rfl,h⟩) (fun Q' h=>⟨_,rfl,_,rfl,_,_,rfl,rfl,⟨by omega,by omega,by decide⟩,_,_,rfl,rfl,h H6 (aN.refl _)⟩) fun H7 s7=>?_;have ek:keepB q S i=lE S (Builtin.bitOr (pQ (cU q)) (1*2^((i:Int)).toNat)):=by unfold keepB; rw [e]; rfl
  rw [<- ek];refine ⟨_,rfl,?_⟩;cases e2:keepB q S i with
  | false =>
   refine mY rfl ?_;refine mY rfl ?_;have sk:=skip H7 s7 fun z=>by rw [e2] at z; cases z
   exact ⟨F,M,_,_,_,mv,rfl,sk⟩
  | true =>
  refine m5 rfl ?_;refine ⟨_,rfl,_,rfl,M,lr,mv,r i,rfl,s7 _ _ tM6,s7 _ _ tq,zM,CZ lw,?_⟩;refine ⟨_,rfl,?_⟩;have lt:=Sd.V_lt zM.p lw.fr.pos
  by_cases hlt:mv.1*(r i).2<(r i).1*mv.2
  ·refine m5 (decide_eq_true hlt) ?_;have eD:mU (keepB q S) (fun i=>Sd.V (r i)) (i+1)=(some i,Sd.V (r i)):=by
    show (if keepB q S i=true/\(mU (keepB q S) (fun i=>Sd.V (r i)) i).2<Sd.V (r i) then _ else _)=_;rw [if_pos ⟨e2,by rw [<- eM]; exact lt.mp hlt⟩]
   rw [eD];refine ⟨_,rfl,?_⟩;refine ⟨uL,fun L2 hL2=>?_⟩;have n8:=aG hL2 (.lst [.str "open",.str "take"]);cases to6 with
   | @en _ u ht =>
    refine ⟨_,rfl,t,_,_,_,rfl,rfl,cV.of (n8 _ _ (s7 _ _ ht)),rfl,rfl,.inr ⟨_,rfl,L2,_,_,_,rfl,rfl,bG.of aB,rfl,_,rfl,uL,fun F2 hF2=>?_⟩⟩;have n9:=aG hF2 (.tup [.str "take",.int (i:Int)]);exact ⟨F2,lr,_,_,_,r i,rfl,sT06.trans (s7.trans (n8.trans n9)).toT,tb6.same (s7.trans (n8.trans n9)),n9 _ _ (n8 _ _ (s7 _ _ tq)),CZ lw,rfl,⟨_,ei,.inl ⟨⟨_,rfl⟩,aB⟩⟩⟩
   | @st _ r0 p0 rs ps zs ht hr0 lp ly row sub =>
    refine ⟨_,rfl,t,_,_,_,rfl,rfl,cV.of (n8 _ _ (s7 _ _ ht)),rfl,rfl,.inr ⟨_,rfl,L2,_,_,_,rfl,rfl,bG.of aB,rfl,_,rfl,uL,fun F2 hF2=>?_⟩⟩;have n9:=aG hF2 (.tup [.str "open",.int (i:Int)]);exact ⟨F2,lr,_,_,_,r i,rfl,sT06.trans (s7.trans (n8.trans n9)).toT,tb6.same (s7.trans (n8.trans n9)),n9 _ _ (n8 _ _ (s7 _ _ tq)),CZ lw,rfl,⟨_,ei,.inr ⟨⟨_,_,rfl⟩,aB⟩⟩⟩
  ·refine mY (decide_eq_false hlt) ?_;have sk:=skip H7 s7 fun _ z=>hlt (lt.mpr z);exact ⟨F,M,_,_,_,mv,rfl,sk⟩
theorem Ai {n:Nat}{f:Addr}{fd:FuncData}(F:dN K "_law_less" "_law_less" (top 73) f fd):aP P w K mg base cN (n+1) f fd ["_law_one","_law_other"] Jg:=by
 refine F.ok pI (fun vs H Q E h=>?_) (fun cdv A outer s H vs Q E hr h=>?_)
 ·obtain ⟨p,q,x,y,rfl,_⟩:=h
  rfl
 obtain ⟨p,q,x,y,rfl,hp,hq,z1,z2,k⟩:=h;have nd:=pI.nd;refine ⟨_,(aF (aO (fY xW (aW dO (bQ cQ (pv 0) aH (fun _ _=>rfl)) (bQ cQ (pv 1) aH (fun _ _=>rfl))) (aW dO (bQ cQ (pv 1) aH (fun _ _=>rfl)) (bQ cQ (pv 0) aH (fun _ _=>rfl))) (bW _)))),?_⟩;exact ⟨_,rfl,p,_,_,_,rfl,rfl,(cV.of hp),rfl,_,rfl,q,_,_,_,rfl,rfl,(cV.of hq),rfl,_,_,rfl,rfl,gB z1.t z2.b (by decide),_,rfl,q,_,_,_,rfl,rfl,(cV.of hq),rfl,_,rfl,p,_,_,_,rfl,rfl,(cV.of hp),rfl,_,_,rfl,rfl,gB z2.t z1.b (by decide),_,_,rfl,rfl,k⟩
theorem jV {pos:Pos}{qual:Str}{H:Hp}{a:Addr}{xs zs:List V}(t:cX Pt pos qual H)(e:H a=some (.lst xs)):cX Pt pos qual (aX H a (.lst zs)):=by
 rcases t with t | ⟨c,t,u⟩
 ·exact .inl (by rw [aK (bI t e fun z=>nomatch z)]; exact t)
 ·exact .inr ⟨c,by rw [aK (bI t e fun z=>nomatch z)]; exact t,by rw [aK (bI u e fun z=>nomatch z)]; exact u⟩
theorem zN {n:Nat}{f:Addr}{fd:FuncData}(F:dN K "_law_done" "_law_done" (top 78) f fd){c:Cs}{cC:Addr}(ca:Az K c cC)(ck:CK K c){aEU:Addr}{aEx:FuncData}(aGs:cF K c.e "reserve" aEU)(aFC:cF K c.s "reserve" aEU)(aFg:aP P w K mg base cN n aEU aEx ["self"] (nT c))(aFh:Binds K aEx ["self"] []){aIN:Addr}{aIr:FuncData}(aI1:cF K cC "opened" aIN)(aI2:aP P w K mg base (o9 P w) n aIN aIr ["self","box","row"] (Ph c cC))(aI3:Binds K aIr ["self","box","row"] []){aIO:Addr}{aIs:FuncData}(aI4:cF K cC "taken" aIO)(aI5:aP P w K mg base (o9 P w) n aIO aIs ["self","box"] (Oe c cC))(aI6:Binds K aIs ["self","box"] []){A_:Addr}{u_:FuncData}(i_:dY P w K mg base n "_law_mixed" ["_law_cell","_law_k"] Do A_ u_){aEz:Addr}{aEg:FuncData}(aEA:dY P w K mg base n "_law_less" ["_law_one","_law_other"] Jg aEz aEg){z_:Addr}{t_:FuncData}(p_:dY P w K mg base n "_law_stand" ["_law_told"] (Ir c Pt eN 5) z_ t_)(l_:mg "len" = none):aP P w K mg base cN (n+1) f fd ["_law_case","_law_stands","_law_lows","_law_kept","_law_cell"] (GD c cC Pt eN):=by
 refine F.ok qI (fun vs H Q E h=>?_) (fun cdv A outer s H vs Q E hr h=>?_)
 ·obtain ⟨x,l,lo,kl,cell,q,ts,ws,ks,rfl,_⟩:=h
  rfl
 obtain ⟨x,l,lo,kl,cell,q,ts,ws,ks,rfl,h,bs,ho,wl,wv,d9,n1,n2,n3,hT,k⟩:=h;have nd:=qI.nd;refine ⟨_,(aD (aY (i:=5) nd rfl (Or.inl rfl) (aW dD (aJ i_ hr (aA (pv 4) (aA aH aC))) (aR bU rfl l_ fV (aA (pv 1) aC)))) (aD (aY (i:=6) nd rfl (Or.inl rfl) (bQ dR (pv 1) (pv 5) (fun _ _=>rfl))) (aD (bZ (bV oH (bQ cQ (pv 6) aH (fun _ _=>rfl)) fL (bW _)) (aD (bZ (bV yC (pv 5) (pv 3) rfl) (aF (aO (pv 0))) bA) (aD (fU (lY PySem.F.plainAttrs_list PySem.F.slot_list_append PySem.F.type_list_append iM (pv 3) (aA (pv 5) aC))) (aF (aO (bT (pv 0) ca.cl aI4 aI5 hr aI6 .nil jJ (aA (pv 5) aC)))))) bA) (aD (aY (i:=7) nd rfl (Or.inl rfl) (d8 (bF (aJ p_ hr (aA (pv 6) aC)) ck.ce aGs aFg hr aFh .nil bR) (bF (aJ p_ hr (aA (pv 6) aC)) ck.cs aFC aFg hr aFh .nil bR))) (aD (bZ (PW.pt (iB (bV oX (bQ dR (pv 2) (pv 5) (fun _ _=>rfl)) gM (bW _)) (fW (bD (aJ aEA hr (aA (pv 7) (aA (bQ dR (pv 2) (pv 5) (fun _ _=>rfl)) aC))))))) (aF (Ab (pv 7) (Ac (pv 2) (pv 5) set_list))) bA) (aD (aY (i:=8) nd rfl (Or.inl rfl) (aW dD (aJ i_ hr (aA (pv 4) (aA aH aC))) (aR bU rfl l_ fV (aA (bQ cQ (pv 6) aH (fun _ _=>rfl)) aC)))) (aD (Ab (bQ cQ (bQ cQ (bQ cQ (pv 6) aH (fun _ _=>rfl)) (pv 8) (fun _ _=>rfl)) aH (fun _ _=>rfl)) (Ac (pv 1) (pv 5) set_list)) (aF (aO (bT (pv 0) ca.cl aI1 aI2 hr aI3 .nil jJ (aA (pv 5) (aA (pv 8) aC)))))))))))),?_⟩;have n6:=h.n6;have y1:=h.n1;have es:=h.es;have ebl:=h.eb;have tl:=bs.tl;have kl6:ks.length<=100:=by rw [bs.kk.length_eq]; exact (u5 h).1
 refine ⟨_,rfl,cell,30,rfl,by decide,by decide,fun w _ _=>?_⟩;refine ⟨_,rfl,l,_,rfl,.inl (bG.of bs.hl),_,_,rfl,rfl,(by rw [aI8]; omega),?_⟩;rw [aI8];have g3:=aKR w (show (ts.length:Int)≠0 by omega);have g4:=aKx w (show (0:Int)<(ts.length:Int) by omega);obtain ⟨b,hb⟩:∃ b:Nat,w%(ts.length:Int)=(b:Int):=⟨(w%(ts.length:Int)).toNat,by omega⟩
 have hby:b<q.ys.length:=by omega
 have et:ts[b]? = some (ts[b]'(by omega)):=aI7 _;have ei:q.ss[b]? = some (q.ss[b]'(by omega)):=aI7 _;have eb:q.bs[b]? = some (q.bs[b]'(by omega)):=aI7 _;have to:=bs.mo b _ _ et ei;obtain ⟨st,d4,m12⟩:=h.st b _ _ (aI7 hby) ei;generalize ts[b]'(by omega)=t at et to;generalize q.ss[b]'(by omega)=ent at ei to st d4 m12;obtain ⟨sd,d,m⟩:=ent;refine ⟨_,rfl,_,rfl,l,_,_,_,rfl,rfl,bG.of bs.hl,(by rw [hb]; exact dZ (v:=V.ref t) (by rw [aJh,et]; rfl)),?_⟩;have to0:=to;cases to with
 | @en _ u ht =>
  refine ⟨_,rfl,t,_,_,_,rfl,rfl,cV.of ht,rfl,rfl,_,rfl,?_⟩;refine m5 (by decide) ?_;refine ⟨_,rfl,_,rfl,kl,_,rfl,.inl (bG.of bs.hk),rfl,yL ks,_,rfl,?_⟩;have ein:=Gp bs.kk hby
  refine uC (fun c1=>?_) (fun c1=>?_)
  ·exact ⟨_,rfl,k x q ts ws ks H (fun b o _ _ _ _ e=>e) hT h bs ho wl wv rfl (by omega)⟩
  ·have nb:q.bs.getD b false=false:=by
    rw [<- ein,<- hb]
    simpa using c1
   have eb2:q.bs[b]? = some false:=by rw [eb,<- getD_at (d:=false) (show b<q.bs.length by omega),nb]
   refine ⟨_,rfl,.inl ⟨rfl,_,bG.of bs.hk⟩,_,rfl,kl,_,.int (w%(ts.length:Int)),rfl,rfl,bs.hk,by rw [aI8]; exact aU (by omega),?_⟩;have h9:fP c cC (aX H kl (.lst (ks.map V.int++[.int (w%(ts.length:Int))]))) x q:=h.lst bs.hk;have ne9:∀ b' o,b'≠kl->H b'=some o->aX H kl (.lst (ks.map V.int++[.int (w%(ts.length:Int))])) b'=some o:=fun b' o nb e=>by rw [aK nb]; exact e
   have kt9:∀ b' xs,H b'=some (.tup xs)->aX H kl (.lst (ks.map V.int++[.int (w%(ts.length:Int))])) b'=some (.tup xs):=fun b' xs e=>ne9 b' _ (bI e bs.hk fun z=>nomatch z) e;have e9:aX H kl (.lst (ks.map V.int++[.int (w%(ts.length:Int))])) kl=some (.lst ((ks++[(b:Int)]).map V.int)):=by rw [aB,aJj,hb]; rfl
   have tb9:cX Pt eN fO (aX H kl (.lst (ks.map V.int++[.int (w%(ts.length:Int))]))):=jV hT bs.hk;generalize aX H kl (.lst (ks.map V.int++[.int (w%(ts.length:Int))]))=H9 at h9 ne9 kt9 e9 tb9 ⊢;refine ⟨_,rfl,x,_,_,rfl,h9.hx,rfl,_,rfl,x,b,q,u,d,m,congrArg (fun z=>[V.ref x,V.int z]) hb,h9,ei,eb2,d9,fun x2 q2 H8 s8 h8 y8 ss8 bs8 ls8 sp8 dd8=>?_⟩;obtain ⟨td,ed,_⟩:=dd8;refine k x2 q2 ts ws (ks++[(b:Int)]) H8 (fun b' o _ _ nb _ e=>s8 _ _ (ne9 b' o nb e)) (tb9.same s8) h8 ⟨s8 _ _ (ne9 _ _ n2 bs.hl),fun i t s e1 e2=>(bs.mo i t s e1 (ss8 ▸ e2)).keep fun b xs e=>s8 _ _ (kt9 _ _ e),by omega,s8 _ _ e9,(bs.kk.append_right _).trans (Hh hby ebl eb2 y8 bs8)⟩ (s8 _ _ (ne9 _ _ n3 ho)) (by omega) (wv.keep fun b xs e=>s8 _ _ (kt9 _ _ e)) y8 (by rw [ed,aJv]; exact aJd _)
 | @st _ r p rs ps zs ht hr0 lp ly row sub =>
  have rl:0<rs.length:=by
   cases st with
   | st _ _ _ _ _ _ _ _ _ ne=>exact aKO.mpr ne
  refine ⟨_,rfl,t,_,_,_,rfl,rfl,cV.of ht,rfl,rfl,_,rfl,?_⟩;refine mY (by decide) ?_;refine CV (s:=.st p rs) (d:=d) (m:=m) (fun Q' hq=>⟨_,rfl,t,.st p rs,d,m,rfl,to0,st.ok,aKc d4 (by decide),d4,m12,hT,fun y H6 sT tb6 st6=>hq y H6 sT tb6 st6⟩) fun lr lv H1 sT1 tb1 tq lw R=>?_;have kt1:=bH.kt sT1 hT;have b1:=bs.kt kt1;have h1:=h.kt kt1;have ho1:=kt1.lst ho;have wv1:lC H1 ws:=wv.keep fun b xs e=>kt1.tup e;have ew:ws[b]? = some (ws[b]'(by omega)):=aI7 _;have wb:=wv1 _ (aJg ew);generalize ws[b]'(by omega)=wv0 at ew wb
  refine' join (fun H2=>∃ ws2,(∀ b' o,b'≠lo->H1 b'=some o->H2 b'=some o)/\cX Pt eN fO H2/\fP c cC H2 x q/\H2 lo=some (.lst ws2)/\ws2.length=q.ys.length/\lC H2 ws2) (fun rest=>?main) ?rst
  case main =>
   have put:∃ ws2,(∀ b' o,b'≠lo->H1 b'=some o->aX H1 lo (.lst (ws.set b (.ref lr))) b'=some o)/\cX Pt eN fO (aX H1 lo (.lst (ws.set b (.ref lr))))/\fP c cC (aX H1 lo (.lst (ws.set b (.ref lr)))) x q/\aX H1 lo (.lst (ws.set b (.ref lr))) lo=some (.lst ws2)/\ws2.length=q.ys.length/\lC (aX H1 lo (.lst (ws.set b (.ref lr)))) ws2:=by
    have kt2:∀ b' xs,H1 b'=some (.tup xs)->aX H1 lo (.lst (ws.set b (.ref lr))) b'=some (.tup xs):=fun b' xs e=>by rw [aK (bI e ho1 fun z=>nomatch z)]; exact e
    refine ⟨ws.set b (.ref lr),fun b' o nb e=>by rw [aK nb]; exact e,jV tb1 ho1,h1.lst ho1,aB,by rw [aJK]; exact wl,fun w' hw'=>?_⟩;rcases aLf hw' with z | z
    ·exact (wv1.keep kt2) w' z
    ·exact .inr ⟨lr,lv,z,kt2 _ _ tq,lw⟩
   have wb2:=wb;refine ⟨_,rfl,_,rfl,lo,_,_,_,rfl,rfl,bG.of ho1,(by rw [hb]; exact dZ ew),rfl,_,rfl,?_⟩;rcases wb2 with ew0 | ⟨a0,lv0,ew0,t0,l0⟩
   ·refine m5 (decide_eq_true ew0) ?_;refine m5 rfl ?_;refine ⟨_,rfl,_,rfl,_,rfl,lo,_,_,b,rfl,rfl,ho1,?_,?_⟩
    ·unfold Fz;rw [if_pos (by omega),if_pos (by omega),hb]
     rfl
    ·exact rest _ put
   ·refine mY (decide_eq_false (fun z=>by rw [ew0] at z; cases z)) ?_;refine ⟨_,rfl,_,rfl,_,rfl,lo,_,_,_,rfl,rfl,bG.of ho1,(by rw [hb]; exact dZ ew),lr,a0,lv,lv0,congrArg (fun z=>[V.ref lr,z]) ew0,tq,t0,CZ lw,CZ l0,?_⟩;refine ⟨_,rfl,?_⟩;refine uC (fun c1=>?_) (fun c1=>?_)
    ·refine ⟨_,rfl,_,rfl,_,rfl,lo,_,_,b,rfl,rfl,ho1,?_,?_⟩
     ·unfold Fz;rw [if_pos (by omega),if_pos (by omega),hb]
      rfl
     ·exact rest _ put
    ·exact rest H1 ⟨ws,fun b' o _ e=>e,tb1,h1,ho1,wl,wv1⟩
  case rst =>
  rintro H2 ⟨ws2,ne2,tb2,h2,ho2,wl2,wv2⟩;have kt2:∀ b' xs,H b'=some (.tup xs)->H2 b'=some (.tup xs):=fun b' xs e=>ne2 b' _ (bI (kt1.tup e) ho1 fun z=>nomatch z) (kt1.tup e);have ht2:=kt2 _ _ ht;have hr2:=kt2 _ _ hr0;have hl2:=ne2 _ _ n1 b1.hl;refine ⟨_,rfl,cell,31,rfl,by decide,by decide,fun w2 _ _=>?_⟩;refine ⟨_,rfl,t,_,_,_,rfl,rfl,cV.of ht2,rfl,r,_,rfl,.inr (cV.of hr2),_,_,rfl,rfl,(by rw [aI8,lp]; omega),?_⟩;rw [aI8,lp];have f1:=aKR w2 (show (rs.length:Int)≠0 by omega);have f2:=aKx w2 (show (0:Int)<(rs.length:Int) by omega);obtain ⟨j,hj⟩:∃ z:Nat,w2%(rs.length:Int)=(z:Int):=⟨(w2%(rs.length:Int)).toNat,by omega⟩
  have hjr:j<rs.length:=by omega
  have ett:rs[j]? = some (rs[j]'hjr):=aI7 _;have ep:ps[j]? = some (ps[j]'(by omega)):=aI7 _;have ez:zs[j]? = some (zs[j]'(by omega)):=aI7 _;have rw2:=kt2 _ _ (row j _ _ _ ep ez ett);have to2:=(sub j _ _ ez ett).keep kt2;generalize zs[j]'(by omega)=z at ez rw2 to2;generalize ps[j]'(by omega)=pp at ep rw2;refine ⟨_,rfl,t,_,_,_,rfl,rfl,cV.of ht2,rfl,_,rfl,r,_,_,_,rfl,rfl,cV.of hr2,(by rw [hj]; exact dZ (v:=V.ref pp) (by rw [aJh,ep]; rfl)),pp,_,_,_,rfl,rfl,cV.of rw2,rfl,?_⟩;refine ⟨_,rfl,_,rfl,l,_,_,b,rfl,rfl,hl2,?_,?_⟩
  ·unfold Fz;rw [if_pos (by omega),if_pos (by rw [aI8]; omega),hb]
   rfl
  have h3:fP c cC (aX H2 l (.lst ((ts.map V.ref).set b (.ref z)))) x q:=h2.lst hl2;have e3:aX H2 l (.lst ((ts.map V.ref).set b (.ref z))) l=some (.lst ((ts.set b z).map V.ref)):=by rw [aB,aK9]
  have ne3:∀ b' o,b'≠l->H2 b'=some o->aX H2 l (.lst ((ts.map V.ref).set b (.ref z))) b'=some o:=fun b' o nb e=>by rw [aK nb]; exact e
  have kt3:∀ b' xs,H2 b'=some (.tup xs)->aX H2 l (.lst ((ts.map V.ref).set b (.ref z))) b'=some (.tup xs):=fun b' xs e=>ne3 b' _ (bI e hl2 fun z=>nomatch z) e;have tb3:cX Pt eN fO (aX H2 l (.lst ((ts.map V.ref).set b (.ref z)))):=jV tb2 hl2;generalize aX H2 l (.lst ((ts.map V.ref).set b (.ref z)))=H3 at h3 e3 ne3 kt3 tb3 ⊢;refine ⟨_,rfl,x,_,_,rfl,h3.hx,rfl,_,rfl,_,rfl,x,b,j,q,p,rs,d,m,(by rw [<- hb,<- hj]; rfl),h3,ei,hjr,d9,fun x2 q2 H8 s8 h8 y8 nx bs8 nc sp8 dd8=>?_⟩;obtain ⟨td,ed,_⟩:=dd8;obtain ⟨tt,d2,m2,ett2,ss8⟩:=nx;rw [ett] at ett2;cases ett2;refine k x2 q2 (ts.set b z) ws2 ks H8 (fun b' o a1 a2 a3 nt e=>s8 _ _ (ne3 b' o a1 (ne2 b' o a2 (sT1.get hT e nt)))) (tb3.same s8) h8 ⟨s8 _ _ e3,fun u t' s' e1 e2=>?_,by rw [aJK]; omega,s8 _ _ (ne3 _ _ n2.symm (ne2 _ _ n3.symm b1.hk)),by rw [Il y8 bs8]; exact bs.kk⟩ (s8 _ _ (ne3 _ _ n1.symm ho2)) (by omega) (wv2.keep fun b xs e=>s8 _ _ (kt3 _ _ e)) y8 (by rw [ed,aJv]; exact aJd _);rw [ss8] at e2;rw [aJ7] at e1 e2
  by_cases hu:b=u
  ·rw [if_pos hu,if_pos (by omega)] at e1 e2;cases e1;cases e2;exact to2.keep fun b xs e=>s8 _ _ (kt3 _ _ e)
  ·rw [if_neg hu] at e1 e2;exact (bs.mo u t' s' e1 e2).keep fun b xs e=>s8 _ _ (kt3 _ _ (kt2 _ _ e))
theorem at3 {α:Type}(x y z:α)(c:Int):∃ v,Dv [x,y,z] (c%3)=some v/\(v=x∨v=y∨v=z):=by
 have h:=gR c (show (0:Int)<3 by decide);rcases (by omega:c%3=0∨c%3=1∨c%3=2) with e | e | e
 ·exact ⟨x,by rw [e]; rfl,.inl rfl⟩
 ·exact ⟨y,by rw [e]; rfl,.inr (.inl rfl)⟩
 ·exact ⟨z,by rw [e]; rfl,.inr (.inr rfl)⟩
theorem Xi {s:Sd.Sd}{d m m':Nat}(h:Sd.Ok s d m)(l:m<=m'):Sd.Ok s d m':=by
 cases h with
 | en a b e=>exact .en a b (aJc e l)
 | st a b e f g i hk=>exact .st a b e f g i (aJc hk l)
theorem fJ {p:yX}{H H':Hp}{x:Addr}{S:Sk}(h:fC p H x S)(k:∀ b o,(∀ xs,o≠.lst xs)->(∀ ps,o≠.tbl ps)->H b=some o->H' b=some o):fC p H' x S:=by
 have ki:∀ {b C dx fs},H b=some (.ins C dx fs)->H' b=some (.ins C dx fs):=fun e=>k _ _ (fun _ z=>nomatch z) (fun _ z=>nomatch z) e;have kt:∀ {b xs},H b=some (.tup xs)->H' b=some (.tup xs):=fun e=>k _ _ (fun _ z=>nomatch z) (fun _ z=>nomatch z) e;cases S with
 | few c=>obtain ⟨dx,hx⟩:=h; exact ⟨dx,ki hx⟩
 | groups gs ms=>obtain ⟨dx,g,m,hx,hg,hm⟩:=h; exact ⟨dx,g,m,ki hx,kt hg,kt hm⟩
 | listed ks=>obtain ⟨ms,pm,so,dx,t,hx,ht⟩:=h; exact ⟨ms,pm,so,dx,t,ki hx,kt ht⟩
theorem JB {q:Ca}{ys:List Addr}(e:q.bs=ys.map fun _=>false):cU q=[]:=by
 unfold cU tO;rw [aJ9,List.filter_eq_nil_iff];intro i _ h;rw [e,aJG,aJh] at h;cases z:ys[i]? <;> rw [z] at h <;> cases h
theorem DK:∀ M:Nat,(aJt M [V.non]).flatten=aJt M V.non
 | 0=>rfl
 | M+1=>by rw [aKm,aKD,DK M]; rfl
theorem aCB (M:Nat)(m6:M<=6):∃ u:Int,Dv [V.int 63,V.int 13,V.int 5] (if ((M:Int)-4) > 0 then ((M:Int)-4) else 0)=some (.int u):=by
 rcases (by omega:M<=4∨M=5∨M=6) with h | h | h
 ·exact ⟨63,by rw [if_neg (by omega)]; rfl⟩
 ·subst h; exact ⟨13,rfl⟩
 ·subst h; exact ⟨5,rfl⟩
theorem Rf {n:Nat}{f:Addr}{fd:FuncData}(F:dN K "law" "law" (top 80) f fd){p:yX}(pt:Pu K p){c:Cs}{cC:Addr}(ca:Az K c cC)(ck:CK K c){j_:Addr}{iC:Addr}{dC:FuncData}{kC:Nat}(aGF:Mk K cC iC)(aGG:aP P w K mg base (o9 P w) kC iC dC ["self","boxes"] (JL c cC K j_))(aGH:Binds K dC ["self","boxes"] [])(aFb:mg "Case" = some (.ref cC))(aF5:kC+1<=n){aHN:Addr}{aGr:FuncData}(aIC:cF K cC "kept" aHN)(aID:aP P w K mg base cN n aHN aGr ["self"] (Fo c cC))(aIE:Binds K aGr ["self"] []){aGu:Addr}{aGc:FuncData}(aFm:dY P w K mg base n "_law_same" ["_law_found","_law_due_here"] Ox aGu aGc){aGU:Addr}{aGv:FuncData}(aFN:dY P w K mg base n "_law_due" ["_law_stands","_law_kept","_law_pattern_here"] (Jo p c cC Pt eN) aGU aGv){aIF:Addr}{aH8:FuncData}(aHW:dY P w K mg base n "deed" ["pattern","case"] (Kv p c cC) aIF aH8){aGw:Addr}{aGd:FuncData}(aGx:dY P w K mg base n "_law_done" ["_law_case","_law_stands","_law_lows","_law_kept","_law_cell"] (GD c cC Pt eN) aGw aGd){A_:Addr}{u_:FuncData}(i_:dY P w K mg base n "_law_mixed" ["_law_cell","_law_k"] Do A_ u_){z_:Addr}{t_:FuncData}(p_:dY P w K mg base n "_law_stand" ["_law_told"] (Ir c Pt eN 5) z_ t_){aFO:Addr}{aFs:FuncData}(aFP:dY P w K mg base n "_law_pattern" ["_law_cell","_law_many"] (JT p) aFO aFs){aEV:Addr}{aEy:FuncData}(aEW:dY P w K mg base n "_law_box" ["_law_row_here","_law_deep","_law_most","_law_scale"] (Gq 5) aEV aEy){aGV:Addr}{aGy:FuncData}(aGW:dY P w K mg base n "_law_row" ["_law_cell","_law_bit","_law_many"] LR aGV aGy){aFQ:Addr}{aFt:FuncData}(aEC:dY P w K mg base n "_law_cell_at" ["_law_script","_law_k"] (Oh K) aFQ aFt)(I_:mg "sorted" = none)(aEi:mg "max" = none)(e_:mg "range" = none):aP P w K mg base cN (n+1) f fd ["_law_script"] (uT K Pt eN):=by
 refine F.ok Ln (fun vs H Q E h=>?_) (fun cdv A outer s H vs Q E hr h=>?_)
 ·obtain ⟨a,ns,rfl,_⟩:=h
  rfl
 obtain ⟨a,ns,rfl,hS,hlen,hT0,kq⟩:=h;have nd:=Ln.nd;have hu1:_+0+1<cLine:=aKc (aK5 (by decide:1<=64) _) (fM.units hr);refine ⟨_,(aD (aY (i:=1) nd rfl (Or.inl rfl) (aJ aEC hr (aA (pv 0) (aA aH aC)))) (aD (aY (i:=2) nd rfl (Or.inl rfl) (aW eY aH (aW dD (aJ i_ hr (aA (pv 1) (aA aH aC))) aH))) (aD (aY (i:=3) nd rfl (Or.inr rfl) (aJ aGW hr (aA (pv 1) (aA (aJ aEC hr (aA (pv 0) (aA aH aC))) (aA aH aC))))) (aD (aY (i:=4) nd rfl (Or.inr rfl) (bQ dR (iR (aA aH (aA aH (aA aH aC)))) (aW dD (lY PySem.F.plainAttrs_list PySem.F.slot_list_pop PySem.F.type_list_pop mW (pv 3) (aA aH aC)) aH) (fun _ _=>rfl))) (aD (m8 (i:=5) (ls:=["_law_k"]) (M:=["_law_script","_law_first","_law_many","_law_row_here","_law_scale","_law_stands","_law_pattern_here","_law_boxes","_law_case","_law_lows","_law_kept","_law_cell"]) rfl (bJ.of (by rfl)) (NL.of (by rfl)) nd rfl (Or.inl rfl) (cZ rfl e_ (aA (pv 2) aC)) (fun _ _ _ _=>⟨(aQ (i:=0) (cH (by rfl)) rfl (Or.inl rfl)),b7,(aJ aEW hr (aA (pv 4) (aA aH (aA aH (aA (pv 5) aC)))))⟩)) (aD (aY (i:=6) nd rfl (Or.inl rfl) (aJ aFP hr (aA (pv 1) (aA (pv 2) aC)))) (aD (m8 (i:=7) (ls:=["_law_told"]) (M:=["_law_script","_law_first","_law_many","_law_row_here","_law_scale","_law_stands","_law_pattern_here","_law_boxes","_law_case","_law_lows","_law_kept","_law_cell"]) rfl (bJ.of (by rfl)) (NL.of (by rfl)) nd rfl (Or.inl rfl) (bO (pv 5)) (fun _ _ _ _=>⟨(aQ (i:=0) (cH (by rfl)) rfl (Or.inl rfl)),b7,(aJ p_ hr (aA (pv 0) aC))⟩)) (aD (bZ (bV oH (aW dD (aJ i_ hr (aA (pv 1) (aA aH aC))) aH) aH (bW _)) (aD (Ab (bQ dR (pv 7) aH (fun _ _=>rfl)) (Ac (pv 7) (aW jU (pv 2) aH) set_list)) (aF (Ab (bQ dR (pv 5) aH (fun _ _=>rfl)) (Ac (pv 5) (aW jU (pv 2) aH) set_list)))) bA) (aD (aY (i:=8) nd rfl (Or.inl rfl) (jL aGF aGG (hr.mono aF5) rfl aFb aGH .nil jJ (aA (pv 7) aC))) (aD (aY (i:=9) nd rfl (Or.inl rfl) (aW QK (iR (aA gM aC)) (pv 2))) (aD (aY (i:=10) nd rfl (Or.inl rfl) (iR aC)) (aD (bZ (cG (bD (aJ aFm hr (aA (aJ aHW hr (aA (pv 6) (aA (pv 8) aC))) (aA (aJ aFN hr (aA (pv 5) (aA (pv 10) (aA (pv 6) aC)))) aC))))) (aF (aO gH)) bA) (aD (eE PassesOwn.never rfl (bO (vO Nx (pv 0) (uW aH) (uW (bQ dR (iR (aA aH (aA aH (aA aH aC)))) (aR (yU rfl) rfl aEi Ao (aA aH (aA (aW jU (pv 2) aH) aC))) (fun _ _=>rfl))))) (aQ (i:=11) nd rfl (Or.inl rfl)) (aD (aY (i:=8) nd rfl (Or.inl rfl) (aJ aGx hr (aA (pv 8) (aA (pv 5) (aA (pv 9) (aA (pv 10) (aA (pv 11) aC))))))) (aF (bZ (cG (bD (aJ aFm hr (aA (aJ aHW hr (aA (pv 6) (aA (pv 8) aC))) (aA (aJ aFN hr (aA (pv 5) (aA (pv 10) (aA (pv 6) aC)))) aC))))) (aF (aO gH)) bA)))) (aF (aO (fY (Ky (n:=0) hu1) (bF (pv 8) ca.cl aIC aID hr aIE .nil bR) (aR (oF (K:=K) rfl) rfl I_ rE (aA (pv 10) aC)) (bW _))))))))))))))))),?_⟩;have hT0:cX Pt eN fO H:=.inl hT0;refine ⟨_,rfl,a,ns,0,rfl,hS,by decide,fun c0=>?_⟩;refine ⟨_,rfl,c0,3,rfl,by decide,by decide,fun w _ _=>?_⟩;have wb:=gR w (show (0:Int)<6 by decide);refine ⟨_,_,rfl,rfl,(by show (0:Int)<6; decide),_,_,rfl,rfl,?_⟩;obtain ⟨M,hM,M1,M6⟩:∃ M:Nat,1+w%6=(M:Int)/\1<=M/\M<=6:=⟨(1+w%6).toNat,by omega,by omega,by omega⟩
 dsimp only;rw [hM];refine ⟨_,rfl,_,rfl,a,ns,1,rfl,hS,by decide,fun c1=>?_⟩;refine ⟨c0,c1,601,rfl,rfl,fun R H1 rn s1 hRn hR1 rl=>?_⟩;cases rn with
 | nil=>simp at rl
 | cons z0 rn =>
 refine ⟨Yo,fun L3 hL3=>?_⟩;have n2:=aG hL3 (.lst [.int 10,.int 1000,.int 1000000001]);have nL:L3≠R:=fun z=>by rw [z,hR1] at hL3; cases hL3
 have hR2:=n2 _ _ hR1;have hL2:aX H1 L3 (.lst [.int 10,.int 1000,.int 1000000001]) L3=some (.lst [.int 10,.int 1000,.int 1000000001]):=aB;have s2:=s1.trans n2;generalize aX H1 L3 (.lst [.int 10,.int 1000,.int 1000000001])=H2 at n2 hR2 hL2 s2 ⊢;obtain ⟨sv,hsv,hor⟩:=at3 (V.int 10) (V.int 1000) (V.int 1000000001) z0;obtain ⟨sc,rfl,sc1,sc9⟩:∃ sc,sv=.int sc/\1<=sc/\sc<=1000000001:=by rcases hor with e | e | e <;> exact ⟨_,e,by decide,by decide⟩
 refine ⟨_,rfl,.inl ⟨rfl,_,bG.of hR2⟩,R,_,0,0,.int z0,rfl,rfl,hR2,by decide,by decide,Qj (by simp),rfl,?_⟩;have s3:aN H (aX H2 R (.lst ((Is (z0::rn)).eraseIdx 0))):=s2.upd_new hRn _;have hR3:aX H2 R (.lst ((Is (z0::rn)).eraseIdx 0)) R=some (.lst (Is rn)):=aB;have hL3':aX H2 R (.lst ((Is (z0::rn)).eraseIdx 0)) L3=some (.lst [.int 10,.int 1000,.int 1000000001]):=by rw [aK nL]; exact hL2
 refine ⟨_,_,rfl,rfl,(by show (0:Int)<3; decide),L3,_,_,_,rfl,rfl,bG.of hL3',hsv,?_⟩;have rl:rn.length=600:=by simpa using rl
 generalize aX H2 R (.lst ((Is (z0::rn)).eraseIdx 0))=H3 at s3 hR3 ⊢;refine ⟨_,rfl,(M:Int),rfl,by omega,by omega,fun D hD=>?_⟩;have nD:D≠R:=fun z=>by rw [z,hR3] at hD; cases hD
 refine fG (n:=(M:Int).toNat) (fun i τ H'=>∃ v0 ts rn',τ = [v0,some (.ref a),some (.int c0),some (.int (M:Int)),some (.ref R),some (.int sc),none,none,none,none,none,none,none]/\(∀ b o,b≠R->H3 b=some o->H' b=some o)/\H' R=some (.lst (Is rn'))/\rn.length<=rn'.length+i*100/\rn'.length<=600/\H' D=some (.lst (ts.map V.ref))/\ts.length=i/\∀ t∈ts,∃ s,jZ H' t s/\Sd.Ok s 4 12)
  ⟨none,[],rn,rfl,fun b o _ e=>aG hD _ _ _ e,aG hD _ _ _ hR3,by omega,by omega,aB,rfl,fun _ h=>nomatch h⟩ ?turn ?done
 case turn =>
  rintro i j τ H' hm hi ⟨v0,ts,rn',rfl,fr,hR',l1,l2,hD',tl,tv⟩;have p8:=aCa;refine rQ ?_;refine ⟨_,rfl,_,rfl,R,rn',4,8,sc,rfl,hR',by decide,by decide,by decide,by decide,sc1,sc9,by omega,by omega,fun t H5 s ns5 fr5 hR5 l5 l6 to5 ok5=>?_⟩;have hD5:=fr5 _ _ nD hD';have ktR:∀ b xs,H' b=some (.tup xs)->H5 b=some (.tup xs):=fun b xs e=>fr5 b _ (bI e hR' fun z=>nomatch z) e;have ktD:∀ b xs,H5 b=some (.tup xs)->aX H5 D (.lst (ts.map V.ref++[.ref t])) b=some (.tup xs):=fun b xs e=>by rw [aK (bI e hD5 fun z=>nomatch z)]; exact e
  refine bB hm hi hD5 (by rw [aI8,tl]; exact aU (by omega)) ⟨_,ts++[t],ns5,rfl,fun b o nb e=>?_,?_,by omega,by omega,by rw [aB,aJj]; rfl,by rw [aJv,tl]; rfl,fun t' ht'=>?_⟩
  ·rw [aK (aV e hD)];exact fr5 _ _ nb (fr _ _ nb e)
  ·rw [aK nD.symm];exact hR5
  ·rcases aJy.mp ht' with z | z
   ·obtain ⟨s',a1,a2⟩:=tv t' z;exact ⟨s',(a1.keep ktR).keep ktD,a2⟩
   ·rw [aJk.mp z];exact ⟨s,to5.keep ktD,Xi ok5 (by decide)⟩
 case done =>
 rintro τ H4 ⟨v0,ts,rn',rfl,fr,hR4,l1,l2,hD4,tl,tv⟩;rw [show (M:Int).toNat=M by omega] at tl;have tb4:cX Pt eN fO H4:=by
  rcases hT0.same s3 with t | ⟨e,t,u⟩
  ·exact .inl (fr _ _ (bI t hR3 fun z=>nomatch z) t)
  ·exact .inr ⟨e,fr _ _ (bI t hR3 fun z=>nomatch z) t,fr _ _ (bI u hR3 fun z=>nomatch z) u⟩
 refine ⟨_,rfl,_,rfl,c0,M,rfl,M1,M6,fun xp H5 S s5 hX hG nf=>?_⟩;have hD5:=s5 _ _ hD4;have tb5:=tb4.same s5;have tv5:∀ t∈ts,∃ s,jZ H5 t s/\Sd.Ok s 4 12:=fun t ht=>let ⟨s,a1,a2⟩:=tv t ht; ⟨s,a1.same s5,a2⟩;refine ⟨_,rfl,D,rfl,⟨_,bG.of hD5⟩,fun B hB=>?_⟩;refine bN (xs:=ts.map V.ref) (fun i τ H'=>∃ v0 ys,τ = [v0,some (.ref a),some (.int c0),some (.int (M:Int)),some (.ref R),some (.int sc),some (.ref D),some (.ref xp),none,none,none,none,none]/\bH Pt H5 H'/\cX Pt eN fO H'/\H' B=some (.lst (ys.map V.ref))/\ys.length=i/\RC c H5 H' ts ys)
  ⟨none,[],rfl,(aG hB _).toT,tb5.same (aG hB _),aB,rfl,fun _ _ _ _ h=>by simp at h⟩ ?keep2 ?turn2 ?done2
 case keep2 =>
  rintro i τ H' hi ⟨v0,ys,rfl,sT,_⟩;exact bG.of ((bH.kt sT tb5).lst hD5)
 case turn2 =>
  rintro i mm v τ H' hm hi hv ⟨v0,ys,rfl,sT,tb,hB',yl,cor⟩;obtain ⟨t,et,rfl⟩:∃ t,ts[i]? = some t/\v=.ref t:=by
   rw [aJh] at hv;cases e:ts[i]? with
   | none=>rw [e] at hv; cases hv
   | some z=>rw [e] at hv; cases hv; exact ⟨z,rfl,rfl⟩
  obtain ⟨s,to,ok⟩:=tv5 t (aJg et);have kt:=bH.kt sT tb5;unfold qT;refine eO ?_;refine ⟨_,rfl,t,s,4,12,rfl,to.keep fun b xs e=>kt.tup e,ok,by decide,by decide,by decide,tb,fun y H6 sT6 tb6 st6=>?_⟩;have kt6:=bH.kt sT6 tb;have hB6:=kt6.lst hB';refine bB hm hi hB6 (by rw [aI8,yl]; exact aU (by have:=(aJl.mp et).1; omega)) ⟨_,ys++[y],rfl,(sT.trans sT6).upd_new hB _,jV tb6 hB6,by rw [aB,aJj]; rfl,by rw [aJv,yl]; rfl,fun u t' y' e1 e2=>?_⟩
  by_cases hu:u<ys.length
  ·rw [aKa hu] at e2;obtain ⟨s',to',st'⟩:=cor u t' y' e1 e2;exact ⟨s',to',vN hB6 (st'.kp kt6.kp)⟩
  ·rw [aJW (by omega)] at e2;have:u=i:=by have:=(aJl.mp e2).1; simp at this; omega
   subst this;rw [show u-ys.length=0 by omega] at e2;cases e2;rw [et] at e1;cases e1;exact ⟨s,to,vN hB6 st6⟩
 case done2 =>
 rintro τ H6 ⟨v0,ys,rfl,sT6,tb6,hB6,yl,cor⟩;rw [aI8] at yl;have hD6:=(bH.kt sT6 tb5).lst hD5;have nBD:B≠D:=fun z=>by rw [z,hD5] at hB; cases hB
 refine' join (fun H7=>∃ (ts1 ys1:List Addr),ts1.length=M/\ys1.length=M/\H7 D=some (.lst (ts1.map V.ref))/\H7 B=some (.lst (ys1.map V.ref))/\RC c H5 H7 ts1 ys1/\(∀ b o,b≠D->b≠B->H6 b=some o->H7 b=some o)/\cX Pt eN fO H7) (fun rest=>?main) ?rst
 case main =>
  refine ⟨_,rfl,c0,5,rfl,by decide,by decide,fun w5 _ _=>?_⟩;refine ⟨_,_,rfl,rfl,(by show (0:Int)<3; decide),rfl,_,rfl,?_⟩;refine uC (fun c1=>?_) (fun c1=>?_)
  ·have ey:ys[0]? = some (ys[0]'(by omega)):=aI7 _;have et:ts[0]? = some (ts[0]'(by omega)):=aI7 _;generalize ys[0]'(by omega)=y0 at ey;generalize ts[0]'(by omega)=t0 at et;have e1:∀ {xs:List Addr}{z:Addr},xs[0]? = some z->Dv (xs.map V.ref) 0=some (V.ref z):=fun {xs z} e=>dZ (j:=0) (by rw [aJh,e]; rfl);have e2:∀ {xs:List Addr},xs.length=M->Fz (xs.map V.ref).length ((M:Int)-1)=some (M-1):=fun {xs} e=>by
    unfold Fz;rw [if_pos (by omega),if_pos (by rw [aI8]; omega),show ((M:Int)-1).toNat=M-1 by omega]
   refine ⟨_,rfl,B,_,_,_,rfl,rfl,bG.of hB6,e1 ey,_,rfl,_,rfl,_,_,rfl,rfl,B,_,_,M-1,rfl,rfl,hB6,e2 (by omega),?_⟩;refine ⟨_,rfl,D,_,_,_,rfl,rfl,bG.of (show aX H6 B _ D=some (.lst (ts.map V.ref)) by rw [aK nBD.symm]; exact hD6),e1 et,_,rfl,_,rfl,_,_,rfl,rfl,D,_,_,M-1,rfl,rfl,(show aX H6 B _ D=some (.lst (ts.map V.ref)) by rw [aK nBD.symm]; exact hD6),e2 (by omega),?_⟩;refine rest _ ⟨ts.set (M-1) t0,ys.set (M-1) y0,by rw [aJK]; omega,by rw [aJK]; omega,by rw [aB,aK9],by rw [aK nBD,aB,aK9],fun i t y e3 e4=>?_,fun b o n1 n2 e=>by rw [aK n1,aK n2]; exact e,jV (jV tb6 hB6) (show aX H6 B _ D=some (.lst (ts.map V.ref)) by rw [aK nBD.symm]; exact hD6)⟩;have st2:∀ {y s},dU c H6 y s 4 12->dU c (aX (aX H6 B (.lst ((ys.map V.ref).set (M-1) (V.ref y0)))) D (.lst ((ts.map V.ref).set (M-1) (V.ref t0)))) y s 4 12:=fun h=>vN (show aX H6 B _ D=some (.lst (ts.map V.ref)) by rw [aK nBD.symm]; exact hD6) (vN hB6 h);rw [aJ7] at e3 e4
   by_cases hu:M-1=i
   ·rw [if_pos hu,if_pos (by omega)] at e3 e4;cases e3;cases e4;obtain ⟨s,to,st⟩:=cor 0 _ _ et ey;exact ⟨s,to,st2 st⟩
   ·rw [if_neg hu] at e3 e4;obtain ⟨s,to,st⟩:=cor i _ _ e3 e4;exact ⟨s,to,st2 st⟩
  ·exact rest H6 ⟨ts,ys,by omega,by omega,hD6,hB6,cor,fun b o _ _ e=>e,tb6⟩
 case rst =>
 rintro H7 ⟨ts1,ys1,tl1,yl1,hD7,hB7,cor7,fr7,tb7⟩;have kt7:∀ b xs,H5 b=some (.tup xs)->H7 b=some (.tup xs):=fun b xs e=>fr7 b _ (bI e hD5 fun z=>nomatch z) (bI ((bH.kt sT6 tb5).tup e) hB6 fun z=>nomatch z) ((bH.kt sT6 tb5).tup e);have hX7:fC p H7 xp S:=fJ hX fun b o n1 n2 e=>fr7 b o (fun z=>by rw [z,hD5] at e; cases e; exact n1 _ rfl) (fun z=>by have e2:=sT6.get tb5 e n2; rw [z,hB6] at e2; cases e2; exact n1 _ rfl) (sT6.get tb5 e n2);have sT7:bH Pt H H7:=fun b o nb e=>fr7 b o (aV (s3 _ _ e) hD) (aV (s5 _ _ (fr _ _ (aV e hRn) (s3 _ _ e))) hB) (sT6 b o nb (s5 _ _ (fr _ _ (aV e hRn) (s3 _ _ e))));have hS7:bG K H7 a (ns.map V.int):=sT7.lst hT0 hS;refine ⟨_,rfl,fun x dx hx hdx ndx=>?_⟩;have nO:=nJ (o1:=.own x) (o2:=.ins cC dx []) hx hdx ndx;refine .inl ⟨x,dx,B,ys1,rfl,aB,nO _ _ hB7,by omega,by omega,(fun y hy=>?_),fun tp tl2 th td H8 kx hx8 htp htl hth htd=>⟨rfl,?_⟩⟩
 ·obtain ⟨u,hu,e⟩:=aLP hy;obtain ⟨s,_,st⟩:=cor7 u (ts1[u]'(by omega)) y (aI7 _) (by rw [aI7 hu,e]);exact ⟨s,4,12,st.kp (aN.kp nO)⟩
 have s8:aN H7 H8:=made hx hdx kx;obtain ⟨q1,hq1,hy1,hd1,mo1,ls1,bs1,sp1⟩:=DG hx8 htp htl hth htd (by omega) (by omega) (by omega) (cor7.kp (aN.kp s8)) (fun b xs e=>s8 _ _ (kt7 b xs e));have hS8:=s8.seq hS7;have hD8:=s8 _ _ hD7;have hX8:fC p H8 xp S:=fJ hX7 fun b o _ _ e=>s8 _ _ e;have tb8:=tb7.same s8;refine ⟨R4,fun L9 hL9=>?_⟩;have n9:=aG hL9 (.lst [V.non]);have e9:aX H8 L9 (.lst [V.non]) L9=some (.lst [V.non]):=aB;generalize aX H8 L9 (.lst [V.non])=H9 at n9 e9 ⊢;refine ⟨_,rfl,L9,(M:Int),_,rfl,rfl,e9,by omega,by omega,aJH (aU (by show 1*(M:Int).toNat<=1000; omega)),fun LO hLO=>?_⟩;have erep:(aJt (M:Int).toNat [V.non]).flatten=aJt M V.non:=DK M;rw [erep];have n10:=aG hLO (.lst (aJt M V.non));have hLO10:aX H9 LO (.lst (aJt M V.non)) LO=some (.lst (aJt M V.non)):=aB;have nDL:D≠LO:=fun z=>by rw [<- z,n9 _ _ hD8] at hLO; cases hLO
 generalize aX H9 LO (.lst (aJt M V.non))=H10 at n10 hLO10 ⊢;refine ⟨aJD _,fun kl hkl=>?_⟩;have n11:=aG hkl (.lst []);have hk11:aX H10 kl (.lst []) kl=some (.lst (([]:List Int).map V.int)):=aB;have s811:aN H8 (aX H10 kl (.lst [])):=(n9.trans n10).trans n11;have nDk:D≠kl:=fun z=>by rw [<- z,n10 _ _ (n9 _ _ hD8)] at hkl; cases hkl
 have nLk:LO≠kl:=fun z=>by rw [<- z,hLO10] at hkl; cases hkl
 have hLO11:=n11 _ _ hLO10;generalize aX H10 kl (.lst [])=H11 at n11 hk11 s811 hLO11 ⊢;have hq11:=hq1.kt (aN.kt s811);have hX11:fC p H11 xp S:=fJ hX8 fun b o _ _ e=>s811 _ _ e;have tb11:=tb8.same s811;have hS11:=s811.seq hS8;have bes11:Ob H11 q1 D kl ts1 []:=⟨s811 _ _ hD8,mo1.keep (fun b xs e=>s811 _ _ e),by rw [hy1]; omega,hk11,by rw [JB bs1]⟩
 obtain ⟨r1,hr1⟩:=MJ hq11;have nf1:lB S q1.ys.length:=by rw [hy1,yl1]; exact nf
 refine ⟨_,rfl,_,rfl,xp,x,q1,S,r1,rfl,hX11,hG,nf1,hq11,hr1,fun a1 H12 mC dd1=>?_⟩;have kt12:=aN.kt mC;refine ⟨_,rfl,_,rfl,_,rfl,D,kl,xp,q1,ts1,[],S,r1,rfl,bes11.kt kt12,fJ hX11 fun b o _ _ e=>mC _ _ e,hG,⟨x,hq11.kt kt12⟩,hr1,tb11.same mC,fun a2 H13 sT13 tb13 dd2=>?_⟩;have kt13:=bH.kt sT13 (tb11.same mC);refine ⟨a1,a2,q1,_,rfl,dd1.keep (fun b xs e=>kt13.tup e),dd2,fun H14 Oz=>?_⟩;refine ⟨_,rfl,?_⟩;refine dM ?_;have kt14:=(kt12.trans kt13).trans (aN.kt Oz);refine ⟨_,rfl,_,rfl,Yo,fun LB hLB=>?_⟩;have n15:=aG hLB (.lst [.int 63,.int 13,.int 5]);have e15:aX H14 LB (.lst [.int 63,.int 13,.int 5]) LB=some (.lst [.int 63,.int 13,.int 5]):=aB;generalize aX H14 LB (.lst [.int 63,.int 13,.int 5])=H15 at n15 e15 ⊢;obtain ⟨u,eu⟩:=aCB M M6;refine ⟨_,rfl,_,_,rfl,rfl,_,_,rfl,LB,_,_,_,rfl,rfl,bG.of e15,eu,_,rfl,a,_,rfl,n15.seq (Oz.seq (sT13.lst (tb11.same mC) (mC.seq hS11))),fun A1 hA1=>?_⟩;have kt15:=kt14.trans (aN.kt n15);have bes15:=bes11.kt kt15;have hLO15:=kt15.lst hLO11;have hX15:fC p H15 xp S:=fJ hX11 fun b o _ n e=>kt15 b o e n;have hq15:=hq11.kt kt15;have tb15:=(tb13.same Oz).same n15;obtain ⟨ms,ems,ml⟩:=J9 ns (some 1) (some u);have nAD:A1≠D:=fun z=>by rw [z,bes15.hl] at hA1; cases hA1
 have nAk:A1≠kl:=fun z=>by rw [z,bes15.hk] at hA1; cases hA1
 have nAL:A1≠LO:=fun z=>by rw [z,hLO15] at hA1; cases hA1
 have n16:=aG hA1 (.lst (iI (ns.map V.int) (some 1) (some u)));have e16:aX H15 A1 (.lst (iI (ns.map V.int) (some 1) (some u))) A1=some (.lst (ms.map V.int)):=by rw [aB,ems]
 generalize aX H15 A1 (.lst (iI (ns.map V.int) (some 1) (some u)))=H16 at n16 e16 ⊢;have kt16:=aN.kt n16;have bes16:=bes15.kt kt16;have hLO16:=kt16.lst hLO15;have hX16:fC p H16 xp S:=fJ hX15 fun b o _ n e=>n16 b o e;have hq16:=hq15.kt kt16;have tb16:=tb15.same n16;have ql1:q1.ys.length=M:=by rw [hy1]; exact yl1
 refine ⟨A1,rfl,⟨_,bG.of e16⟩,?_⟩;refine iU (xs:=ms.map V.int) (fun i σ H'=>∃ x q ts ws ks v11,σ = [some (.ref a),some (.int c0),some (.int (M:Int)),some (.ref R),some (.int sc),some (.ref D),some (.ref xp),some (.ref B),some (.ref x),some (.ref LO),some (.ref kl),v11]/\H' A1=some (.lst (ms.map V.int))/\fP c cC H' x q/\Ob H' q D kl ts ks/\H' LO=some (.lst ws)/\ws.length=q.ys.length/\lC H' ws/\cX Pt eN fO H'/\fC p H' xp S/\q.ys.length=M/\q.ds.length<=i)
  ⟨x,q1,ts1,_,[],none,rfl,e16,hq16,bes16,hLO16,by rw [aKb]; exact ql1.symm,(fun w hw=>.inl (aLn hw)),tb16,hX16,ql1,by rw [hd1]; exact aJd _⟩ (fun i σ H' _ ⟨_,_,_,_,_,_,_,e,_⟩=>bG.of e) ?turn3 ?done3
 case done3 =>
  rintro σ H6 ⟨x,q,ts,ws,ks,v11,rfl,hA6,h,bs,ho,wl,wv,tb,hXx,ql,qd⟩;refine ⟨_,rfl,x,_,_,rfl,h.hx,rfl,x,q,rfl,h,fun lk H7 s7 hlk=>?_⟩;refine ⟨_,rfl,kl,_,rfl,.inl (bG.of (s7 _ _ bs.hk)),.inl ?_,fun l2 mz hl2 pm so=>?_⟩
  ·rw [bs.kk.length_eq];unfold cU tO;rw [aI8];exact aKc (aJc (aJM _ _) (by rw [aJX]; exact h.n6)) (by decide)
  have em:=Bd pm bs.kk so;subst em;have n6':=aG hl2 (.lst ((cU q).map V.int));have d:=DE.lst (K:=K) (n:=0) (fun _=>true) (bG.of (n6' _ _ hlk)) (bG.of (aB (a:=l2))) rfl (fun j x y hx hy=>by
   rw [hx] at hy;cases hy;obtain ⟨z,_,rfl⟩:=aJe.mp (aJg hx);have e:=DE.int (K:=K) (H:=aX H7 l2 (.lst ((cU q).map V.int))) 0 z z
   simpa using e)
  have et:(aKk ((cU q).map V.int).length).all (fun _=>true)=true:=aJN.mpr fun _ _=>rfl;refine ⟨lk,l2,_,rfl,rfl,d,?_⟩;rw [et];exact kq _
 case turn3 =>
  rintro i v σ H6 hv ⟨x,q,ts,ws,ks,v11,rfl,hA6,h,bs,ho,wl,wv,tb,hXx,ql,qd⟩;obtain ⟨cell,hc,rfl⟩:∃ cell,ms[i]? = some cell/\v=.int cell:=by
   rw [aJh] at hv;cases e:ms[i]? with
   | none=>rw [e] at hv; cases hv
   | some z=>rw [e] at hv; cases hv; exact ⟨z,rfl,rfl⟩
  have hin:=(aJl.mp hc).1;refine ⟨_,rfl,_,rfl,_,rfl,_,rfl,_,rfl,x,D,LO,kl,cell,q,ts,ws,ks,rfl,h,bs,ho,wl,wv,by omega,nDL,nDk,nLk,tb,fun x2 q2 ts2 ws2 ks2 H7 fr3 tb7 h7 bs7 ho7 wl7 wv7 qy qd7=>?_⟩;have hX7:fC p H7 xp S:=fJ hXx fun b o n1 n2 e=>fr3 b o (fun z=>by rw [z,bs.hl] at e; cases e; exact n1 _ rfl) (fun z=>by rw [z,ho] at e; cases e; exact n1 _ rfl) (fun z=>by rw [z,bs.hk] at e; cases e; exact n1 _ rfl) n2 e;have hA7:=fr3 A1 (.lst (ms.map V.int)) nAD nAL nAk (fun _ z=>nomatch z) hA6;obtain ⟨r2,hr2⟩:=MJ h7;have nf2:lB S q2.ys.length:=by rw [qy,ql]; exact nf
  refine ⟨_,rfl,_,rfl,xp,x2,q2,S,r2,rfl,hX7,hG,nf2,h7,hr2,fun a1 H8 s8 dd1=>?_⟩;have kt8:=aN.kt s8;refine ⟨_,rfl,_,rfl,_,rfl,D,kl,xp,q2,ts2,ks2,S,r2,rfl,bs7.kt kt8,fJ hX7 fun b o _ _ e=>s8 _ _ e,hG,⟨x2,h7.kt kt8⟩,hr2,tb7.same s8,fun a2 H9 sT9 tb9 dd2=>?_⟩;have kt9:=bH.kt sT9 (tb7.same s8);refine ⟨a1,a2,q2,_,rfl,dd1.keep (fun b xs e=>kt9.tup e),dd2,fun H10 Rc=>?_⟩;refine ⟨_,rfl,?_⟩;refine dM ?_;have kt10:=(kt8.trans kt9).trans (aN.kt Rc);exact ⟨x2,q2,ts2,ws2,ks2,_,rfl,kt10.lst hA7,h7.kt kt10,bs7.kt kt10,kt10.lst ho7,wl7,wv7.keep (fun b xs e=>kt10.tup e),tb9.same Rc,fJ hX7 fun b o _ n e=>kt10 b o e n,by omega,by omega⟩
theorem uA {n:Nat}{f:Addr}{fd:FuncData}(F:dN K "_law_cell_at" "_law_cell_at" (top 66) f fd)(l_:mg "len" = none):aP P w K mg base cN (n+1) f fd ["_law_script","_law_k"] (Oh K):=by
 refine F.ok lV (fun vs H Q E h=>?_) (fun cdv A outer s H vs Q E hr h=>?_)
 ·obtain ⟨a,ns,i,rfl,_⟩:=h
  rfl
 obtain ⟨a,ns,i,rfl,hS,i0,q⟩:=h;have nd:=lV.nd;refine ⟨_,(aD (bZ (bV xW (pv 1) (aR bU rfl l_ fV (aA (pv 0) aC)) (bW _)) (aF (aO (bQ dR (pv 0) (pv 1) (fun _ _=>rfl)))) bA) (aF (aO aH))),?_⟩;have hl:(ns.map V.int).length=ns.length:=aI8 _;refine ⟨_,rfl,_,rfl,a,_,rfl,.inl hS,_,_,rfl,rfl,_,rfl,?_⟩;refine uC (fun c=>?_) (fun c=>?_)
 ·have c':i<(((ns.map V.int).length:Nat):Int):=of_decide_eq_true c;rw [hl] at c';exact ⟨_,rfl,_,rfl,a,_,_,_,rfl,rfl,hS,La i0 c',q _⟩
 ·exact q _
theorem wU {n:Nat}{f:Addr}{fd:FuncData}(F:dN K "_law_mixed" "_law_mixed" (top 67) f fd):aP P w K mg base cN (n+1) f fd ["_law_cell","_law_k"] Do:=by
 refine F.ok oG (fun vs H Q E h=>?_) (fun cdv A outer s H vs Q E hr h=>?_)
 ·obtain ⟨c,i,rfl,_⟩:=h
  rfl
 obtain ⟨c,i,rfl,i0,i9,q⟩:=h;have nd:=oG.nd;refine ⟨_,(aD (aY (i:=2) nd rfl (Or.inl rfl) (aW dD (aW eY (aW eY (aW dO (aW dD (pv 0) aH) aH) (aW MN aH (pv 1))) aH) aH)) (aD (aY (i:=2) nd rfl (Or.inl rfl) (aW dD (aW eY (aW dO (pv 2) (pv 2)) (aW MN aH (pv 1))) aH)) (aF (aO (aW dD (aW dO (pv 2) (pv 2)) aH))))),?_⟩;have b1:∀ x:Int,0<=x->x<2147483648->intBits x<=64:=fun x h1 h2=>PySem.intBits_le_64 (by omega) (by omega);have m1:=gR c (show (0:Int)<2147483647 by decide);refine ⟨_,rfl,_,_,rfl,rfl,(by show (0:Int)<2147483647; decide),_,_,rfl,rfl,gB (b1 _ m1.1 (by omega)) (b1 48271 (by decide) (by decide)) (by decide),_,rfl,_,_,rfl,rfl,.inl ⟨by decide,by decide⟩,_,_,rfl,rfl,_,_,rfl,rfl,_,_,rfl,rfl,(by show (0:Int)<2147483647; decide),?_⟩;have n1:=gR (c%2147483647*48271+7919*i+1) (show (0:Int)<2147483647 by decide);have nb:=b1 _ n1.1 (aL1 n1.2 (by decide));refine ⟨_,rfl,_,rfl,_,_,rfl,rfl,gB nb nb (by decide),_,rfl,_,_,rfl,rfl,.inl ⟨by decide,by decide⟩,_,_,rfl,rfl,_,_,rfl,rfl,(by show (0:Int)<2147483629; decide),?_⟩;have k1:=gR (((c%2147483647*48271+7919*i+1)%2147483647)*((c%2147483647*48271+7919*i+1)%2147483647)+7*i) (show (0:Int)<2147483629 by decide);have kb:=b1 _ k1.1 (aL1 k1.2 (by decide));refine ⟨_,rfl,_,rfl,_,_,rfl,rfl,gB kb kb (by decide),_,_,rfl,rfl,(by show (0:Int)<2147483587; decide),?_⟩;exact q _ (aKR _ (by decide)) (aKx _ (by decide))
theorem Yq {f:Addr}{fd:FuncData}{ps:List Str}(m:Nat):aP P w K mg base cN m f fd ps (fun _ _ _ _=>False):=⟨fun vs H Q E z=>z.elim,fun A outer s H args us vs Q E _ _ _ _ z=>z.elim⟩
theorem HX {f:Addr}{fd:FuncData}{ps:List Str}{m:Nat}(F:aP P w K mg base cN m f fd ps pA):aP P w K mg base cN m f fd ps Km:=F.imp fun vs H Q E ⟨i,lo,hi,e,h1,h2,q⟩=>⟨_,lo,hi,_,e,.int i,by rw [decide_eq_true h1,decide_eq_true h2]; exact q⟩
end
end K54
namespace L2
open PySem PySem.Spec PyProof.Rows
structure aA0 (K:PySem.W.Frag)(dT:Addr)(x qual:Str)(st:Stmt)(f:Addr)(fd:FuncData):Prop where
 ex:∃ (oc:Value) (od:Option Addr) (kV doc pm:Value) (an:Option Addr) (cdv ct:Value) (osl:Array (Option Value)),
  fd=PySem.W.fnOf x qual (jO st) (gD st) (aL st) (.ref dT) kV doc pm an cdv ct/\K.lookup f=some ⟨oc,od,.func fd,osl⟩/\PySem.W.codeIn K cdv qual=true
 kp:PySem.W.keepIn K (.ref f)=true
structure TF (K:PySem.W.Frag)(x:Str)(st:Stmt)(f:Addr)(fd:FuncData):Prop where
 a:PySem.W.nsIn K mainGlobals x=some (some (.ref f))
 F:dN K x x st f fd
structure MF (K:PySem.W.Frag)(C:Addr)(m q:Str)(st:Stmt)(f:Addr)(fd:FuncData):Prop where
 a:PySem.W.findIn K (.ref C) m=some (some (.ref f))
 i:PySem.W.isFn K (.ref f)=true
 F:dN K m q st f fd
structure TD (K:PySem.W.Frag)(x:Str)(st:Stmt)(dT f:Addr)(fd:FuncData):Prop where
 a:PySem.W.nsIn K mainGlobals x=some (some (.ref f))
 F:aA0 K dT x x st f fd
def QV (K:PySem.W.Frag)(l:List Str):Bool:=l.all fun x=>match PySem.W.nsIn K mainGlobals x with | some none=>true | _=>false
def Wn (mg:Str->Option Value):List Str->Prop
 | []=>True
 | x::r=>mg x=none/\Wn mg r
section
variable {P:Program}{w:World}{K:PySem.W.Frag}{mg:Str->Option Value}{base h:Heap}{x m q:Str}{st:Stmt}{f C:Addr}{fd:FuncData}{ps:List Str}{sp:Sp}{n:Nat}
theorem UV (X:K.In h)(G:h.Ns mainGlobals mg):∀ {l:List Str},QV K l=true->Wn mg l
 | [],_=>trivial
 | y::r,e=>by
  have e':((match PySem.W.nsIn K mainGlobals y with | some none=>true | _=>false)&&QV K r)=true:=e;rw [aJA] at e';refine ⟨PySem.W.mg_none_of X G ?_,UV X G e'.2⟩;have e1:=e'.1;revert e1;cases PySem.W.nsIn K mainGlobals y with
  | none=>intro z; cases z
  | some o=>cases o with
   | none=>intro _; rfl
   | some v=>intro z; cases z
theorem MF.mt (T:MF K C m q st f fd):cF K C m f:=⟨T.a,T.i,T.F.kp⟩
theorem TF.cal (T:TF K x st f fd)(X:K.In h)(G:h.Ns mainGlobals mg)(g:aP P w K mg base cN n f fd ps sp)(b:Binds K fd ps []):dY P w K mg base n x ps sp f fd:=⟨g,b,T.F.kp,PySem.W.mg_of X G T.a⟩
theorem TF.calX (T:TF K x st f fd)(X:K.In h)(G:h.Ns mainGlobals mg)(g:aP P w K mg base (o9 P w) n f fd ps sp)(b:Binds K fd ps []):z9 P w K mg base n x ps sp f fd:=⟨g,b,T.F.kp,PySem.W.mg_of X G T.a⟩
theorem dY.u {m:Nat}(c:dY P w K mg base n x ps sp f fd)(h:n<=m:=by omega):dY P w K mg base m x ps sp f fd:=c.up h
theorem z9.u {m:Nat}(c:z9 P w K mg base n x ps sp f fd)(h:n<=m:=by omega):z9 P w K mg base m x ps sp f fd:=c.up h
theorem aP.u {CX:Aj}{m:Nat}(g:aP P w K mg base CX n f fd ps sp)(h:n<=m:=by omega):aP P w K mg base CX m f fd ps sp:=g.mono h
theorem uJ {CX:Aj}(_:aP P w K mg base CX n f fd ps sp)(b:Binds K fd ps []):Binds K fd ps []:=b
abbrev YS (x q:Str)(st:Stmt)(us:List Value)(r:List (Str×Value)):Prop:=∀ (kV doc pm:Value) (an:Option Addr) (cdv ct:Value),bindArgs (PySem.W.fnOf x q (jO st) (gD st) (aL st) .none kV doc pm an cdv ct) ⟨us,[]⟩=pure r
theorem dN.bd1 {a:Str}(F:dN K x q st f fd)(h:∀ u,YS x q st [u] [(a,u)]:=by intros; exact fun _ _ _ _ _ _=>rfl):Binds K fd [a] []:=F.binds fun _ _ _ _ _ _ us hl=>match us,hl with | [_],_=>h _ _ _ _ _ _ _
theorem dN.bd2 {a b:Str}(F:dN K x q st f fd)(h:∀ u v,YS x q st [u,v] [(a,u),(b,v)]:=by intros; exact fun _ _ _ _ _ _=>rfl):Binds K fd [a,b] []:=F.binds fun _ _ _ _ _ _ us hl=>match us,hl with | [_,_],_=>h _ _ _ _ _ _ _ _
theorem dN.bd3 {a b c:Str}(F:dN K x q st f fd)(h:∀ u v y,YS x q st [u,v,y] [(a,u),(b,v),(c,y)]:=by intros; exact fun _ _ _ _ _ _=>rfl):Binds K fd [a,b,c] []:=F.binds fun _ _ _ _ _ _ us hl=>match us,hl with | [_,_,_],_=>h _ _ _ _ _ _ _ _ _
theorem dN.bd4 {a b c d:Str}(F:dN K x q st f fd)(h:∀ u v y z,YS x q st [u,v,y,z] [(a,u),(b,v),(c,y),(d,z)]:=by intros; exact fun _ _ _ _ _ _=>rfl):Binds K fd [a,b,c,d] []:=F.binds fun _ _ _ _ _ _ us hl=>match us,hl with | [_,_,_,_],_=>h _ _ _ _ _ _ _ _ _ _
theorem dN.bd5 {a b c d e:Str}(F:dN K x q st f fd)(h:∀ u v y z t,YS x q st [u,v,y,z,t] [(a,u),(b,v),(c,y),(d,z),(e,t)]:=by intros; exact fun _ _ _ _ _ _=>rfl):Binds K fd [a,b,c,d,e] []:=F.binds fun _ _ _ _ _ _ us hl=>match us,hl with | [_,_,_,_,_],_=>h _ _ _ _ _ _ _ _ _ _ _
theorem Zv {CX:Aj}{b:Nat}{sp:Nat->Sp}(z:∀ vs H Q E,¬ sp 0 vs H Q E)(s:∀ d,aP P w K mg base CX (b+d) f fd ps (sp d)->aP P w K mg base CX (b+d+1) f fd ps (sp (d+1))):∀ d,aP P w K mg base CX (b+d) f fd ps (sp d)
 | 0=>⟨fun vs H Q E y=>absurd y (z vs H Q E),fun A outer s H args us vs Q E _ _ _ _ y=>absurd y (z vs H Q E)⟩
 | d+1=>s d (Zv z s d)
end
end L2
namespace K54
open PySem L2 TD TP PyProof.Rows
theorem Q0 {l:W.OpenLaw}{w:World}{K:W.Frag}{h:Heap}{mg:Str->Option Value}{fa cR Pt f1 f2 f3 f4 f5 f6 f7 f8 f9 f10 f11 f12 f13 f14 f15 f16 f17 f18 f19 f20 f21 f22 f23 f24 f25 f26 f27 f28 f29 f30 f31 f32 f33 f34 f35 f36 f37 f38 f39 f40 f41 f42 f43 f44 f45 f46 f47 f48 f49 f50 f51 f52 f53 f54 f55 f56 f57 f58 f59 f60 f61 f62 f63 f64 f65 f66 f67 f68 f69 f70 f71 f72 cSt cE cS cC g_ j_ cFw cGr cLi:Addr}{g1 g2 g3 g4 g5 g6 g7 g8 g9 g10 g11 g12 g13 g14 g15 g16 g17 g18 g19 g20 g21 g22 g23 g24 g25 g26 g27 g28 g29 g30 g31 g32 g33 g34 g35 g36 g37 g38 g39 g40 g41 g42 g43 g44 g45 g46 g47 g48 g49 g50 g51 g52 g53 g54 g55 g56 g57 g58 g59 g60 g61 g62 g63 g64 g65 g66 g67 g68 g69 g70 g71 g72:FuncData}(X:K.In h)(G:h.Ns mainGlobals mg)(hfa:mg "law" = some (.ref fa))
  (aHX:W.nsIn K mainGlobals "Stand" = some (some (.ref cSt)))
  (aIG:W.nsIn K mainGlobals "End" = some (some (.ref cE)))
  (aHY:W.nsIn K mainGlobals "Stage" = some (some (.ref cS)))
  (aH9:W.nsIn K mainGlobals "Case" = some (some (.ref cC)))
  (aHf:W.nsIn K mainGlobals "NoDeed" = some (some (.ref g_)))
  (aHZ:W.nsIn K mainGlobals "NoBox" = some (some (.ref j_)))
  (aIH:W.nsIn K mainGlobals "Few" = some (some (.ref cFw)))
  (aHg:W.nsIn K mainGlobals "Groups" = some (some (.ref cGr)))
  (aHh:W.nsIn K mainGlobals "Listed" = some (some (.ref cLi)))
  (T1:TF K "is_whole" (top 8) f1 g1)
  (T2:TF K "common_divisor" (top 9) f2 g2)
  (T3:TF K "common_multiple" (top 10) f3 g3)
  (T4:TF K "share" (top 11) f4 g4)
  (T5:TF K "whole" (top 12) f5 g5)
  (T6:TF K "below" (top 13) f6 g6)
  (T7:TF K "lesser" (top 14) f7 g7)
  (T8:TF K "rising" (top 18) f8 g8)
  (T9:TF K "in_form" (top 19) f9 g9)
  (T10:TF K "all_weights" (top 20) f10 g10)
  (T11:TF K "capped" (top 21) f11 g11)
  (T12:TF K "mixed" (top 22) f12 g12)
  (T13:TF K "level_for" (top 23) f13 g13)
  (T14:TF K "is_stand" (top 33) f14 g14)
  (T15:TF K "is_stage_row" (top 34) f15 g15)
  (T16:TF K "is_stage_rows" (top 35) f16 g16)
  (T17:TF K "need_boxes" (top 36) f17 g17)
  (T18:TF K "with_thing" (top 38) f18 g18)
  (T19:TF K "has_box" (top 42) f19 g19)
  (T20:TF K "boxes_of" (top 43) f20 g20)
  (T21:TF K "size_of" (top 44) f21 g21)
  (T22:TF K "with_box" (top 45) f22 g22)
  (T23:TF K "set_of" (top 46) f23 g23)
  (T24:TF K "is_numbers" (top 47) f24 g24)
  (T25:TF K "is_pattern" (top 52) f25 g25)
  (T26:TF K "less_flaw" (top 53) f26 g26)
  (T27:TF K "can_grow" (top 54) f27 g27)
  (T28:TF K "sets_by_size" (top 55) f28 g28)
  (T29:TF K "more_flaw" (top 56) f29 g29)
  (T30:TF K "flaw" (top 57) f30 g30)
  (T31:TF K "need_pattern" (top 58) f31 g31)
  (T32:TF K "may_keep" (top 60) f32 g32)
  (T33:TF K "dearest" (top 62) f33 g33)
  (T34:TF K "deed_in" (top 63) f34 g34)
  (T35:TF K "deed" (top 64) f35 g35)
  (T36:TF K "_law_cell_at" (top 66) f36 g36)
  (T37:TF K "_law_mixed" (top 67) f37 g37)
  (T38:TF K "_law_plain" (top 68) f38 g38)
  (T39:TF K "_law_same" (top 69) f39 g39)
  (T40:TF K "_law_less" (top 73) f40 g40)
  (T41:TF K "_law_row" (top 74) f41 g41)
  (T42:TF K "_law_box" (top 75) f42 g42)
  (T43:TF K "_law_stand" (top 76) f43 g43)
  (T44:TF K "_law_pattern" (top 77) f44 g44)
  (T45:TF K "_law_done" (top 78) f45 g45)
  (T46:TF K "_law_due" (top 79) f46 g46)
  (T47:TF K "law" (top 80) f47 g47)
  (T48:MF K cSt "__init__" "Stand.__init__" (inClass (top 30) 0) f48 g48)
  (T49:MF K cSt "ends" "Stand.ends" (inClass (top 30) 1) f49 g49)
  (T50:MF K cSt "stages" "Stand.stages" (inClass (top 30) 2) f50 g50)
  (T51:MF K cSt "reserve" "Stand.reserve" (inClass (top 30) 3) f51 g51)
  (T52:MF K cSt "caps" "Stand.caps" (inClass (top 30) 4) f52 g52)
  (T53:MF K cE "__init__" "End.__init__" (inClass (top 31) 0) f53 g53)
  (T54:MF K cE "is_end" "End.is_end" (inClass (top 31) 1) f54 g54)
  (T55:MF K cS "__init__" "Stage.__init__" (inClass (top 32) 0) f55 g55)
  (T56:MF K cS "is_end" "Stage.is_end" (inClass (top 32) 1) f56 g56)
  (T57:MF K cS "after" "Stage.after" (inClass (top 32) 3) f57 g57)
  (T58:MF K cC "__init__" "Case.__init__" (inClass (top 39) 0) f58 g58)
  (T59:MF K cC "how_many" "Case.how_many" (inClass (top 39) 1) f59 g59)
  (T60:MF K cC "need_box" "Case.need_box" (inClass (top 39) 2) f60 g60)
  (T61:MF K cC "stand" "Case.stand" (inClass (top 39) 3) f61 g61)
  (T62:MF K cC "cap" "Case.cap" (inClass (top 39) 4) f62 g62)
  (T63:MF K cC "kept" "Case.kept" (inClass (top 39) 5) f63 g63)
  (T64:MF K cC "behind" "Case.behind" (inClass (top 39) 12) f64 g64)
  (T65:MF K cC "opened" "Case.opened" (inClass (top 39) 13) f65 g65)
  (T66:MF K cC "taken" "Case.taken" (inClass (top 39) 14) f66 g66)
  (T67:MF K cFw "__init__" "Few.__init__" (inClass (top 49) 0) f67 g67)
  (T68:MF K cFw "may" "Few.may" (inClass (top 49) 1) f68 g68)
  (T69:MF K cGr "__init__" "Groups.__init__" (inClass (top 50) 0) f69 g69)
  (T70:MF K cGr "may" "Groups.may" (inClass (top 50) 1) f70 g70)
  (T71:MF K cLi "__init__" "Listed.__init__" (inClass (top 51) 0) f71 g71)
  (T72:MF K cLi "may" "Listed.may" (inClass (top 51) 1) f72 g72)
  (ck:CK K ⟨cE,cS⟩)
  (ct:CT K ⟨cE,cS⟩)
  (mkE:W.makesIn K cE=true)
  (kcE:W.keepIn K (.ref cE)=true)
  (aIa:W.findIn K (.ref cE) "ends" = some (some (.ref f49)))
  (aHi:W.findIn K (.ref cE) "stages" = some (some (.ref f50)))
  (aGX:W.findIn K (.ref cE) "reserve" = some (some (.ref f51)))
  (aIb:W.findIn K (.ref cE) "caps" = some (some (.ref f52)))
  (mkS:W.makesIn K cS=true)
  (kcS:W.keepIn K (.ref cS)=true)
  (aIc:W.findIn K (.ref cS) "ends" = some (some (.ref f49)))
  (aHj:W.findIn K (.ref cS) "stages" = some (some (.ref f50)))
  (aGY:W.findIn K (.ref cS) "reserve" = some (some (.ref f51)))
  (aIe:W.findIn K (.ref cS) "caps" = some (some (.ref f52)))
  (aG3:Nq K cSt "__init__" f48)
  (xclD:uG K g_)
  (xcl:uG K j_)
  (cn:CN K ⟨cE,cS⟩)
  (ca:Az K ⟨cE,cS⟩ cC)
  (mkC:W.makesIn K cC=true)
  (kcC:W.keepIn K (.ref cC)=true)
  (pt:Pu K ⟨cFw,cGr,cLi⟩)
  (mkFw:W.makesIn K cFw=true)
  (kcFw:W.keepIn K (.ref cFw)=true)
  (mkGr:W.makesIn K cGr=true)
  (kcGr:W.keepIn K (.ref cGr)=true)
  (mkLi:W.makesIn K cLi=true)
  (kcLi:W.keepIn K (.ref cLi)=true)
  (nkF:W.findIn K (.ref cFw) "limit" = some none)
  (nkG:W.findIn K (.ref cGr) "groups" = some none)
  (nkM:W.findIn K (.ref cGr) "most" = some none)
  (nkS:W.findIn K (.ref cLi) "sets" = some none)
  (y_:QV K ["abs","all","any","bool","enumerate","int","isinstance","len","list","max","min","range","reversed","set","sorted","str","sum","tuple"]=true)
  {aED:Tok} (aFR:W.nsIn K mainGlobals "MOST_WEIGHT" = some (some (.int 1000 aED)))
  {U_:Tok} (aEX:W.nsIn K mainGlobals "MOST_STAGE_ROWS" = some (some (.int 4 U_)))
  {aEK:Tok} (aFV:W.nsIn K mainGlobals "MOST_BOXES" = some (some (.int 6 aEK)))
  {aEL:Tok} (aFW:W.nsIn K mainGlobals "MOST_WORTH" = some (some (.int 1000000000 aEL)))
  {aEE:Tok} (aFS:W.nsIn K mainGlobals "MOST_STAGES" = some (some (.int 4 aEE)))
  {aE5:Tok} (aGe:W.nsIn K mainGlobals "MOST_ENDS" = some (some (.int 12 aE5)))
  {aEM:Tok} (aFX:W.nsIn K mainGlobals "MOST_PRICE" = some (some (.int 1000000000 aEM)))
  {aE6:Tok} (aGf:W.nsIn K mainGlobals "MOST_SETS" = some (some (.int 64 aE6)))
  (gcR:g8.code=.ref cR)
  (tb:W.tabIn K "rising" = some (cR,Pt)) (ch:W.codeHdIn K cR Pt=true) (np:K.lookup Pt=none)
  : ∃ (fd:FuncData) (c P:Addr),(∀ (s:Shared) (v:Value),BindsTo s fd ⟨[v],[]⟩ [("_law_script",v)])/\W.tabIn K "rising" = some (c,P)/\W.codeHdIn K c P=true/\K.lookup P=none/\∀ base:Heap,K.In base->base.Ns mainGlobals mg->W.CodeHd base c P->base.BuiltinsAt mg P->aP l.prog w K mg base cN 13 fa fd ["_law_script"] (uT K P eN):=by
 obtain ⟨c,rfl,rfl⟩:∃ c:Cs,c.e=cE/\c.s=cS:=⟨⟨cE,cS⟩,rfl,rfl⟩
 replace ck:CK K c:=ck;replace ct:CT K c:=ct;replace cn:CN K c:=cn;replace ca:Az K c cC:=ca;obtain ⟨p,rfl,rfl,rfl⟩:∃ p:yX,p.f=cFw/\p.g=cGr/\p.l=cLi:=⟨⟨cFw,cGr,cLi⟩,rfl,rfl,rfl⟩
 replace pt:Pu K p:=pt;cases hfa.symm.trans (W.mg_of X G T47.a);have ⟨aHm,aD6,aHM,aD9,aEB,aEk,a_,l_,o_,aEi,aFZ,e_,aEO,aHL,I_,aF0,aEj,h_,_⟩:=UV X G y_;have aEG:=W.mg_of X G aHX;have aFY:=W.mg_of X G aIG;have aEF:=W.mg_of X G aHY;have aFb:=W.mg_of X G aH9;have N_:=W.mg_of X G aHf;have D_:=W.mg_of X G aHZ;have aFJ:=W.mg_of X G aIH;have aD7:=W.mg_of X G aHg;have aD8:=W.mg_of X G aHh;have aBI:=W.mg_of X G aFR;have aBN:RelV (.int 1000) (.int 1000 aED):=⟨_,rfl⟩
 have L_:=W.mg_of X G aEX;have M_:RelV (.int 4) (.int 4 U_):=⟨_,rfl⟩
 have b_:=W.mg_of X G aFV;have d_:RelV (.int 6) (.int 6 aEK):=⟨_,rfl⟩
 have aEa:=W.mg_of X G aFW;have aEb:RelV (.int 1000000000) (.int 1000000000 aEL):=⟨_,rfl⟩
 have aCv:=W.mg_of X G aFS;have aDw:RelV (.int 4) (.int 4 aEE):=⟨_,rfl⟩
 have aEo:=W.mg_of X G aGe;have aEp:RelV (.int 12) (.int 12 aE5):=⟨_,rfl⟩
 have aEc:=W.mg_of X G aFX;have aEd:RelV (.int 1000000000) (.int 1000000000 aEM):=⟨_,rfl⟩
 have Y_:=W.mg_of X G aGf;have Z_:RelV (.int 64) (.int 64 aE6):=⟨_,rfl⟩
 refine ⟨g47,cR,Pt,fun s v=>?_,tb,ch,np,fun base _ _ hC hB=>?_⟩
 ·obtain ⟨_,_,_,_,_,_,_,_,_,rfl,_⟩:=T47.F.ex;exact .of_eq rfl
 have R {CX n f g ps sp} (z:aP l.prog w K mg base CX n f g ps sp):=z;have ME:Mk K c.e f53:=⟨mkE,T53.a,T53.i,kcE⟩
 have MS:Mk K c.s f55:=⟨mkS,T55.a,T55.i,kcS⟩
 have aIf:cF K c.e "ends" f49:=⟨aIa,T49.i,T49.F.kp⟩
 have aIg:cF K c.s "ends" f49:=⟨aIc,T49.i,T49.F.kp⟩
 have aHk:cF K c.e "stages" f50:=⟨aHi,T50.i,T50.F.kp⟩
 have aHl:cF K c.s "stages" f50:=⟨aHj,T50.i,T50.F.kp⟩
 have aEh:cF K c.e "reserve" f51:=⟨aGX,T51.i,T51.F.kp⟩
 have V_:cF K c.s "reserve" f51:=⟨aGY,T51.i,T51.F.kp⟩
 have aIh:cF K c.e "caps" f52:=⟨aIb,T52.i,T52.F.kp⟩
 have aIi:cF K c.s "caps" f52:=⟨aIe,T52.i,T52.F.kp⟩
 have mt54:=T54.mt;have mt56:=T56.mt;have mt57:=T57.mt;have mt59:=T59.mt;have mt60:=T60.mt;have mt61:=T61.mt;have mt62:=T62.mt;have mt63:=T63.mt;have mt64:=T64.mt;have mt65:=T65.mt;have mt66:=T66.mt;have mt68:=T68.mt;have mt70:=T70.mt;have mt72:=T72.mt;have MCa:Mk K cC f58:=⟨mkC,T58.a,T58.i,kcC⟩
 have MFw:Mk K p.f f67:=⟨mkFw,T67.a,T67.i,kcFw⟩
 have MGr:Mk K p.g f69:=⟨mkGr,T69.a,T69.i,kcGr⟩
 have MLi:Mk K p.l f71:=⟨mkLi,T71.a,T71.i,kcLi⟩
 have G1:=R (CJ (n:=0) T1.F a_ aD9 aEk);have C1:=T1.cal X G G1 T1.F.bd3;have G2:=R (pX (n:=0) T2.F aHm);have C2:=T2.cal X G G2 T2.F.bd2;have G3:=R (oZ (n:=1) T3.F C2.u);have C3:=T3.cal X G G3 T3.F.bd1;have G4:=R (Jk (n:=1) T4.F C2.u);have C4:=T4.cal X G G4 T4.F.bd2;have G5:=R (LC (n:=0) T5.F );have C5:=T5.cal X G G5 T5.F.bd1;have G6:=R (J8 (n:=0) T6.F );have C6:=T6.cal X G G6 T6.F.bd2;have G7:=R (IW (n:=1) T7.F C6.u);have C7:=T7.cal X G G7 T7.F.bd2;have G8:=R (Hk (n:=0) T8.F gcR hC hB I_ aEi);have C8:=T8.cal X G G8 T8.F.bd1;have G9:=R (Ea (n:=1) T9.F C8.u C2.u o_);have C9:=T9.cal X G G9 T9.F.bd1;have G10:=R (vC (n:=0) T10.F aEj);have C10:=T10.cal X G G10 T10.F.bd1;have G11:=R (Hu (n:=2) T11.F C9.u C7.u);have C11:=T11.cal X G G11 T11.F.bd2;have G12:=R (JP (n:=2) T12.F C9.u C10.u C3.u);have C12:=T12.cal X G G12 T12.F.bd1;have G13:=R (zU (n:=2) T13.F C4.u C10.u C3.u aEO);have C13:=T13.cal X G G13 T13.F.bd2;have G14:=R (Bm (n:=0) T14.F ck ct cn aFY aEF a_);have C14:=T14.cal X G G14 T14.F.bd1;have G15:=R (uH (n:=1) T15.F (c:=c) C14.u C1.u l_ a_ h_ aBI aBN);have C15:=T15.cal X G G15 T15.F.bd1;have G16:=R (rT (n:=2) T16.F (c:=c) C15.u aD6 l_ a_ o_ L_ M_);have C16:=T16.cal X G G16 T16.F.bd1;have G17:=R (xE (n:=1) T17.F (c:=c) D_ xcl C14.u aD6 l_ a_ o_ b_ d_);have C17:=T17.calX X G G17 T17.F.bd1;have G18:=R (w6 (n:=0) T18.F );have C18:=T18.cal X G G18 T18.F.bd3;have G19:=R (EY (n:=0) T19.F );have C19:=T19.cal X G G19 T19.F.bd2;have G20:=R (Bk (n:=1) T20.F C19.u e_ b_ d_);have C20:=T20.cal X G G20 T20.F.bd1;have G21:=R (Ej (n:=2) T21.F C20.u l_);have C21:=T21.cal X G G21 T21.F.bd1;have G22:=R (Bl (n:=0) T22.F );have C22:=T22.cal X G G22 T22.F.bd2;have G23:=R (Hz (n:=0) T23.F aEj);have C23:=T23.cal X G G23 T23.F.bd1;have G24:=R (wQ (n:=1) T24.F (T1.cal X G (HX G1) T1.F.bd3).u aD6 l_ a_ o_);have C24:=T24.cal X G G24 T24.F.bd4;have G25:=R (wM (n:=0) T25.F pt aFJ aD7 aD8 a_);have C25:=T25.cal X G G25 T25.F.bd1;have G26:=R (zK (n:=2) T26.F C20.u e_ l_);have C26:=T26.cal X G G26 T26.F.bd1;have G27:=R (DX (n:=2) T27.F C20.u C19.u C22.u aHM);have C27:=T27.cal X G G27 T27.F.bd3;have G28:=R (uF (n:=3) T28.F C21.u e_ l_ b_ d_);have C28:=T28.cal X G G28 T28.F.bd1;have G29:=R (zY (n:=4) T29.F C27.u C28.u e_ b_ d_);have C29:=T29.cal X G G29 T29.F.bd1;have G68:=R (FN (n:=3) T68.F pt.cf nkF C21.u);have b68:=uJ G68 T68.F.bd2;have G70:=R (xG (n:=2) T70.F pt.cg nkG nkM C20.u aD6 l_);have b70:=uJ G70 T70.F.bd2;have G72:=R (xH (n:=0) T72.F pt.cl nkS);have b72:=uJ G72 T72.F.bd2;have G30:=R (Mu (n:=5) T30.F pt mt68 G68.u b68 mt70 G70.u b70 mt72 G72.u b72 C29.u C26.u e_);have C30:=T30.cal X G G30 T30.F.bd2;have G31:=R (uE (n:=6) T31.F (p:=p) C30.u C25.u);have C31:=T31.cal X G G31 T31.F.bd2;have G59:=R (rR (n:=0) T59.F ca l_);have b59:=uJ G59 T59.F.bd1;have G63:=R (Ag (n:=1) T63.F ca mt59 G59.u b59 e_);have b63:=uJ G63 T63.F.bd1;have G32:=R (Cm (n:=4) T32.F pt ca mt63 G63.u b63 mt68 G68.u b68 mt70 G70.u b70 mt72 G72.u b72 C22.u C23.u);have C32:=T32.cal X G G32 T32.F.bd3;have G60:=R (sH (n:=1) T60.F ca N_ xclD mt59 G59.u b59 C1.u);have b60:=uJ G60 T60.F.bd2;have G61:=R (xJ (n:=2) T61.F ca mt60 G60.u b60);have b61:=uJ G61 T61.F.bd2;have G51:=R (sS (n:=0) T51.F ck);have b51:=uJ G51 T51.F.bd1;have G33:=R (Ew (n:=5) T33.F (p:=p) ca ck mt59 G59.u b59 mt61 G61.u b61 aEh V_ G51.u b51 C32.u C6.u e_);have C33:=T33.cal X G G33 T33.F.bd2;have G54:=R (wY (n:=0) T54.F (c:=c));have b54:=uJ G54 T54.F.bd1;have G56:=R (uI (n:=0) T56.F (c:=c));have b56:=uJ G56 T56.F.bd1;have G34:=R (Eb (n:=6) T34.F (p:=p) ca ck mt61 G61.u b61 aEh V_ G51.u b51 mt54 G54.u b54 mt56 G56.u b56 C6.u C5.u C33.u);have C34:=T34.cal X G G34 T34.F.bd2;have G35:=R (Mv (n:=7) T35.F (p:=p) ca mt59 G59.u b59 C34.u C31.u);have C35:=T35.cal X G G35 T35.F.bd2;have G36:=R (uA (n:=0) T36.F l_);have C36:=T36.cal X G G36 T36.F.bd2;have G37:=R (wU (n:=0) T37.F );have C37:=T37.cal X G G37 T37.F.bd2;have b38:Binds K g38 ["_law_thing"] []:=T38.F.bd1;have G38:=R (wV (n:=1) T38.F (T38.cal X G (R (vI (n:=0) T38.F (T38.cal X G (Yq 0) b38) a_ aD9 aEk aF0 o_ h_)) b38) a_ aD9 aEk aF0 o_ h_);have C38:=T38.cal X G G38 b38;have G39:=R (z7 (n:=2) T39.F C38.u);have C39:=T39.cal X G G39 T39.F.bd2;have G40:=R (Ai (n:=0) T40.F );have C40:=T40.cal X G G40 T40.F.bd2;have G41:=R (Dr (n:=1) T41.F C37.u e_);have C41:=T41.cal X G G41 T41.F.bd3;have b42:Binds K g42 ["_law_row_here","_law_deep","_law_most","_law_scale"] []:=T42.F.bd4;have G42:=Zv (b:=1) (sp:=Gq) (fun vs H Q E ⟨_,_,_,_,_,_,_,h,_⟩=>absurd h (aLH _)) (fun d z=>R (BW (n:=1+d) T42.F (T42.cal X G z b42) h_ e_ aFZ)) 5;have C42:=T42.cal X G G42 b42;have G48:=R (pZ (n:=0) T48.F ck h_);have b48:=uJ G48 T48.F.bd5;have G53:=R (uP (n:=1) T53.F ck aEG aG3 G48.u b48 D_ xcl C5.u C1.u aEa aEb);have b53:=uJ G53 T53.F.bd2;have G49:=R (wN (n:=0) T49.F ck);have b49:=uJ G49 T49.F.bd1;have G50:=R (uK (n:=0) T50.F ck);have b50:=uJ G50 T50.F.bd1;have G52:=R (xC (n:=0) T52.F ck o_);have b52:=uJ G52 T52.F.bd1;have G55:=R (pY (n:=3) T55.F ck aEG aG3 G48.u b48 ck.ce ck.cs aIf aIg G49.u b49 aHk aHl G50.u b50 aIh aIi G52.u b52 D_ xcl C11.u C13.u C12.u C16.u C1.u h_ aEi aEj aCv aDw aEo aEp aEc aEd);have b55:=uJ G55 T55.F.bd3;have b43:Binds K g43 ["_law_told"] []:=T43.F.bd1;have G43:=Zv (b:=6) (sp:=Ir c Pt eN) (fun vs H Q E ⟨_,_,_,_,_,_,_,h,_⟩=>absurd h (aLH _)) (fun d z=>R (wR (n:=6+d) T43.F ME G53 b53 aFY (by omega) MS G55 b55 aEF (by omega) (T43.cal X G z b43))) 5;have C43:=T43.cal X G G43 b43;have G67:=R (uD (n:=1) T67.F pt.cf nkF (T1.cal X G (HX G1) T1.F.bd3).u b_ d_);have b67:=uJ G67 T67.F.bd2;have G69:=R (oW (n:=2) T69.F pt.cg nkG nkM C24.u h_ b_ d_);have b69:=uJ G69 T69.F.bd3;have G71:=R (oU (n:=2) T71.F pt.cl nkS C24.u h_ I_ l_ aHL Y_ Z_);have b71:=uJ G71 T71.F.bd2;have G44:=R (uN (n:=5) T44.F pt MFw G67 b67 aFJ (by omega) MGr G69 b69 aD7 (by omega) MLi G71 b71 aD8 (by omega) mt68 G68.u b68 mt70 G70.u b70 mt72 G72.u b72 C37.u e_ aEi aFZ);have C44:=T44.cal X G G44 T44.F.bd2;have G62:=R (De (n:=2) T62.F ca mt60 G60.u b60);have b62:=uJ G62 T62.F.bd2;have G57:=R (vR (n:=0) T57.F ck);have b57:=uJ G57 T57.F.bd2;have G58:=R (sU (n:=2) T58.F ca D_ xcl C17.u h_);have b58:=uJ G58 T58.F.bd2;have G64:=R (wH (n:=4) T64.F ca MCa G58 b58 aFb (by omega) o_);have b64:=uJ G64 T64.F.bd2;have G65:=R (vA (n:=5) T65.F ca ck N_ xclD mt61 G61.u b61 mt62 G62.u b62 mt54 G54.u b54 mt56 G56.u b56 V_ G51.u b51 mt57 G57.u b57 mt64 G64.u b64 C18.u C7.u C1.u l_);have b65:=uJ G65 T65.F.bd3;have G66:=R (wW (n:=5) T66.F ca ck N_ xclD mt61 G61.u b61 mt54 G54.u b54 mt56 G56.u b56 mt64 G64.u b64 C18.u);have b66:=uJ G66 T66.F.bd2;have G45:=R (zN (n:=11) T45.F ca ck aEh V_ G51.u b51 mt65 G65.u b65 mt66 G66.u b66 C37.u C40.u C43.u l_);have C45:=T45.cal X G G45 T45.F.bd5;have G46:=R (Dg (n:=11) T46.F pt ca ck aEh V_ G51.u b51 mt68 G68.u b68 mt70 G70.u b70 mt72 G72.u b72 C40.u C43.u aEB aEk aEj);have C46:=T46.cal X G G46 T46.F.bd3;exact Rf (n:=12) T47.F pt ca ck MCa G58 b58 aFb (by omega) mt63 G63.u b63 C39.u C46.u C35.u C45.u C37.u C43.u C44.u C42.u C41.u C36.u I_ aEi e_
theorem walk {l:W.OpenLaw}{q:Program}{loose:List Str}{XP:(Str->Option Value)->Heap->Prop}{YP:World->Heap->Prop}{d d0:DefRec}{K:Params->W.Frag}(hn:l.most=some 63)(hdf:d.params.defaults=[])
  (h0:(recsOf q).find? (fun e=>e.name==("rising" : Str))=some d0)
  (hY:∀ (w:World) (h:Heap),YP w h->(K w.params).In h)
  (F:∀ (w:World) (mg:Str->Option Value) (fa:Addr) (h:Heap),(K w.params).In h->h.Ns mainGlobals mg->mg d.name=some (.ref fa) ->
   ∃ (fd:FuncData) (c P:Addr),(∀ (s:Shared) (u:Value),BindsTo s fd ⟨[u],[]⟩ [("_law_script",u)])/\W.tabIn (K w.params) "rising" = some (c,P)/\W.codeHdIn (K w.params) c P=true/\(K w.params).lookup P=none/\∀ base:Heap,(K w.params).In base->base.Ns mainGlobals mg->W.CodeHd base c P->base.BuiltinsAt mg P->aP l.prog w (K w.params) mg base cN 13 fa fd ["_law_script"] (uT (K w.params) P eN)) :
  W.WalkO q loose XP YP l.row.toRowW d [] (fun f vs=>PySem.call f vs) :=
 L2.K3 (n:=63) (k:=13) (x:="_law_script") (x0:="rising") (CX:=fun _=>cN) (sp:=fun w P=>uT (K w.params) P eN) hn (by decide) hdf ⟨rfl,by decide,by decide⟩ h0 hY F (fun _ _ a P ns hl hP hS=>⟨a,ns,rfl,hS,hl,hP,fun _=>rfl⟩) fun _ _ _ _ _ z=>z
noncomputable section
abbrev OO:=Params->Obj
def E (P:Params)(x:Str)(t:Tok)(v:Value):DictEntry:=⟨PyData.keyHash P x,.str x t,v⟩
abbrev fnO (n q:Str)(st:Stmt)(dV kV doc pm:Value)(an:Option Addr)(cdv ct:Value):FuncData:=W.fnOf n q (jO st) (gD st) (aL st) dV kV doc pm an cdv ct
def fnT (n q:Str)(st:Stmt):FuncData:={ name:=n,qualname:=q,params:=jO st,body:=.stmts (gD st),scope:=aL st,globals:=0,closure:=[],defaults:=.none,kwdefaults:=.none }
def s0  : Obj:=⟨(.type "tuple"),none,(.seq #[] 0),#[]⟩
def s1  : Obj:=⟨.none,none,(.fields #[]),#[]⟩
def s2 (x0:Str)(x1:Nat)(x3:Nat)(x5:Nat)(x6:Int)(x16:Nat)(x19:Nat)(x20:Int)(x25:Nat):Obj:=⟨(.type "code"),none,(.fields #[(.str x0 x1),(.str x0 x3),(.str "/claim/cut.py" x5),(.int x6 0),(.int 0 0),(.int 0 0),(.int 0 0),(.int 0 0),(.ref x16),(.bool false),(.int 181 0),(.ref x19),.none,.none,.none,.none,(.int x20 0),(.int x6 0),(.str "/claim/cut.py" x25)]),#[]⟩
def s3 (x0:Nat)(x2:Nat)(x3:Str)(x4:Nat):Obj:=⟨(.type "frame"),none,.plain,#[(some (.ref x0)),(some (.ref 3)),(some (.ref x2)),none,(some (.str x3 x4)),none,(some (.ref 0))]⟩
def s4 (x0:Str)(x1:Nat):Obj:=⟨(.type "tuple"),none,(.seq #[(.str x0 x1)] 0),#[]⟩
def s5 (x0:Str)(x1:Str)(x2:Stmt):Obj:=⟨.none,none,(.func (fnT x0 x1 x2)),#[]⟩
def s6 (x0:Str)(x1:Nat)(x2:Str)(x3:Nat)(x5:Nat)(x6:Int)(x8:Int)(x16:Nat)(x19:Nat)(x20:Nat)(x21:Nat)(x22:Nat)(x23:Int)(x28:Nat):Obj:=⟨(.type "code"),none,(.fields #[(.str x0 x1),(.str x2 x3),(.str "/claim/cut.py" x5),(.int x6 0),(.int x8 0),(.int 0 0),(.int 0 0),(.int 3 0),(.ref x16),(.bool true),(.int 181 0),(.ref x19),.none,(.ref x20),(.ref x21),(.ref x22),(.int x23 0),(.int x6 0),(.str "/claim/cut.py" x28)]),#[]⟩
def s7 (x0:Str)(x1:Str)(x2:Stmt)(x3:Str)(x4:Nat)(x5:Nat):Obj:=⟨(.type "function"),none,(.func (fnO x0 x1 x2 .none .none .none (.str x3 x4) none (.ref x5) .none)),#[]⟩
def s8  : Obj:=⟨(.type "builtin_function_or_method"),none,(.fields #[(.builtin "type.__prepare__"),(.type "type")]),#[]⟩
def s9 (P:Params)(x1:Nat)(x2:Str)(x3:Nat)(x5:Nat)(x6:Str)(x7:Nat)(x9:Nat)(x10:Int)(x11:Nat)(x13:Nat)(x14:Nat):Obj:=⟨(.type "dict"),none,(.dict #[E P "__module__" x1 (.str x2 x3),E P "__qualname__" x5 (.str x6 x7),E P "__firstlineno__" x9 (.int x10 x11),E P "__static_attributes__" x13 (.ref x14)] 4),#[]⟩
def Rc (x1:Nat)(x2:Nat):Obj:=⟨(.type "getset_descriptor"),none,(.fields #[(.str "__weakref__" x1),(.ref x2),(.builtin "ExceptionGroup.__weakref__"),.none]),#[]⟩
def Ie (x0:Nat):Obj:=⟨(.type "super"),none,(.fields #[(.ref x0),(.ref x0),(.ref x0)]),#[]⟩
def mC (x0:Nat):Obj:=⟨(.type "builtin_function_or_method"),none,(.fields #[(.builtin "object.__init_subclass__"),(.ref x0)]),#[]⟩
def BJ (x0:Nat):Obj:=⟨(.type "tuple"),none,(.seq #[(.ref x0)] 0),#[]⟩
def Oz (x0:Str)(x2:Nat)(x4:Nat)(x6:Nat)(x8:Nat)(x10:Nat):Obj:=⟨(.type "type"),none,(.cls ⟨x0,[(.ref 31)],[(.ref x2),(.ref 31),(.type "ValueError"),(.type "Exception"),(.type "BaseException"),(.type "object")],x4,x0,true,[],[],false,none,false⟩),#[(some (.ref x6)),none,(some (.str x0 x8)),(some (.str x0 x10)),(some (.builtin "ValueError.__new__")),(some (.bool true))]⟩
def JC (x0:Str)(x1:Nat)(x2:Str)(x3:Nat)(x4:Str)(x5:Nat):Obj:=⟨(.type "tuple"),none,(.seq #[(.str x0 x1),(.str x2 x3),(.str x4 x5)] 0),#[]⟩
def sG (x0:Str)(x1:Nat)(x2:Str)(x3:Nat):Obj:=⟨(.type "tuple"),none,(.seq #[(.str x0 x1),(.str x2 x3)] 0),#[]⟩
def wL (x0:Str)(x1:Nat)(x2:Str)(x3:Nat)(x5:Nat)(x6:Int)(x8:Int)(x16:Nat)(x19:Nat)(x20:Nat)(x21:Int)(x26:Nat):Obj:=⟨(.type "code"),none,(.fields #[(.str x0 x1),(.str x2 x3),(.str "/claim/cut.py" x5),(.int x6 0),(.int x8 0),(.int 0 0),(.int 0 0),(.int 3 0),(.ref x16),(.bool true),(.int 181 0),(.ref x19),.none,.none,.none,(.ref x20),(.int x21 0),(.int x6 0),(.str "/claim/cut.py" x26)]),#[]⟩
def ZZ (x0:Str)(x1:Nat)(x2:Str)(x3:Nat)(x4:Str)(x5:Nat)(x6:Str)(x7:Nat)(x8:Str)(x9:Nat):Obj:=⟨(.type "tuple"),none,(.seq #[(.str x0 x1),(.str x2 x3),(.str x4 x5),(.str x6 x7),(.str x8 x9)] 0),#[]⟩
def Ro (x0:Str)(x1:Nat)(x2:Str)(x3:Nat)(x4:Str)(x5:Nat)(x6:Str)(x7:Nat):Obj:=⟨(.type "tuple"),none,(.seq #[(.str x0 x1),(.str x2 x3),(.str x4 x5),(.str x6 x7)] 0),#[]⟩
def Wq (x0:Str)(x1:Nat)(x2:Nat)(x4:Nat)(x6:Nat)(x8:Nat)(x10:Nat):Obj:=⟨(.type "type"),none,(.cls ⟨x0,[(.ref x1)],[(.ref x2),(.ref x1),(.type "object")],x4,x0,true,[],[],false,none,false⟩),#[(some (.ref x6)),none,(some (.str x0 x8)),(some (.str x0 x10)),(some (.builtin "object.__new__")),(some (.bool true))]⟩
def o13:OO:=fun _=>s2 "<module>" 182 183 184 1 11 12 185 186
def o14:OO:=fun _=>s3 13 3 "__main__" 164
def o3:OO:=fun P=>⟨(.type "dict"),none,(.dict #[E P "__name__" 165 (.str "lidprice.shares" 289),E P "__doc__" 166 .none,E P "__package__" 167 .none,E P "__loader__" 168 (.builtin "__main__.__loader__#opaque"),E P "__spec__" 169 .none,E P "__annotations__" 170 (.ref 6),E P "__builtins__" 171 (.ref 4),E P "__file__" 173 (.str "/claim/cut.py" 172),E P "__cached__" 174 .none,E P "_wall" 193 (.ref 21),E P "LidError" 213 (.ref 31),E P "NoBox" 229 (.ref 44),E P "NoDeed" 245 (.ref 56),E P "NoSets" 261 (.ref 68),E P "NoPattern" 288 (.ref 87),E P "is_whole" 299 (.ref 96),E P "common_divisor" 308 (.ref 103),E P "common_multiple" 317 (.ref 110)] 18),#[]⟩
def U6:OO:=fun _=>⟨.none,none,(.fields #[(.int 1 0),(.int 0 0),(.ref 20),(.int 5 0),(.int 0 0),(.ref 27),(.int 7 0),(.int 0 0),(.ref 40),(.int 9 0),(.int 0 0),(.ref 52),(.int 11 0),(.int 0 0),(.ref 64),(.int 13 0),(.int 0 0),(.ref 76),(.int 19 0),(.int 0 0),(.ref 95),(.int 21 0),(.int 0 0),(.ref 102),(.int 27 0),(.int 0 0),(.ref 109)]),#[]⟩
def o17:OO:=fun _=>s4 "k" 190
def o19:OO:=fun _=>s5 "_wall" "_wall" (top 0)
def o20:OO:=fun _=>s6 "_wall" 187 "_wall" 188 189 1 1 15 16 17 18 19 191 192
def o21:OO:=fun _=>s7 "_wall" "_wall" (top 0) "__main__" 164 20
def o22:OO:=fun _=>⟨(.type "tuple"),none,(.seq #[(.type "ValueError")] 0),#[]⟩
def o24:OO:=fun P=>s9 P 203 "lidprice.errors" 194 205 "LidError" 204 207 5 206 208 29
def o27:OO:=fun _=>s2 "LidError" 198 199 200 5 25 26 201 202
def o28:OO:=fun _=>s3 27 24 "lidprice.errors" 194
def o30:OO:=fun P=>⟨(.type "dict"),none,(.dict #[E P "__module__" 203 (.str "lidprice.errors" 194),E P "__firstlineno__" 207 (.int 5 206),E P "__static_attributes__" 208 (.ref 29),E P "__weakref__" 210 (.ref 32),E P "__doc__" 211 .none] 3),#[]⟩
def o31:OO:=fun _=>⟨(.type "type"),none,(.cls ⟨"LidError",[(.type "ValueError")],[(.ref 31),(.type "ValueError"),(.type "Exception"),(.type "BaseException"),(.type "object")],30,"LidError",true,[],[(.ref 44),(.ref 56),(.ref 68),(.ref 87)],false,none,false⟩),#[(some (.ref 22)),none,(some (.str "LidError" 196)),(some (.str "LidError" 204)),(some (.builtin "ValueError.__new__")),(some (.bool true))]⟩
def o32:OO:=fun _=>Rc 209 31
def o33:OO:=fun _=>Ie 31
def o34:OO:=fun _=>mC 31
def o35:OO:=fun _=>BJ 31
def o37:OO:=fun P=>s9 P 221 "lidprice.errors" 194 223 "NoBox" 222 225 7 224 226 42
def o40:OO:=fun _=>s2 "NoBox" 216 217 218 7 38 39 219 220
def o41:OO:=fun _=>s3 40 37 "lidprice.errors" 194
def o43:OO:=fun P=>⟨(.type "dict"),none,(.dict #[E P "__module__" 221 (.str "lidprice.errors" 194),E P "__firstlineno__" 225 (.int 7 224),E P "__static_attributes__" 226 (.ref 42),E P "__doc__" 227 .none] 2),#[]⟩
def o44:OO:=fun _=>Oz "NoBox" 44 43 35 214 222
def o45:OO:=fun _=>Ie 44
def o46:OO:=fun _=>mC 44
def o47:OO:=fun _=>BJ 31
def o49:OO:=fun P=>s9 P 237 "lidprice.errors" 194 239 "NoDeed" 238 241 9 240 242 54
def o52:OO:=fun _=>s2 "NoDeed" 232 233 234 9 50 51 235 236
def o53:OO:=fun _=>s3 52 49 "lidprice.errors" 194
def o55:OO:=fun P=>⟨(.type "dict"),none,(.dict #[E P "__module__" 237 (.str "lidprice.errors" 194),E P "__firstlineno__" 241 (.int 9 240),E P "__static_attributes__" 242 (.ref 54),E P "__doc__" 243 .none] 2),#[]⟩
def o56:OO:=fun _=>Oz "NoDeed" 56 55 47 230 238
def o57:OO:=fun _=>Ie 56
def o58:OO:=fun _=>mC 56
def o59:OO:=fun _=>BJ 31
def o61:OO:=fun P=>s9 P 253 "lidprice.errors" 194 255 "NoSets" 254 257 11 256 258 66
def o64:OO:=fun _=>s2 "NoSets" 248 249 250 11 62 63 251 252
def o65:OO:=fun _=>s3 64 61 "lidprice.errors" 194
def o67:OO:=fun P=>⟨(.type "dict"),none,(.dict #[E P "__module__" 253 (.str "lidprice.errors" 194),E P "__firstlineno__" 257 (.int 11 256),E P "__static_attributes__" 258 (.ref 66),E P "__doc__" 259 .none] 2),#[]⟩
def o68:OO:=fun _=>Oz "NoSets" 68 67 59 246 254
def o69:OO:=fun _=>Ie 68
def o70:OO:=fun _=>mC 68
def o71:OO:=fun _=>BJ 31
def o73:OO:=fun P=>⟨(.type "dict"),none,(.dict #[E P "__module__" 269 (.str "lidprice.errors" 194),E P "__qualname__" 271 (.str "NoPattern" 270),E P "__firstlineno__" 273 (.int 13 272),E P "__init__" 282 (.ref 84),E P "__static_attributes__" 285 (.ref 85)] 5),#[]⟩
def o75:OO:=fun _=>⟨.none,none,(.fields #[(.int 15 0),(.int 4 0),(.ref 83)]),#[]⟩
def o76:OO:=fun _=>s2 "NoPattern" 264 265 266 13 74 75 267 268
def o77:OO:=fun _=>s3 76 73 "lidprice.errors" 194
def o80:OO:=fun _=>JC "self" 277 "one" 278 "other" 279
def o82:OO:=fun _=>s5 "__init__" "NoPattern.__init__" (inClass (top 6) 0)
def o83:OO:=fun _=>s6 "__init__" 274 "NoPattern.__init__" 275 276 15 3 78 79 80 81 82 280 281
def o84:OO:=fun _=>s7 "__init__" "NoPattern.__init__" (inClass (top 6) 0) "lidprice.errors" 194 83
def o85:OO:=fun _=>sG "one" 283 "other" 284
def o86:OO:=fun P=>⟨(.type "dict"),none,(.dict #[E P "__module__" 269 (.str "lidprice.errors" 194),E P "__firstlineno__" 273 (.int 13 272),E P "__init__" 282 (.ref 84),E P "__static_attributes__" 285 (.ref 85),E P "__doc__" 286 .none] 2),#[]⟩
def o87:OO:=fun _=>Oz "NoPattern" 87 86 71 262 270
def o88:OO:=fun _=>Ie 87
def o89:OO:=fun _=>mC 87
def o92:OO:=fun _=>JC "thing" 294 "least" 295 "most" 296
def o94:OO:=fun _=>s5 "is_whole" "is_whole" (top 8)
def o95:OO:=fun _=>s6 "is_whole" 291 "is_whole" 292 293 19 3 90 91 92 93 94 297 298
def o96:OO:=fun _=>s7 "is_whole" "is_whole" (top 8) "lidprice.shares" 289 95
def o99:OO:=fun _=>JC "one" 303 "other" 304 "rest" 305
def aBU:OO:=fun _=>s5 "common_divisor" "common_divisor" (top 9)
def Xj:OO:=fun _=>s6 "common_divisor" 300 "common_divisor" 301 302 21 2 97 98 99 100 101 306 307
def Vu:OO:=fun _=>s7 "common_divisor" "common_divisor" (top 9) "lidprice.shares" 289 102
def aCD:OO:=fun _=>JC "numbers" 312 "multiple" 313 "number" 314
def Zy:OO:=fun _=>s5 "common_multiple" "common_multiple" (top 10)
def YM:OO:=fun _=>s6 "common_multiple" 309 "common_multiple" 310 311 27 1 104 105 106 107 108 315 316
def Tc:OO:=fun _=>s7 "common_multiple" "common_multiple" (top 10) "lidprice.shares" 289 109
def aA9:OO:=fun P=>⟨(.type "dict"),none,(.dict #[E P "__name__" 165 (.str "lidprice.stands" 392),E P "__doc__" 166 .none,E P "__package__" 167 .none,E P "__loader__" 168 (.builtin "__main__.__loader__#opaque"),E P "__spec__" 169 .none,E P "__annotations__" 170 (.ref 6),E P "__builtins__" 171 (.ref 4),E P "__file__" 173 (.str "/claim/cut.py" 172),E P "__cached__" 174 .none,E P "_wall" 193 (.ref 21),E P "LidError" 213 (.ref 31),E P "NoBox" 229 (.ref 44),E P "NoDeed" 245 (.ref 56),E P "NoSets" 261 (.ref 68),E P "NoPattern" 288 (.ref 87),E P "is_whole" 299 (.ref 96),E P "common_divisor" 308 (.ref 103),E P "common_multiple" 317 (.ref 110),E P "share" 326 (.ref 117),E P "whole" 333 (.ref 124),E P "below" 341 (.ref 131),E P "lesser" 349 (.ref 138),E P "MOST_WORTH" 353 (.int 1000000000 352),E P "MOST_WEIGHT" 355 (.int 1000 354),E P "rising" 361 (.ref 143),E P "in_form" 367 (.ref 148),E P "all_weights" 373 (.ref 153),E P "capped" 379 (.ref 158),E P "mixed" 385 (.ref 163),E P "level_for" 391 (.ref 168),E P "MOST_PRICE" 395 (.int 1000000000 394),E P "MOST_STAGE_ROWS" 397 (.int 4 396),E P "MOST_STAGES" 399 (.int 4 398),E P "MOST_ENDS" 401 (.int 12 400),E P "MOST_BOXES" 403 (.int 6 402),E P "Stand" 466 (.ref 213),E P "End" 520 (.ref 262),E P "Stage" 589 (.ref 321)] 38),#[]⟩
def Y5:OO:=fun _=>⟨.none,none,(.fields #[(.int 1 0),(.int 0 0),(.ref 20),(.int 5 0),(.int 0 0),(.ref 27),(.int 7 0),(.int 0 0),(.ref 40),(.int 9 0),(.int 0 0),(.ref 52),(.int 11 0),(.int 0 0),(.ref 64),(.int 13 0),(.int 0 0),(.ref 76),(.int 19 0),(.int 0 0),(.ref 95),(.int 21 0),(.int 0 0),(.ref 102),(.int 27 0),(.int 0 0),(.ref 109),(.int 32 0),(.int 0 0),(.ref 116),(.int 37 0),(.int 0 0),(.ref 123),(.int 39 0),(.int 0 0),(.ref 130),(.int 41 0),(.int 0 0),(.ref 137),(.int 46 0),(.int 0 0),(.ref 142),(.int 50 0),(.int 0 0),(.ref 147),(.int 58 0),(.int 0 0),(.ref 152),(.int 60 0),(.int 0 0),(.ref 157),(.int 62 0),(.int 0 0),(.ref 162),(.int 69 0),(.int 0 0),(.ref 167),(.int 86 0),(.int 0 0),(.ref 174),(.int 105 0),(.int 0 0),(.ref 223),(.int 124 0),(.int 0 0),(.ref 270)]),#[]⟩
def aCP:OO:=fun _=>JC "top" 321 "bottom" 322 "divisor" 323
def aDK:OO:=fun _=>s5 "share" "share" (top 11)
def Tg:OO:=fun _=>s6 "share" 318 "share" 319 320 32 2 111 112 113 114 115 324 325
def Vq:OO:=fun _=>s7 "share" "share" (top 11) "lidprice.shares" 289 116
def Zz:OO:=fun _=>s4 "number" 330
def aDF:OO:=fun _=>s5 "whole" "whole" (top 12)
def ZM:OO:=fun _=>s6 "whole" 327 "whole" 328 329 37 1 118 119 120 121 122 331 332
def UW:OO:=fun _=>s7 "whole" "whole" (top 12) "lidprice.shares" 289 123
def aAm:OO:=fun _=>sG "one" 337 "other" 338
def aAL:OO:=fun _=>s5 "below" "below" (top 13)
def Ws:OO:=fun _=>s6 "below" 334 "below" 335 336 39 2 125 126 127 128 129 339 340
def Xm:OO:=fun _=>s7 "below" "below" (top 13) "lidprice.shares" 289 130
def aAM:OO:=fun _=>sG "one" 345 "other" 346
def aAp:OO:=fun _=>s5 "lesser" "lesser" (top 14)
def V9:OO:=fun _=>s6 "lesser" 342 "lesser" 343 344 41 2 132 133 134 135 136 347 348
def W3:OO:=fun _=>s7 "lesser" "lesser" (top 14) "lidprice.shares" 289 137
def aDB:OO:=fun _=>s5 "rising" "rising" (top 18)
def Ry:OO:=fun _=>wL "rising" 356 "rising" 357 358 46 1 139 140 141 359 360
def Wi:OO:=fun _=>s7 "rising" "rising" (top 18) "lidprice.tables" 350 142
def aBv:OO:=fun _=>s5 "in_form" "in_form" (top 19)
def VJ:OO:=fun _=>wL "in_form" 362 "in_form" 363 364 50 1 144 145 146 365 366
def WL:OO:=fun _=>s7 "in_form" "in_form" (top 19) "lidprice.tables" 350 147
def aAX:OO:=fun _=>s5 "all_weights" "all_weights" (top 20)
def Wj:OO:=fun _=>wL "all_weights" 368 "all_weights" 369 370 58 1 149 150 151 371 372
def Ss:OO:=fun _=>s7 "all_weights" "all_weights" (top 20) "lidprice.tables" 350 152
def aBK:OO:=fun _=>s5 "capped" "capped" (top 21)
def XF:OO:=fun _=>wL "capped" 374 "capped" 375 376 60 2 154 155 156 377 378
def V7:OO:=fun _=>s7 "capped" "capped" (top 21) "lidprice.tables" 350 157
def aB2:OO:=fun _=>s5 "mixed" "mixed" (top 22)
def Y0:OO:=fun _=>wL "mixed" 380 "mixed" 381 382 62 1 159 160 161 383 384
def Us:OO:=fun _=>s7 "mixed" "mixed" (top 22) "lidprice.tables" 350 162
def aBl:OO:=fun _=>s5 "level_for" "level_for" (top 23)
def Vs:OO:=fun _=>wL "level_for" 386 "level_for" 387 388 69 2 164 165 166 389 390
def Xf:OO:=fun _=>s7 "level_for" "level_for" (top 23) "lidprice.tables" 350 167
def aCE:OO:=fun P=>⟨(.type "dict"),none,(.dict #[E P "__module__" 411 (.str "lidprice.stands" 392),E P "__qualname__" 413 (.str "Stand" 412),E P "__firstlineno__" 415 (.int 86 414),E P "__init__" 426 (.ref 182),E P "ends" 433 (.ref 189),E P "stages" 440 (.ref 196),E P "reserve" 447 (.ref 203),E P "caps" 454 (.ref 210),E P "__static_attributes__" 459 (.ref 211)] 9),#[]⟩
def aDS:OO:=fun _=>⟨.none,none,(.fields #[(.int 88 0),(.int 4 0),(.ref 181),(.int 94 0),(.int 4 0),(.ref 188),(.int 97 0),(.int 4 0),(.ref 195),(.int 100 0),(.int 4 0),(.ref 202),(.int 103 0),(.int 4 0),(.ref 209)]),#[]⟩
def aB4:OO:=fun _=>s2 "Stand" 406 407 408 86 172 173 409 410
def aCq:OO:=fun _=>s3 174 171 "lidprice.stands" 392
def aB9:OO:=fun _=>ZZ "self" 419 "end_count" 420 "stage_count" 421 "level" 422 "cap_rows" 423
def aCc:OO:=fun _=>s5 "__init__" "Stand.__init__" (inClass (top 30) 0)
def WP:OO:=fun _=>s6 "__init__" 416 "Stand.__init__" 417 418 88 5 176 177 178 179 180 424 425
def Xg:OO:=fun _=>s7 "__init__" "Stand.__init__" (inClass (top 30) 0) "lidprice.stands" 392 181
def aDc:OO:=fun _=>s4 "self" 430
def Zw:OO:=fun _=>s5 "ends" "Stand.ends" (inClass (top 30) 1)
def Vi:OO:=fun _=>s6 "ends" 427 "Stand.ends" 428 429 94 1 183 184 185 186 187 431 432
def Tr:OO:=fun _=>s7 "ends" "Stand.ends" (inClass (top 30) 1) "lidprice.stands" 392 188
def aBp:OO:=fun _=>s4 "self" 437
def aBi:OO:=fun _=>s5 "stages" "Stand.stages" (inClass (top 30) 2)
def Vp:OO:=fun _=>s6 "stages" 434 "Stand.stages" 435 436 97 1 190 191 192 193 194 438 439
def Xo:OO:=fun _=>s7 "stages" "Stand.stages" (inClass (top 30) 2) "lidprice.stands" 392 195
def aBe:OO:=fun _=>s4 "self" 444
def aBm:OO:=fun _=>s5 "reserve" "Stand.reserve" (inClass (top 30) 3)
def WN:OO:=fun _=>s6 "reserve" 441 "Stand.reserve" 442 443 100 1 197 198 199 200 201 445 446
def UJ:OO:=fun _=>s7 "reserve" "Stand.reserve" (inClass (top 30) 3) "lidprice.stands" 392 202
def aAN:OO:=fun _=>s4 "self" 451
def aAf:OO:=fun _=>s5 "caps" "Stand.caps" (inClass (top 30) 4)
def Um:OO:=fun _=>s6 "caps" 448 "Stand.caps" 449 450 103 1 204 205 206 207 208 452 453
def Rz:OO:=fun _=>s7 "caps" "Stand.caps" (inClass (top 30) 4) "lidprice.stands" 392 209
def aAG:OO:=fun _=>Ro "cap_rows" 455 "end_count" 456 "level" 457 "stage_count" 458
def Y9:OO:=fun P=>⟨(.type "dict"),none,(.dict #[E P "__module__" 411 (.str "lidprice.stands" 392),E P "__firstlineno__" 415 (.int 86 414),E P "__init__" 426 (.ref 182),E P "ends" 433 (.ref 189),E P "stages" 440 (.ref 196),E P "reserve" 447 (.ref 203),E P "caps" 454 (.ref 210),E P "__static_attributes__" 459 (.ref 211),E P "__dict__" 461 (.ref 214),E P "__weakref__" 463 (.ref 215),E P "__doc__" 464 .none] 4),#[]⟩
def Vm:OO:=fun _=>⟨(.type "type"),none,(.cls ⟨"Stand",[(.type "object")],[(.ref 213),(.type "object")],212,"Stand",true,[],[(.ref 262),(.ref 321)],false,none,false⟩),#[none,none,(some (.str "Stand" 404)),(some (.str "Stand" 412)),(some (.builtin "object.__new__")),(some (.bool true))]⟩
def Ud:OO:=fun _=>⟨(.type "getset_descriptor"),none,(.fields #[(.str "__dict__" 460),(.ref 213),(.builtin "function.__dict__"),(.builtin "function.__dict__#set")]),#[]⟩
def UT:OO:=fun _=>Rc 462 213
def Zu:OO:=fun _=>Ie 213
def aCK:OO:=fun _=>mC 213
def aAj:OO:=fun _=>BJ 213
def aDe:OO:=fun P=>⟨(.type "dict"),none,(.dict #[E P "__module__" 474 (.str "lidprice.stands" 392),E P "__qualname__" 476 (.str "End" 475),E P "__firstlineno__" 478 (.int 105 477),E P "__init__" 486 (.ref 231),E P "is_end" 493 (.ref 238),E P "ways" 500 (.ref 245),E P "beside" 508 (.ref 252),E P "told" 515 (.ref 259),E P "__static_attributes__" 517 (.ref 260)] 9),#[]⟩
def aBg:OO:=fun _=>⟨.none,none,(.fields #[(.int 107 0),(.int 4 0),(.ref 230),(.int 113 0),(.int 4 0),(.ref 237),(.int 116 0),(.int 4 0),(.ref 244),(.int 119 0),(.int 4 0),(.ref 251),(.int 122 0),(.int 4 0),(.ref 258)]),#[]⟩
def aCX:OO:=fun _=>s2 "End" 469 470 471 105 221 222 472 473
def aD4:OO:=fun _=>s3 223 220 "lidprice.stands" 392
def aA3:OO:=fun _=>sG "self" 482 "worth" 483
def aAa:OO:=fun _=>s5 "__init__" "End.__init__" (inClass (top 31) 0)
def VD:OO:=fun _=>s6 "__init__" 479 "End.__init__" 480 481 107 2 225 226 227 228 229 484 485
def Xc:OO:=fun _=>s7 "__init__" "End.__init__" (inClass (top 31) 0) "lidprice.stands" 392 230
def aDy:OO:=fun _=>s4 "self" 490
def aAx:OO:=fun _=>s5 "is_end" "End.is_end" (inClass (top 31) 1)
def Yz:OO:=fun _=>s6 "is_end" 487 "End.is_end" 488 489 113 1 232 233 234 235 236 491 492
def S9:OO:=fun _=>s7 "is_end" "End.is_end" (inClass (top 31) 1) "lidprice.stands" 392 237
def aB3:OO:=fun _=>s4 "self" 497
def aBn:OO:=fun _=>s5 "ways" "End.ways" (inClass (top 31) 2)
def XH:OO:=fun _=>s6 "ways" 494 "End.ways" 495 496 116 1 239 240 241 242 243 498 499
def Sg:OO:=fun _=>s7 "ways" "End.ways" (inClass (top 31) 2) "lidprice.stands" 392 244
def aB6:OO:=fun _=>sG "self" 504 "level" 505
def aCs:OO:=fun _=>s5 "beside" "End.beside" (inClass (top 31) 3)
def YC:OO:=fun _=>s6 "beside" 501 "End.beside" 502 503 119 2 246 247 248 249 250 506 507
def Uo:OO:=fun _=>s7 "beside" "End.beside" (inClass (top 31) 3) "lidprice.stands" 392 251
def aAy:OO:=fun _=>s4 "self" 512
def aCS:OO:=fun _=>s5 "told" "End.told" (inClass (top 31) 4)
def Vz:OO:=fun _=>s6 "told" 509 "End.told" 510 511 122 1 253 254 255 256 257 513 514
def TQ:OO:=fun _=>s7 "told" "End.told" (inClass (top 31) 4) "lidprice.stands" 392 258
def aAs:OO:=fun _=>s4 "worth" 516
def XJ:OO:=fun P=>⟨(.type "dict"),none,(.dict #[E P "__module__" 474 (.str "lidprice.stands" 392),E P "__firstlineno__" 478 (.int 105 477),E P "__init__" 486 (.ref 231),E P "is_end" 493 (.ref 238),E P "ways" 500 (.ref 245),E P "beside" 508 (.ref 252),E P "told" 515 (.ref 259),E P "__static_attributes__" 517 (.ref 260),E P "__doc__" 518 .none] 2),#[]⟩
def Yv:OO:=fun _=>Wq "End" 213 262 261 218 467 475
def aBf:OO:=fun _=>Ie 262
def aCi:OO:=fun _=>mC 262
def aBt:OO:=fun _=>BJ 213
def aDZ:OO:=fun P=>⟨(.type "dict"),none,(.dict #[E P "__module__" 528 (.str "lidprice.stands" 392),E P "__qualname__" 530 (.str "Stage" 529),E P "__firstlineno__" 532 (.int 124 531),E P "__init__" 538 (.ref 276),E P "is_end" 545 (.ref 283),E P "row_share" 553 (.ref 290),E P "after" 561 (.ref 297),E P "ways" 568 (.ref 304),E P "beside" 576 (.ref 311),E P "told" 583 (.ref 318),E P "__static_attributes__" 586 (.ref 319)] 11),#[]⟩
def aDx:OO:=fun _=>⟨.none,none,(.fields #[(.int 126 0),(.int 4 0),(.ref 275),(.int 139 0),(.int 4 0),(.ref 282),(.int 142 0),(.int 4 0),(.ref 289),(.int 145 0),(.int 4 0),(.ref 296),(.int 148 0),(.int 4 0),(.ref 303),(.int 151 0),(.int 4 0),(.ref 310),(.int 154 0),(.int 4 0),(.ref 317)]),#[]⟩
def aC0:OO:=fun _=>s2 "Stage" 523 524 525 124 268 269 526 527
def Z8:OO:=fun _=>s3 270 267 "lidprice.stands" 392
def aC7:OO:=fun _=>s5 "__init__" "Stage.__init__" (inClass (top 32) 0)
def Yr:OO:=fun _=>wL "__init__" 533 "Stage.__init__" 534 535 126 3 272 273 274 536 537
def Xn:OO:=fun _=>s7 "__init__" "Stage.__init__" (inClass (top 32) 0) "lidprice.stands" 392 275
def aAU:OO:=fun _=>s4 "self" 542
def aAD:OO:=fun _=>s5 "is_end" "Stage.is_end" (inClass (top 32) 1)
def YJ:OO:=fun _=>s6 "is_end" 539 "Stage.is_end" 540 541 139 1 277 278 279 280 281 543 544
def VV:OO:=fun _=>s7 "is_end" "Stage.is_end" (inClass (top 32) 1) "lidprice.stands" 392 282
def aAv:OO:=fun _=>sG "self" 549 "row" 550
def aDp:OO:=fun _=>s5 "row_share" "Stage.row_share" (inClass (top 32) 2)
def Yw:OO:=fun _=>s6 "row_share" 546 "Stage.row_share" 547 548 142 2 284 285 286 287 288 551 552
def Xz:OO:=fun _=>s7 "row_share" "Stage.row_share" (inClass (top 32) 2) "lidprice.stands" 392 289
def aCw:OO:=fun _=>sG "self" 557 "row" 558
def aAV:OO:=fun _=>s5 "after" "Stage.after" (inClass (top 32) 3)
def Yt:OO:=fun _=>s6 "after" 554 "Stage.after" 555 556 145 2 291 292 293 294 295 559 560
def YX:OO:=fun _=>s7 "after" "Stage.after" (inClass (top 32) 3) "lidprice.stands" 392 296
def aCg:OO:=fun _=>s4 "self" 565
def aAl:OO:=fun _=>s5 "ways" "Stage.ways" (inClass (top 32) 4)
def Y4:OO:=fun _=>s6 "ways" 562 "Stage.ways" 563 564 148 1 298 299 300 301 302 566 567
def UG:OO:=fun _=>s7 "ways" "Stage.ways" (inClass (top 32) 4) "lidprice.stands" 392 303
def aDz:OO:=fun _=>sG "self" 572 "level" 573
def aDf:OO:=fun _=>s5 "beside" "Stage.beside" (inClass (top 32) 5)
def Rr:OO:=fun _=>s6 "beside" 569 "Stage.beside" 570 571 151 2 305 306 307 308 309 574 575
def Xq:OO:=fun _=>s7 "beside" "Stage.beside" (inClass (top 32) 5) "lidprice.stands" 392 310
def aAI:OO:=fun _=>s4 "self" 580
def aDi:OO:=fun _=>s5 "told" "Stage.told" (inClass (top 32) 6)
def Vr:OO:=fun _=>s6 "told" 577 "Stage.told" 578 579 154 1 312 313 314 315 316 581 582
def Ye:OO:=fun _=>s7 "told" "Stage.told" (inClass (top 32) 6) "lidprice.stands" 392 317
def aDb:OO:=fun _=>sG "price" 584 "rows" 585
def W7:OO:=fun P=>⟨(.type "dict"),none,(.dict #[E P "__module__" 528 (.str "lidprice.stands" 392),E P "__firstlineno__" 532 (.int 124 531),E P "__init__" 538 (.ref 276),E P "is_end" 545 (.ref 283),E P "row_share" 553 (.ref 290),E P "after" 561 (.ref 297),E P "ways" 568 (.ref 304),E P "beside" 576 (.ref 311),E P "told" 583 (.ref 318),E P "__static_attributes__" 586 (.ref 319),E P "__doc__" 587 .none] 2),#[]⟩
def XM:OO:=fun _=>Wq "Stage" 213 321 320 265 521 529
def aDg:OO:=fun _=>Ie 321
def aDY:OO:=fun _=>mC 321
def aAb:OO:=fun P=>⟨(.type "dict"),none,(.dict #[E P "__name__" 165 (.str "lidprice.patterns" 772),E P "__doc__" 166 .none,E P "__package__" 167 .none,E P "__loader__" 168 (.builtin "__main__.__loader__#opaque"),E P "__spec__" 169 .none,E P "__annotations__" 170 (.ref 6),E P "__builtins__" 171 (.ref 4),E P "__file__" 173 (.str "/claim/cut.py" 172),E P "__cached__" 174 .none,E P "_wall" 193 (.ref 21),E P "LidError" 213 (.ref 31),E P "NoBox" 229 (.ref 44),E P "NoDeed" 245 (.ref 56),E P "NoSets" 261 (.ref 68),E P "NoPattern" 288 (.ref 87),E P "is_whole" 299 (.ref 96),E P "common_divisor" 308 (.ref 103),E P "common_multiple" 317 (.ref 110),E P "share" 326 (.ref 117),E P "whole" 333 (.ref 124),E P "below" 341 (.ref 131),E P "lesser" 349 (.ref 138),E P "MOST_WORTH" 353 (.int 1000000000 352),E P "MOST_WEIGHT" 355 (.int 1000 354),E P "rising" 361 (.ref 143),E P "in_form" 367 (.ref 148),E P "all_weights" 373 (.ref 153),E P "capped" 379 (.ref 158),E P "mixed" 385 (.ref 163),E P "level_for" 391 (.ref 168),E P "MOST_PRICE" 395 (.int 1000000000 394),E P "MOST_STAGE_ROWS" 397 (.int 4 396),E P "MOST_STAGES" 399 (.int 4 398),E P "MOST_ENDS" 401 (.int 12 400),E P "MOST_BOXES" 403 (.int 6 402),E P "Stand" 466 (.ref 213),E P "End" 520 (.ref 262),E P "Stage" 589 (.ref 321),E P "is_stand" 596 (.ref 330),E P "is_stage_row" 603 (.ref 337),E P "is_stage_rows" 609 (.ref 342),E P "need_boxes" 615 (.ref 347),E P "with_thing" 626 (.ref 354),E P "Case" 771 (.ref 465),E P "MOST_SETS" 775 (.int 64 774),E P "has_box" 783 (.ref 476),E P "boxes_of" 789 (.ref 481),E P "size_of" 796 (.ref 488),E P "with_box" 804 (.ref 495),E P "set_of" 810 (.ref 500),E P "is_numbers" 816 (.ref 505),E P "Pattern" 836 (.ref 515),E P "Few" 876 (.ref 550)] 53),#[]⟩
def XQ:OO:=fun _=>⟨.none,none,(.fields #[(.int 1 0),(.int 0 0),(.ref 20),(.int 5 0),(.int 0 0),(.ref 27),(.int 7 0),(.int 0 0),(.ref 40),(.int 9 0),(.int 0 0),(.ref 52),(.int 11 0),(.int 0 0),(.ref 64),(.int 13 0),(.int 0 0),(.ref 76),(.int 19 0),(.int 0 0),(.ref 95),(.int 21 0),(.int 0 0),(.ref 102),(.int 27 0),(.int 0 0),(.ref 109),(.int 32 0),(.int 0 0),(.ref 116),(.int 37 0),(.int 0 0),(.ref 123),(.int 39 0),(.int 0 0),(.ref 130),(.int 41 0),(.int 0 0),(.ref 137),(.int 46 0),(.int 0 0),(.ref 142),(.int 50 0),(.int 0 0),(.ref 147),(.int 58 0),(.int 0 0),(.ref 152),(.int 60 0),(.int 0 0),(.ref 157),(.int 62 0),(.int 0 0),(.ref 162),(.int 69 0),(.int 0 0),(.ref 167),(.int 86 0),(.int 0 0),(.ref 174),(.int 105 0),(.int 0 0),(.ref 223),(.int 124 0),(.int 0 0),(.ref 270),(.int 156 0),(.int 0 0),(.ref 329),(.int 158 0),(.int 0 0),(.ref 336),(.int 162 0),(.int 0 0),(.ref 341),(.int 166 0),(.int 0 0),(.ref 346),(.int 172 0),(.int 0 0),(.ref 353),(.int 174 0),(.int 0 0),(.ref 360),(.int 250 0),(.int 0 0),(.ref 475),(.int 252 0),(.int 0 0),(.ref 480),(.int 254 0),(.int 0 0),(.ref 487),(.int 256 0),(.int 0 0),(.ref 494),(.int 258 0),(.int 0 0),(.ref 499),(.int 260 0),(.int 0 0),(.ref 504),(.int 264 0),(.int 0 0),(.ref 511),(.int 266 0),(.int 0 0),(.ref 525)]),#[]⟩
def aBE:OO:=fun _=>s4 "thing" 593
def aCT:OO:=fun _=>s5 "is_stand" "is_stand" (top 33)
def Xy:OO:=fun _=>s6 "is_stand" 590 "is_stand" 591 592 156 1 324 325 326 327 328 594 595
def Wf:OO:=fun _=>s7 "is_stand" "is_stand" (top 33) "lidprice.stands" 392 329
def aDr:OO:=fun _=>s4 "row" 600
def aAH:OO:=fun _=>s5 "is_stage_row" "is_stage_row" (top 34)
def Y6:OO:=fun _=>s6 "is_stage_row" 597 "is_stage_row" 598 599 158 1 331 332 333 334 335 601 602
def YT:OO:=fun _=>s7 "is_stage_row" "is_stage_row" (top 34) "lidprice.stands" 392 336
def aA8:OO:=fun _=>s5 "is_stage_rows" "is_stage_rows" (top 35)
def Th:OO:=fun _=>wL "is_stage_rows" 604 "is_stage_rows" 605 606 162 1 338 339 340 607 608
def YG:OO:=fun _=>s7 "is_stage_rows" "is_stage_rows" (top 35) "lidprice.stands" 392 341
def aDk:OO:=fun _=>s5 "need_boxes" "need_boxes" (top 36)
def Uh:OO:=fun _=>wL "need_boxes" 610 "need_boxes" 611 612 166 1 343 344 345 613 614
def Wa:OO:=fun _=>s7 "need_boxes" "need_boxes" (top 36) "lidprice.stands" 392 346
def Zc:OO:=fun _=>JC "things" 621 "place" 622 "thing" 623
def Zn:OO:=fun _=>s5 "with_thing" "with_thing" (top 38)
def Xu:OO:=fun _=>s6 "with_thing" 618 "with_thing" 619 620 172 3 348 349 350 351 352 624 625
def U0:OO:=fun _=>s7 "with_thing" "with_thing" (top 38) "lidprice.cases" 616 353
def aBr:OO:=fun P=>⟨(.type "dict"),none,(.dict #[E P "__module__" 634 (.str "lidprice.cases" 616),E P "__qualname__" 636 (.str "Case" 635),E P "__firstlineno__" 638 (.int 174 637),E P "__init__" 644 (.ref 366),E P "how_many" 651 (.ref 373),E P "need_box" 659 (.ref 380),E P "stand" 667 (.ref 387),E P "cap" 675 (.ref 394),E P "kept" 681 (.ref 399),E P "paid" 688 (.ref 406),E P "had" 695 (.ref 413),E P "deeds" 702 (.ref 420),E P "caps" 712 (.ref 427),E P "debt" 720 (.ref 434),E P "left" 727 (.ref 441),E P "behind" 736 (.ref 448),E P "opened" 749 (.ref 455),E P "taken" 758 (.ref 462),E P "__static_attributes__" 764 (.ref 463)] 19),#[]⟩
def aDC:OO:=fun _=>⟨.none,none,(.fields #[(.int 176 0),(.int 4 0),(.ref 365),(.int 184 0),(.int 4 0),(.ref 372),(.int 187 0),(.int 4 0),(.ref 379),(.int 191 0),(.int 4 0),(.ref 386),(.int 195 0),(.int 4 0),(.ref 393),(.int 199 0),(.int 4 0),(.ref 398),(.int 202 0),(.int 4 0),(.ref 405),(.int 205 0),(.int 4 0),(.ref 412),(.int 208 0),(.int 4 0),(.ref 419),(.int 211 0),(.int 4 0),(.ref 426),(.int 216 0),(.int 4 0),(.ref 433),(.int 219 0),(.int 4 0),(.ref 440),(.int 222 0),(.int 4 0),(.ref 447),(.int 230 0),(.int 4 0),(.ref 454),(.int 242 0),(.int 4 0),(.ref 461)]),#[]⟩
def aCk:OO:=fun _=>s2 "Case" 629 630 631 174 358 359 632 633
def aBu:OO:=fun _=>s3 360 357 "lidprice.cases" 616
def aDP:OO:=fun _=>s5 "__init__" "Case.__init__" (inClass (top 39) 0)
def V5:OO:=fun _=>wL "__init__" 639 "Case.__init__" 640 641 176 2 362 363 364 642 643
def Vc:OO:=fun _=>s7 "__init__" "Case.__init__" (inClass (top 39) 0) "lidprice.cases" 616 365
def aDT:OO:=fun _=>s4 "self" 648
def Zb:OO:=fun _=>s5 "how_many" "Case.how_many" (inClass (top 39) 1)
def YW:OO:=fun _=>s6 "how_many" 645 "Case.how_many" 646 647 184 1 367 368 369 370 371 649 650
def Yh:OO:=fun _=>s7 "how_many" "Case.how_many" (inClass (top 39) 1) "lidprice.cases" 616 372
def aAC:OO:=fun _=>sG "self" 655 "box" 656
def Zj:OO:=fun _=>s5 "need_box" "Case.need_box" (inClass (top 39) 2)
def Yd:OO:=fun _=>s6 "need_box" 652 "Case.need_box" 653 654 187 2 374 375 376 377 378 657 658
def Xe:OO:=fun _=>s7 "need_box" "Case.need_box" (inClass (top 39) 2) "lidprice.cases" 616 379
def aB0:OO:=fun _=>sG "self" 663 "box" 664
def Zo:OO:=fun _=>s5 "stand" "Case.stand" (inClass (top 39) 3)
def S7:OO:=fun _=>s6 "stand" 660 "Case.stand" 661 662 191 2 381 382 383 384 385 665 666
def V2:OO:=fun _=>s7 "stand" "Case.stand" (inClass (top 39) 3) "lidprice.cases" 616 386
def Zk:OO:=fun _=>sG "self" 671 "box" 672
def aBR:OO:=fun _=>s5 "cap" "Case.cap" (inClass (top 39) 4)
def YD:OO:=fun _=>s6 "cap" 668 "Case.cap" 669 670 195 2 388 389 390 391 392 673 674
def WQ:OO:=fun _=>s7 "cap" "Case.cap" (inClass (top 39) 4) "lidprice.cases" 616 393
def aAR:OO:=fun _=>s5 "kept" "Case.kept" (inClass (top 39) 5)
def Vd:OO:=fun _=>wL "kept" 676 "Case.kept" 677 678 199 1 395 396 397 679 680
def Vy:OO:=fun _=>s7 "kept" "Case.kept" (inClass (top 39) 5) "lidprice.cases" 616 398
def aDX:OO:=fun _=>s4 "self" 685
def aCY:OO:=fun _=>s5 "paid" "Case.paid" (inClass (top 39) 6)
def Ul:OO:=fun _=>s6 "paid" 682 "Case.paid" 683 684 202 1 400 401 402 403 404 686 687
def Wl:OO:=fun _=>s7 "paid" "Case.paid" (inClass (top 39) 6) "lidprice.cases" 616 405
def aBy:OO:=fun _=>s4 "self" 692
def aCe:OO:=fun _=>s5 "had" "Case.had" (inClass (top 39) 7)
def Yp:OO:=fun _=>s6 "had" 689 "Case.had" 690 691 205 1 407 408 409 410 411 693 694
def TJ:OO:=fun _=>s7 "had" "Case.had" (inClass (top 39) 7) "lidprice.cases" 616 412
def aDq:OO:=fun _=>s4 "self" 699
def aA1:OO:=fun _=>s5 "deeds" "Case.deeds" (inClass (top 39) 8)
def Yg:OO:=fun _=>s6 "deeds" 696 "Case.deeds" 697 698 208 1 414 415 416 417 418 700 701
def ZD:OO:=fun _=>s7 "deeds" "Case.deeds" (inClass (top 39) 8) "lidprice.cases" 616 419
def aCm:OO:=fun _=>Ro "self" 706 "box" 707 "table" 708 "cap" 709
def aBk:OO:=fun _=>s5 "caps" "Case.caps" (inClass (top 39) 9)
def Wh:OO:=fun _=>s6 "caps" 703 "Case.caps" 704 705 211 2 421 422 423 424 425 710 711
def Vj:OO:=fun _=>s7 "caps" "Case.caps" (inClass (top 39) 9) "lidprice.cases" 616 426
def aAe:OO:=fun _=>sG "self" 716 "box" 717
def aBs:OO:=fun _=>s5 "debt" "Case.debt" (inClass (top 39) 10)
def Ue:OO:=fun _=>s6 "debt" 713 "Case.debt" 714 715 216 2 428 429 430 431 432 718 719
def YK:OO:=fun _=>s7 "debt" "Case.debt" (inClass (top 39) 10) "lidprice.cases" 616 433
def aBz:OO:=fun _=>s4 "self" 724
def aAw:OO:=fun _=>s5 "left" "Case.left" (inClass (top 39) 11)
def W2:OO:=fun _=>s6 "left" 721 "Case.left" 722 723 219 1 435 436 437 438 439 725 726
def W4:OO:=fun _=>s7 "left" "Case.left" (inClass (top 39) 11) "lidprice.cases" 616 440
def aAS:OO:=fun _=>JC "self" 731 "deed" 732 "case" 733
def aDD:OO:=fun _=>s5 "behind" "Case.behind" (inClass (top 39) 12)
def Wz:OO:=fun _=>s6 "behind" 728 "Case.behind" 729 730 222 2 442 443 444 445 446 734 735
def Ym:OO:=fun _=>s7 "behind" "Case.behind" (inClass (top 39) 12) "lidprice.cases" 616 447
def aC8:OO:=fun _=>⟨(.type "tuple"),none,(.seq #[(.str "self" 740),(.str "box" 741),(.str "row" 742),(.str "stage" 743),(.str "cap" 744),(.str "lower" 745),(.str "case" 746)] 0),#[]⟩
def aB5:OO:=fun _=>s5 "opened" "Case.opened" (inClass (top 39) 13)
def YZ:OO:=fun _=>s6 "opened" 737 "Case.opened" 738 739 230 3 449 450 451 452 453 747 748
def Sh:OO:=fun _=>s7 "opened" "Case.opened" (inClass (top 39) 13) "lidprice.cases" 616 454
def aDG:OO:=fun _=>JC "self" 753 "box" 754 "case" 755
def aDM:OO:=fun _=>s5 "taken" "Case.taken" (inClass (top 39) 14)
def Xx:OO:=fun _=>s6 "taken" 750 "Case.taken" 751 752 242 2 456 457 458 459 460 756 757
def Yj:OO:=fun _=>s7 "taken" "Case.taken" (inClass (top 39) 14) "lidprice.cases" 616 461
def aC5:OO:=fun _=>ZZ "done" 759 "held" 760 "lowest" 761 "present" 762 "spent" 763
def Wk:OO:=fun P=>⟨(.type "dict"),none,(.dict #[E P "__module__" 634 (.str "lidprice.cases" 616),E P "__firstlineno__" 638 (.int 174 637),E P "__init__" 644 (.ref 366),E P "how_many" 651 (.ref 373),E P "need_box" 659 (.ref 380),E P "stand" 667 (.ref 387),E P "cap" 675 (.ref 394),E P "kept" 681 (.ref 399),E P "paid" 688 (.ref 406),E P "had" 695 (.ref 413),E P "deeds" 702 (.ref 420),E P "caps" 712 (.ref 427),E P "debt" 720 (.ref 434),E P "left" 727 (.ref 441),E P "behind" 736 (.ref 448),E P "opened" 749 (.ref 455),E P "taken" 758 (.ref 462),E P "__static_attributes__" 764 (.ref 463),E P "__dict__" 766 (.ref 466),E P "__weakref__" 768 (.ref 467),E P "__doc__" 769 .none] 4),#[]⟩
def Rq:OO:=fun _=>⟨(.type "type"),none,(.cls ⟨"Case",[(.type "object")],[(.ref 465),(.type "object")],464,"Case",true,[],[],false,none,false⟩),#[none,none,(some (.str "Case" 627)),(some (.str "Case" 635)),(some (.builtin "object.__new__")),(some (.bool true))]⟩
def Uc:OO:=fun _=>⟨(.type "getset_descriptor"),none,(.fields #[(.str "__dict__" 765),(.ref 465),(.builtin "function.__dict__"),(.builtin "function.__dict__#set")]),#[]⟩
def Ub:OO:=fun _=>Rc 767 465
def aBD:OO:=fun _=>Ie 465
def Zi:OO:=fun _=>mC 465
def aAu:OO:=fun _=>sG "kept" 779 "box" 780
def aCz:OO:=fun _=>s5 "has_box" "has_box" (top 42)
def XS:OO:=fun _=>s6 "has_box" 776 "has_box" 777 778 250 2 470 471 472 473 474 781 782
def W9:OO:=fun _=>s7 "has_box" "has_box" (top 42) "lidprice.patterns" 772 475
def aCf:OO:=fun _=>s5 "boxes_of" "boxes_of" (top 43)
def U7:OO:=fun _=>wL "boxes_of" 784 "boxes_of" 785 786 252 1 477 478 479 787 788
def Tj:OO:=fun _=>s7 "boxes_of" "boxes_of" (top 43) "lidprice.patterns" 772 480
def aCL:OO:=fun _=>s4 "kept" 793
def aDh:OO:=fun _=>s5 "size_of" "size_of" (top 44)
def Ww:OO:=fun _=>s6 "size_of" 790 "size_of" 791 792 254 1 482 483 484 485 486 794 795
def Su:OO:=fun _=>s7 "size_of" "size_of" (top 44) "lidprice.patterns" 772 487
def aAo:OO:=fun _=>sG "kept" 800 "box" 801
def aCu:OO:=fun _=>s5 "with_box" "with_box" (top 45)
def Wr:OO:=fun _=>s6 "with_box" 797 "with_box" 798 799 256 2 489 490 491 492 493 802 803
def Yu:OO:=fun _=>s7 "with_box" "with_box" (top 45) "lidprice.patterns" 772 494
def Z9:OO:=fun _=>s5 "set_of" "set_of" (top 46)
def Ur:OO:=fun _=>wL "set_of" 805 "set_of" 806 807 258 1 496 497 498 808 809
def Ti:OO:=fun _=>s7 "set_of" "set_of" (top 46) "lidprice.patterns" 772 499
def aC9:OO:=fun _=>s5 "is_numbers" "is_numbers" (top 47)
def Ys:OO:=fun _=>wL "is_numbers" 811 "is_numbers" 812 813 260 4 501 502 503 814 815
def YH:OO:=fun _=>s7 "is_numbers" "is_numbers" (top 47) "lidprice.patterns" 772 504
def aAW:OO:=fun P=>s9 P 824 "lidprice.patterns" 772 826 "Pattern" 825 828 264 827 829 513
def Zg:OO:=fun _=>s2 "Pattern" 819 820 821 264 509 510 822 823
def aC2:OO:=fun _=>s3 511 508 "lidprice.patterns" 772
def Xb:OO:=fun P=>⟨(.type "dict"),none,(.dict #[E P "__module__" 824 (.str "lidprice.patterns" 772),E P "__firstlineno__" 828 (.int 264 827),E P "__static_attributes__" 829 (.ref 513),E P "__dict__" 831 (.ref 516),E P "__weakref__" 833 (.ref 517),E P "__doc__" 834 .none] 4),#[]⟩
def aCC:OO:=fun _=>⟨(.type "type"),none,(.cls ⟨"Pattern",[(.type "object")],[(.ref 515),(.type "object")],514,"Pattern",true,[],[(.ref 550)],false,none,false⟩),#[none,none,(some (.str "Pattern" 817)),(some (.str "Pattern" 825)),(some (.builtin "object.__new__")),(some (.bool true))]⟩
def Uu:OO:=fun _=>⟨(.type "getset_descriptor"),none,(.fields #[(.str "__dict__" 830),(.ref 515),(.builtin "function.__dict__"),(.builtin "function.__dict__#set")]),#[]⟩
def Wg:OO:=fun _=>Rc 832 515
def aBO:OO:=fun _=>Ie 515
def aDL:OO:=fun _=>mC 515
def aAY:OO:=fun _=>BJ 515
def aDt:OO:=fun P=>⟨(.type "dict"),none,(.dict #[E P "__module__" 844 (.str "lidprice.patterns" 772),E P "__qualname__" 846 (.str "Few" 845),E P "__firstlineno__" 848 (.int 266 847),E P "__init__" 856 (.ref 533),E P "may" 864 (.ref 540),E P "told" 871 (.ref 547),E P "__static_attributes__" 873 (.ref 548)] 7),#[]⟩
def aCn:OO:=fun _=>⟨.none,none,(.fields #[(.int 268 0),(.int 4 0),(.ref 532),(.int 273 0),(.int 4 0),(.ref 539),(.int 276 0),(.int 4 0),(.ref 546)]),#[]⟩
def Zf:OO:=fun _=>s2 "Few" 839 840 841 266 523 524 842 843
def aCF:OO:=fun _=>s3 525 522 "lidprice.patterns" 772
def aCo:OO:=fun _=>sG "self" 852 "count" 853
def aDo:OO:=fun _=>s5 "__init__" "Few.__init__" (inClass (top 49) 0)
def WX:OO:=fun _=>s6 "__init__" 849 "Few.__init__" 850 851 268 2 527 528 529 530 531 854 855
def Sy:OO:=fun _=>s7 "__init__" "Few.__init__" (inClass (top 49) 0) "lidprice.patterns" 772 532
def aD2:OO:=fun _=>sG "self" 860 "kept" 861
def aC6:OO:=fun _=>s5 "may" "Few.may" (inClass (top 49) 1)
def XC:OO:=fun _=>s6 "may" 857 "Few.may" 858 859 273 2 534 535 536 537 538 862 863
def Vb:OO:=fun _=>s7 "may" "Few.may" (inClass (top 49) 1) "lidprice.patterns" 772 539
def aCW:OO:=fun _=>s4 "self" 868
def aCI:OO:=fun _=>s5 "told" "Few.told" (inClass (top 49) 2)
def Vv:OO:=fun _=>s6 "told" 865 "Few.told" 866 867 276 1 541 542 543 544 545 869 870
def S6:OO:=fun _=>s7 "told" "Few.told" (inClass (top 49) 2) "lidprice.patterns" 772 546
def aA7:OO:=fun _=>s4 "limit" 872
def S8:OO:=fun P=>⟨(.type "dict"),none,(.dict #[E P "__module__" 844 (.str "lidprice.patterns" 772),E P "__firstlineno__" 848 (.int 266 847),E P "__init__" 856 (.ref 533),E P "may" 864 (.ref 540),E P "told" 871 (.ref 547),E P "__static_attributes__" 873 (.ref 548),E P "__doc__" 874 .none] 2),#[]⟩
def Uy:OO:=fun _=>Wq "Few" 515 550 549 520 837 845
def aCt:OO:=fun _=>Ie 550
def aAd:OO:=fun _=>mC 550
def aD0:OO:=fun P=>⟨(.type "dict"),none,(.dict #[E P "__name__" 165 (.str "law_lidprice_k54_the_deed_by_prices" 1053),E P "__doc__" 166 .none,E P "__package__" 167 .none,E P "__loader__" 168 (.builtin "__main__.__loader__#opaque"),E P "__spec__" 169 .none,E P "__annotations__" 170 (.ref 6),E P "__builtins__" 171 (.ref 4),E P "__file__" 173 (.str "/claim/cut.py" 172),E P "__cached__" 174 .none,E P "_wall" 193 (.ref 21),E P "LidError" 213 (.ref 31),E P "NoBox" 229 (.ref 44),E P "NoDeed" 245 (.ref 56),E P "NoSets" 261 (.ref 68),E P "NoPattern" 288 (.ref 87),E P "is_whole" 299 (.ref 96),E P "common_divisor" 308 (.ref 103),E P "common_multiple" 317 (.ref 110),E P "share" 326 (.ref 117),E P "whole" 333 (.ref 124),E P "below" 341 (.ref 131),E P "lesser" 349 (.ref 138),E P "MOST_WORTH" 353 (.int 1000000000 352),E P "MOST_WEIGHT" 355 (.int 1000 354),E P "rising" 361 (.ref 143),E P "in_form" 367 (.ref 148),E P "all_weights" 373 (.ref 153),E P "capped" 379 (.ref 158),E P "mixed" 385 (.ref 163),E P "level_for" 391 (.ref 168),E P "MOST_PRICE" 395 (.int 1000000000 394),E P "MOST_STAGE_ROWS" 397 (.int 4 396),E P "MOST_STAGES" 399 (.int 4 398),E P "MOST_ENDS" 401 (.int 12 400),E P "MOST_BOXES" 403 (.int 6 402),E P "Stand" 466 (.ref 213),E P "End" 520 (.ref 262),E P "Stage" 589 (.ref 321),E P "is_stand" 596 (.ref 330),E P "is_stage_row" 603 (.ref 337),E P "is_stage_rows" 609 (.ref 342),E P "need_boxes" 615 (.ref 347),E P "with_thing" 626 (.ref 354),E P "Case" 771 (.ref 465),E P "MOST_SETS" 775 (.int 64 774),E P "has_box" 783 (.ref 476),E P "boxes_of" 789 (.ref 481),E P "size_of" 796 (.ref 488),E P "with_box" 804 (.ref 495),E P "set_of" 810 (.ref 500),E P "is_numbers" 816 (.ref 505),E P "Pattern" 836 (.ref 515),E P "Few" 876 (.ref 550),E P "Groups" 916 (.ref 581),E P "Listed" 956 (.ref 614),E P "is_pattern" 963 (.ref 623),E P "less_flaw" 973 (.ref 630),E P "can_grow" 979 (.ref 635),E P "sets_by_size" 985 (.ref 640),E P "more_flaw" 996 (.ref 647),E P "flaw" 1002 (.ref 652),E P "need_pattern" 1011 (.ref 659),E P "may_keep" 1023 (.ref 666),E P "dearest" 1035 (.ref 673),E P "deed_in" 1044 (.ref 680),E P "deed" 1052 (.ref 687),E P "_law_cell_at" 1062 (.ref 694),E P "_law_mixed" 1071 (.ref 701),E P "_law_plain" 1079 (.ref 708),E P "_law_same" 1087 (.ref 715),E P "_law_low" 1097 (.ref 722),E P "_law_plus" 1105 (.ref 729),E P "_law_times" 1113 (.ref 736),E P "_law_less" 1121 (.ref 743)] 74),#[]⟩
def Wd:OO:=fun _=>⟨.none,none,(.fields #[(.int 1 0),(.int 0 0),(.ref 20),(.int 5 0),(.int 0 0),(.ref 27),(.int 7 0),(.int 0 0),(.ref 40),(.int 9 0),(.int 0 0),(.ref 52),(.int 11 0),(.int 0 0),(.ref 64),(.int 13 0),(.int 0 0),(.ref 76),(.int 19 0),(.int 0 0),(.ref 95),(.int 21 0),(.int 0 0),(.ref 102),(.int 27 0),(.int 0 0),(.ref 109),(.int 32 0),(.int 0 0),(.ref 116),(.int 37 0),(.int 0 0),(.ref 123),(.int 39 0),(.int 0 0),(.ref 130),(.int 41 0),(.int 0 0),(.ref 137),(.int 46 0),(.int 0 0),(.ref 142),(.int 50 0),(.int 0 0),(.ref 147),(.int 58 0),(.int 0 0),(.ref 152),(.int 60 0),(.int 0 0),(.ref 157),(.int 62 0),(.int 0 0),(.ref 162),(.int 69 0),(.int 0 0),(.ref 167),(.int 86 0),(.int 0 0),(.ref 174),(.int 105 0),(.int 0 0),(.ref 223),(.int 124 0),(.int 0 0),(.ref 270),(.int 156 0),(.int 0 0),(.ref 329),(.int 158 0),(.int 0 0),(.ref 336),(.int 162 0),(.int 0 0),(.ref 341),(.int 166 0),(.int 0 0),(.ref 346),(.int 172 0),(.int 0 0),(.ref 353),(.int 174 0),(.int 0 0),(.ref 360),(.int 250 0),(.int 0 0),(.ref 475),(.int 252 0),(.int 0 0),(.ref 480),(.int 254 0),(.int 0 0),(.ref 487),(.int 256 0),(.int 0 0),(.ref 494),(.int 258 0),(.int 0 0),(.ref 499),(.int 260 0),(.int 0 0),(.ref 504),(.int 264 0),(.int 0 0),(.ref 511),(.int 266 0),(.int 0 0),(.ref 525),(.int 278 0),(.int 0 0),(.ref 558),(.int 297 0),(.int 0 0),(.ref 589),(.int 309 0),(.int 0 0),(.ref 622),(.int 311 0),(.int 0 0),(.ref 629),(.int 318 0),(.int 0 0),(.ref 634),(.int 320 0),(.int 0 0),(.ref 639),(.int 326 0),(.int 0 0),(.ref 646),(.int 334 0),(.int 0 0),(.ref 651),(.int 340 0),(.int 0 0),(.ref 658),(.int 347 0),(.int 0 0),(.ref 665),(.int 351 0),(.int 0 0),(.ref 672),(.int 358 0),(.int 0 0),(.ref 679),(.int 363 0),(.int 0 0),(.ref 686),(.int 367 0),(.int 0 0),(.ref 693),(.int 371 0),(.int 0 0),(.ref 700),(.int 375 0),(.int 0 0),(.ref 707),(.int 384 0),(.int 0 0),(.ref 714),(.int 386 0),(.int 0 0),(.ref 721),(.int 392 0),(.int 0 0),(.ref 728),(.int 394 0),(.int 0 0),(.ref 735),(.int 396 0),(.int 0 0),(.ref 742)]),#[]⟩
def Je:OO:=fun _=>⟨(.type "type"),none,(.cls ⟨"Pattern",[(.type "object")],[(.ref 515),(.type "object")],514,"Pattern",true,[],[(.ref 550),(.ref 581),(.ref 614)],false,none,false⟩),#[none,none,(some (.str "Pattern" 817)),(some (.str "Pattern" 825)),(some (.builtin "object.__new__")),(some (.bool true))]⟩
def aBQ:OO:=fun _=>BJ 515
def aA6:OO:=fun P=>⟨(.type "dict"),none,(.dict #[E P "__module__" 884 (.str "lidprice.patterns" 772),E P "__qualname__" 886 (.str "Groups" 885),E P "__firstlineno__" 888 (.int 278 887),E P "__init__" 897 (.ref 566),E P "may" 903 (.ref 571),E P "told" 910 (.ref 578),E P "__static_attributes__" 913 (.ref 579)] 7),#[]⟩
def aBo:OO:=fun _=>⟨.none,none,(.fields #[(.int 280 0),(.int 4 0),(.ref 565),(.int 288 0),(.int 4 0),(.ref 570),(.int 295 0),(.int 4 0),(.ref 577)]),#[]⟩
def aCh:OO:=fun _=>s2 "Groups" 879 880 881 278 556 557 882 883
def aDv:OO:=fun _=>s3 558 555 "lidprice.patterns" 772
def aDU:OO:=fun _=>JC "self" 892 "groups" 893 "most" 894
def Z5:OO:=fun _=>s5 "__init__" "Groups.__init__" (inClass (top 50) 0)
def We:OO:=fun _=>s6 "__init__" 889 "Groups.__init__" 890 891 280 3 560 561 562 563 564 895 896
def Y7:OO:=fun _=>s7 "__init__" "Groups.__init__" (inClass (top 50) 0) "lidprice.patterns" 772 565
def aAk:OO:=fun _=>s5 "may" "Groups.may" (inClass (top 50) 1)
def W6:OO:=fun _=>wL "may" 898 "Groups.may" 899 900 288 2 567 568 569 901 902
def Vf:OO:=fun _=>s7 "may" "Groups.may" (inClass (top 50) 1) "lidprice.patterns" 772 570
def aBY:OO:=fun _=>s4 "self" 907
def aCJ:OO:=fun _=>s5 "told" "Groups.told" (inClass (top 50) 2)
def WF:OO:=fun _=>s6 "told" 904 "Groups.told" 905 906 295 1 572 573 574 575 576 908 909
def ZK:OO:=fun _=>s7 "told" "Groups.told" (inClass (top 50) 2) "lidprice.patterns" 772 577
def aAh:OO:=fun _=>sG "groups" 911 "most" 912
def Wc:OO:=fun P=>⟨(.type "dict"),none,(.dict #[E P "__module__" 884 (.str "lidprice.patterns" 772),E P "__firstlineno__" 888 (.int 278 887),E P "__init__" 897 (.ref 566),E P "may" 903 (.ref 571),E P "told" 910 (.ref 578),E P "__static_attributes__" 913 (.ref 579),E P "__doc__" 914 .none] 2),#[]⟩
def ZL:OO:=fun _=>Wq "Groups" 515 581 580 553 877 885
def aDN:OO:=fun _=>Ie 581
def aBj:OO:=fun _=>mC 581
def aCM:OO:=fun _=>BJ 515
def aCj:OO:=fun P=>⟨(.type "dict"),none,(.dict #[E P "__module__" 924 (.str "lidprice.patterns" 772),E P "__qualname__" 926 (.str "Listed" 925),E P "__firstlineno__" 928 (.int 297 927),E P "__init__" 936 (.ref 597),E P "may" 944 (.ref 604),E P "told" 951 (.ref 611),E P "__static_attributes__" 953 (.ref 612)] 7),#[]⟩
def aBJ:OO:=fun _=>⟨.none,none,(.fields #[(.int 299 0),(.int 4 0),(.ref 596),(.int 304 0),(.int 4 0),(.ref 603),(.int 307 0),(.int 4 0),(.ref 610)]),#[]⟩
def aDm:OO:=fun _=>s2 "Listed" 919 920 921 297 587 588 922 923
def aCl:OO:=fun _=>s3 589 586 "lidprice.patterns" 772
def aB7:OO:=fun _=>sG "self" 932 "sets" 933
def aBG:OO:=fun _=>s5 "__init__" "Listed.__init__" (inClass (top 51) 0)
def Xv:OO:=fun _=>s6 "__init__" 929 "Listed.__init__" 930 931 299 2 591 592 593 594 595 934 935
def Sq:OO:=fun _=>s7 "__init__" "Listed.__init__" (inClass (top 51) 0) "lidprice.patterns" 772 596
def aDE:OO:=fun _=>sG "self" 940 "kept" 941
def aCp:OO:=fun _=>s5 "may" "Listed.may" (inClass (top 51) 1)
def Uq:OO:=fun _=>s6 "may" 937 "Listed.may" 938 939 304 2 598 599 600 601 602 942 943
def V8:OO:=fun _=>s7 "may" "Listed.may" (inClass (top 51) 1) "lidprice.patterns" 772 603
def aAr:OO:=fun _=>s4 "self" 948
def Zt:OO:=fun _=>s5 "told" "Listed.told" (inClass (top 51) 2)
def Te:OO:=fun _=>s6 "told" 945 "Listed.told" 946 947 307 1 605 606 607 608 609 949 950
def Tz:OO:=fun _=>s7 "told" "Listed.told" (inClass (top 51) 2) "lidprice.patterns" 772 610
def aCA:OO:=fun _=>s4 "sets" 952
def S5:OO:=fun P=>⟨(.type "dict"),none,(.dict #[E P "__module__" 924 (.str "lidprice.patterns" 772),E P "__firstlineno__" 928 (.int 297 927),E P "__init__" 936 (.ref 597),E P "may" 944 (.ref 604),E P "told" 951 (.ref 611),E P "__static_attributes__" 953 (.ref 612),E P "__doc__" 954 .none] 2),#[]⟩
def Yk:OO:=fun _=>Wq "Listed" 515 614 613 584 917 925
def aBH:OO:=fun _=>Ie 614
def aAP:OO:=fun _=>mC 614
def aBx:OO:=fun _=>s4 "thing" 960
def aBP:OO:=fun _=>s5 "is_pattern" "is_pattern" (top 52)
def ZP:OO:=fun _=>s6 "is_pattern" 957 "is_pattern" 958 959 309 1 617 618 619 620 621 961 962
def Yn:OO:=fun _=>s7 "is_pattern" "is_pattern" (top 52) "lidprice.patterns" 772 622
def aD3:OO:=fun _=>Ro "lets" 967 "one" 968 "box" 969 "other" 970
def aBL:OO:=fun _=>s5 "less_flaw" "less_flaw" (top 53)
def Xr:OO:=fun _=>s6 "less_flaw" 964 "less_flaw" 965 966 311 1 624 625 626 627 628 971 972
def Wv:OO:=fun _=>s7 "less_flaw" "less_flaw" (top 53) "lidprice.patterns" 772 629
def aBZ:OO:=fun _=>s5 "can_grow" "can_grow" (top 54)
def YQ:OO:=fun _=>wL "can_grow" 974 "can_grow" 975 976 318 3 631 632 633 977 978
def Vt:OO:=fun _=>s7 "can_grow" "can_grow" (top 54) "lidprice.patterns" 772 634
def aCH:OO:=fun _=>s5 "sets_by_size" "sets_by_size" (top 55)
def Ug:OO:=fun _=>wL "sets_by_size" 980 "sets_by_size" 981 982 320 1 636 637 638 983 984
def Uk:OO:=fun _=>s7 "sets_by_size" "sets_by_size" (top 55) "lidprice.patterns" 772 639
def aDV:OO:=fun _=>ZZ "lets" 989 "by_size" 990 "size" 991 "other" 992 "one" 993
def aBB:OO:=fun _=>s5 "more_flaw" "more_flaw" (top 56)
def Wx:OO:=fun _=>s6 "more_flaw" 986 "more_flaw" 987 988 326 1 641 642 643 644 645 994 995
def Yl:OO:=fun _=>s7 "more_flaw" "more_flaw" (top 56) "lidprice.patterns" 772 646
def Zx:OO:=fun _=>s5 "flaw" "flaw" (top 57)
def X5:OO:=fun _=>wL "flaw" 997 "flaw" 998 999 334 2 648 649 650 1000 1001
def Yc:OO:=fun _=>s7 "flaw" "flaw" (top 57) "lidprice.patterns" 772 651
def aCU:OO:=fun _=>JC "pattern" 1006 "many" 1007 "found" 1008
def aDs:OO:=fun _=>s5 "need_pattern" "need_pattern" (top 58)
def W5:OO:=fun _=>s6 "need_pattern" 1003 "need_pattern" 1004 1005 340 2 653 654 655 656 657 1009 1010
def Uj:OO:=fun _=>s7 "need_pattern" "need_pattern" (top 58) "lidprice.patterns" 772 658
def Zd:OO:=fun _=>Ro "pattern" 1017 "case" 1018 "box" 1019 "kept" 1020
def aAA:OO:=fun _=>s5 "may_keep" "may_keep" (top 60)
def Tv:OO:=fun _=>s6 "may_keep" 1014 "may_keep" 1015 1016 347 3 660 661 662 663 664 1021 1022
def ZJ:OO:=fun _=>s7 "may_keep" "may_keep" (top 60) "lidprice.plans" 1012 665
def aAK:OO:=fun _=>Ro "pattern" 1029 "case" 1030 "first" 1031 "box" 1032
def aDa:OO:=fun _=>s5 "dearest" "dearest" (top 62)
def TX:OO:=fun _=>s6 "dearest" 1026 "dearest" 1027 1028 351 2 667 668 669 670 671 1033 1034
def X6:OO:=fun _=>s7 "dearest" "dearest" (top 62) "lidprice.best" 1024 672
def aAz:OO:=fun _=>JC "pattern" 1039 "case" 1040 "box" 1041
def aCb:OO:=fun _=>s5 "deed_in" "deed_in" (top 63)
def VL:OO:=fun _=>s6 "deed_in" 1036 "deed_in" 1037 1038 358 2 674 675 676 677 678 1042 1043
def V6:OO:=fun _=>s7 "deed_in" "deed_in" (top 63) "lidprice.best" 1024 679
def aCr:OO:=fun _=>sG "pattern" 1048 "case" 1049
def aDj:OO:=fun _=>s5 "deed" "deed" (top 64)
def Sw:OO:=fun _=>s6 "deed" 1045 "deed" 1046 1047 363 2 681 682 683 684 685 1050 1051
def Vl:OO:=fun _=>s7 "deed" "deed" (top 64) "lidprice.best" 1024 686
def aBb:OO:=fun _=>sG "_law_script" 1058 "_law_k" 1059
def aDR:OO:=fun _=>s5 "_law_cell_at" "_law_cell_at" (top 66)
def Wy:OO:=fun _=>s6 "_law_cell_at" 1055 "_law_cell_at" 1056 1057 367 2 688 689 690 691 692 1060 1061
def Wb:OO:=fun _=>s7 "_law_cell_at" "_law_cell_at" (top 66) "law_lidprice_k54_the_deed_by_prices" 1053 693
def Z7:OO:=fun _=>JC "_law_cell" 1066 "_law_k" 1067 "_law_number" 1068
def aCx:OO:=fun _=>s5 "_law_mixed" "_law_mixed" (top 67)
def Wo:OO:=fun _=>s6 "_law_mixed" 1063 "_law_mixed" 1064 1065 371 2 695 696 697 698 699 1069 1070
def ZF:OO:=fun _=>s7 "_law_mixed" "_law_mixed" (top 67) "law_lidprice_k54_the_deed_by_prices" 1053 700
def aAQ:OO:=fun _=>sG "_law_thing" 1075 "_law_part" 1076
def aBT:OO:=fun _=>s5 "_law_plain" "_law_plain" (top 68)
def WM:OO:=fun _=>s6 "_law_plain" 1072 "_law_plain" 1073 1074 375 1 702 703 704 705 706 1077 1078
def WK:OO:=fun _=>s7 "_law_plain" "_law_plain" (top 68) "law_lidprice_k54_the_deed_by_prices" 1053 707
def aA4:OO:=fun _=>sG "_law_found" 1083 "_law_due_here" 1084
def aAE:OO:=fun _=>s5 "_law_same" "_law_same" (top 69)
def X7:OO:=fun _=>s6 "_law_same" 1080 "_law_same" 1081 1082 384 2 709 710 711 712 713 1085 1086
def SN:OO:=fun _=>s7 "_law_same" "_law_same" (top 69) "law_lidprice_k54_the_deed_by_prices" 1053 714
def aC3:OO:=fun _=>Ro "_law_top" 1091 "_law_bottom" 1092 "_law_one" 1093 "_law_other" 1094
def aAZ:OO:=fun _=>s5 "_law_low" "_law_low" (top 70)
def aBa:OO:=fun _=>s6 "_law_low" 1088 "_law_low" 1089 1090 386 2 716 717 718 719 720 1095 1096
def aDd:OO:=fun _=>s7 "_law_low" "_law_low" (top 70) "law_lidprice_k54_the_deed_by_prices" 1053 721
def aDO:OO:=fun _=>sG "_law_one" 1101 "_law_other" 1102
def aBq:OO:=fun _=>s5 "_law_plus" "_law_plus" (top 71)
def aD1:OO:=fun _=>s6 "_law_plus" 1098 "_law_plus" 1099 1100 392 2 723 724 725 726 727 1103 1104
def aDn:OO:=fun _=>s7 "_law_plus" "_law_plus" (top 71) "law_lidprice_k54_the_deed_by_prices" 1053 728
def aC4:OO:=fun _=>sG "_law_one" 1109 "_law_other" 1110
def aBX:OO:=fun _=>s5 "_law_times" "_law_times" (top 72)
def aBh:OO:=fun _=>s6 "_law_times" 1106 "_law_times" 1107 1108 394 2 730 731 732 733 734 1111 1112
def aCV:OO:=fun _=>s7 "_law_times" "_law_times" (top 72) "law_lidprice_k54_the_deed_by_prices" 1053 735
def aAc:OO:=fun _=>sG "_law_one" 1117 "_law_other" 1118
def aBM:OO:=fun _=>s5 "_law_less" "_law_less" (top 73)
def Uv:OO:=fun _=>s6 "_law_less" 1114 "_law_less" 1115 1116 396 2 737 738 739 740 741 1119 1120
def U4:OO:=fun _=>s7 "_law_less" "_law_less" (top 73) "law_lidprice_k54_the_deed_by_prices" 1053 742
def Ru:OO:=fun P=>⟨(.type "dict"),none,(.dict #[E P "__name__" 165 (.str "law_lidprice_k54_the_deed_by_prices" 1053),E P "__doc__" 166 .none,E P "__package__" 167 .none,E P "__loader__" 168 (.builtin "__main__.__loader__#opaque"),E P "__spec__" 169 .none,E P "__annotations__" 170 (.ref 6),E P "__builtins__" 171 (.ref 4),E P "__file__" 173 (.str "/claim/cut.py" 172),E P "__cached__" 174 .none,E P "_wall" 193 (.ref 21),E P "LidError" 213 (.ref 31),E P "NoBox" 229 (.ref 44),E P "NoDeed" 245 (.ref 56),E P "NoSets" 261 (.ref 68),E P "NoPattern" 288 (.ref 87),E P "is_whole" 299 (.ref 96),E P "common_divisor" 308 (.ref 103),E P "common_multiple" 317 (.ref 110),E P "share" 326 (.ref 117),E P "whole" 333 (.ref 124),E P "below" 341 (.ref 131),E P "lesser" 349 (.ref 138),E P "MOST_WORTH" 353 (.int 1000000000 352),E P "MOST_WEIGHT" 355 (.int 1000 354),E P "rising" 361 (.ref 143),E P "in_form" 367 (.ref 148),E P "all_weights" 373 (.ref 153),E P "capped" 379 (.ref 158),E P "mixed" 385 (.ref 163),E P "level_for" 391 (.ref 168),E P "MOST_PRICE" 395 (.int 1000000000 394),E P "MOST_STAGE_ROWS" 397 (.int 4 396),E P "MOST_STAGES" 399 (.int 4 398),E P "MOST_ENDS" 401 (.int 12 400),E P "MOST_BOXES" 403 (.int 6 402),E P "Stand" 466 (.ref 213),E P "End" 520 (.ref 262),E P "Stage" 589 (.ref 321),E P "is_stand" 596 (.ref 330),E P "is_stage_row" 603 (.ref 337),E P "is_stage_rows" 609 (.ref 342),E P "need_boxes" 615 (.ref 347),E P "with_thing" 626 (.ref 354),E P "Case" 771 (.ref 465),E P "MOST_SETS" 775 (.int 64 774),E P "has_box" 783 (.ref 476),E P "boxes_of" 789 (.ref 481),E P "size_of" 796 (.ref 488),E P "with_box" 804 (.ref 495),E P "set_of" 810 (.ref 500),E P "is_numbers" 816 (.ref 505),E P "Pattern" 836 (.ref 515),E P "Few" 876 (.ref 550),E P "Groups" 916 (.ref 581),E P "Listed" 956 (.ref 614),E P "is_pattern" 963 (.ref 623),E P "less_flaw" 973 (.ref 630),E P "can_grow" 979 (.ref 635),E P "sets_by_size" 985 (.ref 640),E P "more_flaw" 996 (.ref 647),E P "flaw" 1002 (.ref 652),E P "need_pattern" 1011 (.ref 659),E P "may_keep" 1023 (.ref 666),E P "dearest" 1035 (.ref 673),E P "deed_in" 1044 (.ref 680),E P "deed" 1052 (.ref 687),E P "_law_cell_at" 1062 (.ref 694),E P "_law_mixed" 1071 (.ref 701),E P "_law_plain" 1079 (.ref 708),E P "_law_same" 1087 (.ref 715),E P "_law_low" 1097 (.ref 722),E P "_law_plus" 1105 (.ref 729),E P "_law_times" 1113 (.ref 736),E P "_law_less" 1121 (.ref 743),E P "_law_row" 1132 (.ref 750),E P "_law_box" 1148 (.ref 757),E P "_law_stand" 1154 (.ref 762),E P "_law_pattern" 1160 (.ref 767),E P "_law_done" 1175 (.ref 774),E P "_law_due" 1181 (.ref 779),E P "law" 1187 (.ref 784)] 81),#[]⟩
def X3:OO:=fun _=>⟨.none,none,(.fields #[(.int 1 0),(.int 0 0),(.ref 20),(.int 5 0),(.int 0 0),(.ref 27),(.int 7 0),(.int 0 0),(.ref 40),(.int 9 0),(.int 0 0),(.ref 52),(.int 11 0),(.int 0 0),(.ref 64),(.int 13 0),(.int 0 0),(.ref 76),(.int 19 0),(.int 0 0),(.ref 95),(.int 21 0),(.int 0 0),(.ref 102),(.int 27 0),(.int 0 0),(.ref 109),(.int 32 0),(.int 0 0),(.ref 116),(.int 37 0),(.int 0 0),(.ref 123),(.int 39 0),(.int 0 0),(.ref 130),(.int 41 0),(.int 0 0),(.ref 137),(.int 46 0),(.int 0 0),(.ref 142),(.int 50 0),(.int 0 0),(.ref 147),(.int 58 0),(.int 0 0),(.ref 152),(.int 60 0),(.int 0 0),(.ref 157),(.int 62 0),(.int 0 0),(.ref 162),(.int 69 0),(.int 0 0),(.ref 167),(.int 86 0),(.int 0 0),(.ref 174),(.int 105 0),(.int 0 0),(.ref 223),(.int 124 0),(.int 0 0),(.ref 270),(.int 156 0),(.int 0 0),(.ref 329),(.int 158 0),(.int 0 0),(.ref 336),(.int 162 0),(.int 0 0),(.ref 341),(.int 166 0),(.int 0 0),(.ref 346),(.int 172 0),(.int 0 0),(.ref 353),(.int 174 0),(.int 0 0),(.ref 360),(.int 250 0),(.int 0 0),(.ref 475),(.int 252 0),(.int 0 0),(.ref 480),(.int 254 0),(.int 0 0),(.ref 487),(.int 256 0),(.int 0 0),(.ref 494),(.int 258 0),(.int 0 0),(.ref 499),(.int 260 0),(.int 0 0),(.ref 504),(.int 264 0),(.int 0 0),(.ref 511),(.int 266 0),(.int 0 0),(.ref 525),(.int 278 0),(.int 0 0),(.ref 558),(.int 297 0),(.int 0 0),(.ref 589),(.int 309 0),(.int 0 0),(.ref 622),(.int 311 0),(.int 0 0),(.ref 629),(.int 318 0),(.int 0 0),(.ref 634),(.int 320 0),(.int 0 0),(.ref 639),(.int 326 0),(.int 0 0),(.ref 646),(.int 334 0),(.int 0 0),(.ref 651),(.int 340 0),(.int 0 0),(.ref 658),(.int 347 0),(.int 0 0),(.ref 665),(.int 351 0),(.int 0 0),(.ref 672),(.int 358 0),(.int 0 0),(.ref 679),(.int 363 0),(.int 0 0),(.ref 686),(.int 367 0),(.int 0 0),(.ref 693),(.int 371 0),(.int 0 0),(.ref 700),(.int 375 0),(.int 0 0),(.ref 707),(.int 384 0),(.int 0 0),(.ref 714),(.int 386 0),(.int 0 0),(.ref 721),(.int 392 0),(.int 0 0),(.ref 728),(.int 394 0),(.int 0 0),(.ref 735),(.int 396 0),(.int 0 0),(.ref 742),(.int 398 0),(.int 0 0),(.ref 749),(.int 407 0),(.int 0 0),(.ref 756),(.int 418 0),(.int 0 0),(.ref 761),(.int 422 0),(.int 0 0),(.ref 766),(.int 433 0),(.int 0 0),(.ref 773),(.int 447 0),(.int 0 0),(.ref 778),(.int 457 0),(.int 0 0),(.ref 783)]),#[]⟩
def Zq:OO:=fun _=>ZZ "_law_cell" 1125 "_law_bit" 1126 "_law_many" 1127 "_law_row_here" 1128 "_law_k" 1129
def aDQ:OO:=fun _=>s5 "_law_row" "_law_row" (top 74)
def Sx:OO:=fun _=>s6 "_law_row" 1122 "_law_row" 1123 1124 398 3 744 745 746 747 748 1130 1131
def Up:OO:=fun _=>s7 "_law_row" "_law_row" (top 74) "law_lidprice_k54_the_deed_by_prices" 1053 749
def aAF:OO:=fun _=>⟨(.type "tuple"),none,(.seq #[(.str "_law_row_here" 1136),(.str "_law_deep" 1137),(.str "_law_most" 1138),(.str "_law_scale" 1139),(.str "_law_number" 1140),(.str "_law_many" 1141),(.str "_law_cost" 1142),(.str "_law_rows" 1143),(.str "_law_j" 1144),(.str "_law_weight" 1145)] 0),#[]⟩
def aB1:OO:=fun _=>s5 "_law_box" "_law_box" (top 75)
def V1:OO:=fun _=>s6 "_law_box" 1133 "_law_box" 1134 1135 407 4 751 752 753 754 755 1146 1147
def YB:OO:=fun _=>s7 "_law_box" "_law_box" (top 75) "law_lidprice_k54_the_deed_by_prices" 1053 756
def aDl:OO:=fun _=>s5 "_law_stand" "_law_stand" (top 76)
def Tt:OO:=fun _=>wL "_law_stand" 1149 "_law_stand" 1150 1151 418 1 758 759 760 1152 1153
def Xw:OO:=fun _=>s7 "_law_stand" "_law_stand" (top 76) "law_lidprice_k54_the_deed_by_prices" 1053 761
def aBS:OO:=fun _=>s5 "_law_pattern" "_law_pattern" (top 77)
def Xd:OO:=fun _=>wL "_law_pattern" 1155 "_law_pattern" 1156 1157 422 2 763 764 765 1158 1159
def Tw:OO:=fun _=>s7 "_law_pattern" "_law_pattern" (top 77) "law_lidprice_k54_the_deed_by_prices" 1053 766
def aC1:OO:=fun _=>⟨(.type "tuple"),none,(.seq #[(.str "_law_case" 1164),(.str "_law_stands" 1165),(.str "_law_lows" 1166),(.str "_law_kept" 1167),(.str "_law_cell" 1168),(.str "_law_box_here" 1169),(.str "_law_told" 1170),(.str "_law_here" 1171),(.str "_law_row_here" 1172)] 0),#[]⟩
def Zr:OO:=fun _=>s5 "_law_done" "_law_done" (top 78)
def ZG:OO:=fun _=>s6 "_law_done" 1161 "_law_done" 1162 1163 433 5 768 769 770 771 772 1173 1174
def X4:OO:=fun _=>s7 "_law_done" "_law_done" (top 78) "law_lidprice_k54_the_deed_by_prices" 1053 773
def aDH:OO:=fun _=>s5 "_law_due" "_law_due" (top 79)
def VP:OO:=fun _=>wL "_law_due" 1176 "_law_due" 1177 1178 447 3 775 776 777 1179 1180
def Rx:OO:=fun _=>s7 "_law_due" "_law_due" (top 79) "law_lidprice_k54_the_deed_by_prices" 1053 778
def aBV:OO:=fun _=>s5 "law" "law" (top 80)
def XR:OO:=fun _=>wL "law" 1182 "law" 1183 1184 457 1 780 781 782 1185 1186
def W8:OO:=fun _=>s7 "law" "law" (top 80) "law_lidprice_k54_the_deed_by_prices" 1053 783
def l0 (P:Params):List Obj:=W.boot_o_0 P::W.boot_o_1 P::W.boot_o_2 P::W.boot_o_3 P::W.boot_o_4 P::W.boot_o_5 P::W.boot_o_6 P::W.boot_o_7 P::W.boot_o_8 P::W.boot_o_9 P::W.boot_o_10 P::s0::s1::o13 P::o14 P::[]
def t0 (P:Params):W.BT:=L2.bt 14 (l0 P)
def l1 (P:Params):List Obj:=L2.sets (l0 P) [(3,o3 P),(12,U6 P)]++(s0::s1::o17 P::s0::o19 P::o20 P::o21 P::o22 P::s8::o24 P::s0::s1::o27 P::o28 P::s0::o30 P::o31 P::o32 P::o33 P::o34 P::o35 P::s8::o37 P::s0::s1::o40 P::o41 P::s0::o43 P::o44 P::o45 P::o46 P::o47 P::s8::o49 P::s0::s1::o52 P::o53 P::s0::o55 P::o56 P::o57 P::o58 P::o59 P::s8::o61 P::s0::s1::o64 P::o65 P::s0::o67 P::o68 P::o69 P::o70 P::o71 P::s8::o73 P::s0::o75 P::o76 P::o77 P::s0::s1::o80 P::s0::o82 P::o83 P::o84 P::o85 P::o86 P::o87 P::o88 P::o89 P::s0::s1::o92 P::s0::o94 P::o95 P::o96 P::s0::s1::o99 P::s0::aBU P::Xj P::Vu P::s0::s1::aCD P::s0::Zy P::YM P::Tc P::[])
def t1 (P:Params):W.BT:=L2.bt 14 (l1 P)
def l2 (P:Params):List Obj:=L2.sets (l1 P) [(3,aA9 P),(12,Y5 P)]++(s0::s1::aCP P::s0::aDK P::Tg P::Vq P::s0::s1::Zz P::s0::aDF P::ZM P::UW P::s0::s1::aAm P::s0::aAL P::Ws P::Xm P::s0::s1::aAM P::s0::aAp P::V9 P::W3 P::s0::s1::aDB P::Ry P::Wi P::s0::s1::aBv P::VJ P::WL P::s0::s1::aAX P::Wj P::Ss P::s0::s1::aBK P::XF P::V7 P::s0::s1::aB2 P::Y0 P::Us P::s0::s1::aBl P::Vs P::Xf P::s0::s8::aCE P::s0::aDS P::aB4 P::aCq P::s0::s1::aB9 P::s0::aCc P::WP P::Xg P::s0::s1::aDc P::s0::Zw P::Vi P::Tr P::s0::s1::aBp P::s0::aBi P::Vp P::Xo P::s0::s1::aBe P::s0::aBm P::WN P::UJ P::s0::s1::aAN P::s0::aAf P::Um P::Rz P::aAG P::Y9 P::Vm P::Ud P::UT P::Zu P::aCK P::aAj P::s8::aDe P::s0::aBg P::aCX P::aD4 P::s0::s1::aA3 P::s0::aAa P::VD P::Xc P::s0::s1::aDy P::s0::aAx P::Yz P::S9 P::s0::s1::aB3 P::s0::aBn P::XH P::Sg P::s0::s1::aB6 P::s0::aCs P::YC P::Uo P::s0::s1::aAy P::s0::aCS P::Vz P::TQ P::aAs P::XJ P::Yv P::aBf P::aCi P::aBt P::s8::aDZ P::s0::aDx P::aC0 P::Z8 P::s0::s1::aC7 P::Yr P::Xn P::s0::s1::aAU P::s0::aAD P::YJ P::VV P::s0::s1::aAv P::s0::aDp P::Yw P::Xz P::s0::s1::aCw P::s0::aAV P::Yt P::YX P::s0::s1::aCg P::s0::aAl P::Y4 P::UG P::s0::s1::aDz P::s0::aDf P::Rr P::Xq P::s0::s1::aAI P::s0::aDi P::Vr P::Ye P::aDb P::W7 P::XM P::aDg P::aDY P::[])
def t2 (P:Params):W.BT:=L2.bt 14 (l2 P)
def l3 (P:Params):List Obj:=L2.sets (l2 P) [(3,aAb P),(12,XQ P)]++(s0::s1::aBE P::s0::aCT P::Xy P::Wf P::s0::s1::aDr P::s0::aAH P::Y6 P::YT P::s0::s1::aA8 P::Th P::YG P::s0::s1::aDk P::Uh P::Wa P::s0::s1::Zc P::s0::Zn P::Xu P::U0 P::s0::s8::aBr P::s0::aDC P::aCk P::aBu P::s0::s1::aDP P::V5 P::Vc P::s0::s1::aDT P::s0::Zb P::YW P::Yh P::s0::s1::aAC P::s0::Zj P::Yd P::Xe P::s0::s1::aB0 P::s0::Zo P::S7 P::V2 P::s0::s1::Zk P::s0::aBR P::YD P::WQ P::s0::s1::aAR P::Vd P::Vy P::s0::s1::aDX P::s0::aCY P::Ul P::Wl P::s0::s1::aBy P::s0::aCe P::Yp P::TJ P::s0::s1::aDq P::s0::aA1 P::Yg P::ZD P::s0::s1::aCm P::s0::aBk P::Wh P::Vj P::s0::s1::aAe P::s0::aBs P::Ue P::YK P::s0::s1::aBz P::s0::aAw P::W2 P::W4 P::s0::s1::aAS P::s0::aDD P::Wz P::Ym P::s0::s1::aC8 P::s0::aB5 P::YZ P::Sh P::s0::s1::aDG P::s0::aDM P::Xx P::Yj P::aC5 P::Wk P::Rq P::Uc P::Ub P::aBD P::Zi P::s0::s1::aAu P::s0::aCz P::XS P::W9 P::s0::s1::aCf P::U7 P::Tj P::s0::s1::aCL P::s0::aDh P::Ww P::Su P::s0::s1::aAo P::s0::aCu P::Wr P::Yu P::s0::s1::Z9 P::Ur P::Ti P::s0::s1::aC9 P::Ys P::YH P::s0::s8::aAW P::s0::s1::Zg P::aC2 P::s0::Xb P::aCC P::Uu P::Wg P::aBO P::aDL P::aAY P::s8::aDt P::s0::aCn P::Zf P::aCF P::s0::s1::aCo P::s0::aDo P::WX P::Sy P::s0::s1::aD2 P::s0::aC6 P::XC P::Vb P::s0::s1::aCW P::s0::aCI P::Vv P::S6 P::aA7 P::S8 P::Uy P::aCt P::aAd P::[])
def t3 (P:Params):W.BT:=L2.bt 14 (l3 P)
def l4 (P:Params):List Obj:=L2.sets (l3 P) [(3,aD0 P),(12,Wd P),(515,Je P)]++(aBQ P::s8::aA6 P::s0::aBo P::aCh P::aDv P::s0::s1::aDU P::s0::Z5 P::We P::Y7 P::s0::s1::aAk P::W6 P::Vf P::s0::s1::aBY P::s0::aCJ P::WF P::ZK P::aAh P::Wc P::ZL P::aDN P::aBj P::aCM P::s8::aCj P::s0::aBJ P::aDm P::aCl P::s0::s1::aB7 P::s0::aBG P::Xv P::Sq P::s0::s1::aDE P::s0::aCp P::Uq P::V8 P::s0::s1::aAr P::s0::Zt P::Te P::Tz P::aCA P::S5 P::Yk P::aBH P::aAP P::s0::s1::aBx P::s0::aBP P::ZP P::Yn P::s0::s1::aD3 P::s0::aBL P::Xr P::Wv P::s0::s1::aBZ P::YQ P::Vt P::s0::s1::aCH P::Ug P::Uk P::s0::s1::aDV P::s0::aBB P::Wx P::Yl P::s0::s1::Zx P::X5 P::Yc P::s0::s1::aCU P::s0::aDs P::W5 P::Uj P::s0::s1::Zd P::s0::aAA P::Tv P::ZJ P::s0::s1::aAK P::s0::aDa P::TX P::X6 P::s0::s1::aAz P::s0::aCb P::VL P::V6 P::s0::s1::aCr P::s0::aDj P::Sw P::Vl P::s0::s1::aBb P::s0::aDR P::Wy P::Wb P::s0::s1::Z7 P::s0::aCx P::Wo P::ZF P::s0::s1::aAQ P::s0::aBT P::WM P::WK P::s0::s1::aA4 P::s0::aAE P::X7 P::SN P::s0::s1::aC3 P::s0::aAZ P::aBa P::aDd P::s0::s1::aDO P::s0::aBq P::aD1 P::aDn P::s0::s1::aC4 P::s0::aBX P::aBh P::aCV P::s0::s1::aAc P::s0::aBM P::Uv P::U4 P::[])
def t4 (P:Params):W.BT:=L2.bt 14 (l4 P)
def l5 (P:Params):List Obj:=L2.sets (l4 P) [(3,Ru P),(12,X3 P)]++(s0::s1::Zq P::s0::aDQ P::Sx P::Up P::s0::s1::aAF P::s0::aB1 P::V1 P::YB P::s0::s1::aDl P::Tt P::Xw P::s0::s1::aBS P::Xd P::Tw P::s0::s1::aC1 P::s0::Zr P::ZG P::X4 P::s0::s1::aDH P::VP P::Rx P::s0::s1::aBV P::XR P::W8 P::[])
def t5 (P:Params):W.BT:=L2.bt 14 (l5 P)
def xD:Env:={ scope:=PySem.Challenge.pw_lidprice_k54_the_deed_by_prices.main.scope,locals:=mainNs,globals:=mainNs,cells:=[],code:=(.ref 13),frame:=some 14 }
def g1:List Stmt:=[top 0,top 1,top 2,top 3,top 4,top 5,top 6,top 7,top 8,top 9,top 10]
def g2:List Stmt:=[top 11,top 12,top 13,top 14,top 15,top 16,top 17,top 18,top 19,top 20,top 21,top 22,top 23,top 24,top 25,top 26,top 27,top 28,top 29,top 30,top 31,top 32]
def g3:List Stmt:=[top 33,top 34,top 35,top 36,top 37,top 38,top 39,top 40,top 41,top 42,top 43,top 44,top 45,top 46,top 47,top 48,top 49]
def g4:List Stmt:=[top 50,top 51,top 52,top 53,top 54,top 55,top 56,top 57,top 58,top 59,top 60,top 61,top 62,top 63,top 64,top 65,top 66,top 67,top 68,top 69,top 70,top 71,top 72,top 73]
def g5:List Stmt:=[top 74,top 75,top 76,top 77,top 78,top 79,top 80]
def gs:List Stmt:=g1++(g2++(g3++(g4++(g5++[]))))
def iY:Code:=.body gs xD
theorem aBW (w:World)(os:OsState):W.segRunT PySem.treeTable PySem.Challenge.pw_lidprice_k54_the_deed_by_prices w 11 (some (.ref 6)) 1 1213 (xX (t0 w.params) 15 187 os) (W.piecesOf g1 xD iY ⟨0,0,0,0⟩ [W.topFrame ⟨0,0,0,0⟩])=some (.next,xX (t1 w.params) 111 318 os,iY,⟨27,0,31,19⟩):=by kernel_rfl
theorem aA2 (w:World)(os:OsState):W.segRunT PySem.treeTable PySem.Challenge.pw_lidprice_k54_the_deed_by_prices w 11 (some (.ref 6)) 1 1511 (xX (t1 w.params) 111 318 os) (W.piecesOf g2 xD iY ⟨27,0,31,19⟩ [W.topFrame ⟨0,0,0,0⟩])=some (.next,xX (t2 w.params) 324 590 os,iY,⟨124,0,155,16⟩):=by kernel_rfl
theorem aDI (w:World)(os:OsState):W.segRunT PySem.treeTable PySem.Challenge.pw_lidprice_k54_the_deed_by_prices w 11 (some (.ref 6)) 1 1504 (xX (t2 w.params) 324 590 os) (W.piecesOf g3 xD iY ⟨124,0,155,16⟩ [W.topFrame ⟨0,0,0,0⟩])=some (.next,xX (t3 w.params) 553 877 os,iY,⟨266,0,277,17⟩):=by kernel_rfl
theorem aAT (w:World)(os:OsState):W.segRunT PySem.treeTable PySem.Challenge.pw_lidprice_k54_the_deed_by_prices w 11 (some (.ref 6)) 1 1213 (xX (t3 w.params) 553 877 os) (W.piecesOf g4 xD iY ⟨266,0,277,17⟩ [W.topFrame ⟨0,0,0,0⟩])=some (.next,xX (t4 w.params) 744 1122 os,iY,⟨396,0,397,68⟩):=by kernel_rfl
theorem aAg (w:World)(os:OsState):W.segRunT PySem.treeTable PySem.Challenge.pw_lidprice_k54_the_deed_by_prices w 11 (some (.ref 6)) 1 213 (xX (t4 w.params) 744 1122 os) (W.piecesOf g5 xD iY ⟨396,0,397,68⟩ [W.topFrame ⟨0,0,0,0⟩])=some (.next,xX (t5 w.params) 785 1188 os,iY,⟨457,0,477,48⟩):=by kernel_rfl
theorem aAB (w:World)(os:OsState):W.topRun PySem.treeTable PySem.Challenge.pw_lidprice_k54_the_deed_by_prices w 11 (some (.ref 6)) 2 (xX (t5 w.params) 785 1188 os).abs (W.restOf [] xD iY ⟨457,0,477,48⟩ [W.topFrame ⟨0,0,0,0⟩])=some (xX (t5 w.params) 785 1188 os).abs:=by kernel_rfl
theorem aA5 (w:World)(os:OsState):W.topGo PySem.treeTable PySem.Challenge.pw_lidprice_k54_the_deed_by_prices w 11 (some (.ref 6)) 12 ⟨W.boot_heap w.params,aLp [],W.boot_drawn,W.boot_toks,os⟩ (W.topStub PySem.Challenge.pw_lidprice_k54_the_deed_by_prices)=some ((xX (t0 w.params) 15 187 os).abs,⟨denote PySem.treeTable (.body gs xD),iY,⟨0,0,0,0⟩,[W.topFrame ⟨0,0,0,0⟩]⟩):=by kernel_rfl
theorem aCN (w:World)(os:OsState):W.segRun PySem.treeTable PySem.Challenge.pw_lidprice_k54_the_deed_by_prices w 11 (some (.ref 6)) 1 1 (xX (t0 w.params) 15 187 os).abs (W.blockOf gs xD iY ⟨0,0,0,0⟩ [W.topFrame ⟨0,0,0,0⟩])=some (.next,(xX (t0 w.params) 15 187 os).abs,iY,⟨0,0,0,0⟩):=by kernel_rfl
def yK (P:Params):W.Frag :=
(nat_lit 2,W.boot_o_2 P) ::
(nat_lit 3,Ru P) ::
(nat_lit 20,o20 P) ::
(nat_lit 21,o21 P) ::
(nat_lit 30,o30 P) ::
(nat_lit 31,o31 P) ::
(nat_lit 32,o32 P) ::
(nat_lit 43,o43 P) ::
(nat_lit 44,o44 P) ::
(nat_lit 55,o55 P) ::
(nat_lit 56,o56 P) ::
(nat_lit 67,o67 P) ::
(nat_lit 68,o68 P) ::
(nat_lit 83,o83 P) ::
(nat_lit 84,o84 P) ::
(nat_lit 86,o86 P) ::
(nat_lit 87,o87 P) ::
(nat_lit 95,o95 P) ::
(nat_lit 96,o96 P) ::
(nat_lit 102,Xj P) ::
(nat_lit 103,Vu P) ::
(nat_lit 109,YM P) ::
(nat_lit 110,Tc P) ::
(nat_lit 116,Tg P) ::
(nat_lit 117,Vq P) ::
(nat_lit 123,ZM P) ::
(nat_lit 124,UW P) ::
(nat_lit 130,Ws P) ::
(nat_lit 131,Xm P) ::
(nat_lit 137,V9 P) ::
(nat_lit 138,W3 P) ::
(nat_lit 142,Ry P) ::
(nat_lit 143,Wi P) ::
(nat_lit 147,VJ P) ::
(nat_lit 148,WL P) ::
(nat_lit 152,Wj P) ::
(nat_lit 153,Ss P) ::
(nat_lit 157,XF P) ::
(nat_lit 158,V7 P) ::
(nat_lit 162,Y0 P) ::
(nat_lit 163,Us P) ::
(nat_lit 167,Vs P) ::
(nat_lit 168,Xf P) ::
(nat_lit 181,WP P) ::
(nat_lit 182,Xg P) ::
(nat_lit 188,Vi P) ::
(nat_lit 189,Tr P) ::
(nat_lit 195,Vp P) ::
(nat_lit 196,Xo P) ::
(nat_lit 202,WN P) ::
(nat_lit 203,UJ P) ::
(nat_lit 209,Um P) ::
(nat_lit 210,Rz P) ::
(nat_lit 212,Y9 P) ::
(nat_lit 213,Vm P) ::
(nat_lit 214,Ud P) ::
(nat_lit 215,UT P) ::
(nat_lit 230,VD P) ::
(nat_lit 231,Xc P) ::
(nat_lit 237,Yz P) ::
(nat_lit 238,S9 P) ::
(nat_lit 244,XH P) ::
(nat_lit 245,Sg P) ::
(nat_lit 251,YC P) ::
(nat_lit 252,Uo P) ::
(nat_lit 258,Vz P) ::
(nat_lit 259,TQ P) ::
(nat_lit 261,XJ P) ::
(nat_lit 262,Yv P) ::
(nat_lit 275,Yr P) ::
(nat_lit 276,Xn P) ::
(nat_lit 282,YJ P) ::
(nat_lit 283,VV P) ::
(nat_lit 289,Yw P) ::
(nat_lit 290,Xz P) ::
(nat_lit 296,Yt P) ::
(nat_lit 297,YX P) ::
(nat_lit 303,Y4 P) ::
(nat_lit 304,UG P) ::
(nat_lit 310,Rr P) ::
(nat_lit 311,Xq P) ::
(nat_lit 317,Vr P) ::
(nat_lit 318,Ye P) ::
(nat_lit 320,W7 P) ::
(nat_lit 321,XM P) ::
(nat_lit 329,Xy P) ::
(nat_lit 330,Wf P) ::
(nat_lit 336,Y6 P) ::
(nat_lit 337,YT P) ::
(nat_lit 341,Th P) ::
(nat_lit 342,YG P) ::
(nat_lit 346,Uh P) ::
(nat_lit 347,Wa P) ::
(nat_lit 353,Xu P) ::
(nat_lit 354,U0 P) ::
(nat_lit 365,V5 P) ::
(nat_lit 366,Vc P) ::
(nat_lit 372,YW P) ::
(nat_lit 373,Yh P) ::
(nat_lit 379,Yd P) ::
(nat_lit 380,Xe P) ::
(nat_lit 386,S7 P) ::
(nat_lit 387,V2 P) ::
(nat_lit 393,YD P) ::
(nat_lit 394,WQ P) ::
(nat_lit 398,Vd P) ::
(nat_lit 399,Vy P) ::
(nat_lit 405,Ul P) ::
(nat_lit 406,Wl P) ::
(nat_lit 412,Yp P) ::
(nat_lit 413,TJ P) ::
(nat_lit 419,Yg P) ::
(nat_lit 420,ZD P) ::
(nat_lit 426,Wh P) ::
(nat_lit 427,Vj P) ::
(nat_lit 433,Ue P) ::
(nat_lit 434,YK P) ::
(nat_lit 440,W2 P) ::
(nat_lit 441,W4 P) ::
(nat_lit 447,Wz P) ::
(nat_lit 448,Ym P) ::
(nat_lit 454,YZ P) ::
(nat_lit 455,Sh P) ::
(nat_lit 461,Xx P) ::
(nat_lit 462,Yj P) ::
(nat_lit 464,Wk P) ::
(nat_lit 465,Rq P) ::
(nat_lit 466,Uc P) ::
(nat_lit 467,Ub P) ::
(nat_lit 475,XS P) ::
(nat_lit 476,W9 P) ::
(nat_lit 480,U7 P) ::
(nat_lit 481,Tj P) ::
(nat_lit 487,Ww P) ::
(nat_lit 488,Su P) ::
(nat_lit 494,Wr P) ::
(nat_lit 495,Yu P) ::
(nat_lit 499,Ur P) ::
(nat_lit 500,Ti P) ::
(nat_lit 504,Ys P) ::
(nat_lit 505,YH P) ::
(nat_lit 514,Xb P) ::
(nat_lit 515,Je P) ::
(nat_lit 516,Uu P) ::
(nat_lit 517,Wg P) ::
(nat_lit 532,WX P) ::
(nat_lit 533,Sy P) ::
(nat_lit 539,XC P) ::
(nat_lit 540,Vb P) ::
(nat_lit 546,Vv P) ::
(nat_lit 547,S6 P) ::
(nat_lit 549,S8 P) ::
(nat_lit 550,Uy P) ::
(nat_lit 565,We P) ::
(nat_lit 566,Y7 P) ::
(nat_lit 570,W6 P) ::
(nat_lit 571,Vf P) ::
(nat_lit 577,WF P) ::
(nat_lit 578,ZK P) ::
(nat_lit 580,Wc P) ::
(nat_lit 581,ZL P) ::
(nat_lit 596,Xv P) ::
(nat_lit 597,Sq P) ::
(nat_lit 603,Uq P) ::
(nat_lit 604,V8 P) ::
(nat_lit 610,Te P) ::
(nat_lit 611,Tz P) ::
(nat_lit 613,S5 P) ::
(nat_lit 614,Yk P) ::
(nat_lit 622,ZP P) ::
(nat_lit 623,Yn P) ::
(nat_lit 629,Xr P) ::
(nat_lit 630,Wv P) ::
(nat_lit 634,YQ P) ::
(nat_lit 635,Vt P) ::
(nat_lit 639,Ug P) ::
(nat_lit 640,Uk P) ::
(nat_lit 646,Wx P) ::
(nat_lit 647,Yl P) ::
(nat_lit 651,X5 P) ::
(nat_lit 652,Yc P) ::
(nat_lit 658,W5 P) ::
(nat_lit 659,Uj P) ::
(nat_lit 665,Tv P) ::
(nat_lit 666,ZJ P) ::
(nat_lit 672,TX P) ::
(nat_lit 673,X6 P) ::
(nat_lit 679,VL P) ::
(nat_lit 680,V6 P) ::
(nat_lit 686,Sw P) ::
(nat_lit 687,Vl P) ::
(nat_lit 693,Wy P) ::
(nat_lit 694,Wb P) ::
(nat_lit 700,Wo P) ::
(nat_lit 701,ZF P) ::
(nat_lit 707,WM P) ::
(nat_lit 708,WK P) ::
(nat_lit 714,X7 P) ::
(nat_lit 715,SN P) ::
(nat_lit 742,Uv P) ::
(nat_lit 743,U4 P) ::
(nat_lit 749,Sx P) ::
(nat_lit 750,Up P) ::
(nat_lit 756,V1 P) ::
(nat_lit 757,YB P) ::
(nat_lit 761,Tt P) ::
(nat_lit 762,Xw P) ::
(nat_lit 766,Xd P) ::
(nat_lit 767,Tw P) ::
(nat_lit 773,ZG P) ::
(nat_lit 774,X4 P) ::
(nat_lit 778,VP P) ::
(nat_lit 779,Rx P) ::
(nat_lit 783,XR P) ::
(nat_lit 784,W8 P)::[]
def Ri:List Addr:=2::3::20::21::30::31::32::43::44::55::56::67::68::83::84::86::87::95::96::102::103::109::110::116::117::123::124::130::131::137::138::142::143::147::148::152::153::157::158::162::163::167::168::181::182::188::189::195::196::202::203::209::210::212::213::214::215::230::231::237::238::244::245::251::252::258::259::261::262::275::276::282::283::289::290::296::297::303::304::310::311::317::318::320::321::329::330::336::337::341::342::346::347::353::354::365::366::372::373::379::380::386::387::393::394::398::399::405::406::412::413::419::420::426::427::433::434::440::441::447::448::454::455::461::462::464::465::466::467::475::476::480::481::487::488::494::495::499::500::504::505::514::515::516::517::532::533::539::540::546::547::549::550::565::566::570::571::577::578::580::581::596::597::603::604::610::611::613::614::622::623::629::630::634::635::639::640::646::647::651::652::658::659::665::666::672::673::679::680::686::687::693::694::700::701::707::708::714::715::742::743::749::750::756::757::761::762::766::767::773::774::778::779::783::784::[]
theorem BP:∀ P,Ri=(yK P).map (·.1):=fun _=>by kernel_rfl
def vw:Program:={ PySem.Challenge.pw_lidprice_k54_the_deed_by_prices with main:={ (PySem.Challenge.pw_lidprice_k54_the_deed_by_prices).main with body:=[top 0,top 2,top 3,top 4,top 5,top 6,top 8,top 9,top 10,top 11,top 12,top 13,top 14,top 16,top 17,top 18,top 19,top 20,top 21,top 22,top 23,top 25,top 26,top 27,top 28,top 29,top 30,top 31,top 32,top 33,top 34,top 35,top 36,top 38,top 39,top 41,top 42,top 43,top 44,top 45,top 46,top 47,top 48,top 49,top 50,top 51,top 52,top 53,top 54,top 55,top 56,top 57,top 58,top 60,top 62,top 63,top 64,top 66,top 67,top 68,top 69,top 70,top 71,top 72,top 73,top 74,top 75,top 76,top 77,top 78,top 79,top 80] } }
def xtK (s:Shared):Bool:=W.xlAt vw [] s&&W.recOk (W.RowW.records (W.OpenRow.toRowW (W.OpenLaw.row PySem.Challenge.rw_lidprice_k54_the_deed_by_prices))) s
theorem Vk:W.LeftO PySem.Challenge.pw_lidprice_k54_the_deed_by_prices vw [] xtK (W.Hook.obs (W.kHook yK Ri BP)) (W.Hook.val (W.kHook yK Ri BP)) 12024 :=
 L2.KH (Tb:=t0) (Tf:=t5) (nf:=785) (kf:=1188) (env:=xD) (C:=iY) (gs:=gs) (m0:=11) (ann:=(some (.ref 6))) (by kernel_rfl) (by decide) (fun _=>by kernel_rfl) (fun _=>by kernel_rfl) aA5 aCN (c:=1213+(1511+(1504+(1213+(213+(2)))))) (fun w os=>L2.qU (aBW w os) (L2.qU (aA2 w os) (L2.qU (aDI w os) (L2.qU (aAT w os) (L2.qU (aAg w os) (aAB w os)))))) (by decide) (fun _=>by kernel_rfl)
end
end K54
open PySem PySem.W PyProof.Rows
set_option maxRecDepth 100000 in
set_option maxHeartbeats 0 in
theorem PySem.Challenge.cw_lidprice_k54_the_deed_by_prices_holds : PySem.Challenge.rw_lidprice_k54_the_deed_by_prices.Holds := by
 w_on
 refine PySem.W.holds_law K54.WR fun said=>?_;refine PySem.W.holds_open (N:=12024) (q:=K54.vw) (loose:=[]) (Xt:=K54.xtK) (XP:=PySem.W.XL K54.vw [])
  (Yf:=PySem.W.Hook.obs (PySem.W.kHook K54.yK K54.Ri K54.BP)) (Ya:=PySem.W.Hook.val (PySem.W.kHook K54.yK K54.Ri K54.BP))
  (YP:=PySem.W.Hook.says (PySem.W.kHook K54.yK K54.Ri K54.BP)) K54.Vk
  (PySem.W.Hook.of _) (PySem.W.Hook.keeps _) (fun s e=>PySem.W.xl_of s (aLN.mp e).1) PySem.W.XL.keeps
  (by rfl) (by rfl) (by rfl) (fun s e=>PySem.W.recFacts_of (aLN.mp e).2)
  (by rfl) (by first | assumption | decide +kernel) (by decide +kernel)
  ⟨rfl,rfl,rfl,rfl,rfl,by decide +kernel⟩ ?hw ?hc
 case hw=>w_witness2
 k_fill
 refine K54.walk (l:=PySem.Challenge.rw_lidprice_k54_the_deed_by_prices) rfl rfl rfl (fun w h Y=>by first | exact PySem.W.kIn_of Y | exact PySem.W.km_in_of Y) ?F
 case F =>
  intro w mg fa h KX G hmg;apply K54.Q0 (cR:=142) (Pt:=140) KX G hmg
  all_goals first | k_is | kit_is | exact ⟨by k_is,L2.J2 (by k_is) (by k_is) (by k_is)⟩ | exact ⟨by k_is,by k_is,L2.J2 (by k_is) (by k_is) (by k_is)⟩ | (refine ⟨⟨?_,?_,?_,?_⟩,⟨?_,?_,?_,?_⟩,?_,?_,?_,?_,?_,?_,?_,?_,?_,?_,?_⟩ <;> first | k_is | kit_is | kernel_rfl | (unfold L2.cA; kernel_rfl) | decide) | (refine ⟨?_,?_,?_,?_,?_,?_,?_,?_,?_⟩ <;> first | k_is | kit_is | kernel_rfl | (unfold L2.cA; kernel_rfl) | decide) | (refine ⟨?_,?_,?_,?_,?_⟩ <;> first | k_is | kit_is | kernel_rfl | (unfold L2.cA; kernel_rfl) | decide) | (refine ⟨?_⟩ <;> first | k_is | kit_is | kernel_rfl | (unfold L2.cA; kernel_rfl) | decide) | (refine TD.CN.of ?_ ?_ <;> first | k_is | kit_is | kernel_rfl | (unfold L2.cA; kernel_rfl) | decide) | (refine ⟨?_,?_,⟨?_,?_,?_,?_⟩,?_,?_,?_,?_,?_⟩ <;> first | k_is | kit_is | kernel_rfl | (unfold L2.cA; kernel_rfl) | decide) | (refine ⟨?_,?_,⟨?_,?_,?_,?_⟩,⟨?_,?_,?_,?_⟩,⟨?_,?_,?_,?_⟩,?_,?_,?_,?_,?_,?_,?_,?_,?_,?_,?_,?_⟩ <;> first | k_is | kit_is | kernel_rfl | (unfold L2.cA; kernel_rfl) | decide) | kernel_rfl | exact rfl | decide
