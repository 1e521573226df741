import PyProof.Rows.All
import Wide.All
import OpenK.AllK
import Wide.FinOn
import Lean
import PyProof.EqAt
import PyProof.EqKinds
import PyProof.TupleCall
import PyProof.NeKinds
import KE.IntBitsLaws
import KE.KRevIter
import KE.KSortKey
import KE.KLam
import KE.KNestM
import KE.KDictList
import PyProof.ConsumeWalk
import PyProof.ZipIter
import PyProof.Rows.Range3
import PyProof.CollectWalk
import PyProof.ListNew
import KE.KDictOf
import PyProof.Rows.SetFrom
import PyProof.AttrMissHeap
import PyProof.Rows.TupIter
import PyProof.Draws
import PyProof.EnumFor
import KE.KUnpack
import PyProof.Rows.SortRuns
import KE.KDictSum
import PyProof.FactsAll.set_1
import PyProof.ListRange
import KE.KSortTup
import PySem.Challenge.RW_lidprice_k34_whole_greedy_choosing
open PySem.Heap renaming get?_push_of_some → YK, lt_size → YX, get?_push_size → YZ, SameBut → Ym, get?_update_self → Yv, get?_update_other → ZV, size_push → Zg
open List renaming getElem?_eq_getElem → YL, size_toArray → YM, length_map → YQ, mem_singleton → YT, length_append → Y4, getD_eq_getElem?_getD → Y5, mem_cons_of_mem → Y8, mem_append_right → Yb, mem_append → Ye, mem_cons_self → Yg, getElem?_map → Yi, append_assoc → Yl, mem_cons → Yn, map_append → Yo, getElem?_eq_some_iff → Yp, getElem_toArray → Ys, pairwise_iff_getElem → Yu, length_take → Yw, mem_of_getElem? → Yy, take_length → Yz, map_cons → ZF, pairwise_append → ZG, getElem_mem → ZK, length_cons → ZP, mem_append_left → ZQ, mem_iff_getElem → ZR, Perm → ZS, mem_map → ZW, mem_filter → ZX, mem_range → ZZ, all_eq_true → Z0, getElem?_eq_none → Z2, getElem?_append_right → Z3, length_range → Z4, take_append_drop → Z6, length_drop → Z8, lookup_cons → Z9, append_nil → Zc, getElem?_append_left → Zd, length_filter_le → Ze, pairwise_singleton → Zh, range → Zi, nodup_cons → Zj, take_of_length_le → Zk, Pairwise → Zn, any_eq_true → Zo, filter_cons → Zq, replicate → Zr, filter_append → Zt, foldl_cons → Zw, any_eq_false → Zx, length_reverse → Zz, countP_cons → aAa, length_eq_zero_iff → aAb, eq_nil_of_length_eq_zero → aAc, countP_eq_length_filter → aAe, length_replicate → aAf, perm_append_comm → aAg, getElem_drop → aAi, lookup → aAj, length_eraseIdx_of_lt → aAn, ext_getElem → aAp, not_mem_nil → aAq, sum_cons → aAr, length_set → aAs, pairwise_cons → aAt, getElem?_set_self → aAu, nodup_append → aAv, getElem_take → aAw, pairwise_map → aAx, length_pos_of_mem → aAy, foldl_append → aAz, getElem?_toArray → aAB, any_cons → aAC, getElem?_set_ne → aAE, drop_append_of_le_length → aAF, length_zip → aAJ, filterMap_cons → aAK, length_pos_iff → aAM, take_sublist → aAU, take_add_one → aAW, countP_congr → aAX, getElem?_set → aAY, length_erase_of_mem → aAZ, getElem?_replicate → aA1, getElem_map → aA4, getElem_zip → aA5, drop_eq_nil_of_le → aA7, pairwise_lt_range → aA8, of_mem_zip → aA9, nil_append → aBa, countP_mono_left → aBd, pairwise_reverse → aBe, drop_drop → aBg, reverse_reverse → aBh, mem_erase_of_ne → aBi, mem_of_mem_take → aBj, reverse_append → aBl, mem_filterMap → aBo, all_eq_false → aBv, reverse_cons → aBA, map_map → aBB, perm_middle → aBE, length → aBF, any_append → aBH
open Nat renaming le_refl → YS, le_trans → Y7, ne_of_lt → Yd, lt_of_lt_of_le → Yj, zero_le → Yq, le_of_lt → Yx, ne_of_gt → Z7, lt_irrefl → Za, lt_of_le_of_lt → Zf, zero_add → Zm, pow_le_pow_right → Zy, lt_succ_of_lt → aAh, le_succ → aAk, lt_succ_self → aAo, pow_pos → aAG, add_le_add_left → aAL, le_of_eq → aAN, lt_trans → aAP, succ_le_succ → aA2, eq_zero_or_pos → aBq, le_succ_of_le → aBw, sub_zero → aBy, not_lt_zero → aBI
open Array renaming length_toList → YW, getElem?_eq_getElem → ZC, toList_append → ZD, getElem_mem → ZJ, getElem_toList → ZL, getElem?_toList → Z5, perm_iff_toList_perm → Zb, getElem?_eq_none → aAd, toArray_toList → aAl, toList_reverse → aAm, size_extract → aAT, mk → aA3, mem_iff_getElem → aBc, size_map → aBf, Perm → aBs, toList_push → aBz, getD → aBJ
open Bool renaming false_eq_true → Y6, false_ne_true → Y9, and_eq_true → Yh, eq_iff_iff → Zu, or_eq_true → Zv, not_true → aAD, and_eq_false_iff → aBb, and_eq_true_iff → aBk, or_false → aBm, true_and → aBn, not_eq_true' → aBC
open Int renaming emod_lt_of_pos → Yc, emod_nonneg → Yk, le_trans → Yr, le_of_lt → Yt, le_refl → Y_, toNat_natCast → ZM, one_mul → aAI, lt_trans → aAO, fdiv_eq_ediv_of_nonneg → aAQ, fmod_eq_emod_of_nonneg → aAR, not_lt → aAS, gcd → aAV, mul_ediv_cancel_left → aA0, fmod_nonneg_of_pos → aA6, natCast_nonneg → aBp, fmod_lt_of_pos → aBr, lt_of_lt_of_le → aBt, fmod_def → aBu
open Option renaming some → Z1, map_eq_some_iff → aAA, getD_none → aBD, none → aBG
open Rat renaming mul_le_mul_of_nonneg_right → Z_, mul_lt_mul_right → aAH, le_of_lt → aBx
set_option Elab.async false
set_option linter.all false
set_option maxRecDepth 100000
namespace K34
open PySem PySem.W
abbrev Ti:=PySem.Challenge.rw_lidprice_k34_whole_greedy_choosing
abbrev BR:Program:=Ti.row.toRowW.prog
theorem VV:sreFenced BR.main=true:=by kernel_rfl
theorem V3:((moduleNames BR.main.body).isEmpty||lookedIntoSs (moduleNames BR.main.body) BR.main.body)=true:=by kernel_rfl
theorem V9:namesResolve BR=true:=by kernel_rfl
theorem Vk:(BR.boundNames.all fun n=>!worldNames.contains n)=true:=by kernel_rfl
theorem Uv:noRoadLSs { strict:=!(importedModules BR.main.body).all cThrough.contains,foot:=none,bare:=(["vars","dir","locals"]:List Str).filter (readsOut BR BR.main.body) } BR.main.body=true:=by kernel_rfl
theorem Ux:(namesMeet BR BR.main.body fun _ n=>attrL n)=true:=by kernel_rfl
theorem Vj:looksOpen BR=true:=by
 unfold looksOpen;exact look_both (look_both (look_both (look_both (look_both VV V3) V9) Vk) Uv) Ux
theorem Ut:Ti.row.wellSaid=true:=by
 unfold OpenRow.wellSaid OpenRow.partSaid;rw [Vj]
 kernel_rfl
theorem Lp:Ti.wellSaid=true:=by
 unfold OpenLaw.wellSaid;rw [Ut]
 kernel_rfl
end K34
namespace L2
open PySem PySem.Spec PyProof.Rows
abbrev Key:=Sum Int Str
def J3:Key->Value->Bool
 | .inl k,v=>Value.isInt k v
 | .inr x,v=>Value.isStrOf x v
def SN (w:World):Key->Int
 | .inl k=>hashInt k
 | .inr x=>hashStr w x
theorem cF:∀ {k:Key}{v:Value},J3 k v=true->(∃ i t,k=Sum.inl i/\v=Value.int i t)∨(∃ x t,k=Sum.inr x/\v=Value.str x t)
 | .inl i,v,h=>by
  obtain ⟨t,e⟩:=Value.isInt_shape (k:=i) (v:=v) h;exact .inl ⟨i,t,rfl,e⟩
 | .inr x,v,h=>by
  obtain ⟨t,e⟩:=Value.isStrOf_shape (x:=x) (v:=v) h;exact .inr ⟨x,t,rfl,e⟩
theorem Jb (a b:Int):decide ((Sum.inl a:Key)=Sum.inl b)=(a==b):=by
 by_cases e:a=b
 ·subst e; simp
 ·have h:¬ (Sum.inl a:Key)=Sum.inl b:=fun q=>e (Sum.inl.inj q);rw [decide_eq_false h];exact (beq_eq_false_iff_ne.mpr e).symm
theorem K6 (a b:Str):decide ((Sum.inr a:Key)=Sum.inr b)=decide (a=b):=by
 by_cases e:a=b
 ·subst e; simp
 ·have h:¬ (Sum.inr a:Key)=Sum.inr b:=fun q=>e (Sum.inr.inj q);rw [decide_eq_false h,decide_eq_false e]
theorem Ja (a:Int)(b:Str):decide ((Sum.inl a:Key)=Sum.inr b)=false:=decide_eq_false (fun q=>nomatch q)
theorem Jj (a:Str)(b:Int):decide ((Sum.inr a:Key)=Sum.inl b)=false:=decide_eq_false (fun q=>nomatch q)
def Am (prog:Program)(w:World):PySem.KeyKind prog w Key where
 is:=J3
 hash:=SN w
 inj:=fun v a b ha hb=>by
  rcases cF ha with ⟨i,t,rfl,rfl⟩ | ⟨x,t,rfl,rfl⟩
  ·rcases cF hb with ⟨j,u,rfl,e⟩ | ⟨y,u,rfl,e⟩
   ·injection e with e1 _; rw [e1]
   ·exact nomatch e
  ·rcases cF hb with ⟨j,u,rfl,e⟩ | ⟨y,u,rfl,e⟩
   ·exact nomatch e
   ·injection e with e1 _; rw [e1]
 byValue:=fun k v h=>by
  rcases cF h with ⟨i,t,rfl,rfl⟩ | ⟨x,t,rfl,rfl⟩ <;> rfl
 pyHash:=fun hv h=>by
  rcases cF hv with ⟨i,t,rfl,rfl⟩ | ⟨x,t,rfl,rfl⟩
  ·exact wpAny_pyHash_int h
  ·exact wpAny_pyHash_str h
 eqBool:=fun hu hv h=>by
  rcases cF hu with ⟨i,t,rfl,rfl⟩ | ⟨x,t,rfl,rfl⟩
  ·rcases cF hv with ⟨j,u,rfl,rfl⟩ | ⟨y,u,rfl,rfl⟩
   ·rw [Jb] at h; exact wpAny_eqBool_int h
   ·rw [Ja] at h; exact SeqAt.EqAt.int_str i t y u _ _ _ _ h
  ·rcases cF hv with ⟨j,u,rfl,rfl⟩ | ⟨y,u,rfl,rfl⟩
   ·rw [Jj] at h; exact SeqAt.EqAt.str_int x t j u _ _ _ _ h
   ·rw [K6] at h; exact wpAny_eqBool_str h
 «strs»:=fun k x t v h=>by
  rcases cF h with ⟨i,u,rfl,e⟩ | ⟨y,u,rfl,e⟩
  ·exact nomatch e
  ·injection e with e1 _
   subst e1;cases v <;> rfl
inductive V where
 | non | bl (b:Bool) | int (i:Int) | str (x:Str) | byt (b:Array UInt8) | flt (b:UInt64) | ref (a:Addr) | ty (n:String)
 deriving DecidableEq
def RelV:V->Value->Prop
 | .non,u=>u=Value.none
 | .bl b,u=>u=Value.bool b
 | .int i,u=>∃ t,u=Value.int i t
 | .str x,u=>∃ t,u=Value.str x t
 | .byt b,u=>∃ t,u=Value.bytes b t
 | .flt b,u=>∃ t,u=Value.float b t
 | .ref a,u=>u=Value.ref a
 | .ty n,u=>u=Value.type n
abbrev bL:List V->List Value->Prop:=Paired RelV
theorem bL.length {xs:List V}{us:List Value}(r:bL xs us):xs.length=us.length:=Paired.length r
theorem bL.get:∀ {xs:List V}{us:List Value}{i:Nat}{x:V},bL xs us->xs[i]? = some x->∃ u,us[i]? = some u/\RelV x u
 | _,_,_,_,.nil,e=>by simp at e
 | _,_,0,_,.cons r _,e=>by simp at e; subst e; exact ⟨_,rfl,r⟩
 | _,_,i+1,x,.cons _ t,e=>by
  obtain ⟨u,h1,h2⟩:=bL.get (i:=i) (x:=x) t (by simpa using e);exact ⟨u,by simpa using h1,h2⟩
theorem bL.set {x:V}{u:Value}(r:RelV x u):∀ {xs:List V}{us:List Value} (i:Nat),bL xs us->bL (xs.set i x) (us.set i u)
 | _,_,_,.nil=>.nil
 | _,_,0,.cons _ t=>.cons r t
 | _,_,i+1,.cons q t=>.cons q (bL.set r i t)
theorem bL.append:∀ {xs ys:List V}{us ws:List Value},bL xs us->bL ys ws->bL (xs++ys) (us++ws)
 | _,_,_,_,.nil,s=>s
 | _,_,_,_,.cons r t,s=>.cons r (bL.append t s)
theorem bL.take:∀ {xs:List V}{us:List Value} (n:Nat),bL xs us->bL (xs.take n) (us.take n)
 | _,_,0,_=>.nil
 | _,_,_+1,.nil=>.nil
 | _,_,n+1,.cons r t=>.cons r (bL.take n t)
theorem bL.drop:∀ {xs:List V}{us:List Value} (n:Nat),bL xs us->bL (xs.drop n) (us.drop n)
 | _,_,0,r=>r
 | _,_,_+1,.nil=>.nil
 | _,_,n+1,.cons _ t=>bL.drop n t
def qY:Option V->Option Value->Prop
 | some v,some u=>RelV v u
 | none,none=>True
 | _,_=>False
def KV {κ:Type}:List (κ×V)->List (κ×Value)->Prop:=Paired fun (p:κ×V) (q:κ×Value)=>p.1=q.1/\RelV p.2 q.2
def kV:Key->V
 | .inl i=>.int i
 | .inr x=>.str x
inductive HO where
 | lst (xs:List V)
 | tup (xs:List V)
 | dK (kvs:List (Key×V)) | dT (kvs:List (List Key×V))
 | set (S:Int->Bool) (n:Nat)
 | ins (C dx:Addr) (fs:List (Str×V))
 | own (x:Addr)
 | xd (fs:List (Str×V))
 | met (f x:Addr)
 | rng (lo hi:Int)
 | frz (o:Obj) (u:HO)
 | tbl (ps:Array Value)
 | ext (φ:Heap->Prop)
abbrev Hp:=Addr->Option HO
def bN (H:Hp)(a:Addr)(o:HO):Hp:=fun b=>if b=a then some o else H b
theorem aC {H:Hp}{a:Addr}{o:HO}:bN H a o a=some o:=by unfold bN; rw [if_pos rfl]
theorem aO {H:Hp}{a b:Addr}{o:HO}(h:b≠a):bN H a o b=H b:=by unfold bN; rw [if_neg h]
theorem sX {H:Hp}{a b:Addr}{o u:HO}(h:H a=some o)(h':H b=some u)(d:o≠u):a≠b:=by
 intro e; subst e; rw [h] at h'; exact d (Z1.inj h')
theorem bB {H:Hp}{a b:Addr}{o:HO}(h:H a=some o)(h':H b=none):a≠b:=by
 intro e; subst e; rw [h] at h'; cases h'
section
variable (P:Program)(w:World)
def cJ (H:Hp)(h:Heap)(a:Addr):HO->Prop
 | .lst xs=>xs.length<=sizeLine/\∃ (its:List Value) (n:Nat),bL xs its/\h.get? a=some { cls:=.type "list",data:=.seq its.toArray n }
 | .tup xs=>xs.length<=sizeLine/\∃ its:List Value,bL xs its/\IsTup h a its.toArray
 | .dK kvs=>kvs.length<=sizeLine/\(a==sysModules)=false/\∃ vs,KV kvs vs/\h.DictOf (Am P w) a vs
 | .dT kvs=>kvs.length<=sizeLine/\(a==sysModules)=false/\∃ xs:List (List Key×Addr×Value),
   Paired (fun (p:List Key×V) (q:List Key×Addr×Value)=>p.1=q.1/\H q.2.1=some (.tup (p.1.map kV))/\RelV p.2 q.2.2) kvs xs ∧
   ∃ o es ep,h.get? a=some o/\o.ExactDict/\o.data=.dict es ep/\es.toList=xs.map (entryOfKey (tupleKind (Am P w)))/\(xs.map (·.1)).Nodup
 | .set S n=>h.SetOf (intKind P w) a S n
 | .ins C dx fs=>H dx=some (.own a)/\fs.length<=1000/\dx≠a/\h.get? a=some (PySem.W.instObj C dx) ∧
   ∃ mA,h.Ns1 dx mA/\(∀ f,qY (fs.lookup f) (mA f))/\PySem.Within mA (fs.map (·.1))
 | .own _=>∃ o,h.get? a=some o
 | .xd fs=>∃ mA,h.Ns1 a mA/\∀ f,qY (fs.lookup f) (mA f)
 | .rng lo hi=>∃ t u v,h.get? a=some { cls:=.type "range",data:=.fields #[.int lo t,.int hi u,.int 1 v] }
 | .frz o u=>h.get? a=some o/\cJ H h a u
 | .tbl ps=>h.get? a=some { cls:=.none,data:=.fields ps }
 | .met f x=>h.get? a=some (PySem.W.methodObj (.ref f) (.ref x))
 | .ext φ=>φ h/\(∃ o,h.get? a=some o)/\∀ h1 h2:Heap,φ h1->(∀ o,h1.get? a=some o->h2.get? a=some o)->φ h2
def oY (H:Hp)(h:Heap):Prop:=∀ a o,H a=some o->cJ P w H h a o
end
section
variable {P:Program}{w:World}{H H':Hp}{h h':Heap}{a:Addr}{o:HO}
theorem cJ.lt (x:cJ P w H h a o):a<h.objs.size:=by
 cases o with
 | lst xs=>obtain ⟨_,_,_,_,e⟩:=x; exact YX e
 | tup xs=>obtain ⟨_,_,_,p⟩:=x; exact p.lt
 | dK kvs=>obtain ⟨_,_,_,_,o,_,_,e,_⟩:=x; exact YX e
 | dT kvs=>obtain ⟨_,_,_,_,o,_,_,e,_⟩:=x; exact YX e
 | set S n=>obtain ⟨o,_,_,_,e,_⟩:=x; exact YX e
 | ins C dx fs=>obtain ⟨_,_,_,e,_⟩:=x; exact YX e
 | own y=>obtain ⟨_,e⟩:=x; exact YX e
 | xd fs=>obtain ⟨_,⟨_,_,_,e,_⟩,_⟩:=x; exact YX e
 | rng lo hi=>obtain ⟨_,_,_,e⟩:=x; exact YX e
 | frz ob u=>obtain ⟨e,_⟩:=x; exact YX e
 | tbl ps=>exact YX (show h.get? a=some _ from x)
 | met f y=>exact YX (show h.get? a=some _ from x)
 | ext φ=>obtain ⟨_,⟨_,e⟩,_⟩:=x; exact YX e
theorem Paired.mapP {α β:Type}{F G:α->β->Prop}:∀ {l₁:List α}{l₂:List β},Paired F l₁ l₂->(∀ a b,F a b->G a b)->Paired G l₁ l₂
 | _,_,.nil,_=>.nil
 | _,_,.cons r t,f=>.cons (f _ _ r) (Paired.mapP t f)
theorem cJ.stay (x:cJ P w H h a o)(k:∀ b u,(b=a∨H b=some (.own a))->h.get? b=some u->h'.get? b=some u)
  (ho:∀ b,H b=some (.own a)->H' b=some (.own a)) (ht:∀ b xs,H b=some (.tup xs)->H' b=some (.tup xs)):cJ P w H' h' a o:=by
 induction o with
 | lst xs=>obtain ⟨z,its,n,r,e⟩:=x; exact ⟨z,its,n,r,k _ _ (.inl rfl) e⟩
 | tup xs=>obtain ⟨z,its,r,ob,e,c⟩:=x; exact ⟨z,its,r,ob,k _ _ (.inl rfl) e,c⟩
 | dK kvs=>obtain ⟨z,y,vs,r,ob,es,ep,e,c⟩:=x; exact ⟨z,y,vs,r,ob,es,ep,k _ _ (.inl rfl) e,c⟩
 | dT kvs =>
  obtain ⟨z,y,xs,r,ob,es,ep,e,c⟩:=x;exact ⟨z,y,xs,Paired.mapP r fun p q z=>⟨z.1,ht _ _ z.2.1,z.2.2⟩,ob,es,ep,k _ _ (.inl rfl) e,c⟩
 | set S n=>obtain ⟨ob,es,ep,t,e,c⟩:=x; exact ⟨ob,es,ep,t,k _ _ (.inl rfl) e,c⟩
 | ins C dx fs =>
  obtain ⟨d,z,ne,e,mA,⟨od,es,ep,e2,c⟩,r⟩:=x;exact ⟨ho _ d,z,ne,k _ _ (.inl rfl) e,mA,⟨od,es,ep,k _ _ (.inr d) e2,c⟩,r⟩
 | own y=>obtain ⟨ob,e⟩:=x; exact ⟨ob,k _ _ (.inl rfl) e⟩
 | xd fs=>obtain ⟨mA,⟨od,es,ep,e,c⟩,r⟩:=x; exact ⟨mA,⟨od,es,ep,k _ _ (.inl rfl) e,c⟩,r⟩
 | rng lo hi=>obtain ⟨t,u,v,e⟩:=x; exact ⟨t,u,v,k _ _ (.inl rfl) e⟩
 | frz ob u ih=>obtain ⟨e,q⟩:=x; exact ⟨k _ _ (.inl rfl) e,ih q⟩
 | tbl ps =>
  have e:h.get? a=some { cls:=.none,data:=.fields ps }:=x;show h'.get? a=some { cls:=.none,data:=.fields ps };exact k a _ (.inl rfl) e
 | met f y =>
  have e:h.get? a=some (PySem.W.methodObj (.ref f) (.ref y)):=x;show h'.get? a=some (PySem.W.methodObj (.ref f) (.ref y));exact k a _ (.inl rfl) e
 | ext φ=>obtain ⟨p,⟨o,e⟩,st⟩:=x; exact ⟨st _ _ p fun o q=>k _ _ (.inl rfl) q,⟨o,k _ _ (.inl rfl) e⟩,st⟩
theorem oY.lt (x:oY P w H h)(e:H a=some o):a<h.objs.size:=(x a o e).lt
theorem oY.fresh (x:oY P w H h)(e:h.objs.size<=a):H a=none:=by
 cases q:H a with
 | none=>rfl
 | some u=>exact absurd (Yj (x.lt q) e) (Za _)
theorem oY.kept (x:oY P w H h)(k:∀ b u,h.get? b=some u->h'.get? b=some u):oY P w H h':=fun a o e =>
 (x a o e).stay (fun b u _ q=>k b u q) (fun _ q=>q) fun _ _ q=>q
theorem oY.laid (x:oY P w H h)(k:∀ b u,h.get? b=some u->h'.get? b=some u)(hp:h.objs.size<=a)(new:cJ P w (bN H a o) h' a o):oY P w (bN H a o) h':=fun b u e=>by
 have hn:=x.fresh hp
 by_cases hb:b=a
 ·subst hb; rw [aC] at e; cases e; exact new
 ·rw [aO hb] at e;exact (x b u e).stay (fun c v _ q=>k c v q) (fun c q=>by rw [aO (bB q hn)]; exact q) fun c xs q=>by rw [aO (bB q hn)]; exact q
end
def Rd (H:Hp)(a:Addr)(u:HO):Prop:=H a=some u∨∃ o,H a=some (.frz o u)
theorem Rd.ok {P:Program}{w:World}{H:Hp}{h:Heap}{a:Addr}{u:HO}(r:Rd H a u)(x:oY P w H h):cJ P w H h a u:=by
 rcases r with r | ⟨o,r⟩
 ·exact x a u r
 ·obtain ⟨_,q⟩:=x a _ r;exact q
def Ph:Option HO->Prop
 | some (.lst _)=>True
 | some (.dK _)=>True
 | some (.dT _)=>True
 | some (.set _ _)=>True
 | some (.ins _ _ _)=>True
 | some (.ext _)=>True
 | _=>False
section
variable {P:Program}{w:World}{H:Hp}{h h':Heap}{x e:Addr}{o':HO}
theorem oY.write (ok:oY P w H h)(mu:Ph (H x))(he:e=x∨H e=some (.own x))(k:∀ b u,b≠e->h.get? b=some u->h'.get? b=some u)(heo:∃ u,h'.get? e=some u)
  (new:cJ P w (bN H x o') h' x o'):oY P w (bN H x o') h':=fun b u q=>by
 have nown:∀ c y,H c=some (.own y)->c≠x:=fun c y r z=>by subst z; rw [r] at mu; exact mu
 have ntup:∀ c xs,H c=some (.tup xs)->c≠x:=fun c xs r z=>by subst z; rw [r] at mu; exact mu
 by_cases hb:b=x
 ·subst hb; rw [aC] at q; cases q; exact new
 ·rw [aO hb] at q
  by_cases hbe:b=e
  ·have q':H b=some (.own x):=by
    rcases he with z | z
    ·exact absurd (hbe.trans z) hb
    ·rw [hbe]; exact z
   rw [q] at q'; cases q';obtain ⟨v,hv⟩:=heo;exact ⟨v,by rw [hbe]; exact hv⟩
  ·refine (ok b u q).stay (fun c v hc r=>k c v ?_ r) (fun c r=>by rw [aO (nown c b r)]; exact r) fun c xs r=>by rw [aO (ntup c xs r)]; exact r
   rcases hc with rfl | hc
   ·exact hbe
   ·rintro rfl;rcases he with z | z
    ·exact nown c b hc z
    ·rw [hc] at z; cases z; exact hb rfl
end
structure Un (fs ex:List Addr)(H H':Hp)(h h':Heap):Prop where
 keep:∀ b o,h.get? b=some o->H b=none->b∉fs->b∉ex->h'.get? b=some o
 slot:∀ b o,h.get? b=some o->H b=none->b∈fs->b∉ex->∃ sl,h'.get? b=some { o with slots:=sl }
 free:∀ b o,h.get? b=some o->H b=none->b∉ex->H' b=none
 there:∀ b o,h.get? b=some o->b∉ex->∃ o',h'.get? b=some o'
 tups:∀ b xs,H b=some (.tup xs)->H' b=some (.tup xs)
 frzs:∀ b o u,H b=some (.frz o u)->H' b=some (.frz o u)
 tbls:∀ b ps,H b=some (.tbl ps)->∃ more,H' b=some (.tbl (ps++more))
section
variable {fs fs' ex ex':List Addr}{H H1 H2:Hp}{h h1 h2 h':Heap}{a x e:Addr}{o:HO}
theorem Un.any (u:Un fs ex H H1 h h1){b:Addr}{ob:Obj}(q:h.get? b=some ob)(n:H b=none)(hx:b∉ex):∃ sl,h1.get? b=some { ob with slots:=sl }:=by
 by_cases hb:b∈fs
 ·exact u.slot b ob q n hb hx
 ·exact ⟨ob.slots,u.keep b ob q n hb hx⟩
theorem Un.kept (k:∀ b u,h.get? b=some u->h'.get? b=some u):Un fs ex H H h h' :=
 ⟨fun b ob q _ _ _=>k b ob q,fun b ob q _ _ _=>⟨ob.slots,k b ob q⟩,fun _ _ _ n _=>n,fun b ob q _=>⟨ob,k b ob q⟩,fun _ _ q=>q,fun _ _ _ q=>q,fun _ ps q=>⟨#[],by rw [q]; simp⟩⟩
theorem Un.refl:Un fs ex H H h h:=Un.kept fun _ _ q=>q
theorem Un.laid (k:∀ b u,h.get? b=some u->h'.get? b=some u)(hp:h.objs.size<=a)(hn:H a=none):Un fs ex H (bN H a o) h h' where
 keep:=fun b u q _ _ _=>k b u q
 slot:=fun b u q _ _ _=>⟨u.slots,k b u q⟩
 free:=fun b u q n _=>by rw [aO (Yd (Yj (YX q) hp))]; exact n
 there:=fun b u q _=>⟨u,k b u q⟩
 tups:=fun b xs q=>by rw [aO (bB q hn)]; exact q
 frzs:=fun b u xs q=>by rw [aO (bB q hn)]; exact q
 tbls:=fun b ps q=>⟨#[],by rw [aO (bB q hn),q]; simp⟩
theorem Un.write (mu:Ph (H x))(he:e=x∨H e=some (.own x))(k:∀ b u,b≠e->h.get? b=some u->h'.get? b=some u)(heo:∃ u,h'.get? e=some u):Un fs ex H (bN H x o) h h':=by
 have hx:∀ b,H b=none->b≠x:=fun b n z=>by subst z; rw [n] at mu; exact mu
 have hb:∀ b,H b=none->b≠e:=fun b n z=>by
  subst z;rcases he with r | r
  ·exact hx b n r
  ·rw [n] at r; cases r
 have hm:∀ b u,H b=some u->¬ Ph (some u)->b≠x:=fun b u q nm z=>by subst z; rw [q] at mu; exact nm mu
 refine ⟨fun b u q n _ _=>k b u (hb b n) q,fun b u q n _ _=>⟨u.slots,k b u (hb b n) q⟩,fun b u q n _=>by rw [aO (hx b n)]; exact n,fun b u q _=>?_,
  fun b xs q=>by rw [aO (hm b _ q fun z=>z)]; exact q,fun b u xs q=>by rw [aO (hm b _ q fun z=>z)]; exact q,fun b ps q=>⟨#[],by rw [aO (hm b _ q fun z=>z),q]; simp⟩⟩
 by_cases hbe:b=e
 ·subst hbe; exact heo
 ·exact ⟨u,k b u hbe q⟩
end
def Pn (h:Heap)(H:Hp):List Addr:=(Zi h.objs.size).filter fun a=>(H a).isSome
def qT (h:Heap)(H:Hp):Heap:=PySem.W.hideAll h (Pn h H)
theorem CV (h:Heap)(H:Hp):(qT h H).objs.size=h.objs.size:=PySem.W.hideAll_size _ _
theorem Fi {h:Heap}{H:Hp}{b:Addr}{o:Obj}(e:h.get? b=some o)(n:H b=none):(qT h H).get? b=some o :=
 PySem.W.hideAll_get _ e fun hm=>by
  have q:(H b).isSome=true:=(ZX.mp hm).2;rw [n] at q; simp at q
theorem IW {h:Heap}{H:Hp}{b:Addr}{o:Obj}(e:(qT h H).get? b=some o):h.get? b=some o/\H b=none:=by
 have e':h.get? b=some o:=PySem.W.of_hideAll (Pn h H) e;refine ⟨e',?_⟩;cases q:H b with
 | none=>rfl
 | some x =>
  have hm:b∈Pn h H:=ZX.mpr ⟨ZZ.mpr (YX e'),by simp [q]⟩;have z:(qT h H).get? b=none:=PySem.W.hideAll_none (Pn h H) hm;rw [z] at e; cases e
def Hx (g h:Heap)(L:Addr):List (Addr×Obj):=(Zi h.objs.size).filterMap fun a=>if a=L∨(g.get? a).isSome=true then none else (h.get? a).map fun o=>(a,o)
def rest (g h:Heap)(L d:Addr):List (Addr×Obj):=(Hx g h L).filter fun p=>decide (p.1≠d)
structure Mod (K:PySem.W.Frag)(mg:Str->Option Value)(base:Heap):Prop where
 kin:K.In base
 glob:base.Ns mainGlobals mg
 blt:∃ mb,base.Ns builtinsNs mb/\∀ x:Str,x≠"__name__" -> mb x=bootBuiltins x
 nolimit:base.NoLimit
structure Cx where
 prog:Program
 w:World
 K:PySem.W.Frag
 mg:Str->Option Value
 base:Heap
 A:Around
 N:List Str
 s₀:Shared
 H₀:Hp
 env:Env
 outer:List Env
 stack:List Env
 ex:List Addr
 fn:Str->Bool
 calm:Bool
 pn:List (Addr×Obj)
 xe:Value->Shared->Prop
def Fx (l:List Env):List Addr:=l.filterMap (·.frame)
abbrev Cx.fs (X:Cx):List Addr:=Fx X.outer
def Pb (sc:Scope)(x:Str):Prop:=sc.names.lookup x=some .local∨sc.names.lookup x=some .cell∨sc.names.lookup x=some .free
def Loc (sc:Scope)(x:Str):Prop:=sc.names.lookup x=some .local∨sc.names.lookup x=some .cell
def Look (env:Env)(h:Heap)(m:Str->Option Value)(x:Str)(u:Value):Prop :=
 (env.kindOf x=some .local/\m x=some u)∨((env.kindOf x=some .cell∨env.kindOf x=some .free)/\∃ c,env.cells.lookup x=some c/\h.IsCell c (some u))
structure Cx.Ok (X:Cx):Prop where
 mod:Mod X.K X.mg X.base
 kind:X.env.scope.kind=.function
 glob:X.env.globals=mainGlobals
 blt:X.env.builtins=builtinsNs
 above:X.s₀.heap.objs.size<=X.env.locals
 inj:∀ x y c,X.env.cells.lookup x=some c->X.env.cells.lookup y=some c->x=y
 has:∀ x,(X.env.kindOf x=some .cell∨X.env.kindOf x=some .free)->∃ c,X.env.cells.lookup x=some c
 cab:∀ x c,X.fn x=true->X.env.cells.lookup x=some c->X.s₀.heap.objs.size<=c
 hd:X.calm=true->X.A.handled=none
 frames:X.A.frames=some X.stack
 stk:X.stack=X.outer∨(X.stack=X.env::X.outer/\X.env.frame=some X.env.locals)
 exf:∀ b∈X.ex,b≠X.env.locals/\∀ x c,X.env.cells.lookup x=some c->c≠b
 bs:∀ b o,X.base.get? b=some o->X.s₀.heap.get? b=some o/\X.H₀ b=none
 bsz:X.base.objs.size<=X.s₀.heap.objs.size
 noex:∀ b o,X.base.get? b=some o->b∉X.ex
 exfs:∀ b∈X.ex,b∉X.fs
 funs:X.s₀.heap.FunFrames X.base X.outer
 frf:∀ b∈X.fs,X.H₀ b=none
structure aQ (X:Cx)(pins:List (Addr×Obj))(σ:List (Option V))(H:Hp)(s:Shared):Prop where
 ok:X.Ok
 os:s.os=X.s₀.os
 bare:AllBare s.gens
 base:Un X.fs X.ex X.H₀ H X.s₀.heap s.heap
 loc:∃ m,s.heap.Ns X.env.locals m/\∀ (i:Nat) (x:Str) (v:V),X.N[i]? = some x->σ[i]? = some (some v)->Pb X.env.scope x->∃ u,RelV v u/\Look X.env s.heap m x u
 cell:∀ x c,X.env.cells.lookup x=some c->∃ v,s.heap.IsCell c v
 free:H X.env.locals=none
 freeC:∀ x c,X.env.cells.lookup x=some c->H c=none
 pin:∀ p∈X.pn++pins,s.heap.get? p.1=some p.2/\H p.1=none/\p.1≠X.env.locals/\p.1∉X.fs/\∀ v,p.2.data≠.cell v
 hok:oY X.prog X.w H s.heap
 len:σ.length=X.N.length
section
variable {X:Cx}{pins:List (Addr×Obj)}{σ:List (Option V)}{H H':Hp}{s:Shared}{h':Heap}
theorem Cx.Ok.nofr (ok:X.Ok){b:Addr}{o:Obj}(e:X.base.get? b=some o):b∉X.fs:=fun hb=>by
 have:=(ok.funs.mem hb).1;rw [e] at this; cases this
theorem aQ.bs (I:aQ X pins σ H s):∀ b o,X.base.get? b=some o->s.heap.get? b=some o/\H b=none:=fun b o e =>
 ⟨I.base.keep b o (I.ok.bs b o e).1 (I.ok.bs b o e).2 (I.ok.nofr e) (I.ok.noex b o e),I.base.free b o (I.ok.bs b o e).1 (I.ok.bs b o e).2 (I.ok.noex b o e)⟩
theorem aQ.bk (I:aQ X pins σ H s):∀ b o,X.base.get? b=some o->s.heap.get? b=some o:=fun b o e=>(I.bs b o e).1
theorem aQ.mod (I:aQ X pins σ H s):Mod X.K X.mg X.base:=I.ok.mod
theorem aQ.kIn (I:aQ X pins σ H s):X.K.In s.heap:=I.ok.mod.kin.keeps I.bk
theorem aQ.nolimit (I:aQ X pins σ H s):s.heap.NoLimit:=I.ok.mod.nolimit.keeps I.bk
theorem aQ.lt (I:aQ X pins σ H s):X.env.locals<s.heap.objs.size:=let ⟨_,hn,_⟩:=I.loc; hn.lt
theorem aQ.sz (I:aQ X pins σ H s):X.s₀.heap.objs.size<=s.heap.objs.size:=Y7 I.ok.above (Yx I.lt)
theorem aQ.nofs (I:aQ X pins σ H s){a:Addr}(h:s.heap.objs.size<=a):a∉X.fs:=fun hb=>by
 obtain ⟨_,o,ho,_⟩:=I.ok.funs.mem hb;exact absurd (Yj (YX ho) (Y7 I.sz h)) (Za _)
theorem aQ.cne (I:aQ X pins σ H s):∀ x c,X.env.cells.lookup x=some c->c≠X.env.locals:=fun x c e z=>by
 obtain ⟨v,o,ho,hd⟩:=I.cell x c e;obtain ⟨m,⟨o',es,ep,ho',hd',_⟩,_⟩:=I.loc;rw [z,ho'] at ho; cases ho; rw [hd'] at hd; cases hd
theorem aQ.funs (I:aQ X pins σ H s):s.heap.FunFrames X.base X.outer:=by
 have all:∀ (l:List Env),(∀ b∈Fx l,b∈X.fs)->X.s₀.heap.FunFrames X.base l->s.heap.FunFrames X.base l:=by
  intro l
  induction l with
  | nil=>intro _ _; trivial
  | cons env r ih =>
   intro hs hl;obtain ⟨hk,⟨L,o,hf,hn,ho,hd⟩,hr⟩:=hl;have hL:L∈X.fs:=hs L (by unfold Fx; rw [aAK,hf]; exact Yg);obtain ⟨sl,e⟩:=I.base.slot L o ho (I.ok.frf L hL) hL fun z=>I.ok.exfs L z hL;exact ⟨hk,⟨L,_,hf,hn,e,hd⟩,ih (fun b hb=>hs b (by unfold Fx; rw [aAK,hf]; exact Y8 _ hb)) hr⟩
 exact all X.outer (fun _ hb=>hb) I.ok.funs
theorem aQ.stack (I:aQ X pins σ H s):s.heap.FunFrames X.base X.stack:=by
 rcases I.ok.stk with e | ⟨e,hf⟩
 ·rw [e]; exact I.funs
 ·rw [e];obtain ⟨m,hn,_⟩:=I.loc;refine .cons (by rw [I.ok.kind]; decide) hf hn ?_ I.funs;exact Heap.get?_none_of_le (Y7 I.ok.bsz I.ok.above)
theorem aQ.stkSub (I:aQ X pins σ H s):∀ b∈Fx X.stack,b∈X.env.locals::X.fs:=fun b hb=>by
 rcases I.ok.stk with e | ⟨e,hf⟩
 ·rw [e] at hb; exact Y8 _ hb
 ·rw [e] at hb;unfold Fx at hb;rw [aAK,hf] at hb;exact hb
theorem aQ.stkFree (I:aQ X pins σ H s):∀ b∈Fx X.stack,H b=none:=fun b hb=>by
 rcases Yn.mp (I.stkSub b hb) with e | hb
 ·rw [e]; exact I.free
 ·obtain ⟨_,o,ho,_⟩:=I.ok.funs.mem hb;exact I.base.free b o ho (I.ok.frf b hb) fun z=>I.ok.exfs b z hb
theorem aQ.step {g':Array GenState}{t':Nat}{d':Drawn}{ch:List Addr}(I:aQ X pins σ H s)
  (hch:∀ b∈ch,(b∈X.ex∨X.s₀.heap.objs.size<=b)/\b≠X.env.locals/\(∀ x c,X.env.cells.lookup x=some c->c≠b)/\∀ p∈X.pn++pins,p.1≠b)
  (keep:∀ b o,b≠X.env.locals->b∉X.fs->b∉ch->s.heap.get? b=some o->H b=none->h'.get? b=some o)
  (slot:∀ b o,b≠X.env.locals->b∈X.fs->b∉ch->s.heap.get? b=some o->H b=none->∃ sl,h'.get? b=some { o with slots:=sl }) (free:∀ b o,b∉ch->s.heap.get? b=some o->H b=none->H' b=none)
  (there:∀ b o,b∉ch->s.heap.get? b=some o->∃ o',h'.get? b=some o')
  (tups:∀ b xs,H b=some (.tup xs)->H' b=some (.tup xs)) (frzs:∀ b o u,H b=some (.frz o u)->H' b=some (.frz o u)) (tbls:∀ b ps,H b=some (.tbl ps)->∃ more,H' b=some (.tbl (ps++more)))
  (ns:∀ m,s.heap.Ns X.env.locals m->h'.Ns X.env.locals m) (hok:oY X.prog X.w H' h') (hg:AllBare g') :
  aQ X pins σ H' { s with heap:=h',gens:=g',drawn:=d',toks:=t' }:=by
 have neL:∀ b o,X.s₀.heap.get? b=some o->b≠X.env.locals:=fun b o e=>Yd (Yj (YX e) I.ok.above);have neC:∀ b o,X.s₀.heap.get? b=some o->b∉X.ex->b∉ch:=fun b o e hx hb=>by
  rcases (hch b hb).1 with z | z
  ·exact hx z
  ·exact absurd (Yj (YX e) z) (Za _)
 have cellK:∀ x c,X.env.cells.lookup x=some c->∀ v,s.heap.IsCell c v->h'.IsCell c v:=fun x c e v ⟨o,ho,hd⟩=>by
  have nch:c∉ch:=fun z=>(hch c z).2.2.1 x c e rfl
  by_cases hc:c∈X.fs
  ·obtain ⟨sl,q⟩:=slot c o (I.cne x c e) hc nch ho (I.freeC x c e);exact ⟨_,q,hd⟩
  ·exact ⟨o,keep c o (I.cne x c e) hc nch ho (I.freeC x c e),hd⟩
 refine ⟨I.ok,I.os,hg,⟨fun b o e n hb hx=>?_,fun b o e n hb hx=>?_,fun b o e n hx=>?_,fun b o e hx=>?_,fun b xs e=>tups b xs (I.base.tups b xs e),fun b o xs e=>frzs b o xs (I.base.frzs b o xs e),fun b ps e=>?_⟩,?_,fun x c e=>?_,?_,fun x c e=>?_,fun p hp=>?_,hok,I.len⟩
 ·exact keep b o (neL b o e) hb (neC b o e hx) (I.base.keep b o e n hb hx) (I.base.free b o e n hx)
 ·obtain ⟨sl,e1⟩:=I.base.slot b o e n hb hx;obtain ⟨sl',e2⟩:=slot b _ (neL b o e) hb (neC b o e hx) e1 (I.base.free b o e n hx);exact ⟨sl',e2⟩
 ·obtain ⟨o',e1⟩:=I.base.there b o e hx;exact free b o' (neC b o e hx) e1 (I.base.free b o e n hx)
 ·obtain ⟨o',e1⟩:=I.base.there b o e hx;exact there b o' (neC b o e hx) e1
 ·obtain ⟨m1,e1⟩:=I.base.tbls b ps e;obtain ⟨m2,e2⟩:=tbls b _ e1;exact ⟨m1++m2,by rw [e2,Array.append_assoc]⟩
 ·obtain ⟨m,hn,hl⟩:=I.loc;refine ⟨m,ns m hn,fun i x v e1 e2 e3=>?_⟩;obtain ⟨u,r,l⟩:=hl i x v e1 e2 e3;refine ⟨u,r,?_⟩;rcases l with l | ⟨k,c,e,z⟩
  ·exact .inl l
  ·exact .inr ⟨k,c,e,cellK x c e _ z⟩
 ·obtain ⟨v,z⟩:=I.cell x c e;exact ⟨v,cellK x c e v z⟩
 ·obtain ⟨m,⟨o,_,_,ho,_⟩,_⟩:=I.loc;exact free _ o (fun z=>(hch _ z).2.1 rfl) ho I.free
 ·obtain ⟨v,o,ho,hd⟩:=I.cell x c e;exact free c o (fun z=>(hch c z).2.2.1 x c e rfl) ho (I.freeC x c e)
 ·obtain ⟨e,n,ne,nf,d⟩:=I.pin p hp;have nch:p.1∉ch:=fun z=>(hch p.1 z).2.2.2 p hp rfl;exact ⟨keep p.1 p.2 ne nf nch e n,free p.1 p.2 nch e n,ne,nf,d⟩
theorem aQ.un {t':Nat}(I:aQ X pins σ H s)(u:Un X.fs [] H H' s.heap h')(hok:oY X.prog X.w H' h'):aQ X pins σ H' { s with heap:=h',toks:=t' }:=by
 obtain ⟨m,⟨o,es,ep,ho,r⟩,_⟩:=id I.loc;obtain ⟨sl,hL⟩:=u.any ho I.free (by simp);exact I.step (g':=s.gens) (d':=s.drawn) (ch:=[]) (fun _ z=>nomatch z) (fun b o _ hb _ e n=>u.keep b o e n hb (by simp)) (fun b o _ hb _ e n=>u.slot b o e n hb (by simp)) (fun b o _ e n=>u.free b o e n (by simp)) (fun b o _ e=>u.there b o e (by simp)) u.tups u.frzs u.tbls (fun m' hm=>by
  obtain ⟨o',es',ep',ho',r'⟩:=hm;rw [ho] at ho'; cases ho';exact ⟨_,es',ep',hL,r'⟩) hok I.bare
theorem aQ.call {g':Array GenState}{t':Nat}{d':Drawn}{ch:List Addr}(I:aQ X pins σ H s)(u:Un (Fx X.stack) ch H H' s.heap h')(hok:oY X.prog X.w H' h')(hg:AllBare g')
  (hch:∀ b∈ch,(b∈X.ex∨X.s₀.heap.objs.size<=b)/\b≠X.env.locals/\(∀ x c,X.env.cells.lookup x=some c->c≠b)/\∀ p∈X.pn++pins,p.1≠b) :
  aQ X pins σ H' { s with heap:=h',gens:=g',drawn:=d',toks:=t' }:=by
 obtain ⟨m,⟨o,es,ep,ho,r⟩,_⟩:=id I.loc;obtain ⟨sl,hL⟩:=u.any ho I.free fun z=>(hch _ z).2.1 rfl;exact I.step (ch:=ch) hch (fun b o hL hb hc e n=>u.keep b o e n (fun z=>(Yn.mp (I.stkSub b z)).elim hL hb) hc) (fun b o _ _ hc e n=>u.any e n hc) (fun b o hc e n=>u.free b o e n hc) (fun b o hc e=>u.there b o e hc) u.tups u.frzs u.tbls (fun m' hm=>by
  obtain ⟨o',es',ep',ho',r'⟩:=hm;rw [ho] at ho'; cases ho';exact ⟨_,es',ep',hL,r'⟩) hok hg
theorem aQ.turned {t':Nat}{it:Addr}(I:aQ X pins σ H s)(k:∀ b o,b≠it->s.heap.get? b=some o->h'.get? b=some o)(hn:H it=none)(hL:it≠X.env.locals)
  (h1:it∈X.ex∨X.s₀.heap.objs.size<=it) (h2:∀ x c,X.env.cells.lookup x=some c->c≠it) (h3:∀ p∈X.pn++pins,p.1≠it):aQ X pins σ H { s with heap:=h',toks:=t' }:=by
 have nit:∀ b u,H b=some u->b≠it:=fun b u e z=>by rw [z,hn] at e; cases e
 refine I.step (g':=s.gens) (d':=s.drawn) (ch:=[it]) (fun b hb=>?_) (fun b o _ _ hc e _=>k b o (fun z=>hc (by simp [z])) e) (fun b o _ _ hc e _=>⟨o.slots,k b o (fun z=>hc (by simp [z])) e⟩) (fun _ _ _ _ n=>n)
  (fun b o hc e=>⟨o,k b o (fun z=>hc (by simp [z])) e⟩) (fun _ _ e=>e) (fun _ _ _ e=>e) (fun b ps e=>⟨#[],by rw [e]; simp⟩) (fun m hm=>?_) (fun b u e=>?_) I.bare
 ·have e:b=it:=by simpa using hb
  subst e;exact ⟨h1,hL,h2,h3⟩
 ·obtain ⟨o,es,ep,ho,r⟩:=hm;exact ⟨o,es,ep,k _ o (Ne.symm hL) ho,r⟩
 ·refine (I.hok b u e).stay (fun c v hc q=>k c v ?_ q) (fun _ q=>q) fun _ _ q=>q;rcases hc with z | z
  ·rw [z]; exact nit b u e
  ·exact nit c _ z
theorem aQ.tok (I:aQ X pins σ H s)(t:Nat):aQ X pins σ H { s with toks:=t }:=I.un (h':=s.heap) (t':=t) Un.refl I.hok
theorem aQ.kept {t':Nat}(I:aQ X pins σ H s)(k:∀ b u,s.heap.get? b=some u->h'.get? b=some u):aQ X pins σ H { s with heap:=h',toks:=t' }:=I.un (Un.kept k) (I.hok.kept k)
theorem aQ.laid {a:Addr}{o:HO}{t':Nat}(I:aQ X pins σ H s)(k:∀ b u,s.heap.get? b=some u->h'.get? b=some u)(hp:s.heap.objs.size<=a)(new:cJ X.prog X.w (bN H a o) h' a o) :
  aQ X pins σ (bN H a o) { s with heap:=h',toks:=t' }:=I.un (Un.laid k hp (I.hok.fresh hp)) (I.hok.laid k hp new)
theorem aQ.write {x e:Addr}{o:HO}{t':Nat}(I:aQ X pins σ H s)(mu:Ph (H x))(he:e=x∨H e=some (.own x))(k:∀ b u,b≠e->s.heap.get? b=some u->h'.get? b=some u)(heo:∃ u,h'.get? e=some u)
  (new:cJ X.prog X.w (bN H x o) h' x o):aQ X pins σ (bN H x o) { s with heap:=h',toks:=t' }:=I.un (Un.write mu he k heo) (I.hok.write mu he k heo new)
theorem aQ.pins_of {pins':List (Addr×Obj)}(I:aQ X pins σ H s)(h:∀ p∈pins',s.heap.get? p.1=some p.2/\H p.1=none/\p.1≠X.env.locals/\p.1∉X.fs/\∀ v,p.2.data≠.cell v):aQ X pins' σ H s :=
 ⟨I.ok,I.os,I.bare,I.base,I.loc,I.cell,I.free,I.freeC,fun p hp=>(Ye.mp hp).elim (fun z=>I.pin p (ZQ _ z)) (h p),I.hok,I.len⟩
theorem wU {N:List Str}(hN:N.Nodup){i j:Nat}{x:Str}(a:N[i]? = some x)(b:N[j]? = some x):i=j:=by
 obtain ⟨h1,e1⟩:=Yp.mp a;obtain ⟨h2,e2⟩:=Yp.mp b;exact (List.getElem_inj hN).mp (e1.trans e2.symm)
theorem sZ {M:Model}{A:Around}{E:Value->Shared->Prop}{i:Nat}{x:Str}{v:V}{u:Value}{Q:Unit->Shared->Prop}(I:aQ X pins σ H s)(hN:X.N.Nodup)(hi:X.N[i]? = some x)(hx:Loc X.env.scope x)(r:RelV v u)
  (h:∀ s',aQ X pins (σ.set i (some v)) H s'->(∃ a,Ym a s.heap s'.heap/\(a=X.env.locals∨X.env.cells.lookup x=some a))->Q () s') (hf:X.fn x=true∨X.env.scope.names.lookup x=some .local:=by first | exact .inl rfl | exact .inr rfl | assumption):wpAny M A (storeName X.env x u) Q E s:=by
 obtain ⟨m,hn,hl⟩:=id I.loc;have hcls:(X.env.scope.kind==.class||(X.env.scope.kind==.module&&X.env.locals != X.env.globals))=false:=by rw [I.ok.kind]; rfl
 have hiσ:i < σ.length:=by rw [I.len]; exact (Yp.mp hi).1
 have cne:=I.cne;have tracked:∀ {a:Addr}{h':Heap},(∃ o,s.heap.get? a=some o/\H a=none)->Ym a s.heap h'->oY X.prog X.w H h':=fun {a h'} ha hs b ob e=>by
  obtain ⟨_,_,hfree⟩:=ha;refine (I.hok b ob e).stay (fun c w' hc q=>(hs.2 c ?_).trans q) (fun _ q=>q) fun _ _ q=>q;rintro rfl;rcases hc with rfl | hc
  ·rw [hfree] at e; cases e
  ·rw [hfree] at hc; cases hc
 rcases hx with hk | hk
 ·refine wpAny_storeName_local hk hn (fun h' hn' hs=>?_) hcls;obtain ⟨oL,_,_,hoL,_⟩:=id hn;refine h _ ⟨I.ok,I.os,I.bare,⟨fun b o e n hb hx=>?_,fun b o e n hb hx=>?_,I.base.free,fun b o e hx=>?_,I.base.tups,I.base.frzs,I.base.tbls⟩,⟨_,hn',fun j y v' e1 e2 e3=>?_⟩,fun y c e=>?_,I.free,I.freeC,fun p hp=>?_,tracked ⟨oL,hoL,I.free⟩ hs,by simpa using I.len⟩ ⟨_,hs,.inl rfl⟩
  ·exact (hs.2 b (Yd (Yj (YX e) I.ok.above))).trans (I.base.keep b o e n hb hx)
  ·obtain ⟨sl,e1⟩:=I.base.slot b o e n hb hx;exact ⟨sl,(hs.2 b (Yd (Yj (YX e) I.ok.above))).trans e1⟩
  ·obtain ⟨o',e1⟩:=I.base.there b o e hx;exact ⟨o',(hs.2 b (Yd (Yj (YX e) I.ok.above))).trans e1⟩
  ·by_cases hj:j=i
   ·subst hj;rw [hi] at e1; cases e1;rw [aAu hiσ] at e2;cases e2;exact ⟨u,r,.inl ⟨hk,by simp⟩⟩
   ·rw [aAE (Ne.symm hj)] at e2;obtain ⟨u',r',q⟩:=hl j y v' e1 e2 e3;refine ⟨u',r',?_⟩;rcases q with ⟨k,e⟩ | ⟨k,c,e,z⟩
    ·refine .inl ⟨k,?_⟩;have:y≠x:=fun e=>hj (wU hN e1 (e ▸ hi));simp [this,e]
    ·exact .inr ⟨k,c,e,z.sameBut hs (cne y c e)⟩
  ·obtain ⟨w',z⟩:=I.cell y c e;exact ⟨w',z.sameBut hs (cne y c e)⟩
  ·obtain ⟨e,n,ne,nf,d⟩:=I.pin p hp;exact ⟨(hs.2 p.1 ne).trans e,n,ne,nf,d⟩
 ·have hfn:X.fn x=true:=by
   rcases hf with z | z
   ·exact z
   ·rw [z] at hk; cases hk
  obtain ⟨c,hc⟩:=I.ok.has x (.inl hk);obtain ⟨w',z⟩:=I.cell x c hc;refine wpAny_storeName_cell I.ok.kind hk hc z (fun h' hc' hs=>?_);obtain ⟨oc,hoc,hocd⟩:=id z;refine h { s with heap:=h' } ⟨I.ok,I.os,I.bare,⟨fun b o e n hb hx=>?_,fun b o e n hb hx=>?_,I.base.free,fun b o e hx=>?_,I.base.tups,I.base.frzs,I.base.tbls⟩,⟨m,hn.sameBut hs (Ne.symm (cne x c hc)),fun j y v' e1 e2 e3=>?_⟩,fun y c' e=>?_,I.free,I.freeC,fun p hp=>?_,tracked ⟨oc,hoc,I.freeC x c hc⟩ hs,by simpa using I.len⟩ ⟨c,hs,.inr hc⟩
  ·exact (hs.2 b (Yd (Yj (YX e) (I.ok.cab x c hfn hc)))).trans (I.base.keep b o e n hb hx)
  ·obtain ⟨sl,e1⟩:=I.base.slot b o e n hb hx;exact ⟨sl,(hs.2 b (Yd (Yj (YX e) (I.ok.cab x c hfn hc)))).trans e1⟩
  ·obtain ⟨o',e1⟩:=I.base.there b o e hx;exact ⟨o',(hs.2 b (Yd (Yj (YX e) (I.ok.cab x c hfn hc)))).trans e1⟩
  ·by_cases hj:j=i
   ·subst hj;rw [hi] at e1; cases e1;rw [aAu hiσ] at e2;cases e2;exact ⟨u,r,.inr ⟨.inl hk,c,hc,hc'⟩⟩
   ·rw [aAE (Ne.symm hj)] at e2;obtain ⟨u',r',q⟩:=hl j y v' e1 e2 e3;refine ⟨u',r',?_⟩;rcases q with q | ⟨k,c',e,z'⟩
    ·exact .inl q
    ·refine .inr ⟨k,c',e,z'.sameBut hs ?_⟩;rintro rfl;exact hj (wU hN e1 (I.ok.inj _ _ _ e hc ▸ hi))
  ·by_cases hcc:c'=c
   ·subst hcc; exact ⟨_,hc'⟩
   ·obtain ⟨w2,z2⟩:=I.cell y c' e;exact ⟨w2,z2.sameBut hs hcc⟩
  ·obtain ⟨e,n,ne,nf,d⟩:=I.pin p hp;refine ⟨(hs.2 p.1 ?_).trans e,n,ne,nf,d⟩;intro q;rw [q,hoc] at e;have q':oc=p.2:=Z1.inj e;exact d w' (by rw [<- q']; exact hocd)
theorem mC {M:Model}{A:Around}{E:Value->Shared->Prop}{i:Nat}{x:Str}{v:V}{u:Value}{Q:Unit->Shared->Prop}(I:aQ X pins σ H s)(hN:X.N.Nodup)(hi:X.N[i]? = some x)(hx:Loc X.env.scope x)(r:RelV v u)
  (h:∀ s',aQ X pins (σ.set i (some v)) H s'->Q () s') (hf:X.fn x=true∨X.env.scope.names.lookup x=some .local:=by first | exact .inl rfl | exact .inr rfl | assumption):wpAny M A (storeName X.env x u) Q E s :=
 sZ I hN hi hx r (fun s' I' _=>h s' I') hf
theorem aQ.call' {s':Shared}{ch:List Addr}(I:aQ X pins σ H s)(ho:s'.os=s.os)(u:Un (Fx X.stack) ch H H' s.heap s'.heap)(hok:oY X.prog X.w H' s'.heap)(hg:AllBare s'.gens)
  (hch:∀ b∈ch,(b∈X.ex∨X.s₀.heap.objs.size<=b)/\b≠X.env.locals/\(∀ x c,X.env.cells.lookup x=some c->c≠b)/\∀ p∈X.pn++pins,p.1≠b):aQ X pins σ H' s':=by
 obtain ⟨h',g',d',t',o'⟩:=s';have e:o'=s.os:=ho;subst e;exact I.call (g':=g') (t':=t') (d':=d') u hok hg hch
end
abbrev XK:=Value->Option Addr->Hp->Prop
abbrev St:=List (Option V)
abbrev VK:=V->Hp->Prop
abbrev TE:=St->Hp->VK->Prop
abbrev TT:=St->Hp->(Bool->Hp->Prop)->Prop
abbrev TA:=St->Hp->(List V->Hp->Prop)->Prop
structure Ends where
 nx:St->Hp->Prop
 rt:VK
 bk:St->Hp->Prop:=fun _ _=>False
 ct:St->Hp->Prop:=fun _ _=>False
abbrev TS:=Ends->St->Hp->Prop
def EP (X:Cx)(pins:List (Addr×Obj))(σ:St)(Q:VK)(u:Value)(s':Shared):Prop:=∃ v H',aQ X pins σ H' s'/\RelV v u/\Q v H'
def TP (X:Cx)(pins:List (Addr×Obj))(σ:St)(Q:Bool->Hp->Prop)(b:Bool)(s':Shared):Prop:=∃ H',aQ X pins σ H' s'/\Q b H'
def AP (X:Cx)(pins:List (Addr×Obj))(σ:St)(Q:List V->Hp->Prop)(us:List Value)(s':Shared):Prop:=∃ vs H',aQ X pins σ H' s'/\bL vs us/\Q vs H'
def SP (X:Cx)(pins:List (Addr×Obj))(D:Ends)(f:Flow)(s':Shared):Prop :=
 match f with
 | .next=>∃ σ' H',aQ X pins σ' H' s'/\D.nx σ' H'
 | .brk=>∃ σ' H',aQ X pins σ' H' s'/\D.bk σ' H'
 | .cont=>∃ σ' H',aQ X pins σ' H' s'/\D.ct σ' H'
 | .ret u=>∃ v σ' H',aQ X pins σ' H' s'/\RelV v u/\D.rt v H'
def PE (X:Cx)(e:Expr)(t:TE):Prop :=
 ∀ (pins:List (Addr×Obj)) (s:Shared) (σ:St) (H:Hp) (Q:VK),aQ X pins σ H s->t σ H Q->wpAny (model X.prog X.w) X.A (eval e X.env) (EP X pins σ Q) X.xe s
def PT (X:Cx)(e:Expr)(t:TT):Prop :=
 ∀ (pins:List (Addr×Obj)) (s:Shared) (σ:St) (H:Hp) (Q:Bool->Hp->Prop),aQ X pins σ H s->t σ H Q->wpAny (model X.prog X.w) X.A (isTrue e X.env (eval e X.env)) (TP X pins σ Q) X.xe s
def PW (X:Cx)(e:Expr)(t:TT):Prop :=
 ∀ (whole:Sem Value) (pins:List (Addr×Obj)) (s:Shared) (σ:St) (H:Hp) (Q:Bool->Hp->Prop),aQ X pins σ H s->t σ H Q->wpAny (model X.prog X.w) X.A (isTrue e X.env whole) (TP X pins σ Q) X.xe s
theorem PW.pt {X:Cx}{e:Expr}{t:TT}(h:PW X e t):PT X e t:=h _
def PA (X:Cx)(es:List Expr)(t:TA):Prop :=
 ∀ (pos:Pos) (pins:List (Addr×Obj)) (s:Shared) (σ:St) (H:Hp) (Q:List V->Hp->Prop),aQ X pins σ H s->t σ H Q->wpAny (model X.prog X.w) X.A (spliced (backTo pos (starEach es X.env))) (AP X pins σ Q) X.xe s
def PS (X:Cx)(st:Stmt)(t:TS):Prop :=
 ∀ (pins:List (Addr×Obj)) (s:Shared) (σ:St) (H:Hp) (D:Ends),aQ X pins σ H s->t D σ H->wpAny (model X.prog X.w) X.A (exec st X.env) (SP X pins D) X.xe s
def Aa (X:Cx)(st:List Stmt)(t:TS):Prop :=
 ∀ (pins:List (Addr×Obj)) (s:Shared) (σ:St) (H:Hp) (D:Ends),aQ X pins σ H s->t D σ H->wpAny (model X.prog X.w) X.A (execs st X.env) (SP X pins D) X.xe s
theorem cM {α:Type}{t:Sem α}{Q Q':α->Shared->Prop}{M:Model}{A:Around}{E:Value->Shared->Prop}{s:Shared}(h:wpAny M A t Q E s)(hQ:∀ a s,Q a s->Q' a s):wpAny M A t Q' E s:=wpAny_mono h hQ fun _ _ x=>x
section
variable {X:Cx}
theorem Vu {a b:Expr}{ta tb:TE}(ha:PE X a ta)(hb:PE X b tb){pins:List (Addr×Obj)}{s:Shared}{σ:St}{H:Hp}{R:V->V->Hp->Prop}(I:aQ X pins σ H s)(h:ta σ H fun x H1=>tb σ H1 fun y H2=>R x y H2)
  {α:Type}{Q:α->Shared->Prop}{f:Value->Value->Sem α}
  (hf:∀ v u s2 x y H2,aQ X pins σ H2 s2->RelV x v->RelV y u->R x y H2->wpAny (model X.prog X.w) X.A (f v u) Q X.xe s2) :
  wpAny (model X.prog X.w) X.A (eval a X.env) (fun v s₁=>wpAny (model X.prog X.w) X.A (eval b X.env) (fun u s₂=>wpAny (model X.prog X.w) X.A (f v u) Q X.xe s₂) X.xe s₁) X.xe s:=by
 refine cM (ha pins s σ H _ I h) fun v s1 ⟨x,H1,I1,r1,q1⟩=>?_;refine cM (hb pins s1 σ H1 _ I1 q1) fun u s2 ⟨y,H2,I2,r2,q2⟩=>?_;exact hf v u s2 x y H2 I2 r1 r2 q2
def KY (i:Nat):TE:=fun σ H Q=>∃ v,σ[i]? = some (some v)/\Q v H
def tC (v:V):TE:=fun _ H Q=>Q v H
theorem Ej {i:Nat}{x:Str}{pos:Pos}(hN:X.N[i]? = some x)(hv:Pb X.env.scope x)(hd:(x==("__debug__" : Str))=false:=by decide)(hcd:(x==("__classdict__" : Str))=false:=by decide):PE X (.Name x pos) (KY i):=by
 intro pins s σ H Q I h;obtain ⟨v,e,h⟩:=h;obtain ⟨m,hn,hl⟩:=I.loc;obtain ⟨u,r,l⟩:=hl i x v hN e hv;have fin:EP X pins σ Q u s:=⟨v,H,I,r,h⟩
 rcases l with ⟨hk,hm⟩ | ⟨hk,c,hc,hcell⟩
 ·exact wpAny_Name (wpAny_loadName_local I.ok.kind hk hn hm fin) hd
 ·rcases hk with hk | hk
  ·exact wpAny_Name (wpAny_loadName_cell I.ok.kind hk hc hcell fin) hd
  ·exact wpAny_Name (wpAny_loadName_free I.ok.kind hk hc hcell fin hcd) hd
theorem aB {i j pos}:PE X (.Constant (.int i) j pos) (tC (.int i)):=fun _ _ _ H _ I h=>wpAny_Constant_int ⟨.int i,H,I.tok _,⟨_,rfl⟩,h⟩
theorem d7 {b j pos}:PE X (.Constant (.bool b) j pos) (tC (.bl b)):=fun _ _ _ H _ I h=>Constant_bool ⟨.bl b,H,I,rfl,h⟩
theorem lC {x j pos}:PE X (.Constant (.str x) j pos) (tC (.str x)):=fun _ _ _ H _ I h=>Calls.Constant_str ⟨.str x,H,I.tok _,⟨_,rfl⟩,h⟩
def Gl (X:Cx)(x:Str):Prop:=X.env.kindOf x=some .globalImplicit
theorem tX {E:Value->Shared->Prop}{pins:List (Addr×Obj)}{s:Shared}{σ:St}{H:Hp}{x:Str}{u:Value}{pos:Pos}{Q:Value->Shared->Prop}(I:aQ X pins σ H s)(hg:Gl X x)(hm:X.mg x=some u)(h:Q u s)
  (hd:(x==("__debug__" : Str))=false:=by decide):wpAny (model X.prog X.w) X.A (eval (.Name x pos) X.env) Q E s :=
 Calls.Name_function_global I.ok.kind hg (Calls.loadGlobal_global (by rw [I.ok.glob]; exact I.mod.glob.keeps I.bk) hm h) hd
theorem jJ {E:Value->Shared->Prop}{pins:List (Addr×Obj)}{s:Shared}{σ:St}{H:Hp}{x:Str}{u:Value}{pos:Pos}{Q:Value->Shared->Prop}(I:aQ X pins σ H s)(hg:Gl X x)(hm:X.mg x=none)(hv:bootBuiltins x=some u)(h:Q u s)
  (hn:x≠"__name__":=by decide) (hd:(x==("__debug__" : Str))=false:=by decide):wpAny (model X.prog X.w) X.A (eval (.Name x pos) X.env) Q E s:=by
 obtain ⟨mb,h1,h2⟩:=I.mod.blt;exact Calls.Name_function_global I.ok.kind hg (Calls.loadGlobal_builtin (by rw [I.ok.glob]; exact I.mod.glob.keeps I.bk) hm (by rw [I.ok.blt]; exact h1.keeps I.bk) ((h2 x hn).trans hv) h) hd
theorem eV {x:Str}{v:V}{u:Value}{pos:Pos}(hg:Gl X x)(hm:X.mg x=some u)(r:RelV v u)(hd:(x==("__debug__" : Str))=false:=by decide):PE X (.Name x pos) (tC v) :=
 fun _ _ _ H _ I h=>tX I hg hm ⟨v,H,I,r,h⟩ hd
theorem pC {x:Str}{v:V}{u:Value}{pos:Pos}(hg:Gl X x)(hm:X.mg x=none)(hv:bootBuiltins x=some u)(r:RelV v u)(hn:x≠"__name__":=by decide)(hd:(x==("__debug__" : Str))=false:=by decide):PE X (.Name x pos) (tC v) :=
 fun _ _ _ H _ I h=>jJ I hg hm hv ⟨v,H,I,r,h⟩ hn hd
variable {a b:Expr}{ta tb:TE}{pos:Pos}
def PC (X:Cx)(op:CmpOp)(a b:Expr)(t:TE):Prop :=
 ∀ (pins:List (Addr×Obj)) (s:Shared) (σ:St) (H:Hp) (Q:VK),aQ X pins σ H s->t σ H Q ->
  wpAny (model X.prog X.w) X.A (eval a X.env) (fun v s₁=>wpAny (model X.prog X.w) X.A (eval b X.env) (fun u s₂=>wpAny (model X.prog X.w) X.A (compareOp op v u) (EP X pins σ Q) X.xe s₂) X.xe s₁) X.xe s
theorem Fg (b:Expr){op:CmpOp}(h:op≠.In)(h2:op≠.NotIn):behindInMarks op b=false:=by
 have e1:(op==CmpOp.In)=false:=by cases op <;> first | rfl | exact absurd rfl h
 have e2:(op==CmpOp.NotIn)=false:=by cases op <;> first | rfl | exact absurd rfl h2
 cases b <;> simp [behindInMarks,e1,e2]
def tB (t:TE):TT:=fun σ H Q=>t σ H fun x H1=>∃ c,x=.bl c/\Q c H1
theorem RD {op:CmpOp}{t:TE}(h:PC X op a b t)(h1:behindInMarks op b=false:=by first | exact Fg _ (by decide) (by decide) | rfl):PT X (.Compare a [op] [b] pos) (tB t):=by
 intro pins s σ H Q I hw;refine wpAny_isTrue_Compare1 (cM (h pins s σ H _ I hw) fun v s1 h1=>cM h1 fun u s2 h2=>cM h2 fun c s3 ⟨x,H1,I1,r1,q1⟩=>?_) h1;obtain ⟨d,rfl,q⟩:=q1;cases r1;exact wpAny_truthy_bool ⟨H1,I1,q⟩
theorem cU {e:Expr}{t:TE}(h:PE X e t)(he:∀ whole,isTrue e X.env whole=(do let v <- whole; standAt e.pos; holding [v] (truthy v)):=by intro _; rfl):PT X e (tB t):=by
 intro pins s σ H Q I hw;refine isTrue_plain (cM (h pins s σ H _ I hw) fun v s1 ⟨x,H1,I1,r1,q1⟩=>?_) (he _);obtain ⟨d,rfl,q⟩:=q1;cases r1;exact wpAny_truthy_bool ⟨H1,I1,q⟩
variable {tA tB':TT}{rest:List Expr}
def Rg (t u:TT):TT:=fun σ H Q=>t σ H fun c H1=>if c=true then u σ H1 Q else Q false H1
def Ur (t u:TT):TT:=fun σ H Q=>t σ H fun c H1=>if c=true then Q true H1 else u σ H1 Q
def Pz (t:TT):TT:=fun σ H Q=>t σ H fun c H1=>Q (!c) H1
theorem eY (ha:PT X a tA):PW X (.BoolOp .And [a] pos) tA:=by
 intro wh pins s σ H Q I h;refine isTrue_and (cM (ha pins s σ H Q I h) fun c s1 e=>?_);cases c with
 | true=>exact isTrue_and_nil e
 | false=>exact e
theorem nJ (ha:PT X a tA):PW X (.BoolOp .Or [a] pos) tA:=by
 intro wh pins s σ H Q I h;refine isTrue_or (cM (ha pins s σ H Q I h) fun c s1 e=>?_);cases c with
 | false=>exact isTrue_or_nil e
 | true=>exact e
theorem fY (ha:PT X a tA)(hb:PW X (.BoolOp .And (b::rest) pos) tB'):PW X (.BoolOp .And (a::b::rest) pos) (Rg tA tB'):=by
 intro wh pins s σ H Q I h;refine isTrue_and (cM (ha pins s σ H _ I h) fun c s1 ⟨H1,I1,q1⟩=>?_);cases c with
 | true=>exact hb wh pins s1 σ H1 Q I1 q1
 | false=>exact ⟨H1,I1,q1⟩
theorem sW (ha:PT X a tA)(hb:PW X (.BoolOp .Or (b::rest) pos) tB'):PW X (.BoolOp .Or (a::b::rest) pos) (Ur tA tB'):=by
 intro wh pins s σ H Q I h;refine isTrue_or (cM (ha pins s σ H _ I h) fun c s1 ⟨H1,I1,q1⟩=>?_);cases c with
 | true=>exact ⟨H1,I1,q1⟩
 | false=>exact hb wh pins s1 σ H1 Q I1 q1
theorem iM (ha:PT X a tA):PT X (.UnaryOp .Not a pos) (Pz tA):=by
 intro pins s σ H Q I h;exact isTrue_not (ha pins s σ H (fun c H1=>Q (!c) H1) I h)
def M8 (ta tb:TE):TE:=fun σ H Q=>ta σ H fun x H1=>∃ c,x=.bl c/\if c=true then tb σ H1 Q else Q (.bl false) H1
def Nb (ta:TE):TE:=fun σ H Q=>ta σ H fun x H1=>∃ c,x=.bl c/\Q (.bl (!c)) H1
theorem Kc {op}{t:TE}(h:PE X a t):PE X (.BoolOp op [a] pos) t:=fun pins s σ H Q I hw=>BoolOp_one (h pins s σ H Q I hw)
theorem Fj (ha:PE X a ta)(hb:PE X (.BoolOp .And (b::rest) pos) tb):PE X (.BoolOp .And (a::b::rest) pos) (M8 ta tb):=by
 intro pins s σ H Q I h;refine BoolOp_and (cM (ha pins s σ H _ I h) fun v s1 ⟨x,H1,I1,r1,q1⟩=>?_);obtain ⟨c,rfl,q1⟩:=q1;cases r1;refine wpAny_truthy_bool ?_;cases c with
 | true=>exact hb pins s1 σ H1 Q I1 q1
 | false=>exact ⟨.bl false,H1,I1,rfl,q1⟩
theorem Jv (ha:PE X a ta):PE X (.UnaryOp .Not a pos) (Nb ta):=by
 intro pins s σ H Q I h;refine UnaryOp_ (cM (ha pins s σ H _ I h) fun v s1 ⟨x,H1,I1,r1,q1⟩=>?_);obtain ⟨c,rfl,q1⟩:=q1;cases r1;exact not_of (wpAny_truthy_bool ⟨.bl (!c),H1,I1,rfl,q1⟩)
end
def bJ (K:PySem.W.Frag)(H:Hp)(a:Addr)(xs:List V):Prop :=
 Rd H a (.lst xs) ∨
  ∃ (o:Obj) (its:Array Value) (n:Nat),K.lookup a=some o/\o.cls=.type "list"/\o.dict=none/\o.data=.seq its n/\its.size<=sizeLine/\bL xs its.toList
def dB (K:PySem.W.Frag)(H:Hp)(a:Addr)(xs:List V):Prop :=
 Rd H a (.tup xs) ∨
  ∃ (o:Obj) (its:Array Value) (n:Nat),K.lookup a=some o/\o.cls=.type "tuple"/\o.data=.seq its n/\its.size<=sizeLine/\bL xs its.toList
def Te:Value->Option V
 | .none=>some .non
 | .bool b=>some (.bl b)
 | .int i _=>some (.int i)
 | .str x _=>some (.str x)
 | .bytes b _=>some (.byt b)
 | .float b _=>some (.flt b)
 | .ref a=>some (.ref a)
 | .type n=>some (.ty n)
 | _=>none
theorem RelV.abs {x:V}{u:Value}(r:RelV x u):Te u=some x:=by
 cases x with
 | non=>cases r; rfl
 | bl _=>cases r; rfl
 | int _=>obtain ⟨t,rfl⟩:=r; rfl
 | str _=>obtain ⟨t,rfl⟩:=r; rfl
 | byt _=>obtain ⟨t,rfl⟩:=r; rfl
 | flt _=>obtain ⟨t,rfl⟩:=r; rfl
 | ref _=>cases r; rfl
 | ty _=>cases r; rfl
theorem RelV.inj {x y:V}{u:Value}(r:RelV x u)(q:RelV y u):x=y:=Z1.inj (r.abs.symm.trans q.abs)
theorem bL.inj:∀ {xs ys:List V}{us:List Value},bL xs us->bL ys us->xs=ys
 | _,_,_,.nil,.nil=>rfl
 | _,_,_,.cons r t,.cons r' t'=>by rw [r.inj r',bL.inj t t']
section
variable {X:Cx}{pins:List (Addr×Obj)}{σ:St}{H:Hp}{s:Shared}{a:Addr}{xs ys:List V}
theorem bJ.of {K:PySem.W.Frag}(h:H a=some (.lst xs)):bJ K H a xs:=.inl (.inl h)
theorem dB.of {K:PySem.W.Frag}(h:H a=some (.tup xs)):dB K H a xs:=.inl (.inl h)
theorem aQ.list (I:aQ X pins σ H s)(h:bJ X.K H a xs):∃ its:List Value,bL xs its/\PlainL s.heap a its.toArray/\xs.length<=sizeLine:=by
 rcases h with h | ⟨o,its,n,hk,hc,hd,hs,hz,r⟩
 ·obtain ⟨z,its,n,r,e⟩:=h.ok I.hok;exact ⟨its,r,⟨_,n,e,rfl,rfl,rfl⟩,z⟩
 ·refine ⟨its.toList,r,⟨o,n,I.kIn a o hk,hc,hd,by simpa using hs⟩,?_⟩;have e:=r.length;simp only [YW] at e;omega
theorem aQ.tuple (I:aQ X pins σ H s)(h:dB X.K H a xs):∃ its:List Value,bL xs its/\IsTup s.heap a its.toArray/\xs.length<=sizeLine:=by
 rcases h with h | ⟨o,its,n,hk,hc,hs,hz,r⟩
 ·obtain ⟨z,its,r,p⟩:=h.ok I.hok;exact ⟨its,r,p,z⟩
 ·refine ⟨its.toList,r,⟨o,I.kIn a o hk,hc,n,by simpa using hs⟩,?_⟩;have e:=r.length;simp only [YW] at e;omega
theorem aQ.list_inj (I:aQ X pins σ H s)(h:bJ X.K H a xs)(h':bJ X.K H a ys):xs=ys:=by
 obtain ⟨its,r,⟨o,n,e,_,_,d⟩,_⟩:=I.list h;obtain ⟨its',r',⟨o',n',e',_,_,d'⟩,_⟩:=I.list h';rw [e] at e'; cases e';rw [d] at d';injection d' with d1 _
 have:its=its':=by simpa using congrArg Array.toList d1
 subst this;exact r.inj r'
theorem aQ.tuple_inj (I:aQ X pins σ H s)(h:dB X.K H a xs)(h':dB X.K H a ys):xs=ys:=by
 obtain ⟨its,r,⟨o,e,_,n,d⟩,_⟩:=I.tuple h;obtain ⟨its',r',⟨o',e',_,n',d'⟩,_⟩:=I.tuple h';rw [e] at e'; cases e';rw [d] at d';injection d' with d1 _
 have:its=its':=by simpa using congrArg Array.toList d1
 subst this;exact r.inj r'
end
abbrev Cx.wish (X:Cx)(E:Value->Shared->Prop):Cx:={ X with xe:=E }
abbrev Cx.nox (X:Cx):Cx:=X.wish fun _ _=>False
theorem Cx.Ok.wish {X:Cx}(ok:X.Ok)(E:Value->Shared->Prop):(X.wish E).Ok :=
 ⟨ok.mod,ok.kind,ok.glob,ok.blt,ok.above,ok.inj,ok.has,ok.cab,ok.hd,ok.frames,ok.stk,ok.exf,ok.bs,ok.bsz,ok.noex,ok.exfs,ok.funs,ok.frf⟩
theorem Cx.Ok.unwish {X:Cx}{E:Value->Shared->Prop}(ok:(X.wish E).Ok):X.Ok :=
 ⟨ok.mod,ok.kind,ok.glob,ok.blt,ok.above,ok.inj,ok.has,ok.cab,ok.hd,ok.frames,ok.stk,ok.exf,ok.bs,ok.bsz,ok.noex,ok.exfs,ok.funs,ok.frf⟩
section
variable {X:Cx}{pins:List (Addr×Obj)}{σ:St}{H:Hp}{s:Shared}{E:Value->Shared->Prop}
theorem aQ.wish (I:aQ X pins σ H s)(E:Value->Shared->Prop):aQ (X.wish E) pins σ H s:=⟨I.ok.wish E,I.os,I.bare,I.base,I.loc,I.cell,I.free,I.freeC,I.pin,I.hok,I.len⟩
theorem aQ.unwish (I:aQ (X.wish E) pins σ H s):aQ X pins σ H s:=⟨I.ok.unwish,I.os,I.bare,I.base,I.loc,I.cell,I.free,I.freeC,I.pin,I.hok,I.len⟩
theorem SP.unwish {D:Ends}{f:Flow}{s':Shared}(h:SP (X.wish E) pins D f s'):SP X pins D f s':=by
 cases f with
 | next=>obtain ⟨σ',H',I,q⟩:=h; exact ⟨σ',H',I.unwish,q⟩
 | brk=>obtain ⟨σ',H',I,q⟩:=h; exact ⟨σ',H',I.unwish,q⟩
 | cont=>obtain ⟨σ',H',I,q⟩:=h; exact ⟨σ',H',I.unwish,q⟩
 | ret u=>obtain ⟨v,σ',H',I,r,q⟩:=h; exact ⟨v,σ',H',I.unwish,r,q⟩
theorem Aa.nox {st:List Stmt}{t:TS}(h:Aa X.nox st t):Aa X st t:=fun pins s σ H D I hw =>
 wpAny_mono (h pins s σ H D (I.wish _) hw) (fun _ _ q=>q.unwish) fun _ _ z=>False.elim z
end
section
variable {X:Cx}{st:Stmt}{rest:List Stmt}{t u:TS}{e:Expr}{te:TE}{pos:Pos}
def Ld:TS:=fun D σ H=>D.nx σ H
def Tc (t u:TS):TS:=fun D σ H=>t { D with nx:=u D } σ H
theorem aZ:Aa X [] Ld:=fun _ _ σ H _ I h=>wpAny_execs_nil ⟨σ,H,I,h⟩
theorem aF (h1:PS X st t)(h2:Aa X rest u):Aa X (st::rest) (Tc t u):=by
 intro pins s σ H D I h;refine wpAny_execs_cons (cM (h1 pins s σ H { D with nx:=u D } I h) fun f s1 q=>?_);cases f with
 | next =>
  obtain ⟨σ',H',I',q⟩:=q;exact h2 pins s1 σ' H' D I' q
 | ret v=>exact q
 | brk=>exact q
 | cont=>exact q
theorem aG (h1:PS X st t):Aa X [st] t:=by
 intro pins s σ H D I h;refine wpAny_execs_cons (cM (h1 pins s σ H D I h) fun f s1 q=>?_);cases f with
 | next=>exact wpAny_execs_nil q
 | ret v=>exact q
 | brk=>exact q
 | cont=>exact q
theorem aQ.quiet {pins:List (Addr×Obj)}{σ:St}{H:Hp}{s:Shared}(I:aQ X pins σ H s):interactive X.env=false:=by simp [interactive,I.ok.kind]
def N8 (te:TE):TS:=fun D σ H=>te σ H fun _ H1=>D.nx σ H1
theorem iI (he:PE X e te)(hs:swapsWith e none pos.line X.env=pure false:=by rfl):PS X (.Expr e pos) (N8 te):=by
 intro pins s σ H D I h;exact wpAny_Expr_any (cM (he pins s σ H _ I h) fun v s1 ⟨x,H1,I1,r1,q1⟩=>⟨σ,H1,I1,q1⟩) I.quiet hs
def Tg (te:TE):TS:=fun D σ H=>te σ H D.rt
theorem aU (he:PE X e te):PS X (.Return (some e) pos) (Tg te):=by
 intro pins s σ H D I h;exact wpAny_Return_some (cM (he pins s σ H _ I h) fun v s1 ⟨x,H1,I1,r1,q1⟩=>⟨x,σ,H1,I1,r1,q1⟩)
def Qs (c:TT)(t u:TS):TS:=fun D σ H=>c σ H fun b H1=>if b=true then t D σ H1 else u D σ H1
theorem bU {c:Expr}{a b:List Stmt}{tc:TT}(hc:PT X c tc)(ha:Aa X a t)(hb:Aa X b u):PS X (.If c a b pos) (Qs tc t u):=by
 intro pins s σ H D I h;refine wpAny_If (cM (hc pins s σ H _ I h) fun d s1 ⟨H1,I1,q1⟩=>?_);cases d with
 | true=>exact ha pins s1 σ H1 D I1 q1
 | false=>exact hb pins s1 σ H1 D I1 q1
def K1:TS:=fun _ _ _=>False
theorem mJ:PS X st K1:=fun _ _ _ _ _ _ h=>h.elim
end
abbrev TG:=V->St->Hp->(St->Hp->Prop)->Prop
abbrev JD:=List V->St->Hp->(St->Hp->Prop)->Prop
def PG (X:Cx)(target:Expr)(t:TG):Prop :=
 ∀ (pins:List (Addr×Obj)) (s:Shared) (σ:St) (H:Hp) (v:V) (u:Value) (Q:St->Hp->Prop),aQ X pins σ H s->RelV v u->t v σ H Q ->
  wpAny (model X.prog X.w) X.A (assign target X.env u) (fun _ s'=>∃ σ' H',aQ X pins σ' H' s'/\Q σ' H') X.xe s
def NZ (X:Cx)(ts:List Expr)(t:JD):Prop :=
 ∀ (pins:List (Addr×Obj)) (s:Shared) (σ:St) (H:Hp) (vs:List V) (us:List Value) (Q:St->Hp->Prop),aQ X pins σ H s->bL vs us->t vs σ H Q ->
  wpAny (model X.prog X.w) X.A (assignInOrder ((assignEach ts X.env).map (·.2)) us) (fun _ s'=>∃ σ' H',aQ X pins σ' H' s'/\Q σ' H') X.xe s
abbrev K4:=V->V->V->Hp->(Hp->Prop)->Prop
def M9 (X:Cx)(t:K4):Prop :=
 ∀ (pins:List (Addr×Obj)) (s:Shared) (σ:St) (H:Hp) (o i v:V) (ov iv u:Value) (Q:Hp->Prop),aQ X pins σ H s->RelV o ov->RelV i iv->RelV v u->t o i v H Q ->
  wpAny (model X.prog X.w) X.A (setItem ov iv u) (fun _ s'=>∃ H',aQ X pins σ H' s'/\Q H') X.xe s
section
variable {X:Cx}{pos:Pos}
def p7 (i:Nat):TG:=fun v σ H Q=>Q (σ.set i (some v)) H
theorem bA {i:Nat}{x:Str}(hN:X.N.Nodup)(hi:X.N[i]? = some x)(hx:Loc X.env.scope x)(hf:X.fn x=true∨X.env.scope.names.lookup x=some .local:=by first | exact .inl rfl | exact .inr rfl | assumption):PG X (.Name x pos) (p7 i):=by
 intro pins s σ H v u Q I r h;exact wpAny_assign_Name (mC I hN hi hx r (fun s' I'=>⟨_,H,I',h⟩) hf)
def Q6:JD:=fun vs σ H Q=>vs=[]/\Q σ H
def Nu (t:TG)(u:JD):JD:=fun vs σ H Q=>∃ v r,vs=v::r/\t v σ H fun σ' H'=>u r σ' H' Q
theorem uM:NZ X [] Q6:=by
 intro pins s σ H vs us Q I r h;obtain ⟨e,h⟩:=h;subst e;cases r;exact assignInOrder_nil ⟨σ,H,I,h⟩
theorem gK {e:Expr}{es:List Expr}{t:TG}{u:JD}(h1:PG X e t)(h2:NZ X es u)
  (hs:(assignEach (e::es) X.env).map (·.2)=assign e X.env::(assignEach es X.env).map (·.2):=by rfl):NZ X (e::es) (Nu t u):=by
 intro pins s σ H vs us Q I r h;obtain ⟨v,vr,e1,h⟩:=h;subst e1;cases r with
 | cons r rr =>
  rw [hs];refine assignInOrder_cons (cM (h1 pins s σ H _ _ _ I r h) fun _ s1 ⟨σ1,H1,I1,q1⟩=>?_);exact h2 pins s1 σ1 H1 _ _ Q I1 rr q1
def Nt (K:PySem.W.Frag)(n:Nat)(t:JD):TG:=fun v σ H Q=>∃ a xs,v=.ref a/\dB K H a xs/\xs.length=n/\t xs σ H Q
theorem yJ {es:List Expr}{k:Nat}{t:JD}{n:Nat}(hc:X.calm=true)(h:NZ X es t)
  (hn:(assignEach es X.env).length=n:=by rfl) (hst:(assignEach es X.env).findIdx? (·.1)=none:=by rfl):PG X (.Tuple es k pos) (Nt X.K n t):=by
 intro pins s σ H v u Q I r hw;obtain ⟨a,xs,e1,hq,hl,hw⟩:=hw;subst e1;cases r;obtain ⟨its,rv,ht,hz⟩:=I.tuple hq;refine assign_Tuple_tuple (I.ok.hd hc) ht (by simp [hn,<- hl,rv.length]) hst fun h' hx=>?_;have I1:aQ X pins σ H { s with heap:=h' }:=I.kept (t':=s.toks) fun b o e=>hx b o (Yd (YX e)) e;exact h pins _ σ H xs _ Q I1 (by simpa using rv) hw
def Qw (to ti:TE)(t:K4):TG:=fun v σ H Q=>to σ H fun o H1=>ti σ H1 fun i H2=>t o i v H2 fun H3=>Q σ H3
theorem Cz {o i:Expr}{to ti:TE}{t:K4}(ho:PE X o to)(hi:PE X i ti)(hs:M9 X t)
  (ha:∀ v,assign (.Subscript o i pos) X.env v=(do
   let ov <- holding [v] (eval o X.env)
   let iv <- holding [v,ov] (eval i X.env)
   standAt pos
   holding [v,ov,iv] (setItem ov iv v)
   release [v,ov,iv] []):=by intro _; rfl):PG X (.Subscript o i pos) (Qw to ti t):=by
 intro pins s σ H v u Q I r h;rw [ha];refine wpAny_bind (wpAny_holding (cM (ho pins s σ H _ I h) fun ov s1 ⟨x,H1,I1,r1,q1⟩=>?_));refine wpAny_bind (wpAny_holding (cM (hi pins s1 σ H1 _ I1 q1) fun iv s2 ⟨y,H2,I2,r2,q2⟩=>?_));refine wpAny_bind (wpAny_standAt (wpAny_bind (wpAny_holding (cM (hs pins s2 σ H2 x y v ov iv u _ I2 r1 r2 r q2) fun _ s3 ⟨H3,I3,q3⟩=>?_))));exact wpAny_release ⟨σ,H3,I3,q3⟩
def J9 (te:TE)(g:TG):TS:=fun D σ H=>te σ H fun x H1=>g x σ H1 D.nx
theorem xX {tg e:Expr}{te:TE}{g:TG}(he:PE X e te)(hg:PG X tg g)(hs:swapsWithSole [tg] e pos.line X.env=pure false:=by rfl)(hw:swappedStores [tg] e X.env=pure none:=by rfl)
  (h1:(assignEach [tg] X.env).map (·.2)=[assign tg X.env]:=by rfl):PS X (.Assign [tg] e pos) (J9 te g):=by
 intro pins s σ H D I h;refine wpAny_Assign_stores (cM (he pins s σ H _ I h) fun v s1 ⟨x,H1,I1,r1,q1⟩=>?_) hs hw;rw [h1];exact cM (hg pins s1 σ H1 x v _ I1 r1 q1) fun _ s2 q=>q
theorem bD {i:Nat}{x:Str}{e:Expr}{te:TE}{pos':Pos}(hN:X.N.Nodup)(hi:X.N[i]? = some x)(hx:Loc X.env.scope x)(he:PE X e te)(hs:swapsWith e (some (.Name x pos')) pos.line X.env=pure false:=by rfl)(hf:X.fn x=true∨X.env.scope.names.lookup x=some .local:=by first | exact .inl rfl | exact .inr rfl | assumption) :
  PS X (.Assign [.Name x pos'] e pos) (J9 te (p7 i)):=by
 intro pins s σ H D I h;refine wpAny_Assign_Name (cM (he pins s σ H _ I h) fun v s1 ⟨y,H1,I1,r1,q1⟩=>?_) hs;exact mC I1 hN hi hx r1 (fun s2 I2=>⟨_,H1,I2,q1⟩) hf
def Th (i j:Nat)(ta:TA):TS:=fun D σ H=>ta σ H fun vs H1=>∃ v w,vs=[v,w]/\D.nx ((σ.set i (some v)).set j (some w)) H1
theorem Jk {i j:Nat}{x y:Str}{a b:Expr}{ta:TA}{px py pt:Pos}{kt k2 pt2}(hc:X.calm=true)(hN:X.N.Nodup)(hi:X.N[i]? = some x)(hj:X.N[j]? = some y)(hij:i≠j)
  (hx:X.env.scope.names.lookup x=some .local) (hy:X.env.scope.names.lookup y=some .local) (ha:PA X [a,b] ta)
  (hw:swappedStores [.Tuple [.Name x px,.Name y py] kt pt] (.Tuple [a,b] k2 pt2) X.env=pure (some [x,y]))
  (hs:swapsWithSole [.Tuple [.Name x px,.Name y py] kt pt] (.Tuple [a,b] k2 pt2) pos.line X.env=pure false:=by rfl) :
  PS X (.Assign [.Tuple [.Name x px,.Name y py] kt pt] (.Tuple [a,b] k2 pt2) pos) (Th i j ta):=by
 intro pins s σ H D I h;rw [exec_Assign_arm];refine wpAny_bind (wpAny_standAt ?_);rw [hs];refine wpAny_bind (wpAny_pure ?_);rw [if_neg (by decide)];refine wpAny_bind (Tuple_ (cM (ha _ pins s σ H _ I h) fun us s1 ⟨vs,H1,I1,r1,q1⟩=>?_));obtain ⟨v,w,e1,q1⟩:=q1;subst e1;obtain ⟨u1,u2,rfl,rv,rw'⟩:∃ u1 u2,us=[u1,u2]/\RelV v u1/\RelV w u2:=by
  cases r1 with
  | cons p q =>
   cases q with
   | cons p' q' =>
    cases q';exact ⟨_,_,rfl,p,p'⟩
 refine wpAny_newObj_type ?_ (by show 2<=sizeLine; decide);have I2:aQ X pins σ H1 { s1 with heap:=s1.heap.push { cls:=.type "tuple",data:=.seq [u1,u2].toArray } }:=I1.kept (t':=s1.toks) fun b o e=>YK _ e;rw [hw];refine wpAny_bind (wpAny_pure ?_);show wpAny (model X.prog X.w) X.A (do rule "assign.swapped-stores"; let items <- unpackItems (.ref s1.heap.objs.size) 2 none; assignInOrder [fun v=>bindName X.env y v,fun v=>bindName X.env x v] items.reverse; pure Flow.next) _ _ _;refine wpAny_bind (wpAny_rule (wpAny_bind (unpackItems_tuple (items:=#[u1,u2]) (I.ok.hd hc) (IsTup.new s1.heap _) fun h' hx'=>?_)));have I3:=I2.kept (h':=h') (t':=s1.toks) fun b o e=>hx' b o (Yd (YX e)) e;show wpAny _ _ (assignInOrder [fun v=>bindName X.env y v,fun v=>bindName X.env x v] [u2,u1] >>= fun _=>pure Flow.next) _ _ _;refine wpAny_bind (assignInOrder_cons (wpAny_bindName (mC I3 hN hj (.inl hy) rw' (fun s2 I4=>?_) (.inr hy))));refine assignInOrder_cons (wpAny_bindName (mC I4 hN hi (.inl hx) rv (fun s3 I5=>assignInOrder_nil (wpAny_pure ?_)) (.inr hx)));rw [List.set_comm _ _ (Ne.symm hij)] at I5;exact ⟨_,H1,I5,q1⟩
def El (c:TT)(tb:TS):TS:=fun D σ H=>∃ W:Nat->St->Hp->Prop,(∃ m,W m σ H)/\∀ m σ H,W m σ H ->
 c σ H fun b H1=>if b=true then ∃ N:St->Hp->Prop,(∀ σ' H',N σ' H'->∃ m',m'<m/\W m' σ' H')/\tb { D with nx:=N,ct:=N,bk:=D.nx } σ H1 else D.nx σ H1
theorem vV {c:Expr}{body:List Stmt}{tc:TT}{tb:TS}(hp:PassesOwn (model X.prog X.w) X.A X.env X.xe)(hc:PT X c tc)(hb:Aa X body tb):PS X (.While c body [] pos) (El tc tb):=by
 intro pins s σ H D I h;obtain ⟨W,⟨m0,w0⟩,turn⟩:=h;refine wpAny_While (codeAny_whileLoop (fun n s'=>∃ σ' H',aQ X pins σ' H' s'/\W n σ' H') ?_ m0 ⟨σ,H,I,w0⟩);rintro n s1 ⟨σ1,H1,I1,w1⟩;refine wpAny_passesOwn hp (cM (hc pins s1 σ1 H1 _ I1 (turn n σ1 H1 w1)) fun b s2 ⟨H2,I2,q2⟩=>?_);cases b with
 | true =>
  obtain ⟨N,hN,q2⟩:=q2;rw [if_pos rfl];refine wpAny_passesOwn hp (cM (hb pins s2 σ1 H2 _ I2 q2) fun f s3 q3=>?_);cases f with
  | next =>
   obtain ⟨σ3,H3,I3,n3⟩:=q3;obtain ⟨m',hm,w3⟩:=hN σ3 H3 n3;exact ⟨m',hm,σ3,H3,I3,w3⟩
  | cont =>
   obtain ⟨σ3,H3,I3,n3⟩:=q3;obtain ⟨m',hm,w3⟩:=hN σ3 H3 n3;exact ⟨m',hm,σ3,H3,I3,w3⟩
  | brk=>exact q3
  | ret v=>exact q3
 | false =>
  rw [if_neg Y9];exact wpAny_execs_nil ⟨σ1,H2,I2,q2⟩
end
structure It where
 go:Nat->Hp->Prop
 yld:Nat->Hp->V->Hp->Prop
 stop:Nat->Hp->Prop
def dN (X:Cx)(pins:List (Addr×Obj))(H:Hp)(b:Addr):Prop :=
 H b=none/\b≠X.env.locals/\b∉X.fs/\(b∈X.ex∨X.s₀.heap.objs.size<=b)/\(∀ x c,X.env.cells.lookup x=some c->c≠b)/\∀ p∈X.pn++pins,p.1≠b
theorem aQ.fpOk {X:Cx}{pins:List (Addr×Obj)}{σ:St}{H H':Hp}{s:Shared}{b:Addr}(I:aQ X pins σ H s)(hb:s.heap.objs.size<=b)(hn:H' b=none):dN X pins H' b:=by
 refine ⟨hn,Z7 (Yj I.lt hb),I.nofs hb,.inr (Y7 I.sz hb),fun x c e z=>?_,fun p hp z=>?_⟩
 ·obtain ⟨v,q⟩:=I.cell x c e;exact absurd (Yj q.lt (by rw [z]; exact hb)) (Za _)
 ·exact absurd (Yj (YX (I.pin p hp).1) (by rw [z]; exact hb)) (Za _)
structure Turn (P:Program)(w:World)(K:PySem.W.Frag)(tg:Expr)(J:It)(fp:List Addr)(it:Addr)(tn:Nat->Heap->Prop):Prop where
 mem:it∈fp
 obj:∀ i h,tn i h->∀ b∈fp,∃ o,h.get? b=some o/\∀ v,o.data≠.cell v
 keep:∀ i h h',tn i h->(∀ b∈fp,∀ o,h.get? b=some o->h'.get? b=some o)->tn i h'
 item:∀ (X:Cx),X.prog=P->X.w=w->X.K=K->X.calm=true->∀ (i:Nat) (pins:List (Addr×Obj)) (s:Shared) (σ:St) (H:Hp) (E:Value->Shared->Prop),aQ X pins σ H s->(∀ b∈fp,dN X pins H b)->tn i s.heap->J.go i H ->
  wpAny (model P w) X.A (pyNext (.ref it)) (fun r s1=>∃ u,r=some u ∧
   wpAny (model P w) X.A (letOwnedTupleGo tg (.ref it) u) (fun _ s2=>∃ x H',aQ X pins σ H' s2/\RelV x u/\J.yld i H x H'/\tn (i+1) s2.heap/\∀ b∈fp,H' b=none) E s1) E s
 done:∀ (X:Cx),X.prog=P->X.w=w->X.K=K->X.calm=true->∀ (i:Nat) (pins:List (Addr×Obj)) (s:Shared) (σ:St) (H:Hp) (E:Value->Shared->Prop),aQ X pins σ H s->(∀ b∈fp,dN X pins H b)->tn i s.heap->J.stop i H ->
  wpAny (model P w) X.A (pyNext (.ref it)) (fun r s1=>r=none/\aQ X pins σ H s1) E s
 self:∀ (A:Around) (i:Nat) (s:Shared) (Q:Value->Shared->Prop) (E:Value->Shared->Prop),tn i s.heap->Q (.ref it) s->wpAny (model P w) A (pyIter (.ref it)) Q E s
abbrev TI:=St->Hp->(It->Hp->Prop)->Prop
def U3 (X:Cx)(pins:List (Addr×Obj))(σ:St)(tg:Expr)(R:It->Hp->Prop)(itv:Value)(s2:Shared):Prop :=
 ∃ (it:Addr) (fp:List Addr) (tn:Nat->Heap->Prop) (J:It) (H':Hp),itv=.ref it/\aQ X pins σ H' s2/\Turn X.prog X.w X.K tg J fp it tn/\tn 0 s2.heap/\(∀ b∈fp,dN X pins H' b)/\R J H'
def PI (X:Cx)(tg iter:Expr)(wi:TI):Prop :=
 ∀ (pins:List (Addr×Obj)) (s:Shared) (σ:St) (H:Hp) (R:It->Hp->Prop),aQ X pins σ H s->wi σ H R ->
  wpAny (model X.prog X.w) X.A (eval iter X.env) (fun v s1=>wpAny (model X.prog X.w) X.A (pyIter v) (U3 X pins σ tg R) X.xe s1) X.xe s
theorem J0 {M:Model}{A:Around}{E:Value->Shared->Prop}{s:Shared}{tg:Expr}{it:Addr}{u:Value}{o:Obj}{n:String}{vs:Array Value}{Q:Unit->Shared->Prop}(ho:s.heap.get? it=some o)(hc:o.cls=.type n)(hd:o.data=.fields vs)
  (hn:["enumerate","zip","dict_itemiterator","dict_reverseitemiterator","odict_iterator","itertools.zip_longest","itertools.pairwise"].contains n=false) (hQ:Q () s):wpAny M A (letOwnedTupleGo tg (.ref it) u) Q E s:=by
 unfold letOwnedTupleGo;cases tg <;> first
  | exact wpAny_pure hQ
  | (cases u <;> first
    | exact wpAny_pure hQ
    | (refine wpAny_bind (wpAny_load ho ?_); rw [hc,hd]; show wpAny M A (if (["enumerate","zip","dict_itemiterator","dict_reverseitemiterator","odict_iterator","itertools.zip_longest","itertools.pairwise"].contains n&&vs[0]?==some (rawInt _))=true then _ else _) Q E s; rw [if_neg (by intro h; rw [hn,Bool.false_and] at h; cases h)]; exact wpAny_pure hQ))
def Kl (K:PySem.W.Frag)(a:Addr):It :=
 ⟨fun i H=>∃ xs x,bJ K H a xs/\xs[i]? = some x,fun i H x H'=>H'=H/\∀ xs,bJ K H a xs->xs[i]? = some x,fun i H=>∃ xs,bJ K H a xs/\xs.length<=i⟩
def Jt (lo:Int)(n:Nat):It:=⟨fun i _=>i<n,fun i H x H'=>H'=H/\x=.int (lo+i),fun i _=>n<=i⟩
theorem Cm {P:Program}{w:World}{K:PySem.W.Frag}{tg:Expr}(a it:Addr):Turn P w K tg (Kl K a) [it] it (fun i h=>h.IsListIter it a i) where
 mem:=by simp
 obj:=fun i h st b hb=>by
  have e:b=it:=by simpa using hb
  subst e;obtain ⟨o,e,c,d⟩:=st;exact ⟨o,e,fun v z=>by rw [d] at z; cases z⟩
 keep:=fun i h h' st k=>st.at fun o e=>k it (by simp) o e
 item:=by
  intro X hP hw hK hc i pins s σ H E I hf st hg;subst hP hw hK;obtain ⟨xs,x,hq,hx⟩:=hg;obtain ⟨its,rv,p,hz⟩:=I.list hq;obtain ⟨u,hu,ru⟩:=rv.get hx;obtain ⟨f0,f1,f2,f3,f4,f5⟩:=hf it (by simp);refine wpAny_pyNext_list_item st p.isList (x:=u) (by simpa using hu) fun h' st' sb=>?_;have I1:aQ X pins σ H { s with heap:=h' }:=I.turned (t':=s.toks) (fun b o hb e=>(sb.2 b hb).trans e) f0 f1 f3 f4 f5;obtain ⟨o,e,c,d⟩:=id st';exact ⟨u,rfl,J0 (s:={ s with heap:=h' }) e c d (by decide) ⟨x,H,I1,ru,⟨rfl,fun ys hy=>by rw [I.list_inj hy hq]; exact hx⟩,st',fun b hb=>(hf b hb).1⟩⟩
 done:=by
  intro X hP hw hK hc i pins s σ H E I hf st hg;subst hP hw hK;obtain ⟨xs,hq,hx⟩:=hg;obtain ⟨its,rv,p,hz⟩:=I.list hq;obtain ⟨f0,f1,f2,f3,f4,f5⟩:=hf it (by simp);have hl:=rv.length;exact wpAny_pyNext_list_end (I.ok.hd hc) st p.isList (by simp; omega) fun h' eb=>⟨rfl,I.turned (t':=s.toks) (fun b o hb e=>eb b o hb e) f0 f1 f3 f4 f5⟩
 self:=fun _ _ _ _ _ st h=>wpAny_pyIter_listiter st h
theorem zH {P:Program}{w:World}{K:PySem.W.Frag}{tg:Expr}(it:Addr)(lo:Int)(n:Nat):Turn P w K tg (Jt lo n) [it] it (fun i h=>IsRangeIter h it (lo+(i:Nat)*1) ((n:Int)-(i:Nat)) 1) where
 mem:=by simp
 obj:=fun i h st b hb=>by
  have e:b=it:=by simpa using hb
  subst e;exact ⟨_,st,fun v z=>by
   have z':Data.fields _=Data.cell v:=z;cases z'⟩
 keep:=fun i h h' st k=>k it (by simp) _ st
 item:=by
  intro X hP hw hK hc i pins s σ H E I hf st hg;subst hP hw hK;obtain ⟨f0,f1,f2,f3,f4,f5⟩:=hf it (by simp);have W:=Walks.range (prog:=X.prog) (w:=X.w) (I.ok.hd hc) it lo 1 n;refine W.item i s _ _ hg st fun v h' tk hv st' kk=>?_;obtain ⟨t,rfl⟩:=hv;have I1:aQ X pins σ H { s with heap:=h',toks:=tk }:=I.turned (fun b o hb e=>kk b o (by simpa using hb) e) f0 f1 f3 f4 f5;refine ⟨_,rfl,J0 (s:={ s with heap:=h',toks:=tk }) (n:="range_iterator") st' rfl rfl (by decide) ⟨.int (lo+i),H,I1,⟨t,?_⟩,⟨rfl,rfl⟩,st',fun b hb=>(hf b hb).1⟩⟩;rw [Int.mul_one]
 done:=by
  intro X hP hw hK hc i pins s σ H E I hf st hg;subst hP hw hK;obtain ⟨f0,f1,f2,f3,f4,f5⟩:=hf it (by simp);exact wpAny_pyNext_range_end (I.ok.hd hc) st (by have:n<=i:=hg; omega) fun h' eb=>⟨rfl,I.turned (t':=s.toks) (fun b o hb e=>eb b o hb e) f0 f1 f3 f4 f5⟩
 self:=fun _ _ _ _ _ st h=>wpAny_pyIter_rangeiter st h
section
variable {X:Cx}{tg:Expr}
def Nq (K:PySem.W.Frag)(tl:TE):TI:=fun σ H R=>tl σ H fun x H1=>∃ a,x=.ref a/\(∃ xs,bJ K H1 a xs)/\R (Kl K a) H1
theorem cV {l:Expr}{tl:TE}(hl:PE X l tl):PI X tg l (Nq X.K tl):=by
 intro pins s σ H R I h;refine cM (hl pins s σ H _ I h) fun v s1 ⟨x,H1,I1,r1,q1⟩=>?_;obtain ⟨a,e,⟨xs,hq⟩,q⟩:=q1;subst e;cases r1;obtain ⟨its,rv,p,hz⟩:=I1.list hq;refine wpAny_pyIter_list p.isList ?_;refine ⟨s1.heap.objs.size,[s1.heap.objs.size],_,_,H1,rfl,I1.kept (t':=s1.toks) fun b o e=>YK _ e,Cm a _,⟨_,YZ _ rfl,rfl,rfl⟩,fun b hb=>?_,q⟩;have e:b=s1.heap.objs.size:=by simpa using hb
 subst e;exact I1.fpOk (YS _) (I1.hok.fresh (YS _))
theorem DW {pins:List (Addr×Obj)}{σ:St}{H:Hp}{s:Shared}{R:It->Hp->Prop}{E:Value->Shared->Prop}{lo hi:Int}{t u v:Tok}{tk:Nat}(I:aQ X pins σ H s)(h1:-(2^62)<=lo)(h2:lo<2^62)(h3:-(2^62)<=hi)(h4:hi<2^62)
  (q:R (Jt lo (hi-lo).toNat) H):wpAny (model X.prog X.w) X.A (pyIter (.ref s.heap.objs.size)) (U3 X pins σ tg R) E { s with heap:=s.heap.push { cls:=.type "range",data:=.fields #[.int lo t,.int hi u,.int 1 v] },toks:=tk }:=by
 refine wpAny_pyIter_range (IsRange.new ..) (small_one h1 h2 h3 h4) ?_;have I1:aQ X pins σ H { s with heap:=s.heap.push { cls:=.type "range",data:=.fields #[.int lo t,.int hi u,.int 1 v] },toks:=tk }:=I.kept fun b o e=>YK _ e;refine ⟨(s.heap.push { cls:=.type "range",data:=.fields #[.int lo t,.int hi u,.int 1 v] }).objs.size,[(s.heap.push { cls:=.type "range",data:=.fields #[.int lo t,.int hi u,.int 1 v] }).objs.size],_,_,H,rfl,
  I1.kept (t':=tk) fun b o e=>YK _ e,zH _ lo (hi-lo).toNat,?_,fun b hb=>?_,q⟩
 ·have e1:lo+((0:Nat):Int)*1=lo:=by simp
  have e2:(((hi-lo).toNat:Nat):Int)-((0:Nat):Int)=Builtin.Range.rangeSize lo hi 1:=by rw [rangeSize_one]; split <;> omega
  show IsRangeIter _ _ (lo+((0:Nat):Int)*1) ((((hi-lo).toNat:Nat):Int)-((0:Nat):Int)) 1;rw [e1,e2];exact YZ _ rfl
 ·have e:b=(s.heap.push { cls:=.type "range",data:=.fields #[.int lo t,.int hi u,.int 1 v] }).objs.size:=by simpa using hb
  subst e;exact I1.fpOk (YS _) (I1.hok.fresh (YS _))
def Ks (ta:TA):TI:=fun σ H R=>ta σ H fun vs H1=>∃ j:Int,vs=[.int j]/\-(2^62)<=j/\j<2^62/\R (Jt 0 j.toNat) H1
theorem bK {a:Expr}{ta:TA}{p pos:Pos}(hg:Gl X "range")(hm:X.mg "range" = none)(ha:PA X [a] ta)(hs:starEach [a] X.env=[(false,eval a X.env)]:=by rfl):PI X tg (.Call (.Name "range" p) [a] [] pos) (Ks ta):=by
 intro pins s σ H R I h;refine Call_ (jJ I hg hm boot_range (PyProof.Rows.callWith_type1 (cM (ha pos pins s σ H _ I h) fun us s1 ⟨vs,H1,I1,r1,q1⟩=>?_) hs rfl));obtain ⟨j,e,q1,q2,q⟩:=q1;subst e;cases r1 with
 | cons r rr =>
  cases rr;obtain ⟨t,rfl⟩:=r;exact call_range_1 (DW I1 (by omega) (by omega) q1 q2 (by simpa using q))
def SQ (wi:TI)(g:TG)(tb:TS):TS:=fun D σ H=>wi σ H fun J H1=>∃ W:Nat->Nat->St->Hp->Prop,(∃ m,W 0 m σ H1)/\∀ i m σ H,W i m σ H ->
 (J.stop i H/\D.nx σ H)∨(J.go i H/\∃ N:St->Hp->Prop,(∀ σ' H',N σ' H'->∃ m',m'<m/\W (i+1) m' σ' H')/\∀ x H',J.yld i H x H'->g x σ H' fun σ2 H2=>tb { D with nx:=N,ct:=N,bk:=D.nx } σ2 H2)
def qM (fp:List Addr)(h:Heap):List (Addr×Obj):=fp.filterMap fun b=>(h.get? b).map fun o=>(b,o)
theorem iJ {fp:List Addr}{h:Heap}{b:Addr}{o:Obj}(hb:b∈fp)(e:h.get? b=some o):(b,o)∈qM fp h:=aBo.mpr ⟨b,hb,by rw [e]; rfl⟩
theorem CK {fp:List Addr}{h:Heap}{p:Addr×Obj}(hp:p∈qM fp h):p.1∈fp/\h.get? p.1=some p.2:=by
 obtain ⟨b,hb,e⟩:=aBo.mp hp;cases q:h.get? b with
 | none=>rw [q] at e; cases e
 | some o =>
  rw [q] at e;have e':(b,o)=p:=Z1.inj e;subst e';exact ⟨hb,q⟩
theorem aQ.pinned {pins:List (Addr×Obj)}{σ:St}{H:Hp}{s:Shared}{fp:List Addr}(I:aQ X pins σ H s)(hf:∀ b∈fp,dN X pins H b)(ho:∀ b∈fp,∃ o,s.heap.get? b=some o/\∀ v,o.data≠.cell v):aQ X (pins++qM fp s.heap) σ H s :=
 I.pins_of fun p hp=>(Ye.mp hp).elim (fun z=>I.pin p (Yb _ z)) fun z=>by
  obtain ⟨hb,e⟩:=CK z;obtain ⟨f0,f1,f2,_⟩:=hf p.1 hb;obtain ⟨o,e',d⟩:=ho p.1 hb;rw [e] at e'; cases e';exact ⟨e,f0,f1,f2,d⟩
theorem aQ.unpinned {pins pl:List (Addr×Obj)}{σ:St}{H:Hp}{s:Shared}(I:aQ X (pins++pl) σ H s):aQ X pins σ H s:=I.pins_of fun p hp=>I.pin p (Yb _ (ZQ _ hp))
theorem dF {iter:Expr}{body:List Stmt}{wi:TI}{g:TG}{tb:TS}{pos:Pos}(hp:PassesOwn (model X.prog X.w) X.A X.env X.xe)(hc:X.calm=true)(hi:PI X tg iter wi)(hg:PG X tg g)(hb:Aa X body tb)
  (hs:∀ x,foldedSetIterable iter X.env x=pure x:=by intro _; rfl):PS X (.For tg iter body [] pos) (SQ wi g tb):=by
 intro pins s σ H D I h;refine wpAny_For (cM (hi pins s σ H _ I h) fun v s1 h1=>cM h1 fun itv s2 h2=>?_) hs;obtain ⟨it,fp,tn,J,H2,e,I2,T,st2,f2,W,⟨m0,w0⟩,turn⟩:=h2;subst e;have stat:∀ {H':Hp},(∀ b∈fp,H' b=none)->∀ b∈fp,dN X pins H' b:=fun hn b hb=>⟨hn b hb,(f2 b hb).2⟩
 refine codeAny_forLoop_any (fun n s'=>∃ i σ' H',aQ X pins σ' H' s'/\tn i s'.heap/\(∀ b∈fp,H' b=none)/\W i n σ' H') ?_ m0 ⟨0,σ,H2,I2,st2,fun b hb=>(f2 b hb).1,w0⟩;rintro n s3 ⟨i,σ3,H3,I3,st3,fr3,w3⟩;rcases turn i n σ3 H3 w3 with ⟨stop,qn⟩ | ⟨go,N,hN,step⟩
 ·refine wpAny_passesOwn hp (cM (T.done X rfl rfl rfl hc i pins s3 σ3 H3 X.xe I3 (stat fr3) st3 stop) fun r s4 ⟨hr,I4⟩=>?_);subst hr;exact wpAny_execs_nil ⟨σ3,H3,I4,qn⟩
 ·refine wpAny_passesOwn hp (cM (T.item X rfl rfl rfl hc i pins s3 σ3 H3 X.xe I3 (stat fr3) st3 go) fun r s4 ⟨u,hr,h4⟩=>?_);subst hr;refine wpAny_passesOwn hp (cM h4 fun _ s5 ⟨x,H5,I5,r5,y5,st5,fr5⟩=>?_);have I5':=I5.pinned (stat fr5) (T.obj _ _ st5);refine wpAny_passesOwn hp (cM (hg _ s5 σ3 H5 x u _ I5' r5 (step x H5 y5)) fun _ s6 ⟨σ6,H6,I6,q6⟩=>?_);refine wpAny_passesOwn hp (cM (hb _ s6 σ6 H6 _ I6 q6) fun f s7 q7=>?_);have again:∀ {σ7:St}{H7:Hp},aQ X (pins++qM fp s5.heap) σ7 H7 s7->N σ7 H7->∃ m,m<n/\∃ i σ' H',aQ X pins σ' H' s7/\tn i s7.heap/\(∀ b∈fp,H' b=none)/\W i m σ' H':=fun {σ7 H7} I7 n7=>by
   obtain ⟨m',hm,w7⟩:=hN σ7 H7 n7;refine ⟨m',hm,i+1,σ7,H7,I7.unpinned,T.keep _ _ _ st5 fun b hb o e=>(I7.pin (b,o) (Yb _ (Yb _ (iJ hb e)))).1,fun b hb=>?_,w7⟩;obtain ⟨o,e,d⟩:=T.obj _ _ st5 b hb;exact (I7.pin (b,o) (Yb _ (Yb _ (iJ hb e)))).2.1
  cases f with
  | next=>obtain ⟨σ7,H7,I7,n7⟩:=q7; exact again I7 n7
  | cont=>obtain ⟨σ7,H7,I7,n7⟩:=q7; exact again I7 n7
  | brk=>obtain ⟨σ7,H7,I7,q7⟩:=q7; exact ⟨σ7,H7,I7.unpinned,q7⟩
  | ret v=>obtain ⟨x7,σ7,H7,I7,r7,q7⟩:=q7; exact ⟨x7,σ7,H7,I7.unpinned,r7,q7⟩
end
theorem gQ {K:PySem.W.Frag}{a:Addr}{xs:List V}{g:TG}{tb:TS}{D:Ends}{σ:St}{H:Hp}(Pv:Nat->St->Hp->Prop)(h0:Pv 0 σ H)(hl:∀ i σ H,i<=xs.length->Pv i σ H->bJ K H a xs)
  (hs:∀ i x σ H,xs[i]? = some x->Pv i σ H->g x σ H fun σ2 H2=>tb { D with nx:=Pv (i+1),ct:=Pv (i+1),bk:=D.nx } σ2 H2) (hd:∀ σ H,Pv xs.length σ H->D.nx σ H) :
  ∃ W:Nat->Nat->St->Hp->Prop,(∃ m,W 0 m σ H)/\∀ i m σ H,W i m σ H ->
   ((Kl K a).stop i H/\D.nx σ H)∨((Kl K a).go i H/\∃ N:St->Hp->Prop,(∀ σ' H',N σ' H'->∃ m',m'<m/\W (i+1) m' σ' H')/\∀ x H',(Kl K a).yld i H x H'->g x σ H' fun σ2 H2=>tb { D with nx:=N,ct:=N,bk:=D.nx } σ2 H2):=by
 refine ⟨fun i m σ H=>m=xs.length-i/\i<=xs.length/\Pv i σ H,⟨xs.length,by simp,Yq _,h0⟩,?_⟩;rintro i m σ H ⟨rfl,hi,p⟩;have q:=hl i σ H hi p
 by_cases hlt:i<xs.length
 ·refine .inr ⟨⟨xs,xs[i],q,by simp [hlt]⟩,Pv (i+1),fun σ' H' p'=>⟨xs.length-(i+1),by omega,rfl,hlt,p'⟩,fun x H' y=>?_⟩;obtain ⟨e,y⟩:=y;subst e;exact hs i x σ _ (y xs q) p
 ·have e:i=xs.length:=by omega
  subst e;exact .inl ⟨⟨xs,q,YS _⟩,hd σ H p⟩
theorem cY {lo:Int}{n:Nat}{g:TG}{tb:TS}{D:Ends}{σ:St}{H:Hp}(Pv:Nat->St->Hp->Prop)(h0:Pv 0 σ H)
  (hs:∀ i σ H,i<n->Pv i σ H->g (.int (lo+i)) σ H fun σ2 H2=>tb { D with nx:=Pv (i+1),ct:=Pv (i+1),bk:=D.nx } σ2 H2) (hd:∀ σ H,Pv n σ H->D.nx σ H) :
  ∃ W:Nat->Nat->St->Hp->Prop,(∃ m,W 0 m σ H)/\∀ i m σ H,W i m σ H ->
   ((Jt lo n).stop i H/\D.nx σ H)∨((Jt lo n).go i H/\∃ N:St->Hp->Prop,(∀ σ' H',N σ' H'->∃ m',m'<m/\W (i+1) m' σ' H')/\∀ x H',(Jt lo n).yld i H x H'->g x σ H' fun σ2 H2=>tb { D with nx:=N,ct:=N,bk:=D.nx } σ2 H2):=by
 refine ⟨fun i m σ H=>m=n-i/\i<=n/\Pv i σ H,⟨n,by simp,Yq _,h0⟩,?_⟩;rintro i m σ H ⟨rfl,hi,p⟩
 by_cases hlt:i<n
 ·refine .inr ⟨hlt,Pv (i+1),fun σ' H' p'=>⟨n-(i+1),by omega,rfl,hlt,p'⟩,fun x H' y=>?_⟩;obtain ⟨e,y⟩:=y;subst e y;exact hs i σ _ hlt p
 ·have e:i=n:=by omega
  subst e;exact .inl ⟨YS _,hd σ H p⟩
theorem vP {c:TT}{tb:TS}{D:Ends}{σ:St}{H:Hp}(Pv:St->Hp->Prop)(μ:St->Hp->Nat)(h0:Pv σ H)
  (hs:∀ σ H,Pv σ H->c σ H fun b H1=>if b=true then tb { D with nx:=fun σ' H'=>Pv σ' H'/\μ σ' H' < μ σ H,ct:=fun σ' H'=>Pv σ' H'/\μ σ' H' < μ σ H,bk:=D.nx } σ H1 else D.nx σ H1)
  (mono:∀ σ H Q Q',(∀ b H1,Q b H1->Q' b H1)->c σ H Q->c σ H Q'):El c tb D σ H:=by
 refine ⟨fun m σ H=>m = μ σ H/\Pv σ H,⟨_,rfl,h0⟩,?_⟩;rintro m σ H ⟨rfl,p⟩;refine mono σ H _ _ (fun b H1 q=>?_) (hs σ H p);cases b with
 | true=>exact ⟨_,fun σ' H' ⟨p',l⟩=>⟨_,l,rfl,p'⟩,q⟩
 | false=>exact q
abbrev R2:=V->V->Hp->VK->Prop
def kE (X:Cx)(f:Value->Value->Sem Value)(r:R2):Prop :=
 ∀ (pins:List (Addr×Obj)) (s:Shared) (σ:St) (H:Hp) (x y:V) (v u:Value) (Q:VK),aQ X pins σ H s->RelV x v->RelV y u->r x y H Q ->
  wpAny (model X.prog X.w) X.A (f v u) (EP X pins σ Q) X.xe s
def Q9 (X:Cx)(f:Value->Sem Value)(r:V->Hp->VK->Prop):Prop :=
 ∀ (pins:List (Addr×Obj)) (s:Shared) (σ:St) (H:Hp) (x:V) (v:Value) (Q:VK),aQ X pins σ H s->RelV x v->r x H Q ->
  wpAny (model X.prog X.w) X.A (f v) (EP X pins σ Q) X.xe s
def cN (X:Cx)(f:Value)(r:List V->Hp->VK->Prop):Prop :=
 ∀ (pins:List (Addr×Obj)) (s:Shared) (σ:St) (H:Hp) (xs:List V) (us:List Value) (Q:VK),aQ X pins σ H s->bL xs us->r xs H Q ->
  wpAny (model X.prog X.w) X.A (call f us) (EP X pins σ Q) X.xe s
def Pj (r:R2)(ta tb:TE):TE:=fun σ H Q=>ta σ H fun x H1=>tb σ H1 fun y H2=>r x y H2 Q
def V4 (r:V->Hp->VK->Prop)(ta:TE):TE:=fun σ H Q=>ta σ H fun x H1=>r x H1 Q
def rI (C:Int->Int->Prop)(g:Int->Int->V):R2:=fun x y H Q=>∃ i j,x=.int i/\y=.int j/\C i j/\Q (g i j) H
def GZ (g:Int->Int->V):R2:=fun x y H Q=>∃ i j,x=.int i/\y=.int j/\Q (g i j) H
def rU (g:Int->V):V->Hp->VK->Prop:=fun x H Q=>∃ i,x=.int i/\Q (g i) H
section
variable {X:Cx}{a b c:Expr}{ta tb tc:TE}{pos:Pos}
theorem Jy (ha:PE X a ta)(hb:PE X b tb){pins:List (Addr×Obj)}{s:Shared}{σ:St}{H:Hp}{R:V->V->Hp->Prop}(I:aQ X pins σ H s)
  (h:ta σ H fun x H1=>tb σ H1 fun y H2=>R x y H2) {Q:Value->Shared->Prop}{f:Value->Value->Sem Value}
  (hf:∀ v u s2 x y H2,aQ X pins σ H2 s2->RelV x v->RelV y u->R x y H2->wpAny (model X.prog X.w) X.A (f v u) Q X.xe s2) :
  wpAny (model X.prog X.w) X.A (eval a X.env) (fun v s₁=>wpAny (model X.prog X.w) X.A (eval b X.env) (fun u s₂=>wpAny (model X.prog X.w) X.A (f v u) Q X.xe s₂) X.xe s₁) X.xe s:=by
 refine cM (ha pins s σ H _ I h) fun v s1 ⟨x,H1,I1,r1,q1⟩=>?_;refine cM (hb pins s1 σ H1 _ I1 q1) fun u s2 ⟨y,H2,I2,r2,q2⟩=>?_;exact hf v u s2 x y H2 I2 r1 r2 q2
theorem aJ {op:Operator}{r:R2}(ho:kE X (binaryOp op) r)(ha:PE X a ta)(hb:PE X b tb):PE X (.BinOp a op b pos) (Pj r ta tb):=by
 intro pins s σ H Q I h;exact wpAny_BinOp (Jy ha hb I h fun v u s2 x y H2 I2 rx ry q=>ho pins s2 σ H2 x y v u Q I2 rx ry q)
theorem O9 {op:UnaryOp}{r:V->Hp->VK->Prop}(ho:Q9 X (unaryOp op) r)(ha:PE X a ta):PE X (.UnaryOp op a pos) (V4 r ta):=by
 intro pins s σ H Q I h;exact UnaryOp_ (cM (ha pins s σ H _ I h) fun v s1 ⟨x,H1,I1,r1,q1⟩=>ho pins s1 σ H1 x v Q I1 r1 q1)
theorem K5 {f:Value->Value->Sem Value}{C:Int->Int->Prop}{g:Int->Int->Int}
  (rule:∀ (i j:Int) (t u:Tok) (s:Shared) (Q:Value->Shared->Prop) (E:Value->Shared->Prop),C i j->Q (.int (g i j) s.toks) { s with toks:=s.toks+1 }->wpAny (model X.prog X.w) X.A (f (.int i t) (.int j u)) Q E s) :
  kE X f (rI C fun i j=>.int (g i j)):=by
 intro pins s σ H x y v u Q I rx ry h;obtain ⟨i,j,rfl,rfl,hc,q⟩:=h;obtain ⟨t,rfl⟩:=rx;obtain ⟨t',rfl⟩:=ry;exact rule i j t t' s _ _ hc ⟨.int (g i j),H,I.tok _,⟨_,rfl⟩,q⟩
theorem Hm {f:Value->Value->Sem Value}{g:Int->Int->Int}
  (rule:∀ (i j:Int) (t u:Tok) (s:Shared) (Q:Value->Shared->Prop) (E:Value->Shared->Prop),Q (.int (g i j) s.toks) { s with toks:=s.toks+1 }->wpAny (model X.prog X.w) X.A (f (.int i t) (.int j u)) Q E s) :
  kE X f (GZ fun i j=>.int (g i j)):=by
 intro pins s σ H x y v u Q I rx ry h;obtain ⟨i,j,rfl,rfl,q⟩:=h;obtain ⟨t,rfl⟩:=rx;obtain ⟨t',rfl⟩:=ry;exact rule i j t t' s _ _ ⟨.int (g i j),H,I.tok _,⟨_,rfl⟩,q⟩
theorem Gq {f:Value->Value->Sem Value}{g:Int->Int->Bool}
  (rule:∀ (i j:Int) (t u:Tok) (s:Shared) (Q:Value->Shared->Prop) (E:Value->Shared->Prop),Q (.bool (g i j)) s->wpAny (model X.prog X.w) X.A (f (.int i t) (.int j u)) Q E s) :
  kE X f (GZ fun i j=>.bl (g i j)):=by
 intro pins s σ H x y v u Q I rx ry h;obtain ⟨i,j,rfl,rfl,q⟩:=h;obtain ⟨t,rfl⟩:=rx;obtain ⟨t',rfl⟩:=ry;exact rule i j t t' s _ _ ⟨.bl (g i j),H,I,rfl,q⟩
def TQ (i j:Int):Prop:=0<j/\j<1073741824
def PL (i j:Int):Prop:=0<=j/\j<=1000000/\i.natAbs<2^64
def Jm (i j:Int):Prop:=(-(2^64)<i/\i<2^64)∨(-(2^64)<j/\j<2^64)
theorem Jm.ok {i j:Int}(h:Jm i j):IntMulOk i j:=by
 rcases h with ⟨h1,h2⟩ | ⟨h1,h2⟩
 ·exact .of_left (intBits_le_64 h1 h2)
 ·exact .of_right (intBits_le_64 h1 h2)
theorem yU (k:Nat):(0:Int)<=2^k:=by
 rw [two_pow_cast];exact aBp _
theorem b7:kE X (binaryOp .Add) (GZ fun i j=>.int (i+j)):=Hm fun _ _ _ _ _ _ _ q=>add_int q
theorem eO:kE X (binaryOp .Sub) (GZ fun i j=>.int (i-j)):=Hm fun _ _ _ _ _ _ _ q=>sub_int q
theorem mR:kE X (binaryOp .Mult) (rI Jm fun i j=>.int (i*j)):=K5 fun _ _ _ _ _ _ _ hc q=>mul_int q hc.ok
theorem dX:kE X (binaryOp .FloorDiv) (rI TQ fun i j=>.int (i/j)):=K5 fun i j _ _ _ _ _ hc q=>by
 have h1:(0:Int)<j:=hc.1;have h2:j<1073741824:=hc.2;exact floordiv_int (by omega) (by rw [aAQ i (by omega)]; exact q) (.inl (PyProof.noPylong_small (by omega)))
theorem bV:kE X (binaryOp .Mod) (rI (fun _ j=>0<j) fun i j=>.int (i%j)):=K5 fun i j _ _ _ _ _ hc q=>by
 have h1:(0:Int)<j:=hc;exact mod_int' (by omega) (by rw [aAR i (by omega)]; exact q)
theorem Cy:kE X (binaryOp .Pow) (rI PL fun i j=>.int (i^j.toNat)):=K5 fun _ _ _ _ _ _ _ hc q=>pow_int_small hc.1 hc.2.1 hc.2.2 q
theorem fC:kE X (binaryOp .LShift) (rI PL fun i j=>.int (i*2^j.toNat)):=K5 fun _ _ _ _ _ _ _ hc q=>lshift_int_small hc.1 hc.2.1 hc.2.2 q
theorem gA:kE X (binaryOp .RShift) (rI (fun _ j=>0<=j) fun i j=>.int (i/2^j.toNat)):=K5 fun i j _ _ _ _ _ hc q =>
 rshift_int hc (by rw [aAQ i (yU _)]; exact q)
theorem fG:kE X (binaryOp .BitAnd) (GZ fun i j=>.int (Builtin.bitAnd i j)):=Hm fun _ _ _ _ _ _ _ q=>and_int q
theorem Ae:kE X (binaryOp .BitOr) (GZ fun i j=>.int (Builtin.bitOr i j)):=Hm fun _ _ _ _ _ _ _ q=>or_int q
theorem VL {f:Value->Sem Value}{g:Int->Int}
  (rule:∀ (i:Int) (t:Tok) (s:Shared) (Q:Value->Shared->Prop) (E:Value->Shared->Prop),Q (.int (g i) s.toks) { s with toks:=s.toks+1 }->wpAny (model X.prog X.w) X.A (f (.int i t)) Q E s) :
  Q9 X f (rU fun i=>.int (g i)):=by
 intro pins s σ H x v Q I rx h;obtain ⟨i,rfl,q⟩:=h;obtain ⟨t,rfl⟩:=rx;exact rule i t s _ _ ⟨.int (g i),H,I.tok _,⟨_,rfl⟩,q⟩
theorem Ju:Q9 X (unaryOp .USub) (rU fun i=>.int (-i)):=VL fun _ _ _ _ _ q=>neg_int q
end
def PN:V->V->Bool
 | .non,.non=>true | .non,.int _=>true | .int _,.non=>true | .non,.bl _=>true | .bl _,.non=>true | .non,.str _=>true | .str _,.non=>true
 | .int _,.int _=>true | .bl _,.bl _=>true | .str _,.str _=>true | .byt _,.byt _=>true
 | .int _,.str _=>true | .str _,.int _=>true | .bl _,.str _=>true | .str _,.bl _=>true
 | _,_=>false
def VP:R2:=fun x y H Q=>PN x y=true/\Q (.bl (decide (x=y))) H
def V0:R2:=fun x y H Q=>PN x y=true/\Q (.bl (!decide (x=y))) H
theorem Ai {i j:Int}:decide (V.int i=V.int j)=(i==j):=by
 rw [Zu];simp
theorem Ei {i j:Bool}:decide (V.bl i=V.bl j)=(i==j):=by
 rw [Zu];simp
theorem z9 {i j:Str}:decide (V.str i=V.str j)=(i==j):=by
 rw [Zu];simp
theorem Av {i j:Array UInt8}:decide (V.byt i=V.byt j)=(i.toList==j.toList):=by
 rw [Zu];cases i;cases j;simp
section
variable {X:Cx}{a b c:Expr}{ta tb tc:TE}{pos:Pos}
theorem bR {pins:List (Addr×Obj)}{σ:St}{H:Hp}{s:Shared}{Q:VK}{k k':Bool}(I:aQ X pins σ H s)(q:Q (.bl k) H)(e:k=k'):EP X pins σ Q (.bool k') s:=by
 subst e;exact ⟨.bl k,H,I,rfl,q⟩
theorem cH:kE X (compareOp .Eq) VP:=by
 intro pins s σ H x y v u Q I rx ry h;obtain ⟨hs,q⟩:=h;cases x with
 | non =>
  cases rx;cases y with
  | non=>cases ry; exact PySem.EqNone.eq_none_none (bR I q (by simp))
  | bl j=>cases ry; exact PySem.EqNone.eq_none_bool (bR I q (by simp))
  | int j=>obtain ⟨t',rfl⟩:=ry; exact PySem.EqNone.eq_none_int (bR I q (by simp))
  | str j=>obtain ⟨t',rfl⟩:=ry; exact PySem.EqNone.eq_none_str (bR I q (by simp))
  | _=>exact absurd (show false=true from hs) Y9
 | bl i =>
  cases rx;cases y with
  | non=>cases ry; exact PySem.EqNone.eq_bool_none (bR I q (by simp))
  | bl j=>cases ry; exact eq_bool (bR I q Ei)
  | str j=>obtain ⟨t',rfl⟩:=ry; exact PySem.EqMixed.eq_bool_str (bR I q (by simp))
  | _=>exact absurd (show false=true from hs) Y9
 | int i =>
  obtain ⟨t,rfl⟩:=rx;cases y with
  | non=>cases ry; exact PySem.EqNone.eq_int_none (bR I q (by simp))
  | int j=>obtain ⟨t',rfl⟩:=ry; exact eq_int (bR I q Ai)
  | str j=>obtain ⟨t',rfl⟩:=ry; exact PySem.EqMixed.eq_int_str (bR I q (by simp))
  | _=>exact absurd (show false=true from hs) Y9
 | str i =>
  obtain ⟨t,rfl⟩:=rx;cases y with
  | non=>cases ry; exact PySem.EqNone.eq_str_none (bR I q (by simp))
  | bl j=>cases ry; exact PySem.EqMixed.eq_str_bool (bR I q (by simp))
  | int j=>obtain ⟨t',rfl⟩:=ry; exact PySem.EqMixed.eq_str_int (bR I q (by simp))
  | str j=>obtain ⟨t',rfl⟩:=ry; exact eq_str (bR I q z9)
  | _=>exact absurd (show false=true from hs) Y9
 | byt i =>
  obtain ⟨t,rfl⟩:=rx;cases y with
  | byt j=>obtain ⟨t',rfl⟩:=ry; exact PySem.W.eq_bytes (bR I q Av)
  | _=>exact absurd (show false=true from hs) Y9
 | _=>cases y <;> exact absurd (show false=true from hs) Y9
theorem Ou:kE X (compareOp .NotEq) V0:=by
 intro pins s σ H x y v u Q I rx ry h;obtain ⟨hs,q⟩:=h;cases x with
 | non =>
  cases rx;cases y with
  | non=>cases ry; exact PySem.EqNone.ne_none_none (bR I q (by simp))
  | bl j=>cases ry; exact PySem.EqNone.ne_none_bool (bR I q (by simp))
  | int j=>obtain ⟨t',rfl⟩:=ry; exact PySem.EqNone.ne_none_int (bR I q (by simp))
  | str j=>obtain ⟨t',rfl⟩:=ry; exact PySem.EqNone.ne_none_str (bR I q (by simp))
  | _=>exact absurd (show false=true from hs) Y9
 | bl i =>
  cases rx;cases y with
  | non=>cases ry; exact PySem.EqNone.ne_bool_none (bR I q (by simp))
  | bl j=>cases ry; exact ne_bool (bR I q (congrArg not Ei))
  | str j=>obtain ⟨t',rfl⟩:=ry; exact PySem.EqMixed.ne_bool_str (bR I q (by simp))
  | _=>exact absurd (show false=true from hs) Y9
 | int i =>
  obtain ⟨t,rfl⟩:=rx;cases y with
  | non=>cases ry; exact PySem.EqNone.ne_int_none (bR I q (by simp))
  | int j=>obtain ⟨t',rfl⟩:=ry; exact ne_int (bR I q (congrArg not Ai))
  | str j=>obtain ⟨t',rfl⟩:=ry; exact PySem.EqMixed.ne_int_str (bR I q (by simp))
  | _=>exact absurd (show false=true from hs) Y9
 | str i =>
  obtain ⟨t,rfl⟩:=rx;cases y with
  | non=>cases ry; exact PySem.EqNone.ne_str_none (bR I q (by simp))
  | bl j=>cases ry; exact PySem.EqMixed.ne_str_bool (bR I q (by simp))
  | int j=>obtain ⟨t',rfl⟩:=ry; exact PySem.EqMixed.ne_str_int (bR I q (by simp))
  | str j=>obtain ⟨t',rfl⟩:=ry; exact ne_str (bR I q (congrArg not z9))
  | _=>exact absurd (show false=true from hs) Y9
 | byt i =>
  obtain ⟨t,rfl⟩:=rx;cases y with
  | byt j=>obtain ⟨t',rfl⟩:=ry; exact PySem.W.ne_bytes (bR I q (congrArg not Av))
  | _=>exact absurd (show false=true from hs) Y9
 | _=>cases y <;> exact absurd (show false=true from hs) Y9
theorem rO:kE X (compareOp .Lt) (GZ fun i j=>.bl (decide (i<j))):=Gq fun _ _ _ _ _ _ _ q=>lt_int q
theorem qF:kE X (compareOp .LtE) (GZ fun i j=>.bl (decide (i<=j))):=Gq fun _ _ _ _ _ _ _ q=>le_int q
theorem sU:kE X (compareOp .Gt) (GZ fun i j=>.bl (decide (j<i))):=Gq fun _ _ _ _ _ _ _ q=>gt_int q
theorem Ol:kE X (compareOp .GtE) (GZ fun i j=>.bl (decide (j<=i))):=Gq fun _ _ _ _ _ _ _ q=>ge_int q
theorem aX (b:Expr){op:CmpOp}(h:op≠.In:=by decide)(h2:op≠.NotIn:=by decide):behindInMarks op b=false:=by
 have e1:(op==CmpOp.In)=false:=by cases op <;> first | rfl | exact absurd rfl h
 have e2:(op==CmpOp.NotIn)=false:=by cases op <;> first | rfl | exact absurd rfl h2
 cases b <;> simp [behindInMarks,e1,e2]
theorem dI {op:CmpOp}{r:R2}(ho:kE X (compareOp op) r)(ha:PE X a ta)(hb:PE X b tb)(hm:behindInMarks op b=false):PE X (.Compare a [op] [b] pos) (Pj r ta tb):=by
 intro pins s σ H Q I h;exact wpAny_Compare1 (Jy ha hb I h fun v u s2 x y H2 I2 rx ry q=>ho pins s2 σ H2 x y v u Q I2 rx ry q) hm
def J5 (t:TE):TT:=fun σ H Q=>t σ H fun x H'=>∃ k,x=.bl k/\Q k H'
theorem aR {op:CmpOp}{r:R2}(ho:kE X (compareOp op) r)(ha:PE X a ta)(hb:PE X b tb)(hm:behindInMarks op b=false):PT X (.Compare a [op] [b] pos) (J5 (Pj r ta tb)):=by
 intro pins s σ H Q I h;refine wpAny_isTrue_Compare1 (cM (ha pins s σ H _ I h) fun v s1 ⟨x,H1,I1,r1,q1⟩=>cM (hb pins s1 σ H1 _ I1 q1) fun u s2 ⟨y,H2,I2,r2,q2⟩ =>
  cM (ho pins s2 σ H2 x y v u _ I2 r1 r2 q2) fun c s3 ⟨z,H3,I3,r3,k,e,q3⟩=>?_) hm
 subst e;cases r3;exact wpAny_truthy_bool ⟨H3,I3,q3⟩
def Cw (r r':R2)(ta tb tc:TE):TE:=fun σ H Q=>ta σ H fun x H1=>tb σ H1 fun y H2=>r x y H2 fun z H3=>∃ k,z=.bl k ∧
 (if k=true then tc σ H3 fun w' H4=>r' y w' H4 Q else Q (.bl false) H3)
theorem Dy {op op':CmpOp}{r r':R2}(ho:kE X (compareOp op) r)(ho':kE X (compareOp op') r')(ha:PE X a ta)(hb:PE X b tb)(hc:PE X c tc)
  (hm:lastMarks [op,op'] [b,c]=false:=by with_unfolding_all rfl):PE X (.Compare a [op,op'] [b,c] pos) (Cw r r' ta tb tc):=by
 intro pins s σ H Q I h;refine Compare_chain (cM (ha pins s σ H _ I h) fun v s1 ⟨x,H1,I1,r1,q1⟩=>chain_link (cM (hb pins s1 σ H1 _ I1 q1) fun u s2 ⟨y,H2,I2,r2,q2⟩ =>
  cM (ho pins s2 σ H2 x y v u _ I2 r1 r2 q2) fun d s3 ⟨z,H3,I3,r3,k,e,q3⟩=>?_)) hm
 subst e;cases r3;refine wpAny_truthy_bool ?_;cases k with
 | false=>exact ite_ff ⟨.bl false,H3,I3,rfl,q3⟩
 | true=>exact ite_tt (chain_last (cM (hc pins s3 σ H3 _ I3 q3) fun w' s4 ⟨z',H4,I4,r4,q4⟩=>ho' pins s4 σ H4 y z' u w' Q I4 r2 r4 q4))
theorem Dg {op op':CmpOp}{r r':R2}(ho:kE X (compareOp op) r)(ho':kE X (compareOp op') r')(ha:PE X a ta)(hb:PE X b tb)(hc:PE X c tc)
  (hm:lastMarks [op,op'] [b,c]=false:=by with_unfolding_all rfl):PT X (.Compare a [op,op'] [b,c] pos) (J5 (Cw r r' ta tb tc)):=by
 intro pins s σ H Q I h;refine isTrue_chain (cM (ha pins s σ H _ I h) fun v s1 ⟨x,H1,I1,r1,q1⟩=>test_link (cM (hb pins s1 σ H1 _ I1 q1) fun u s2 ⟨y,H2,I2,r2,q2⟩ =>
  cM (ho pins s2 σ H2 x y v u _ I2 r1 r2 q2) fun d s3 ⟨z,H3,I3,r3,k,e,q3⟩=>?_)) hm
 subst e;cases r3;refine wpAny_truthy_bool ?_;cases k with
 | false =>
  obtain ⟨k',e',q'⟩:=q3;cases e';exact ite_ff ⟨H3,I3,q'⟩
 | true =>
  refine ite_tt (test_last (cM (hc pins s3 σ H3 _ I3 q3) fun w' s4 ⟨z',H4,I4,r4,q4⟩=>cM (ho' pins s4 σ H4 y z' u w' _ I4 r2 r4 q4) fun d' s5 ⟨z2,H5,I5,r5,k2,e2,q5⟩=>?_));subst e2;cases r5;exact wpAny_truthy_bool ⟨H5,I5,q5⟩
theorem tM:(sizeLine:Nat)<2^63:=by rw [sizeLine_eq]; decide
theorem vals1 {x:V}{us:List Value}(r:bL [x] us):∃ u,us=[u]/\RelV x u:=by
 cases r with
 | cons r1 r2=>cases r2; exact ⟨_,rfl,r1⟩
theorem vals2 {x y:V}{us:List Value}(r:bL [x,y] us):∃ u w',us=[u,w']/\RelV x u/\RelV y w':=by
 cases r with
 | cons r1 r2 =>
  cases r2 with
  | cons r3 r4=>cases r4; exact ⟨_,_,rfl,r1,r3⟩
theorem DR:cN X (.builtin "abs") (fun xs H Q=>∃ i,xs=[.int i]/\Q (.int (if i<0 then -i else i)) H):=by
 intro pins s σ H xs us Q I r h;obtain ⟨i,rfl,q⟩:=h;obtain ⟨u,rfl,t,rfl⟩:=vals1 r;exact call_abs_int fun u tk=>⟨.int (if i<0 then -i else i),H,I.tok _,⟨_,rfl⟩,q⟩
theorem mV (hc:X.calm=true):cN X (.builtin "max") (fun xs H Q=>∃ i j,xs=[.int i,.int j]/\Q (.int (if j > i then j else i)) H):=by
 intro pins s σ H xs us Q I r h;obtain ⟨i,j,rfl,q⟩:=h;obtain ⟨u,w',rfl,⟨t,rfl⟩,⟨t',rfl⟩⟩:=vals2 r;refine max_two_ints (I.ok.hd hc) fun h' tk k=>⟨_,H,I.kept k,?_,q⟩
 by_cases hj:j > i
 ·rw [if_pos hj,if_pos hj]; exact ⟨_,rfl⟩
 ·rw [if_neg hj,if_neg hj]; exact ⟨_,rfl⟩
theorem CZ (hc:X.calm=true):cN X (.builtin "min") (fun xs H Q=>∃ i j,xs=[.int i,.int j]/\Q (.int (if j<i then j else i)) H):=by
 intro pins s σ H xs us Q I r h;obtain ⟨i,j,rfl,q⟩:=h;obtain ⟨u,w',rfl,⟨t,rfl⟩,⟨t',rfl⟩⟩:=vals2 r;refine min_two_ints (I.ok.hd hc) fun h' tk k=>⟨_,H,I.kept k,?_,q⟩
 by_cases hj:j<i
 ·rw [if_pos hj,if_pos hj]; exact ⟨_,rfl⟩
 ·rw [if_neg hj,if_neg hj]; exact ⟨_,rfl⟩
theorem Bp:cN X (.type "int") (fun xs H Q=>(∃ i,xs=[.int i]/\Q (.int i) H)∨∃ k,xs=[.bl k]/\Q (.int (if k then 1 else 0)) H):=by
 intro pins s σ H xs us Q I r h;rcases h with ⟨i,rfl,q⟩ | ⟨k,rfl,q⟩
 ·obtain ⟨u,rfl,t,rfl⟩:=vals1 r;exact call_int_int ⟨.int i,H,I,⟨_,rfl⟩,q⟩
 ·obtain ⟨u,rfl,r1⟩:=vals1 r;cases r1;exact call_int_bool ⟨.int (if k then 1 else 0),H,I.tok _,⟨_,rfl⟩,q⟩
end
structure yS (h:Heap)(x dx C:Addr)(mA:Str->Option Value):Prop where
 obj:h.get? x=some (PySem.W.instObj C dx)
 ns:h.Ns1 dx mA
 ne:dx≠x
theorem Ck {h:Heap}{dx:Addr}{mA:Str->Option Value}(n:h.Ns1 dx mA):∃ od,h.get? dx=some od/\∀ name,PySem.W.lookIn name od=some (mA name):=by
 obtain ⟨o,es,ep,ho,hd,hk,_,hm⟩:=n;refine ⟨o,ho,fun name=>?_⟩;have e:=hm name;unfold nsFind findBy at e;rw [<- Array.find?_toList] at e;unfold PySem.W.lookIn;rw [hd];dsimp only
 split
 ·rename_i y q;rw [q] at e;exact congrArg some e
 ·rename_i q;rw [q] at e;have a:es.toList.any (·.refKey)=false:=by
   rw [Zx];intro y hy;obtain ⟨z,t,hkey⟩:=hk y (Array.mem_toList_iff.mp hy);simp [DictEntry.refKey,hkey]
  have a':¬ es.toList.any (·.refKey)=true:=by rw [a]; exact Y9
  rw [if_neg a'];exact congrArg some e
theorem yS.look {h:Heap}{x dx C:Addr}{mA:Str->Option Value}(I:yS h x dx C mA):∃ od,PySem.W.InstAt h x (PySem.W.instObj C dx) C (some od)/\∀ name,PySem.W.lookIn name od=some (mA name) :=
 let ⟨od,ho,hl⟩:=Ck I.ns
 ⟨od,⟨I.obj,rfl,rfl,ho⟩,hl⟩
section
variable {prog:Program}{w:World}{A:Around}{E:Value->Shared->Prop}{s:Shared}{K:PySem.W.Frag}{x dx C f:Addr}{mA:Str->Option Value}{name:Str}{v:Value}
theorem Gh {expr:Bool}{Q:Value->Shared->Prop}(X:K.In s.heap)(I:yS s.heap x dx C mA)(hg:PySem.W.plainGet K C name=true)(hh:PySem.W.hasDictIn K C=true)
  (ha:PySem.W.findIn K (.ref C) name=some none) (hv:mA name=some v) (hv':PySem.W.handedIn v=true) (h:Q v { s with toks:=s.toks+1 }) :
  wpAny (model prog w) A (getAttr (.ref x) name expr) Q E s:=by
 obtain ⟨od,J,hl⟩:=I.look;exact PySem.W.get_value X J (PySem.W.plainGet_of hg).1 (PySem.W.findObj_own hh ha rfl (by rw [hl,hv])) hv' h
theorem Fb {pl:Sem Bool}{Q:Value×List Value->Shared->Prop}(X:K.In s.heap)(I:yS s.heap x dx C mA)(hg:PySem.W.plainGet K C name=true)
  (hf:PySem.W.findIn K (.ref C) name=some (some (.ref f))) (ht:PySem.W.isFn K (.ref f)=true) (hv:mA name=none) (h:Q (.ref f,[.ref x]) s) :
  wpAny (model prog w) A (getMethod (.ref x) name pl) Q E s:=by
 obtain ⟨od,J,hl⟩:=I.look;exact PySem.W.method_fn X J (PySem.W.plainGet_of hg).1 (PySem.W.plainGet_of hg).2 hf (beq_iff_eq.mp ht) (by show (PySem.W.lookIn name od).map (·.isSome)=some false; rw [hl,hv]; rfl) h
theorem Ho {ns:List Str}{Q:Unit->Shared->Prop}(X:K.In s.heap)(I:yS s.heap x dx C mA)
  (hs:PySem.W.findIn K (.ref C) "__setattr__" = some (some (.builtin "object.__setattr__"))) (hp:PySem.W.plainOver K C=true) (ht:PySem.W.takerIn K C name=some none) (hh:PySem.W.hasDictIn K C=true)
  (hw:PySem.Within mA ns) (hsz:ns.length<=sizeLine)
  (h:∀ h',yS h' x dx C (fun y=>if y=name then some v else mA y)->Ym dx s.heap h'->Q () { s with heap:=h',toks:=s.toks+2 }) :
  wpAny (model prog w) A (setAttr (.ref x) name v) Q E s:=by
 obtain ⟨od,J,hl⟩:=I.look;refine PySem.W.set_plain X J hs (PySem.W.osa_open (s:={ s with toks:=s.toks+1 }) (r:=none) X J hp ht fun b=>?_);obtain ⟨cd,hc,hd'⟩:=PySem.W.any_some hh;have hx:s.heap.get? x=some ⟨.ref C,some dx,.plain,#[]⟩:=I.obj;refine wpAny_bind (wpAny_pure (wpAny_bind (wpAny_bind (wpAny_loadPart hx (wpAny_bind (PySem.W.Looks.here (s:={ s with toks:=s.toks+1 }) (PySem.W.looks_clsIn X hc) ?_))))));rw [hd'];refine wpAny_pure (a:=some dx) (wpAny_bind (wpAny_pure (wpAny_bind ?_)));refine wpAny_nsSet1 (s:={ s with toks:=s.toks+1 }) I.ns fun h' hn2 hs2=>?_;obtain ⟨oD,esD,epD,hoD,hdD,hcD⟩:=hn2.count (PySem.Within.cons name v hw);refine wpAny_bind (wpAny_lookBehind hoD (by rw [hdD]; exact pastItsLine_dict (Y7 hcD (by rw [ZP]; omega))) ?_);exact wpAny_pure (h _ ⟨(hs2.2 _ (Ne.symm I.ne)).trans I.obj,hn2,I.ne⟩ hs2)
theorem GF {R:Result->Shared->Prop}{vs:List Value}{kw:List (Str×Value)}(X:K.In s.heap)(hm:PySem.W.makesIn K C=true)
  (hi:PySem.W.findIn K (.ref C) "__init__" = some (some (.ref f))) (hf:PySem.W.typeIn K (.ref f)=some (.type "function"))
  (h:codeAny (model prog w) (A.under (.builtin "type.__call__" ⟨.ref C::vs,kw⟩)) (.call (.ref f) ⟨.ref (s.heap.objs.size+1)::vs,kw⟩) (PySem.W.InitBack (s.heap.objs.size+1) R)
   { s with heap:=(s.heap.push PySem.W.emptyDict).push (PySem.W.instObj C s.heap.objs.size) }) :
  codeAny (model prog w) A (.call (.ref C) ⟨vs,kw⟩) R s:=by
 obtain ⟨hh,g,d,t,os⟩:=s;exact PySem.W.make_core (PySem.W.makes_of X hm) (PySem.W.looks_findIn X hi) (fun self=>PySem.W.bind_fn X self hf) (.inl rfl) h
end
def jV (f:Str)(v:V):List (Str×V)->List (Str×V)
 | []=>[(f,v)]
 | (g,x)::r=>if g=f then (g,v)::r else (g,x)::jV f v r
theorem nU (f g:Str)(v:V):∀ fs:List (Str×V),(jV f v fs).lookup g=if g=f then some v else fs.lookup g
 | []=>by
  show aAj g [(f,v)]=_
  by_cases h:g=f
  ·have hb:(g==f)=true:=beq_iff_eq.mpr h;simp only [aAj,hb,if_pos h]
  ·have hb:(g==f)=false:=beq_eq_false_iff_ne.mpr h;simp only [aAj,hb,if_neg h]
 | (k,x)::r=>by
  have ih:=nU f g v r;rw [show jV f v ((k,x)::r)=(if k=f then (k,v)::r else (k,x)::jV f v r) from rfl]
  by_cases hk:k=f
  ·rw [if_pos hk]
   by_cases h:g=k
   ·have hb:(g==k)=true:=beq_iff_eq.mpr h;simp only [aAj,hb,if_pos (h.trans hk)]
   ·have hb:(g==k)=false:=beq_eq_false_iff_ne.mpr h;simp only [aAj,hb,if_neg (fun e:g=f=>h (e.trans hk.symm))]
  ·rw [if_neg hk]
   by_cases h:g=k
   ·have hb:(g==k)=true:=beq_iff_eq.mpr h;simp only [aAj,hb,if_neg (fun e:g=f=>hk (h.symm.trans e))]
   ·have hb:(g==k)=false:=beq_eq_false_iff_ne.mpr h;simp only [aAj,hb];exact ih
theorem mX (f:Str)(v:V):∀ fs:List (Str×V),f∈(jV f v fs).map (·.1)/\∀ g,g∈fs.map (·.1)->g∈(jV f v fs).map (·.1)
 | []=>⟨by simp [jV],fun g h=>by simp at h⟩
 | (k,x)::r=>by
  obtain ⟨i1,i2⟩:=mX f v r;rw [show jV f v ((k,x)::r)=(if k=f then (k,v)::r else (k,x)::jV f v r) from rfl]
  by_cases hk:k=f
  ·rw [if_pos hk];subst hk;exact ⟨by simp,fun g h=>by simpa using h⟩
  ·rw [if_neg hk];refine ⟨?_,fun g h=>?_⟩
   ·rw [ZF];exact Y8 _ i1
   ·rw [ZF] at h ⊢;rcases Yn.mp h with e | e
    ·exact Yn.mpr (.inl e)
    ·exact Y8 _ (i2 g e)
theorem oM (f:Str)(v:V):∀ fs:List (Str×V),(jV f v fs).length<=fs.length+1
 | []=>by simp [jV]
 | (k,x)::r=>by
  have ih:=oM f v r;rw [show jV f v ((k,x)::r)=(if k=f then (k,v)::r else (k,x)::jV f v r) from rfl]
  by_cases hk:k=f
  ·rw [if_pos hk,ZP,ZP]; omega
  ·rw [if_neg hk,ZP,ZP]; omega
theorem qY.some_of {v:V}{o:Option Value}(r:qY (some v) o):∃ u,o=some u/\RelV v u:=by
 cases o with
 | none=>exact (show False from r).elim
 | some u=>exact ⟨u,rfl,r⟩
theorem qY.none_of {o:Option Value}(r:qY none o):o=none:=by
 cases o with
 | none=>rfl
 | some u=>exact (show False from r).elim
theorem BL {v:V}{u:Value}(r:RelV v u):PySem.W.handedIn u=true:=by
 cases v with
 | non=>cases (show u=Value.none from r); rfl
 | bl b=>cases (show u=Value.bool b from r); rfl
 | int i=>obtain ⟨t,e⟩:=(show ∃ t,u=Value.int i t from r); cases e; rfl
 | str x=>obtain ⟨t,e⟩:=(show ∃ t,u=Value.str x t from r); cases e; rfl
 | byt b=>obtain ⟨t,e⟩:=(show ∃ t,u=Value.bytes b t from r); cases e; rfl
 | flt b=>obtain ⟨t,e⟩:=(show ∃ t,u=Value.float b t from r); cases e; rfl
 | ref a=>cases (show u=Value.ref a from r); rfl
 | ty n=>cases (show u=Value.type n from r); rfl
section
variable {P:Program}{w:World}{H H':Hp}{h h':Heap}{a C dx:Addr}{fs fs':List (Str×V)}
theorem pA (hok:oY P w H h)(e:H a=some (.ins C dx fs)):∃ mA,yS h a dx C mA/\(∀ f,qY (fs.lookup f) (mA f))/\PySem.Within mA (fs.map (·.1))/\fs.length<=1000/\H dx=some (.own a):=by
 obtain ⟨d,z,ne,ob,mA,n,r,q⟩:=(show cJ P w H h a (.ins C dx fs) from hok a _ e)
 exact ⟨mA,⟨ob,n,ne⟩,r,q,z,d⟩
end
structure uI (K:PySem.W.Frag)(C:Addr):Prop where
 pg:PySem.W.plainGet K C Str.empty=true
 hd:PySem.W.hasDictIn K C=true
 po:PySem.W.plainOver K C=true
 sa:PySem.W.findIn K (.ref C) "__setattr__" = some (some (.builtin "object.__setattr__"))
theorem uI.get {K:PySem.W.Frag}{C:Addr}(c:uI K C)(f:Str):PySem.W.plainGet K C f=true:=c.pg
def kI (K:PySem.W.Frag)(C:Addr)(f:Str):Prop:=PySem.W.findIn K (.ref C) f=some none
theorem kI.taker {K:PySem.W.Frag}{C:Addr}{f:Str}(n:kI K C f):PySem.W.takerIn K C f=some none:=by
 unfold PySem.W.takerIn;rw [show PySem.W.findIn K (.ref C) f=some none from n]
 rfl
structure xP (K:PySem.W.Frag)(C:Addr)(m:Str)(f:Addr):Prop where
 at_:PySem.W.findIn K (.ref C) m=some (some (.ref f))
 fn:PySem.W.isFn K (.ref f)=true
 kp:PySem.W.keepIn K (.ref f)=true
section
variable {X:Cx}{pins:List (Addr×Obj)}{σ:St}{H:Hp}{s:Shared}{a C dx:Addr}{fs:List (Str×V)}{f:Str}{v:V}{A:Around}{E:Value->Shared->Prop}
theorem zG {b:Bool}{Q:Value->Shared->Prop}(I:aQ X pins σ H s)(e:H a=some (.ins C dx fs))(c:uI X.K C)(n:kI X.K C f)(l:fs.lookup f=some v)
  (h:∀ u s',aQ X pins σ H s'->RelV v u->Q u s'):wpAny (model X.prog X.w) A (getAttr (.ref a) f b) Q E s:=by
 obtain ⟨mA,O,r,_,_,_⟩:=pA I.hok e;obtain ⟨u,hu,ru⟩:=qY.some_of (v:=v) (o:=mA f) (by rw [<- l]; exact r f);exact Gh I.kIn O (c.get f) c.hd n hu (BL ru) (h u _ (I.tok _) ru)
theorem qI {m:Str}{g:Addr}{pl:Sem Bool}{Q:Value×List Value->Shared->Prop}(I:aQ X pins σ H s)(e:H a=some (.ins C dx fs))(c:uI X.K C)(k:xP X.K C m g)(l:fs.lookup m=none)
  (h:Q (.ref g,[.ref a]) s):wpAny (model X.prog X.w) A (getMethod (.ref a) m pl) Q E s:=by
 obtain ⟨mA,O,r,_,_,_⟩:=pA I.hok e;have hn:mA m=none:=qY.none_of (by rw [<- l]; exact r m);exact Fb I.kIn O (c.get m) k.at_ k.fn hn h
theorem yK {y:V}{u:Value}{Q:Unit->Shared->Prop}(I:aQ X pins σ H s)(e:H a=some (.ins C dx fs))(c:uI X.K C)(n:kI X.K C f)(hl:fs.length<1000)(ry:RelV y u)
  (h:∀ s',aQ X pins σ (bN H a (.ins C dx (jV f y fs))) s'->Q () s'):wpAny (model X.prog X.w) A (setAttr (.ref a) f u) Q E s:=by
 obtain ⟨mA,O,r,wi,_,ho⟩:=pA I.hok e;have hz:(fs.map (·.1)).length<=sizeLine:=by rw [YQ,sizeLine_eq]; omega
 refine Ho I.kIn O c.sa c.po n.taker c.hd wi hz fun h' O' sb=>h _ ?_;have hd:∃ o,h'.get? dx=some o:=let ⟨o,_,_,e',_⟩:=O'.ns; ⟨o,e'⟩;refine I.write (x:=a) (e:=dx) (by rw [e]; exact True.intro) (.inr ho) (fun b q hb z=>(sb.2 b hb).trans z) hd ?_;refine ⟨by rw [aO O.ne]; exact ho,?_,O.ne,O'.obj,_,O'.ns,fun g=>?_,fun g hg=>?_⟩
 ·have:=oM f y fs; omega
 ·show qY ((jV f y fs).lookup g) (if g=f then some u else mA g);rw [nU]
  by_cases q:g=f
  ·rw [if_pos q,if_pos q]; exact ry
  ·rw [if_neg q,if_neg q]; exact r g
 ·by_cases q:g=f
  ·rw [q]; exact (mX f y fs).1
  ·refine (mX f y fs).2 g (wi g fun z=>hg ?_);show (if g=f then some u else mA g)=none;rw [if_neg q]; exact z
theorem aQ.made (I:aQ X pins σ H s):aQ X pins σ (bN (bN H s.heap.objs.size (.own (s.heap.objs.size+1))) (s.heap.objs.size+1) (.ins C s.heap.objs.size []))
  { s with heap:=(s.heap.push PySem.W.emptyDict).push (PySem.W.instObj C s.heap.objs.size) }:=by
 have e1:(s.heap.push PySem.W.emptyDict).get? s.heap.objs.size=some PySem.W.emptyDict:=YZ s.heap rfl;have e2:((s.heap.push PySem.W.emptyDict).push (PySem.W.instObj C s.heap.objs.size)).get? (s.heap.objs.size+1)=some (PySem.W.instObj C s.heap.objs.size):=by
  have:=YZ (s.heap.push PySem.W.emptyDict) (o:=PySem.W.instObj C s.heap.objs.size) rfl
  rwa [Zg] at this
 have e3:(s.heap.push PySem.W.emptyDict).Ns s.heap.objs.size (fun _=>none):=⟨PySem.W.emptyDict,#[],_,e1,rfl,(fun e he=>absurd he (by simp)),fun _=>rfl⟩
 have I1:=I.laid (a:=s.heap.objs.size) (o:=.own (s.heap.objs.size+1)) (h':=s.heap.push PySem.W.emptyDict) (t':=s.toks) (fun b u q=>YK _ q) (YS _) ⟨_,e1⟩;refine I1.laid (a:=s.heap.objs.size+1) (o:=.ins C s.heap.objs.size []) (t':=s.toks) (fun b u q=>YK _ q) (aAN (Zg _ _)) ?_;have ne:s.heap.objs.size≠s.heap.objs.size+1:=Yd (aAo _);refine ⟨by rw [aO ne,aC],Yq _,ne,e2,fun _=>none,(Heap.Ns1.of_empty e3).at fun o q=>YK _ q,fun _=>True.intro,fun y hy=>absurd rfl hy⟩
theorem Hk {prog:Program}{w:World}{env:Env}{e:Expr}{f:Str}{pos:Pos}{s:Shared}{Q:Value->Shared->Prop}(hb:attributeBase e f env (eval e env)=eval e env)
  (h:wpAny (model prog w) A (eval e env) (fun o s₁=>wpAny (model prog w) A (getAttr o f true) Q E s₁) E s):wpAny (model prog w) A (eval (.Attribute e f pos) env) Q E s :=
 Attribute_any_ h (by rw [arm_eval_Attribute,hb])
end
def M3 (K:PySem.W.Frag)(ta:TE)(f:Str):TE:=fun σ H Q=>ta σ H fun x H1=>∃ a C dx fs v,x=.ref a/\H1 a=some (.ins C dx fs)/\uI K C/\kI K C f/\fs.lookup f=some v/\Q v H1
def Ss (K:PySem.W.Frag)(ta tv:TE)(f:Str):TS:=fun D σ H=>tv σ H fun y H1=>ta σ H1 fun x H2=>∃ a C dx fs,x=.ref a/\H2 a=some (.ins C dx fs)/\uI K C/\kI K C f/\fs.length<1000 ∧
 D.nx σ (bN H2 a (.ins C dx (jV f y fs)))
section
variable {X:Cx}{o e value:Expr}{f:Str}{pos pos' tpos:Pos}{ta tv:TE}
theorem xT (he:PE X e ta)(hb:attributeBase e f X.env (eval e X.env)=eval e X.env):PE X (.Attribute e f pos) (M3 X.K ta f):=by
 intro pins s σ H Q I h;refine Hk hb (cM (he pins s σ H _ I h) fun u s1 ⟨x,H1,I1,rx,a,C,dx,fs,v,ex,ea,c,n,l,q⟩=>?_);subst ex;obtain rfl:u=Value.ref a:=rx;exact zG I1 ea c n l fun u' s2 I2 ru=>⟨v,H1,I2,ru,q⟩
theorem u9 (ha:PE X o ta)(hv:PE X value tv)(hs:swapsWith value (some (.Attribute o f pos')) pos.line X.env=pure false):PS X (.Assign [.Attribute o f pos'] value pos) (Ss X.K ta tv f):=by
 intro pins s σ H D I h;refine plainObj_wpAny_Assign_Attribute (cM (hv pins s σ H _ I h) fun u s1 ⟨y,H1,I1,ry,q⟩=>cM (ha pins s1 σ H1 _ I1 q) fun ov s2 ⟨x,H2,I2,rx,a,C,dx,fs,ex,ea,c,n,l,q2⟩=>?_) hs;subst ex;obtain rfl:ov=Value.ref a:=rx;exact yK I2 ea c n l ry fun s3 I3=>⟨σ,_,I3,q2⟩
theorem JB {pl:Sem Bool}{m:Str}{apos:Pos}{args:List Expr}{pins:List (Addr×Obj)}{s:Shared}{σ:St}{H:Hp}{Q:Value->Shared->Prop}{te:TE}(he:PE X e te)(I:aQ X pins σ H s)
  (h:te σ H fun x H1=>∃ a C dx fs g,x=.ref a/\H1 a=some (.ins C dx fs)/\uI X.K C/\xP X.K C m g/\fs.lookup m=none ∧
   ∀ s1,aQ X pins σ H1 s1->wpAny (model X.prog X.w) X.A (callWith pos (.ref g) [.ref a] (backTo pos (starEach args X.env)) (backToKw pos (keywordEach [] X.env))) Q X.xe s1)
  (ht:eval (.Call (.Attribute e m apos) args [] pos) X.env=(do
   let ov <- eval e X.env
   standAt apos.atName
   let (f,first) <- holding [ov] (getMethod ov m pl)
   callWith pos f first (backTo pos (starEach args X.env)) (backToKw pos (keywordEach [] X.env)))) :
  wpAny (model X.prog X.w) X.A (eval (.Call (.Attribute e m apos) args [] pos) X.env) Q X.xe s:=by
 refine PySem.W.methodCall_KW (pl:=pl) (cM (he pins s σ H _ I h) fun u s1 ⟨x,H1,I1,rx,a,C,dx,fs,g,ex,ea,c,k,l,q⟩=>?_) ht;subst ex;obtain rfl:u=Value.ref a:=rx;exact qI I1 ea c k l (q s1 I1)
end
section
variable {X:Cx}{pins:List (Addr×Obj)}{σ:St}{H:Hp}{s:Shared}{A:Around}{E:Value->Shared->Prop}{Q:Value->Shared->Prop}{c:Value}{b:Bool}
inductive lK (K:PySem.W.Frag)(H:Hp):V->Value->Prop where
 | non:lK K H .non (.type "NoneType")
 | bl (x:Bool):lK K H (.bl x) (.type "bool")
 | int (i:Int):lK K H (.int i) (.type "int")
 | str (x:Str):lK K H (.str x) (.type "str")
 | flt (x:UInt64):lK K H (.flt x) (.type "float")
 | lst {a:Addr}{xs:List V} (e:H a=some (.lst xs)):lK K H (.ref a) (.type "list")
 | frz {a:Addr}{o:Obj}{xs:List V} (e:H a=some (.frz o (.lst xs))):lK K H (.ref a) (.type "list")
 | tup {a:Addr}{xs:List V} (e:H a=some (.tup xs)):lK K H (.ref a) (.type "tuple")
 | dK {a:Addr}{kvs:List (Key×V)} (e:H a=some (.dK kvs)):lK K H (.ref a) (.type "dict")
 | dT {a:Addr}{kvs:List (List Key×V)} (e:H a=some (.dT kvs)):lK K H (.ref a) (.type "dict")
 | ins {a C dx:Addr}{fs:List (Str×V)} (e:H a=some (.ins C dx fs)) (cl:uI K C) (ha:PySem.W.findIn K (.ref C) "__class__" = some (some (.builtin "object.__class__")))
   (hn:PySem.W.specialIn K (.builtin "object.__class__") "__get__" = some (some (.builtin "getset_descriptor.__get__"))) (htk:PySem.W.takesIn K (.builtin "object.__class__")=some true)
   (hm:PySem.W.mroIn K C (.type "object")=some true):lK K H (.ref a) (.ref C)
theorem CP {x:V}{u t:Value}(I:aQ X pins σ H s)(rx:RelV x u)(ty:lK X.K H x t)(e:PySem.W.kitOne X.K t c=some b)(h:∀ tk,Q (.bool b) { s with toks:=tk }) :
  wpAny (model X.prog X.w) A (call (.builtin "isinstance") [u,c]) Q E s:=by
 cases ty with
 | non=>cases (show u=Value.none from rx); exact PySem.W.kia_one PySem.W.kitx_none I.kIn True.intro e (fun z=>nomatch z) h
 | bl y=>cases (show u=Value.bool y from rx); exact PySem.W.kia_one PySem.W.kitx_bool I.kIn True.intro e (fun z=>nomatch z) h
 | int i=>obtain ⟨t,q⟩:=(show ∃ t,u=Value.int i t from rx); cases q; exact PySem.W.kia_one PySem.W.kitx_int I.kIn True.intro e (fun z=>nomatch z) h
 | str y=>obtain ⟨t,q⟩:=(show ∃ t,u=Value.str y t from rx); cases q; exact PySem.W.kia_one PySem.W.kitx_str I.kIn True.intro e (fun z=>nomatch z) h
 | flt y=>obtain ⟨t,q⟩:=(show ∃ t,u=Value.float y t from rx); cases q; exact PySem.W.kia_one PySem.W.kitx_float I.kIn True.intro e (fun z=>nomatch z) h
 | @lst a xs ea =>
  cases (show u=Value.ref a from rx);obtain ⟨_,_,n,_,h1⟩:=(show cJ X.prog X.w H s.heap a (.lst xs) from I.hok a _ ea)
  exact PySem.W.kia_one PySem.W.kitx_list I.kIn ⟨_,h1,rfl⟩ e (fun z=>nomatch z) h
 | @frz a ob xs ea =>
  cases (show u=Value.ref a from rx);obtain ⟨_,_,_,n,_,h1⟩:=(show cJ X.prog X.w H s.heap a (.frz ob (.lst xs)) from I.hok a _ ea)
  exact PySem.W.kia_one PySem.W.kitx_list I.kIn ⟨_,h1,rfl⟩ e (fun z=>nomatch z) h
 | @tup a xs ea =>
  cases (show u=Value.ref a from rx);obtain ⟨_,_,_,p⟩:=(show cJ X.prog X.w H s.heap a (.tup xs) from I.hok a _ ea)
  obtain ⟨o,h1,h2,_⟩:=p;exact PySem.W.kia_one PySem.W.kitx_tuple I.kIn ⟨o,h1,h2⟩ e (fun z=>nomatch z) h
 | @dK a kvs ea =>
  cases (show u=Value.ref a from rx);obtain ⟨_,_,vs,_,p⟩:=(show cJ X.prog X.w H s.heap a (.dK kvs) from I.hok a _ ea)
  obtain ⟨o,es,ep,h1,h2,_⟩:=p;exact PySem.W.kia_one PySem.W.kitx_dict I.kIn ⟨o,h1,h2.1⟩ e (fun z=>nomatch z) h
 | @dT a kvs ea =>
  cases (show u=Value.ref a from rx);obtain ⟨_,_,xs,_,o,es,ep,h1,h2,_⟩:=(show cJ X.prog X.w H s.heap a (.dT kvs) from I.hok a _ ea)
  exact PySem.W.kia_one PySem.W.kitx_dict I.kIn ⟨o,h1,h2.1⟩ e (fun z=>nomatch z) h
 | @ins a C dx fs ea cl ha hn htk hm =>
  cases (show u=Value.ref a from rx);obtain ⟨mA,O,_⟩:=pA I.hok ea;obtain ⟨od,J,_⟩:=O.look;exact PySem.W.kia_one (PySem.W.kitx_own (cl.get _) cl.hd ha hn htk hm) I.kIn J e (fun z=>nomatch z) h
end
structure dJ (k:Nat)(A:Around):Prop where
 hd:A.handled=none
 dp:A.depth+3*k+5<recursionLimit
 un:A.units+16*k+200<cLine
theorem dJ.mono {j k:Nat}{A:Around}(r:dJ k A)(h:j<=k):dJ j A:=⟨r.hd,by have:=r.dp; omega,by have:=r.un; omega⟩
theorem dJ.deeper {k:Nat}{A:Around}(r:dJ (k+1) A)(env:Env):dJ k (A.deeper env) :=
 ⟨r.hd,by have:=r.dp; show A.depth+1+3*k+5<_; omega,by have:=r.un; show A.units+3+16*k+200<_; omega⟩
theorem xV {A:Around}{C:Addr}{us:List Value}{kw:List (Str×Value)}:(A.under (.builtin "type.__call__" ⟨.ref C::us,kw⟩)).depth=A.depth+1:=by
 first | rfl | simp [Around.under,Code.weight,Code.isCreation,Code.isGuard,Code.isCaller,Code.frames,Code.isFrame,guardIds]
theorem yC {A:Around}{C:Addr}{us:List Value}{kw:List (Str×Value)}:(A.under (.builtin "type.__call__" ⟨.ref C::us,kw⟩)).units=A.units+1:=by
 first | rfl | simp [Around.under,Code.cUnits,Code.frames,Code.isFrame]
theorem dJ.make {k:Nat}{A:Around}(r:dJ (k+1) A)(C:Addr)(us:List Value)(kw:List (Str×Value)):dJ k (A.under (.builtin "type.__call__" ⟨.ref C::us,kw⟩)) :=
 ⟨r.hd,by have:=r.dp; rw [xV]; omega,by have:=r.un; rw [yC]; omega⟩
theorem dJ.depth {k:Nat}{A:Around}(r:dJ k A):A.depth<recursionLimit:=by have:=r.dp; omega
theorem dJ.units {k:Nat}{A:Around}(r:dJ k A):A.units+64<cLine:=by have:=r.un; omega
def IK:TA:=fun _ H Q=>Q [] H
def Ao (ta:TE)(tr:TA):TA:=fun σ H Q=>ta σ H fun x H1=>tr σ H1 fun xs H2=>Q (x::xs) H2
section
variable {X:Cx}{e:Expr}{es:List Expr}{te:TE}{t:TA}{pos:Pos}
theorem aD:PA X [] IK:=fun _ _ _ _ H Q I h=>Calls.spliced_nil ⟨[],H,I,.nil,h⟩
theorem aA (ha:PE X e te)(hr:PA X es t)(hs:starEach (e::es) X.env=(false,eval e X.env)::starEach es X.env:=by rfl):PA X (e::es) (Ao te t):=by
 intro pos pins s σ H Q I h;rw [hs];show wpAny _ _ (spliced ((false,eval e X.env)::backTo pos (starEach es X.env))) _ _ s;refine Calls.spliced_cons (cM (ha pins s σ H _ I h) fun u s1 ⟨x,H1,I1,r1,q1⟩=>?_);exact cM (hr pos pins s1 σ H1 _ I1 q1) fun us s2 ⟨xs,H2,I2,r2,q2⟩=>⟨x::xs,H2,I2,.cons r1 r2,q2⟩
def S7 (t:TA):TE:=fun σ H Q=>t σ H fun xs H1=>xs.length<=sizeLine/\∀ p,H1 p=none->Q (.ref p) (bN H1 p (.tup xs))
def Q3 (t:TA):TE:=fun σ H Q=>t σ H fun xs H1=>xs.length<=sizeLine/\∀ p,H1 p=none->Q (.ref p) (bN H1 p (.lst xs))
theorem gY {x1}(h:PA X es t):PE X (.Tuple es x1 pos) (S7 t):=by
 intro pins s σ H Q I hq;refine wpAny_Tuple_spliced (cM (h pos pins s σ H _ I hq) fun us s1 ⟨xs,H1,I1,r,z,q⟩=>⟨by rw [<- r.length]; exact z,?_⟩);have hf:H1 s1.heap.objs.size=none:=I1.hok.fresh (YS _);refine ⟨.ref s1.heap.objs.size,bN H1 s1.heap.objs.size (.tup xs),I1.laid (t':=s1.toks) (fun b u e=>YK _ e) (YS _) ?_,rfl,q _ hf⟩;exact ⟨z,us,r,⟨_,YZ _ rfl,rfl,_,rfl⟩⟩
theorem gB (h:PA X es t):PE X (.List es pos) (Q3 t):=by
 intro pins s σ H Q I hq;refine wpAny_List_spliced (cM (h pos pins s σ H _ I hq) fun us s1 ⟨xs,H1,I1,r,z,q⟩=>⟨by rw [<- r.length]; exact z,?_⟩);have hf:H1 s1.heap.objs.size=none:=I1.hok.fresh (YS _);refine ⟨.ref s1.heap.objs.size,bN H1 s1.heap.objs.size (.lst xs),I1.laid (t':=s1.toks) (fun b u e=>YK _ e) (YS _) ?_,rfl,q _ hf⟩;exact ⟨z,us,0,r,YZ _ rfl⟩
end
abbrev Sp:=List V->Hp->VK->XK->Prop
abbrev vY:=List Env->Hp->Shared->XK->Value->Shared->Prop
structure zA (P:Program)(w:World)(K:PySem.W.Frag)(mg:Str->Option Value)(base:Heap)(A:Around)(outer:List Env)(s:Shared)(H:Hp):Prop where
 frames:A.frames=some outer
 mod:Mod K mg base
 bs:∀ b o,base.get? b=some o->s.heap.get? b=some o/\H b=none
 bsz:base.objs.size<=s.heap.objs.size
 funs:s.heap.FunFrames base outer
 frf:∀ b∈Fx outer,H b=none
 hok:oY P w H s.heap
 bare:AllBare s.gens
def CE (outer:List Env)(P:Program)(w:World)(H:Hp)(s:Shared)(Q:VK)(u:Value)(s':Shared):Prop :=
 ∃ v H',s'.os=s.os/\AllBare s'.gens/\Un (Fx outer) [] H H' s.heap s'.heap/\oY P w H' s'.heap/\RelV v u/\Q v H'
def CR (CX:vY)(outer:List Env)(P:Program)(w:World)(H:Hp)(s:Shared)(Q:VK)(E:XK)(r:Result)(s':Shared):Prop :=
 match r with
 | .ok (.ret u)=>CE outer P w H s Q u s'
 | .ok _=>False
 | .error e=>CX outer H s E e s'
structure bO (P:Program)(w:World)(K:PySem.W.Frag)(mg:Str->Option Value)(base:Heap)(CX:vY)(k:Nat)(f:Addr)(fd:FuncData)(ps:List Str)(sp:Sp):Prop where
 len:∀ vs H Q E,sp vs H Q E->vs.length=ps.length
 run:∀ (A:Around) (outer:List Env) (s:Shared) (H:Hp) (args:Args) (us:List Value) (vs:List V) (Q:VK) (E:XK),dJ k A->zA P w K mg base A outer s H->BindsTo s fd args (ps.zip us)->bL vs us->sp vs H Q E ->
  codeAny (model P w) A (.call (.ref f) args) (CR CX outer P w H s Q E) s
theorem bO.mono {P:Program}{w:World}{K:PySem.W.Frag}{mg:Str->Option Value}{base:Heap}{CX:vY}{j k:Nat}{f:Addr}{fd:FuncData}{ps:List Str}{sp:Sp}(F:bO P w K mg base CX j f fd ps sp)(h:j<=k) :
  bO P w K mg base CX k f fd ps sp:=⟨F.len,fun A outer s H args us vs Q E hr=>F.run A outer s H args us vs Q E (hr.mono h)⟩
theorem bO.imp {P:Program}{w:World}{K:PySem.W.Frag}{mg:Str->Option Value}{base:Heap}{CX:vY}{k:Nat}{f:Addr}{fd:FuncData}{ps:List Str}{sp sp':Sp}(F:bO P w K mg base CX k f fd ps sp)
  (h:∀ vs H Q E,sp' vs H Q E->sp vs H Q E):bO P w K mg base CX k f fd ps sp' :=
 ⟨fun vs H Q E q=>F.len vs H Q E (h _ _ _ _ q),fun A outer s H args us vs Q E hr he hb hv hs=>F.run A outer s H args us vs Q E hr he hb hv (h _ _ _ _ hs)⟩
theorem zA.make {P:Program}{w:World}{K:PySem.W.Frag}{mg:Str->Option Value}{base:Heap}{A:Around}{outer:List Env}{s:Shared}{H:Hp}(e:zA P w K mg base A outer s H)(C:Addr)(us:List Value)(kw:List (Str×Value)) :
  zA P w K mg base (A.under (.builtin "type.__call__" ⟨.ref C::us,kw⟩)) outer s H:=⟨by first | exact e.frames | (simpa [Around.under,Code.envs,Code.isFrame,pushEnvs] using e.frames),e.mod,e.bs,e.bsz,e.funs,e.frf,e.hok,e.bare⟩
section
variable {X:Cx}{pins:List (Addr×Obj)}{σ:St}{H:Hp}{s s':Shared}
theorem aQ.env0 (I:aQ X pins σ H s):zA X.prog X.w X.K X.mg X.base X.A X.stack s H :=
 ⟨I.ok.frames,I.ok.mod,I.bs,Y7 I.ok.bsz I.sz,I.stack,I.stkFree,I.hok,I.bare⟩
theorem aQ.after {Q:VK}{u:Value}(I:aQ X pins σ H s)(h:CE X.stack X.prog X.w H s Q u s'):EP X pins σ Q u s':=by
 obtain ⟨v,H',os,bare,un,hok,r,q⟩:=h;obtain ⟨hh,g,d,t,os'⟩:=s';obtain rfl:os'=s.os:=os;exact ⟨v,H',I.call (h':=hh) (g':=g) (d':=d) (t':=t) (ch:=[]) un hok bare (fun b z=>absurd z (by simp)),r,q⟩
end
def JR (sp:Sp)(dvs:List V)(E:XK)(t:TA):TE:=fun σ H Q=>t σ H fun vs H1=>sp (vs++dvs) H1 Q E
def z7 (C:Addr)(m:Str)(sp:Sp)(dvs:List V)(E:XK)(ta:TE)(t:TA):TE:=fun σ H Q=>ta σ H fun x H1=>∃ a dx fs,x=.ref a/\H1 a=some (.ins C dx fs)/\fs.lookup m=none ∧
 t σ H1 fun vs H2=>sp (x::(vs++dvs)) H2 Q E
def Mv (C:Addr)(sp:Sp)(dvs:List V)(E:XK)(t:TA):TE:=fun σ H Q=>t σ H fun vs H1=>∀ x dx,H1 x=none->H1 dx=none->dx≠x ->
 sp (.ref x::(vs++dvs)) (bN (bN H1 dx (.own x)) x (.ins C dx [])) (fun v H2=>v=.non/\Q (.ref x) H2) E
def Binds (K:PySem.W.Frag)(fd:FuncData)(ps:List Str)(ds:List Value):Prop :=
 ∀ (s:Shared) (us:List Value),K.In s.heap->(us++ds).length=ps.length->BindsTo s fd ⟨us,[]⟩ (ps.zip (us++ds))
theorem Binds.all {K:PySem.W.Frag}{fd:FuncData}{ps:List Str}(h:∀ us:List Value,us.length=ps.length->bindArgs fd ⟨us,[]⟩=pure (ps.zip us)):Binds K fd ps []:=fun s us _ hl=>by
 rw [Zc] at hl ⊢;exact .of_eq (h us hl)
def mW (CX:vY)(X:Cx)(E:XK):Prop:=∀ (pins:List (Addr×Obj)) (σ:St) (H:Hp) (s:Shared) (e:Value) (s':Shared),aQ X pins σ H s->CX X.stack H s E e s'->X.xe e s'
section
variable {X:Cx}{CX:vY}{k:Nat}{f C:Addr}{fd:FuncData}{ps:List Str}{sp:Sp}{dvs:List V}{ds:List Value}{E:XK}{x m:Str}{p pos apos:Pos}{e o:Expr}{es:List Expr}{ta:TE}{t:TA}
theorem Du {pins:List (Addr×Obj)}{σ:St}{H:Hp}{s:Shared}{Q:VK}{us:List Value}{vs:List V}(F:bO X.prog X.w X.K X.mg X.base CX k f fd ps sp)(hr:dJ k X.A)(hb:Binds X.K fd ps ds)(hd:bL dvs ds)(hx:mW CX X E)
  (I:aQ X pins σ H s) (r:bL vs us) (h:sp (vs++dvs) H Q E):wpAny (model X.prog X.w) X.A (call (.ref f) us) (EP X pins σ Q) X.xe s:=by
 have r2:bL (vs++dvs) (us++ds):=r.append hd;have hl:(us++ds).length=ps.length:=by rw [<- r2.length]; exact F.len _ _ _ _ h
 refine wpAny_call (codeAny_mono (F.run X.A X.stack s H ⟨us,[]⟩ (us++ds) (vs++dvs) Q E hr I.env0 (hb s us I.kIn hl) r2 h) fun r s' hq=>?_);cases r with
 | error e=>exact hx pins σ H s e s' I hq
 | ok fl =>
  cases fl with
  | ret u=>exact I.after hq
  | next=>exact False.elim hq
  | brk=>exact False.elim hq
  | cont=>exact False.elim hq
theorem Gm (F:bO X.prog X.w X.K X.mg X.base CX k f fd ps sp)(hr:dJ k X.A)(hg:Gl X x)(hm:X.mg x=some (.ref f))(hk:PySem.W.keepIn X.K (.ref f)=true)(hb:Binds X.K fd ps ds)(hd:bL dvs ds)(hx:mW CX X E)
  (ha:PA X (e::es) t) (hdb:(x==("__debug__" : Str))=false:=by decide) (he:starEach (e::es) X.env=(false,eval e X.env)::starEach es X.env:=by rfl) (hpl:(backTo pos (starEach es X.env)).any (·.1)=false:=by rfl) :
  PE X (.Call (.Name x p) (e::es) [] pos) (JR sp dvs E t):=by
 intro pins s σ H Q I h;refine wpAny_Call_Name_kw (tX I hg hm ?_ hdb);refine PySem.W.callWith_K (h₀:=X.base) I.ok.mod.kin hk (cM (ha pos pins s σ H _ I h) fun us s1 ⟨vs,H1,I1,r,q⟩=>⟨I1.kIn,?_⟩) he hpl;exact Du F hr hb hd hx I1 r q
theorem uU {pl:Sem Bool}(he:PE X o ta)(c:uI X.K C)(hm:xP X.K C m f)(F:bO X.prog X.w X.K X.mg X.base CX k f fd ps sp)(hr:dJ k X.A)(hb:Binds X.K fd ps ds)(hd:bL dvs ds)(hx:mW CX X E)(ha:PA X (e::es) t)
  (hst:starEach (e::es) X.env=(false,eval e X.env)::starEach es X.env:=by rfl) (hpl:(backTo pos (starEach es X.env)).any (·.1)=false:=by rfl)
  (ht:eval (.Call (.Attribute o m apos) (e::es) [] pos) X.env=(do
   let ov <- eval o X.env
   standAt apos.atName
   let (f,first) <- holding [ov] (getMethod ov m pl)
   callWith pos f first (backTo pos (starEach (e::es) X.env)) (backToKw pos (keywordEach [] X.env))):=by rfl) :
  PE X (.Call (.Attribute o m apos) (e::es) [] pos) (z7 C m sp dvs E ta t):=by
 intro pins s σ H Q I h;refine PySem.W.methodCall_KW (pl:=pl) (cM (he pins s σ H _ I h) fun u s1 ⟨x,H1,I1,rx,a,dx,fs,ex,ea,l,q⟩=>?_) ht;subst ex;obtain rfl:u=Value.ref a:=rx;refine qI I1 ea c hm l ?_;refine PySem.W.callWith_K (first:=[.ref a]) (h₀:=X.base) I.ok.mod.kin hm.kp (cM (ha pos pins s1 σ H1 _ I1 q) fun us s2 ⟨vs,H2,I2,r,q2⟩=>⟨I2.kIn,?_⟩) hst hpl;exact Du (us:=.ref a::us) (vs:=.ref a::vs) F hr hb hd hx I2 (.cons rfl r) q2
structure Mk (K:PySem.W.Frag)(C f:Addr):Prop where
 makes:PySem.W.makesIn K C=true
 init:PySem.W.findIn K (.ref C) "__init__" = some (some (.ref f))
 fn:PySem.W.isFn K (.ref f)=true
 kp:PySem.W.keepIn K (.ref C)=true
theorem Fq {pins:List (Addr×Obj)}{σ:St}{H:Hp}{s:Shared}{Q:VK}{us:List Value}{vs:List V}(M:Mk X.K C f)(F:bO X.prog X.w X.K X.mg X.base CX k f fd ps sp)(hr:dJ (k+1) X.A)(hb:Binds X.K fd ps ds)(hd:bL dvs ds)
  (hx:mW CX X E) (I:aQ X pins σ H s) (r:bL vs us)
  (h:∀ x dx,H x=none->H dx=none->dx≠x->sp (.ref x::(vs++dvs)) (bN (bN H dx (.own x)) x (.ins C dx [])) (fun v H2=>v=.non/\Q (.ref x) H2) E) :
  wpAny (model X.prog X.w) X.A (call (.ref C) us) (EP X pins σ Q) X.xe s:=by
 have hq:=h (s.heap.objs.size+1) s.heap.objs.size (I.hok.fresh (aAk _)) (I.hok.fresh (YS _)) (Yd (aAo _));have I2:=aQ.made (C:=C) I;have r2:bL (V.ref (s.heap.objs.size+1)::(vs++dvs)) (Value.ref (s.heap.objs.size+1)::(us++ds)):=.cons rfl (r.append hd);have hl:(Value.ref (s.heap.objs.size+1)::us++ds).length=ps.length:=by
  have e:=r2.length;rw [F.len _ _ _ _ hq] at e;exact e.symm
 refine wpAny_call (GF (f:=f) I.kIn M.makes M.init (beq_iff_eq.mp M.fn) (codeAny_mono (F.run _ X.stack _ _ ⟨Value.ref (s.heap.objs.size+1)::us,[]⟩ (Value.ref (s.heap.objs.size+1)::(us++ds)) _ _ E (hr.make C us [])
  (I2.env0.make C us []) (hb _ (Value.ref (s.heap.objs.size+1)::us) I2.kIn hl) r2 hq) fun r s' hq'=>?_))
 cases r with
 | error e=>exact hx pins σ _ _ e s' I2 hq'
 | ok fl =>
  cases fl with
  | ret u =>
   obtain ⟨v,H',I3,rv,ev,q3⟩:=I2.after hq';subst ev;exact ⟨rv,⟨V.ref (s.heap.objs.size+1),H',I3,rfl,q3⟩⟩
  | next=>exact False.elim hq'
  | brk=>exact False.elim hq'
  | cont=>exact False.elim hq'
theorem tY (M:Mk X.K C f)(F:bO X.prog X.w X.K X.mg X.base CX k f fd ps sp)(hr:dJ (k+1) X.A)(hg:Gl X x)(hm:X.mg x=some (.ref C))(hb:Binds X.K fd ps ds)(hd:bL dvs ds)(hx:mW CX X E)
  (ha:PA X (e::es) t) (hdb:(x==("__debug__" : Str))=false:=by decide) (he:starEach (e::es) X.env=(false,eval e X.env)::starEach es X.env:=by rfl) (hpl:(backTo pos (starEach es X.env)).any (·.1)=false:=by rfl) :
  PE X (.Call (.Name x p) (e::es) [] pos) (Mv C sp dvs E t):=by
 intro pins s σ H Q I h;refine wpAny_Call_Name_kw (tX I hg hm ?_ hdb);refine PySem.W.callWith_K (h₀:=X.base) I.ok.mod.kin M.kp (cM (ha pos pins s σ H _ I h) fun us s1 ⟨vs,H1,I1,r,q⟩=>⟨I1.kIn,?_⟩) he hpl;exact Fq M F hr hb hd hx I1 r q
end
structure aY (N P:List Str)(sc:Scope):Prop where
 kind:sc.kind=.function
 co:sc.isCoroutine=false
 gen:sc.isGenerator=false
 nd:N.Nodup
 pre:N.take P.length=P
 par:∀ x∈P,sc.names.lookup x=some .local∨sc.names.lookup x=some .cell
 nofree:∀ y∈sc.names,y.2≠.free
theorem rK {kindOf:Str->Option NameKind}{x:Str}:∀ {binds:List (Str×Value)}{m:Str->Option Value},(∀ v,(x,v)∉binds)->bindL kindOf binds m x=m x
 | [],_,_=>rfl
 | (n,v)::r,m,h=>by
  unfold bindL;rw [rK fun w hw=>h w (Y8 _ hw)]
  split
  ·have:x≠n:=by rintro rfl; exact h v Yg
   simp [this]
  ·rfl
theorem rR {kindOf:Str->Option NameKind}{x:Str}:∀ {binds:List (Str×Value)}{m:Str->Option Value},(∀ v,(x,v)∉binds)->bindC kindOf binds m x=m x
 | [],_,_=>rfl
 | (n,v)::r,m,h=>by
  unfold bindC;rw [rR fun w hw=>h w (Y8 _ hw)]
  split
  ·rfl
  ·have:x≠n:=by rintro rfl; exact h v Yg
   simp [this]
theorem sV {kindOf:Str->Option NameKind}{x:Str}{v:Value}:∀ {P:List Str}{vs:List Value}{i:Nat}{m:Str->Option Value},P.Nodup->P[i]? = some x->vs[i]? = some v->kindOf x=some .local ->
  bindL kindOf (P.zip vs) m x=some v
 | [],_,_,_,_,h,_,_=>by simp at h
 | _::_,[],_,_,_,_,h,_=>by simp at h
 | p::P,w::vs,0,m,nd,h1,h2,hk=>by
  simp at h1 h2; subst h1; subst h2;show bindL kindOf ((p,w)::P.zip vs) m p=_;unfold bindL;rw [rK fun v hv=>(Zj.mp nd).1 (aA9 hv).1,if_pos hk];simp
 | p::P,w::vs,i+1,m,nd,h1,h2,hk=>by
  show bindL kindOf ((p,w)::P.zip vs) m x=_;unfold bindL;exact sV (i:=i) (Zj.mp nd).2 (by simpa using h1) (by simpa using h2) hk
theorem rM {kindOf:Str->Option NameKind}{x:Str}{v:Value}:∀ {P:List Str}{vs:List Value}{i:Nat}{m:Str->Option Value},P.Nodup->P[i]? = some x->vs[i]? = some v->kindOf x≠some .local ->
  bindC kindOf (P.zip vs) m x=some v
 | [],_,_,_,_,h,_,_=>by simp at h
 | _::_,[],_,_,_,_,h,_=>by simp at h
 | p::P,w::vs,0,m,nd,h1,h2,hk=>by
  simp at h1 h2; subst h1; subst h2;show bindC kindOf ((p,w)::P.zip vs) m p=_;unfold bindC;rw [rR fun v hv=>(Zj.mp nd).1 (aA9 hv).1,if_neg hk];simp
 | p::P,w::vs,i+1,m,nd,h1,h2,hk=>by
  show bindC kindOf ((p,w)::P.zip vs) m x=_;unfold bindC;exact rM (i:=i) (Zj.mp nd).2 (by simpa using h1) (by simpa using h2) hk
def start (N:List Str)(vs:List V):St:=vs.map some++Zr (N.length-vs.length) none
def yW (CX:vY)(P:Program)(w:World)(K:PySem.W.Frag)(mg:Str->Option Value)(base:Heap)(N:List Str)(qual:Str)(scope:Scope)(f:Addr)(cd:Value)(A:Around)(outer:List Env)(s:Shared)(H:Hp)(E:XK):Cx where
 prog:=P
 w:=w
 K:=K
 mg:=mg
 base:=base
 A:=A.deeper (envOfC qual scope s.heap.objs.size f cd)
 N:=N
 s₀:=s
 H₀:=H
 env:=envOfC qual scope s.heap.objs.size f cd
 outer:=outer
 stack:=envOfC qual scope s.heap.objs.size f cd::outer
 ex:=[]
 calm:=true
 fn:=fun _=>true
 pn:=[]
 xe:=fun e s'=>wpAny (model P w) (A.deeper (envOfC qual scope s.heap.objs.size f cd)) (leaving (envOfC qual scope s.heap.objs.size f cd) e) (fun _ s''=>CX outer H s E e s'') (fun e' s''=>CX outer H s E e' s'') s'
theorem wY {sc:Scope}{n:Nat}{x:Str}(h:sc.names.lookup x=some .cell):∃ c,(cellsFrom n sc.names []).lookup x=some c:=by
 have q:=PySem.W.cellsFrom_some sc.names n [] (.inl h);exact Option.isSome_iff_exists.mp q
theorem Be {CX:vY}{P:Program}{w:World}{K:PySem.W.Frag}{mg:Str->Option Value}{base:Heap}{N ps:List Str}{qual:Str}{scope:Scope}{f:Addr}{cd:Value}{A:Around}{outer:List Env}{s s1:Shared}{H:Hp}{E:XK}{us:List Value}{vs:List V}
  (S:aY N ps scope) (hd:A.handled=none) (e0:zA P w K mg base A outer s H) (hl:vs.length=ps.length) (r:bL vs us)
  (x:InCallC s s.heap.objs.size (bindL (envOfC qual scope s.heap.objs.size f cd).kindOf (ps.zip us) fun _=>none) (cellsFrom (s.heap.objs.size+1) scope.names []) (bindC (envOfC qual scope s.heap.objs.size f cd).kindOf (ps.zip us) fun _=>none) s1) :
  aQ (yW CX P w K mg base N qual scope f cd A outer s H E) [] (start N vs) H s1:=by
 have hpl:ps.length<=N.length:=by have:=congrArg aBF S.pre; rw [Yw] at this; omega
 obtain ⟨h1,tk,rfl,hk⟩:=x.done;have noA:∀ b:Addr,b∉(yW CX P w K mg base N qual scope f cd A outer s H E).ex:=fun b z=>absurd (show b∈([]:List Addr) from z) (by simp);refine ⟨⟨e0.mod,S.kind,rfl,rfl,YS _,fun y z c h1 h2=>?_,fun y hy=>?_,fun y c _ h=>?_,fun _=>hd,Around.frames_deeper e0.frames,.inr ⟨rfl,rfl⟩,fun b z=>absurd z (noA b),e0.bs,e0.bsz,fun b _ _=>noA b,fun b z=>absurd z (noA b),e0.funs,e0.frf⟩,
  rfl,e0.bare,Un.kept hk,⟨_,x.toInCall.ns,fun i y v h1 h2 h3=>?_⟩,fun y c h=>⟨_,x.cell y c h⟩,e0.hok.fresh (YS _),fun y c h=>?_,fun p hp=>absurd (show p∈([]:List (Addr×Obj)) from hp) (by simp),e0.hok.kept hk,?_⟩
 ·exact name_of_addr x.apart (PySem.mem_of_lookup h1) (PySem.mem_of_lookup h2)
 ·have hy:scope.names.lookup y=some .cell∨scope.names.lookup y=some .free:=hy;rcases hy with hy | hy
  ·exact wY hy
  ·exact absurd rfl (S.nofree _ (PySem.mem_of_lookup hy))
 ·exact Yx (x.above y c (PySem.mem_of_lookup h))
 ·have hi:i<vs.length:=by
   unfold start at h2
   by_cases hi:i<vs.length
   ·exact hi
   ·rw [Z3 (by simpa using hi)] at h2;rw [aA1] at h2
    split at h2 <;> cases h2
  have ha:vs[i]? = some v:=by
   unfold start at h2;rw [Zd (by simpa using hi),Yi] at h2;cases e:vs[i]? with
   | none=>rw [e] at h2; cases h2
   | some a=>rw [e] at h2; cases h2; rfl
  obtain ⟨u,hu,rv⟩:=r.get ha;have hp:ps[i]? = some y:=by
   rw [<- S.pre,List.getElem?_take_of_lt (by omega)]; exact h1
  have ndP:ps.Nodup:=by rw [<- S.pre]; exact S.nd.sublist (aAU _ _)
  refine ⟨u,rv,?_⟩;rcases S.par y (Yy hp) with k | k
  ·exact .inl ⟨k,sV ndP hp hu k⟩
  ·obtain ⟨c,e⟩:=wY (n:=s.heap.objs.size+1) k;refine .inr ⟨.inl k,c,e,?_⟩;have q:=x.cell y c e;rw [rM ndP hp hu (by show scope.names.lookup y≠_; rw [k]; decide)] at q;exact q
 ·exact e0.hok.fresh (Yx (x.above y c (PySem.mem_of_lookup h)))
 ·unfold start;show _=N.length;rw [Y4,YQ,aAf];omega
theorem JM {CX:vY}{P:Program}{w:World}{K:PySem.W.Frag}{mg:Str->Option Value}{base:Heap}{k:Nat}{f:Addr}{name qual:Str}{params:Arguments}{body:List Stmt}{scope:Scope}{dV kV doc pm cdv ct oc:Value}{an od:Option Addr}
  {osl:Array (Option Value)}{N ps:List Str}{sp:Sp} (lk:K.lookup f=some ⟨oc,od,.func (PySem.W.fnOf name qual params body scope dV kV doc pm an cdv ct),osl⟩) (hcd:PySem.W.codeIn K cdv qual=true) (S:aY N ps scope)
  (len:∀ vs H Q E,sp vs H Q E->vs.length=ps.length)
  (hbody:∀ (A:Around) (outer:List Env) (s:Shared) (H:Hp) (vs:List V) (Q:VK) (E:XK),dJ k (A.deeper (envOfC qual scope s.heap.objs.size f cdv))->sp vs H Q E ->
   ∃ t,Aa (yW CX P w K mg base N qual scope f cdv A outer s H E) body t/\t { nx:=fun _ H'=>Q .non H',rt:=Q } (start N vs) H) :
  bO P w K mg base CX (k+1) f (PySem.W.fnOf name qual params body scope dV kV doc pm an cdv ct) ps sp:=by
 refine ⟨len,fun A outer s H args us vs Q E hr e0 hb r hsp=>?_⟩;have hl:=len _ _ _ _ hsp;have KX:K.In s.heap:=e0.mod.kin.keeps fun b o e=>(e0.bs b o e).1;have lim:s.heap.NoLimit:=e0.mod.nolimit.keeps fun b o e=>(e0.bs b o e).1;have hkind:∀ y∈ps.zip us,scope.names.lookup y.1=some .local∨(scope.names.lookup y.1=some .cell/\((cellsFrom (s.heap.objs.size+1) scope.names []).lookup y.1).isSome=true):=fun ⟨n,v⟩ hy=>by
  rcases S.par n (aA9 hy).1 with q | q
  ·exact .inl q
  ·exact .inr ⟨q,PySem.W.cellsFrom_some _ _ _ (.inl q)⟩
 refine codeAny_call_function hr.depth (KX _ _ lk) rfl S.co S.gen rfl (PySem.W.codeRec_of KX hcd) (hb _ _ _ _ ?_);refine wpAny_newFunctionEnv_cells S.kind hkind fun env he s1 x=>?_;subst he;refine ⟨lim.keeps x.toInCall.keep,codeAny_func ?_⟩;obtain ⟨t,ht,hq⟩:=hbody A outer s H vs Q E (hr.deeper _) hsp;have I:aQ (yW CX P w K mg base N qual scope f cdv A outer s H E) [] (start N vs) H s1:=Be S hr.hd e0 hl r x;refine wpAny_mono (ht [] s1 (start N vs) H _ I hq) (fun fl s' hs=>?_) fun e s' hs=>hs;have fin:∀ {σ':St}{H':Hp}{v:V}{u:Value},aQ (yW CX P w K mg base N qual scope f cdv A outer s H E) [] σ' H' s'->RelV v u->Q v H'->CE outer P w H s Q u s' :=
  fun {σ' H' v u} J rv q=>⟨v,H',J.os,J.bare,J.base,J.hok,rv,q⟩
 cases fl with
 | ret u =>
  obtain ⟨v,σ',H',J,rv,q⟩:=hs;exact fin J rv q
 | next =>
  obtain ⟨σ',H',J,q⟩:=hs;exact fin (v:=V.non) (u:=Value.none) J rfl q
 | brk =>
  obtain ⟨_,_,_,q⟩:=hs;exact False.elim q
 | cont =>
  obtain ⟨_,_,_,q⟩:=hs;exact False.elim q
section
variable {X:Cx}{x:Str}{p pos:Pos}{e:Expr}{es:List Expr}{t:TA}{id T:String}{r:List V->Hp->VK->Prop}
def Tr (r:List V->Hp->VK->Prop)(t:TA):TE:=fun σ H Q=>t σ H fun vs H1=>r vs H1 Q
theorem aV (hc:cN X (.builtin id) r)(hg:Gl X x)(hm:X.mg x=none)(hv:bootBuiltins x=some (.builtin id))(ha:PA X (e::es) t)(hn:x≠"__name__":=by decide)(hdb:(x==("__debug__" : Str))=false:=by decide)
  (he:starEach (e::es) X.env=(false,eval e X.env)::starEach es X.env:=by rfl) (hpl:(backTo pos (starEach es X.env)).any (·.1)=false:=by rfl):PE X (.Call (.Name x p) (e::es) [] pos) (Tr r t):=by
 intro pins s σ H Q I h;refine wpAny_Call_Name_kw (jJ I hg hm hv ?_ hn hdb);exact PyProof.Rows.callWith_builtin1 (cM (ha pos pins s σ H _ I h) fun us s1 ⟨vs,H1,I1,r1,q1⟩=>hc pins s1 σ H1 vs us Q I1 r1 q1) he hpl
theorem cB (hc:cN X (.type T) r)(hg:Gl X x)(hm:X.mg x=none)(hv:bootBuiltins x=some (.type T))(ha:PA X (e::es) t)(hn:x≠"__name__":=by decide)(hdb:(x==("__debug__" : Str))=false:=by decide)
  (he:starEach (e::es) X.env=(false,eval e X.env)::starEach es X.env:=by rfl) (hpl:(backTo pos (starEach es X.env)).any (·.1)=false:=by rfl):PE X (.Call (.Name x p) (e::es) [] pos) (Tr r t):=by
 intro pins s σ H Q I h;refine wpAny_Call_Name_kw (jJ I hg hm hv ?_ hn hdb);exact PyProof.Rows.callWith_type1 (cM (ha pos pins s σ H _ I h) fun us s1 ⟨vs,H1,I1,r1,q1⟩=>hc pins s1 σ H1 vs us Q I1 r1 q1) he hpl
end
end L2
namespace HT
open PySem PyProof.Rows
section
variable {prog:Program}{w:World}{A:Around}{E:Value->Shared->Prop}{s:Shared}
def xJ (n d:Nat):Option Int->Nat
 | none=>d
 | some v=>if v<0 then (v+(n:Int)).toNat else min v.toNat n
end
end HT
namespace L2
open PySem PySem.Spec PyProof.Rows
abbrev TO:=St->Hp->(Option Int->Hp->Prop)->Prop
def PO (X:Cx)(e:Option Expr)(t:TO):Prop :=
 ∀ (pins:List (Addr×Obj)) (s:Shared) (σ:St) (H:Hp) (Q:Option Int->Hp->Prop),aQ X pins σ H s->t σ H Q ->
  wpAny (model X.prog X.w) X.A (evalPart e X.env) (fun u s'=>∃ o H',aQ X pins σ H' s'/\IsPart u o/\Q o H') X.xe s
def Ht:TO:=fun _ H Q=>Q none H
def Oh (t:TE):TO:=fun σ H Q=>t σ H fun x H1=>∃ i,x=.int i/\Q (some i) H1
theorem intsAre_of {ns:List Int}:∀ {us:List Value},bL (ns.map V.int) us->IntsAre us ns:=by
 induction ns with
 | nil=>intro us r; rw [List.map_nil] at r; cases r; exact .nil
 | cons n ns ih =>
  intro us r;rw [ZF] at r;cases r with
  | cons r1 r2 =>
   obtain ⟨t,e⟩:=r1;subst e;exact .cons n t (ih r2)
section
variable {X:Cx}{e:Expr}{te:TE}{lo hi:Option Expr}{tl th:TO}{pos p2:Pos}
theorem HF:PO X none Ht:=by
 intro pins s σ H Q I h;rw [evalPart_none];exact wpAny_pure ⟨none,H,I,.none,h⟩
theorem HQ (h:PE X e te):PO X (some e) (Oh te):=by
 intro pins s σ H Q I hw;rw [evalPart_some];refine cM (h pins s σ H _ I hw) fun u s1 ⟨x,H1,I1,r1,q1⟩=>?_;obtain ⟨i,rfl,q⟩:=q1;obtain ⟨t,rfl⟩:=r1;exact ⟨some i,H1,I1,.int i t,q⟩
def Tu (X:Cx)(r:V->Option Int->Option Int->Hp->VK->Prop):Prop :=
 ∀ (pins:List (Addr×Obj)) (s:Shared) (σ:St) (H:Hp) (x:V) (v vl vu:Value) (lo hi:Option Int) (sl:Addr) (Q:VK),aQ X pins σ H s->RelV x v->s.heap.IsSliceOf sl vl vu .none->IsPart vl lo->IsPart vu hi->r x lo hi H Q ->
  ∃ T id,typeLookup (.type T) "__getitem__" = pure (some (.builtin id))/\s.TypeIs v T/\wpAny (model X.prog X.w) X.A (getItem v (.ref sl)) (EP X pins σ Q) X.xe s
def Uz (r:V->Option Int->Option Int->Hp->VK->Prop)(te:TE)(tl th:TO):TE:=fun σ H Q=>te σ H fun x H1=>tl σ H1 fun l H2=>th σ H2 fun u H3=>r x l u H3 Q
theorem Ff {r:V->Option Int->Option Int->Hp->VK->Prop}(hr:Tu X r)(he:PE X e te)(hl:PO X lo tl)(hu:PO X hi th):PE X (.Subscript e (.Slice lo hi none p2) pos) (Uz r te tl th):=by
 intro pins s σ H Q I h;refine Subscript_ (cM (he pins s σ H _ I h) fun v s1 ⟨x,H1,I1,r1,q1⟩=>?_);refine wpAny_Slice (cM (hl pins s1 σ H1 _ I1 q1) fun vl s2 ⟨l,H2,I2,pl,q2⟩=>cM (hu pins s2 σ H2 _ I2 q2) fun vu s3 ⟨u,H3,I3,pu,q3⟩=>?_);rw [evalPart_none];refine wpAny_pure ?_;have I4:aQ X pins σ H3 { s3 with heap:=s3.heap.push { cls:=.type "slice",data:=.fields #[vl,vu,.none] } }:=I3.kept (t':=s3.toks) fun b ob q=>YK _ q;obtain ⟨T,id,hT,ht,hg⟩:=hr pins { s3 with heap:=s3.heap.push { cls:=.type "slice",data:=.fields #[vl,vu,.none] } } σ H3 x v vl vu l u s3.heap.objs.size Q I4 r1 (Heap.IsSliceOf.new ..) pl pu q3;show wpAny (model X.prog X.w) X.A (subscriptTail e (.Slice lo hi none p2) v (.ref s3.heap.objs.size)) (EP X pins σ Q) X.xe { s3 with heap:=s3.heap.push { cls:=.type "slice",data:=.fields #[vl,vu,.none] } };exact tail_any (ops:=[.ref s3.heap.objs.size,v]) ht hT hg (by with_unfolding_all rfl)
def vB (xs:List V)(lo hi:Option Int):List V:=(xs.drop (HT.xJ xs.length 0 lo)).take (HT.xJ xs.length xs.length hi-HT.xJ xs.length 0 lo)
theorem vU (xs:List V)(lo hi:Option Int):(vB xs lo hi).length<=xs.length:=by
 unfold vB;rw [Yw,Z8];omega
end
def DQ (n:Nat)(i:Int):Option Nat:=if 0<=i then (if i<n then some i.toNat else none) else if -(n:Int)<=i then some (i+n).toNat else none
def wH {α:Type}(xs:List α)(i:Int):Option α:=(DQ xs.length i).bind fun j=>xs[j]?
theorem uN {n:Nat}{i:Int}{j:Nat}(h:DQ n i=some j):seqIndex? i n=some j/\j<n/\-(n:Int)<=i/\i<n:=by
 unfold DQ at h
 by_cases h0:0<=i
 ·rw [if_pos h0] at h
  by_cases h1:i<n
  ·rw [if_pos h1] at h;have e:i.toNat=j:=Z1.inj h;exact ⟨by rw [seqIndex_of h0 h1,e],by omega,by omega,h1⟩
  ·rw [if_neg h1] at h; cases h
 ·rw [if_neg h0] at h
  by_cases h1:-(n:Int)<=i
  ·rw [if_pos h1] at h;have e:(i+n).toNat=j:=Z1.inj h;exact ⟨by rw [seqIndex_neg (by omega) h1,e],by omega,h1,by omega⟩
  ·rw [if_neg h1] at h; cases h
theorem Ah {α:Type}{xs:List α}{i:Int}{v:α}(h:wH xs i=some v):∃ j,seqIndex? i xs.length=some j/\xs[j]? = some v/\j<xs.length/\-(xs.length:Int)<=i/\i<xs.length:=by
 unfold wH at h;cases e:DQ xs.length i with
 | none=>rw [e] at h; cases h
 | some j =>
  rw [e] at h;obtain ⟨h1,h2,h3,h4⟩:=uN e;exact ⟨j,h1,h,h2,h3,h4⟩
theorem jP {α:Type}{xs:List α}{j:Nat}{v:α}(h:xs[j]? = some v):wH xs (j:Int)=some v:=by
 have hj:j<xs.length:=(Yp.mp h).1;have e:DQ xs.length (j:Int)=some j:=by
  unfold DQ;rw [if_pos (by omega),if_pos (by omega)]; simp
 unfold wH; rw [e]; exact h
def Ig (b:Expr):Prop:=∀ o i,subscripted b false o i=operate [o,i] (getItem o i)
def Lq (X:Cx)(r:R2):Prop :=
 ∀ (value slice:Expr) (pins:List (Addr×Obj)) (s:Shared) (σ:St) (H:Hp) (x y:V) (v u:Value) (Q:VK),aQ X pins σ H s->RelV x v->RelV y u->r x y H Q ->
  subscripted slice false v u=operate [v,u] (getItem v u)->wpAny (model X.prog X.w) X.A (subscriptTail value slice v u) (EP X pins σ Q) X.xe s
def Uc (X:Cx)(id:String)(r:V->List V->Hp->VK->Prop):Prop :=
 ∀ (pins:List (Addr×Obj)) (s:Shared) (σ:St) (H:Hp) (x:V) (xs:List V) (v:Value) (us:List Value) (Q:VK),aQ X pins σ H s->RelV x v->bL xs us->r x xs H Q ->
  wpAny (model X.prog X.w) X.A (call (.builtin id) (v::us)) (EP X pins σ Q) X.xe s
section
variable {X:Cx}{a b:Expr}{ta tb:TE}{pos:Pos}
theorem bQ {r:R2}(hr:Lq X r)(ha:PE X a ta)(hb:PE X b tb)(hs:Ig b):PE X (.Subscript a b pos) (Pj r ta tb):=by
 intro pins s σ H Q I h;exact Subscript_ (Jy ha hb I h fun v u s2 x y H2 I2 rx ry q=>hr a b pins s2 σ H2 x y v u Q I2 rx ry q (hs _ _))
def Od (K:PySem.W.Frag):R2:=fun x y H Q=>∃ p xs i v,x=.ref p/\y=.int i/\bJ K H p xs/\wH xs i=some v/\Q v H
def Kv (K:PySem.W.Frag):R2:=fun x y H Q=>∃ p xs i v,x=.ref p/\y=.int i/\dB K H p xs/\wH xs i=some v/\Q v H
theorem cI:Lq X (Od X.K):=by
 intro value slice pins s σ H x y v u Q I rx ry h hs;obtain ⟨p,xs,i,z,rfl,rfl,hq,he,q⟩:=h;cases rx;obtain ⟨t,rfl⟩:=ry;obtain ⟨its,r,pl,hz⟩:=I.list hq;obtain ⟨j,h1,h2,h3,h4,h5⟩:=Ah he;obtain ⟨w,ew,rw'⟩:=r.get h2;have hl:=r.length;have hn:=tM;have fin:EP X pins σ Q w s:=⟨z,H,I,rw',q⟩
 by_cases h0:0<=i
 ·have hj:i.toNat=j:=by
   rw [seqIndex_of h0 h5] at h1;exact Z1.inj h1
  exact item_listR pl.isList h0 (by omega) (by rw [hj]; simpa using ew) fin hs
 ·have hj:(i+(its.toArray.size:Int)).toNat=j:=by
   rw [seqIndex_neg (by omega) h4] at h1;rw [YM,<- hl];exact Z1.inj h1
  exact subscriptTail_builtinR (x:=w) pl.isList.typeIs slot_list_getitem.lookup
   (wpAny_getItem_list_neg (Q:=fun r s'=>r=w/\EP X pins σ Q r s') pl.isList (by omega) (by rw [YM] <;> omega) (by omega) (by rw [hj]; simpa using ew) ⟨rfl,fin⟩) hs
theorem b8:Lq X (Kv X.K):=by
 intro value slice pins s σ H x y v u Q I rx ry h hs;obtain ⟨p,xs,i,z,rfl,rfl,hq,he,q⟩:=h;cases rx;obtain ⟨t,rfl⟩:=ry;obtain ⟨its,r,pl,hz⟩:=I.tuple hq;obtain ⟨j,h1,h2,h3,h4,h5⟩:=Ah he;obtain ⟨w,ew,rw'⟩:=r.get h2;have hl:=r.length;have hn:=tM;have fin:EP X pins σ Q w s:=⟨z,H,I,rw',q⟩
 exact subscriptTail_builtinR (x:=w) pl.typeIs slot_tuple_getitem.lookup
  (getItem_tuple (j:=j) (Q:=fun r s'=>r=w/\EP X pins σ Q r s') pl (by omega) (by omega) (by rw [YM,<- hl]; exact h1) (by simpa using ew) ⟨rfl,fin⟩) hs
theorem yL (its:List Value)(n j:Nat)(u:Value):Obj.mapSeq (·.setIfInBounds j u) { cls:=.type "list",data:=.seq its.toArray n } = { cls:=.type "list",data:=.seq (its.set j u).toArray n }:=by
 simp [Obj.mapSeq]
theorem aQ.lst {pins:List (Addr×Obj)}{σ:St}{H:Hp}{s:Shared}{p:Addr}{xs:List V}(I:aQ X pins σ H s)(h:H p=some (.lst xs)) :
  ∃ (its:List Value) (n:Nat),bL xs its/\s.heap.get? p=some { cls:=.type "list",data:=.seq its.toArray n }/\xs.length<=sizeLine:=by
 obtain ⟨z,its,n,r,e⟩:=I.hok p _ h;exact ⟨its,n,r,e,z⟩
theorem aQ.lstUpd {pins:List (Addr×Obj)}{σ:St}{H:Hp}{s:Shared}{p:Addr}{xs ys:List V}{its its':List Value}{n n':Nat}{f:Obj->Obj}(I:aQ X pins σ H s)(h:H p=some (.lst xs))
  (ho:s.heap.get? p=some { cls:=.type "list",data:=.seq its.toArray n }) (hf:f { cls:=.type "list",data:=.seq its.toArray n } = { cls:=.type "list",data:=.seq its'.toArray n' }) (r:bL ys its') (hz:ys.length<=sizeLine) (t:Nat) :
  aQ X pins σ (bN H p (.lst ys)) { s with heap:=s.heap.update p f,toks:=t }:=by
 have e:(s.heap.update p f).get? p=some { cls:=.type "list",data:=.seq its'.toArray n' }:=by
  rw [Yv f ho (by rw [hf] <;> rfl),hf]
 refine I.write (x:=p) (e:=p) (by rw [h]; trivial) (.inl rfl) (fun b u hb q=>(ZV _ _ (Ne.symm hb)).trans q) ⟨_,e⟩ ?_;exact ⟨hz,its',n',r,e⟩
def Oz:V->V->V->Hp->(Hp->Prop)->Prop:=fun o i v H Q=>∃ p xs k j,o=.ref p/\i=.int k/\H p=some (.lst xs)/\DQ xs.length k=some j/\Q (bN H p (.lst (xs.set j v)))
theorem set_list:M9 X Oz:=by
 intro pins s σ H o i v ov iv u Q I ro ri rv h;obtain ⟨p,xs,k,j,rfl,rfl,hp,hj,q⟩:=h;cases ro;obtain ⟨t,rfl⟩:=ri;obtain ⟨its,n,r,ho,hz⟩:=I.lst hp;obtain ⟨h1,h2,h3,h4⟩:=uN hj;have hl:=r.length;have hn:=tM;have I':aQ X pins σ (bN H p (.lst (xs.set j v))) { s with heap:=s.heap.update p (Obj.mapSeq (·.setIfInBounds j u)) } :=
  I.lstUpd hp ho (yL its n j u) (r.set rv j) (by rw [aAs]; exact hz) s.toks
 by_cases h0:0<=k
 ·have hk:k.toNat=j:=by
   rw [seqIndex_of h0 h4] at h1;exact Z1.inj h1
  exact PySem.W.ki_setAt ho h0 (by omega) (by rw [YM,<- hl]; exact h4) (by rw [hk]; exact ⟨_,I',q⟩)
 ·have hk:(k+(its.toArray.size:Int)).toNat=j:=by
   rw [seqIndex_neg (by omega) h3] at h1;rw [YM,<- hl];exact Z1.inj h1
  exact PySem.W.ki_setBack ho (by omega) (by rw [YM,<- hl]; exact h3) (by omega) (by rw [hk]; exact ⟨_,I',q⟩)
theorem uX (lo hi:Option Int)(n:Nat):(sliceBounds lo hi none n).1=((HT.xJ n 0 lo:Nat):Int)/\(sliceBounds lo hi none n).2.1=((HT.xJ n n hi:Nat):Int)/\(sliceBounds lo hi none n).2.2=1:=by
 refine ⟨?_,?_,rfl⟩
 ·cases lo with
  | none=>simp [sliceBounds,HT.xJ]
  | some i =>
   simp only [sliceBounds,HT.xJ,aBD,show (1:Int) > 0 by decide,if_true]
   by_cases h:i<0
   ·simp only [h,if_true] <;> omega
   ·simp only [h,if_false] <;> omega
 ·cases hi with
  | none=>simp [sliceBounds,HT.xJ]
  | some i =>
   simp only [sliceBounds,HT.xJ,aBD,show (1:Int) > 0 by decide,if_true]
   by_cases h:i<0
   ·simp only [h,if_true] <;> omega
   ·simp only [h,if_false] <;> omega
theorem rA (its:List Value)(lo hi:Option Int):slicePick its.toArray lo hi none=((its.drop (HT.xJ its.length 0 lo)).take (HT.xJ its.length its.length hi-HT.xJ its.length 0 lo)).toArray:=by
 obtain ⟨h1,h2,h3⟩:=uX lo hi its.toArray.size;unfold slicePick;rw [h1,h2,h3];simp only [sliceRange_one,pick_run,YM] <;> rfl
def R5 (K:PySem.W.Frag):V->Option Int->Option Int->Hp->VK->Prop:=fun x lo hi H Q=>∃ a xs,x=.ref a/\bJ K H a xs/\∀ p,H p=none->Q (.ref p) (bN H p (.lst (vB xs lo hi)))
theorem HN:Tu X (R5 X.K):=by
 intro pins s σ H x v vl vu lo hi sl Q I rx hs pl pu h;obtain ⟨a,xs,rfl,hx,q⟩:=h;cases rx;obtain ⟨its,r,ht,hz⟩:=I.list hx;have hlen:=r.length;refine ⟨"list",_,slot_list_getitem.lookup,ht.isList.typeIs,?_⟩;refine wpAny_getItem_list_slice ht.isList hs pl pu .none (by simp) ?_ (by rw [YM] <;> omega);rw [rA,<- hlen];refine ⟨.ref s.heap.objs.size,_,I.laid (t':=s.toks) (o:=.lst (vB xs lo hi)) (fun b ob q=>YK _ q) (YS _) ?_,rfl,q _ (I.hok.fresh (YS _))⟩;exact ⟨Y7 (vU xs lo hi) hz,_,0,(r.drop (HT.xJ xs.length 0 lo)).take (HT.xJ xs.length xs.length hi-HT.xJ xs.length 0 lo),YZ _ rfl⟩
def lV:V->Bool
 | .non=>true
 | .bl _=>true
 | .int _=>true
 | .str _=>true
 | _=>false
def Gb:V->V->Bool
 | .non,.non=>true
 | .bl a,.bl b=>a==b
 | .bl a,.int b=>(if a then 1 else 0)==b
 | .int a,.bl b=>a==(if b then 1 else 0)
 | .int a,.int b=>a==b
 | .str a,.str b=>a==b
 | _,_=>false
theorem KN {A:Around}{s:Shared}{y x:V}{u v:Value}(ry:RelV y u)(rx:RelV x v)(fy:lV y=true)(fx:lV x=true):SeqAt.EqAt A s u v (Gb y x):=by
 cases y with
 | non =>
  cases ry;cases x with
  | non=>cases rx; exact SeqAt.EqAt.same _
  | bl b=>cases rx; exact SeqAt.EqAt.none_bool b
  | int b=>obtain ⟨t,rfl⟩:=rx; exact SeqAt.EqAt.none_int b t
  | str b=>obtain ⟨t,rfl⟩:=rx; exact SeqAt.EqAt.none_str b t
  | _=>exact absurd (show false=true from fx) Y9
 | bl a =>
  cases ry;cases x with
  | non=>cases rx; exact SeqAt.EqAt.bool_none a
  | bl b=>cases rx; exact SeqAt.EqAt.bool_bool a b
  | int b=>obtain ⟨t,rfl⟩:=rx; exact SeqAt.EqAt.bool_int a b t
  | str b=>obtain ⟨t,rfl⟩:=rx; exact SeqAt.EqAt.bool_str a b t
  | _=>exact absurd (show false=true from fx) Y9
 | int a =>
  obtain ⟨t',rfl⟩:=ry;cases x with
  | non=>cases rx; exact SeqAt.EqAt.int_none a t'
  | bl b=>cases rx; exact SeqAt.EqAt.int_bool a t' b
  | int b=>obtain ⟨t,rfl⟩:=rx; exact SeqAt.EqAt.int_int a t' b t
  | str b=>obtain ⟨t,rfl⟩:=rx; exact SeqAt.EqAt.int_str a t' b t
  | _=>exact absurd (show false=true from fx) Y9
 | str a =>
  obtain ⟨t',rfl⟩:=ry;cases x with
  | non=>cases rx; exact SeqAt.EqAt.str_none a t'
  | bl b=>cases rx; exact SeqAt.EqAt.str_bool a t' b
  | int b=>obtain ⟨t,rfl⟩:=rx; exact SeqAt.EqAt.str_int a t' b t
  | str b=>obtain ⟨t,rfl⟩:=rx; exact SeqAt.EqAt.str_str a t' b t
  | _=>exact absurd (show false=true from fx) Y9
 | _=>exact absurd (show false=true from fy) Y9
def zE (x:V)(u:Value):Bool:=match u with
 | .none=>Gb .non x
 | .bool b=>Gb (.bl b) x
 | .int i _=>Gb (.int i) x
 | .str z _=>Gb (.str z) x
 | _=>false
theorem FQ {x y:V}{u:Value}(r:RelV y u)(f:lV y=true):zE x u=Gb y x:=by
 cases y with
 | non=>cases r; rfl
 | bl b=>cases r; rfl
 | int i=>obtain ⟨t,rfl⟩:=r; rfl
 | str z=>obtain ⟨t,rfl⟩:=r; rfl
 | _=>exact absurd (show false=true from f) Y9
theorem lH {x:V}:∀ {xs:List V}{us:List Value},bL xs us->xs.all lV=true->us.any (zE x)=xs.any fun y=>Gb y x
 | _,_,.nil,_=>rfl
 | y::xs,u::us,.cons r t,f=>by
  rw [List.all_cons,Yh] at f;rw [aAC,aAC,FQ r f.1,lH t f.2]
theorem jB {A:Around}{s:Shared}{x:V}{v:Value}(rx:RelV x v)(fx:lV x=true):∀ {xs:List V}{us:List Value},bL xs us->xs.all lV=true->∀ u∈us,SeqAt.EqAt A s u v (zE x u)
 | _,_,.nil,_=>fun u hu=>by cases hu
 | y::xs,u::us,.cons r t,f=>fun u' hu=>by
  rw [List.all_cons,Yh] at f;rcases Yn.mp hu with rfl | hu
  ·rw [FQ r f.1]; exact KN r rx f.1 fx
  ·exact jB rx fx t f.2 u' hu
def qL (x:V)(xs:List V):Bool:=xs.any fun y=>Gb y x
def Ui (K:PySem.W.Frag)(neg:Bool):R2:=fun x y H Q=>∃ p xs,y=.ref p/\(bJ K H p xs∨dB K H p xs)/\lV x=true/\xs.all lV=true/\Q (.bl (if neg then !qL x xs else qL x xs)) H
theorem nQ:kE X (compareOp .In) (Ui X.K false):=by
 intro pins s σ H x y v u Q I rx ry h;obtain ⟨p,xs,rfl,hq,fx,fs,q⟩:=h;cases ry;rcases hq with hq | hq
 ·obtain ⟨its,r,pl,hz⟩:=I.list hq;refine SeqAt.in_listAt (zE x) pl.isList (fun w hw=>jB rx fx r fs w (by simpa using hw)) ⟨.bl _,H,I,rfl,?_⟩;rw [show its.toArray.any (zE x)=its.any (zE x) by simp,lH r fs];exact q
 ·obtain ⟨its,r,pl,hz⟩:=I.tuple hq;refine SeqAt.in_tupleAt (zE x) pl (fun w hw=>jB rx fx r fs w (by simpa using hw)) ⟨.bl _,H,I,rfl,?_⟩;rw [show its.toArray.any (zE x)=its.any (zE x) by simp,lH r fs];exact q
theorem gW:kE X (compareOp .NotIn) (Ui X.K true):=by
 intro pins s σ H x y v u Q I rx ry h;obtain ⟨p,xs,rfl,hq,fx,fs,q⟩:=h;cases ry;rcases hq with hq | hq
 ·obtain ⟨its,r,pl,hz⟩:=I.list hq;refine SeqAt.notIn_listAt (zE x) pl.isList (fun w hw=>jB rx fx r fs w (by simpa using hw)) ⟨.bl _,H,I,rfl,?_⟩;rw [show its.toArray.any (zE x)=its.any (zE x) by simp,lH r fs];exact q
 ·obtain ⟨its,r,pl,hz⟩:=I.tuple hq;refine SeqAt.notIn_tupleAt (zE x) pl (fun w hw=>jB rx fx r fs w (by simpa using hw)) ⟨.bl _,H,I,rfl,?_⟩;rw [show its.toArray.any (zE x)=its.any (zE x) by simp,lH r fs];exact q
theorem bC:cN X (.builtin "len") (fun xs H Q=>∃ p ys,xs=[.ref p]/\(bJ X.K H p ys∨dB X.K H p ys)/\Q (.int ys.length) H):=by
 intro pins s σ H xs us Q I r h;obtain ⟨p,ys,rfl,hq,q⟩:=h;obtain ⟨u,rfl,rx⟩:=vals1 r;cases rx;have hn:=tM;rcases hq with hq | hq
 ·obtain ⟨its,r',pl,hz⟩:=I.list hq;have hlen:=r'.length;exact Calls.call_len_list pl.isList (by simp only [YM] <;> omega) ⟨.int ys.length,H,I.tok _,⟨s.toks+1,by rw [YM,hlen]⟩,q⟩
 ·obtain ⟨its,r',pl,hz⟩:=I.tuple hq;have hlen:=r'.length;exact len_tuple pl (by simp only [YM] <;> omega) ⟨.int ys.length,H,I.tok _,⟨s.toks+1,by rw [YM,hlen]⟩,q⟩
theorem iD:cN X (.type "list") (fun xs H Q=>∃ p ys,xs=[.ref p]/\(bJ X.K H p ys∨dB X.K H p ys)/\∀ l,H l=none->Q (.ref l) (bN H l (.lst ys))):=by
 intro pins s σ H xs us Q I r h;obtain ⟨p,ys,rfl,hq,q⟩:=h;obtain ⟨u,rfl,rx⟩:=vals1 r;cases rx;have fin:∀ (its:List Value),bL ys its->ys.length<=sizeLine->∀ (h':Heap) (c':Nat),(∀ b o',s.heap.get? b=some o'->h'.get? b=some o') ->
   h'.get? s.heap.objs.size=some { cls:=.type "list",dict:=none,data:=.seq its.toArray c',slots:=#[] }->EP X pins σ Q (.ref s.heap.objs.size) { s with heap:=h' }:=fun its r' hz h' c' kp e =>
  ⟨.ref s.heap.objs.size,_,I.laid (t':=s.toks) kp (YS _) (show cJ X.prog X.w _ h' _ (.lst ys) from ⟨hz,its,c',r',e⟩),rfl,q _ (I.hok.fresh (YS _))⟩
 rcases hq with hq | hq
 ·obtain ⟨its,r',pl,hz⟩:=I.list hq;have hlen:=r'.length;obtain ⟨o,ho,hc,n,hd⟩:=pl.isList;exact call_list_seq p (.inl rfl) ho hc hd (fun h' c' kp e=>fin its r' hz h' c' kp e) (by simp only [YM] <;> omega)
 ·obtain ⟨its,r',pl,hz⟩:=I.tuple hq;have hlen:=r'.length;obtain ⟨o,ho,hc,n,hd⟩:=pl;exact call_list_seq p (.inr rfl) ho hc hd (fun h' c' kp e=>fin its r' hz h' c' kp e) (by simp only [YM] <;> omega)
theorem q8:cN X (.type "tuple") (fun xs H Q=>∃ p ys,xs=[.ref p]/\((bJ X.K H p ys/\∀ l,H l=none->Q (.ref l) (bN H l (.tup ys)))∨(dB X.K H p ys/\Q (.ref p) H))):=by
 intro pins s σ H xs us Q I r h;obtain ⟨p,ys,rfl,h⟩:=h;obtain ⟨u,rfl,rx⟩:=vals1 r;cases rx;rcases h with ⟨hq,q⟩ | ⟨hq,q⟩
 ·obtain ⟨its,r',pl,hz⟩:=I.list hq;have hlen:=r'.length;refine call_tuple_list pl.isList (fun h' kp=>?_) (by simp only [YM] <;> omega);have I1:aQ X pins σ H { s with heap:=h' }:=I.kept (t':=s.toks) kp;have I2:aQ X pins σ (bN H h'.objs.size (.tup ys)) { s with heap:=h'.push { cls:=.type "tuple",data:=.seq its.toArray } } :=
   I1.laid (t':=s.toks) (fun b o e=>YK _ e) (YS _) (show cJ X.prog X.w _ _ _ (.tup ys) from ⟨hz,its,r',IsTup.new _ _⟩)
  exact ⟨.ref h'.objs.size,_,I2,rfl,q _ (I1.hok.fresh (YS _))⟩
 ·obtain ⟨its,r',pl,hz⟩:=I.tuple hq;exact call_tuple_same pl ⟨.ref p,H,I,rfl,q⟩
def U5 (K:PySem.W.Frag)(T:String)(x:V)(H:Hp):Prop:=match x with
 | .str _=>T = "str"
 | .int _=>T = "int"
 | .ref p=>(T = "list"/\∃ xs,bJ K H p xs)∨(T = "tuple"/\∃ o,K.lookup p=some o/\o.cls=.type "tuple"/\o.dict=none) ∨
   (T = "dict"/\((∃ kvs,H p=some (.dK kvs))∨∃ kvs,H p=some (.dT kvs)))∨(T = "set"/\∃ S n,H p=some (.set S n))
 | _=>False
theorem Jf {pins:List (Addr×Obj)}{σ:St}{H:Hp}{s:Shared}{T:String}{x:V}{v:Value}(I:aQ X pins σ H s)(r:RelV x v)(ty:U5 X.K T x H) :
  s.TypeIs v T/\∀ a,v=.ref a->∃ ob,s.heap.get? a=some ob/\ob.dict=none:=by
 cases x with
 | str z =>
  obtain ⟨t,rfl⟩:=r;cases (show T = "str" from ty);exact ⟨typeIs_str s z t,fun _ e=>nomatch e⟩
 | int i =>
  obtain ⟨t,rfl⟩:=r;cases (show T = "int" from ty);exact ⟨typeIs_int s i t,fun _ e=>nomatch e⟩
 | ref p =>
  cases r;rcases ty with ⟨rfl,xs,hq⟩ | ⟨rfl,o,hk,hc,hd⟩ | ⟨rfl,hk⟩ | ⟨rfl,S,n,hk⟩
  ·obtain ⟨its,_,pl,_⟩:=I.list hq;refine ⟨pl.isList.typeIs,fun a e=>?_⟩;cases e;obtain ⟨o,n,e,c,hd,_⟩:=pl;exact ⟨o,e,hd⟩
  ·refine ⟨⟨o,I.kIn p o hk,hc⟩,fun a e=>?_⟩;cases e;exact ⟨o,I.kIn _ o hk,hd⟩
  ·have z:∃ o,s.heap.get? p=some o/\o.ExactDict:=by
    rcases hk with ⟨kvs,hk⟩ | ⟨kvs,hk⟩
    ·obtain ⟨_,_,_,_,o,_,_,e,ex,_⟩:=I.hok p _ hk;exact ⟨o,e,ex⟩
    ·obtain ⟨_,_,_,_,o,_,_,e,ex,_⟩:=I.hok p _ hk;exact ⟨o,e,ex⟩
   obtain ⟨o,e,ex⟩:=z;refine ⟨⟨o,e,ex.1⟩,fun a e2=>?_⟩;cases e2;exact ⟨o,e,ex.2.1⟩
  ·obtain ⟨o,_,_,_,e,ex,_⟩:=I.hok p _ hk;refine ⟨⟨o,e,ex.1⟩,fun a e2=>?_⟩;cases e2;exact ⟨o,e,ex.2.1⟩
 | _=>exact False.elim ty
def UG (K:PySem.W.Frag)(T:String)(r:V->List V->Hp->VK->Prop)(to:TE)(t:TA):TE:=fun σ H Q=>to σ H fun x H1=>U5 K T x H1/\t σ H1 fun xs H2=>r x xs H2 Q
variable {o e:Expr}{es:List Expr}{to:TE}{t:TA}{name:Str}{apos cpos:Pos}{T id:String}{r:V->List V->Hp->VK->Prop}
theorem oR (pa:PlainAttrs T)(slot:Slot T name id)(hty:typeOf (.builtin id)=pure (.type "method_descriptor"))(hm:Uc X id r)(ho:PE X o to)(ha:PA X (e::es) t)
  (hbase:attributeBase o name X.env (eval o X.env)=eval o X.env:=by rfl)
  (hfew:((backTo cpos (starEach (e::es) X.env)).all (fun x=>!x.1)&&(backToKw cpos (keywordEach [] X.env)).all (fun x=>x.1.isSome)
  &&decide ((e::es).length+([]:List Keyword).length+(if ([]:List Keyword).isEmpty then 0 else 1)<30))=true:=by rfl)
  (hline:(apos.endLine==cpos.line)=true:=by rfl) (hs:starEach (e::es) X.env=(false,eval e X.env)::starEach es X.env:=by rfl) (hplain:(backTo cpos (starEach es X.env)).any (·.1)=false:=by rfl) :
  PE X (.Call (.Attribute o name apos) (e::es) [] cpos) (UG X.K T r to t):=by
 intro pins s σ H Q I h;refine wpAny_Call_method_late hbase hfew hline rfl (cM (ho pins s σ H _ I h) fun v s1 ⟨x,H1,I1,r1,ty,q1⟩=>?_);obtain ⟨h1,h2⟩:=Jf I1 r1 ty;refine ⟨T,id,pa,slot,hty,h1,h2,?_⟩;have hA:=ha cpos pins s1 σ H1 _ I1 q1;rw [hs] at hA ⊢;refine Calls.callWith_builtin (by show (false||(backTo cpos (starEach es X.env)).any (·.1))=false; rw [hplain] <;> rfl) (Calls.evalArgs_plain ?_);exact cM hA fun us s2 ⟨vs,H2,I2,r2,q2⟩=>hm pins s2 σ H2 x vs v us Q I2 r1 r2 q2
end
def Pa (X:Cx)(id:String)(r:V->List V->Hp->VK->Prop):Prop :=
 ∀ (pins:List (Addr×Obj)) (s:Shared) (σ:St) (H:Hp) (x:V) (xs:List V) (v:Value) (us:List Value) (Q:VK),aQ X pins σ H s->RelV x v->bL xs us->r x xs H Q ->
  wpAny (model X.prog X.w) X.A (call (.builtin id) (v::us)) (EP X pins σ Q) X.xe s
theorem bL.one:∀ {x:V}{us:List Value},bL [x] us->∃ u,us=[u]/\RelV x u
 | _,_,.cons r .nil=>⟨_,rfl,r⟩
theorem bL.eraseIdx:∀ {xs:List V}{us:List Value} (i:Nat),bL xs us->bL (xs.eraseIdx i) (us.eraseIdx i)
 | _,_,_,.nil=>.nil
 | _,_,0,.cons _ t=>t
 | _,_,i+1,.cons r t=>.cons r (bL.eraseIdx i t)
theorem sY {α:Type}:∀ (l:List α) (i:Nat),(l.eraseIdx i).length<=l.length
 | [],_=>YS _
 | _::_,0=>aAk _
 | _::r,i+1=>aA2 (sY r i)
section
variable {X:Cx}{pins:List (Addr×Obj)}{σ:St}{H:Hp}{s:Shared}{l b:Addr}{xs ys zs:List V}
theorem aQ.lset {its its':List Value}{n:Nat}{f:Array Value->Array Value}{t':Nat}(I:aQ X pins σ H s)(hH:H l=some (.lst xs))
  (e:s.heap.get? l=some { cls:=.type "list",data:=.seq its.toArray n }) (hf:f its.toArray=its'.toArray) (hv:bL ys its') (hz:ys.length<=sizeLine) :
  aQ X pins σ (bN H l (.lst ys)) { s with heap:=s.heap.update l (Obj.mapSeq f),toks:=t' }:=by
 have q:=PySem.IsL.update e f;rw [hf] at q;refine I.write (x:=l) (e:=l) (by rw [hH]; exact trivial) (.inl rfl) (fun b' u hb hu=>(ZV s.heap (Obj.mapSeq f) (Ne.symm hb)).trans hu) ⟨_,q⟩ ?_;exact ⟨hz,its',_,hv,q⟩
theorem aQ.lnew {its:List Value}{t':Nat}(I:aQ X pins σ H s)(hv:bL ys its)(hz:ys.length<=sizeLine) :
  aQ X pins σ (bN H s.heap.objs.size (.lst ys)) { s with heap:=s.heap.push { cls:=.type "list",data:=.seq its.toArray },toks:=t' } :=
 I.laid (fun _ _ q=>YK _ q) (YS _) ⟨hz,its,0,hv,YZ _ rfl⟩
theorem aQ.fresh (I:aQ X pins σ H s):H s.heap.objs.size=none:=I.hok.fresh (YS _)
theorem aQ.lstM (I:aQ X pins σ H s)(hH:H l=some (.lst xs)):xs.length<=sizeLine/\∃ (its:List Value) (n:Nat),bL xs its/\xs.length=its.length/\s.heap.get? l=some { cls:=.type "list",data:=.seq its.toArray n }:=by
 obtain ⟨z,its,n,r,e⟩:=I.hok l _ hH;exact ⟨z,its,n,r,r.length,e⟩
end
section
variable {X:Cx}
def Gg:V->List V->Hp->VK->Prop:=fun x vs H Q=>∃ l xs y,x=.ref l/\vs=[y]/\H l=some (.lst xs)/\xs.length<sizeLine/\Q .non (bN H l (.lst (xs++[y])))
theorem eZ:Pa X "list.append" Gg:=by
 intro pins s σ H x vs v us Q I rx rv h;obtain ⟨l,xs,y,rfl,rfl,hH,hz,q⟩:=h;cases rx;obtain ⟨u,rfl,ru⟩:=rv.one;obtain ⟨z,its,n,r,hl,e⟩:=I.lstM hH;refine call_meets F.slot_list_append ⟨_,e,rfl⟩ F.entry_list_append (F.args_list_append_2 _ _) (PySem.list_append l its.toArray n u (by rw [YM]; omega)) ⟨e,?_⟩;refine ⟨.non,_,I.lset (its':=its++[u]) hH e (by simp) (r.append (.cons ru .nil)) ?_,rfl,q⟩;rw [Y4,List.length_singleton];omega
def K9:V->List V->Hp->VK->Prop:=fun x vs H Q=>∃ l xs i k y,x=.ref l/\vs=[.int i]/\H l=some (.lst xs)/\-(2^63)<=i/\i<2^63/\seqIndex? i xs.length=some k/\xs[k]? = some y/\Q y (bN H l (.lst (xs.eraseIdx k)))
theorem DN:Pa X "list.pop" K9:=by
 intro pins s σ H x vs v us Q I rx rv h;obtain ⟨l,xs,i,k,y,rfl,rfl,hH,h1,h2,hk,hy,q⟩:=h;cases rx;obtain ⟨u,rfl,ru⟩:=rv.one;obtain ⟨t,rfl⟩:=ru;obtain ⟨z,its,n,r,hl,e⟩:=I.lstM hH;obtain ⟨w,hw,rw'⟩:=r.get hy;refine call_meets F.slot_list_pop ⟨_,e,rfl⟩ F.entry_list_pop (F.args_list_pop_2 _ _)
  (MeetsSeq.list_pop_at l its.toArray n i t k w (fitsIndex_both h1 h2) (by rw [YM,<- hl]; exact hk) (by rw [<- Z5]; exact hw) (by rw [YM]; omega)) ⟨e,?_⟩
 refine ⟨y,_,I.lset (its':=its.eraseIdx k) hH e ?_ (r.eraseIdx k) ?_,rw',q⟩
 ·show its.toArray.eraseIdxIfInBounds k=(its.eraseIdx k).toArray;rw [List.eraseIdxIfInBounds_toArray]
 ·have:=sY xs k;omega
def R7:R2:=fun x y H Q=>∃ l b xs zs,x=.ref l/\y=.ref b/\H l=some (.lst xs)/\H b=some (.lst zs)/\xs.length+zs.length<=sizeLine/\∀ p,H p=none->Q (.ref p) (bN H p (.lst (xs++zs)))
theorem K7:kE X (binaryOp .Add) R7:=by
 intro pins s σ H x y v u Q I rx ry h;obtain ⟨l,b,xs,zs,rfl,rfl,hH,hB,hz,q⟩:=h;cases rx;cases ry;obtain ⟨z,its,n,r,hl,e⟩:=I.lstM hH;obtain ⟨z2,its2,n2,r2,hl2,e2⟩:=I.lstM hB;refine PySem.P.add_list e e2 ?_ (by rw [YM,YM]; omega);have ea:its.toArray++its2.toArray=(its++its2).toArray:=by simp
 rw [ea];exact ⟨.ref _,_,I.lnew (t':=s.toks) (r.append r2) (by rw [Y4]; omega),rfl,q _ I.fresh⟩
end
end L2
namespace Att
open PySem PySem.W PySem.Calls PyProof.Rows
theorem o7 {P:Params}{h:Heap}:∀ (ns:List Int) (vs:List Value),WellAll P h vs (ns.map WData.int)->IntsAre vs ns:=by
 intro ns
 induction ns with
 | nil =>
  intro vs w;rw [List.map_nil] at w;cases w;exact .nil
 | cons n ns ih =>
  intro vs w;rw [ZF] at w;cases w with
  | cons a b =>
   cases a;exact .cons _ _ (ih _ b)
theorem Cd {l:OpenLaw}{n:Nat}(hn:l.most=some n){P:Params}{h:Heap}{args:List WData}{vals:List Value}
  (hpre:l.row.toRowW.claim.pre args=true) (hwl:WellAll P h vals args) :
  ∃ a vs ns,vals=[Value.ref a]/\args=[WData.list (ns.map WData.int)]/\h.get? a=some { cls:=.type "list",data:=.seq vs.toArray }/\IntsAre vs ns/\ns.length<=n:=by
 have hsh:WShape.hasAll [] args [.list .int]=true:=(pre_splitW hpre).1;have hc:l.pre.holds [] { args:=args }=true:=(pre_splitW hpre).2;obtain ⟨d,r,rfl,h1,h2⟩:=hasAllW_cons hsh;obtain rfl:=hasAllW_nil h2;obtain ⟨xs,rfl,h3⟩:=hasW_list h1;obtain ⟨ns,rfl⟩:=items_int h3;have hlen:ns.length<=n:=by
  unfold OpenLaw.pre at hc;have h4:(WTm.not (.lt (.lit (.int (n:Int))) (.len (.arg 0)))).holds [] { args:=[.list (ns.map .int)] }=true:=by
   have h4:=(holds_andW hc).1;rw [hn] at h4;exact h4
  have h5:=condW_of h4 (w_not (w_lt w_lit (w_len_list (w_arg rfl))));rw [YQ] at h5;refine Nat.le_of_not_lt fun q=>?_;have q':(n:Int)<((ns.length:Nat):Int):=by omega
  first
   | (rw [decide_eq_true q'] at h5; exact absurd h5 (by decide))
   | (simp at h5; omega)
 cases hwl with
 | cons w1 w2 =>
  cases w2;cases w1 with
  | list ho hall=>exact ⟨_,_,ns,rfl,rfl,ho,o7 ns _ hall,hlen⟩
theorem Bh (l:OpenLaw)(args:List WData):l.row.toRowW.claim.post args (.bool true) args=true :=
 postW_of (r:=l.row.toRowW) (X:=(true==true))
  (show WShape.has [] (.bool true) .bool=true by first | rfl | decide | simp [WShape.has,WShape.arms,WShape.armsAll])
  (show (WTm.eq .res (.lit (.bool true))).value [] { args:=args,res:=some (.bool true),after:=args }=some (.bool (true==true)) from w_eq_bool (w_res rfl) w_lit) rfl
theorem wQ {l:OpenLaw}{n:Nat}{q:Program}{loose:List Str}{XP:(Str->Option Value)->Heap->Prop}{YP:World->Heap->Prop}{d:DefRec}
  (hn:l.most=some n) (hdf:d.params.defaults=[])
  (call:∀ (w:World) (s₀ s₁:Shared) (mg mb:Str->Option Value) (fa:Addr) (o:Obj) (pm cd doc:Value) (a:Addr) (vs:List Value) (ns:List Int),
   Ground q loose [] XP w s₀ mg mb s₁.heap->YP w s₁.heap ->
   s₁.heap.get? fa=some o->o.data=.func (docDef d.name d.params d.body d.scope pm cd doc)->s₁.heap.CodeRec cd d.name->mg d.name=some (.ref fa) ->
   s₁.heap.get? a=some { cls:=.type "list",data:=.seq vs.toArray }->IntsAre vs ns->ns.length<=n->s₁.gens = #[] ->
   codeAny (model l.prog w) callerA (.call (.ref fa) ⟨[.ref a],[]⟩) (fun r s'=>r=.ok (.ret (.bool true))/\OldK s₁.heap s'.heap/\s'.os=s₁.os/\AllBare s'.gens) s₁) :
  WalkO q loose XP YP l.row.toRowW d [] (fun f vs=>PySem.call f vs):=by
 intro w s₀ s₁ mg mb G Y fa o pm cd doc dV kV ho hd hcd hD hmg hg args vals as hpre hlay hrd hwl hlo;obtain rfl:dV=.none:=Dflts.none hD hdf;obtain rfl:kV=.none:=Dflts.noKw hD;obtain ⟨a,vs,ns,rfl,rfl,hobj,hints,hlen⟩:=Cd hn hpre hwl;refine enter_call (codeAny_mono (call w s₀ s₁ mg mb fa o pm cd doc a vs ns G Y ho (fd_plain hd) hcd hmg hobj hints hlen hg) fun r s' hq=>?_);obtain ⟨rfl,h2,h3,h4⟩:=hq;exact ⟨.inl ⟨.bool true,.bool true,[],rfl,fun _=>rfl,.bool true,Bh l _,fun _=>⟨Zn.nil,fun _ hm=>(nomatch hm)⟩⟩,h2,h3,h4⟩
end Att
namespace L2
open PySem PySem.Spec PyProof.Rows
theorem gC:∀ {vs:List Value}{ns:List Int},IntsAre vs ns->bL (ns.map V.int) vs
 | _,_,.nil=>.nil
 | _,_,.cons n t h=>.cons ⟨t,rfl⟩ (gC h)
def inClass (s:Stmt)(j:Nat):Stmt:=match s with
 | .ClassDef _ _ _ body _ _ _ _ _ _ _=>body.getD j (.Pass ⟨0,0,0,0⟩)
 | _=>.Pass ⟨0,0,0,0⟩
def fV (s:Stmt):Arguments:=match s with
 | .FunctionDef _ a _ _ _ _ _ _ _ _=>a
 | _=>{ posonlyargs:=[],args:=[],vararg:=none,kwonlyargs:=[],kw_defaults:=[],kwarg:=none,defaults:=[] }
def dU (s:Stmt):List Stmt:=match s with
 | .FunctionDef _ _ b _ _ _ _ _ _ _=>b
 | _=>[]
def aN (s:Stmt):Scope:=match s with
 | .FunctionDef _ _ _ _ _ _ sc _ _ _=>sc
 | _=>{ kind:=.function,names:=[],isGenerator:=false,isCoroutine:=false }
abbrev eE:vY:=fun _ _ _ _ _ _=>False
abbrev E0:XK:=fun _ _ _=>False
theorem qK {X:Cx}:mW eE X E0:=fun _ _ _ _ _ _ _ h=>h.elim
structure eN (K:PySem.W.Frag)(x qual:Str)(st:Stmt)(f:Addr)(fd:FuncData):Prop where
 ex:∃ (oc:Value) (od:Option Addr) (kV doc pm:Value) (an:Option Addr) (cdv ct:Value) (osl:Array (Option Value)),
  fd=PySem.W.fnOf x qual (fV st) (dU st) (aN st) .none kV doc pm an cdv ct/\K.lookup f=some ⟨oc,od,.func fd,osl⟩/\PySem.W.codeIn K cdv qual=true
 kp:PySem.W.keepIn K (.ref f)=true
section
variable {P:Program}{w:World}{K:PySem.W.Frag}{mg:Str->Option Value}{base:Heap}
theorem eN.ok {x qual:Str}{st:Stmt}{f:Addr}{fd:FuncData}{N ps:List Str}{k:Nat}{sp:Sp}(F:eN K x qual st f fd)(S:aY N ps (aN st))(len:∀ vs H Q E,sp vs H Q E->vs.length=ps.length)
  (hbody:∀ (cdv:Value) (A:Around) (outer:List Env) (s:Shared) (H:Hp) (vs:List V) (Q:VK) (E:XK),dJ k (A.deeper (envOfC qual (aN st) s.heap.objs.size f cdv))->sp vs H Q E ->
   ∃ t,Aa (yW eE P w K mg base N qual (aN st) f cdv A outer s H E).nox (dU st) t/\t { nx:=fun _ H'=>Q .non H',rt:=Q } (start N vs) H):bO P w K mg base eE (k+1) f fd ps sp:=by
 obtain ⟨oc,od,kV,doc,pm,an,cdv,ct,osl,rfl,lk,hcd⟩:=F.ex;refine JM lk hcd S len fun A outer s H vs Q E hr hsp=>?_;obtain ⟨t,h,q⟩:=hbody cdv A outer s H vs Q E hr hsp;exact ⟨t,h.nox,q⟩
theorem eN.binds {x qual:Str}{st:Stmt}{f:Addr}{fd:FuncData}{ps:List Str}(F:eN K x qual st f fd)
  (h:∀ (kV doc pm:Value) (an:Option Addr) (cdv ct:Value) (us:List Value),us.length=ps.length->bindArgs (PySem.W.fnOf x qual (fV st) (dU st) (aN st) .none kV doc pm an cdv ct) ⟨us,[]⟩=pure (ps.zip us)):Binds K fd ps []:=by
 obtain ⟨oc,od,kV,doc,pm,an,cdv,ct,osl,rfl,lk,hcd⟩:=F.ex;exact .all (h kV doc pm an cdv ct)
theorem Fw {x qual:Str}{st:Stmt}{f:Addr}{oc:Value}{od an:Option Addr}{osl:Array (Option Value)}{kV doc pm cdv ct:Value}(l:K.lookup f=some ⟨oc,od,.func (PySem.W.fnOf x qual (fV st) (dU st) (aN st) .none kV doc pm an cdv ct),osl⟩)
  (c:PySem.W.codeIn K cdv qual=true) (k:PySem.W.keepIn K (.ref f)=true):eN K x qual st f (PySem.W.fnOf x qual (fV st) (dU st) (aN st) .none kV doc pm an cdv ct):=⟨⟨oc,od,kV,doc,pm,an,cdv,ct,osl,rfl,l,c⟩,k⟩
end
theorem aP {n:Nat}(h:n<=1000):n<sizeLine:=Zf h (by decide)
section
variable {X:Cx}
theorem pv (i:Nat){x:Str}{pos:Pos}(hN:X.N[i]? = some x:=by rfl)(hv:Pb X.env.scope x:=by first | exact Or.inl rfl | exact Or.inr (Or.inl rfl) | exact Or.inr (Or.inr rfl))(hd:(x==("__debug__" : Str))=false:=by decide)
  (hcd:(x==("__classdict__" : Str))=false:=by decide):PE X (.Name x pos) (KY i):=Ej hN hv hd hcd
end
theorem jH {A B:Prop}(h:B):if false=true then A else B:=by
 rw [if_neg Y9];exact h
theorem uY {A B:Prop}(h:A):if true=true then A else B:=by
 rw [if_pos rfl];exact h
theorem jT {c A B:Prop}[Decidable c](h1:c->A)(h2:¬ c->B):if c then A else B:=by
 by_cases h:c
 ·rw [if_pos h];exact h1 h
 ·rw [if_neg h];exact h2 h
def aW (H H':Hp):Prop:=∀ b o,H b=some o->H' b=some o
theorem aW.refl (H:Hp):aW H H:=fun _ _ h=>h
theorem aW.trans {H H1 H2:Hp}(a:aW H H1)(b:aW H1 H2):aW H H2:=fun c o h=>b c o (a c o h)
theorem aW.free {H H':Hp}(e:aW H H'){l:Addr}(h:H' l=aBG):H l=aBG:=by
 cases q:H l with
 | none=>rfl
 | some o =>
  rw [e l o q] at h;cases h
theorem aW.seq {K:PySem.W.Frag}{H H':Hp}{a:Addr}{xs:List V}(e:aW H H')(h:bJ K H a xs):bJ K H' a xs:=by
 rcases h with (h | ⟨o,h⟩) | h
 ·exact .inl (.inl (e _ _ h))
 ·exact .inl (.inr ⟨o,e _ _ h⟩)
 ·exact .inr h
abbrev KT (H:Hp):List (List Key×V)->List (List Key×Addr×Value)->Prop:=Paired fun p q=>p.1=q.1/\H q.2.1=some (.tup (p.1.map kV))/\RelV p.2 q.2.2
end L2
namespace PySem
section
variable {prog:Program}{w:World}{A:Around}{E:Value->Shared->Prop}{R:Result->Shared->Prop}{s:Shared}
theorem t8 {elt target iter:Expr}{ifs:List Expr}{scope:Scope}{pos:Pos}{it acc:Value}{env:Env}(I:Nat->Shared->Prop)
  (turn:∀ n s,I n s->∀ E':Value->Shared->Prop,wpAny (model prog w) A (pyNext it) (fun r s₁=>match r with
   | none=>R (.ok .next) s₁
   | some v=>wpAny (model prog w) A (letOwnedTupleGo target it v) (fun _ s₁'=>wpAny (model prog w) A (assign target env v) (fun _ s₂ =>
     wpAny (model prog w) A (forIn ifs true fun c r=>if r=true then do let ok <- isTrue c env (eval c env); pure (ForInStep.yield ok) else pure (ForInStep.yield r)) (fun ok s₃ =>
      if ok=true then wpAny (model prog w) A (eval elt env) (fun x s₄ =>
       wpAny (model prog w) A (call (.builtin "list.append") [acc,x]) (fun _ s₅=>∃ m,m<n/\I m s₅) E' s₄) E' s₃
      else ∃ m,m<n/\I m s₃) E' s₂) E' s₁') E' s₁) E' s)
  (n:Nat) (h:I n s) :
  codeAny (model prog w) A (.compLoop (.ListComp elt [⟨target,iter,ifs,0⟩] scope pos) 0 it acc env) R s:=by
 refine codeAny_loop rfl I (fun n s hI=>?_) n h;show wpAny _ A ((compTurn (.ListComp elt [⟨target,iter,ifs,0⟩] scope pos) 0 it acc env).onRaise (fun x=>do noteFrame x env; theTreesLotGoes x)) _ _ s;refine wpAny_noted ?_;rw [compTurn_list];refine wpAny_bind (wpAny_standAt (wpAny_bind (wpAny_mono (turn n s hI _) (fun r s₁ h₁=>?_) fun _ _ h'=>h')));cases r with
 | none=>exact wpAny_pure h₁
 | some v =>
  refine wpAny_bind (wpAny_mono h₁ (fun _ s₁' h₁'=>?_) fun _ _ h'=>h');refine wpAny_bind (wpAny_mono h₁' (fun _ s₂ h₂=>wpAny_bind (wpAny_mono h₂ (fun ok s₃ h₃=>?_) fun _ _ h'=>h')) fun _ _ h'=>h');cases ok with
  | false=>exact wpAny_pure ⟨rfl,h₃⟩
  | true =>
   exact wpAny_bind (wpAny_bind (wpAny_mono h₃ (fun x s₄ h₄=>wpAny_bind (wpAny_mono h₄ (fun _ s₅ h₅=>wpAny_pure (wpAny_pure ⟨rfl,h₅⟩)) fun _ _ h'=>h')) fun _ _ h'=>h'))
end
def cT (env:Env):List (Str×NameKind)->List (Str×Addr)->List (Str×Addr)
 | [],cs=>cs
 | (n,k)::r,cs=>cT env r (if k==.free then (match env.cells.lookup n with | some a=>(n,a)::cs | none=>cs) else cs)
theorem mL {scope:Scope}{env:Env}(h:∀ y∈scope.names,y.2=.free->∃ c,env.cells.lookup y.1=some c):closureFor scope env=pure (cT env scope.names []):=by
 unfold closureFor;have key:∀ (l:List (Str×NameKind)) (cs:List (Str×Addr)),(∀ y∈l,y.2=.free->∃ c,env.cells.lookup y.1=some c) ->
   (forIn l cs fun x r=>(match x with
    | (name,kind)=>if (kind==NameKind.free)=true then (do let a <- cellOf env name; pure (ForInStep.yield ((name,a)::r))) else pure (ForInStep.yield r):Sem (ForInStep (List (Str×Addr)))))=(pure (cT env l cs):Sem _):=by
  intro l
  induction l with
  | nil=>intro cs _; rfl
  | cons y r ih =>
   intro cs hy;obtain ⟨n,k⟩:=y;rw [List.forIn_cons]
   by_cases hk:(k==NameKind.free)=true
   ·obtain ⟨c,hc⟩:=hy (n,k) Yg (by simpa using hk);have e:cellOf env n=pure c:=by unfold cellOf; rw [hc]
    simp only [hk,if_true,e,pure_bind];rw [ih _ fun z hz=>hy z (Y8 _ hz)];show _=pure (cT env r (if (k==NameKind.free)=true then (match env.cells.lookup n with | some a=>(n,a)::cs | none=>cs) else cs));rw [if_pos hk,hc]
   ·have hk2:(k==NameKind.free)=false:=by simpa using hk
    simp only [hk2,Y6,if_false,pure_bind];rw [ih _ fun z hz=>hy z (Y8 _ hz)];show _=pure (cT env r (if (k==NameKind.free)=true then (match env.cells.lookup n with | some a=>(n,a)::cs | none=>cs) else cs));rw [if_neg hk]
 have k2:=key scope.names [] h;simp only [bind_pure]
 first
  | exact k2
  | (rw [<- k2]; rfl)
theorem nH {env:Env}:∀ (l:List (Str×NameKind)) (cs:List (Str×Addr)) (p:Str×Addr),p∈cT env l cs->p∈cs∨env.cells.lookup p.1=some p.2
 | [],_,_,h=>.inl h
 | (n,k)::r,cs,p,h=>by
  rcases nH r _ p h with q | q
  ·by_cases hk:(k==NameKind.free)=true
   ·rw [if_pos hk] at q;cases e:env.cells.lookup n with
    | none=>rw [e] at q; exact .inl q
    | some a =>
     rw [e] at q;rcases Yn.mp q with z | z
     ·subst z; exact .inr e
     ·exact .inl z
   ·rw [if_neg hk] at q; exact .inl q
  ·exact .inr q
theorem tG {env:Env}:∀ (l:List (Str×NameKind)) (cs:List (Str×Addr)) (p:Str×Addr),p∈cs->p∈cT env l cs
 | [],_,_,h=>h
 | (n,k)::r,cs,p,h=>by
  refine tG r _ p ?_
  by_cases hk:(k==NameKind.free)=true
  ·rw [if_pos hk];cases e:env.cells.lookup n with
   | none=>exact h
   | some a=>exact Y8 _ h
  ·rw [if_neg hk]; exact h
theorem mU {env:Env}{n:Str}{c:Addr}(e:env.cells.lookup n=some c):∀ (l:List (Str×NameKind)) (cs:List (Str×Addr)),(n,NameKind.free)∈l->(n,c)∈cT env l cs
 | [],_,h=>nomatch h
 | (m,k)::r,cs,h=>by
  rcases Yn.mp h with z | z
  ·cases z;refine tG r _ _ ?_;rw [if_pos (by rfl),e];exact Yg
  ·exact mU e r _ z
theorem fX {β:Type}{n:Str}{c:β}:∀ {l:List (Str×β)},(n,c)∈l->∃ d,l.lookup n=some d
 | [],h=>nomatch h
 | (m,d)::r,h=>by
  cases q:n==m with
  | true=>exact ⟨d,by simp only [Z9,q]⟩
  | false =>
   rcases Yn.mp h with z | z
   ·cases z;simp at q
   ·obtain ⟨d',e⟩:=fX z;exact ⟨d',by simp only [Z9,q,e]⟩
theorem d9 {env:Env}:∀ {names:List (Str×NameKind)}{x:Str}{k:NameKind},
  (names.map fun (n,k)=>if (k==NameKind.free&&env.scope.kind==.function&&env.kindOf n==some .cell) then (n,NameKind.cell) else (n,k)).lookup x=some k ->
  ∃ k',names.lookup x=some k'/\(k'=k∨(k'=.free/\k=.cell))
 | [],_,_,h=>by simp at h
 | (n,j)::r,x,k,h=>by
  cases hx:x==n with
  | true =>
   refine ⟨j,by simp only [Z9,hx],?_⟩
   by_cases hc:(j==NameKind.free&&env.scope.kind==.function&&env.kindOf n==some .cell)=true
   ·simp only [ZF,if_pos hc,Z9,hx] at h;cases h;refine .inr ⟨?_,rfl⟩;simp only [Yh,beq_iff_eq] at hc;exact hc.1.1
   ·simp only [ZF,if_neg hc,Z9,hx] at h;cases h;exact .inl rfl
  | false =>
   by_cases hc:(j==NameKind.free&&env.scope.kind==.function&&env.kindOf n==some .cell)=true
   ·simp only [ZF,if_pos hc,Z9,hx] at h;obtain ⟨k',e1,e2⟩:=d9 h;exact ⟨k',by simp only [Z9,hx,e1],e2⟩
   ·simp only [ZF,if_neg hc,Z9,hx] at h;obtain ⟨k',e1,e2⟩:=d9 h;exact ⟨k',by simp only [Z9,hx,e1],e2⟩
end PySem
namespace L2
open PySem PySem.Spec PyProof.Rows
open Builtin.Int (intBits)
section
variable {X:Cx}
def JZ (i j:Int):Prop:=intBits i+intBits j<=134217728
theorem iH:kE X (binaryOp .Mult) (rI JZ fun i j=>.int (i*j)):=K5 fun _ _ _ _ _ _ _ hc q=>mul_int q (IntMulOk.of_le (YS _) (YS _) hc)
theorem fP {T:String}:cN X (.builtin "isinstance") (fun xs H Q=>∃ x t b,xs=[x,.ty T]/\lK X.K H x t/\PySem.W.kitOne X.K t (.type T)=some b/\Q (.bl b) H):=by
 intro pins s σ H xs us Q I r h;obtain ⟨x,t,b,rfl,ty,e,q⟩:=h;obtain ⟨u,w',rfl,rx,rt⟩:=vals2 r;cases (show w'=Value.type T from rt);exact CP I rx ty e fun tk=>⟨.bl b,H,I.tok _,rfl,q⟩
theorem getD_at {α:Type}{l:List α}{d:α}{i:Nat}(h:i<l.length):l.getD i d=l[i]:=by simp [h]
end
structure bT (sc scope:Scope):Prop where
 kind:scope.kind=.function
 nocell:∀ y∈scope.names,y.2≠.cell
 loc:∀ y∈scope.names,y.2=.local->scope.names.lookup y.1=some .local
 free:∀ y∈scope.names,y.2=.free->sc.names.lookup y.1=some .cell∨sc.names.lookup y.1=some .free
def zV (sc scope:Scope):Bool:=(scope.kind==.function)&&scope.names.all fun y=>(y.2 != .cell)&&((y.2 != .local)||(scope.names.lookup y.1==some .local))&&((y.2 != .free)||(sc.names.lookup y.1==some .cell)||(sc.names.lookup y.1==some .free))
theorem bT.of {sc scope:Scope}(h:zV sc scope=true):bT sc scope:=by
 unfold zV at h;rw [Yh,Z0] at h;obtain ⟨hk,h⟩:=h;refine ⟨eq_of_beq hk,fun y hy=>?_,fun y hy e=>?_,fun y hy e=>?_⟩
 ·have q:=h y hy;simp only [Yh,bne_iff_ne] at q;exact q.1.1
 ·have q:=h y hy;simp only [Yh,Zv,bne_iff_ne,beq_iff_eq] at q;exact q.1.2.resolve_left fun z=>z e
 ·have q:=h y hy;simp only [Yh,Zv,bne_iff_ne,beq_iff_eq] at q;rcases q.2 with (z | z) | z
  ·exact absurd e z
  ·exact .inl z
  ·exact .inr z
structure NL (N M:List Str)(scope:Scope):Prop where
 len:M.length=N.length
 loc:∀ (j:Nat) x,M[j]? = some x->scope.names.lookup x≠some .local
 free:∀ (j:Nat) x,M[j]? = some x->scope.names.lookup x=some .free->N[j]? = some x
def Qk (scope:Scope):List Str->List Str->Bool
 | [],[]=>true
 | x::M,y::N=>(scope.names.lookup x != some .local)&&((scope.names.lookup x != some .free)||x==y)&&Qk scope M N
 | _,_=>false
theorem NL.of {scope:Scope}:∀ {N M:List Str},Qk scope M N=true->NL N M scope
 | [],[],_=>⟨rfl,fun j x h=>by simp at h,fun j x h=>by simp at h⟩
 | [],_::_,h=>by cases h
 | _::_,[],h=>by cases h
 | y::N,x::M,h=>by
  have h':((scope.names.lookup x != some .local)&&((scope.names.lookup x != some .free)||x==y)&&Qk scope M N)=true:=h;simp only [Yh,Zv,bne_iff_ne,beq_iff_eq] at h';obtain ⟨⟨h1,h2⟩,h3⟩:=h';have q:=NL.of h3;refine ⟨by simp [q.len],fun j z e=>?_,fun j z e f=>?_⟩
  ·cases j with
   | zero=>simp at e; subst e; exact h1
   | succ j=>exact q.loc j z (by simpa using e)
  ·cases j with
   | zero =>
    simp at e; subst e;rcases h2 with w | w
    ·exact absurd f w
    ·simp [w]
   | succ j=>simpa using q.free j z (by simpa using e) f
def cO (X:Cx)(ls M:List Str)(scope:Scope)(C:Addr)(fp:List Addr)(s:Shared)(H:Hp):Cx where
 prog:=X.prog
 w:=X.w
 K:=X.K
 mg:=X.mg
 base:=X.base
 A:=X.A
 N:=ls++M
 s₀:=s
 H₀:=H
 env:=compEnvC scope (cT X.env scope.names []) C X.env
 outer:=X.stack
 stack:=X.stack
 ex:=fp
 fn:=fun _=>false
 calm:=X.calm
 pn:=[]
 xe:=fun _ _=>False
def Lb (Y:Cx)(ifs:List Expr)(c:TT):Prop :=
 ∀ (pins:List (Addr×Obj)) (s:Shared) (σ:St) (H:Hp) (Q:Bool->Hp->Prop),aQ Y pins σ H s->c σ H Q ->
  wpAny (model Y.prog Y.w) Y.A (forIn ifs true fun c r=>if r=true then do let ok <- isTrue c Y.env (eval c Y.env); pure (ForInStep.yield ok) else pure (ForInStep.yield r)) (TP Y pins σ Q) Y.xe s
def KD:TT:=fun _ H Q=>Q true H
theorem cX {Y:Cx}:Lb Y [] KD:=fun _ _ _ H _ I h=>wpAny_tests_nil ⟨H,I,h⟩
theorem jM {Y:Cx}{e:Expr}{c:TT}(h:PT Y e c):Lb Y [e] c:=fun pins s σ H Q I hw=>wpAny_tests_one (h pins s σ H Q I hw)
def zY (k:Nat)(J:It)(g:TG)(c:TT)(te:TE)(σ:St)(H1:Hp)(D:Addr)(Q:VK):Prop :=
 ∃ W:Nat->Nat->St->Hp->Prop,(∃ m,W 0 m (Zr k none++σ) (bN H1 D (.lst [])))/\∀ i m τ H,W i m τ H ->
  (J.stop i H/\Q (.ref D) H)∨(J.go i H/\∀ x H',J.yld i H x H'->g x τ H' fun τ2 H2=>c τ2 H2 fun b H3=>if b=true then te τ2 H3 fun y H4=>∃ ys m',m'<m/\H4 D=some (.lst ys)/\ys.length<sizeLine/\W (i+1) m' τ2 (bN H4 D (.lst (ys++[y]))) else ∃ m',m'<m/\W (i+1) m' τ2 H3)
def J4 (k:Nat)(wi:TI)(g:TG)(c:TT)(te:TE):TE:=fun σ H Q=>wi σ H fun J H1=>∀ D,H1 D=none->zY k J g c te σ H1 D Q
structure Hg (X:Cx)(pins:List (Addr×Obj))(H:Hp)(C:Addr)(s:Shared):Prop where
 ns:∃ m,s.heap.Ns C m
 none:H C=none
 ne:C≠X.env.locals
 young:X.s₀.heap.objs.size<=C
 cells:∀ x c,X.env.cells.lookup x=some c->c≠C
 pins:∀ p∈X.pn++pins,p.1≠C
theorem aQ.gone {X:Cx}{pins:List (Addr×Obj)}{σ:St}{H:Hp}{C:Addr}{s:Shared}{h':Heap}(I:aQ X pins σ H s)(o:Hg X pins H C s)(hs:Ym C s.heap h'):aQ X pins σ H { s with heap:=h' } :=
 I.turned (t':=s.toks) (it:=C) (fun b ob hb e=>(hs.2 b hb).trans e) o.none o.ne (.inr o.young) o.cells o.pins
section
variable {X:Cx}{elt tg iter:Expr}{ifs:List Expr}{scope:Scope}{pos:Pos}{ls M:List Str}{g:TG}{c:TT}{te:TE}
theorem tE {J:It}{fp:List Addr}{tn:Nat->Heap->Prop}{it:Addr}{pins:List (Addr×Obj)}{σ:St}{H2:Hp}{s2:Shared}{Qe:VK}{RR:Value->Addr->Result->Shared->Prop}{E:Value->Shared->Prop}
  (hc:X.calm=true) (S:bT X.env.scope scope) (nl:NL X.N M scope)
  (hb:∀ C fp s H,PG (cO X ls M scope C fp s H) tg g/\Lb (cO X ls M scope C fp s H) ifs c/\PE (cO X ls M scope C fp s H) elt te)
  (I2:aQ X pins σ H2 s2) (T:Turn X.prog X.w X.K tg J fp it tn) (st2:tn 0 s2.heap) (f2:∀ b∈fp,dN X pins H2 b)
  (hW:∀ D,H2 D=none->zY ls.length J g c te σ H2 D Qe)
  (hRR:∀ D C H' s',aQ X pins σ H' s'->Hg X pins H' C s'->Qe (.ref D) H'->RR (.ref D) C (.ok .next) s') :
  wpAny (model X.prog X.w) X.A (newList []) (fun acc s₃=>wpAny (model X.prog X.w) X.A (newFunctionEnv scope X.env.globals (cT X.env scope.names []) [] X.env.qual none .none (some X.env)) (fun cenv s₄ =>
   codeAny (model X.prog X.w) X.A (.compStart (.ListComp elt [⟨tg,iter,ifs,0⟩] scope pos) 0 (.ref it) acc { cenv with scope:=relabel scope X.env }) (RR acc cenv.locals) s₄) E s₃) E s2:=by
 refine wpAny_newObj_type (wpAny_newFunctionEnv S.nocell (by intro y hy; simp at hy) (fun h₁ hns₁ hsb₁=>?_) S.kind);dsimp only at hns₁ hsb₁ ⊢;have I3:aQ X pins σ (bN H2 s2.heap.objs.size (.lst [])) { s2 with heap:=s2.heap.push { cls:=.type "list",dict:=none,data:=.seq ([]:List Value).toArray },toks:=s2.toks } :=
  I2.laid (fun _ _ q=>YK _ q) (YS _) ⟨Yq _,[],0,.nil,YZ _ rfl⟩
 have hfreshD:H2 s2.heap.objs.size=none:=I2.hok.fresh (YS _);generalize hHH:s2.heap.push { cls:=.type "list",dict:=none,data:=.seq ([]:List Value).toArray }=HH at hns₁ hsb₁ I3 ⊢;have up:∀ b o,s2.heap.get? b=some o->HH.get? b=some o:=fun b o e=>by rw [<- hHH]; exact YK _ e
 have old:∀ b o,HH.get? b=some o->h₁.get? b=some o:=fun b o e=>hsb₁.extBut b o (Yd (YX e)) (YK _ e);generalize hH3:bN H2 s2.heap.objs.size (.lst [])=H3 at I3;have f3:∀ b∈fp,dN X pins H3 b:=fun b hb=>by
  obtain ⟨f0,fr⟩:=f2 b hb;refine ⟨?_,fr⟩;obtain ⟨o,e,_⟩:=T.obj 0 _ st2 b hb;rw [<- hH3,aO (Yd (YX e))];exact f0
 have fplt:∀ b∈fp,b<HH.objs.size:=fun b hb=>by
  obtain ⟨o,e,_⟩:=T.obj 0 _ st2 b hb;exact YX (up b o e)
 have sub:∀ x a,(cT X.env scope.names []).lookup x=some a->X.env.cells.lookup x=some a:=fun x a e=>by
  rcases nH _ _ _ (PySem.mem_of_lookup e) with z | z
  ·exact absurd z (by simp)
  ·exact z
 have kin:∀ x,scope.names.lookup x=some .free->X.env.kindOf x=some .cell∨X.env.kindOf x=some .free:=fun x e=>S.free (x,.free) (PySem.mem_of_lookup e) rfl;have has:∀ x a,scope.names.lookup x=some .free->X.env.cells.lookup x=some a->(cT X.env scope.names []).lookup x=some a:=fun x a e ec=>by
  obtain ⟨d,hd⟩:=fX (mU ec scope.names [] (PySem.mem_of_lookup e));have:=sub x d hd;rw [ec] at this;cases this;exact hd
 have rel:∀ x k,(relabel scope X.env).names.lookup x=some k->(k=.cell∨k=.free)->scope.names.lookup x=some .free:=fun x k e hk=>by
  obtain ⟨k',e1,e2⟩:=d9 (show (scope.names.map fun (n,k)=>if (k==NameKind.free&&X.env.scope.kind==.function&&X.env.kindOf n==some .cell) then (n,NameKind.cell) else (n,k)).lookup x=some k from e);rcases e2 with e2 | ⟨e2,_⟩
  ·subst e2;rcases hk with hk | hk
   ·subst hk; exact absurd rfl (S.nocell _ (PySem.mem_of_lookup e1))
   ·subst hk; exact e1
  ·subst e2; exact e1
 have okY:(cO X ls M scope HH.objs.size fp { s2 with heap:=HH,toks:=s2.toks } H3).Ok:=by
  refine ⟨I3.ok.mod,S.kind,I3.ok.glob,I3.ok.blt,YS _,fun x y a h1 h2=>I3.ok.inj x y a (sub x a h1) (sub y a h2),fun x hx=>?_,(fun x a h=>nomatch h),I3.ok.hd,I3.ok.frames,.inl rfl,fun b hb'=>⟨Yd (fplt b hb'),fun x a e=>(f3 b hb').2.2.2.2.1 x a (sub x a e)⟩,
   I3.bs,Y7 I3.ok.bsz I3.sz,fun b o e hb'=>?_,fun b hb' hs=>?_,I3.stack,I3.stkFree⟩
  ·have hf:scope.names.lookup x=some .free:=by
    rcases hx with hx | hx
    ·exact rel x _ hx (.inl rfl)
    ·exact rel x _ hx (.inr rfl)
   obtain ⟨a,ea⟩:=I3.ok.has x (kin x hf);exact ⟨a,has x a hf ea⟩
  ·rcases (f3 b hb').2.2.2.1 with z | z
   ·exact I3.ok.noex b o e z
   ·exact absurd (Yj (YX e) (Y7 I3.ok.bsz z)) (Za _)
  ·rcases Yn.mp (I3.stkSub b hs) with z | z
   ·exact (f3 b hb').2.1 z
   ·exact (f3 b hb').2.2.1 z
 have IY:aQ (cO X ls M scope HH.objs.size fp { s2 with heap:=HH,toks:=s2.toks } H3) [] (Zr ls.length none++σ) H3 { s2 with heap:=h₁,toks:=s2.toks+([]:List (Str×Value)).length }:=by
  refine ⟨okY,rfl,I2.bare,Un.kept old,⟨_,hns₁,fun i x v e1 e2 e3=>?_⟩,fun x a e=>?_,I3.hok.fresh (YS _),fun x a e=>I3.freeC x a (sub x a e),fun p hp=>absurd (show p∈([]:List (Addr×Obj)) from hp) (by simp),I3.hok.kept old,?_⟩
  ·have hi:ls.length<=i:=by
    by_cases hi:ls.length<=i
    ·exact hi
    ·rw [Zd (by simp; omega),aA1] at e2
     split at e2 <;> cases e2
   rw [Z3 (by simpa using hi),aAf] at e2;have e0:M[i-ls.length]? = some x:=by
    have z:(ls++M)[i]? = some x:=e1;rw [Z3 hi] at z;exact z
   have hnl:=nl.loc _ x e0;have hf:scope.names.lookup x=some .free:=by
    rcases e3 with e3 | e3 | e3
    ·obtain ⟨k',q1,q2⟩:=d9 (show (scope.names.map fun (n,k)=>if (k==NameKind.free&&X.env.scope.kind==.function&&X.env.kindOf n==some .cell) then (n,NameKind.cell) else (n,k)).lookup x=some .local from e3);rcases q2 with q2 | ⟨_,q2⟩
     ·subst q2; exact absurd q1 hnl
     ·cases q2
    ·exact rel x _ e3 (.inl rfl)
    ·exact rel x _ e3 (.inr rfl)
   have e1':=nl.free _ x e0 hf;have hk:=kin x hf;obtain ⟨m,hn,hl⟩:=I3.loc;obtain ⟨u,ru,lk⟩:=hl (i-ls.length) x v e1' e2 (hk.elim (fun z=>.inr (.inl z)) fun z=>.inr (.inr z));refine ⟨u,ru,?_⟩;rcases lk with ⟨z,_⟩ | ⟨_,a,ea,hcell⟩
   ·rcases hk with hk | hk <;> (rw [hk] at z; cases z)
   ·obtain ⟨o,eo,hd⟩:=hcell;refine .inr ⟨?_,a,has x a hf ea,⟨o,old a o eo,hd⟩⟩;rcases e3 with e3 | e3 | e3
    ·obtain ⟨k',q1,q2⟩:=d9 (show (scope.names.map fun (n,k)=>if (k==NameKind.free&&X.env.scope.kind==.function&&X.env.kindOf n==some .cell) then (n,NameKind.cell) else (n,k)).lookup x=some .local from e3);rcases q2 with q2 | ⟨_,q2⟩
     ·subst q2; exact absurd q1 hnl
     ·cases q2
    ·exact .inl e3
    ·exact .inr e3
  ·obtain ⟨v,o,eo,hd⟩:=I3.cell x a (sub x a e);exact ⟨v,o,old a o eo,hd⟩
  ·show (Zr ls.length none++σ).length=(ls++M).length;rw [Y4,Y4,aAf,I3.len,nl.len]
 have st1:tn 0 h₁:=T.keep 0 _ _ st2 fun b _ o e=>old b o (up b o e);obtain ⟨hPG,hPT,hPE⟩:=hb HH.objs.size fp { s2 with heap:=HH,toks:=s2.toks } H3;obtain ⟨W,⟨m0,w0⟩,turn⟩:=hW s2.heap.objs.size hfreshD;rw [hH3] at w0;have back:∀ {τ:St}{H':Hp}{s':Shared},aQ (cO X ls M scope HH.objs.size fp { s2 with heap:=HH,toks:=s2.toks } H3) [] τ H' s'->aQ X pins σ H' s'/\Hg X pins H' HH.objs.size s':=fun {τ H' s'} J=>by
  refine ⟨I3.call' (ch:=fp) J.os J.base J.hok J.bare fun b hb'=>?_,?_⟩
  ·obtain ⟨_,g1,g2,g3,g4,g5⟩:=f3 b hb';exact ⟨g3,g1,g4,g5⟩
  ·obtain ⟨m,hn,_⟩:=J.loc;refine ⟨⟨m,hn⟩,J.free,Ne.symm (Yd I3.lt),I3.sz,fun x a e=>?_,fun p hp=>Yd (YX (I3.pin p hp).1)⟩;obtain ⟨v,q⟩:=I3.cell x a e;exact Yd q.lt
 have stat:∀ {H':Hp},(∀ b∈fp,H' b=none)->∀ b∈fp,dN (cO X ls M scope HH.objs.size fp { s2 with heap:=HH,toks:=s2.toks } H3) [] H' b:=fun {H'} hn b hb'=>by
  obtain ⟨_,g1,g2,g3,g4,g5⟩:=f3 b hb';refine ⟨hn b hb',Yd (fplt b hb'),fun hs=>?_,.inl hb',fun x a e=>g4 x a (sub x a e),fun p hp=>absurd (show p∈([]:List (Addr×Obj)) from hp) (by simp)⟩;rcases Yn.mp (I3.stkSub b hs) with z | z
  ·exact g1 z
  ·exact g2 z
 have loop:∀ s₃:Shared,s₃ = { s2 with heap:=h₁,toks:=s2.toks+([]:List (Str×Value)).length } ->
   codeAny (model X.prog X.w) X.A (.compLoop (.ListComp elt [⟨tg,iter,ifs,0⟩] scope pos) 0 (.ref it) (.ref s2.heap.objs.size) (compEnvC scope (cT X.env scope.names []) HH.objs.size X.env)) (RR (.ref s2.heap.objs.size) HH.objs.size) s₃:=by
  rintro s₃ rfl;refine t8 (fun n s'=>∃ i τ H',aQ (cO X ls M scope HH.objs.size fp { s2 with heap:=HH,toks:=s2.toks } H3) [] τ H' s'/\tn i s'.heap/\(∀ b∈fp,H' b=none)/\W i n τ H') ?_ m0 ⟨0,_,H3,IY,st1,fun b hb'=>(f3 b hb').1,w0⟩;rintro n s3 ⟨i,τ,H',I4,st4,fr4,w4⟩ E';rcases turn i n τ H' w4 with ⟨stop,qn⟩ | ⟨go,step⟩
  ·refine cM (T.done (cO X ls M scope HH.objs.size fp { s2 with heap:=HH,toks:=s2.toks } H3) rfl rfl rfl hc i [] s3 τ H' E' I4 (stat fr4) st4 stop) fun r s4 ⟨hr,I5⟩=>?_;subst hr;obtain ⟨b1,b2⟩:=back I5;exact hRR _ _ H' s4 b1 b2 qn
  ·refine cM (T.item (cO X ls M scope HH.objs.size fp { s2 with heap:=HH,toks:=s2.toks } H3) rfl rfl rfl hc i [] s3 τ H' E' I4 (stat fr4) st4 go) fun r s4 ⟨u,hr,h4⟩=>?_;subst hr;refine cM h4 fun _ s5 ⟨x,H5,I5,r5,y5,st5,fr5⟩=>?_;have I5':=I5.pinned (stat fr5) (T.obj _ _ st5);refine wpAny_mono (hPG _ s5 τ H5 x u _ I5' r5 (step x H5 y5)) (fun _ s6 ⟨σ6,H6,I6,q6⟩=>?_) fun _ _ z=>z.elim;refine wpAny_mono (hPT _ s6 σ6 H6 _ I6 q6) (fun ok s7 ⟨H7,I7,q7⟩=>?_) fun _ _ z=>z.elim;have again:∀ {σ8:St}{H8:Hp}{s8:Shared}{m':Nat},aQ (cO X ls M scope HH.objs.size fp { s2 with heap:=HH,toks:=s2.toks } H3) ([]++qM fp s5.heap) σ8 H8 s8->m'<n->W (i+1) m' σ8 H8 ->
     ∃ m,m<n/\∃ i τ H',aQ (cO X ls M scope HH.objs.size fp { s2 with heap:=HH,toks:=s2.toks } H3) [] τ H' s8/\tn i s8.heap/\(∀ b∈fp,H' b=none)/\W i m τ H':=fun {σ8 H8 s8 m'} I8 hm w8=>by
    refine ⟨m',hm,i+1,σ8,H8,I8.unpinned,T.keep _ _ _ st5 fun b hb' o e=>(I8.pin (b,o) (Yb _ (Yb _ (iJ hb' e)))).1,fun b hb'=>?_,w8⟩;obtain ⟨o,e,d⟩:=T.obj _ _ st5 b hb';exact (I8.pin (b,o) (Yb _ (Yb _ (iJ hb' e)))).2.1
   cases ok with
   | false =>
    rw [if_neg Y9] at q7 ⊢;obtain ⟨m',hm,w7⟩:=q7;exact again I7 hm w7
   | true =>
    rw [if_pos rfl] at q7 ⊢;refine wpAny_mono (hPE _ s7 σ6 H7 _ I7 q7) (fun yv s8 ⟨y,H8,I8,r8,ys,m',hm,hD,hz,w8⟩=>?_) fun _ _ z=>z.elim;refine wpAny_mono (eZ (X:=(cO X ls M scope HH.objs.size fp { s2 with heap:=HH,toks:=s2.toks } H3)) _ s8 σ6 H8 (.ref s2.heap.objs.size) [y] (.ref s2.heap.objs.size) [yv] (fun _ H9=>W (i+1) m' σ6 H9) I8 rfl (.cons r8 .nil) ⟨_,ys,y,rfl,rfl,hD,hz,w8⟩) (fun _ s9 ⟨_,H9,I9,_,w9⟩=>?_) fun _ _ z=>z.elim;exact again I9 hm w9
 exact codeAny_compStart_list (loop _ rfl) (T.self _ 0 _ _ _ st1 (loop _ rfl))
theorem yX (S:bT X.env.scope scope)(ok:X.Ok):closureFor scope X.env=pure (cT X.env scope.names []) :=
 mL fun y hy e=>ok.has y.1 (S.free y hy e)
theorem dC {wi:TI}(hc:X.calm=true)(S:bT X.env.scope scope)(nl:NL X.N M scope)(hi:PI X tg iter wi)
  (hb:∀ C fp s H,PG (cO X ls M scope C fp s H) tg g/\Lb (cO X ls M scope C fp s H) ifs c/\PE (cO X ls M scope C fp s H) elt te)
  (hs:∀ x,foldedSetIterable iter X.env x=pure x:=by intro _; rfl):PE X (.ListComp elt [⟨tg,iter,ifs,0⟩] scope pos) (J4 ls.length wi g c te):=by
 intro pins s σ H Q I h;rw [eval_ListComp];refine wpAny_comprehension_free (use:=none) rfl hs (yX S I.ok) S.kind S.loc (cM (hi pins s σ H _ I h) fun xv s1 h1=>cM h1 fun itv s2 h2=>?_);obtain ⟨it,fp,tn,J,H2,e,I2,T,st2,f2,hW⟩:=h2;subst e;refine tE (RR:=fun acc C=>compPost (model X.prog X.w) X.A X.xe none (EP X pins σ Q) acc C) (Qe:=Q) hc S nl hb I2 T st2 f2 hW fun D C H' s' I' o q=>?_;exact ⟨o.ns.choose,o.ns.choose_spec,fun h' hs'=>⟨.ref D,H',I'.gone o hs',rfl,q⟩⟩
theorem gZ {wi:TI}{i:Nat}{y:Str}{py spos:Pos}(hc:X.calm=true)(S:bT X.env.scope scope)(nl:NL X.N M scope)(hN:X.N.Nodup)(hiy:X.N[i]? = some y)(hy:Loc X.env.scope y)
  (hi:PI X tg iter wi) (hb:∀ C fp s H,PG (cO X ls M scope C fp s H) tg g/\Lb (cO X ls M scope C fp s H) ifs c/\PE (cO X ls M scope C fp s H) elt te)
  (hsw:swapsWith (.ListComp elt [⟨tg,iter,ifs,0⟩] scope pos) (some (.Name y py)) spos.line X.env=pure true:=by rfl)
  (hs:∀ x,foldedSetIterable iter X.env x=pure x:=by intro _; rfl) (hf:X.fn y=true∨X.env.scope.names.lookup y=some .local:=by first | exact .inl rfl | exact .inr rfl) :
  PS X (.Assign [.Name y py] (.ListComp elt [⟨tg,iter,ifs,0⟩] scope pos) spos) (J9 (J4 ls.length wi g c te) (p7 i)):=by
 intro pins s σ H D I h;rw [exec_Assign_Name_used _ _ _ _ hsw];refine wpAny_bind (wpAny_standAt (wpAny_bind ?_));show wpAny _ X.A (do let _ <- comprehension (.ListComp elt [⟨tg,iter,ifs,0⟩] scope pos) scope X.env _ (newList []) false (eval iter X.env) (some (assign (.Name y py) X.env))) _ _ s;refine wpAny_bind (wpAny_mono (wpAny_comprehension_free (use:=some (assign (.Name y py) X.env)) (Q:=fun _ s'=>SP X pins D .next s') rfl hs (yX S I.ok) S.kind S.loc (cM (hi pins s σ H _ I h) fun xv s1 h1=>cM h1 fun itv s2 h2=>?_)) (fun _ s' hq=>wpAny_pure (wpAny_pure hq)) fun _ _ e=>e);obtain ⟨it,fp,tn,J,H2,e,I2,T,st2,f2,hW⟩:=h2;subst e;refine tE (RR:=fun acc C=>compPost (model X.prog X.w) X.A X.xe (some (assign (.Name y py) X.env)) (fun _ s'=>SP X pins D .next s') acc C) hc S nl hb I2 T st2 f2 hW fun Dl C H' s' I' o q=>?_;show wpAny _ X.A (assign (.Name y py) X.env (.ref Dl)) _ _ _;refine wpAny_assign_Name (sZ I' hN hiy hy (v:=.ref Dl) rfl (fun s'' I'' ⟨a,hsa,ha⟩=>?_) hf);have hCa:C≠a:=by
  rcases ha with z | z
  ·rw [z]; exact o.ne
  ·exact Ne.symm (o.cells y a z)
 obtain ⟨m,hm⟩:=o.ns;have o2:Hg X pins H' C s'':=⟨⟨m,hm.sameBut hsa hCa⟩,o.none,o.ne,o.young,o.cells,o.pins⟩
 exact ⟨m,hm.sameBut hsa hCa,fun h' hs'=>⟨_,H',I''.gone o2 hs',q⟩⟩
end
def CW (n:Nat)(Pv:Nat->St->Hp->Prop)(i m:Nat)(τ:St)(H:Hp):Prop:=m=n-i/\i<=n/\Pv i τ H
theorem bF {n i m:Nat}{Pv:Nat->St->Hp->Prop}{τ:St}{H4:Hp}{D:Addr}{ys:List V}{y:V}(hm:m=n-i)(hi:i<n)(e1:H4 D=some (.lst ys))(e2:ys.length<sizeLine)(p:Pv (i+1) τ (bN H4 D (.lst (ys++[y])))) :
  ∃ ys m',m'<m/\H4 D=some (.lst ys)/\ys.length<sizeLine/\CW n Pv (i+1) m' τ (bN H4 D (.lst (ys++[y]))):=⟨ys,n-(i+1),by omega,e1,e2,rfl,hi,p⟩
theorem dO {n i m:Nat}{Pv:Nat->St->Hp->Prop}{τ:St}{H3:Hp}(hm:m=n-i)(hi:i<n)(p:Pv (i+1) τ H3):∃ m',m'<m/\CW n Pv (i+1) m' τ H3:=⟨n-(i+1),by omega,rfl,hi,p⟩
theorem bW {k:Nat}{lo:Int}{n:Nat}{g:TG}{c:TT}{te:TE}{σ:St}{H1:Hp}{D:Addr}{Q:VK}(Pv:Nat->St->Hp->Prop)(h0:Pv 0 (Zr k none++σ) (bN H1 D (.lst [])))
  (hs:∀ i m τ H,m=n-i->i<n->Pv i τ H->g (.int (lo+i)) τ H fun τ2 H2=>c τ2 H2 fun b H3=>if b=true then te τ2 H3 fun y H4=>∃ ys m',m'<m/\H4 D=some (.lst ys)/\ys.length<sizeLine/\CW n Pv (i+1) m' τ2 (bN H4 D (.lst (ys++[y]))) else ∃ m',m'<m/\CW n Pv (i+1) m' τ2 H3)
  (hd:∀ τ H,Pv n τ H->Q (.ref D) H):zY k (Jt lo n) g c te σ H1 D Q:=by
 refine ⟨CW n Pv,⟨n,rfl,Yq _,h0⟩,?_⟩;rintro i m τ H ⟨hm,hi,p⟩
 by_cases hlt:i<n
 ·refine .inr ⟨hlt,fun x H' y=>?_⟩;obtain ⟨e,y⟩:=y;subst e y;exact hs i m τ _ hm hlt p
 ·have e:i=n:=by omega
  subst e;exact .inl ⟨YS _,hd τ H p⟩
theorem dG {K:PySem.W.Frag}{a:Addr}{xs:List V}{k:Nat}{g:TG}{c:TT}{te:TE}{σ:St}{H1:Hp}{D:Addr}{Q:VK}(Pv:Nat->St->Hp->Prop)(h0:Pv 0 (Zr k none++σ) (bN H1 D (.lst [])))
  (hl:∀ i τ H,i<=xs.length->Pv i τ H->bJ K H a xs)
  (hs:∀ i m x τ H,m=xs.length-i->i<xs.length->xs[i]? = some x->Pv i τ H->g x τ H fun τ2 H2=>c τ2 H2 fun b H3=>if b=true then te τ2 H3 fun y H4=>∃ ys m',m'<m/\H4 D=some (.lst ys)/\ys.length<sizeLine/\CW xs.length Pv (i+1) m' τ2 (bN H4 D (.lst (ys++[y]))) else ∃ m',m'<m/\CW xs.length Pv (i+1) m' τ2 H3)
  (hd:∀ τ H,Pv xs.length τ H->Q (.ref D) H):zY k (Kl K a) g c te σ H1 D Q:=by
 refine ⟨CW xs.length Pv,⟨xs.length,rfl,Yq _,h0⟩,?_⟩;rintro i m τ H ⟨hm,hi,p⟩;have q:=hl i τ H hi p
 by_cases hlt:i<xs.length
 ·refine .inr ⟨⟨xs,xs[i],q,by simp [hlt]⟩,fun x H' y=>?_⟩;obtain ⟨e,y⟩:=y;subst e;exact hs i m x τ _ hm hlt (y xs q) p
 ·have e:i=xs.length:=by omega
  subst e;exact .inl ⟨⟨xs,q,YS _⟩,hd τ H p⟩
theorem Gk {τ:St}{H:Hp}{A B:Hp->Prop}(h:A H):KD τ H (fun b H3=>if b=true then A H3 else B H3):=by
 show (if true=true then A H else B H);rw [if_pos rfl];exact h
theorem jL {c:Bool}{A B:Prop}(h:c=true)(a:A):if c=true then A else B:=by
 rw [if_pos h];exact a
theorem eU {c:Bool}{A B:Prop}(h:c=false)(b:B):if c=true then A else B:=by
 rw [if_neg (by rw [h]; exact Y9)];exact b
theorem Dz:bootBuiltins "int" = some (.type "int"):=by decide +kernel
theorem Ie:bootBuiltins "bool" = some (.type "bool"):=by decide +kernel
theorem iQ:bootBuiltins "list" = some (.type "list"):=by decide +kernel
theorem gD:bootBuiltins "tuple" = some (.type "tuple"):=by decide +kernel
theorem cW:bootBuiltins "len" = some (.builtin "len"):=by decide +kernel
theorem Jl:bootBuiltins "abs" = some (.builtin "abs"):=by decide +kernel
theorem dR:bootBuiltins "isinstance" = some (.builtin "isinstance"):=by decide +kernel
theorem Jg:bootBuiltins "sum" = some (.builtin "sum"):=by decide +kernel
theorem tR:bootBuiltins "max" = some (.builtin "max"):=by decide +kernel
theorem Ke:bootBuiltins "min" = some (.builtin "min"):=by decide +kernel
theorem mQ:bootBuiltins "sorted" = some (.builtin "sorted"):=by decide +kernel
theorem xY:bootBuiltins "all" = some (.builtin "all"):=by decide +kernel
theorem Je:bootBuiltins "any" = some (.builtin "any"):=by decide +kernel
def yP:List Str->Bool
 | []=>true
 | x::r=>(r.all fun y=>x != y)&&yP r
theorem c7:∀ {l:List Str},yP l=true->l.Nodup
 | [],_=>.nil
 | x::r,h=>by
  have h':((r.all fun y=>x != y)&&yP r)=true:=h;rw [Yh,Z0] at h';refine Zj.mpr ⟨fun z=>?_,c7 h'.2⟩;have:=h'.1 x z;simp at this
structure fJ (P:Program)(w:World)(K:PySem.W.Frag)(mg:Str->Option Value)(base:Heap)(n:Nat)(x:Str)(ps:List Str)(sp:Sp)(g:Addr)(gd:FuncData):Prop where
 ok:bO P w K mg base eE n g gd ps sp
 bi:Binds K gd ps []
 kp:PySem.W.keepIn K (.ref g)=true
 at_:mg x=some (.ref g)
theorem fJ.up {P:Program}{w:World}{K:PySem.W.Frag}{mg:Str->Option Value}{base:Heap}{n m:Nat}{x:Str}{ps:List Str}{sp:Sp}{g:Addr}{gd:FuncData}(c:fJ P w K mg base n x ps sp g gd)(h:n<=m):fJ P w K mg base m x ps sp g gd:=⟨c.ok.mono h,c.bi,c.kp,c.at_⟩
theorem aL {X:Cx}{n:Nat}{x:Str}{ps:List Str}{sp:Sp}{g:Addr}{gd:FuncData}{p pos:Pos}{e:Expr}{es:List Expr}{t:TA}(c:fJ X.prog X.w X.K X.mg X.base n x ps sp g gd)(hr:dJ n X.A)(ha:PA X (e::es) t)(hg:Gl X x:=by rfl)
  (hd:(x==("__debug__" : Str))=false:=by decide) (he:starEach (e::es) X.env=(false,eval e X.env)::starEach es X.env:=by rfl) (hpl:(backTo pos (starEach es X.env)).any (·.1)=false:=by rfl) :
  PE X (.Call (.Name x p) (e::es) [] pos) (JR sp [] E0 t):=Gm c.ok hr hg c.at_ c.kp c.bi .nil qK ha hd he hpl
theorem aH {H:Hp}{p:Addr}(h:H p=none)(o:HO):aW H (bN H p o):=fun b u q=>by rw [aO (bB q h)]; exact q
theorem aW.upd_new {H H':Hp}{p:Addr}(s:aW H H')(h:H p=none)(o:HO):aW H (bN H' p o):=fun b u q=>by rw [aO (bB q h)]; exact s b u q
theorem xG {L:List Int}{i:Int}(h0:0<=i)(h1:i<(L.length:Int)):wH (L.map V.int) i=some (.int (L.getD i.toNat 0)):=by
 have hi:i.toNat<L.length:=by omega
 have e:i=((i.toNat:Nat):Int):=by omega
 have q:wH (L.map V.int) ((i.toNat:Nat):Int)=some (.int (L.getD i.toNat 0)):=jP (by rw [Yi,YL hi,getD_at hi] <;> rfl);rw [<- e] at q;exact q
end L2
namespace L2
open PySem PySem.Spec PyProof.Rows
section
variable {X:Cx}{pins:List (Addr×Obj)}{σ:St}{H:Hp}{s:Shared}
theorem aQ.track {a:Addr}{o:HO}(I:aQ X pins σ H s)(f:dN X pins H a)(hy:X.s₀.heap.objs.size<=a)(new:cJ X.prog X.w (bN H a o) s.heap a o):aQ X pins σ (bN H a o) s:=by
 obtain ⟨f0,f1,f2,f3,f4,f5⟩:=f;have ne:∀ b u,H b=some u->b≠a:=fun b u e=>bB e f0;refine ⟨I.ok,I.os,I.bare,⟨I.base.keep,I.base.slot,fun b ob e n hx=>?_,I.base.there,fun b xs e=>?_,fun b ob u e=>?_,fun b ps e=>?_⟩,I.loc,I.cell,?_,fun x c e=>?_,fun p hp=>?_,fun b u e=>?_,I.len⟩
 ·rw [aO (Yd (Yj (YX e) hy))];exact I.base.free b ob e n hx
 ·have q:=I.base.tups b xs e;rw [aO (ne _ _ q)]; exact q
 ·have q:=I.base.frzs b ob u e;rw [aO (ne _ _ q)]; exact q
 ·obtain ⟨m,q⟩:=I.base.tbls b ps e;exact ⟨m,by rw [aO (ne _ _ q)]; exact q⟩
 ·rw [aO (Ne.symm f1)]; exact I.free
 ·rw [aO (f4 x c e)]; exact I.freeC x c e
 ·obtain ⟨g1,g2,g3,g4,g5⟩:=I.pin p hp;exact ⟨g1,by rw [aO (f5 p hp)]; exact g2,g3,g4,g5⟩
 ·by_cases hb:b=a
  ·subst hb; rw [aC] at e; cases e; exact new
  ·rw [aO hb] at e;exact (I.hok b u e).stay (fun _ _ _ q=>q) (fun c q=>by rw [aO (ne _ _ q)]; exact q) fun c xs q=>by rw [aO (ne _ _ q)]; exact q
theorem dN.pin {b:Addr}{o:Obj}(f:dN X pins H b)(e:s.heap.get? b=some o)(d:∀ v,o.data≠.cell v):s.heap.get? b=some o/\H b=none/\b≠X.env.locals/\b∉X.fs/\∀ v,o.data≠.cell v:=⟨e,f.1,f.2.1,f.2.2.1,d⟩
variable {A:Around}{E:Value->Shared->Prop}{P:PySem.Fin->Shared->Prop}{a kS:Addr}{b:Bool}{vs:List Value}{kz:List Int}{keys:Array Value}{e e1:Nat}{f:Value}
end
def Aj (X:Cx)(A:Around)(p:Str)(M:List Str)(scope:Scope)(qual:Str)(f c':Addr)(s:Shared)(H:Hp):Cx where
 prog:=X.prog
 w:=X.w
 K:=X.K
 mg:=X.mg
 base:=X.base
 A:=A.deeper (PySem.W.envX qual scope s.heap.objs.size f (.ref c') (cT X.env scope.names []))
 N:=p::M
 s₀:=s
 H₀:=H
 env:=PySem.W.envX qual scope s.heap.objs.size f (.ref c') (cT X.env scope.names [])
 outer:=X.stack
 stack:=PySem.W.envX qual scope s.heap.objs.size f (.ref c') (cT X.env scope.names [])::X.stack
 ex:=[]
 fn:=fun _=>false
 calm:=true
 pn:=[]
 xe:=fun _ _=>False
abbrev wN (c':Addr)(qual:Str):HO:=.ext fun h=>h.CodeRec (.ref c') qual
def KJ (pos:Pos)(c':Addr):Array Value:=#[rawInt pos.line,rawInt pos.col,.ref c']
def O5 (P:Addr)(pos:Pos)(qual:Str)(c':Addr)(H:Hp):Prop:=H P=some (.tbl (KJ pos c'))/\H c'=some (wN c' qual)
def mZ (P:Addr)(pos:Pos)(qual:Str)(H:Hp):Prop:=H P=some (.tbl #[])∨∃ c',O5 P pos qual c' H
def j9 (P:Addr)(H H':Hp):Prop:=∀ b o,b≠P->H b=some o->H' b=some o
theorem j9.refl {P:Addr}(H:Hp):j9 P H H:=fun _ _ _ e=>e
theorem mZ.at_ {P:Addr}{pos:Pos}{qual:Str}{H:Hp}(t:mZ P pos qual H):∃ ps,H P=some (.tbl ps):=by
 rcases t with t | ⟨c,t,_⟩
 ·exact ⟨_,t⟩
 ·exact ⟨_,t⟩
theorem j9.get {P:Addr}{pos:Pos}{qual:Str}{H H':Hp}(a:j9 P H H')(t:mZ P pos qual H){b:Addr}{o:HO}(e:H b=some o)(n:∀ ps,o≠.tbl ps):H' b=some o:=by
 obtain ⟨ps,z⟩:=t.at_;exact a b o (sX e z (n ps)) e
theorem mZ.same {P:Addr}{pos:Pos}{qual:Str}{H H':Hp}(t:mZ P pos qual H)(s:aW H H'):mZ P pos qual H':=by
 rcases t with t | ⟨c,t,u⟩
 ·exact .inl (s _ _ t)
 ·exact .inr ⟨c,s _ _ t,s _ _ u⟩
theorem Bf {h h':Heap}{mg:Str->Option Value}{P:Addr}(b:h.BuiltinsAt mg P)(k:∀ a o,h.get? a=some o->h'.get? a=some o):h'.BuiltinsAt mg P:=by
 obtain ⟨bm,o,b1,b2,b3,b4,b5,b6⟩:=b;exact ⟨bm,o,b1,b2,b3,b4,k _ _ b5,b6⟩
theorem uL {c':Addr}{qual:Str}:∀ h1 h2:Heap,h1.CodeRec (.ref c') qual->(∀ o,h1.get? c'=some o->h2.get? c'=some o)->h2.CodeRec (.ref c') qual:=fun h1 h2 ⟨c,oc,vs,t,e,g,r⟩ k=>by
 cases e;exact ⟨_,oc,vs,t,rfl,k _ g,r⟩
section
variable {X:Cx}{pins:List (Addr×Obj)}{σ:St}{H:Hp}{s:Shared}{E:Value->Shared->Prop}{c P:Addr}{pos:Pos}{params:Arguments}{body:Expr}{scope:Scope}{Q:Value->Shared->Prop}
theorem GD (I:aQ X pins σ H s)(hcode:X.env.code=.ref c)(C:PySem.W.CodeHd X.base c P)(B:X.base.BuiltinsAt X.mg P)(T:mZ P pos (X.env.qual++"<lambda>") H)(S:bT X.env.scope scope)(hdef:defaultsOf params X.env=([],[]))
  (q:∀ f c' pm ctv H' s',j9 P H H'->O5 P pos (X.env.qual++"<lambda>") c' H'->aQ X (pins++[(f,PySem.W.kla_obj "<lambda>" (X.env.qual++"<lambda>") params body scope (cT X.env scope.names []) pm c' ctv)]) σ H' s'->Q (.ref f) s') :
  wpAny (model X.prog X.w) X.A (eval (.Lambda params body scope pos) X.env) Q E s:=by
 have hcl:=yX S I.ok;have hg:=I.ok.mod.glob.keeps I.bk;have hB:=Bf B I.bk;obtain ⟨ps0,hP0⟩:=T.at_;have hgP:mainGlobals≠P:=fun z=>by
  obtain ⟨o,es,ep,e,_⟩:=I.ok.mod.glob;have:=(I.bs _ o e).2;rw [z,hP0] at this;cases this
 refine PySem.W.kla_eval hdef ?_;rcases T with T | ⟨c',T,U⟩
 ·have hP:s.heap.get? P=some (PySem.W.tabObj #[]):=I.hok P _ T;refine PySem.W.kla_makeFunction (mg:=X.mg) hcl I.ok.glob hg hcode (C.keeps I.bk) hP trivial rfl hgP hB fun c' ctv h' tk hx hge hlt hrec htb=>?_;have cn:H c'=none:=I.hok.fresh hge;have cP:c'≠P:=Ne.symm (bB T cn);have new1:∀ b o,b≠P->s.heap.get? b=some o->(h'.push (PySem.W.kla_obj "<lambda>" (X.env.qual++"<lambda>") params body scope (cT X.env scope.names []) ((X.mg "__name__").getD .none) c' ctv)).get? b=some o:=fun b o hb e=>YK _ (hx b o hb e);have nP:∀ b,H b=none->b≠P:=fun b n z=>by rw [z,T] at n; cases n
  have ups:∀ b u,H b=some u->(∀ ps,u≠.tbl ps)->bN (bN H P (.tbl (KJ pos c'))) c' (wN c' (X.env.qual++"<lambda>")) b=some u:=fun b u e nt=>by
   rw [aO (bB e cn),aO (sX e T (nt _))]; exact e
  have hfresh:H h'.objs.size=none:=I.hok.fresh (Y7 hge (Yx hlt));have I1:aQ X pins σ (bN (bN H P (.tbl (KJ pos c'))) c' (wN c' (X.env.qual++"<lambda>"))) { s with heap:=h'.push (PySem.W.kla_obj "<lambda>" (X.env.qual++"<lambda>") params body scope (cT X.env scope.names []) ((X.mg "__name__").getD .none) c' ctv),toks:=tk }:=by
   refine I.un (t':=tk) ⟨fun b o e n _ _=>new1 b o (nP b n) e,fun b o e n _ _=>⟨o.slots,new1 b o (nP b n) e⟩,fun b o e n _=>?_,fun b o e _=>?_,fun b xs e=>ups b _ e (fun _ z=>nomatch z),fun b o u e=>ups b _ e (fun _ z=>nomatch z),fun b ps e=>?_⟩ fun b u e=>?_
   ·rw [aO (Yd (Yj (YX e) hge)),aO (nP b n)]; exact n
   ·by_cases z:b=P
    ·rw [z]; exact ⟨_,YK _ htb⟩
    ·exact ⟨o,new1 b o z e⟩
   ·by_cases z:b=P
    ·rw [z,T] at e;cases e;refine ⟨KJ pos c',?_⟩;rw [z,aO (Ne.symm cP),aC];simp
    ·exact ⟨#[],by rw [aO (bB e cn),aO z,e]; simp⟩
   ·by_cases z:b=c'
    ·subst z;rw [aC] at e;cases e;obtain ⟨c2,oc,vs,t,e2,g2,r2⟩:=hrec;cases e2;exact ⟨⟨_,oc,vs,t,rfl,YK _ g2,r2⟩,⟨oc,YK _ g2⟩,uL⟩
    ·rw [aO z] at e
     by_cases z2:b=P
     ·subst z2;rw [aC] at e;cases e;have q2:=YK (PySem.W.kla_obj "<lambda>" (X.env.qual++"<lambda>") params body scope (cT X.env scope.names []) ((X.mg "__name__").getD .none) c' ctv) htb;rw [Array.empty_append] at q2;exact q2
     ·rw [aO z2] at e;refine (I.hok b u e).stay (fun d v hd r=>new1 d v ?_ r) (fun d r=>ups d _ r fun _ z=>nomatch z) fun d xs r=>ups d _ r fun _ z=>nomatch z
      rcases hd with z3 | z3
      ·rw [z3]; exact z2
      ·exact sX z3 T fun z=>nomatch z
  refine q _ c' ((X.mg "__name__").getD .none) ctv _ _ (fun b o n e=>?_) ⟨?_,aC⟩ (I1.pins_of fun p hp=>?_)
  ·rw [aO (bB e cn),aO n]; exact e
  ·rw [aO (Ne.symm cP),aC]
  ·rcases Ye.mp hp with z | z
   ·exact I1.pin p (Yb _ z)
   ·rw [YT.mp z];have fp:=I.fpOk (H':=bN (bN H P (.tbl (KJ pos c'))) c' (wN c' (X.env.qual++"<lambda>"))) (b:=h'.objs.size) (Y7 hge (Yx hlt)) (by rw [aO (Z7 hlt),aO (nP _ hfresh)]; exact hfresh);exact ⟨YZ _ rfl,fp.1,fp.2.1,fp.2.2.1,fun v z=>nomatch z⟩
 ·have hP:s.heap.get? P=some (PySem.W.tabObj (KJ pos c')):=I.hok P _ T;have am:codeAmong pos (KJ pos c').toList=some (.ref c'):=by
   show codeAmong pos [rawInt pos.line,rawInt pos.col,.ref c']=some (.ref c');simp [codeAmong,rawInt]
  refine PySem.W.kla_makeFunctionHit (mg:=X.mg) hcl I.ok.glob hg hcode (C.keeps I.bk) hP trivial am hB fun ctv h' tk hk hsz=>?_;have I1:aQ X pins σ H { s with heap:=h'.push (PySem.W.kla_obj "<lambda>" (X.env.qual++"<lambda>") params body scope (cT X.env scope.names []) ((X.mg "__name__").getD .none) c' ctv),toks:=tk }:=I.kept (t':=tk) fun b o e=>YK _ (hk b o e);refine q _ c' ((X.mg "__name__").getD .none) ctv H _ (j9.refl H) ⟨T,U⟩ (I1.pins_of fun p hp=>?_);rcases Ye.mp hp with z | z
  ·exact I1.pin p (Yb _ z)
  ·rw [YT.mp z];have fp:=I.fpOk (H':=H) (b:=h'.objs.size) hsz (I.hok.fresh hsz);exact ⟨YZ _ rfl,fp.1,fp.2.1,fp.2.2.1,fun v z=>nomatch z⟩
end
theorem eN.okc {P:Program}{w:World}{K:PySem.W.Frag}{mg:Str->Option Value}{base:Heap}{x qual:Str}{st:Stmt}{f c:Addr}{fd:FuncData}{N ps:List Str}{k:Nat}{sp:Sp}(F:eN K x qual st f fd)(hc:fd.code=.ref c)(S:aY N ps (aN st))(len:∀ vs H Q E,sp vs H Q E->vs.length=ps.length)
  (hbody:∀ (A:Around) (outer:List Env) (s:Shared) (H:Hp) (vs:List V) (Q:VK) (E:XK),dJ k (A.deeper (envOfC qual (aN st) s.heap.objs.size f (.ref c)))->sp vs H Q E ->
   ∃ t,Aa (yW eE P w K mg base N qual (aN st) f (.ref c) A outer s H E).nox (dU st) t/\t { nx:=fun _ H'=>Q .non H',rt:=Q } (start N vs) H):bO P w K mg base eE (k+1) f fd ps sp:=by
 obtain ⟨oc,od,kV,doc,pm,an,cdv,ct,osl,rfl,lk,hcd⟩:=F.ex;cases (show cdv=Value.ref c from hc);refine JM lk hcd S len fun A outer s H vs Q E hr hsp=>?_;obtain ⟨t,h,q⟩:=hbody A outer s H vs Q E hr hsp;exact ⟨t,h.nox,q⟩
end L2
namespace L2
open PySem PySem.W
def ev {α:Type}:List α->List α
 | []=>[]
 | [a]=>[a]
 | a::_::r=>a::ev r
def od {α:Type}:List α->List α
 | []=>[]
 | [_]=>[]
 | _::b::r=>b::od r
def bt:Nat->List Obj->BT
 | 0,_=>.nil
 | _+1,[]=>.nil
 | n+1,o::r=>.node o (bt n (ev r)) (bt n (od r))
def sets (l:List Obj):List (Nat×Obj)->List Obj
 | []=>l
 | p::r=>sets (l.set p.1 p.2) r
noncomputable def xK (T:BT)(n k:Nat)(os:OsState):SharedT:=⟨T,n,{},aA3 [],boot_drawn,k,os⟩
theorem tV {tb:String->Option Builtin}{p:Program}{w:World}{m0:Nat}{ann:Option Value}{env:Env}{q:Pos}{n N:Nat}{s s':SharedT}{r:Shared}{l rest:List Stmt}{c:Code}{pos p':Pos}
  (h:segRunT tb p w m0 ann 1 n s (piecesOf l env c pos [topFrame q])=some (.next,s',c,p')) (k:topRun tb p w m0 ann N s'.abs (restOf rest env c p' [topFrame q])=some r):topRun tb p w m0 ann (n+N) s.abs (restOf (l++rest) env c pos [topFrame q])=some r :=
 piece_app (segRun_of h) k
theorem Ed {p q:Program}{loose:List Str}{Xt:Shared->Bool}{α:Type}{Yf:Shared->α}{Ya:World->α}{N:Nat}{Tb Tf:Params->BT}{nb nf ka kf:Nat}{env:Env}{C:Code}{gs:List Stmt}{posA posB qp:Pos}{m0:Nat}{ann:Option Value}{a b c:Nat}
  (e1:opening p=plainProg p.main.scope.names) (h6:Nat.ble 600 N=true) (e2:∀ s,fenceModules? p s=some s)
  (size:∀ w:World,((boot_heap w.params).isNs mainGlobals&&(aA3 []:Array GenState).size==0,(boot_heap w.params).objs.size,(boot_heap w.params).nsMap mainGlobals "__annotations__")=(true,m0,ann))
  (pre:∀ (w:World) (os:OsState),topGo treeTable p w m0 ann a ⟨boot_heap w.params,aA3 [],boot_drawn,boot_toks,os⟩ (topStub p)=some ((xK (Tb w.params) nb ka os).abs,⟨denote treeTable (.body gs env),C,posA,[topFrame qp]⟩))
  (blk:∀ (w:World) (os:OsState),segRun treeTable p w m0 ann 1 b (xK (Tb w.params) nb ka os).abs (blockOf gs env C posA [topFrame qp])=some (.next,(xK (Tb w.params) nb ka os).abs,C,posB))
  (run:∀ (w:World) (os:OsState),topRun treeTable p w m0 ann c (xK (Tb w.params) nb ka os).abs (restOf gs env C posB [topFrame qp])=some (xK (Tf w.params) nf kf os).abs)
  (le:Nat.ble (a+(b+c)) N=true)
  (looks:∀ w:World,(fun os=>((staticsOk (importedModules p.main.body) (boot_heap w.params) (absHeap (Tf w.params) nf {})&&namesBound p (absHeap (Tf w.params) nf {})&&gensDone ⟨absHeap (Tf w.params) nf {},aA3 [],boot_drawn,kf,os⟩&&laidKept (boot_heap w.params) (absHeap (Tf w.params) nf {})),
    openSeen q loose (importedModules p.main.body) Xt true ⟨absHeap (Tf w.params) nf {},aA3 [],boot_drawn,kf,os⟩,Yf ⟨absHeap (Tf w.params) nf {},aA3 [],boot_drawn,kf,os⟩))=fun _=>(true,openGood q loose,Ya w)):LeftO p q loose Xt Yf Ya N :=
 LeftO.of_pieces (H₁:=fun P=>absHeap (Tf P) nf {}) (boot_open e1 h6 e2) size (fun w os=>go_top (pre w os) (piece_block (blk w os) (run w os))) le looks
end L2
namespace L2
open PySem PySem.Spec PyProof.Rows
inductive DE (K:PySem.W.Frag)(H:Hp):Nat->V->V->Bool->Prop
 | int (n:Nat) (i j:Int):DE K H n (.int i) (.int j) (i==j)
 | bl (n:Nat) (i j:Bool):DE K H n (.bl i) (.bl j) (i==j)
 | str (n:Nat) (i j:Str):DE K H n (.str i) (.str j) (i==j)
 | tup {n:Nat}{a b:Addr}{xs ys:List V} (e:Nat->Bool) (ha:dB K H a xs) (hb:dB K H b ys) (h:∀ (j:Nat) x y,xs[j]? = some x->ys[j]? = some y->DE K H n x y (e j)) :
   DE K H (n+1) (.ref a) (.ref b) ((Zi (min xs.length ys.length)).all e&&xs.length==ys.length)
 | lst {n:Nat}{a b:Addr}{xs ys:List V} (e:Nat->Bool) (ha:bJ K H a xs) (hb:bJ K H b ys) (hl:xs.length=ys.length) (h:∀ (j:Nat) x y,xs[j]? = some x->ys[j]? = some y->DE K H n x y (e j)) :
   DE K H (n+1) (.ref a) (.ref b) ((Zi xs.length).all e)
 | lstN {n:Nat}{a b:Addr}{xs ys:List V} (ha:bJ K H a xs) (hb:bJ K H b ys) (hl:xs.length≠ys.length):DE K H (n+1) (.ref a) (.ref b) false
section
variable {X:Cx}{pins:List (Addr×Obj)}{σ:St}{H:Hp}{s:Shared}
theorem DE.self (I:aQ X pins σ H s){n:Nat}{x y:V}{k:Bool}(d:DE X.K H n x y k):x=y->k=true:=by
 induction d with
 | int n i j=>intro e; cases e; simp
 | bl n i j=>intro e; cases e; simp
 | str n i j=>intro e; cases e; simp
 | @tup n a b xs ys e ha hb h ih =>
  intro z;cases z;have q:=I.tuple_inj ha hb;subst q;rw [Yh];refine ⟨Z0.mpr fun j hj=>?_,by simp⟩;rw [ZZ,Nat.min_self] at hj;exact ih j _ _ (YL hj) (YL hj) rfl
 | @lst n a b xs ys e ha hb hl h ih =>
  intro z;cases z;have q:=I.list_inj ha hb;subst q;refine Z0.mpr fun j hj=>?_;rw [ZZ] at hj;exact ih j _ _ (YL hj) (YL hj) rfl
 | @lstN n a b xs ys ha hb hl =>
  intro z;cases z;exact absurd (congrArg aBF (I.list_inj ha hb)) hl
theorem dD {xs:List V}{its:List Value}(r:bL xs its){j:Nat}(hj:j<its.length):∃ x,xs[j]? = some x/\RelV x its[j]:=by
 have hl:=r.length;obtain ⟨u,hu,ru⟩:=r.get (YL (l:=xs) (i:=j) (by omega));rw [YL hj] at hu;cases hu;exact ⟨_,YL (by omega),ru⟩
theorem in1_units (A:Around):A.in1.units=A.units+1:=rfl
theorem DE.eqAt (I:aQ X pins σ H s){n:Nat}{x y:V}{k:Bool}(d:DE X.K H n x y k):∀ (A:Around) (u v:Value),A.units+n<cLine->RelV x u->RelV y v->PySem.SeqAt.EqAt A s u v k:=by
 induction d with
 | int n i j =>
  intro A u v _ ru rv;obtain ⟨t,rfl⟩:=ru;obtain ⟨t',rfl⟩:=rv;exact PySem.SeqAt.EqAt.int_int _ _ _ _
 | bl n i j =>
  intro A u v _ ru rv;cases (show u=Value.bool i from ru);cases (show v=Value.bool j from rv);exact PySem.SeqAt.EqAt.bool_bool _ _
 | str n i j =>
  intro A u v _ ru rv;obtain ⟨t,rfl⟩:=ru;obtain ⟨t',rfl⟩:=rv;exact PySem.SeqAt.EqAt.str_str _ _ _ _
 | @tup n a b xs ys e ha hb h ih =>
  intro A u v hu ru rv;cases (show u=Value.ref a from ru);cases (show v=Value.ref b from rv)
  by_cases hab:a=b
  ·have q:=(DE.tup e ha hb h).self I (by rw [hab]);rw [q];subst hab;exact PySem.SeqAt.EqAt.same _
  ·obtain ⟨its,r1,p1,_⟩:=I.tuple ha;obtain ⟨its2,r2,p2,_⟩:=I.tuple hb;refine PySem.SeqAt.EqAt.of_refs hab ?_;have q:=PySem.SeqAt.RcAt.tuples (A:=A) (e:=e) (show s.heap.IsTuple a its.toArray from p1) (show s.heap.IsTuple b its2.toArray from p2) (by omega) (fun j h1 h2=>by
    obtain ⟨x,ex,rx⟩:=dD r1 (j:=j) (by simpa using h1);obtain ⟨y,ey,ry⟩:=dD r2 (j:=j) (by simpa using h2);rw [Ys,Ys];exact ih j x y ex ey A.in1 _ _ (by rw [in1_units]; omega) rx ry)
   rw [YM,YM,<- r1.length,<- r2.length] at q;exact q
 | @lst n a b xs ys e ha hb hl h ih =>
  intro A u v hu ru rv;cases (show u=Value.ref a from ru);cases (show v=Value.ref b from rv)
  by_cases hab:a=b
  ·have q:=(DE.lst e ha hb hl h).self I (by rw [hab]);rw [q];subst hab;exact PySem.SeqAt.EqAt.same _
  ·obtain ⟨its,r1,p1,_⟩:=I.list ha;obtain ⟨its2,r2,p2,_⟩:=I.list hb;refine PySem.SeqAt.EqAt.of_refs hab ?_;have q:=PySem.SeqAt.RcAt.lists (A:=A) (e:=e) p1.isList p2.isList (by rw [YM,YM,<- r1.length,<- r2.length]; exact hl) (by omega) (fun j h1 h2=>by
    obtain ⟨x,ex,rx⟩:=dD r1 (j:=j) (by simpa using h1);obtain ⟨y,ey,ry⟩:=dD r2 (j:=j) (by simpa using h2);rw [Ys,Ys];exact ih j x y ex ey A.in1 _ _ (by rw [in1_units]; omega) rx ry)
   rw [YM,<- r1.length] at q;exact q
 | @lstN n a b xs ys ha hb hl =>
  intro A u v hu ru rv;cases (show u=Value.ref a from ru);cases (show v=Value.ref b from rv);have hab:a≠b:=fun z=>by subst z; exact hl (congrArg aBF (I.list_inj ha hb))
  obtain ⟨its,r1,p1,_⟩:=I.list ha;obtain ⟨its2,r2,p2,_⟩:=I.list hb;refine PySem.SeqAt.EqAt.of_refs hab (PySem.SeqAt.RcAt.lists_lengths p1.isList p2.isList ?_ (by omega));rw [YM,YM,<- r1.length,<- r2.length]
  simpa using hl
def QW (K:PySem.W.Frag)(n:Nat):R2:=fun x y H Q=>∃ a b k,x=.ref a/\y=.ref b/\DE K H (n+1) x y k/\Q (.bl k) H
def R0 (K:PySem.W.Frag)(n:Nat):R2:=fun x y H Q=>∃ a b k,x=.ref a/\y=.ref b/\DE K H (n+1) x y k/\Q (.bl (!k)) H
theorem Eh {n:Nat}(hu:X.A.units+n+1<cLine):kE X (compareOp .Eq) (QW X.K n):=by
 intro pins s σ H x y v u Q I rx ry h;obtain ⟨a,b,k,rfl,rfl,d,q⟩:=h;cases (show v=Value.ref a from rx);cases (show u=Value.ref b from ry);cases d with
 | @tup n a b xs ys e ha hb h =>
  obtain ⟨its,r1,p1,_⟩:=I.tuple ha;obtain ⟨its2,r2,p2,_⟩:=I.tuple hb;refine PySem.SeqAt.eq_tupleAt (e:=e) (show s.heap.IsTuple a its.toArray from p1) (show s.heap.IsTuple b its2.toArray from p2) (by omega) (fun j h1 h2=>by
    obtain ⟨x,ex,rx⟩:=dD r1 (j:=j) (by simpa using h1);obtain ⟨y,ey,ry⟩:=dD r2 (j:=j) (by simpa using h2);rw [Ys,Ys];exact (h j x y ex ey).eqAt I X.A.in1 _ _ (by rw [in1_units]; omega) rx ry) ?_
  rw [YM,YM,<- r1.length,<- r2.length];exact ⟨.bl _,H,I,rfl,q⟩
 | @lst n a b xs ys e ha hb hl h =>
  obtain ⟨its,r1,p1,_⟩:=I.list ha;obtain ⟨its2,r2,p2,_⟩:=I.list hb;refine PySem.SeqAt.eq_listAt (e:=e) p1.isList p2.isList (by rw [YM,YM,<- r1.length,<- r2.length]; exact hl) (by omega) (fun j h1 h2=>by
    obtain ⟨x,ex,rx⟩:=dD r1 (j:=j) (by simpa using h1);obtain ⟨y,ey,ry⟩:=dD r2 (j:=j) (by simpa using h2);rw [Ys,Ys];exact (h j x y ex ey).eqAt I X.A.in1 _ _ (by rw [in1_units]; omega) rx ry) ?_
  rw [YM,<- r1.length];exact ⟨.bl _,H,I,rfl,q⟩
 | @lstN n a b xs ys ha hb hl =>
  obtain ⟨its,r1,p1,_⟩:=I.list ha;obtain ⟨its2,r2,p2,_⟩:=I.list hb;exact PySem.SeqAt.eq_list_lengthsAt p1.isList p2.isList (by rw [YM,YM,<- r1.length,<- r2.length]; simpa using hl) (by omega) ⟨.bl _,H,I,rfl,q⟩
theorem Eu {n:Nat}(hu:X.A.units+n+1<cLine):kE X (compareOp .NotEq) (R0 X.K n):=by
 intro pins s σ H x y v u Q I rx ry h;obtain ⟨a,b,k,rfl,rfl,d,q⟩:=h;cases (show v=Value.ref a from rx);cases (show u=Value.ref b from ry);cases d with
 | @tup n a b xs ys e ha hb h =>
  obtain ⟨its,r1,p1,_⟩:=I.tuple ha;obtain ⟨its2,r2,p2,_⟩:=I.tuple hb;refine PySem.SeqAt.RcNeAt.tuples (e:=e) (show s.heap.IsTuple a its.toArray from p1) (show s.heap.IsTuple b its2.toArray from p2) (by omega) (fun j h1 h2=>by
    obtain ⟨x,ex,rx⟩:=dD r1 (j:=j) (by simpa using h1);obtain ⟨y,ey,ry⟩:=dD r2 (j:=j) (by simpa using h2);rw [Ys,Ys];exact (h j x y ex ey).eqAt I X.A.in1 _ _ (by rw [in1_units]; omega) rx ry) X.prog X.w _ _ ?_
  rw [YM,YM,<- r1.length,<- r2.length];exact ⟨.bl _,H,I,rfl,q⟩
 | @lst n a b xs ys e ha hb hl h =>
  obtain ⟨its,r1,p1,_⟩:=I.list ha;obtain ⟨its2,r2,p2,_⟩:=I.list hb;refine PySem.SeqAt.RcNeAt.lists (e:=e) p1.isList p2.isList (by rw [YM,YM,<- r1.length,<- r2.length]; exact hl) (by omega) (fun j h1 h2=>by
    obtain ⟨x,ex,rx⟩:=dD r1 (j:=j) (by simpa using h1);obtain ⟨y,ey,ry⟩:=dD r2 (j:=j) (by simpa using h2);rw [Ys,Ys];exact (h j x y ex ey).eqAt I X.A.in1 _ _ (by rw [in1_units]; omega) rx ry) X.prog X.w _ _ ?_
  rw [YM,<- r1.length];exact ⟨.bl _,H,I,rfl,q⟩
 | @lstN n a b xs ys ha hb hl =>
  obtain ⟨its,r1,p1,_⟩:=I.list ha;obtain ⟨its2,r2,p2,_⟩:=I.list hb;exact PySem.SeqAt.RcNeAt.lists_lengths p1.isList p2.isList (by rw [YM,YM,<- r1.length,<- r2.length]; simpa using hl) (by omega) X.prog X.w _ _ ⟨.bl _,H,I,rfl,q⟩
end
section
variable {X:Cx}
theorem FP (hc:X.calm=true):cN X (.builtin "sum") (fun xs H Q=>∃ (a:Addr) (ns:List Int),xs=[.ref a]/\bJ X.K H a (ns.map V.int)/\Q (.int ns.sum) H):=by
 intro pins s σ H xs us Q I r h;obtain ⟨a,ns,rfl,hS,q⟩:=h;obtain ⟨u,rfl,ru⟩:=vals1 r;cases (show u=Value.ref a from ru);obtain ⟨its,rv,p,hz⟩:=I.list hS;have hi:=intsAre_of rv;obtain ⟨zs,e⟩:=(IntsAre.allInts hi).items;have hl:=p.isList;rw [e] at hl;refine sum_intListG (I.ok.hd hc) hl fun h' tk t' hk=>⟨.int ns.sum,H,I.kept hk,⟨t',?_⟩,q⟩
 have n1:=nums_intItems (xs:=zs);rw [<- e,show its.toArray.toList=its from rfl,IntsAre.numsOf hi] at n1;rw [preSum_eq,Zk (by simp),<- n1]
def HX:V->List V->Hp->VK->Prop:=fun x vs H Q=>∃ l xs i y,x=.ref l/\vs=[.int i,y]/\H l=some (.lst xs)/\0<=i/\i<=(xs.length:Int)/\xs.length<sizeLine/\Q .non (bN H l (.lst (xs.take i.toNat++y::xs.drop i.toNat)))
theorem BP:Pa X "list.insert" HX:=by
 intro pins s σ H x vs v us Q I rx rv h;obtain ⟨l,xs,i,y,rfl,rfl,hH,h0,h1,hz,q⟩:=h;cases (show v=Value.ref l from rx);obtain ⟨u1,u2,rfl,⟨t,rfl⟩,r2⟩:=vals2 rv;obtain ⟨z,its,n,r,hl,e⟩:=I.lstM hH;have hs:sizeLine=16777216:=sizeLine_eq;have fit:¬ (!Builtin.List.listFitsIndex i)=true:=by
  unfold Builtin.List.listFitsIndex;have a1:decide (-(2^63:Int)<=i)=true:=decide_eq_true (by omega);have a2:decide (i<2^63)=true:=decide_eq_true (by omega);rw [a1,a2]
  decide
 refine call_meets F.slot_list_insert ⟨_,e,rfl⟩ F.entry_list_insert (F.args_list_insert_3 _ _ _) (PySem.AutoListH.list_insert_list_int_val_1 l its.toArray n i t u2 fit (by rw [YM]; omega)) ⟨e,?_⟩;have fe:(fun zs:Array Value=>have k:=if i<0 then (i+((zs.size:Nat):Int)).toNat else min i.toNat zs.size; (zs.extract 0 k).push u2++zs.extract k) its.toArray=(its.take i.toNat++u2::its.drop i.toNat).toArray:=by
  have k1:¬ i<0:=by omega
  have k2:min i.toNat its.length=i.toNat:=by omega
  have k3:(its.drop i.toNat).take (its.length-i.toNat)=its.drop i.toNat:=Zk (by simp);simp [k1,k2,k3]
 refine ⟨.non,_,I.lset (f:=fun zs:Array Value=>have k:=if i<0 then (i+((zs.size:Nat):Int)).toNat else min i.toNat zs.size; (zs.extract 0 k).push u2++zs.extract k) hH e fe ((r.take i.toNat).append (.cons r2 (r.drop i.toNat))) ?_,rfl,q⟩;rw [Y4,ZP,Yw,Z8];omega
theorem xA:bootBuiltins "reversed" = some (.type "reversed"):=by decide +kernel
end
theorem Al {X:Cx}{K:PySem.W.Frag}(h:X.K=K):Lq X (Kv K):=by subst h; exact b8
theorem mF {X:Cx}{K:PySem.W.Frag}(h:X.K=K):Lq X (Od K):=by subst h; exact cI
theorem HS {X:Cx}{K:PySem.W.Frag}(hK:X.K=K){pos:Pos}{es:List Expr}{k:Nat}{t:JD}{n:Nat}(hc:X.calm=true)(h:NZ X es t)
  (hn:(assignEach es X.env).length=n:=by rfl) (hst:(assignEach es X.env).findIdx? (·.1)=none:=by rfl):PG X (.Tuple es k pos) (Nt K n t):=by
 subst hK;exact yJ hc h hn hst
theorem Bl {Pg:Program}{w:World}{K:PySem.W.Frag}{mg mb:Str->Option Value}{CX:vY}{k:Nat}{fa a P c:Addr}{fd:FuncData}{x:Str}{sp:Sp}{s₁:Shared}{vs:List Value}{ns:List Int}
  (KX:K.In s₁.heap) (hns:s₁.heap.Ns mainGlobals mg) (hb:s₁.heap.Ns builtinsNs mb) (hbb:∀ x:Str,x≠"__name__" -> mb x=bootBuiltins x) (hlim:s₁.heap.NoLimit) (hg:s₁.gens = #[])
  (ha:s₁.heap.get? a=some { cls:=.type "list",data:=.seq vs.toArray }) (hi:IntsAre vs ns) (hl:ns.length<=sizeLine) (hr:dJ k callerA)
  (hP:s₁.heap.get? P=some (PySem.W.tabObj #[])) (hC:PySem.W.CodeHd s₁.heap c P) (hB:∃ bm ob,mg "__builtins__" = some (.ref bm)/\bm≠builtinsNs/\s₁.heap.get? bm=some ob/\ob.cls=.type "module"/\ob.dict=some builtinsNs/\ob.data=.plain)
  (hKP:K.lookup P=none) (hCK:∀ h,K.In h->PySem.W.CodeHd h c P)
  (F:∀ base:Heap,K.In base->base.Ns mainGlobals mg->PySem.W.CodeHd base c P->base.BuiltinsAt mg P->bO Pg w K mg base CX k fa fd [x] sp) (hbind:∀ (s:Shared) (u:Value),BindsTo s fd ⟨[u],[]⟩ [(x,u)])
  (hsp:∀ H:Hp,H P=some (.tbl #[])->bJ K H a (ns.map V.int)->sp [.ref a] H (fun v _=>v=.bl true) fun _ _ _=>False)
  (hCX:∀ H e s',CX [] H s₁ (fun _ _ _=>False) e s'->False) :
  codeAny (model Pg w) callerA (.call (.ref fa) ⟨[.ref a],[]⟩) (fun r s'=>r=.ok (.ret (.bool true))/\OldK s₁.heap s'.heap/\s'.os=s₁.os/\AllBare s'.gens) s₁:=by
 have rv:=gC hi;have lenV:=hi.length;have haP:a≠P:=fun z=>by rw [z,hP] at ha; cases ha
 have core:∀ H:Hp,H P=some (.tbl #[])->(∀ b,b≠P->H b=none∨∃ xs,b=a/\H b=some (.frz { cls:=.type "list",data:=.seq vs.toArray } (.lst xs)))->bJ K H a (ns.map V.int)->oY Pg w H s₁.heap->(H a≠none->K.lookup a=none) ->
   codeAny (model Pg w) callerA (.call (.ref fa) ⟨[.ref a],[]⟩) (fun r s'=>r=.ok (.ret (.bool true))/\OldK s₁.heap s'.heap/\s'.os=s₁.os/\AllBare s'.gens) s₁:=by
  intro H hHP hO hS hok hK;have base_of:∀ {b:Addr}{o:Obj},s₁.heap.get? b=some o->H b=none->(qT s₁.heap H).get? b=some o:=fun e n=>Fi e n;have free:∀ {b:Addr}{o:Obj},s₁.heap.get? b=some o->(∀ xs n,o.data≠.seq xs n)->b≠P->H b=none:=fun {b o} e d nP=>by
   rcases hO b nP with z | ⟨xs,z,_⟩
   ·exact z
   ·rw [z,ha] at e;cases e;exact absurd rfl (d _ _)
  have ndP:∀ {b:Addr}{o:Obj}{es:Array DictEntry}{ep:Nat},s₁.heap.get? b=some o->o.data=.dict es ep->b≠P:=fun {b o es ep} e d z=>by
   rw [z,hP] at e;cases e;have d':Data.fields #[]=Data.dict es ep:=d;cases d'
  have nsK:∀ {b:Addr}{m:Str->Option Value},s₁.heap.Ns b m->(qT s₁.heap H).Ns b m:=fun {b m} ⟨o,es,ep,e,d,r⟩=>⟨o,es,ep,base_of e (free e (fun xs n z=>by rw [d] at z; cases z) (ndP e d)),d,r⟩
  have hKb:K.In (qT s₁.heap H):=fun b o e=>base_of (KX b o e) (by
   by_cases z:b=P
   ·rw [z,hKP] at e; cases e
   ·rcases hO b z with q | ⟨xs,q,r⟩
    ·exact q
    ·subst q;rw [hK (by rw [r]; simp)] at e; cases e)
  have hM:Mod K mg (qT s₁.heap H):=⟨hKb,nsK hns,⟨mb,nsK hb,hbb⟩,let ⟨mc,h1,h2⟩:=hlim; ⟨mc,nsK h1,h2⟩⟩
  have e0:zA Pg w K mg (qT s₁.heap H) callerA [] s₁ H:=⟨rfl,hM,fun b o e=>IW e,aAN (CV _ _),trivial,fun b hb=>absurd (show b∈([]:List Addr) from hb) (by simp),hok,.of_eq hg⟩
  have hBA:(qT s₁.heap H).BuiltinsAt mg P:=by
   obtain ⟨bm,ob,b1,b2,b3,b4,b5,b6⟩:=hB;have nP:bm≠P:=fun z=>by rw [z,hP] at b3; cases b3; cases b4
   have nG:bm≠mainGlobals:=fun z=>by
    obtain ⟨o,es,ep,e,d,_⟩:=hns;rw [z,e] at b3;cases b3;rw [d] at b6;cases b6
   exact ⟨bm,ob,b1,b2,nG,nP,base_of b3 (free b3 (fun xs n z=>by rw [b6] at z; cases z) nP),b4,b5,b6⟩
  refine codeAny_mono ((F _ hKb (nsK hns) (hCK _ hKb) hBA).run callerA [] s₁ H ⟨[.ref a],[]⟩ [.ref a] [.ref a] _ _ hr e0 (hbind s₁ (.ref a)) (.cons rfl .nil) (hsp H hHP hS)) fun r s' h=>?_;cases r with
  | error e=>exact (hCX H e s' h).elim
  | ok fl =>
   cases fl with
   | next=>exact False.elim h
   | brk=>exact False.elim h
   | cont=>exact False.elim h
   | ret u =>
    obtain ⟨v,H',os,bare,un,hok',r',q⟩:=h;have q':v=.bl true:=q;subst q';obtain rfl:u=Value.bool true:=r';have keep:∀ b o,b≠P->s₁.heap.get? b=some o->s'.heap.get? b=some o:=fun b o nP e=>by
     rcases hO b nP with z | ⟨xs,z1,z⟩
     ·exact un.keep b o e z (by intro z; exact absurd (show b∈([]:List Addr) from z) (by simp)) (by simp)
     ·obtain ⟨e1,_⟩:=hok b _ z;obtain ⟨e2,_⟩:=hok' b _ (un.frzs b _ _ z);rw [e] at e1; cases e1;exact e2
    obtain ⟨more,hm⟩:=un.tbls P #[] hHP;have hP':s'.heap.get? P=some { cls:=.none,data:=.fields (#[]++more) }:=hok' P _ hm;refine ⟨rfl,⟨fun b o e=>?_,fun b o e=>?_⟩,os,bare⟩
    ·by_cases z:b=P
     ·subst z;rw [hP] at e;cases e;exact .inr (.inl ⟨(hC.tab hP).isCodeTable,rfl,#[],more,rfl,hP'⟩)
     ·exact .inl (keep b o z e)
    ·by_cases z:b=P
     ·subst z; exact ⟨_,hP'⟩
     ·exact ⟨o,keep b o z e⟩
 cases hk:K.lookup a with
 | some o =>
  have e:=KX a o hk;rw [ha] at e;cases e;refine core (fun b=>if b=P then some (.tbl #[]) else none) (if_pos rfl) (fun b z=>.inl (if_neg z)) (.inr ⟨_,vs.toArray,_,hk,rfl,rfl,rfl,by rw [YM,lenV]; exact hl,by simpa using rv⟩) (fun b u z=>?_) fun z=>absurd (if_neg haP) z
  by_cases hb:b=P
  ·have z':=(if_pos hb).symm.trans z;cases z';subst hb;exact hP
  ·have z':=(if_neg hb).symm.trans z;cases z'
 | none =>
  refine core (fun b=>if b=P then some (.tbl #[]) else if b=a then some (.frz { cls:=.type "list",data:=.seq vs.toArray } (.lst (ns.map V.int))) else none) (if_pos rfl) (fun b z=>?_) (.inl (.inr ⟨{ cls:=.type "list",data:=.seq vs.toArray },(if_neg haP).trans (if_pos rfl)⟩)) (fun b u z=>?_) fun _=>hk
  ·by_cases hb:b=a
   ·exact .inr ⟨_,hb,(if_neg z).trans (if_pos hb)⟩
   ·exact .inl ((if_neg z).trans (if_neg hb))
  ·by_cases hb:b=P
   ·have z':=(if_pos hb).symm.trans z;cases z';subst hb;exact hP
   ·have z1:=(if_neg hb).symm.trans z
    by_cases hb2:b=a
    ·have z':=(if_pos hb2).symm.trans z1;cases z';subst hb2;exact ⟨ha,by rw [YQ]; exact hl,vs,_,rv,ha⟩
    ·have z':=(if_neg hb2).symm.trans z1;cases z'
theorem GC {l:PySem.W.OpenLaw}{n k:Nat}{q:Program}{loose:List Str}{XP:(Str->Option Value)->Heap->Prop}{YP:World->Heap->Prop}{d d0:DefRec}{K:Params->PySem.W.Frag}{CX:World->vY}{sp:World->Addr->Sp}{x x0:Str}
  (hn:l.most=some n) (hn2:n<=sizeLine) (hdf:d.params.defaults=[]) (hr:dJ k callerA)
  (h0:(recsOf q).find? (fun e=>e.name==x0)=some d0)
  (hY:∀ (w:World) (h:Heap),YP w h->(K w.params).In h)
  (F:∀ (w:World) (mg:Str->Option Value) (fa:Addr) (h:Heap),(K w.params).In h->h.Ns mainGlobals mg->mg d.name=some (.ref fa) ->
   ∃ (fd:FuncData) (c P:Addr),(∀ (s:Shared) (u:Value),BindsTo s fd ⟨[u],[]⟩ [(x,u)])/\PySem.W.tabIn (K w.params) x0=some (c,P)/\PySem.W.codeHdIn (K w.params) c P=true/\(K w.params).lookup P=none ∧
    ∀ base:Heap,(K w.params).In base->base.Ns mainGlobals mg->PySem.W.CodeHd base c P->base.BuiltinsAt mg P->bO l.prog w (K w.params) mg base (CX w) k fa fd [x] (sp w P))
  (hsp:∀ (w:World) (H:Hp) (a P:Addr) (ns:List Int),ns.length<=n->H P=some (.tbl #[])->bJ (K w.params) H a (ns.map V.int)->sp w P [.ref a] H (fun v _=>v=.bl true) fun _ _ _=>False)
  (hCX:∀ (w:World) (H:Hp) (s:Shared) (e:Value) (s':Shared),CX w [] H s (fun _ _ _=>False) e s'->False) :
  PySem.W.WalkO q loose XP YP l.row.toRowW d [] (fun f vs=>PySem.call f vs):=by
 refine Att.wQ hn hdf fun w s₀ s₁ mg mb fa o pm cd doc a vs ns G Y ho hd hcd hmg hobj hints hlen hg=>?_;have KX:=hY w _ Y;obtain ⟨fd,c,P,hb,ht,hcd,hkp,hF⟩:=F w mg fa _ KX G.T.g hmg;obtain ⟨hC,hP⟩:=PySem.W.tab_of G.T KX h0 ht;exact Bl KX G.T.g G.T.b G.T.builtins G.T.nolimit hg hobj hints (Y7 hlen hn2) hr hP hC G.T.bmain hkp (fun h X=>PySem.W.codeHd_of_K X hcd) hF hb (fun H hO hS=>hsp w H a P ns hlen hO hS) fun H e s'=>hCX w H s₁ e s'
theorem BK {X:Cx}(hc:X.calm=true):cN X (.builtin "max") (fun xs H Q=>∃ (a:Addr) (ns:List Int),xs=[.ref a]/\bJ X.K H a (ns.map V.int)/\ns≠[]/\∀ M,M∈ns->(∀ n∈ns,n<=M)->Q (.int M) H):=by
 intro pins s σ H xs us Q I r h;obtain ⟨a,ns,rfl,hS,hne,q⟩:=h;obtain ⟨u,rfl,ru⟩:=vals1 r;cases (show u=Value.ref a from ru);obtain ⟨its,rv,p,hz⟩:=I.list hS;have hi:=intsAre_of rv;obtain ⟨zs,e⟩:=(IntsAre.allInts hi).items;have hl:=p.isList;rw [e] at hl;have hns:ns=zs.toList.map (·.1):=by
  have n1:=nums_intItems (xs:=zs);rw [<- e,show its.toArray.toList=its from rfl,IntsAre.numsOf hi] at n1;exact n1
 have hsz:0<zs.size:=by
  rcases aBq zs.size with z | z
  ·exfalso;apply hne;rw [hns];have:zs = #[]:=Array.eq_empty_of_size_eq_zero z;rw [this]
   rfl
  ·exact z
 refine max_intList (I.ok.hd hc) hl hsz fun v h' tk hv hk=>?_;obtain ⟨t,rfl⟩:=intItems_at hv;obtain ⟨h1,h2⟩:=argBest_gt (numAt zs) (zs.size-1);refine ⟨.int _,H,I.kept hk,⟨t,rfl⟩,q _ ?_ fun n hn=>?_⟩
 ·rw [hns,numAt_eq]; exact getD_mem (by rw [YQ,YW]; omega)
 ·rw [hns] at hn;obtain ⟨j,hj,rfl⟩:=mem_getD hn;rw [YQ,YW] at hj;rw [<- numAt_eq]; exact h2 j (by omega)
end L2
namespace Fr
theorem Fo (a b:Int):aAV b (a.fmod b)=aAV a b:=by
 rw [aBu,Int.gcd_sub_mul_left_right,Int.gcd_comm]
theorem BZ {a b:Int}(hb:b≠0):(a.fmod b).natAbs<b.natAbs:=by
 rcases Int.lt_or_gt_of_ne hb with h | h
 ·have e:a.fmod b = -((-a).fmod (-b)):=by
   rw [aBu,aBu,Int.neg_fdiv_neg,Int.neg_mul];omega
  have h1:=aA6 (-a) (show (0:Int) < -b by omega);have h2:=aBr (-a) (show (0:Int) < -b by omega);omega
 ·have h1:=aA6 a h;have h2:=aBr a h;omega
structure Mu (t b:Int):Prop where
 pos:0<b
 red:aAV t b=1
end Fr
namespace Tb
structure Rw where
 t:Int
 b:Int
 w:Int
def T (B:Int)(r:Rw):Int:=r.t*(B/r.b)
def mx (x:Int):Int:=if 0<x then x else 0
def S (B l0 l1:Int)(rs:List Rw):Int:=(rs.map fun r=>r.w*mx (T B r*l1-l0*B)).sum
def W (rs:List Rw):Int:=(rs.map (·.w)).sum
def Lt (x y:Rw):Prop:=x.t*y.b<y.t*x.b
end Tb
set_option maxHeartbeats 4000000
namespace TD
open PySem L2
open Builtin.Int (intBits)
structure Row where
 p:Addr
 q:Addr
 t:Int
 b:Int
 w:Int
def Row.r (x:Row):Tb.Rw:=⟨x.t,x.b,x.w⟩
def Ue (xs:List Row):List Tb.Rw:=xs.map Row.r
theorem take_snoc {α:Type}{xs:List α}{i:Nat}{x:α}(h:xs[i]? = some x):xs.take (i+1)=xs.take i++[x]:=by
 rw [aAW,h]
 rfl
theorem Px:1<=sizeLine:=Yx (aP (by decide))
theorem GQ:2<=sizeLine:=Yx (aP (by decide))
theorem Uo:3<=sizeLine:=Yx (aP (by decide))
theorem oU {m n:Nat}{x y:Int}(hx:intBits x<=m)(hy:intBits y<=n)(h:m+n<=134217728):JZ x y:=Y7 (Nat.add_le_add hx hy) h
theorem lN {K:PySem.W.Frag}(T:String):PySem.W.kitOne K (.type T) (.type T)=some true:=by
 unfold PySem.W.kitOne;rw [if_pos (beq_self_eq_true _)]
theorem u5 {K:PySem.W.Frag}:PySem.W.kitOne K (.type "int") (.type "bool")=some false:=by rfl
theorem K8 {A B:Prop}(h:if true=true then A else B):A:=by simpa using h
theorem Kf {A B:Prop}(h:if false=true then A else B):B:=by simpa using h
end TD
namespace L2
open PySem PySem.Spec PyProof.Rows
theorem j4 {X:Cx}{K:PySem.W.Frag}(h:X.K=K):cN X (.type "list") (fun xs H Q=>∃ p ys,xs=[.ref p]/\(bJ K H p ys∨dB K H p ys)/\∀ l,H l=none->Q (.ref l) (bN H l (.lst ys))):=by subst h; exact iD
end L2
namespace TD
open PySem L2
open Builtin.Int (intBits)
structure Sz (a b c d:Int):Prop where
 a:intBits a<=10000
 b:intBits b<=10000
 c:intBits c<=10000
 d:intBits d<=10000
def uG (K:PySem.W.Frag):Sp:=fun vs H Q _=>∃ p q a b c d,vs=[.ref p,.ref q]/\dB K H p [.int a,.int b]/\dB K H q [.int c,.int d]/\Sz a b c d/\Q (.bl (decide (a*d<c*b))) H
end TD
namespace Sd
inductive Sd where
 | en (v:Int)
 | st (p:Int) (rs:List (Int×Sd))
inductive Ok:Sd->Nat->Nat->Prop
 | en {v:Int}{d m:Nat} (h0:0<=v) (h9:v<=1000000000) (hm:1<=m):Ok (.en v) d m
 | st {p:Int}{rs:List (Int×Sd)}{d m:Nat}{f:Int×Sd->Nat} (h0:0<=p) (h9:p<=1000000000) (ne:rs≠[]) (l4:rs.length<=4) (w:∀ r∈rs,1<=r.1/\r.1<=1000) (sub:∀ r∈rs,Ok r.2 d (f r)) (hk:(rs.map f).sum<=m):Ok (.st p rs) (d+1) m
end Sd
namespace L2
open PySem PySem.Spec PyProof.Rows
theorem range_all (bs:List Bool):(Zi bs.length).all (fun i=>bs.getD i false)=bs.all id:=by
 rw [Zu];simp only [Z0,ZZ];constructor
 ·intro h b hb;obtain ⟨i,hi,e⟩:=ZR.mp hb;have q:=h i hi;rw [getD_at hi,e] at q;exact q
 ·intro h i hi;rw [getD_at hi];exact h _ (ZK hi)
theorem range_any (bs:List Bool):(Zi bs.length).any (fun i=>bs.getD i false)=bs.any id:=by
 rw [Zu];simp only [Zo,ZZ];constructor
 ·rintro ⟨i,hi,h⟩;rw [getD_at hi] at h;exact ⟨_,ZK hi,h⟩
 ·rintro ⟨b,hb,h⟩;obtain ⟨i,hi,e⟩:=ZR.mp hb;refine ⟨i,hi,?_⟩;rw [getD_at hi,e];exact h
section
variable {X:Cx}{K:PySem.W.Frag}
theorem Dm {us:List Value}{bs:List Bool}(h:bL (bs.map V.bl) us){i:Nat}{v:Value}(e:us[i]? = some v):v=.bool (bs.getD i false):=by
 have hl:=h.length;rw [YQ] at hl;have hi:i<us.length:=(Yp.mp e).1;have e2:(bs.map V.bl)[i]? = some (.bl (bs.getD i false)):=by
  rw [Yi,YL (by omega),getD_at (by omega)]
  rfl
 obtain ⟨u,hu,r⟩:=h.get e2;rw [e] at hu;cases hu;exact r
theorem m8 (hK:X.K=K)(hc:X.calm=true):cN X (.builtin "all") (fun xs H Q=>∃ (a:Addr) (bs:List Bool),xs=[.ref a]/\bJ K H a (bs.map V.bl)/\Q (.bl (bs.all id)) H):=by
 subst hK;intro pins s σ H xs us Q I r h;obtain ⟨a,bs,rfl,hS,q⟩:=h;obtain ⟨u,rfl,ru⟩:=vals1 r;cases (show u=Value.ref a from ru);obtain ⟨its,rv,pl,hz⟩:=I.list hS;have lt:a<s.heap.objs.size:=by obtain ⟨o,e,_⟩:=pl.isList; exact YX e
 have hl:=rv.length;rw [YQ] at hl;refine call_all_walk (wpAny_pyIter_list pl.isList ⟨s.heap.objs.size,_,_,_,_,_,fun i=>bs.getD i false,rfl,Walks.list (A:=X.A.in1) (I.ok.hd hc) s.heap.objs.size a (Yd lt) its.toArray,⟨⟨_,YZ _ rfl,rfl,rfl⟩,pl.isList.push _⟩,?_,fun h' tk hk=>?_⟩)
 ·intro i v s' Q' E' hv hQ;have e:=Dm rv (i:=i) (v:=v) (by simpa using hv);rw [e];exact wpAny_truthy_bool hQ
 ·refine ⟨.bl (bs.all id),H,I.kept (t':=tk) fun b o e=>hk b o (fun z=>?_) (YK _ e),?_,q⟩
  ·rw [YT.mp z] at e;exact absurd (YX e) (Za _)
  ·show Value.bool _=Value.bool _;rw [YM,<- hl,range_all]
theorem CN (hK:X.K=K)(hc:X.calm=true):cN X (.builtin "any") (fun xs H Q=>∃ (a:Addr) (bs:List Bool),xs=[.ref a]/\bJ K H a (bs.map V.bl)/\Q (.bl (bs.any id)) H):=by
 subst hK;intro pins s σ H xs us Q I r h;obtain ⟨a,bs,rfl,hS,q⟩:=h;obtain ⟨u,rfl,ru⟩:=vals1 r;cases (show u=Value.ref a from ru);obtain ⟨its,rv,pl,hz⟩:=I.list hS;have lt:a<s.heap.objs.size:=by obtain ⟨o,e,_⟩:=pl.isList; exact YX e
 have hl:=rv.length;rw [YQ] at hl;refine call_any_walk (wpAny_pyIter_list pl.isList ⟨s.heap.objs.size,_,_,_,_,_,fun i=>bs.getD i false,rfl,Walks.list (A:=X.A.in1) (I.ok.hd hc) s.heap.objs.size a (Yd lt) its.toArray,⟨⟨_,YZ _ rfl,rfl,rfl⟩,pl.isList.push _⟩,?_,fun h' tk hk=>?_⟩)
 ·intro i v s' Q' E' hv hQ;have e:=Dm rv (i:=i) (v:=v) (by simpa using hv);rw [e];exact wpAny_truthy_bool hQ
 ·refine ⟨.bl (bs.any id),H,I.kept (t':=tk) fun b o e=>hk b o (fun z=>?_) (YK _ e),?_,q⟩
  ·rw [YT.mp z] at e;exact absurd (YX e) (Za _)
  ·show Value.bool _=Value.bool _;rw [YM,<- hl,range_any]
end
section
variable {X:Cx}
theorem aQ.turnedLaid {pins:List (Addr×Obj)}{σ:St}{H:Hp}{s:Shared}{h':Heap}{t':Nat}{ch:List Addr}{a:Addr}{o:HO}(I:aQ X pins σ H s)(hf:∀ b∈ch,dN X pins H b)
  (k:∀ b u,b∉ch->s.heap.get? b=some u->h'.get? b=some u) (hp:s.heap.objs.size<=a) (new:cJ X.prog X.w (bN H a o) h' a o):aQ X pins σ (bN H a o) { s with heap:=h',toks:=t' }:=by
 have hn:=I.hok.fresh hp;have nit:∀ b u,H b=some u->b∉ch:=fun b u e z=>by rw [(hf b z).1] at e; cases e
 refine I.step (g':=s.gens) (d':=s.drawn) (ch:=ch) (fun b hb=>?_) (fun b o _ _ hc e _=>k b o hc e) (fun b o _ _ hc e _=>⟨o.slots,k b o hc e⟩) (fun b u hc e n=>?_) (fun b o hc e=>⟨o,k b o hc e⟩)
  (fun b xs e=>by rw [aO (bB e hn)]; exact e) (fun b o u e=>by rw [aO (bB e hn)]; exact e) (fun b ps e=>⟨#[],by rw [aO (bB e hn),e]; simp⟩) (fun m hm=>?_) (fun b u e=>?_) I.bare
 ·obtain ⟨_,f1,f2,f3,f4,f5⟩:=hf b hb;exact ⟨f3,f1,f4,f5⟩
 ·rw [aO (Yd (Yj (YX e) hp))];exact n
 ·obtain ⟨o,es,ep,ho,r⟩:=hm;exact ⟨o,es,ep,k _ o (fun z=>(hf _ z).2.1 rfl) ho,r⟩
 ·by_cases hb:b=a
  ·subst hb;rw [aC] at e;cases e;exact new
  ·rw [aO hb] at e;refine (I.hok b u e).stay (fun c v hc q=>k c v ?_ q) (fun c q=>by rw [aO (bB q hn)]; exact q) fun c xs q=>by rw [aO (bB q hn)]; exact q
   rcases hc with z | z
   ·rw [z]; exact nit b u e
   ·exact nit c _ z
end
theorem m9 {i:Nat}{v:V}{τ:St}{H:Hp}{A B:St->Hp->Prop}(h:A (τ.set i (some v)) H):p7 i v τ H (fun τ2 H2=>KD τ2 H2 (fun b H3=>if b=true then A τ2 H3 else B τ2 H3)):=Gk (τ:=τ.set i (some v)) (A:=A (τ.set i (some v))) (B:=B (τ.set i (some v))) h
end L2
namespace TD
open PySem L2
open Builtin.Int (intBits)
abbrev Tq (H:Hp)(p:Addr)(x:Int×Int):Prop:=H p=some (.tup [.int x.1,.int x.2])
abbrev Is (ns:List Int):List V:=ns.map V.int
theorem aK (ns:List Int):(Is ns).length=ns.length:=YQ _
theorem cD (xs:List Int)(y:Int):Is (xs++[y])=Is xs++[V.int y]:=by show (xs++[y]).map V.int=_; rw [Yo]; rfl
theorem gM {ns:List Int}{i:Nat}{v:V}(h:(Is ns)[i]? = some v):∃ n,ns[i]? = some n/\v=.int n:=by
 rw [Yi] at h;cases e:ns[i]? with
 | none=>rw [e] at h; cases h
 | some n=>rw [e] at h; cases h; exact ⟨n,rfl,rfl⟩
def Ds:Sp:=fun vs H Q _=>∃ i lo hi:Int,vs=[.int i,.int lo,.int hi]/\lo<=i/\i<=hi/\Q (.bl true) H
def Kr:Sp:=fun vs H Q _=>∃ i:Int,vs=[.int i]/\∀ p H',aW H H'->Tq H' p (i,1)->Q (.ref p) H'
def ka:Nat->Nat
 | 0=>30
 | d+1=>ka d+(12*(d+1)+1)*12+1
end TD
namespace Sd
def V (x:Int×Int):Rat:=(x.1:Rat)/(x.2:Rat)
def V1 (a b:Rat):Rat:=if a<b then b else a
theorem uT {b:Int}(h:0<b):(0:Rat)<(b:Rat):=by exact_mod_cast h
theorem EY {b:Int}(h:0<b):(b:Rat)≠0:=by have:=uT h; grind
theorem V_lt {x y:Int×Int}(hx:0<x.2)(hy:0<y.2):x.1*y.2<y.1*x.2↔V x<V y:=by
 have p1:=uT hx;have p2:=uT hy;have n1:=EY hx;have n2:=EY hy;have e1:V x*(x.2:Rat)=(x.1:Rat):=by unfold V; grind
 have e2:V y*(y.2:Rat)=(y.1:Rat):=by unfold V; grind
 have pp:(0:Rat)<(x.2:Rat)*(y.2:Rat):=Rat.mul_pos p1 p2;have c:x.1*y.2<y.1*x.2↔(x.1:Rat)*(y.2:Rat)<(y.1:Rat)*(x.2:Rat):=by
  constructor
  ·intro h; exact_mod_cast h
  ·intro h; exact_mod_cast h
 rw [c,<- e1,<- e2];constructor
 ·intro h
  by_cases z:V x<V y
  ·exact z
  ·have:=Z_ (Rat.not_lt.mp z) (c:=(x.2:Rat)*(y.2:Rat)) (by grind)
   grind
 ·intro h;have:=Rat.mul_lt_mul_of_pos_right h pp
  grind
def cv (r:Tb.Rw):Rat:=(r.t:Rat)/(r.b:Rat)
def up (l:Rat)(ys:List Tb.Rw):Rat:=(ys.map fun r=>(r.w:Rat)*(V1 l (cv r)-l)).sum
def VN (l:List Int):Int:=l.foldl max 0
def nS:Nat->Sd->Int
 | 0,_=>0
 | _+1,.en _=>0
 | n+1,.st _ rs=>1+VN (rs.map fun r=>nS n r.2)
end Sd
namespace TD
open PySem L2
open Builtin.Int (intBits)
structure Cs where
 e:Addr
 s:Addr
def Kp (H H':Hp):Prop:=∀ b o,H b=some o->(∀ ps,o≠.tbl ps)->(∀ C dx,o≠.ins C dx [])->H' b=some o
def pp:Nat->Nat->Nat
 | 0,_=>2
 | d+1,m=>((Zi 4).map fun i=>if i+1<=m then 2+(i+1)*(1+pp d (m/(i+1))) else 2).foldl max 2
def VH (H:Hp)(T:String)(v:V):Prop:=∀ K:PySem.W.Frag,∃ t,lK K H v t/\PySem.W.kitOne K t (.type T)=some false
theorem uJ {K:PySem.W.Frag}:PySem.W.kitOne K (.type "bool") (.type "int")=some true:=by rfl
inductive Pr (H:Hp)(lo hi:Int):V->Bool->Prop where
 | no {v:V} (h:VH H "int" v):Pr H lo hi v false
 | bl (c:Bool):Pr H lo hi (.bl c) false
 | int (i:Int):Pr H lo hi (.int i) (decide (lo<=i)&&decide (i<=hi))
def Fe:Sp:=fun vs H Q _=>∃ (v:V) (lo hi:Int) (b:Bool),vs=[v,.int lo,.int hi]/\Pr H lo hi v b/\Q (.bl b) H
structure Ca where
 dx:Addr
 tp:Addr
 tl:Addr
 th:Addr
 td:Addr
 ys:List Addr
 ss:List (Sd.Sd×Nat×Nat)
 ls:List V
 bs:List Bool
 sp:Int
 ds:List Addr
def KX (x:Addr)(H H':Hp):Prop:=∀ b o,b≠x->H b=some o->H' b=some o
end TD
namespace Tb
def lo (l0 l1:Int)(ps:List Rw):List Rw:=ps.filter fun r=>decide (r.t*l1<l0*r.b)
end Tb
namespace TD
open PySem L2
open Builtin.Int (intBits)
structure SS where
 la:Addr
 ca:Addr
 ka:Addr
 da:Addr
 ts:List Addr
 ls:List V
 ks:List Int
 pd:Int
 ds:List Addr
end TD
namespace L2
open PySem PySem.Spec PyProof.Rows
section
variable {X:Cx}
def uV (ns:List Int):List Int:=ns.foldl step_dedup []
theorem oG (ns:List Int):firstMet (fun i=>ns.getD i 0) ns.length=uV ns:=by
 unfold firstMet uV
 congr 1
 apply aAp
 ·simp
 ·intro i h1 h2;simp [h2]
theorem BV (hc:X.calm=true):cN X (.type "set") (fun xs H Q=>∃ (a:Addr) (ns:List Int),xs=[.ref a]/\bJ X.K H a (ns.map V.int)/\ns.length+1<scanBound ∧
  ∀ r,H r=none->Q (.ref r) (bN H r (.set (fun k=>(uV ns).any (·==k)) (uV ns).length))):=by
 intro pins s σ H xs us Q I r h;obtain ⟨a,ns,rfl,hS,hb,q⟩:=h;obtain ⟨u,rfl,ru⟩:=vals1 r;cases (show u=Value.ref a from ru);obtain ⟨its,rv,p,hz⟩:=I.list hS;have hi:=intsAre_of rv;have hl:its.toArray.size=ns.length:=by
  have h:=rv.length;rw [YQ] at h
  simpa using h.symm
 refine call_set_list (items:=its.toArray) (ns:=ns) (I.ok.hd hc) p.isList hi (by rw [hl]; exact hb) fun h' tk hSO kp=>?_;rw [hl,oG] at hSO;refine ⟨.ref s.heap.objs.size,_,I.laid (t':=tk) (fun b o e=>kp b o (YX e) e) (YS _) (show cJ X.prog X.w _ h' _ (.set _ _) from hSO),rfl,q _ (I.hok.fresh (YS _))⟩
theorem qW:cN X (.builtin "len") (fun xs H Q=>∃ (a:Addr) (S:Int->Bool) (n:Nat),xs=[.ref a]/\H a=some (.set S n)/\Q (.int n) H):=by
 intro pins s σ H xs us Q I r h;obtain ⟨a,S,n,rfl,ha,q⟩:=h;obtain ⟨u,rfl,ru⟩:=vals1 r;cases (show u=Value.ref a from ru);obtain ⟨o,es,ep,t,ho,hex,hd,_,_,hsb,hf,hn⟩:=(show cJ X.prog X.w H s.heap a (.set S n) from I.hok a _ ha)
 subst hn;refine call_len_set ho hex hd hf ?_ ⟨.int es.size,H,I.kept (h':=s.heap) (fun _ _ e=>e),⟨_,rfl⟩,q⟩;have:(es.size:Int)<4096:=by unfold scanBound at hsb; omega
 exact aAO this (by decide)
end
section
variable {prog:Program}{w:World}{A:Around}{E:Value->Shared->Prop}{s:Shared}{a₀:Array PyProof.Rows.Keyed}
theorem vH {l:Addr}{o:Obj}{T:String}{vs:List Value}{n:Nat}{Q:List Value->Shared->Prop}(hT:T = "list"∨T = "tuple")(ho:s.heap.get? l=some o)(hc:o.cls=.type T)(hd:o.data=.seq vs.toArray n)(hz:vs.length<=sizeLine)
  (h:∀ h',(∀ b u,s.heap.get? b=some u->h'.get? b=some u)->Q vs { s with heap:=h' }):wpAny (model prog w) A (collect (.ref l)) Q E s:=by
 unfold collect;refine wpAny_bind (wpAny_runValue (codeAny_builtin entry_proto_collect' ?_));show wpAny _ _ (do again (.builtin "list.__iadd__" ⟨[<- newList [],.ref l],[]⟩)) _ _ s;refine wpAny_bind (wpAny_newList (wpAny_pure ⟨Code.quiet_builtin _ (by decide +kernel),codeAny_builtin entry_list_iadd' ?_⟩));show wpAny _ _ (Builtin.List.listExtendWith (.ref s.heap.objs.size) (.ref l) (.ref s.heap.objs.size)) _ _ { s with heap:=s.heap.push (seqObj "list" #[] 0) };unfold Builtin.List.listExtendWith;have ho':(s.heap.push (seqObj "list" #[] 0)).get? l=some o:=YK _ ho;refine wpAny_bind (wpAny_typeOf (T:=T) ⟨o,ho',hc⟩ ?_);rw [if_pos (by rcases hT with e | e <;> subst e <;> simp)];refine wpAny_bind (listItems_at ho' hd (wpAny_bind (listItems_at (xs:=#[]) (n:=0) (YZ _ rfl) rfl ?_)));rw [if_neg (by simp)];refine wpAny_bind (listUpdate_at (xs:=#[]) (n:=0) (YZ _ rfl) rfl ?_ (Yq _) (by show (#[]++vs.toArray).size<=sizeLine+1; simp only [Array.size_append,YM,List.length_nil]; omega));refine wpAny_pure ?_;show wpAny (model prog w) A (do
   let o <- load s.heap.objs.size
   match o.data with
   | .seq xs _=>pure xs.toList
   | _=>unsupported "internal:collect") Q E { s with heap:=(s.heap.push (seqObj "list" #[] 0)).update s.heap.objs.size (Obj.mapSeq (·++vs.toArray)) }
 refine wpAny_bind (wpAny_load (get?_update_seq (YZ _ rfl) _) ?_);show wpAny _ _ (pure ((#[]:Array Value)++vs.toArray).toList) Q E _;rw [show ((#[]:Array Value)++vs.toArray).toList=vs by simp];refine wpAny_pure (h _ fun b u e=>?_);rw [Heap.get?_update_ne _ _ _ _ (Yd (YX e))];exact YK _ e
end
section
variable {X:Cx}
def Lg (ns:List Int):Prop:=ns.length<64∨(ns.length=64/\ns.Pairwise (·<=·))
def Jo:V->List V->Hp->VK->Prop:=fun x vs H Q=>∃ (l:Addr) (ns:List Int) (k:Int),x=.ref l/\vs=[.int k]/\H l=some (.lst (ns.map V.int))/\Q (.int (ns.count k:Nat)) H
theorem sE {k:Int}:∀ {us:List Value}{ns:List Int},IntsAre us ns->us.countP (fun y=>numOf y==k)=ns.count k
 | _,_,.nil=>rfl
 | _,_,.cons n t h=>by
  rw [aAa,List.count_cons,sE h]
  rfl
theorem DK:Pa X "list.count" Jo:=by
 intro pins s σ H x vs v us Q I rx rv h;obtain ⟨l,ns,k,rfl,rfl,hH,q⟩:=h;cases rx;obtain ⟨u,rfl,ru⟩:=rv.one;obtain ⟨t,rfl⟩:=ru;obtain ⟨z,its,n,r,hl,e⟩:=I.lstM hH;have hi:=intsAre_of r;refine call_meets F.slot_list_count ⟨_,e,rfl⟩ F.entry_list_count (F.args_list_count_2 _ _) (SeqAt.list_countAt l its.toArray n none #[] (.int k t) fun y=>numOf y==k) ⟨e,fun y hy=>?_,?_⟩
 ·obtain ⟨m,t',rfl⟩:=hi.all y (by simpa using hy);exact SeqAt.EqAt.int_int m t' k t
 ·refine ⟨.int (ns.count k:Nat),H,I.kept (h':=s.heap) (fun _ _ e=>e),⟨s.toks,?_⟩,q⟩;rw [show its.toArray.toList=its from rfl,sE hi]
theorem Jr {e:Expr}{a b c:TE}(h1:PE X e a)(h2:PE X e b)(h3:PE X e c):PE X e (fun σ H Q=>a σ H Q∨b σ H Q∨c σ H Q):=fun pins s σ H Q I h=>by
 rcases h with h | h | h
 ·exact h1 pins s σ H Q I h
 ·exact h2 pins s σ H Q I h
 ·exact h3 pins s σ H Q I h
end
theorem Il {ns:List Int}(nd:ns.Nodup):uV ns=ns:=by
 have go:∀ (ms ds:List Int),(ds++ms).Nodup->ms.foldl PyProof.Rows.step_dedup ds=ds++ms:=by
  intro ms
  induction ms with
  | nil=>intro ds _; simp
  | cons m ms ih =>
   intro ds h;have hm:ds.any (·==m)=false:=by
    rw [Zx];intro x hx z;have hxm:x=m:=by simpa using z
    have:=(aAv.mp h).2.2 x hx m Yg;exact this hxm
   show ms.foldl PyProof.Rows.step_dedup (PyProof.Rows.step_dedup ds m)=_;have e:PyProof.Rows.step_dedup ds m=ds++[m]:=by unfold PyProof.Rows.step_dedup; rw [if_neg (by rw [hm]; exact Y9)]
   rw [e,ih (ds++[m]) (by rw [Yl]; exact h),Yl]
   rfl
 exact go ns [] (by simpa using nd)
theorem yF {X:Cx}{K:PySem.W.Frag}(hK:X.K=K)(hc:X.calm=true):cN X (.type "set") (fun xs H Q=>∃ (a:Addr) (ns:List Int),xs=[.ref a]/\bJ K H a (ns.map V.int)/\ns.length+1<scanBound ∧
  ∀ r,H r=none->Q (.ref r) (bN H r (.set (fun k=>(uV ns).any (·==k)) (uV ns).length))):=by subst hK; exact BV hc
theorem Jp:bootBuiltins "set" = some (.type "set"):=by decide +kernel
section
variable {X:Cx}{K:PySem.W.Frag}{o e:Expr}{es:List Expr}{ta to:TE}{t:TA}{f name:Str}{pos apos cpos:Pos}{T id:String}{r:V->List V->Hp->VK->Prop}
theorem tO (hK:X.K=K)(he:PE X e ta)(hb:attributeBase e f X.env (eval e X.env)=eval e X.env):PE X (.Attribute e f pos) (M3 K ta f):=by subst hK; exact xT he hb
theorem K3 (hK:X.K=K)(pa:PlainAttrs T)(slot:Slot T name id)(hty:typeOf (.builtin id)=pure (.type "method_descriptor"))(hm:Uc X id r)(ho:PE X o to)(ha:PA X (e::es) t)
  (hbase:attributeBase o name X.env (eval o X.env)=eval o X.env:=by rfl)
  (hfew:((backTo cpos (starEach (e::es) X.env)).all (fun x=>!x.1)&&(backToKw cpos (keywordEach [] X.env)).all (fun x=>x.1.isSome)
  &&decide ((e::es).length+([]:List Keyword).length+(if ([]:List Keyword).isEmpty then 0 else 1)<30))=true:=by rfl)
  (hline:(apos.endLine==cpos.line)=true:=by rfl) (hs:starEach (e::es) X.env=(false,eval e X.env)::starEach es X.env:=by rfl) (hplain:(backTo cpos (starEach es X.env)).any (·.1)=false:=by rfl) :
  PE X (.Call (.Attribute o name apos) (e::es) [] cpos) (UG K T r to t):=by subst hK; exact oR pa slot hty hm ho ha hbase hfew hline hs hplain
end
end L2
namespace TP
open PySem L2 TD
open Builtin.Int (intBits)
def hb (k b:Int):Bool:=decide (V.int (Builtin.bitAnd (k/2^b.toNat) 1)=V.int 1)
def six (n:Nat):List Int:=(Zi n).map fun (i:Nat)=>(0:Int)+(i:Int)
def eQ (k:Int):List Int:=(six 6).filter (hb k)
theorem eF (n:Nat):six (n+1)=six n++[0+(n:Int)]:=by unfold six; rw [List.range_succ,Yo]; rfl
theorem dH {n:Nat}{b:Int}(h:b∈six n):0<=b/\b<n:=by
 obtain ⟨i,hi,rfl⟩:=ZW.mp h;have:=ZZ.mp hi;omega
theorem HR (k:Int):(eQ k).length<=6:=Y7 (Ze _ _) (by unfold six; rw [YQ,Z4]; exact YS _)
theorem pB {k b:Int}(h:b∈eQ k):0<=b/\b<6:=dH (ZX.mp h).1
def J2:Sp:=fun vs H Q _=>∃ k b:Int,vs=[.int k,.int b]/\0<=b/\Q (.bl (hb k b)) H
def uZ:Sp:=fun vs H Q _=>∃ k:Int,vs=[.int k]/\∀ r H',aW H H'->H r=none->H' r=some (.lst (Is (eQ k)))->Q (.ref r) H'
def Lr:Sp:=fun vs H Q _=>∃ k:Int,vs=[.int k]/\∀ H',aW H H'->Q (.int ((eQ k).length:Nat)) H'
def yZ:Sp:=fun vs H Q _=>∃ (a:Addr) (ns:List Int) (lo hi g:Int),vs=[.ref a,.int lo,.int hi,.int g]/\H a=some (.lst (Is ns))/\lo<=(ns.length:Int)/\(ns.length:Int)<=hi/\ns.length<=64/\(∀ n∈ns,0<=n/\n<=g)/\∀ H',aW H H'->Q (.bl true) H'
inductive Sk where
 | few (c:Int)
 | groups (gs ms:List Int)
 | listed (ks:List Int)
structure JN (gs ms:List Int):Prop where
 l1:1<=gs.length
 l6:gs.length<=6
 g:∀ g∈gs,0<=g/\g<=5
 m6:ms.length=6
 m:∀ m∈ms,0<=m/\m<=6
structure Oo (ks:List Int):Prop where
 l1:1<=ks.length
 few:Lg ks
 nd:ks.Nodup
 k:∀ k∈ks,0<=k/\k<=63
theorem Oo.l64 {ks:List Int}(g:Oo ks):ks.length<=64:=by rcases g.few with h | h <;> omega
def wD:Sk->Prop
 | .few c=>0<=c/\c<=6
 | .groups gs ms=>JN gs ms
 | .listed ks=>Oo ks
def pR (gs ms:List Int)(k:Int):Bool:=(eQ k).all (fun b=>decide (b<(gs.length:Int)))&&((eQ k).map fun b=>gs.getD b.toNat 0).all fun g=>decide ((((eQ k).map fun b=>gs.getD b.toNat 0).count g:Nat)<=ms.getD g.toNat 0)
def bY:Sk->Int->Bool
 | .few c,k=>decide (((eQ k).length:Nat)<=c)
 | .groups gs ms,k=>pR gs ms k
 | .listed ks,k=>qL (.int k) (Is ks)
def oX (H:Hp)(p:Addr):Sk->Prop
 | .few c=>H p=some (.tup [.str "few",.int c])
 | .groups gs ms=>∃ g m,H p=some (.tup [.str "groups",.ref g,.ref m])/\H g=some (.tup (Is gs))/\H m=some (.tup (Is ms))
 | .listed ks=>∃ k,H p=some (.tup [.str "listed",.ref k])/\H k=some (.tup (Is ks))
theorem oX.same {H H':Hp}{p:Addr}{S:Sk}(s:aW H H')(h:oX H p S):oX H' p S:=by
 cases S with
 | few c=>exact s _ _ h
 | groups gs ms=>obtain ⟨g,m,a,b,c⟩:=h; exact ⟨g,m,s _ _ a,s _ _ b,s _ _ c⟩
 | listed ks=>obtain ⟨k,a,b⟩:=h; exact ⟨k,s _ _ a,s _ _ b⟩
structure yH where
 f:Addr
 g:Addr
 l:Addr
def oJ (C:Addr)(H:Hp)(x:Addr)(c:Int):Prop:=∃ dx,H x=some (.ins C dx [("limit",.int c)])
def vI (C:Addr)(H:Hp)(x:Addr)(gs ms:List Int):Prop:=∃ dx g m,H x=some (.ins C dx [("groups",.ref g),("most",.ref m)])/\H g=some (.tup (Is gs))/\H m=some (.tup (Is ms))
def CT (C:Addr)(H:Hp)(x:Addr)(ks:List Int):Prop:=∃ dx k,H x=some (.ins C dx [("sets",.ref k)])/\H k=some (.tup (Is ks))
theorem oJ.same {C:Addr}{H H':Hp}{x:Addr}{c:Int}(s:aW H H')(h:oJ C H x c):oJ C H' x c:=by obtain ⟨dx,a⟩:=h; exact ⟨dx,s _ _ a⟩
theorem vI.same {C:Addr}{H H':Hp}{x:Addr}{gs ms:List Int}(s:aW H H')(h:vI C H x gs ms):vI C H' x gs ms:=by obtain ⟨dx,g,m,a,b,c⟩:=h; exact ⟨dx,g,m,s _ _ a,s _ _ b,s _ _ c⟩
theorem CT.same {C:Addr}{H H':Hp}{x:Addr}{ks:List Int}(s:aW H H')(h:CT C H x ks):CT C H' x ks:=by obtain ⟨dx,k,a,b⟩:=h; exact ⟨dx,k,s _ _ a,s _ _ b⟩
def JX (C:Addr):Sp:=fun vs H Q _=>∃ (x dx:Addr) (c:Int),vs=[.ref x,.int c]/\H x=some (.ins C dx [])/\0<=c/\c<=6/\Q .non (bN H x (.ins C dx [("limit",.int c)]))
def yG (C:Addr):Sp:=fun vs H Q _=>∃ (x:Addr) (c k:Int),vs=[.ref x,.int k]/\oJ C H x c/\∀ H',aW H H'->Q (.bl (bY (.few c) k)) H'
def JW (C:Addr):Sp:=fun vs H Q _=>∃ (x dx a b:Addr) (gs ms:List Int),vs=[.ref x,.ref a,.ref b]/\H x=some (.ins C dx [])/\H a=some (.lst (Is gs))/\H b=some (.lst (Is ms))/\JN gs ms ∧
 ∀ g m H',(∀ b o,b≠x->H b=some o->H' b=some o)->H' g=some (.tup (Is gs))->H' m=some (.tup (Is ms))->H' x=some (.ins C dx [("groups",.ref g),("most",.ref m)])->Q .non H'
def zJ (C:Addr):Sp:=fun vs H Q _=>∃ (x:Addr) (gs ms:List Int) (k:Int),vs=[.ref x,.int k]/\vI C H x gs ms/\JN gs ms/\∀ H',aW H H'->Q (.bl (pR gs ms k)) H'
def xM (C:Addr):Sp:=fun vs H Q _=>∃ (x:Addr) (ks:List Int) (k:Int),vs=[.ref x,.int k]/\CT C H x ks/\Q (.bl (qL (.int k) (Is ks))) H
theorem jN (ns:List Int):(Is ns).all lV=true:=by
 rw [Z0];intro v hv;obtain ⟨n,_,rfl⟩:=ZW.mp hv
 rfl
theorem lR {ns:List Int}{k:Int}(h0:0<=k)(h:k<(ns.length:Int)):wH (Is ns) k=some (.int (ns.getD k.toNat 0)):=by
 have hk:k.toNat<ns.length:=by omega
 have e:=jP (xs:=Is ns) (j:=k.toNat) (v:=.int (ns.getD k.toNat 0)) (by rw [Yi,YL hk]; simp [hk]);rw [show ((k.toNat:Nat):Int)=k by omega] at e;exact e
theorem J8:∀ (k:Fin 64) (b:Fin 6),Builtin.bitAnd (((k.val:Nat):Int)/2^b.val) 1=0∨Builtin.bitAnd (((k.val:Nat):Int)/2^b.val) 1=1:=by decide +kernel
theorem JQ {k:Int}{b:Nat}(h0:0<=k)(h1:k<64)(hb6:b<6):Builtin.bitAnd (k/2^((0:Int)+(b:Int)).toNat) 1=if hb k (0+(b:Int))=true then 1 else 0:=by
 have e:=J8 ⟨k.toNat,by omega⟩ ⟨b,hb6⟩;have ek:((k.toNat:Nat):Int)=k:=by omega
 simp only [ek] at e;have eb:((0:Int)+(b:Int)).toNat=b:=by omega
 unfold hb;rw [eb];rcases e with e | e
 ·rw [e,if_neg (by decide)]
 ·rw [e,if_pos (by decide)]
def FJ:Sp:=fun vs H Q _=>∃ k:Int,vs=[.int k]/\0<=k/\k<64/\Q (.int ((eQ k).length:Nat)) H
def De:Sp:=fun vs H Q _=>∃ (p:Addr) (k:Int) (S:Sk),vs=[.ref p,.int k]/\oX H p S/\wD S/\0<=k/\k<64/\∀ H',aW H H'->Q (.bl (bY S k)) H'
def Bv (K:PySem.W.Frag):Sp:=fun vs H Q _=>∃ (a:Addr) (ns:List Int) (k:Int),vs=[.ref a,.int k]/\bJ K H a (ns.map V.int)/\0<=k/\k<=1000/\∀ j,0<=j->j<2147483629->Q (.int j) H
def Ms (K:PySem.W.Frag):Sp:=fun vs H Q _=>∃ (a:Addr) (ns:List Int) (f m:Int),vs=[.ref a,.int f,.int m]/\bJ K H a (ns.map V.int)/\1<=f/\f<=1000/\0<=m/\∀ j,0<=j->j<=m->Q (.int j) H
def DP (K:PySem.W.Frag):Sp:=fun vs H Q _=>∃ (a:Addr) (ns:List Int) (k:Int),vs=[.ref a,.int k]/\bJ K H a (ns.map V.int)/\0<=k/\∀ r H' ks,aW H H'->H r=none->H' r=some (.lst (Is ks))->Oo ks->Q (.ref r) H'
def jX (cs:yH)(H:Hp)(x:Addr):Sk->Prop
 | .few c=>oJ cs.f H x c
 | .groups gs ms=>vI cs.g H x gs ms
 | .listed ks=>∃ ms,ms.Perm ks/\ms.Pairwise (·<=·)/\CT cs.l H x ms
theorem jX.same {cs:yH}{H H':Hp}{x:Addr}{S:Sk}(s:aW H H')(h:jX cs H x S):jX cs H' x S:=by
 cases S with
 | few c=>exact oJ.same s h
 | groups gs ms=>exact vI.same s h
 | listed ks=>obtain ⟨ms,a,b,c⟩:=h; exact ⟨ms,a,b,c.same s⟩
end TP
namespace TP
open PySem L2 TD
def Cq (gs:List Int)(k:Int)(i:Nat):List Int:=((six i).filter (hb k)).map fun b=>gs.getD b.toNat 0
theorem rZ (k:Int)(i:Nat):((six (i+1)).filter (hb k))=(six i).filter (hb k)++(if hb k (0+(i:Int))=true then [0+(i:Int)] else []):=by
 rw [eF,Zt]
 congr 1
 rw [Zq]
 split <;> rfl
theorem getD_mem {ns:List Int}{i:Nat}(h:i<ns.length):ns.getD i 0∈ns:=by
 rw [show ns.getD i 0=ns[i] by simp [h]];exact ZK h
theorem Ma {gs ms:List Int}{k:Int}(g:JN gs ms)(hin:∀ b∈eQ k,b<(gs.length:Int)):∀ z∈Cq gs k 6,0<=z/\z<=5:=fun z hz=>by
 obtain ⟨b,hb1,rfl⟩:=ZW.mp hz;have e:=hin b hb1;have e0:=(pB hb1).1;exact g.g _ (getD_mem (by omega))
theorem KC {gs ms:List Int}{k:Int}(g:JN gs ms)(hin:∀ b∈eQ k,b<(gs.length:Int))(hc:∀ z:Nat,z<6->(((Cq gs k 6).count (z:Int):Nat):Int)<=ms.getD z 0):pR gs ms k=true:=by
 unfold pR;rw [Yh];refine ⟨Z0.mpr fun b hb=>decide_eq_true (hin b hb),Z0.mpr fun z hz=>decide_eq_true ?_⟩;have r:=Ma g hin z hz;have h:=hc z.toNat (by omega);rw [show ((z.toNat:Nat):Int)=z by omega] at h;exact h
theorem Gi {gs ms:List Int}{k b:Int}(hb1:b∈eQ k)(h:¬ b<(gs.length:Int)):pR gs ms k=false:=by
 unfold pR;rw [aBb];exact .inl (aBv.mpr ⟨b,hb1,by rw [decide_eq_false h]; exact Y9⟩)
theorem HB {gs ms:List Int}{k:Int}{z:Nat}(g:JN gs ms)(hz:z<6)(h:ms.getD z 0<(((Cq gs k 6).count (z:Int):Nat):Int)):pR gs ms k=false:=by
 have h0:=(g.m _ (getD_mem (ns:=ms) (i:=z) (by rw [g.m6]; exact hz))).1;have hin:(z:Int)∈Cq gs k 6:=List.count_pos_iff.mp (by omega);unfold pR;rw [aBb];refine .inr (aBv.mpr ⟨(z:Int),hin,?_⟩);rw [decide_eq_false (by show ¬ ((((Cq gs k 6).count (z:Int):Nat):Int)<=ms.getD (z:Int).toNat 0); rw [show ((z:Int)).toNat=z by omega]; omega)];exact Y9
theorem Jz (cs:List Int)(j:Nat)(c:Int):(Is cs).set j (.int c)=Is (cs.set j c):=by
 show (cs.map V.int).set j (V.int c)=(cs.set j c).map V.int;rw [List.map_set]
theorem Df {cs:List Int}{j g:Nat}{c:Int}(hj:j<cs.length):(cs.set j c).getD g 0=if g=j then c else cs.getD g 0:=by
 by_cases e:g=j
 ·subst e;rw [if_pos rfl];simp [hj]
 ·rw [if_neg e];simp only [Y5];rw [aAE (Ne.symm e)]
theorem Hc (x y:Int):Gb (.int x) (.int y)=(x==y):=rfl
theorem gU {x:Int}:∀ {ks:List Int},qL (.int x) (Is ks)=true↔x∈ks
 | []=>⟨fun h=>(nomatch h),fun h=>(nomatch h)⟩
 | k::ks=>by
  have e:qL (.int x) (Is (k::ks))=(Gb (.int k) (.int x)||qL (.int x) (Is ks)):=rfl;rw [e,Hc,Zv,gU,Yn,beq_iff_eq];exact ⟨fun h=>h.imp Eq.symm id,fun h=>h.imp Eq.symm id⟩
theorem lD {ks:List Int}(h1:1<=ks.length)(h64:ks.length<=64)(lt:ks.Pairwise (· < ·))(hk:∀ x∈ks,0<=x/\x<=63):Oo ks:=by
 refine ⟨h1,?_,lt.imp fun h=>Int.ne_of_lt h,hk⟩
 by_cases e:ks.length=64
 ·exact .inr ⟨e,lt.imp fun h=>Yt h⟩
 ·exact .inl (by omega)
theorem VJ (n:Int):∃ z:Int,wH [V.int 0,V.int 1,V.int 1,V.int 1,V.int 2,V.int 2,V.int 3,V.int 6] (n%8)=some (.int z)/\0<=z/\z<=6:=by
 have a1:=Yk n (show (8:Int)≠0 by decide);have a2:=Yc n (show (0:Int)<8 by decide);rcases (by omega:n%8=0∨n%8=1∨n%8=2∨n%8=3∨n%8=4∨n%8=5∨n%8=6∨n%8=7) with e | e | e | e | e | e | e | e <;> rw [e]
 ·exact ⟨0,rfl,by decide,by decide⟩
 ·exact ⟨1,rfl,by decide,by decide⟩
 ·exact ⟨1,rfl,by decide,by decide⟩
 ·exact ⟨1,rfl,by decide,by decide⟩
 ·exact ⟨2,rfl,by decide,by decide⟩
 ·exact ⟨2,rfl,by decide,by decide⟩
 ·exact ⟨3,rfl,by decide,by decide⟩
 ·exact ⟨6,rfl,by decide,by decide⟩
def Eg:Sp:=fun vs H Q _=>∃ k b:Int,vs=[.int k,.int b]/\0<=b/\b<100/\Q (.int (Builtin.bitOr k (1*2^b.toNat))) H
abbrev Bs (bs:List Bool):List V:=bs.map V.bl
theorem Ba (bs:List Bool):(Bs bs).length=bs.length:=YQ _
theorem Hw:∀ (k:Fin 64) (b:Fin 6),hb ((k.val:Nat):Int) ((b.val:Nat):Int)=true->(2:Int)^b.val<=((k.val:Nat):Int):=by decide +kernel
theorem low {k b:Int}(h0:0<=k)(h1:k<64)(hb1:b∈eQ k):0<=k-1*2^b.toNat/\k-1*2^b.toNat<k:=by
 have r:=pB hb1;have e:=Hw ⟨k.toNat,by omega⟩ ⟨b.toNat,by omega⟩;simp only [show ((k.toNat:Nat):Int)=k by omega,show ((b.toNat:Nat):Int)=b by omega] at e;have h2:=e (ZX.mp hb1).2;have h3:(0:Int)<2^b.toNat:=Int.pow_pos (by decide);omega
theorem Vt {xs:List V}{i:Nat}{v:V}(h:xs[i]? = some v):wH xs (0+(i:Int))=some v:=by rw [Int.zero_add]; exact jP h
theorem FT:∀ (k:Fin 64),∀ b∈six 6,∀ x∈six 6,hb (Builtin.bitOr ((k.val:Nat):Int) (1*2^b.toNat)) x=(hb ((k.val:Nat):Int) x||x==b):=by decide +kernel
theorem UL:(six 6).Nodup:=by decide +kernel
theorem sJ {p q:Int->Bool}{b:Int}:∀ {l:List Int},l.Nodup->(∀ x∈l,q x=(p x||x==b))->l.countP q<=l.countP p+1
 | [],_,_=>by simp
 | x::l,nd,h=>by
  obtain ⟨n1,n2⟩:=Zj.mp nd;rw [aAa,aAa]
  by_cases e:x=b
  ·subst e;have same:l.countP q=l.countP p:=by
    refine aAX fun y hy=>?_;rw [h y (Y8 _ hy)];have:(y==x)=false:=by
     have ne:y≠x:=fun z=>n1 (z ▸ hy)
     simpa using ne
    rw [this,aBm]
   rw [same]
   split <;> split <;> omega
  ·have ih:=sJ (p:=p) (q:=q) (b:=b) (l:=l) n2 fun y hy=>h y (Y8 _ hy);have e2:=h x Yg;have:(x==b)=false:=by simpa using e
   rw [this,aBm] at e2;rw [e2]
   split <;> omega
end TP
namespace TG
open PySem L2 TD TP
def put (A:Int->Bool)(b:Int):Int->Bool:=fun x=>A x||x==b
section
variable {L:Int}{gf M:Int->Int}{c:Int}{A B G I:Int->Bool}
theorem Ip {p:Int->Bool}{b:Int}:∀ {l:List Int},l.Nodup->l.countP (put p b)<=l.countP p+1:=fun {l} nd=>sJ (b:=b) nd fun x _=>rfl
end
def sw (w:Int->Rat)(A:Int->Bool)(l:List Int):Rat:=(l.map fun b=>if A b=true then w b else 0).sum
theorem iC (w:Int->Rat)(A:Int->Bool)(b:Int)(l:List Int):sw w A (b::l)=(if A b=true then w b else 0)+sw w A l:=by unfold sw; rw [ZF,aAr]
theorem pG (w:Int->Rat)(A:Int->Bool)(b:Int)(l:List Int):sw w A (l++[b])=sw w A l+(if A b=true then w b else 0):=by unfold sw; rw [Yo,List.sum_append]; simp; grind
theorem sw_eq {w:Int->Rat}{A B:Int->Bool}:∀ {l:List Int},(∀ b∈l,A b=B b)->sw w A l=sw w B l
 | [],_=>rfl
 | b::l,h=>by rw [iC,iC,h b Yg,sw_eq fun x hx=>h x (Y8 _ hx)]
theorem pO (w:Int->Rat)(A:Int->Bool)(t u:Rat):∀ l:List Int,sw (fun b=>w b-t) A l=sw (fun b=>w b-u) A l+((l.countP A:Nat):Rat)*(u-t)
 | []=>by unfold sw; simp; grind
 | b::l=>by
  rw [iC,iC,pO w A t u l,aAa]
  by_cases h:A b=true
  ·rw [if_pos h,if_pos h,if_pos h]
   push_cast
   grind
  ·rw [if_neg h,if_neg h,if_neg h]
   push_cast
   grind
section
variable {L:Int}{gf M:Int->Int}{c:Int}{w:Int->Rat}
theorem wW {P:List Int}{A:Int->Bool}(nd:P.Nodup)(p6:∀ x∈P,x∈six 6)(s:∀ x∈six 6,A x=true->x∈P):(six 6).countP A=P.countP A:=by
 rw [aAe,aAe];refine ZS.length_eq ((List.perm_ext_iff_of_nodup (UL.filter _) (nd.filter _)).mpr fun x=>?_);rw [ZX,ZX];exact ⟨fun h=>⟨s x h.1 h.2,h.2⟩,fun h=>⟨p6 x h.1,h.2⟩⟩
theorem JH {w v:Int->Rat}{A B:Int->Bool}:∀ {l:List Int},(∀ b∈l,(if A b=true then w b else 0)<=(if B b=true then v b else 0))->sw w A l<=sw v B l
 | [],_=>Rat.le_refl
 | b::l,h=>by
  rw [iC,iC];have a:=h b Yg;have b:=JH (w:=w) (v:=v) (A:=A) (B:=B) (l:=l) fun x hx=>h x (Y8 _ hx)
  grind
end
end TG
namespace Tb
abbrev Kp:=Int×Int
def kp (r:Rw):Kp:=(r.t,r.b)
end Tb
namespace TG
open PySem L2 TD
open Builtin.Int (intBits)
section
variable {Pt:Addr}
structure Tn where
 a:Addr
 ys:List Row
structure Gw (t:Tn):Prop where
 ne:t.ys≠[]
 len:t.ys.length<=12
 lt:(Ue t.ys).Pairwise Tb.Lt
 fr:∀ y∈t.ys,Fr.Mu y.t y.b
 zt:∀ y∈t.ys,intBits y.t<=4000
 zb:∀ y∈t.ys,intBits y.b<=4000
 w:∀ y∈t.ys,1<=y.w
structure Gs (ts:List Tn):Prop where
 ne:ts≠[]
 len:ts.length<=7
 keys:(ts.flatMap fun t=>t.ys.map fun y=>(y.t,y.b)).length<=63
 bt:(ts.map fun t=>intBits (Tb.W (Ue t.ys))).sum<=3900
 all:∀ t∈ts,Gw t
end
end TG
namespace L2
open PySem
theorem qU {X:Cx}{K:PySem.W.Frag}(h:X.K=K):cN X (.builtin "len") (fun xs H Q=>∃ p ys,xs=[.ref p]/\(bJ K H p ys∨dB K H p ys)/\Q (.int ys.length) H):=by subst h; exact bC
end L2
namespace TP
open PySem L2 TD
structure QK (K:PySem.W.Frag)(p:yH):Prop where
 hn:PySem.W.specialIn K (.builtin "object.__class__") "__get__" = some (some (.builtin "getset_descriptor.__get__"))
 htk:PySem.W.takesIn K (.builtin "object.__class__")=some true
 cf:uI K p.f
 cg:uI K p.g
 cl:uI K p.l
 fa:PySem.W.findIn K (.ref p.f) "__class__" = some (some (.builtin "object.__class__"))
 fm:PySem.W.mroIn K p.f (.type "object")=some true
 ga:PySem.W.findIn K (.ref p.g) "__class__" = some (some (.builtin "object.__class__"))
 gm:PySem.W.mroIn K p.g (.type "object")=some true
 la:PySem.W.findIn K (.ref p.l) "__class__" = some (some (.builtin "object.__class__"))
 lm:PySem.W.mroIn K p.l (.type "object")=some true
 ff:PySem.W.kitOne K (.ref p.f) (.ref p.f)=some true
 gf:PySem.W.kitOne K (.ref p.g) (.ref p.f)=some false
 gg:PySem.W.kitOne K (.ref p.g) (.ref p.g)=some true
 lf:PySem.W.kitOne K (.ref p.l) (.ref p.f)=some false
 lg:PySem.W.kitOne K (.ref p.l) (.ref p.g)=some false
 ll:PySem.W.kitOne K (.ref p.l) (.ref p.l)=some true
theorem Sy {p:yH}{ta tb:TE}{σ:St}{H:Hp}{Q:VK}{x:Addr}{S:Sk}{k:Int}(hX:jX p H x S)(hG:wD S)(hta:∀ Q':VK,Q' (.ref x) H->ta σ H Q')(htb:∀ Q':VK,(∀ H1,aW H H1->Q' (.int k) H1)->tb σ H Q')(K:∀ H2,aW H H2->Q (.bl (bY S k)) H2) :
  z7 p.f "may" (yG p.f) [] E0 ta (Ao tb IK) σ H Q∨z7 p.g "may" (zJ p.g) [] E0 ta (Ao tb IK) σ H Q∨z7 p.l "may" (xM p.l) [] E0 ta (Ao tb IK) σ H Q:=by
 cases S with
 | few cc =>
  obtain ⟨dx,hx⟩:=(show oJ p.f H x cc from hX)
  exact .inl (hta _ ⟨x,dx,_,rfl,hx,rfl,htb _ fun H1 s1=>⟨x,cc,k,rfl,⟨dx,s1 _ _ hx⟩,fun H2 s2=>K H2 (s1.trans s2)⟩⟩)
 | groups gs ms =>
  obtain ⟨dx,g,m0,hx,hg,hm0⟩:=(show vI p.g H x gs ms from hX)
  exact .inr (.inl (hta _ ⟨x,dx,_,rfl,hx,rfl,htb _ fun H1 s1=>⟨x,gs,ms,k,rfl,⟨dx,g,m0,s1 _ _ hx,s1 _ _ hg,s1 _ _ hm0⟩,hG,fun H2 s2=>K H2 (s1.trans s2)⟩⟩))
 | listed ks =>
  obtain ⟨ms,pm,so,dx,t,hx,ht⟩:=(show ∃ ms,ms.Perm ks/\ms.Pairwise (·<=·)/\CT p.l H x ms from hX)
  have ei:qL (.int k) (Is ms)=bY (.listed ks) k:=by
   show _=qL _ _;rw [Zu,gU,gU];exact pm.mem_iff
  exact .inr (.inr (hta _ ⟨x,dx,_,rfl,hx,rfl,htb _ fun H1 s1=>⟨x,ms,k,rfl,⟨dx,t,s1 _ _ hx,s1 _ _ ht⟩,by rw [ei]; exact K H1 s1⟩⟩))
end TP
namespace TG
open PySem L2 TD TP
open Builtin.Int (intBits)
structure fD (H:Hp)(a:Addr)(qs:List Addr)(xs:List (Int×Int)):Prop where
 lst:H a=some (.lst (qs.map V.ref))
 len:qs.length=xs.length
 each:∀ (i:Nat) q,qs[i]? = some q->Tq H q (xs.getD i (0,1))
theorem fD.same {H H':Hp}{a:Addr}{qs:List Addr}{xs:List (Int×Int)}(s:aW H H')(h:fD H a qs xs):fD H' a qs xs:=⟨s _ _ h.lst,h.len,fun i q hq=>s _ _ (h.each i q hq)⟩
theorem fD.at' {H:Hp}{a:Addr}{qs:List Addr}{xs:List (Int×Int)}(h:fD H a qs xs){k:Int}(h0:0<=k)(hk:k<(xs.length:Int)):∃ q,wH (qs.map V.ref) k=some (.ref q)/\Tq H q (xs.getD k.toNat (0,1)):=by
 have hl:=h.len;have hq:qs[k.toNat]? = some (qs[k.toNat]'(by omega)):=YL (by omega);refine ⟨_,?_,h.each _ _ hq⟩;have e:=jP (xs:=qs.map V.ref) (j:=k.toNat) (v:=V.ref (qs[k.toNat]'(by omega))) (by rw [Yi,hq]; rfl);rw [show ((k.toNat:Nat):Int)=k by omega] at e;exact e
def oV (xs:List (Int×Int))(b:Int):Int×Int:=xs.getD b.toNat (0,1)
def yN (x y:Int×Int):Prop:=x.1*y.2<y.1*x.2
instance (x y:Int×Int):Decidable (yN x y):=inferInstanceAs (Decidable (_<_))
def eX (xs:List (Int×Int))(ord:List Int)(b:Int):Nat->Nat
 | 0=>0
 | p+1=>if yN (oV xs (ord.getD p 0)) (oV xs b) then eX xs ord b p else p+1
theorem pI (xs:List (Int×Int))(ord:List Int)(b:Int):∀ p,eX xs ord b p<=p
 | 0=>YS _
 | p+1=>by
  unfold eX
  split
  ·exact aBw (pI xs ord b p)
  ·exact YS _
def fQ (xs:List (Int×Int))(o:List Int)(b:Int):List Int:=o.take (eX xs o b o.length)++b::o.drop (eX xs o b o.length)
def bH (xs:List (Int×Int)):Nat->List Int
 | 0=>[]
 | i+1=>fQ xs (bH xs i) (0+(i:Int))
theorem CQ (xs:List (Int×Int))(o:List Int)(b:Int):(fQ xs o b).length=o.length+1:=by
 have:=pI xs o b o.length;unfold fQ;rw [Y4,ZP,Yw,Z8];omega
theorem rT (xs:List (Int×Int)):∀ i,(bH xs i).length=i
 | 0=>rfl
 | i+1=>by show (fQ _ _ _).length=_; rw [CQ,rT]
theorem xN (xs:List (Int×Int))(o:List Int)(b:Int):(fQ xs o b).Perm (o++[b]):=by
 unfold fQ;refine (aBE).trans ?_;rw [Z6];exact (List.perm_append_singleton b o).symm
theorem gR (xs:List (Int×Int)):∀ i,(bH xs i).Perm (six i)
 | 0=>.refl _
 | i+1=>by
  rw [eF];exact (xN xs _ _).trans ((gR xs i).append_right _)
theorem fB (xs:List (Int×Int))(i:Nat)(b:Int)(h:b∈bH xs i):0<=b/\b<(i:Int):=dH ((gR xs i).mem_iff.mp h)
theorem Af (xs:List (Int×Int))(o:List Int)(b:Int):Is (fQ xs o b)=(Is o).take (eX xs o b o.length)++V.int b::(Is o).drop (eX xs o b o.length):=by
 unfold fQ;show (List.map V.int _)=_;rw [Yo,ZF,List.map_take,List.map_drop]
def fO (xs:List (Int×Int))(b:Int):Rat:=Sd.V (oV xs b)
theorem uP {xs:List (Int×Int)}(hp:∀ x∈xs,0<x.2)(a b:Int):yN (oV xs a) (oV xs b)↔fO xs a<fO xs b:=by
 have p:∀ b:Int,0<(oV xs b).2:=fun b=>by
  unfold oV
  by_cases h:b.toNat<xs.length
  ·rw [Y5,YL h];exact hp _ (ZK h)
  ·rw [Y5,Z2 (by omega)]
   decide
 exact Sd.V_lt (p a) (p b)
theorem nA {xs:List (Int×Int)}(hp:∀ x∈xs,0<x.2){o:List Int}{b:Int}(so:o.Pairwise fun x y=>fO xs y<=fO xs x):∀ p,p<=o.length->(∀ x∈o.take (eX xs o b p),fO xs b<=fO xs x)/\∀ x∈(o.take p).drop (eX xs o b p),fO xs x<=fO xs b
 | 0,_=>⟨(fun x h=>by unfold eX at h; simp at h),(fun x h=>by simp at h)⟩
 | p+1,hl=>by
  have ih:=nA hp so (b:=b) p (by omega);have ep:o[p]? = some (o[p]'(by omega)):=YL _;have eg:o.getD p 0=o[p]'(by omega):=by rw [Y5,ep]; rfl
  unfold eX
  by_cases h:yN (oV xs (o.getD p 0)) (oV xs b)
  ·rw [if_pos h];refine ⟨ih.1,fun x hx=>?_⟩;have lt:=(uP hp _ _).mp h;have le:=pI xs o b p;rw [take_snoc ep,aAF (by rw [Yw]; omega)] at hx;rcases Ye.mp hx with z | z
   ·exact ih.2 x z
   ·rw [YT.mp z,<- eg];exact aBx lt
  ·rw [if_neg h];refine ⟨fun x hx=>?_,(fun x hx=>by simp at hx)⟩;have ge:fO xs b<=fO xs (o[p]'(by omega)):=by
    have:=mt (uP hp _ _).mpr h;rw [eg] at this
    grind
   rw [take_snoc ep] at hx;rcases Ye.mp hx with z | z
   ·have s2:(o.take p++[o[p]'(by omega)]).Pairwise fun x y=>fO xs y<=fO xs x:=by rw [<- take_snoc ep]; exact so.sublist (aAU _ _)
    have:=(ZG.mp s2).2.2 x z _ (YT.mpr rfl)
    grind
   ·rw [YT.mp z];exact ge
theorem yE {xs:List (Int×Int)}(hp:∀ x∈xs,0<x.2){o:List Int}{b:Int}(so:o.Pairwise fun x y=>fO xs y<=fO xs x):(fQ xs o b).Pairwise fun x y=>fO xs y<=fO xs x:=by
 obtain ⟨h1,h2⟩:=nA hp so (b:=b) o.length (YS _);rw [Yz] at h2;unfold fQ;generalize eX xs o b o.length=p at *;have sp:(o.take p++o.drop p).Pairwise fun x y=>fO xs y<=fO xs x:=by rw [Z6]; exact so
 obtain ⟨s1,s2,s3⟩:=ZG.mp sp;refine ZG.mpr ⟨s1,aAt.mpr ⟨h2,s2⟩,fun x hx y hy=>?_⟩;rcases Yn.mp hy with e | e
 ·rw [e];exact h1 x hx
 ·exact s3 x hx y e
theorem kY {xs:List (Int×Int)}(hp:∀ x∈xs,0<x.2):∀ i,(bH xs i).Pairwise fun x y=>fO xs y<=fO xs x
 | 0=>Zn.nil
 | i+1=>yE hp (kY hp i)
def fZ (may:Int->Bool)(xs:List (Int×Int))(k b:Int):Int:=if yN (0,1) (oV xs b)/\may (Builtin.bitOr k (1*2^b.toNat))=true then Builtin.bitOr k (1*2^b.toNat) else k
def Cg (may:Int->Bool)(xs:List (Int×Int)):Int:=(bH xs xs.length).foldl (fZ may xs) 0
theorem qN:∀ (m:Fin 7) (k:Fin 64) (b:Fin 6),k.val<2^m.val->b.val<m.val->0<=Builtin.bitOr ((k.val:Nat):Int) (1*2^(((b.val:Nat):Int)).toNat)/\Builtin.bitOr ((k.val:Nat):Int) (1*2^(((b.val:Nat):Int)).toNat)<((2^m.val:Nat):Int):=by decide +kernel
theorem lO:∀ (m:Fin 7) (e:Fin 64),e.val<2^m.val->(six m.val).filter (hb ((e.val:Nat):Int))=eQ ((e.val:Nat):Int):=by decide +kernel
theorem Do {m:Nat}(m6:m<=6){x:Int}(h:x∈six m):x∈six 6:=by
 have:=dH h;exact ZW.mpr ⟨x.toNat,ZZ.mpr (by omega),by omega⟩
theorem pos_iff {xs:List (Int×Int)}(hp:∀ x∈xs,0<x.2)(b:Int):yN (0,1) (oV xs b)↔0<fO xs b:=by
 have p:0<(oV xs b).2:=by
  unfold oV
  by_cases h:b.toNat<xs.length
  ·rw [Y5,YL h];exact hp _ (ZK h)
  ·rw [Y5,Z2 (by omega)]
   decide
 have z:=Sd.V_lt (x:=(0,1)) (y:=oV xs b) (by decide) p;have v0:Sd.V (0,1)=0:=by unfold Sd.V; grind
 rw [v0] at z;exact z
def Bb (xs:List (Int×Int))(k:Int):Rat:=((eQ k).map (fO xs)).sum
theorem tH (w:Int->Rat)(A:Int->Bool):∀ l:List Int,sw w A l=((l.filter A).map w).sum
 | []=>rfl
 | b::l=>by
  rw [iC,tH w A l,Zq];cases A b with
  | true=>simp
  | false=>simp; grind
theorem Fv {l1 l2:List Rat}(h:l1.Perm l2):l1.sum=l2.sum:=by
 induction h with
 | nil=>rfl
 | cons x _ ih=>rw [aAr,aAr,ih]
 | swap x y l=>simp only [aAr]; grind
 | trans _ _ a b=>exact a.trans b
def z8:Sp:=fun vs H Q _=>∃ (a:Addr) (qs:List Addr) (xs:List (Int×Int)),vs=[.ref a]/\fD H a qs xs/\xs.length<=6/\(∀ x∈xs,intBits x.1<=4000/\intBits x.2<=4000)/\∀ r H',aW H H'->H r=none->H' r=some (.lst (Is (bH xs xs.length)))->Q (.ref r) H'
theorem Fd {xs:List (Int×Int)}(h:∀ x∈xs,intBits x.1<=4000/\intBits x.2<=4000)(b:Int):intBits (oV xs b).1<=4000/\intBits (oV xs b).2<=4000:=by
 unfold oV
 by_cases hb:b.toNat<xs.length
 ·rw [Y5,YL hb];exact h _ (ZK hb)
 ·rw [Y5,Z2 (by omega)];exact ⟨by decide,by decide⟩
end TG
namespace L2
open PySem PySem.Spec PyProof.Rows
theorem cL {X:Cx}{K:PySem.W.Frag}(h:X.K=K):cN X (.type "tuple") (fun xs H Q=>∃ p ys,xs=[.ref p]/\((bJ K H p ys/\∀ l,H l=none->Q (.ref l) (bN H l (.tup ys)))∨(dB K H p ys/\Q (.ref p) H))):=by subst h; exact q8
structure QE (X:Cx)(e:Expr)(t:TE):Prop where
 h:PE X e t
section
variable {X:Cx}{pos pos' p p2:Pos}{e a b:Expr}{es:List Expr}{te ta tb:TE}{t:TA}{x:Str}{st:Stmt}{rest:List Stmt}{ts us:TS}
theorem qv (i:Nat){x:Str}{pos:Pos}(hN:X.N[i]? = some x:=by rfl)(hv:Pb X.env.scope x:=by first | exact Or.inl rfl | exact Or.inr (Or.inl rfl) | exact Or.inr (Or.inr rfl))(hd:(x==("__debug__" : Str))=false:=by decide)
  (hcd:(x==("__classdict__" : Str))=false:=by decide):QE X (.Name x pos) (KY i):=⟨Ej hN hv hd hcd⟩
end
section
variable {prog:Program}{w:World}{A:Around}{E:Value->Shared->Prop}{s:Shared}{a₀:Array PyProof.Rows.Keyed}
theorem DG {st:SortSt}{m:Nat}{Q:Option Nat->SortSt->Prop}(h0:IntKeys a₀)(hn:m<=a₀.size)(h2:2<=m)(hB:SBase a₀ st)(hs:∀ i j,i<j->j<m->K (arrOf st) j<K (arrOf st) i)(h:∀ st',SBase a₀ st'->SortedTo (arrOf st') m->Q (some m) st') :
  wpS (model prog w) A E s (countRun' 0 m) Q st:=by
 rw [countRun0_eq];refine wpS_bind (wpS_ascLoop h0 hn (YS 1) (by omega) hB (fun i j hij hj=>by have:i=j:=(by omega); subst this; exact Y_ _) fun n n1 n2 hsn _=>?_);have e:n=1:=by
  by_cases z:2<=n
  ·have a:=hsn 0 1 (by omega) (by omega);have b:=hs 0 1 (by omega) (by omega);omega
  ·omega
 subst e;dsimp only;rw [if_neg (by simp; omega),if_neg (by omega)];unfold descPart;refine wpS_bind (wpS_lift (wpAny_rule ⟨rfl,?_⟩));have loop:wpS (model prog w) A E s (descLoop (1+1) m) (fun c st'=>c=(none,m,0)/\st'=st) st:=by
  unfold descLoop;refine wpS_forRange (I:=fun x c st'=>c=(none,x,0)/\st'=st) ?step ?fin ⟨rfl,rfl⟩
  case fin =>
   rintro c st' ⟨rfl,rfl⟩;rw [show max (1+1) m=m by omega];exact ⟨rfl,rfl⟩
  case step =>
   rintro x c st' hax hxn ⟨rfl,rfl⟩;dsimp only;refine wpS_bind (wpS_ltK hB h0 (by omega) (by omega) ?_);have hless:=hs (x-1) x (by omega) hxn;simp only [hless,decide_true,if_true];rw [if_neg (by omega)];exact wpS_pure ⟨rfl,rfl⟩
 refine wpS_bind (wpS_mono loop ?_);rintro c st' ⟨rfl,rfl⟩;dsimp only;rw [if_neg (by omega)];unfold tail3;have hsz:m<=(arrOf st').size:=by rw [hB.size]; omega
 refine wpS_bind (wpS_reverse ?_);have hB':SBase a₀ (setArr st' (mirror (arrOf st') 0 m ((m-0)/2))):=hB.setArr (mirror_perm _ _ _ _);have so:SortedTo (arrOf (setArr st' (mirror (arrOf st') 0 m ((m-0)/2)))) m:=by
  intro i j hij hj;show K (mirror (arrOf st') 0 m ((m-0)/2)) i<=K (mirror (arrOf st') 0 m ((m-0)/2)) j;rw [K_mirror hsz,K_mirror hsz,if_pos (by omega),if_pos (by omega)]
  by_cases e:i=j
  ·subst e; exact Y_ _
  ·exact Yt (hs _ _ (by omega) (by omega))
 refine wpS_bind (wpS_ascLoop h0 hn (by omega) (YS m) hB' so fun k k1 k2 _ _=>?_);obtain rfl:k=m:=by omega
 exact wpS_pure (h _ hB' so)
theorem Ih {st:SortSt}{Q:Unit->SortSt->Prop}(h0:IntKeys a₀)(hB:SBase a₀ st)(h64:a₀.size=64)(hs:∀ i j,i<j->j<a₀.size->K (arrOf st) j<K (arrOf st) i)
  (h:∀ st',(arrOf st').Perm a₀->failedOf st'=none->SortedTo (arrOf st') a₀.size->Q () st'):wpS (model prog w) A E s sortRuns' Q st:=by
 rw [sortRuns'_eq];refine wpS_bind (wpS_get ?_);have hm:minRun' 64 64 0=32:=by decide
 simp only [hB.size,h64,hm];rw [h64] at hs;refine wpS_bind (wpS_mono (wpS_forRange (I:=fun x c st'=>(x=0/\c=(none,0)/\st'=st)∨(1<=x/\c=(none,64)/\∃ s2,SBase a₀ s2/\SortedTo (arrOf s2) 64/\st'=setPending s2 ((pendingOf s2).push (0,64,0)))) (Q:=fun c st'=>c=(none,64)/\∃ s2,SBase a₀ s2/\SortedTo (arrOf s2) 64/\st'=setPending s2 ((pendingOf s2).push (0,64,0))) ?step ?fin (.inl ⟨rfl,rfl,rfl⟩)) ?post)
 case fin =>
  rintro c st' (⟨hx,_,_⟩ | ⟨_,hc,hD⟩)
  ·omega
  ·exact ⟨hc,hD⟩
 case step =>
  rintro x c st' _ hx (⟨rfl,rfl,rfl⟩ | ⟨hx1,rfl,hD⟩)
  ·dsimp only;rw [if_neg (by omega)];simp only [aBy,Zm];refine wpS_bind (DG h0 (by omega) (by decide) hB hs fun s2 hB2 hs2=>?_);dsimp only;rw [if_neg (by decide)];refine wpS_bind (wpS_get ?_);rw [show (pendingOf s2).back? = none by rw [hB2.pend]; rfl];dsimp only;exact wpS_bind (wpS_modify (wpS_pure (.inr ⟨by omega,rfl,s2,hB2,hs2,rfl⟩)))
  ·dsimp only;rw [if_pos (YS _)];exact wpS_pure ⟨rfl,hD⟩
 case post =>
  rintro c st' ⟨rfl,s2,hB2,hs2,rfl⟩;dsimp only;refine wpS_bind (wpS_mono (wpS_forRange (I:=fun _ c st''=>st''=setPending s2 ((pendingOf s2).push (0,64,0))/\c=(none,())) (Q:=fun c st''=>st''=setPending s2 ((pendingOf s2).push (0,64,0))/\c=(none,())) ?_ (fun _ _ hh=>hh) ⟨rfl,rfl⟩) ?_)
  ·rintro x c st'' _ _ ⟨rfl,rfl⟩;refine wpS_bind (wpS_get ?_);rw [if_pos (by show ((pendingOf s2).push (0,64,0)).size<=1; rw [hB2.pend]; exact YS 1)];exact wpS_pure ⟨rfl,rfl⟩
  ·rintro c st'' ⟨rfl,rfl⟩;exact wpS_pure (h _ hB2.perm hB2.failed (by rw [h64]; exact hs2))
theorem qO {vs:List Value}{ns:List Int}(hI:IntsAre vs ns)(hs:ns.Pairwise (· > ·)):∀ i j,i<j->j<(pairsOf vs).size->K (pairsOf vs) j<K (pairsOf vs) i:=by
 intro i j hij hj;have hi:i<(pairsOf vs).size:=by omega
 have hn:=hI.nums;have kk:∀ (k:Nat) (hk:k<(pairsOf vs).size),K (pairsOf vs) k=ns[k]'(by rw [<- hn,YQ]; rw [pairsOf_size] at hk; exact hk):=fun k hk=>by
  rw [K_eq hk];simp only [pairsOf,Array.getElem_zip,Ys];have e:ns[k]'(by rw [<- hn,YQ]; rw [pairsOf_size] at hk; exact hk)=(vs.map numOf)[k]'(by rw [YQ]; rw [pairsOf_size] at hk; exact hk):=by simp only [hn]
  rw [e,aA4]
 rw [kk i hi,kk j hj];exact Yu.mp hs i j _ _ hij
theorem Hy {a:Addr}{vs:List Value}{ns:List Int}{n:Nat}{P:PySem.Fin->Shared->Prop}(ho:s.heap.get? a=some (seqObj "list" vs.toArray n))(hI:IntsAre vs ns)(h64:vs.length=64)(hs:ns.Pairwise (· > ·))
  (h:∀ (out:Array Value) (ns':List Int),IntsAre out.toList ns'->ns'.Perm ns->ns'.Pairwise (·<=·)->P (.done (.ret .none)) { s with heap:=sortedHeap s.heap a vs out }) :
  wpAny (model prog w) A (Builtin.«list.sort» ⟨[.ref a],[]⟩) P E s:=by
 rw [list_sort_plain];have ha:a<s.heap.objs.size:=YX ho;have hl:vs.toArray.size=64:=by simpa using h64
 refine wpAny_bind (listItems_at ho rfl (wpAny_bind (listUpdate_at ho rfl ?_ (by rw [hl,sizeLine_eq]; decide) (Yq _))));obtain ⟨e1,ho1⟩:∃ e1,(s.heap.update a (Obj.mapSeq fun _=>#[])).get? a=some (seqObj "list" #[] e1):=⟨_,get?_update_seq ho (fun _=>#[])⟩
 refine wpAny_bind (seqEpoch_at ho1 rfl (wpAny_bind (wpAny_newTuple (wpAny_bind (wpAny_newList (wpAny_holding ?_))) (by rw [show vs.toArray.toList=vs from rfl,h64,sizeLine_eq]; decide))));have ho6:(((s.heap.update a (Obj.mapSeq fun _=>#[])).push (seqObj "tuple" vs.toArray 0)).push (seqObj "list" #[] 0)).get? a=some (seqObj "list" #[] e1):=YK _ (YK _ ho1);show wpAny (model prog w) A _ P E { s with heap:=((s.heap.update a (Obj.mapSeq fun _=>#[])).push (seqObj "tuple" vs.toArray 0)).push (seqObj "list" #[] 0) };dsimp only;rw [if_neg (by rw [hl]; decide),if_neg (by rw [hl]; decide)];obtain ⟨v1,v2,rest,rfl⟩:∃ v1 v2 rest,vs=v1::v2::rest:=by
  match vs,h64 with
  | v1::v2::rest,_=>exact ⟨v1,v2,rest,rfl⟩
 rw [keyKind_ints hI];refine wpAny_bind (wpAny_pure ?_);refine wpAny_bind (wpAny_mono (Ih (a₀:=pairsOf (v1::v2::rest)) (st:=SortSt.mk' oneType' ((v1::v2::rest).toArray.zip (v1::v2::rest).toArray) #[] 7 none)
  (Q:=fun _ st'=>(arrOf st').Perm (pairsOf (v1::v2::rest))/\failedOf st'=none/\SortedTo (arrOf st') (pairsOf (v1::v2::rest)).size)
  hI.intKeys ⟨aBs.refl _,rfl,rfl,rfl⟩ (by rw [pairsOf_size]; exact h64) (qO hI hs) fun st' a1 a2 a3=>⟨a1,a2,a3⟩) ?_ fun _ _ e=>e)
 rintro ⟨⟨⟩,st'⟩ s' ⟨rfl,hp,hf,hso⟩;dsimp only;refine wpAny_bind (seqEpoch_at ho6 rfl (wpAny_bind (listUpdate_at ho6 rfl ?_ (Yq _) (Y7 (aAN ((aBf ..).trans (hp.size_eq.trans ((pairsOf_size _).trans h64)))) (by rw [sizeLine_eq]; decide)))));rw [hf];simp only [bne_self_eq_false,Y6,if_false];obtain ⟨ns',b1,b2,b3⟩:=sorted_out hI hp hso;exact wpAny_pure (h _ ns' b1 b2 b3)
end
section
variable {X:Cx}
def yM (ns:List Int):Prop:=ns.length<64∨(ns.length=64/\ns.Pairwise (· > ·))
theorem qP:cN X (.builtin "sorted") (fun xs H Q=>∃ (p:Addr) (ns:List Int),xs=[.ref p]/\(bJ X.K H p (ns.map V.int)∨dB X.K H p (ns.map V.int))/\yM ns ∧
  ∀ (l:Addr) (ms:List Int),H l=none->ms.Perm ns->ms.Pairwise (·<=·)->Q (.ref l) (bN H l (.lst (ms.map V.int)))):=by
 intro pins s σ H xs us Q I r h;obtain ⟨p,ns,rfl,hq,h64,q⟩:=h;obtain ⟨u,rfl,ru⟩:=vals1 r;cases (show u=Value.ref p from ru);obtain ⟨T,hT,o,its,n,ho,hc,hd,rv,hz⟩:∃ T,(T = "list"∨T = "tuple")/\∃ (o:Obj) (its:List Value) (n:Nat),s.heap.get? p=some o/\o.cls=.type T/\o.data=.seq its.toArray n/\bL (ns.map V.int) its/\(ns.map V.int).length<=sizeLine:=by
  rcases hq with hq | hq
  ·obtain ⟨its,rv,pl,hz⟩:=I.list hq;obtain ⟨o,ho,hc,n,hd⟩:=pl.isList;exact ⟨"list",.inl rfl,o,its,n,ho,hc,hd,rv,hz⟩
  ·obtain ⟨its,rv,pl,hz⟩:=I.tuple hq;obtain ⟨o,ho,hc,n,hd⟩:=pl;exact ⟨"tuple",.inr rfl,o,its,n,ho,hc,hd,rv,hz⟩
 have hlen:=rv.length;have hi:=intsAre_of rv;have hln:its.length=ns.length:=hi.length;refine Calls.call_function_entry kind_sorted plain_sorted entry_sorted (args_sorted1 _) ?_;unfold Builtin.«sorted»;refine wpAny_bind (m:=checkCount "sorted" 1 1 _) (wpAny_pure ?_);refine wpAny_bind (vH hT ho hc hd (by omega) fun h' kp=>?_);refine wpAny_bind (wpAny_newList ?_ (by omega));have hoL:(h'.push (seqObj "list" its.toArray 0)).get? h'.objs.size=some (seqObj "list" its.toArray 0):=YZ _ rfl;have fin:∀ (out:Array Value) (ns':List Int),IntsAre out.toList ns'->ns'.Perm ns->ns'.Pairwise (·<=·)->EP X pins σ Q (.ref h'.objs.size) { s with heap:=sortedHeap (h'.push (seqObj "list" its.toArray 0)) h'.objs.size its out }:=fun out ns' a1 a2 a3=>by
  have I1:aQ X pins σ H { s with heap:=h' }:=I.kept (t':=s.toks) kp;obtain ⟨ep2,eo⟩:=sortedHeap_at (out:=out) hoL;have hlo:out.toList.length=ns'.length:=a1.length;have hl2:ns'.length=ns.length:=a2.length_eq;refine ⟨.ref h'.objs.size,bN H h'.objs.size (.lst (ns'.map V.int)),I1.laid (t':=s.toks) (fun b u q=>?_) (YS _) ⟨by rw [YQ]; omega,out.toList,ep2,gC a1,by rw [aAl]; exact eo⟩,rfl,q _ _ (I1.hok.fresh (YS _)) a2 a3⟩;rw [sortedHeap_old (Yd (YX q)) (by rw [Zg]; exact aAh (YX q))];exact YK _ q
 rcases h64 with h64 | ⟨h64,hs⟩
 ·refine wpAny_bind (wpAny_holding (wpAny_call_entry slot_list_sort ⟨_,hoL,rfl⟩ entry_list_sort (list_sort_tree hoL hi (by omega) fun out ns' a1 a2 a3=>⟨_,rfl,?_⟩) (args_list_sort _)));exact wpAny_pure ⟨_,rfl,fin out ns' a1 a2 a3⟩
 ·refine wpAny_bind (wpAny_holding (wpAny_call_entry slot_list_sort ⟨_,hoL,rfl⟩ entry_list_sort (Hy hoL hi (by omega) hs fun out ns' a1 a2 a3=>⟨_,rfl,?_⟩) (args_list_sort _)));exact wpAny_pure ⟨_,rfl,fin out ns' a1 a2 a3⟩
end
end L2
namespace L2
open PySem
theorem pJ {X:Cx}{K:PySem.W.Frag}(hK:X.K=K):cN X (.builtin "sorted") (fun xs H Q=>∃ (p:Addr) (ns:List Int),xs=[.ref p]/\(bJ K H p (ns.map V.int)∨dB K H p (ns.map V.int))/\yM ns ∧
  ∀ (l:Addr) (ms:List Int),H l=none->ms.Perm ns->ms.Pairwise (·<=·)->Q (.ref l) (bN H l (.lst (ms.map V.int)))):=by subst hK; exact qP
end L2
namespace TP
open PySem L2 TD
structure HY (ks:List Int):Prop where
 l1:1<=ks.length
 few:yM ks
 nd:ks.Nodup
 k:∀ k∈ks,0<=k/\k<=63
theorem HY.l64 {ks:List Int}(g:HY ks):ks.length<=64:=by rcases g.few with h | h <;> omega
def Dh (C:Addr):Sp:=fun vs H Q _=>∃ (x dx a:Addr) (ks:List Int),vs=[.ref x,.ref a]/\H x=some (.ins C dx [])/\H a=some (.lst (Is ks))/\HY ks ∧
 ∀ k ms H',aW H H'->ms.Perm ks->ms.Pairwise (·<=·)->H' k=some (.tup (Is ms))->Q .non (bN H' x (.ins C dx [("sets",.ref k)]))
end TP
namespace Mg
open PySem PyProof.Rows
def cZ:Bool->Keyed->Array Keyed->Nat->Nat->Nat->StateT SortSt Sem (Option Nat):=sortPriv% PySem.Builtin.gallop
def lW:Array Keyed->Array Keyed->StateT SortSt Sem (Array Keyed):=sortPriv% PySem.Builtin.mergeLo
def lG:Array Keyed->Array Keyed->StateT SortSt Sem (Array Keyed):=sortPriv% PySem.Builtin.mergeHi
def iB (left:Bool)(key:Keyed)(arr:Array Keyed)(base i:Nat):StateT SortSt Sem (Option Bool):=do
  let x <- elem' arr (base+i)
  if left then lt' x key else return (<- lt' key x).map (!·)
def Hz (left:Bool)(key:Keyed)(arr:Array Keyed)(base n lo0 hi0:Nat):StateT SortSt Sem (Option Nat):=do
 let mut lo:=lo0
 let mut hi:=hi0
 for _ in [0:n] do
  if lo ≥ hi then break
  let m:=lo+(hi-lo)/2
  let some more <- iB left key arr base m | return none
  if more then lo:=m+1 else hi:=m
 return some hi
theorem yQ (left:Bool)(key:Keyed)(arr:Array Keyed)(base n hint:Nat):cZ left key arr base n hint=(do
 let mut lastofs:=0
 let mut ofs:=1
 let some right <- iB left key arr base hint | return none
 if right then
  let maxofs:=n-hint
  for _ in [0:n] do
   if ofs ≥ maxofs then break
   let some more <- iB left key arr base (hint+ofs) | return none
   if !more then break
   lastofs:=ofs
   ofs:=2*ofs+1
  Hz left key arr base n (hint+lastofs+1) (hint+min ofs maxofs)
 else
  let maxofs:=hint+1
  for _ in [0:n] do
   if ofs ≥ maxofs then break
   let some found <- iB left key arr base (hint-ofs) | return none
   if found then break
   lastofs:=ofs
   ofs:=2*ofs+1
  Hz left key arr base n (hint+1-min ofs maxofs) (hint-lastofs)):=rfl
def ky (p:Keyed):Int:=numOf p.1
def Cv (p:Keyed):Prop:=∃ n t,p.1=.int n t
section
variable {prog:Program}{w:World}{A:Around}{E:Value->Shared->Prop}{s:Shared}
theorem uO {st:SortSt}{p q:Keyed}{Q:Option Bool->SortSt->Prop}(hk:kindOf st=oneType')(hp:Cv p)(hq:Cv q)(h:Q (some (decide (ky p<ky q))) st):wpS (model prog w) A E s (lt' p q) Q st:=by
 obtain ⟨a,t,ea⟩:=hp;obtain ⟨b,u,eb⟩:=hq;have e1:ky p=a:=by unfold ky; rw [ea]; rfl
 have e2:ky q=b:=by unfold ky; rw [eb]; rfl
 rw [e1,e2] at h;rw [lt'_eq];refine wpS_bind (wpS_get ?_);rw [hk,keyLt'_oneType,ea,eb];refine wpS_bind (wpS_lift (wpAny_attempt (oneLt_int ⟨rfl,?_⟩)));exact wpS_pure h
theorem bM {st:SortSt}{xs:Array Keyed}{i:Nat}{Q:Keyed->SortSt->Prop}(hi:i<xs.size)(h:Q xs[i] st):wpS (model prog w) A E s (elem' xs i) Q st:=by
 rw [elem'_eq,getElem?_pos xs i hi];exact wpS_pure h
def Bj (left:Bool)(k:Int)(x:Int):Bool:=if left then decide (x<k) else decide (x<=k)
theorem xZ {st:SortSt}{left:Bool}{key:Keyed}{xs:Array Keyed}{base i:Nat}{Q:Option Bool->SortSt->Prop}(hk:kindOf st=oneType')(hp:Cv key)(hx:∀ p∈xs,Cv p)(hi:base+i<xs.size)
  (h:Q (some (Bj left (ky key) (ky xs[base+i]))) st):wpS (model prog w) A E s (iB left key xs base i) Q st:=by
 unfold iB;refine wpS_bind (bM hi ?_);have hI:=hx _ (ZJ hi);unfold Bj at h;cases left with
 | true =>
  rw [if_pos rfl] at h ⊢;exact uO hk hI hp h
 | false =>
  simp only [Y6,if_false] at h ⊢;refine wpS_bind (uO hk hp hI ?_);refine wpS_pure ?_;have e:Option.map (fun x=>!x) (some (decide (ky key<ky xs[base+i])))=some (decide (ky xs[base+i]<=ky key)):=by
   simp only [Option.map_some]
   congr 1
   by_cases z:ky key<ky xs[base+i]
   ·rw [decide_eq_true z,decide_eq_false (by omega)]; rfl
   ·rw [decide_eq_false z,decide_eq_true (by omega)]; rfl
  rw [e];exact h
theorem xO {st:SortSt}{left:Bool}{key:Keyed}{xs:Array Keyed}{base n hint:Nat}{Q:Option Nat->SortSt->Prop}(hk:kindOf st=oneType')(hp:Cv key)(hx:∀ p∈xs,Cv p)(hn:base+n<=xs.size)(hh:hint<n)
  (f:Nat->Bool) (hf:∀ i (hi:base+i<xs.size),i<n->f i=Bj left (ky key) (ky xs[base+i])) (dn:∀ i j,i<=j->j<n->f j=true->f i=true)
  (h:∀ k,k<=n->(∀ i,i<k->f i=true)->(∀ i,k<=i->i<n->f i=false)->Q (some k) st):wpS (model prog w) A E s (cZ left key xs base n hint) Q st:=by
 have by_:∀ {i:Nat}{R:Option Bool->SortSt->Prop},i<n->R (some (f i)) st->wpS (model prog w) A E s (iB left key xs base i) R st:=fun {i R} hi hr =>
  xZ hk hp hx (by omega) (by rw [<- hf i (by omega) hi]; exact hr)
 have up:∀ i j,i<=j->j<n->f i=false->f j=false:=fun i j h1 h2 h3=>by
  cases z:f j with
  | false=>rfl
  | true=>rw [dn i j h1 h2 z] at h3; cases h3
 have fin:∀ lo hi:Nat,lo<=hi->hi<=n->(∀ i,i<lo->f i=true)->(∀ i,hi<=i->i<n->f i=false) ->
   wpS (model prog w) A E s (Hz left key xs base n lo hi) Q st:=by
  intro lo hi h1 h2 h3 h4;unfold Hz;refine wpS_bind (wpS_mono (wpS_forRange (I:=fun x c st'=>st'=st/\∃ lo hi,c=(none,lo,hi)/\lo<=hi/\hi<=n/\hi-lo<=n-x/\(∀ i,i<lo->f i=true)/\(∀ i,hi<=i->i<n->f i=false))
   (Q:=fun c st'=>st'=st/\∃ k lo,c=(none,lo,k)/\k<=n/\(∀ i,i<k->f i=true)/\(∀ i,k<=i->i<n->f i=false)) ?step ?fin ⟨rfl,lo,hi,rfl,h1,h2,by omega,h3,h4⟩) ?post)
  case post =>
   rintro c st' ⟨rfl,k,lo,rfl,a1,a2,a3⟩;exact wpS_pure (h k a1 a2 a3)
  case fin =>
   rintro c st' ⟨rfl,lo,hi,rfl,a1,a2,a3,a4,a5⟩;have e:lo=hi:=by omega
   subst e;exact ⟨rfl,lo,lo,rfl,a2,a4,a5⟩
  case step =>
   rintro x c st' _ hx ⟨rfl,lo,hi,rfl,a1,a2,a3,a4,a5⟩;dsimp only
   by_cases z:lo ≥ hi
   ·rw [if_pos z];have e:lo=hi:=by omega
    subst e;exact wpS_pure ⟨rfl,lo,lo,rfl,a2,a4,a5⟩
   ·rw [if_neg z];refine wpS_bind (by_ (by omega) ?_);dsimp only;cases q:f (lo+(hi-lo)/2) with
    | true =>
     rw [if_pos rfl];exact wpS_pure ⟨rfl,_,_,rfl,by omega,a2,by omega,fun i hi'=>dn i _ (by omega) (by omega) q,a5⟩
    | false =>
     simp only [Y6,if_false];exact wpS_pure ⟨rfl,_,_,rfl,by omega,by omega,by omega,a4,fun i h5 h6=>up _ i h5 h6 q⟩
 rw [yQ];refine wpS_bind (by_ hh ?_);dsimp only;cases q:f hint with
 | true =>
  rw [if_pos rfl];refine wpS_bind (wpS_mono (wpS_forRange (I:=fun x c st'=>st'=st/\∃ la of,c=(none,la,of)/\x+1<=of/\la<of/\hint+la<n/\f (hint+la)=true)
   (Q:=fun c st'=>st'=st/\∃ la of,c=(none,la,of)/\la<of/\hint+la<n/\f (hint+la)=true/\(n-hint<=of∨(of<n-hint/\f (hint+of)=false))) ?step ?fin ⟨rfl,0,1,rfl,by omega,by omega,by omega,q⟩) ?post)
  case post =>
   rintro c st' ⟨rfl,la,of,rfl,a1,a2,a3,a4⟩;dsimp only;refine fin (hint+la+1) (hint+min of (n-hint)) (by omega) (by omega) (fun i hi=>dn i _ (by omega) a2 a3) fun i h1 h2=>?_;rcases a4 with a4 | ⟨a4,a5⟩
   ·omega
   ·exact up _ i (by omega) h2 a5
  case fin =>
   rintro c st' ⟨rfl,la,of,rfl,a1,a2,a3,a4⟩;exact ⟨rfl,la,of,rfl,a2,a3,a4,.inl (by omega)⟩
  case step =>
   rintro x c st' _ hx' ⟨rfl,la,of,rfl,a1,a2,a3,a4⟩;dsimp only
   by_cases z:of ≥ n-hint
   ·rw [if_pos z];exact wpS_pure ⟨rfl,la,of,rfl,a2,a3,a4,.inl z⟩
   ·rw [if_neg z];refine wpS_bind (by_ (by omega) ?_);dsimp only;cases q2:f (hint+of) with
    | true =>
     simp only [aAD,Y6,if_false];exact wpS_pure ⟨rfl,of,2*of+1,rfl,by omega,by omega,by omega,q2⟩
    | false =>
     simp only [Bool.not_false,if_true];exact wpS_pure ⟨rfl,la,of,rfl,a2,a3,a4,.inr ⟨by omega,q2⟩⟩
 | false =>
  simp only [Y6,if_false];refine wpS_bind (wpS_mono (wpS_forRange (I:=fun x c st'=>st'=st/\∃ la of,c=(none,la,of)/\x+1<=of/\la<of/\la<=hint/\f (hint-la)=false)
   (Q:=fun c st'=>st'=st/\∃ la of,c=(none,la,of)/\la<of/\la<=hint/\f (hint-la)=false/\(hint+1<=of∨(of<hint+1/\f (hint-of)=true))) ?step ?fin ⟨rfl,0,1,rfl,by omega,by omega,by omega,q⟩) ?post)
  case post =>
   rintro c st' ⟨rfl,la,of,rfl,a1,a2,a3,a4⟩;dsimp only;refine fin (hint+1-min of (hint+1)) (hint-la) (by omega) (by omega) (fun i hi=>?_) fun i h1 h2=>up _ i h1 h2 a3;rcases a4 with a4 | ⟨a4,a5⟩
   ·omega
   ·exact dn i _ (by omega) (by omega) a5
  case fin =>
   rintro c st' ⟨rfl,la,of,rfl,a1,a2,a3,a4⟩;exact ⟨rfl,la,of,rfl,a2,a3,a4,.inl (by omega)⟩
  case step =>
   rintro x c st' _ hx' ⟨rfl,la,of,rfl,a1,a2,a3,a4⟩;dsimp only
   by_cases z:of ≥ hint+1
   ·rw [if_pos z];exact wpS_pure ⟨rfl,la,of,rfl,a2,a3,a4,.inl z⟩
   ·rw [if_neg z];refine wpS_bind (by_ (by omega) ?_);dsimp only;cases q2:f (hint-of) with
    | false =>
     simp only [Y6,if_false];exact wpS_pure ⟨rfl,of,2*of+1,rfl,by omega,by omega,by omega,q2⟩
    | true =>
     rw [if_pos rfl];exact wpS_pure ⟨rfl,la,of,rfl,a2,a3,a4,.inr ⟨by omega,q2⟩⟩
end
def SL (l:List Keyed):Prop:=l.Pairwise fun p q=>ky p<=ky q
theorem m5 {l m:List Keyed}:SL (l++m)↔SL l/\SL m/\∀ x∈l,∀ y∈m,ky x<=ky y:=ZG
theorem vA {ol xs r l:List Keyed}(h1:SL (ol++(xs++r)))(h2:SL (ol++l))(h:∀ x∈xs,∀ y∈l,ky x<=ky y):SL ((ol++xs)++l):=by
 rw [<- Yl,m5] at h1;rw [m5] at h2 ⊢;refine ⟨h1.1,h2.2.1,fun x hx y hy=>?_⟩;rcases Ye.mp hx with z | z
 ·exact h2.2.2 x z y hy
 ·exact h x z y hy
theorem uD {rl xs r l:List Keyed}(h1:SL ((r++xs)++rl))(h2:SL (l++rl))(h:∀ y∈l,∀ x∈xs,ky y<=ky x):SL (l++(xs++rl)):=by
 rw [Yl,m5] at h1;rw [m5] at h2 ⊢;refine ⟨h2.1,h1.2.1,fun y hy x hx=>?_⟩;rcases Ye.mp hx with z | z
 ·exact h y hy x z
 ·exact h2.2.2 y hy x z
theorem dW {α:Type}(xs:Array α)(i j:Nat):(xs.extract i j).toList=(xs.toList.drop i).take (j-i):=by simp [List.extract]
theorem fL {xs:Array Keyed}{i:Nat}{x:Keyed}(h:x∈xs.toList.drop i):∃ j,∃ hj:j<xs.size,i<=j/\x=xs[j]:=by
 obtain ⟨k,hk,e⟩:=ZR.mp h;rw [Z8] at hk;refine ⟨i+k,?_,Nat.le_add_right _ _,?_⟩
 ·rw [YW] at hk; omega
 ·rw [<- e,aAi,ZL]
theorem nC {xs:Array Keyed}{i k:Nat}{x:Keyed}(h:x∈(xs.toList.drop i).take k):∃ j,∃ hj:j<xs.size,i<=j/\j<i+k/\x=xs[j]:=by
 obtain ⟨m,hm,e⟩:=ZR.mp h;rw [Yw,Z8,YW] at hm;refine ⟨i+m,by omega,by omega,by omega,?_⟩;rw [<- e,aAw,aAi,ZL]
theorem kJ {xs:Array Keyed}{k:Nat}{x:Keyed}(h:x∈xs.toList.take k):∃ j,∃ hj:j<xs.size,j<k/\x=xs[j]:=by
 obtain ⟨m,hm,e⟩:=ZR.mp h;rw [Yw,YW] at hm;exact ⟨m,by omega,by omega,by rw [<- e,aAw,ZL]⟩
theorem dZ {xs:Array Keyed}(h:SL xs.toList){i j:Nat}(hj:j<xs.size)(hij:i<=j):ky (xs[i]'(by omega))<=ky xs[j]:=by
 by_cases e:i=j
 ·subst e; exact Y_ _
 ·exact Yu.mp h i j (by rw [YW]; omega) (by rw [YW]; omega) (by omega)
structure ML (a b out:Array Keyed)(ia ib:Nat):Prop where
 pa:SL (out.toList++a.toList.drop ia)
 pb:SL (out.toList++b.toList.drop ib)
 pm:(out.toList++(a.toList.drop ia++b.toList.drop ib)).Perm (a.toList++b.toList)
def Ar (a b r:Array Keyed):Prop:=SL r.toList/\r.toList.Perm (a.toList++b.toList)
section
variable {a b out out':Array Keyed}{ia ib k:Nat}
theorem ML.mvB {ib':Nat}{xs:List Keyed}(m:ML a b out ia ib)(e:b.toList.drop ib=xs++b.toList.drop ib')(o:out'.toList=out.toList++xs)(h:∀ x∈xs,∀ y∈a.toList.drop ia,ky x<=ky y):ML a b out' ia ib':=by
 obtain ⟨pa,pb,pm⟩:=m;rw [e] at pb pm;refine ⟨by rw [o]; exact vA pb pa h,by rw [o,Yl]; exact pb,?_⟩;rw [o];refine ZS.trans ?_ pm;rw [Yl];refine ZS.append_left _ ?_;rw [<- Yl,<- Yl];exact ZS.append_right _ aAg
theorem ML.mvA {ia':Nat}{xs:List Keyed}(m:ML a b out ia ib)(e:a.toList.drop ia=xs++a.toList.drop ia')(o:out'.toList=out.toList++xs)(h:∀ x∈xs,∀ y∈b.toList.drop ib,ky x<=ky y):ML a b out' ia' ib:=by
 obtain ⟨pa,pb,pm⟩:=m;rw [e] at pa pm;refine ⟨by rw [o,Yl]; exact pa,by rw [o]; exact vA pa pb h,?_⟩;rw [o];refine ZS.trans ?_ pm;rw [Yl,Yl]
theorem vQ {xs:Array Keyed}{i:Nat}(h:i<xs.size):xs.toList.drop i=[xs[i]]++xs.toList.drop (i+1):=by
 rw [List.drop_eq_getElem_cons (by rw [YW]; exact h),ZL]; rfl
theorem rN {xs:Array Keyed}{i k:Nat}:xs.toList.drop i=(xs.toList.drop i).take k++xs.toList.drop (i+k):=by
 conv=>lhs; rw [<- Z6 k (xs.toList.drop i)]
 rw [aBg]
theorem ML.pushB (m:ML a b out ia ib)(hb:ib<b.size)(h:∀ j (hj:j<a.size),ia<=j->ky b[ib]<=ky a[j]):ML a b (out.push b[ib]) ia (ib+1) :=
 m.mvB (vQ hb) (by simp) fun x hx y hy=>by
  rw [YT.mp hx];obtain ⟨j,hj,h1,rfl⟩:=fL hy;exact h j hj h1
theorem ML.pushA (m:ML a b out ia ib)(ha:ia<a.size)(h:∀ j (hj:j<b.size),ib<=j->ky a[ia]<=ky b[j]):ML a b (out.push a[ia]) (ia+1) ib :=
 m.mvA (vQ ha) (by simp) fun x hx y hy=>by
  rw [YT.mp hx];obtain ⟨j,hj,h1,rfl⟩:=fL hy;exact h j hj h1
theorem ML.bulkB (m:ML a b out ia ib)(h:∀ i (hi:i<b.size) j (hj:j<a.size),ib<=i->i<ib+k->ia<=j->ky b[i]<=ky a[j]):ML a b (out++b.extract ib (ib+k)) ia (ib+k) :=
 m.mvB (rN (k:=k)) (by rw [ZD,dW,show ib+k-ib=k by omega]) fun x hx y hy=>by
  obtain ⟨j,hj,h1,rfl⟩:=fL hy;obtain ⟨i,hi,h2,h3,rfl⟩:=nC hx;exact h i hi j hj h2 h3 h1
theorem ML.bulkA (m:ML a b out ia ib)(h:∀ i (hi:i<a.size) j (hj:j<b.size),ia<=i->i<ia+k->ib<=j->ky a[i]<=ky b[j]):ML a b (out++a.extract ia (ia+k)) (ia+k) ib :=
 m.mvA (rN (k:=k)) (by rw [ZD,dW,show ia+k-ia=k by omega]) fun x hx y hy=>by
  obtain ⟨j,hj,h1,rfl⟩:=fL hy;obtain ⟨i,hi,h2,h3,rfl⟩:=nC hx;exact h i hi j hj h2 h3 h1
theorem tZ {xs:Array Keyed}{i:Nat}:(xs.extract i xs.size).toList=xs.toList.drop i:=by
 rw [dW,Zk];rw [Z8,YW]; exact YS _
theorem ML.done (m:ML a b out ia ib)(h:ia=a.size∨ib=b.size):Ar a b (out++a.extract ia a.size++b.extract ib b.size):=by
 unfold Ar;rw [ZD,ZD,tZ,tZ,Yl];refine ⟨?_,m.pm⟩;rcases h with h | h
 ·rw [aA7 (by rw [YW]; omega),aBa]; exact m.pb
 ·rw [aA7 (as:=b.toList) (by rw [YW]; omega),Zc]; exact m.pa
theorem ML.lastA (m:ML a b out ia ib)(h:∀ i (hi:i<a.size) j (hj:j<b.size),ia<=i->ky b[j]<=ky a[i]):Ar a b (out++b.extract ib b.size++a.extract ia a.size):=by
 unfold Ar;rw [ZD,ZD,tZ,tZ];refine ⟨vA (r:=[]) (by rw [Zc]; exact m.pb) m.pa fun x hx y hy=>?_,?_⟩
 ·obtain ⟨j,hj,h1,rfl⟩:=fL hx;obtain ⟨i,hi,h2,rfl⟩:=fL hy;exact h i hi j hj h2
 ·refine ZS.trans ?_ m.pm;rw [Yl];exact ZS.append_left _ aAg
theorem ML.start (sa:SL a.toList)(sb:SL b.toList)(hb:0<b.size)(h:∀ j (hj:j<a.size),ky b[0]<=ky a[j]):ML a b #[b[0]] 0 1 :=
 ML.pushB (out:=#[]) (ia:=0) (ib:=0) ⟨by simpa using sa,by simpa using sb,by simp⟩ hb fun j hj _=>h j hj
structure MH (a b out:Array Keyed)(na nb:Nat):Prop where
 pa:SL (a.toList.take na++out.toList.reverse)
 pb:SL (b.toList.take nb++out.toList.reverse)
 pm:((a.toList.take na++b.toList.take nb)++out.toList.reverse).Perm (a.toList++b.toList)
variable {na nb:Nat}
theorem MH.mvB {nb':Nat}{xs:List Keyed}(m:MH a b out na nb)(e:b.toList.take nb=b.toList.take nb'++xs)(o:out'.toList.reverse=xs++out.toList.reverse)(h:∀ y∈a.toList.take na,∀ x∈xs,ky y<=ky x):MH a b out' na nb':=by
 obtain ⟨pa,pb,pm⟩:=m;rw [e] at pb pm;refine ⟨by rw [o]; exact uD pb pa h,by rw [o,<- Yl]; exact pb,?_⟩;rw [o];refine ZS.trans ?_ pm;simp only [Yl];exact .refl _
theorem MH.mvA {na':Nat}{xs:List Keyed}(m:MH a b out na nb)(e:a.toList.take na=a.toList.take na'++xs)(o:out'.toList.reverse=xs++out.toList.reverse)(h:∀ y∈b.toList.take nb,∀ x∈xs,ky y<=ky x):MH a b out' na' nb:=by
 obtain ⟨pa,pb,pm⟩:=m;rw [e] at pa pm;refine ⟨by rw [o,<- Yl]; exact pa,by rw [o]; exact uD pa pb h,?_⟩;rw [o];refine ZS.trans ?_ pm;simp only [Yl];refine ZS.append_left _ ?_;rw [<- Yl,<- Yl];exact ZS.append_right _ aAg
theorem wC {xs:Array Keyed}{i:Nat}(h:i<xs.size):xs.toList.take (i+1)=xs.toList.take i++[xs[i]]:=by
 rw [aAW,YL (by rw [YW]; exact h),ZL]; rfl
theorem sO {xs:Array Keyed}{i n:Nat}(h:i<=n):xs.toList.take n=xs.toList.take i++(xs.toList.drop i).take (n-i):=by
 obtain ⟨k,rfl⟩:=Nat.exists_eq_add_of_le h;rw [List.take_add,show i+k-i=k by omega]
theorem MH.pushB (m:MH a b out na (nb+1))(hb:nb<b.size)(h:∀ j (hj:j<a.size),j<na->ky a[j]<=ky b[nb]):MH a b (out.push b[nb]) na nb :=
 m.mvB (wC hb) (by simp) fun y hy x hx=>by
  rw [YT.mp hx];obtain ⟨j,hj,h1,rfl⟩:=kJ hy;exact h j hj h1
theorem MH.pushA (m:MH a b out (na+1) nb)(ha:na<a.size)(h:∀ j (hj:j<b.size),j<nb->ky b[j]<=ky a[na]):MH a b (out.push a[na]) na nb :=
 m.mvA (wC ha) (by simp) fun y hy x hx=>by
  rw [YT.mp hx];obtain ⟨j,hj,h1,rfl⟩:=kJ hy;exact h j hj h1
theorem MH.bulkB (m:MH a b out na nb)(hk:k<=nb)(h:∀ i (hi:i<b.size) j (hj:j<a.size),k<=i->i<nb->j<na->ky a[j]<=ky b[i]):MH a b (out++(b.extract k nb).reverse) na k :=
 m.mvB (sO hk) (by rw [ZD,aAm,dW,aBl,aBh]) fun y hy x hx=>by
  obtain ⟨j,hj,h1,rfl⟩:=kJ hy;obtain ⟨i,hi,h2,h3,rfl⟩:=nC hx;exact h i hi j hj h2 (by omega) h1
theorem MH.bulkA (m:MH a b out na nb)(hk:k<=na)(h:∀ i (hi:i<a.size) j (hj:j<b.size),k<=i->i<na->j<nb->ky b[j]<=ky a[i]):MH a b (out++(a.extract k na).reverse) k nb :=
 m.mvA (sO hk) (by rw [ZD,aAm,dW,aBl,aBh]) fun y hy x hx=>by
  obtain ⟨j,hj,h1,rfl⟩:=kJ hy;obtain ⟨i,hi,h2,h3,rfl⟩:=nC hx;exact h i hi j hj h2 (by omega) h1
theorem Hr {xs:Array Keyed}{n:Nat}:(xs.extract 0 n).toList=xs.toList.take n:=by rw [dW,List.drop_zero,aBy]
theorem MH.done (m:MH a b out na nb)(h:na=0∨nb=0):Ar a b (a.extract 0 na++b.extract 0 nb++out.reverse):=by
 unfold Ar;rw [ZD,ZD,Hr,Hr,aAm];refine ⟨?_,m.pm⟩;rcases h with h | h
 ·rw [h,List.take_zero,aBa]; exact m.pb
 ·rw [h,List.take_zero,Zc]; exact m.pa
theorem MH.firstB (m:MH a b out na nb)(h:∀ i (hi:i<b.size) j (hj:j<a.size),i<nb->ky b[i]<=ky a[j]):Ar a b (b.extract 0 nb++a.extract 0 na++out.reverse):=by
 unfold Ar;rw [ZD,ZD,Hr,Hr,aAm];refine ⟨?_,?_⟩
 ·rw [Yl];refine uD (r:=[]) (by rw [aBa]; exact m.pa) m.pb fun y hy x hx=>?_;obtain ⟨i,hi,h1,rfl⟩:=kJ hy;obtain ⟨j,hj,h2,rfl⟩:=kJ hx;exact h i hi j hj h1
 ·refine ZS.trans ?_ m.pm;exact ZS.append_right _ aAg
theorem MH.start (sa:SL a.toList)(sb:SL b.toList)(ha:0<a.size)(h:∀ j (hj:j<b.size),ky b[j]<=ky (a[a.size-1]'(by omega))):MH a b #[a[a.size-1]'(by omega)] (a.size-1) b.size:=by
 refine MH.pushA (out:=#[]) (na:=a.size-1) (nb:=b.size) ?_ (by omega) fun j hj _=>h j hj;have e1:a.toList.take (a.size-1+1)=a.toList:=Zk (by rw [YW]; omega);have e2:b.toList.take b.size=b.toList:=Zk (by rw [YW]; omega);exact ⟨by rw [e1]; simpa using sa,by rw [e2]; simpa using sb,by rw [e1,e2]; simp⟩
end
def iW (g:Nat):StateT SortSt Sem Unit:=modify fun s=>SortSt.mk' (kindOf s) (arrOf s) (pendingOf s) g (failedOf s)
abbrev S0:=Option (Array Keyed)×Array Keyed×Nat×Nat×Nat
abbrev S1:=Option (Array Keyed)×Array Keyed×Nat×Nat×Nat×Nat
abbrev S2:=Option (Array Keyed)×Array Keyed×Nat×Nat×Nat×Nat×Nat
abbrev SM:=StateT SortSt Sem
theorem vO (a b:Array Keyed):lW a b=(do
 rule "list.sort.merge-lo"
 let total:=a.size+b.size
 let done (out:Array Keyed) (ia ib:Nat):=out++a.extract ia a.size++b.extract ib b.size
 let lastOfA (out:Array Keyed) (ia ib:Nat):=out++b.extract ib b.size++a.extract ia a.size
 let mut out:Array Keyed:=#[<- elem' b 0]
 let mut ia:=0
 let mut ib:=1
 if ib==b.size then return done out ia ib
 if ia+1==a.size then return lastOfA out ia ib
 let mut minGallop:=gallopOf (<- get)
 for _ in [0:total] do
  let mut acount:=0
  let mut bcount:=0
  for _ in [0:total] do
   let some bWins <- lt' (<- elem' b ib) (<- elem' a ia) | return done out ia ib
   if bWins then
    out:=out.push (<- elem' b ib); ib:=ib+1; bcount:=bcount+1; acount:=0
    if ib==b.size then return done out ia ib
    if bcount ≥ minGallop then break
   else
    out:=out.push (<- elem' a ia); ia:=ia+1; acount:=acount+1; bcount:=0
    if ia+1==a.size then return lastOfA out ia ib
    if acount ≥ minGallop then break
  rule "list.sort.gallop"
  minGallop:=minGallop+1
  for _ in [0:total] do
   if minGallop > 1 then minGallop:=minGallop-1
   iW minGallop
   let some k <- cZ false (<- elem' b ib) a ia (a.size-ia) 0 | return done out ia ib
   acount:=k
   if k > 0 then
    out:=out++a.extract ia (ia+k); ia:=ia+k
    if ia+1==a.size then return lastOfA out ia ib
    if ia==a.size then return done out ia ib
   out:=out.push (<- elem' b ib); ib:=ib+1
   if ib==b.size then return done out ia ib
   let some k <- cZ true (<- elem' a ia) b ib (b.size-ib) 0 | return done out ia ib
   bcount:=k
   if k > 0 then
    out:=out++b.extract ib (ib+k); ib:=ib+k
    if ib==b.size then return done out ia ib
   out:=out.push (<- elem' a ia); ia:=ia+1
   if ia+1==a.size then return lastOfA out ia ib
   if acount<7&&bcount<7 then break
  minGallop:=minGallop+1
  iW minGallop
 unsupported "internal:list.sort.merge-bound"):=rfl
section
variable (a b:Array Keyed)
def JT (out:Array Keyed)(ia ib:Nat):Array Keyed:=out++a.extract ia a.size++b.extract ib b.size
def Oi (out:Array Keyed)(ia ib:Nat):Array Keyed:=out++b.extract ib b.size++a.extract ia a.size
def Hq (mg:Nat)(out:Array Keyed)(ia ib ac bc:Nat):SM (ForInStep S1):=do
 let x <- elem' b ib
 let y <- elem' a ia
 let r <- lt' x y
 match r with
 | some bWins =>
  if bWins=true then do
   let x <- elem' b ib
   if (ib+1==b.size)=true then pure (.done (some (JT a b (out.push x) ia (ib+1)),out.push x,ia,ib+1,0,bc+1))
   else if bc+1 ≥ mg then pure (.done (none,out.push x,ia,ib+1,0,bc+1)) else pure (.yield (none,out.push x,ia,ib+1,0,bc+1))
  else do
   let x <- elem' a ia
   if (ia+1+1==a.size)=true then pure (.done (some (Oi a b (out.push x) (ia+1) ib),out.push x,ia+1,ib,ac+1,0))
   else if ac+1 ≥ mg then pure (.done (none,out.push x,ia+1,ib,ac+1,0)) else pure (.yield (none,out.push x,ia+1,ib,ac+1,0))
 | _=>pure (.done (some (JT a b out ia ib),out,ia,ib,ac,bc))
def Pq (mg:Nat)(out:Array Keyed)(ia ib ac bc:Nat):SM (ForInStep S2):=do
 let x <- elem' a ia
 if (ia+1+1==a.size)=true then pure (.done (some (Oi a b (out.push x) (ia+1) ib),out.push x,ia+1,ib,mg,ac,bc))
 else if (decide (ac<7)&&decide (bc<7))=true then pure (.done (none,out.push x,ia+1,ib,mg,ac,bc))
 else pure (.yield (none,out.push x,ia+1,ib,mg,ac,bc))
def Og (mg:Nat)(out:Array Keyed)(ia ib ac bc:Nat):SM (ForInStep S2):=do
 let x <- elem' b ib
 if (ib+1==b.size)=true then pure (.done (some (JT a b (out.push x) ia (ib+1)),out.push x,ia,ib+1,mg,ac,bc))
 else do
  let y <- elem' a ia
  let r <- cZ true y b (ib+1) (b.size-(ib+1)) 0
  match r with
  | some k =>
   if k > 0 then
    if (ib+1+k==b.size)=true then pure (.done (some (JT a b (out.push x++b.extract (ib+1) (ib+1+k)) ia (ib+1+k)),out.push x++b.extract (ib+1) (ib+1+k),ia,ib+1+k,mg,ac,k))
    else Pq a b mg (out.push x++b.extract (ib+1) (ib+1+k)) ia (ib+1+k) ac k
   else Pq a b mg (out.push x) ia (ib+1) ac k
  | _=>pure (.done (some (JT a b (out.push x) ia (ib+1)),out.push x,ia,ib+1,mg,ac,bc))
def Lk (mg:Nat)(out:Array Keyed)(ia ib ac bc:Nat):SM (ForInStep S2):=do
 iW mg
 let y <- elem' b ib
 let r <- cZ false y a ia (a.size-ia) 0
 match r with
 | some k =>
  if k > 0 then
   if (ia+k+1==a.size)=true then pure (.done (some (Oi a b (out++a.extract ia (ia+k)) (ia+k) ib),out++a.extract ia (ia+k),ia+k,ib,mg,k,bc))
   else if (ia+k==a.size)=true then pure (.done (some (JT a b (out++a.extract ia (ia+k)) (ia+k) ib),out++a.extract ia (ia+k),ia+k,ib,mg,k,bc))
   else Og a b mg (out++a.extract ia (ia+k)) (ia+k) ib k bc
  else Og a b mg out ia ib k bc
 | _=>pure (.done (some (JT a b out ia ib),out,ia,ib,mg,ac,bc))
def Ij (out:Array Keyed)(ia ib mg:Nat):SM (ForInStep S0):=do
 let s <- (forIn [0:a.size+b.size] ((none,out,ia,ib,0,0):S1) fun _ s=>Hq a b mg s.2.1 s.2.2.1 s.2.2.2.1 s.2.2.2.2.1 s.2.2.2.2.2)
 match s.1 with
 | some r=>pure (.done (some r,s.2.1,s.2.2.1,s.2.2.2.1,mg))
 | none=>do
  liftM (rule "list.sort.gallop")
  let t <- (forIn [0:a.size+b.size] ((none,s.2.1,s.2.2.1,s.2.2.2.1,mg+1,s.2.2.2.2.1,s.2.2.2.2.2):S2) fun _ t =>
   if t.2.2.2.2.1 > 1 then Lk a b (t.2.2.2.2.1-1) t.2.1 t.2.2.1 t.2.2.2.1 t.2.2.2.2.2.1 t.2.2.2.2.2.2 else Lk a b t.2.2.2.2.1 t.2.1 t.2.2.1 t.2.2.2.1 t.2.2.2.2.2.1 t.2.2.2.2.2.2)
  match t.1 with
  | some r=>pure (.done (some r,t.2.1,t.2.2.1,t.2.2.2.1,t.2.2.2.2.1))
  | none=>do
   iW (t.2.2.2.2.1+1)
   pure (.yield (none,t.2.1,t.2.2.1,t.2.2.2.1,t.2.2.2.2.1+1))
def Qq:SM (Array Keyed):=do
 liftM (rule "list.sort.merge-lo")
 let x <- elem' b 0
 if (1==b.size)=true then pure (JT a b #[x] 0 1)
 else if (0+1==a.size)=true then pure (Oi a b #[x] 0 1)
 else do
  let g <- get
  let s <- (forIn [0:a.size+b.size] ((none,#[x],0,1,gallopOf g):S0) fun _ s=>Ij a b s.2.1 s.2.2.1 s.2.2.2.1 s.2.2.2.2)
  match s.1 with
  | some r=>pure r
  | none=>liftM (unsupported "internal:list.sort.merge-bound" : Sem (Array Keyed))
theorem aM {α β:Type}{m m':SM α}{f g:α->SM β}(h0:m=m')(h:∀ x,f x=g x):(m >>= f)=(m' >>= g):=by subst h0; exact congrArg _ (funext h)
theorem bZ {α:Type}{c:Prop}[Decidable c]{x y x' y':SM α}(h1:x=x')(h2:y=y'):(if c then x else y)=(if c then x' else y'):=by subst h1; subst h2; rfl
theorem jQ {β:Type}{n:Nat}{i:β}{f g:Nat->β->SM (ForInStep β)}(h:∀ x c,f x c=g x c):(forIn [0:n] i f)=(forIn [0:n] i g):=by
 have e:f=g:=funext fun x=>funext fun c=>h x c;rw [e]
theorem wG:lW a b=Qq a b:=by
 rw [vO];unfold Qq;refine aM rfl fun _=>aM rfl fun x=>bZ rfl (bZ rfl (aM rfl fun g=>aM (jQ fun _ s=>?_) fun s=>?_))
 ·unfold Ij;refine aM (jQ fun _ s=>?_) fun s=>?_
  ·unfold Hq;refine aM rfl fun x=>aM rfl fun y=>aM rfl fun r=>?_;cases r <;> rfl
  ·obtain ⟨r,o,i,j,ac,bc⟩:=s;cases r with
   | some r=>rfl
   | none =>
    refine aM rfl fun _=>aM (jQ fun _ s=>?_) fun s=>?_
    ·refine bZ ?_ ?_ <;> unfold Lk <;> refine aM rfl fun _=>aM rfl fun y=>aM rfl fun r=>?_
     all_goals
      cases r with
      | none=>rfl
      | some k =>
       refine bZ (bZ rfl (bZ rfl ?_)) ?_ <;> unfold Og <;> refine aM rfl fun _=>bZ rfl (aM rfl fun y=>aM rfl fun r=>?_)
       all_goals cases r <;> rfl
    ·obtain ⟨r,o,i,j,ac,bc⟩:=s;cases r <;> rfl
 ·obtain ⟨r,o,i,j,ac⟩:=s;cases r <;> rfl
end
def SG (st st':SortSt):Prop:=∃ g,st'=SortSt.mk' (kindOf st) (arrOf st) (pendingOf st) g (failedOf st)
theorem SG.refl (st:SortSt):SG st st:=⟨gallopOf st,rfl⟩
theorem SG.trans {x y z:SortSt}(h:SG x y)(k:SG y z):SG x z:=by
 obtain ⟨g,rfl⟩:=h; obtain ⟨g',rfl⟩:=k; exact ⟨g',rfl⟩
theorem SG.kind {x y:SortSt}(h:SG x y):kindOf y=kindOf x:=by obtain ⟨g,rfl⟩:=h; rfl
structure jF (a b:Array Keyed):Prop where
 ia:∀ p∈a,Cv p
 ib:∀ p∈b,Cv p
 sa:SL a.toList
 sb:SL b.toList
 la:∀ j (hj:j<b.size) i (hi:i<a.size),i+1=a.size->ky b[j]<=ky a[i]
 fb:∀ j (hj:j<a.size) (h:0<b.size),ky b[0]<=ky a[j]
def GL (a b out:Array Keyed)(ia ib:Nat):Prop:=ML a b out ia ib/\ia+1<a.size/\ib<b.size
def Gd (a b:Array Keyed)(o:Option (Array Keyed)):Prop:=∃ r,o=some r/\Ar a b r
section
variable {prog:Program}{w:World}{A:Around}{E:Value->Shared->Prop}{s:Shared}{a b out:Array Keyed}{ia ib ac bc mg n:Nat}{st:SortSt}
theorem jF.last (H:jF a b)(m:ML a b out ia ib)(e:ia+1=a.size):Ar a b (Oi a b out ia ib) :=
 m.lastA fun i hi j hj h=>H.la j hj i hi (by omega)
def R1 (a b:Array Keyed)(n:Nat)(c:S1):Prop:=Gd a b c.1∨∃ o i j ac bc,c=(none,o,i,j,ac,bc)/\GL a b o i j/\n<=i+j
def R2 (a b:Array Keyed)(n:Nat)(c:S2):Prop:=Gd a b c.1∨∃ o i j mg ac bc,c=(none,o,i,j,mg,ac,bc)/\GL a b o i j/\n<=i+j
theorem Dq {Q:ForInStep S1->SortSt->Prop}(H:jF a b)(hk:kindOf st=oneType')(g:GL a b out ia ib)(hn:n<=ia+ib)
  (h:∀ r,(∀ c,r=.done c->R1 a b (n+1) c)->(∀ c,r=.yield c->∃ o i j ac bc,c=(none,o,i,j,ac,bc)/\GL a b o i j/\n+1<=i+j)->Q r st):wpS (model prog w) A E s (Hq a b mg out ia ib ac bc) Q st:=by
 obtain ⟨m,h1,h2⟩:=g;have h3:ia<a.size:=by omega
 unfold Hq;refine wpS_bind (bM h2 (wpS_bind (bM h3 (wpS_bind (uO hk (H.ib _ (ZJ h2)) (H.ia _ (ZJ h3)) ?_)))));dsimp only
 by_cases z:ky b[ib]<ky a[ia]
 ·rw [if_pos (decide_eq_true z)];refine wpS_bind (bM h2 ?_);have m':ML a b (out.push b[ib]) ia (ib+1):=m.pushB h2 fun j hj hij=>Yr (Yt z) (dZ H.sa hj hij)
  by_cases e:ib+1=b.size
  ·rw [if_pos (by simpa using e)];exact wpS_pure (h _ (fun c hc=>by cases hc; exact .inl ⟨_,rfl,m'.done (.inr e)⟩) fun c hc=>nomatch hc)
  ·rw [if_neg (by simpa using e)];have g':GL a b (out.push b[ib]) ia (ib+1):=⟨m',h1,by omega⟩
   split
   ·exact wpS_pure (h _ (fun c hc=>by cases hc; exact .inr ⟨_,_,_,_,_,rfl,g',by omega⟩) fun c hc=>nomatch hc)
   ·exact wpS_pure (h _ (fun c hc=>nomatch hc) fun c hc=>by cases hc; exact ⟨_,_,_,_,_,rfl,g',by omega⟩)
 ·rw [if_neg (by simpa using z)];refine wpS_bind (bM h3 ?_);have m':ML a b (out.push a[ia]) (ia+1) ib:=m.pushA h3 fun j hj hij=>Yr (aAS.mp z) (dZ H.sb hj hij)
  by_cases e:ia+1+1=a.size
  ·rw [if_pos (by simpa using e)];exact wpS_pure (h _ (fun c hc=>by cases hc; exact .inl ⟨_,rfl,H.last m' e⟩) fun c hc=>nomatch hc)
  ·rw [if_neg (by simpa using e)];have g':GL a b (out.push a[ia]) (ia+1) ib:=⟨m',by omega,h2⟩
   split
   ·exact wpS_pure (h _ (fun c hc=>by cases hc; exact .inr ⟨_,_,_,_,_,rfl,g',by omega⟩) fun c hc=>nomatch hc)
   ·exact wpS_pure (h _ (fun c hc=>nomatch hc) fun c hc=>by cases hc; exact ⟨_,_,_,_,_,rfl,g',by omega⟩)
abbrev O2 (a b:Array Keyed)(n:Nat)(Q:ForInStep S2->SortSt->Prop)(st:SortSt):Prop:=∀ r st',SG st st'->(∀ c,r=.done c->R2 a b n c)->(∀ c,r=.yield c->∃ o i j mg ac bc,c=(none,o,i,j,mg,ac,bc)/\GL a b o i j/\n<=i+j)->Q r st'
theorem zU {Q:ForInStep S2->SortSt->Prop}(H:jF a b)(g:GL a b out ia ib)(z:ky (a[ia]'(by have:=g.2.1; omega))<=ky (b[ib]'g.2.2))(hn:n<=ia+ib)(h:O2 a b n Q st):wpS (model prog w) A E s (Pq a b mg out ia ib ac bc) Q st:=by
 obtain ⟨m,h1,h2⟩:=g;have h3:ia<a.size:=by omega
 unfold Pq;refine wpS_bind (bM h3 ?_);have m':ML a b (out.push a[ia]) (ia+1) ib:=m.pushA h3 fun j hj hij=>Yr z (dZ H.sb hj hij)
 by_cases e:ia+1+1=a.size
 ·rw [if_pos (by simpa using e)];exact wpS_pure (h _ _ (SG.refl _) (fun c hc=>by cases hc; exact .inl ⟨_,rfl,H.last m' e⟩) fun c hc=>nomatch hc)
 ·rw [if_neg (by simpa using e)];have g':GL a b (out.push a[ia]) (ia+1) ib:=⟨m',by omega,h2⟩
  split
  ·exact wpS_pure (h _ _ (SG.refl _) (fun c hc=>by cases hc; exact .inr ⟨_,_,_,_,_,_,rfl,g',by omega⟩) fun c hc=>nomatch hc)
  ·exact wpS_pure (h _ _ (SG.refl _) (fun c hc=>nomatch hc) fun c hc=>by cases hc; exact ⟨_,_,_,_,_,_,rfl,g',by omega⟩)
theorem gG {left:Bool}{key:Keyed}{xs:Array Keyed}{base n hint:Nat}{Q:Option Nat->SortSt->Prop}(hk:kindOf st=oneType')(hp:Cv key)(hx:∀ p∈xs,Cv p)(hs:∀ i j (hj:j<xs.size) (hij:i<=j),base<=i->j<base+n->ky (xs[i]'(by omega))<=ky xs[j])(hn:base+n<=xs.size)(hh:hint<n)
  (h:∀ k,k<=n->(∀ i (hi:i<xs.size),base<=i->i<base+k->Bj left (ky key) (ky xs[i])=true)->(∀ i (hi:i<xs.size),base+k<=i->i<base+n->Bj left (ky key) (ky xs[i])=false)->Q (some k) st):wpS (model prog w) A E s (cZ left key xs base n hint) Q st:=by
 refine xO hk hp hx hn hh (fun i=>if hi:base+i<xs.size then Bj left (ky key) (ky xs[base+i]) else false) (fun i hi _=>by rw [dif_pos hi]) (fun i j hij hj hf=>?_) fun k h1 h2 h3=>h k h1 (fun i hi h4 h5=>?_) fun i hi h4 h5=>?_
 ·have e1:base+i<xs.size:=by omega
  have e2:base+j<xs.size:=by omega
  rw [dif_pos e2] at hf;rw [dif_pos e1];have:=hs (base+i) (base+j) e2 (by omega) (by omega) (by omega);unfold Bj at hf ⊢;cases left with
  | true=>simp only [if_true,decide_eq_true_eq] at hf ⊢; omega
  | false=>simp only [Y6,if_false,decide_eq_true_eq] at hf ⊢; omega
 ·have q:=h2 (i-base) (by omega);rw [dif_pos (by omega)] at q;have e:base+(i-base)=i:=by omega
  simp only [e] at q;exact q
 ·have q:=h3 (i-base) (by omega) (by omega);rw [dif_pos (by omega)] at q;have e:base+(i-base)=i:=by omega
  simp only [e] at q;exact q
theorem nW {x k:Int}:(Bj true k x=true↔x<k)/\(Bj true k x=false↔k<=x):=by
 unfold Bj; simp only [if_true,decide_eq_true_eq,decide_eq_false_iff_not]; exact ⟨trivial,by omega⟩
theorem lZ {x k:Int}:(Bj false k x=true↔x<=k)/\(Bj false k x=false↔k<x):=by
 unfold Bj; simp only [Y6,if_false,decide_eq_true_eq,decide_eq_false_iff_not]; exact ⟨trivial,by omega⟩
theorem Aq {Q:ForInStep S2->SortSt->Prop}(H:jF a b)(hk:kindOf st=oneType')(g:GL a b out ia ib)(z:ky (b[ib]'g.2.2)<=ky (a[ia]'(by have:=g.2.1; omega)))(hn:n<=ia+ib)(h:O2 a b n Q st):wpS (model prog w) A E s (Og a b mg out ia ib ac bc) Q st:=by
 obtain ⟨m,h1,h2⟩:=g;have h3:ia<a.size:=by omega
 unfold Og;refine wpS_bind (bM h2 ?_);have m':ML a b (out.push b[ib]) ia (ib+1):=m.pushB h2 fun j hj hij=>Yr z (dZ H.sa hj hij)
 by_cases e:ib+1=b.size
 ·rw [if_pos (by simpa using e)];exact wpS_pure (h _ _ (SG.refl _) (fun c hc=>by cases hc; exact .inl ⟨_,rfl,m'.done (.inr e)⟩) fun c hc=>nomatch hc)
 ·rw [if_neg (by simpa using e)];refine wpS_bind (bM h3 (wpS_bind (gG hk (H.ia _ (ZJ h3)) H.ib (fun i j hj hij _ _=>dZ H.sb hj hij) (by omega) (by omega) fun k k1 k2 k3=>?_)));dsimp only;have m2:ML a b (out.push b[ib]++b.extract (ib+1) (ib+1+k)) ia (ib+1+k):=m'.bulkB fun i hi j hj i1 i2 i3=>Yr (Yt (nW.1.mp (k2 i hi i1 i2))) (dZ H.sa hj i3)
  by_cases e2:ib+1+k=b.size
  ·have k0:k > 0:=by omega
   rw [if_pos k0,if_pos (by simpa using e2)];exact wpS_pure (h _ _ (SG.refl _) (fun c hc=>by cases hc; exact .inl ⟨_,rfl,m2.done (.inr e2)⟩) fun c hc=>nomatch hc)
  ·have zz:ky a[ia]<=ky (b[ib+1+k]'(by omega)):=nW.2.mp (k3 (ib+1+k) (by omega) (by omega) (by omega))
   by_cases k0:k > 0
   ·rw [if_pos k0,if_neg (by simpa using e2)];exact zU H ⟨m2,h1,by omega⟩ zz (by omega) h
   ·rw [if_neg k0];have e3:k=0:=by omega
    subst e3;exact zU H ⟨m',h1,by omega⟩ zz (by omega) h
theorem Gu {Q:ForInStep S2->SortSt->Prop}(H:jF a b)(hk:kindOf st=oneType')(g:GL a b out ia ib)(hn:n<=ia+ib)(h:O2 a b n Q st):wpS (model prog w) A E s (Lk a b mg out ia ib ac bc) Q st:=by
 obtain ⟨m,h1,h2⟩:=g;have h3:ia<a.size:=by omega
 unfold Lk iW;refine wpS_bind (wpS_modify ?_);have sg:SG st (SortSt.mk' (kindOf st) (arrOf st) (pendingOf st) mg (failedOf st)):=⟨mg,rfl⟩
 generalize SortSt.mk' (kindOf st) (arrOf st) (pendingOf st) mg (failedOf st)=st1 at sg ⊢;have hk1:kindOf st1=oneType':=sg.kind.trans hk;have h':O2 a b n Q st1:=fun r st' s1=>h r st' (sg.trans s1);refine wpS_bind (bM h2 (wpS_bind (gG hk1 (H.ib _ (ZJ h2)) H.ia (fun i j hj hij _ _=>dZ H.sa hj hij) (by omega) (by omega) fun k k1 k2 k3=>?_)));dsimp only;have m2:ML a b (out++a.extract ia (ia+k)) (ia+k) ib:=m.bulkA fun i hi j hj i1 i2 i3=>Yr (lZ.1.mp (k2 i hi i1 i2)) (dZ H.sb hj i3)
 by_cases k0:k > 0
 ·rw [if_pos k0]
  by_cases e1:ia+k+1=a.size
  ·rw [if_pos (by simpa using e1)];exact wpS_pure (h' _ _ (SG.refl _) (fun c hc=>by cases hc; exact .inl ⟨_,rfl,H.last m2 e1⟩) fun c hc=>nomatch hc)
  ·rw [if_neg (by simpa using e1)]
   by_cases e2:ia+k=a.size
   ·rw [if_pos (by simpa using e2)];exact wpS_pure (h' _ _ (SG.refl _) (fun c hc=>by cases hc; exact .inl ⟨_,rfl,m2.done (.inl e2)⟩) fun c hc=>nomatch hc)
   ·rw [if_neg (by simpa using e2)];exact Aq H hk1 ⟨m2,by omega,h2⟩ (Yt (lZ.2.mp (k3 (ia+k) (by omega) (by omega) (by omega)))) (by omega) h'
 ·rw [if_neg k0];have e3:k=0:=by omega
  subst e3;exact Aq H hk1 ⟨m,h1,h2⟩ (Yt (lZ.2.mp (k3 ia (by omega) (by omega) (by omega)))) hn h'
theorem Fy {Q:ForInStep S0->SortSt->Prop}(H:jF a b)(hk:kindOf st=oneType')(g:GL a b out ia ib)(hn:n<=ia+ib)
  (h:∀ r st',SG st st'->(∀ c,r=.done c->Gd a b c.1)->(∀ c,r=.yield c->∃ o i j mg,c=(none,o,i,j,mg)/\GL a b o i j/\n+1<=i+j)->Q r st'):wpS (model prog w) A E s (Ij a b out ia ib mg) Q st:=by
 unfold Ij;refine wpS_bind (wpS_mono (wpS_forRange (I:=fun x c st'=>st'=st/\∃ o i j ac bc,c=(none,o,i,j,ac,bc)/\GL a b o i j/\n+x<=i+j) (Q:=fun c st'=>st'=st/\R1 a b (n+1) c) ?step ?fin ⟨rfl,_,_,_,_,_,rfl,g,hn⟩) ?post)
 case fin =>
  rintro c st' ⟨rfl,o,i,j,ac,bc,rfl,g',hh⟩;refine ⟨rfl,.inr ⟨o,i,j,ac,bc,rfl,g',?_⟩⟩;have:=g'.2.1;omega
 case step =>
  rintro x c st' _ hx ⟨rfl,o,i,j,ac,bc,rfl,g',hh⟩;refine Dq H hk g' hh fun r h1 h2=>?_;cases r with
  | done c =>
   refine ⟨rfl,?_⟩;rcases h1 c rfl with z | ⟨o,i,j,ac,bc,e,g2,hh2⟩
   ·exact .inl z
   ·exact .inr ⟨o,i,j,ac,bc,e,g2,by omega⟩
  | yield c=>exact ⟨rfl,h2 c rfl⟩
 case post =>
  rintro c st' ⟨rfl,z | ⟨o,i,j,ac,bc,rfl,g',hh⟩⟩
  ·obtain ⟨r,e,hr⟩:=z;obtain ⟨c1,c2⟩:=c;obtain rfl:c1=some r:=e;exact wpS_pure (h _ _ (SG.refl _) (fun c hc=>by cases hc; exact ⟨r,rfl,hr⟩) fun c hc=>nomatch hc)
  ·dsimp only;refine wpS_bind (wpS_lift (wpAny_rule ⟨rfl,?_⟩));refine wpS_bind (wpS_mono (wpS_forRange (I:=fun x c st2=>SG st' st2/\∃ o i j mg ac bc,c=(none,o,i,j,mg,ac,bc)/\GL a b o i j/\n+1<=i+j) (Q:=fun c st2=>SG st' st2/\R2 a b (n+1) c) ?step ?fin ⟨SG.refl _,_,_,_,_,_,_,rfl,g',hh⟩) ?post)
   case fin =>
    rintro c st2 ⟨sg,o,i,j,mg,ac,bc,rfl,g2,hh2⟩;exact ⟨sg,.inr ⟨_,_,_,_,_,_,rfl,g2,hh2⟩⟩
   case step =>
    rintro x c st2 _ hx ⟨sg,o,i,j,mg,ac,bc,rfl,g2,hh2⟩;have hk2:=sg.kind.trans hk;dsimp only
    split
    all_goals
     refine Gu H hk2 g2 hh2 fun r st3 s1 h1 h2=>?_;cases r with
     | done c=>exact ⟨sg.trans s1,h1 c rfl⟩
     | yield c=>exact ⟨sg.trans s1,h2 c rfl⟩
   case post =>
    rintro c st2 ⟨sg,z | ⟨o,i,j,mg,ac,bc,rfl,g2,hh2⟩⟩
    ·obtain ⟨r,e,hr⟩:=z;obtain ⟨c1,c2⟩:=c;obtain rfl:c1=some r:=e;exact wpS_pure (h _ _ sg (fun c hc=>by cases hc; exact ⟨r,rfl,hr⟩) fun c hc=>nomatch hc)
    ·dsimp only;unfold iW;refine wpS_bind (wpS_modify (wpS_pure (h _ _ (sg.trans ⟨_,rfl⟩) (fun c hc=>nomatch hc) fun c hc=>by cases hc; exact ⟨_,_,_,_,rfl,g2,hh2⟩)))
theorem vL {Q:Array Keyed->SortSt->Prop}(H:jF a b)(hk:kindOf st=oneType')(ha:0<a.size)(hb:0<b.size)(h:∀ r st',SG st st'->Ar a b r->Q r st'):wpS (model prog w) A E s (lW a b) Q st:=by
 rw [wG];unfold Qq;refine wpS_bind (wpS_lift (wpAny_rule ⟨rfl,?_⟩));refine wpS_bind (bM hb ?_);have m:=ML.start H.sa H.sb hb fun j hj=>H.fb j hj hb
 by_cases e:1=b.size
 ·rw [if_pos (by simpa using e)];exact wpS_pure (h _ _ (SG.refl _) (m.done (.inr e)))
 ·rw [if_neg (by simpa using e)]
  by_cases e2:0+1=a.size
  ·rw [if_pos (by simpa using e2)];exact wpS_pure (h _ _ (SG.refl _) (H.last m e2))
  ·rw [if_neg (by simpa using e2)];refine wpS_bind (wpS_get ?_);refine wpS_bind (wpS_mono (wpS_forRange (I:=fun x c st'=>SG st st'/\∃ o i j mg,c=(none,o,i,j,mg)/\GL a b o i j/\x+1<=i+j) (Q:=fun c st'=>SG st st'/\Gd a b c.1) ?step ?fin ⟨SG.refl _,_,_,_,_,rfl,⟨m,by omega,by omega⟩,by omega⟩) ?post)
   case fin =>
    rintro c st' ⟨sg,o,i,j,mg,rfl,g,hh⟩;have:=g.2;omega
   case step =>
    rintro x c st' _ hx ⟨sg,o,i,j,mg,rfl,g,hh⟩;refine Fy H (sg.kind.trans hk) g hh fun r st2 s1 h1 h2=>?_;cases r with
    | done c=>exact ⟨sg.trans s1,h1 c rfl⟩
    | yield c=>exact ⟨sg.trans s1,h2 c rfl⟩
   case post =>
    rintro ⟨c1,c2⟩ st' ⟨sg,r,e,hr⟩;obtain rfl:c1=some r:=e;exact wpS_pure (h _ _ sg hr)
end
theorem vK (a b:Array Keyed):lG a b=(do
 rule "list.sort.merge-hi"
 let total:=a.size+b.size
 let done (out:Array Keyed) (na nb:Nat):=a.extract 0 na++b.extract 0 nb++out.reverse
 let firstOfB (out:Array Keyed) (na nb:Nat):=b.extract 0 nb++a.extract 0 na++out.reverse
 let mut na:=a.size-1
 let mut nb:=b.size
 let mut out:Array Keyed:=#[<- elem' a na]
 if na==0 then return done out na nb
 if nb==1 then return firstOfB out na nb
 let mut minGallop:=gallopOf (<- get)
 for _ in [0:total] do
  let mut acount:=0
  let mut bcount:=0
  for _ in [0:total] do
   let some aWins <- lt' (<- elem' b (nb-1)) (<- elem' a (na-1)) | return done out na nb
   if aWins then
    na:=na-1; out:=out.push (<- elem' a na); acount:=acount+1; bcount:=0
    if na==0 then return done out na nb
    if acount ≥ minGallop then break
   else
    nb:=nb-1; out:=out.push (<- elem' b nb); bcount:=bcount+1; acount:=0
    if nb==1 then return firstOfB out na nb
    if bcount ≥ minGallop then break
  rule "list.sort.gallop"
  minGallop:=minGallop+1
  for _ in [0:total] do
   if minGallop > 1 then minGallop:=minGallop-1
   iW minGallop
   let some at_ <- cZ false (<- elem' b (nb-1)) a 0 na (na-1) | return done out na nb
   let k:=na-at_
   acount:=k
   if k > 0 then
    out:=out++(a.extract at_ na).reverse; na:=at_
    if na==0 then return done out na nb
   nb:=nb-1; out:=out.push (<- elem' b nb)
   if nb==1 then return firstOfB out na nb
   let some at_ <- cZ true (<- elem' a (na-1)) b 0 nb (nb-1) | return done out na nb
   let k:=nb-at_
   bcount:=k
   if k > 0 then
    out:=out++(b.extract at_ nb).reverse; nb:=at_
    if nb==1 then return firstOfB out na nb
    if nb==0 then return done out na nb
   na:=na-1; out:=out.push (<- elem' a na)
   if na==0 then return done out na nb
   if acount<7&&bcount<7 then break
  minGallop:=minGallop+1
  iW minGallop
 unsupported "internal:list.sort.merge-bound"):=rfl
abbrev H0:=Option (Array Keyed)×Nat×Nat×Array Keyed×Nat
abbrev H1:=Option (Array Keyed)×Nat×Nat×Array Keyed×Nat×Nat
abbrev H2:=Option (Array Keyed)×Nat×Nat×Array Keyed×Nat×Nat×Nat
section
variable (a b:Array Keyed)
def JG (out:Array Keyed)(na nb:Nat):Array Keyed:=a.extract 0 na++b.extract 0 nb++out.reverse
def Lw (out:Array Keyed)(na nb:Nat):Array Keyed:=b.extract 0 nb++a.extract 0 na++out.reverse
def Gy (mg:Nat)(out:Array Keyed)(na nb ac bc:Nat):SM (ForInStep H1):=do
 let x <- elem' b (nb-1)
 let y <- elem' a (na-1)
 let r <- lt' x y
 match r with
 | some aWins =>
  if aWins=true then do
   let x <- elem' a (na-1)
   if (na-1==0)=true then pure (.done (some (JG a b (out.push x) (na-1) nb),na-1,nb,out.push x,ac+1,0))
   else if ac+1 ≥ mg then pure (.done (none,na-1,nb,out.push x,ac+1,0)) else pure (.yield (none,na-1,nb,out.push x,ac+1,0))
  else do
   let x <- elem' b (nb-1)
   if (nb-1==1)=true then pure (.done (some (Lw a b (out.push x) na (nb-1)),na,nb-1,out.push x,0,bc+1))
   else if bc+1 ≥ mg then pure (.done (none,na,nb-1,out.push x,0,bc+1)) else pure (.yield (none,na,nb-1,out.push x,0,bc+1))
 | _=>pure (.done (some (JG a b out na nb),na,nb,out,ac,bc))
def Pu (mg:Nat)(out:Array Keyed)(na nb ac bc:Nat):SM (ForInStep H2):=do
 let x <- elem' a (na-1)
 if (na-1==0)=true then pure (.done (some (JG a b (out.push x) (na-1) nb),na-1,nb,out.push x,mg,ac,bc))
 else if (decide (ac<7)&&decide (bc<7))=true then pure (.done (none,na-1,nb,out.push x,mg,ac,bc))
 else pure (.yield (none,na-1,nb,out.push x,mg,ac,bc))
def PB (mg:Nat)(out:Array Keyed)(na nb ac bc:Nat):SM (ForInStep H2):=do
 let x <- elem' b (nb-1)
 if (nb-1==1)=true then pure (.done (some (Lw a b (out.push x) na (nb-1)),na,nb-1,out.push x,mg,ac,bc))
 else do
  let y <- elem' a (na-1)
  let r <- cZ true y b 0 (nb-1) (nb-1-1)
  match r with
  | some k =>
   if nb-1-k > 0 then
    if (k==1)=true then pure (.done (some (Lw a b (out.push x++(b.extract k (nb-1)).reverse) na k),na,k,out.push x++(b.extract k (nb-1)).reverse,mg,ac,nb-1-k))
    else if (k==0)=true then pure (.done (some (JG a b (out.push x++(b.extract k (nb-1)).reverse) na k),na,k,out.push x++(b.extract k (nb-1)).reverse,mg,ac,nb-1-k))
    else Pu a b mg (out.push x++(b.extract k (nb-1)).reverse) na k ac (nb-1-k)
   else Pu a b mg (out.push x) na (nb-1) ac (nb-1-k)
  | _=>pure (.done (some (JG a b (out.push x) na (nb-1)),na,nb-1,out.push x,mg,ac,bc))
def Mx (mg:Nat)(out:Array Keyed)(na nb ac bc:Nat):SM (ForInStep H2):=do
 iW mg
 let y <- elem' b (nb-1)
 let r <- cZ false y a 0 na (na-1)
 match r with
 | some k =>
  if na-k > 0 then
   if (k==0)=true then pure (.done (some (JG a b (out++(a.extract k na).reverse) k nb),k,nb,out++(a.extract k na).reverse,mg,na-k,bc))
   else PB a b mg (out++(a.extract k na).reverse) k nb (na-k) bc
  else PB a b mg out na nb (na-k) bc
 | _=>pure (.done (some (JG a b out na nb),na,nb,out,mg,ac,bc))
def Iu (out:Array Keyed)(na nb mg:Nat):SM (ForInStep H0):=do
 let s <- (forIn [0:a.size+b.size] ((none,na,nb,out,0,0):H1) fun _ s=>Gy a b mg s.2.2.2.1 s.2.1 s.2.2.1 s.2.2.2.2.1 s.2.2.2.2.2)
 match s.1 with
 | some r=>pure (.done (some r,s.2.1,s.2.2.1,s.2.2.2.1,mg))
 | none=>do
  liftM (rule "list.sort.gallop")
  let t <- (forIn [0:a.size+b.size] ((none,s.2.1,s.2.2.1,s.2.2.2.1,mg+1,s.2.2.2.2.1,s.2.2.2.2.2):H2) fun _ t =>
   if t.2.2.2.2.1 > 1 then Mx a b (t.2.2.2.2.1-1) t.2.2.2.1 t.2.1 t.2.2.1 t.2.2.2.2.2.1 t.2.2.2.2.2.2 else Mx a b t.2.2.2.2.1 t.2.2.2.1 t.2.1 t.2.2.1 t.2.2.2.2.2.1 t.2.2.2.2.2.2)
  match t.1 with
  | some r=>pure (.done (some r,t.2.1,t.2.2.1,t.2.2.2.1,t.2.2.2.2.1))
  | none=>do
   iW (t.2.2.2.2.1+1)
   pure (.yield (none,t.2.1,t.2.2.1,t.2.2.2.1,t.2.2.2.2.1+1))
def Qj:SM (Array Keyed):=do
 liftM (rule "list.sort.merge-hi")
 let x <- elem' a (a.size-1)
 if (a.size-1==0)=true then pure (JG a b #[x] (a.size-1) b.size)
 else if (b.size==1)=true then pure (Lw a b #[x] (a.size-1) b.size)
 else do
  let g <- get
  let s <- (forIn [0:a.size+b.size] ((none,a.size-1,b.size,#[x],gallopOf g):H0) fun _ s=>Iu a b s.2.2.2.1 s.2.1 s.2.2.1 s.2.2.2.2)
  match s.1 with
  | some r=>pure r
  | none=>liftM (unsupported "internal:list.sort.merge-bound" : Sem (Array Keyed))
theorem vR:lG a b=Qj a b:=by
 rw [vK];unfold Qj;refine aM rfl fun _=>aM rfl fun x=>bZ rfl (bZ rfl (aM rfl fun g=>aM (jQ fun _ s=>?_) fun s=>?_))
 ·unfold Iu;refine aM (jQ fun _ s=>?_) fun s=>?_
  ·unfold Gy;refine aM rfl fun x=>aM rfl fun y=>aM rfl fun r=>?_;cases r <;> rfl
  ·obtain ⟨r,o,i,j,ac,bc⟩:=s;cases r with
   | some r=>rfl
   | none =>
    refine aM rfl fun _=>aM (jQ fun _ s=>?_) fun s=>?_
    ·refine bZ ?_ ?_ <;> unfold Mx <;> refine aM rfl fun _=>aM rfl fun y=>aM rfl fun r=>?_
     all_goals
      cases r with
      | none=>rfl
      | some k =>
       refine bZ (bZ rfl ?_) ?_ <;> unfold PB <;> refine aM rfl fun _=>bZ rfl (aM rfl fun y=>aM rfl fun r=>?_)
       all_goals cases r <;> rfl
    ·obtain ⟨r,o,i,j,ac,bc⟩:=s;cases r <;> rfl
 ·obtain ⟨r,o,i,j,ac⟩:=s;cases r <;> rfl
end
def GH (a b out:Array Keyed)(na nb:Nat):Prop:=MH a b out na nb/\0<na/\1<nb/\na<=a.size/\nb<=b.size
section
variable {prog:Program}{w:World}{A:Around}{E:Value->Shared->Prop}{s:Shared}{a b out:Array Keyed}{na nb ac bc mg n:Nat}{st:SortSt}
theorem jF.first (H:jF a b)(m:MH a b out na nb)(e:nb=1):Ar a b (Lw a b out na nb) :=
 m.firstB fun i hi j hj h=>by
  have z:i=0:=by omega
  subst z;exact H.fb j hj hi
def Y0 (a b:Array Keyed)(n:Nat)(c:H0):Prop:=∃ i j o mg,c=(none,i,j,o,mg)/\GH a b o i j/\i+j+n<=a.size+b.size
def Y1 (a b:Array Keyed)(n:Nat)(c:H1):Prop:=∃ i j o ac bc,c=(none,i,j,o,ac,bc)/\GH a b o i j/\i+j+n<=a.size+b.size
def Y2 (a b:Array Keyed)(n:Nat)(c:H2):Prop:=∃ i j o mg ac bc,c=(none,i,j,o,mg,ac,bc)/\GH a b o i j/\i+j+n<=a.size+b.size
theorem MH.pushB' (m:MH a b out na nb)(h0:0<nb)(hb:nb<=b.size)(h:∀ j (hj:j<a.size),j<na->ky a[j]<=ky (b[nb-1]'(by omega))):MH a b (out.push (b[nb-1]'(by omega))) na (nb-1):=by
 obtain ⟨k,rfl⟩:∃ k,nb=k+1:=⟨nb-1,by omega⟩
 exact m.pushB (by omega) h
theorem MH.pushA' (m:MH a b out na nb)(h0:0<na)(ha:na<=a.size)(h:∀ j (hj:j<b.size),j<nb->ky b[j]<=ky (a[na-1]'(by omega))):MH a b (out.push (a[na-1]'(by omega))) (na-1) nb:=by
 obtain ⟨k,rfl⟩:∃ k,na=k+1:=⟨na-1,by omega⟩
 exact m.pushA (by omega) h
theorem Dt {Q:ForInStep H1->SortSt->Prop}(H:jF a b)(hk:kindOf st=oneType')(g:GH a b out na nb)(hn:na+nb+n<=a.size+b.size)
  (h:∀ r,(∀ c,r=.done c->Gd a b c.1∨Y1 a b (n+1) c)->(∀ c,r=.yield c->Y1 a b (n+1) c)->Q r st):wpS (model prog w) A E s (Gy a b mg out na nb ac bc) Q st:=by
 obtain ⟨m,h1,h2,h4,h5⟩:=g;have h3:na-1<a.size:=by omega
 have h6:nb-1<b.size:=by omega
 unfold Gy;refine wpS_bind (bM h6 (wpS_bind (bM h3 (wpS_bind (uO hk (H.ib _ (ZJ h6)) (H.ia _ (ZJ h3)) ?_)))));dsimp only
 by_cases z:ky b[nb-1]<ky a[na-1]
 ·rw [if_pos (decide_eq_true z)];refine wpS_bind (bM h3 ?_);have m':MH a b (out.push a[na-1]) (na-1) nb:=m.pushA' h1 h4 fun j hj hij=>Yr (dZ H.sb h6 (by omega)) (Yt z)
  by_cases e:na-1=0
  ·rw [if_pos (by simpa using e)];exact wpS_pure (h _ (fun c hc=>by cases hc; exact .inl ⟨_,rfl,m'.done (.inl e)⟩) fun c hc=>nomatch hc)
  ·rw [if_neg (by simpa using e)];have g':GH a b (out.push a[na-1]) (na-1) nb:=⟨m',by omega,h2,by omega,h5⟩
   split
   ·exact wpS_pure (h _ (fun c hc=>by cases hc; exact .inr ⟨_,_,_,_,_,rfl,g',by omega⟩) fun c hc=>nomatch hc)
   ·exact wpS_pure (h _ (fun c hc=>nomatch hc) fun c hc=>by cases hc; exact ⟨_,_,_,_,_,rfl,g',by omega⟩)
 ·rw [if_neg (by simpa using z)];refine wpS_bind (bM h6 ?_);have m':MH a b (out.push b[nb-1]) na (nb-1):=m.pushB' (by omega) h5 fun j hj hij=>Yr (dZ H.sa h3 (by omega)) (aAS.mp z)
  by_cases e:nb-1=1
  ·rw [if_pos (by simpa using e)];exact wpS_pure (h _ (fun c hc=>by cases hc; exact .inl ⟨_,rfl,H.first m' e⟩) fun c hc=>nomatch hc)
  ·rw [if_neg (by simpa using e)];have g':GH a b (out.push b[nb-1]) na (nb-1):=⟨m',h1,by omega,h4,by omega⟩
   split
   ·exact wpS_pure (h _ (fun c hc=>by cases hc; exact .inr ⟨_,_,_,_,_,rfl,g',by omega⟩) fun c hc=>nomatch hc)
   ·exact wpS_pure (h _ (fun c hc=>nomatch hc) fun c hc=>by cases hc; exact ⟨_,_,_,_,_,rfl,g',by omega⟩)
abbrev P2 (a b:Array Keyed)(n:Nat)(Q:ForInStep H2->SortSt->Prop)(st:SortSt):Prop:=∀ r st',SG st st'->(∀ c,r=.done c->Gd a b c.1∨Y2 a b n c)->(∀ c,r=.yield c->Y2 a b n c)->Q r st'
theorem Ay {Q:ForInStep H2->SortSt->Prop}(H:jF a b)(m:MH a b out na nb)(h1:0<na)(h2:1<nb)(h4:na<=a.size)(h5:nb<=b.size)(z:ky (b[nb-1]'(by omega))<=ky (a[na-1]'(by omega)))(hn:na+nb+n<=a.size+b.size)(h:P2 a b n Q st):wpS (model prog w) A E s (Pu a b mg out na nb ac bc) Q st:=by
 have h3:na-1<a.size:=by omega
 have h6:nb-1<b.size:=by omega
 unfold Pu;refine wpS_bind (bM h3 ?_);have m':MH a b (out.push a[na-1]) (na-1) nb:=m.pushA' h1 h4 fun j hj hij=>Yr (dZ H.sb h6 (by omega)) z
 by_cases e:na-1=0
 ·rw [if_pos (by simpa using e)];exact wpS_pure (h _ _ (SG.refl _) (fun c hc=>by cases hc; exact .inl ⟨_,rfl,m'.done (.inl e)⟩) fun c hc=>nomatch hc)
 ·rw [if_neg (by simpa using e)];have g':GH a b (out.push a[na-1]) (na-1) nb:=⟨m',by omega,h2,by omega,h5⟩
  split
  ·exact wpS_pure (h _ _ (SG.refl _) (fun c hc=>by cases hc; exact .inr ⟨_,_,_,_,_,_,rfl,g',by omega⟩) fun c hc=>nomatch hc)
  ·exact wpS_pure (h _ _ (SG.refl _) (fun c hc=>nomatch hc) fun c hc=>by cases hc; exact ⟨_,_,_,_,_,_,rfl,g',by omega⟩)
theorem zR {Q:ForInStep H2->SortSt->Prop}(H:jF a b)(hk:kindOf st=oneType')(m:MH a b out na nb)(h1:0<na)(h2:1<nb)(h4:na<=a.size)(h5:nb<=b.size)(z:ky (a[na-1]'(by omega))<=ky (b[nb-1]'(by omega)))(hn:na+nb+n<=a.size+b.size)(h:P2 a b n Q st):wpS (model prog w) A E s (PB a b mg out na nb ac bc) Q st:=by
 have h3:na-1<a.size:=by omega
 have h6:nb-1<b.size:=by omega
 unfold PB;refine wpS_bind (bM h6 ?_);have m':MH a b (out.push b[nb-1]) na (nb-1):=m.pushB' (by omega) h5 fun j hj hij=>Yr (dZ H.sa h3 (by omega)) z
 by_cases e:nb-1=1
 ·rw [if_pos (by simpa using e)];exact wpS_pure (h _ _ (SG.refl _) (fun c hc=>by cases hc; exact .inl ⟨_,rfl,H.first m' e⟩) fun c hc=>nomatch hc)
 ·rw [if_neg (by simpa using e)];refine wpS_bind (bM h3 (wpS_bind (gG hk (H.ia _ (ZJ h3)) H.ib (fun i j hj hij _ _=>dZ H.sb hj hij) (by omega) (by omega) fun k k1 k2 k3=>?_)));dsimp only;have m2:MH a b (out.push b[nb-1]++(b.extract k (nb-1)).reverse) na k:=m'.bulkB k1 fun i hi j hj i1 i2 i3=>Yr (dZ H.sa h3 (by omega)) (nW.2.mp (k3 i hi (by omega) (by omega)))
  by_cases k0:nb-1-k > 0
  ·rw [if_pos k0]
   by_cases e1:k=1
   ·rw [if_pos (by simpa using e1)];exact wpS_pure (h _ _ (SG.refl _) (fun c hc=>by cases hc; exact .inl ⟨_,rfl,H.first m2 e1⟩) fun c hc=>nomatch hc)
   ·rw [if_neg (by simpa using e1)]
    by_cases e2:k=0
    ·rw [if_pos (by simpa using e2)];exact wpS_pure (h _ _ (SG.refl _) (fun c hc=>by cases hc; exact .inl ⟨_,rfl,m2.done (.inr e2)⟩) fun c hc=>nomatch hc)
    ·rw [if_neg (by simpa using e2)];exact Ay H m2 h1 (by omega) h4 (by omega) (Yt (nW.1.mp (k2 (k-1) (by omega) (by omega) (by omega)))) (by omega) h
  ·rw [if_neg k0];exact Ay H m' h1 (by omega) h4 (by omega) (Yt (nW.1.mp (k2 (nb-1-1) (by omega) (by omega) (by omega)))) (by omega) h
theorem Ii {Q:ForInStep H2->SortSt->Prop}(H:jF a b)(hk:kindOf st=oneType')(g:GH a b out na nb)(hn:na+nb+n<=a.size+b.size)(h:P2 a b n Q st):wpS (model prog w) A E s (Mx a b mg out na nb ac bc) Q st:=by
 obtain ⟨m,h1,h2,h4,h5⟩:=g;have h3:na-1<a.size:=by omega
 have h6:nb-1<b.size:=by omega
 unfold Mx iW;refine wpS_bind (wpS_modify ?_);have sg:SG st (SortSt.mk' (kindOf st) (arrOf st) (pendingOf st) mg (failedOf st)):=⟨mg,rfl⟩
 generalize SortSt.mk' (kindOf st) (arrOf st) (pendingOf st) mg (failedOf st)=st1 at sg ⊢;have hk1:kindOf st1=oneType':=sg.kind.trans hk;have h':P2 a b n Q st1:=fun r st' s1=>h r st' (sg.trans s1);refine wpS_bind (bM h6 (wpS_bind (gG hk1 (H.ib _ (ZJ h6)) H.ia (fun i j hj hij _ _=>dZ H.sa hj hij) (by omega) (by omega) fun k k1 k2 k3=>?_)));dsimp only;have m2:MH a b (out++(a.extract k na).reverse) k nb:=m.bulkA k1 fun i hi j hj i1 i2 i3=>Yr (dZ H.sb h6 (by omega)) (Yt (lZ.2.mp (k3 i hi (by omega) (by omega))))
 by_cases k0:na-k > 0
 ·rw [if_pos k0]
  by_cases e1:k=0
  ·rw [if_pos (by simpa using e1)];exact wpS_pure (h' _ _ (SG.refl _) (fun c hc=>by cases hc; exact .inl ⟨_,rfl,m2.done (.inl e1)⟩) fun c hc=>nomatch hc)
  ·rw [if_neg (by simpa using e1)];exact zR H hk1 m2 (by omega) h2 (by omega) h5 (lZ.1.mp (k2 (k-1) (by omega) (by omega) (by omega))) (by omega) h'
 ·rw [if_neg k0];exact zR H hk1 m h1 h2 h4 h5 (lZ.1.mp (k2 (na-1) (by omega) (by omega) (by omega))) hn h'
theorem Ea {Q:ForInStep H0->SortSt->Prop}(H:jF a b)(hk:kindOf st=oneType')(g:GH a b out na nb)(hn:na+nb+n<=a.size+b.size)
  (h:∀ r st',SG st st'->(∀ c,r=.done c->Gd a b c.1)->(∀ c,r=.yield c->Y0 a b (n+1) c)->Q r st'):wpS (model prog w) A E s (Iu a b out na nb mg) Q st:=by
 unfold Iu;refine wpS_bind (wpS_mono (wpS_forRange (I:=fun x c st'=>st'=st/\Y1 a b (n+x) c) (Q:=fun c st'=>st'=st/\(Gd a b c.1∨Y1 a b (n+1) c)) ?step ?fin ⟨rfl,_,_,_,_,_,rfl,g,hn⟩) ?post)
 case fin =>
  rintro c st' ⟨rfl,o,i,j,ac,bc,rfl,g',hh⟩;have:=g'.2;exact ⟨rfl,.inr ⟨o,i,j,ac,bc,rfl,g',by omega⟩⟩
 case step =>
  rintro x c st' _ hx ⟨rfl,i,j,o,ac,bc,rfl,g',hh⟩;refine Dt H hk g' hh fun r h1 h2=>?_;cases r with
  | done c =>
   refine ⟨rfl,?_⟩;rcases h1 c rfl with z | ⟨o,i,j,ac,bc,e,g2,hh2⟩
   ·exact .inl z
   ·exact .inr ⟨o,i,j,ac,bc,e,g2,by omega⟩
  | yield c=>exact ⟨rfl,h2 c rfl⟩
 case post =>
  rintro c st' ⟨rfl,z | ⟨i,j,o,ac,bc,rfl,g',hh⟩⟩
  ·obtain ⟨r,e,hr⟩:=z;obtain ⟨c1,c2⟩:=c;obtain rfl:c1=some r:=e;exact wpS_pure (h _ _ (SG.refl _) (fun c hc=>by cases hc; exact ⟨r,rfl,hr⟩) fun c hc=>nomatch hc)
  ·dsimp only;refine wpS_bind (wpS_lift (wpAny_rule ⟨rfl,?_⟩));refine wpS_bind (wpS_mono (wpS_forRange (I:=fun x c st2=>SG st' st2/\Y2 a b (n+1) c) (Q:=fun c st2=>SG st' st2/\(Gd a b c.1∨Y2 a b (n+1) c)) ?step ?fin ⟨SG.refl _,_,_,_,_,_,_,rfl,g',hh⟩) ?post)
   case fin =>
    rintro c st2 ⟨sg,z⟩;exact ⟨sg,.inr z⟩
   case step =>
    rintro x c st2 _ hx ⟨sg,i,j,o,mg,ac,bc,rfl,g2,hh2⟩;have hk2:=sg.kind.trans hk;dsimp only
    split
    all_goals
     refine Ii H hk2 g2 hh2 fun r st3 s1 h1 h2=>?_;cases r with
     | done c=>exact ⟨sg.trans s1,h1 c rfl⟩
     | yield c=>exact ⟨sg.trans s1,h2 c rfl⟩
   case post =>
    rintro c st2 ⟨sg,z | ⟨i,j,o,mg,ac,bc,rfl,g2,hh2⟩⟩
    ·obtain ⟨r,e,hr⟩:=z;obtain ⟨c1,c2⟩:=c;obtain rfl:c1=some r:=e;exact wpS_pure (h _ _ sg (fun c hc=>by cases hc; exact ⟨r,rfl,hr⟩) fun c hc=>nomatch hc)
    ·dsimp only;unfold iW;refine wpS_bind (wpS_modify (wpS_pure (h _ _ (sg.trans ⟨_,rfl⟩) (fun c hc=>nomatch hc) fun c hc=>by cases hc; exact ⟨_,_,_,_,rfl,g2,hh2⟩)))
theorem vM {Q:Array Keyed->SortSt->Prop}(H:jF a b)(hk:kindOf st=oneType')(ha:0<a.size)(hb:0<b.size)(h:∀ r st',SG st st'->Ar a b r->Q r st'):wpS (model prog w) A E s (lG a b) Q st:=by
 rw [vR];unfold Qj;refine wpS_bind (wpS_lift (wpAny_rule ⟨rfl,?_⟩));refine wpS_bind (bM (show a.size-1<a.size by omega) ?_);have m:=MH.start H.sa H.sb ha fun j hj=>H.la j hj (a.size-1) (by omega) (by omega)
 by_cases e:a.size-1=0
 ·rw [if_pos (by simpa using e)];exact wpS_pure (h _ _ (SG.refl _) (m.done (.inl e)))
 ·rw [if_neg (by simpa using e)]
  by_cases e2:b.size=1
  ·rw [if_pos (by simpa using e2)];exact wpS_pure (h _ _ (SG.refl _) (H.first m e2))
  ·rw [if_neg (by simpa using e2)];refine wpS_bind (wpS_get ?_);refine wpS_bind (wpS_mono (wpS_forRange (I:=fun x c st'=>SG st st'/\Y0 a b (x+1) c) (Q:=fun c st'=>SG st st'/\Gd a b c.1) ?step ?fin ⟨SG.refl _,_,_,_,_,rfl,⟨m,by omega,by omega,by omega,by omega⟩,by omega⟩) ?post)
   case fin =>
    rintro c st' ⟨sg,o,i,j,mg,rfl,g,hh⟩;have:=g.2;omega
   case step =>
    rintro x c st' _ hx ⟨sg,i,j,o,mg,rfl,g,hh⟩;refine Ea H (sg.kind.trans hk) g hh fun r st2 s1 h1 h2=>?_;cases r with
    | done c=>exact ⟨sg.trans s1,h1 c rfl⟩
    | yield c=>exact ⟨sg.trans s1,h2 c rfl⟩
   case post =>
    rintro ⟨c1,c2⟩ st' ⟨sg,r,e,hr⟩;obtain rfl:c1=some r:=e;exact wpS_pure (h _ _ sg hr)
end
theorem rH:∀ (l:List Keyed) (n at_:Nat) (xs:Array Keyed),at_+n+l.length<=xs.size ->
  ((l.zipIdx n).foldl (fun a (p,j)=>a.setIfInBounds (at_+j) p) xs).toList=xs.toList.take (at_+n)++(l++xs.toList.drop (at_+n+l.length))
 | [],n,at_,xs,h=>by simp
 | p::l,n,at_,xs,h=>by
  rw [List.zipIdx_cons,Zw];have hl:(p::l).length=l.length+1:=rfl;rw [rH l (n+1) at_ _ (by rw [Array.size_setIfInBounds]; rw [hl] at h; omega)];rw [Array.toList_setIfInBounds];have e1:(xs.toList.set (at_+n) p).take (at_+(n+1))=xs.toList.take (at_+n)++[p]:=by
   rw [show at_+(n+1)=at_+n+1 by omega,aAW,List.take_set_of_le (YS _),aAu (by rw [YW]; rw [hl] at h; omega)]
   rfl
  have e2:(xs.toList.set (at_+n) p).drop (at_+(n+1)+l.length)=xs.toList.drop (at_+n+(p::l).length):=by
   rw [List.drop_set_of_lt (by omega)]
   congr 1
   rw [hl]; omega
  rw [e1,e2,Yl]
  rfl
theorem Bt {xs:Array Keyed}{i:Nat}(h:i<xs.size):K xs i=ky xs[i]:=by
 unfold K ky;rw [getElem?_pos xs i h]
theorem Ni {xs:Array Keyed}(h:SL xs.toList):SortedTo xs xs.size:=fun i j hij hj=>by
 rw [Bt hj,Bt (show i<xs.size by omega)];exact dZ h hj hij
section
variable {prog:Program}{w:World}{A:Around}{E:Value->Shared->Prop}{s:Shared}{st:SortSt}
theorem wB (i:Nat):mergeAt' i=(do
 let s <- get
 let (some (sa,na,power),some (sb,nb,_)):=((pendingOf s)[i]?,(pendingOf s)[i+1]?) | unsupported "internal:list.sort.pending"
 set (setPending s (((pendingOf s).setIfInBounds i (sa,na+nb,power)).eraseIdxIfInBounds (i+1)))
 let some k <- cZ false (<- elem' (arrOf s) sb) (arrOf s) sa na 0 | return false
 let (sa,na):=(sa+k,na-k)
 if na==0 then return true
 let some nb <- cZ true (<- elem' (arrOf s) (sa+na-1)) (arrOf s) sb nb (nb-1) | return false
 if nb==0 then return true
 let x:=(arrOf s).extract sa sb
 let y:=(arrOf s).extract sb (sb+nb)
 let merged <- if na<=nb then lW x y else lG x y
 modify fun s=>setArr s (merged.toList.zipIdx.foldl (fun a (p,j)=>a.setIfInBounds (sa+j) p) (arrOf s))
 return (failedOf (<- get)).isNone):=rfl
theorem Gn {Q:PUnit->SortSt->Prop}{x:SortSt}(h:Q ⟨⟩ x):wpS (model prog w) A E s (set x:SM PUnit) Q st:=by
 unfold wpS; rw [StateT.run_set]; exact wpAny_pure ⟨rfl,h⟩
theorem oN {xs:Array Keyed}{i j k:Nat}(h:k<(xs.extract i j).size):(xs.extract i j)[k]=xs[i+k]'(by rw [aAT] at h; omega):=by rw [Array.getElem_extract]
theorem vZ {n1 n2 p q:Nat}{xs:Array Keyed}{Q:Bool->SortSt->Prop}(hxs:arrOf st=xs)(hk:kindOf st=oneType')(hI:∀ p∈xs,Cv p)(hp:pendingOf st = #[(0,n1,p),(n1,n2,q)])(hsz:xs.size=n1+n2)(h1:1<=n1)(h2:1<=n2)
  (s1:∀ i j (hj:j<xs.size) (hij:i<=j),j<n1->ky (xs[i]'(by omega))<=ky xs[j]) (s2:∀ i j (hj:j<xs.size) (hij:i<=j),n1<=i->ky (xs[i]'(by omega))<=ky xs[j]) (hf:failedOf st=none)
  (h:∀ st',(arrOf st').toList.Perm xs.toList->kindOf st'=oneType'->failedOf st'=none->pendingOf st' = #[(0,n1+n2,p)]->SL (arrOf st').toList->Q true st'):wpS (model prog w) A E s (mergeAt' 0) Q st:=by
 rw [wB];refine wpS_bind (wpS_get ?_);rw [hp,hxs];dsimp only [aAB,List.getElem?_cons_zero,List.getElem?_cons_succ];refine wpS_bind (Gn ?_);have ep:((#[(0,n1,p),(n1,n2,q)]:Array (Nat×Nat×Nat)).setIfInBounds 0 (0,n1+n2,p)).eraseIdxIfInBounds (0+1) = #[(0,n1+n2,p)]:=by simp [Array.eraseIdxIfInBounds]
 rw [ep];generalize hst:setPending st #[(0,n1+n2,p)]=st1;have a1:arrOf st1=xs:=by rw [<- hst]; exact hxs
 have k1:kindOf st1=oneType':=by rw [<- hst]; exact hk
 have f1:failedOf st1=none:=by rw [<- hst]; exact hf
 have p1:pendingOf st1 = #[(0,n1+n2,p)]:=by rw [<- hst]
 have fin:SL xs.toList->Q true st1:=fun sl=>h st1 (by rw [a1]) k1 f1 p1 (by rw [a1]; exact sl);have lt1:n1<xs.size:=by omega
 refine wpS_bind (bM lt1 (wpS_bind (gG k1 (hI _ (ZJ lt1)) hI (fun i j hj hij _ hj2=>s1 i j hj hij (by omega)) (by omega) (by omega) fun k c1 c2 c3=>?_)));dsimp only;have whole:(∀ i (hi:i<xs.size),i<n1->ky xs[i]<=ky xs[n1])->SL xs.toList:=fun hh=>by
  refine Yu.mpr fun i j hi hj hij=>?_;rw [YW] at hi hj;simp only [ZL]
  by_cases z:j<n1
  ·exact s1 i j hj (by omega) z
  ·by_cases z2:i<n1
   ·exact Yr (hh i hi z2) (s2 n1 j hj (by omega) (YS _))
   ·exact s2 i j hj (by omega) (by omega)
 by_cases e1:n1-k=0
 ·rw [if_pos (by simpa using e1)];exact wpS_pure (fin (whole fun i hi hl=>lZ.1.mp (c2 i hi (by omega) (by omega))))
 ·rw [if_neg (by simpa using e1)];have el:0+k+(n1-k)-1=n1-1:=by omega
  have lt2:n1-1<xs.size:=by omega
  simp only [el];refine wpS_bind (bM lt2 (wpS_bind (gG k1 (hI _ (ZJ lt2)) hI (fun i j hj hij hi _=>s2 i j hj hij hi) (by omega) (by omega) fun m d1 d2 d3=>?_)));dsimp only
  by_cases e2:m=0
  ·rw [if_pos (by simpa using e2)];refine wpS_pure (fin (whole fun i hi hl=>?_));exact Yr (s1 i (n1-1) lt2 (by omega) (by omega)) (nW.2.mp (d3 n1 lt1 (by omega) (by omega)))
  ·rw [if_neg (by simpa using e2)];have hx:(xs.extract (0+k) n1).size=n1-k:=by rw [aAT]; omega
   have hy:(xs.extract n1 (n1+m)).size=m:=by rw [aAT]; omega
   have H:jF (xs.extract (0+k) n1) (xs.extract n1 (n1+m)):=by
    refine ⟨fun p hp=>?_,fun p hp=>?_,?_,?_,fun j hj i hi e=>?_,fun j hj h0=>?_⟩
    ·obtain ⟨i,hi,rfl⟩:=aBc.mp hp;rw [oN]; exact hI _ (ZJ _)
    ·obtain ⟨i,hi,rfl⟩:=aBc.mp hp;rw [oN]; exact hI _ (ZJ _)
    ·refine Yu.mpr fun i j hi hj hij=>?_;simp only [ZL,oN];rw [YW,hx] at hj;exact s1 _ _ (by omega) (by omega) (by omega)
    ·refine Yu.mpr fun i j hi hj hij=>?_;simp only [ZL,oN];rw [YW,hy] at hj;exact s2 _ _ (by omega) (by omega) (by omega)
    ·rw [oN,oN];rw [hx] at e hi;rw [hy] at hj;have ee:0+k+i=n1-1:=by omega
     simp only [ee];exact Yt (nW.1.mp (d2 (n1+j) (by omega) (by omega) (by omega)))
    ·rw [oN,oN];rw [hx] at hj;simp only [Nat.add_zero];exact Yt (lZ.2.mp (c3 (0+k+j) (by omega) (by omega) (by omega)))
   have key:∀ r st',SG st1 st'->Ar (xs.extract (0+k) n1) (xs.extract n1 (n1+m)) r ->
     wpS (model prog w) A E s (do
      modify fun s=>setArr s (r.toList.zipIdx.foldl (fun a (p,j)=>a.setIfInBounds (0+k+j) p) (arrOf s))
      let __do_lift <- get
      pure (failedOf __do_lift).isNone) Q st':=by
    rintro r st' ⟨g,rfl⟩ ⟨m1,m2⟩;refine wpS_bind (wpS_modify (wpS_bind (wpS_get (wpS_pure ?_))));have hr:r.toList.length=n1-k+m:=by rw [m2.length_eq,Y4,YW,YW,hx,hy]
    have el:=rH r.toList 0 (0+k) xs (by rw [hr]; omega);simp only [Nat.add_zero,hr] at el;have es:xs.toList=xs.toList.take (0+k)++(((xs.extract (0+k) n1).toList++(xs.extract n1 (n1+m)).toList)++xs.toList.drop (0+k+(n1-k+m))):=by
     rw [dW,dW,Yl]
     conv=>lhs; rw [<- Z6 (0+k) xs.toList,<- Z6 (n1-(0+k)) (xs.toList.drop (0+k)),aBg,<- Z6 (n1+m-n1) (xs.toList.drop (0+k+(n1-(0+k)))),aBg]
     rw [show 0+k+(n1-(0+k))=n1 by omega,show n1+(n1+m-n1)=0+k+(n1-k+m) by omega]
    have e0:(failedOf st1).isNone=true:=by rw [f1]; rfl
    show Q (failedOf st1).isNone _;rw [e0];have ea:arrOf (SortSt.mk' (kindOf st1) (arrOf st1) (pendingOf st1) g (failedOf st1))=xs:=a1;refine h _ ?_ k1 f1 p1 ?_
    ·show (r.toList.zipIdx.foldl (fun a (p,j)=>a.setIfInBounds (0+k+j) p) (arrOf (SortSt.mk' (kindOf st1) (arrOf st1) (pendingOf st1) g (failedOf st1)))).toList.Perm xs.toList;rw [ea,el]
     conv=>rhs; rw [es]
     exact ZS.append_left _ (ZS.append_right _ m2)
    ·show SL (r.toList.zipIdx.foldl (fun a (p,j)=>a.setIfInBounds (0+k+j) p) (arrOf (SortSt.mk' (kindOf st1) (arrOf st1) (pendingOf st1) g (failedOf st1)))).toList;rw [ea,el];have inR:∀ x∈r.toList,(∃ i,∃ hi:i<xs.size,k<=i/\i<n1/\x=xs[i])∨(∃ i,∃ hi:i<xs.size,n1<=i/\i<n1+m/\x=xs[i]):=fun x hx=>by
      rcases Ye.mp (m2.mem_iff.mp hx) with z | z
      ·rw [dW] at z;obtain ⟨j,hj,b1,b2,rfl⟩:=nC z;exact .inl ⟨j,hj,by omega,by omega,rfl⟩
      ·rw [dW] at z;obtain ⟨j,hj,b1,b2,rfl⟩:=nC z;exact .inr ⟨j,hj,by omega,by omega,rfl⟩
     have tk:∀ x∈xs.toList.take (0+k),∃ i,∃ hi:i<xs.size,i<k/\x=xs[i]:=fun x hx=>by
      obtain ⟨j,hj,b1,rfl⟩:=kJ hx;exact ⟨j,hj,by omega,rfl⟩
     have dr:∀ x∈xs.toList.drop (0+k+(n1-k+m)),∃ i,∃ hi:i<xs.size,n1+m<=i/\x=xs[i]:=fun x hx=>by
      obtain ⟨j,hj,b1,rfl⟩:=fL hx;exact ⟨j,hj,by omega,rfl⟩
     have pw:∀ l:List Keyed,(∃ n,l=xs.toList.take n/\n<=n1)∨(∃ n,l=xs.toList.drop n/\n1<=n)->SL l:=fun l hl=>by
      rcases hl with ⟨n,rfl,hn⟩ | ⟨n,rfl,hn⟩
      ·refine Yu.mpr fun i j hi hj hij=>?_;rw [Yw,YW] at hj;simp only [aAw,ZL];exact s1 i j (by omega) (by omega) (by omega)
      ·refine Yu.mpr fun i j hi hj hij=>?_;rw [Z8,YW] at hj;simp only [aAi,ZL];exact s2 _ _ (by omega) (by omega) (by omega)
     have lowk:∀ i (hi:i<xs.size),i<k->ky xs[i]<=ky xs[n1]:=fun i hi hik=>lZ.1.mp (c2 i hi (by omega) (by omega));rw [m5];refine ⟨pw _ (.inl ⟨_,rfl,by omega⟩),m5.mpr ⟨m1,pw _ (.inr ⟨_,rfl,by omega⟩),fun x hx y hy=>?_⟩,fun x hx y hy=>?_⟩
     ·obtain ⟨j,hj,b1,rfl⟩:=dr y hy;rcases inR x hx with ⟨i,hi,b2,b3,rfl⟩ | ⟨i,hi,b2,b3,rfl⟩
      ·exact Yr (s1 i (n1-1) lt2 (by omega) (by omega)) (nW.2.mp (d3 j hj (by omega) (by omega)))
      ·exact s2 i j hj (by omega) b2
     ·obtain ⟨i,hi,b1,rfl⟩:=tk x hx;rcases Ye.mp hy with z | z
      ·rcases inR y z with ⟨j,hj,b2,b3,rfl⟩ | ⟨j,hj,b2,b3,rfl⟩
       ·exact s1 i j hj (by omega) (by omega)
       ·exact Yr (lowk i hi b1) (s2 n1 j hj (by omega) (YS _))
      ·obtain ⟨j,hj,b2,rfl⟩:=dr y z;exact Yr (lowk i hi b1) (s2 n1 j hj (by omega) (YS _))
   split
   ·exact wpS_bind (vL H k1 (by rw [hx]; omega) (by rw [hy]; omega) key)
   ·exact wpS_bind (vM H k1 (by rw [hx]; omega) (by rw [hy]; omega) key)
end
structure SC (a₀ pre:Array Keyed)(lo:Nat)(pn:Array (Nat×Nat×Nat))(st:SortSt):Prop where
 perm:(arrOf st).Perm a₀
 kind:kindOf st=oneType'
 failed:failedOf st=none
 pend:pendingOf st=pn
 keep:∀ i,i<lo->(arrOf st)[i]? = pre[i]?
def kZ (xs:Array Keyed)(lo n:Nat):Prop:=∀ i j,lo<=i->i<=j->j<lo+n->K xs i<=K xs j
def BX (xs:Array Keyed)(lo n:Nat):Prop:=∀ i j,lo<=i->i<=j->j<lo+n->K xs j<=K xs i
section
variable {a₀ pre:Array Keyed}{lo:Nat}{pn:Array (Nat×Nat×Nat)}{st:SortSt}
theorem SC.size (h:SC a₀ pre lo pn st):(arrOf st).size=a₀.size:=h.perm.size_eq
theorem SC.mir (h:SC a₀ pre lo pn st){i j:Nat}(hi:lo<=i)(hj:j<=a₀.size):SC a₀ pre lo pn (setArr st (mirror (arrOf st) i j ((j-i)/2))) :=
 ⟨(mirror_perm _ _ _ _).trans h.perm,h.kind,h.failed,h.pend,fun k hk=>by
  show (mirror (arrOf st) i j ((j-i)/2))[k]? = _;rw [getElem?_mirror_all (by rw [h.size]; exact hj),if_neg (by omega)];exact h.keep k hk⟩
theorem SC.bub (h:SC a₀ pre lo pn st){src d:Nat}(hs:src<a₀.size)(hd:lo+d<=src):SC a₀ pre lo pn (setArr st (bubble (arrOf st) src d)) :=
 ⟨(bubble_perm _ _ _).trans h.perm,h.kind,h.failed,h.pend,fun k hk=>by
  show (bubble (arrOf st) src d)[k]? = _;rw [getElem?_bubble (by rw [h.size]; exact hs) d (by omega),if_neg (by omega),if_neg (by omega)];exact h.keep k hk⟩
theorem SC.at_ (h:SC a₀ pre lo pn st)(h0:IntKeys a₀){i:Nat}(hi:i<a₀.size):∃ t q,(arrOf st)[i]? = some (.int (K (arrOf st) i) t,q) :=
 SBase.at (st:=setPending st #[]) ⟨h.perm,h.kind,h.failed,rfl⟩ h0 hi
end
section
variable {prog:Program}{w:World}{A:Around}{E:Value->Shared->Prop}{s:Shared}{a₀ pre:Array Keyed}{lo:Nat}{pn:Array (Nat×Nat×Nat)}{st:SortSt}
theorem dM {i j:Nat}{Q:Option Bool->SortSt->Prop}(hB:SC a₀ pre lo pn st)(h0:IntKeys a₀)(hi:i<a₀.size)(hj:j<a₀.size)
  (h:Q (some (decide (K (arrOf st) i<K (arrOf st) j))) st):wpS (model prog w) A E s (ltAt' i j) Q st:=by
 obtain ⟨t,p,e1⟩:=hB.at_ h0 hi;obtain ⟨u,q,e2⟩:=hB.at_ h0 hj;exact wpS_ltAt hB.kind e1 e2 h
theorem lL {n ok:Nat}{Q:Bool->SortSt->Prop}(h0:IntKeys a₀)(hn:lo+n<=a₀.size)(hok:ok<=n)(hB:SC a₀ pre lo pn st)(hs:kZ (arrOf st) lo ok)
  (h:∀ st',SC a₀ pre lo pn st'->kZ (arrOf st') lo n->Q true st'):wpS (model prog w) A E s (binarySort' lo n ok) Q st:=by
 rw [binarySort'_eq];refine wpS_bind (wpS_mono (wpS_forRange (I:=fun k c st'=>c=(none,())/\SC a₀ pre lo pn st'/\kZ (arrOf st') lo (min k n))
  (Q:=fun c st'=>c=(none,())/\SC a₀ pre lo pn st'/\kZ (arrOf st') lo n) ?step ?fin ?init) ?post)
 case post =>
  rintro c st' ⟨rfl,hB',hs'⟩;exact wpS_pure (h st' hB' hs')
 case init =>
  refine ⟨rfl,hB,fun i j hi hij hj=>?_⟩
  by_cases h1:ok=0
  ·have:i=j:=by omega
   subst this; exact Y_ _
  ·exact hs i j hi hij (by omega)
 case fin =>
  rintro c st' ⟨hc,hB',hs'⟩;refine ⟨hc,hB',?_⟩
  rwa [show min (max (max ok 1) n) n=n by omega] at hs'
 case step =>
  rintro k c st' hak hkn ⟨rfl,hB',hs'⟩;rw [show min k n=k by omega] at hs';have hk:lo+k<a₀.size:=by omega
  refine wpS_bind (wpS_mono (wpS_forRange (I:=fun x c st''=>st''=st'/\∃ l r,c=(none,l,r)/\l<=r/\r<=k/\r-l<=k-x ∧
    (∀ i,lo<=i->i<lo+l->K (arrOf st') i<=K (arrOf st') (lo+k))/\(∀ i,lo+r<=i->i<lo+k->K (arrOf st') (lo+k)<K (arrOf st') i))
   (Q:=fun c st''=>st''=st'/\∃ l r,c=(none,l,r)/\l<=k ∧
    (∀ i,lo<=i->i<lo+l->K (arrOf st') i<=K (arrOf st') (lo+k))/\(∀ i,lo+l<=i->i<lo+k->K (arrOf st') (lo+k)<K (arrOf st') i)) ?istep ?ifin ?iinit) ?ipost)
  case iinit=>exact ⟨rfl,0,k,rfl,by omega,by omega,by omega,fun i hi=>by omega,fun i h1 h2=>by omega⟩
  case ifin =>
   rintro c st'' ⟨rfl,l,r,rfl,hlr,hrk,hm,hlo,hhi⟩;have:l=r:=by omega
   subst this;exact ⟨rfl,l,l,rfl,hrk,hlo,hhi⟩
  case istep =>
   rintro x c st'' _ hxk ⟨rfl,l,r,rfl,hlr,hrk,hm,hlo,hhi⟩;dsimp only
   by_cases hge:l ≥ r
   ·rw [if_pos hge];have:l=r:=by omega
    subst this;exact wpS_pure ⟨rfl,l,l,rfl,hrk,hlo,hhi⟩
   ·rw [if_neg hge];refine wpS_bind (dM hB' h0 hk (by omega) ?_)
    by_cases hless:K (arrOf st'') (lo+k)<K (arrOf st'') (lo+(l+r)/2)
    ·simp only [hless,decide_true,if_true];refine wpS_pure ⟨rfl,l,(l+r)/2,rfl,by omega,by omega,by omega,hlo,fun i h1 h2=>?_⟩;exact aBt hless (hs' _ _ (by omega) h1 (by omega))
    ·simp only [hless,decide_false,Y6,if_false];refine wpS_pure ⟨rfl,(l+r)/2+1,r,rfl,by omega,by omega,by omega,fun i h1 h2=>?_,hhi⟩;exact Yr (hs' i (lo+(l+r)/2) h1 (by omega) (by omega)) (aAS.mp hless)
  case ipost =>
   rintro c st'' ⟨rfl,l,r,rfl,hlk,hlo,hhi⟩;show wpS _ _ _ _ (do moveDown' (lo+k) (lo+l); pure (ForInStep.yield (none,()))) _ _;rw [moveDown'_eq];refine wpS_bind (wpS_modify (wpS_pure ⟨rfl,hB'.bub hk (by omega),?_⟩));rw [show min (k+1) n=k+1 by omega];have hks:lo+k<(arrOf st'').size:=by rw [hB'.size]; exact hk
   intro i j hi hij hj;show K (bubble (arrOf st'') (lo+k) (lo+k-(lo+l))) i<=K (bubble (arrOf st'') (lo+k) (lo+k-(lo+l))) j;rw [K_bubble hks (by omega),K_bubble hks (by omega),show lo+k-(lo+k-(lo+l))=lo+l by omega]
   repeat' split
   all_goals first
    | (exfalso; omega)
    | exact Y_ _
    | exact hlo _ (by omega) (by omega)
    | exact Yt (hhi _ (by omega) (by omega))
    | exact hs' _ _ (by omega) (by omega) (by omega)
def uE (lo a nrem:Nat):SM AscSt :=
 forIn [a:nrem] ((none,a):AscSt) fun _ __s=>do
  let __x <- ltAt' (lo+__s.snd) (lo+__s.snd-1)
  match __x with
  | some smaller=>if smaller=true then pure (ForInStep.done (none,__s.snd)) else pure (ForInStep.yield (none,__s.snd+1))
  | _=>pure (ForInStep.done (some none,__s.snd))
def oE (lo n nrem:Nat):SM (Option Nat):=do
 reverseSlice' lo (lo+n)
 let __s <- uE lo n nrem
 match __s.fst with
 | some r=>pure r
 | none=>pure (some __s.snd)
def qC (lo n nrem:Nat):SM DescSt :=
 forIn [n:nrem] ((none,n,0):DescSt) fun _ __s=>do
  let __x <- ltAt' (lo+__s.snd.fst) (lo+__s.snd.fst-1)
  match __x with
  | some smaller =>
   if smaller=true then
    if __s.snd.snd > 0 then do
     reverseSlice' (lo+__s.snd.fst-(__s.snd.snd+1)) (lo+__s.snd.fst)
     pure (ForInStep.yield (none,__s.snd.fst+1,0))
    else pure (ForInStep.yield (none,__s.snd.fst+1,0))
   else do
    let __x <- ltAt' (lo+__s.snd.fst-1) (lo+__s.snd.fst)
    match __x with
    | some larger =>
     if larger=true then pure (ForInStep.done (none,__s.snd.fst,__s.snd.snd))
     else pure (ForInStep.yield (none,__s.snd.fst+1,__s.snd.snd+1))
    | _=>pure (ForInStep.done (some none,__s.snd.fst,__s.snd.snd))
  | _=>pure (ForInStep.done (some none,__s.snd.fst,__s.snd.snd))
def J6 (lo n nrem:Nat):SM (Option Nat):=do
 liftM (rule "list.sort.descending-run")
 let __s <- qC lo (n+1) nrem
 match __s.fst with
 | some r=>pure r
 | none =>
  if __s.snd.snd > 0 then do
   reverseSlice' (lo+__s.snd.fst-(__s.snd.snd+1)) (lo+__s.snd.fst)
   oE lo __s.snd.fst nrem
  else oE lo __s.snd.fst nrem
theorem jC {β:Type}{m n:Nat}{i:β}{f g:Nat->β->SM (ForInStep β)}(h:∀ x c,f x c=g x c):(forIn [m:n] i f)=(forIn [m:n] i g):=by
 have e:f=g:=funext fun x=>funext fun c=>h x c;rw [e]
theorem rW (lo nrem:Nat):countRun' lo nrem=(do
  let __s <- uE lo 1 nrem
  match __s.fst with
  | some r=>pure r
  | none =>
   if (__s.snd==nrem)=true then pure (some __s.snd)
   else if __s.snd > 1 then do
    let __x <- ltAt' lo (lo+__s.snd-1)
    match __x with
    | some rose=>if rose=true then pure (some __s.snd) else do
      reverseSlice' lo (lo+__s.snd)
      J6 lo __s.snd nrem
    | _=>pure none
   else J6 lo __s.snd nrem):=by
 rw [countRun'_eq];refine aM ?_ fun __s=>?_
 ·unfold uE;refine jC fun _ c=>aM rfl fun x=>?_;cases x <;> rfl
 ·obtain ⟨r,n⟩:=__s;cases r with
  | some r=>rfl
  | none =>
   refine bZ rfl (bZ (aM rfl fun x=>?_) ?_)
   ·cases x with
    | none=>rfl
    | some rose =>
     refine bZ rfl (aM rfl fun _=>?_);unfold J6 qC;refine aM rfl fun _=>aM (jC fun _ c=>aM rfl fun x=>?_) fun c=>?_
     ·cases x with
      | none=>rfl
      | some b=>refine bZ rfl (aM rfl fun y=>by cases y <;> rfl)
     ·obtain ⟨r,m,q⟩:=c;cases r with
      | some r=>rfl
      | none =>
       refine bZ (aM rfl fun _=>?_) ?_
       all_goals
        unfold oE uE;refine aM rfl fun _=>aM (jC fun _ c=>aM rfl fun x=>by cases x <;> rfl) fun c=>?_;obtain ⟨r,m⟩:=c;cases r <;> rfl
   ·unfold J6 qC;refine aM rfl fun _=>aM (jC fun _ c=>aM rfl fun x=>?_) fun c=>?_
    ·cases x with
     | none=>rfl
     | some b=>refine bZ rfl (aM rfl fun y=>by cases y <;> rfl)
    ·obtain ⟨r,m,q⟩:=c;cases r with
     | some r=>rfl
     | none =>
      refine bZ (aM rfl fun _=>?_) ?_
      all_goals
       unfold oE uE;refine aM rfl fun _=>aM (jC fun _ c=>aM rfl fun x=>by cases x <;> rfl) fun c=>?_;obtain ⟨r,m⟩:=c;cases r <;> rfl
theorem iY {a nrem:Nat}{Q:AscSt->SortSt->Prop}(h0:IntKeys a₀)(hn:lo+nrem<=a₀.size)(ha:1<=a)(han:a<=nrem)(hB:SC a₀ pre lo pn st)(hs:kZ (arrOf st) lo a)
  (h:∀ n,a<=n->n<=nrem->kZ (arrOf st) lo n->(n=nrem∨K (arrOf st) (lo+n)<K (arrOf st) (lo+n-1))->Q (none,n) st):wpS (model prog w) A E s (uE lo a nrem) Q st:=by
 unfold uE;refine wpS_forRange (I:=fun x c st'=>st'=st/\c=(none,x)/\kZ (arrOf st) lo x) ?step ?fin ⟨rfl,rfl,hs⟩
 case fin =>
  rintro c st' ⟨rfl,rfl,hs'⟩;rw [show max a nrem=nrem by omega] at hs' ⊢;exact h nrem han (YS _) hs' (.inl rfl)
 case step =>
  rintro x c st' hax hxn ⟨rfl,rfl,hs'⟩;dsimp only;refine wpS_bind (dM hB h0 (by omega) (by omega) ?_)
  by_cases hless:K (arrOf st') (lo+x)<K (arrOf st') (lo+x-1)
  ·simp only [hless,decide_true,if_true];exact wpS_pure (h x hax (by omega) hs' (.inr hless))
  ·simp only [hless,decide_false,Y6,if_false];refine wpS_pure ⟨rfl,rfl,fun i j hi hij hj=>?_⟩
   by_cases hjx:j<lo+x
   ·exact hs' i j hi hij hjx
   ·have hj':j=lo+x:=by omega
    subst hj'
    by_cases hi':i=lo+x
    ·subst hi'; exact Y_ _
    ·exact Yr (hs' i (lo+x-1) hi (by omega) (by omega)) (aAS.mp hless)
theorem gJ {n nrem:Nat}{Q:Option Nat->SortSt->Prop}(h0:IntKeys a₀)(hn:lo+nrem<=a₀.size)(h1:1<=n)(hnn:n<=nrem)(hB:SC a₀ pre lo pn st)
  (hs:BX (arrOf st) lo n) (h:∀ m st',SC a₀ pre lo pn st'->1<=m->m<=nrem->kZ (arrOf st') lo m->Q (some m) st'):wpS (model prog w) A E s (oE lo n nrem) Q st:=by
 unfold oE;have hsz:lo+n<=(arrOf st).size:=by rw [hB.size]; omega
 refine wpS_bind (wpS_reverse ?_);have hB':=hB.mir (i:=lo) (j:=lo+n) (YS _) (by omega);refine wpS_bind (iY h0 hn h1 hnn hB' ?_ fun m hm1 hm2 hsm _=>wpS_pure (h m _ hB' (by omega) hm2 hsm));intro i j hi hij hj;show K (mirror (arrOf st) lo (lo+n) ((lo+n-lo)/2)) i<=K (mirror (arrOf st) lo (lo+n) ((lo+n-lo)/2)) j;rw [K_mirror hsz,K_mirror hsz,if_pos (by omega),if_pos (by omega)];exact hs _ _ (by omega) (by omega) (by omega)
theorem nF {n nrem:Nat}{Q:DescSt->SortSt->Prop}(h0:IntKeys a₀)(hn:lo+nrem<=a₀.size)(h1:1<=n)(hnn:n<=nrem)(hB:SC a₀ pre lo pn st)(hs:BX (arrOf st) lo n)
  (h:∀ m neq st',SC a₀ pre lo pn st'->n<=m->m<=nrem->BX (arrOf st') lo m->neq+1<=m->(∀ i,lo+m-(neq+1)<=i->i<lo+m->K (arrOf st') i=K (arrOf st') (lo+m-1))->Q (none,m,neq) st') :
  wpS (model prog w) A E s (qC lo n nrem) Q st:=by
 unfold qC;refine wpS_forRange (I:=fun x c st'=>∃ neq,c=(none,x,neq)/\SC a₀ pre lo pn st'/\BX (arrOf st') lo x/\neq+1<=x ∧
   (∀ i,lo+x-(neq+1)<=i->i<lo+x->K (arrOf st') i=K (arrOf st') (lo+x-1))) ?step ?fin ⟨0,rfl,hB,hs,by omega,fun i h1 h2=>by congr 1; omega⟩
 case fin =>
  rintro c st' ⟨neq,rfl,hB',hs',hq,he⟩;rw [show max n nrem=nrem by omega] at hs' hq he ⊢;exact h nrem neq st' hB' hnn (YS _) hs' hq he
 case step =>
  rintro x c st' hax hxn ⟨neq,rfl,hB',hs',hq,he⟩;dsimp only;have hsz:lo+x<=(arrOf st').size:=by rw [hB'.size]; omega
  refine wpS_bind (dM hB' h0 (by omega) (by omega) ?_)
  by_cases hless:K (arrOf st') (lo+x)<K (arrOf st') (lo+x-1)
  ·simp only [hless,decide_true,if_true];have step1:∀ xs:Array Keyed,(∀ k,K xs k=K (arrOf st') k)->BX xs lo (x+1):=by
    intro xs hk i j hi hij hj;rw [hk,hk]
    by_cases hjx:j<lo+x
    ·exact hs' i j hi hij hjx
    ·have hj':j=lo+x:=by omega
     subst hj'
     by_cases hi':i=lo+x
     ·subst hi'; exact Y_ _
     ·exact Yr (Yt hless) (hs' i (lo+x-1) hi (by omega) (by omega))
   by_cases hneq:neq > 0
   ·rw [if_pos hneq];refine wpS_bind (wpS_reverse (wpS_pure ⟨0,rfl,hB'.mir (by omega) (by omega),step1 _ (K_mirror_equal hsz he),by omega,fun i h1 h2=>by congr 1; omega⟩))
   ·rw [if_neg hneq];exact wpS_pure ⟨0,rfl,hB',step1 _ (fun _=>rfl),by omega,fun i h1 h2=>by congr 1; omega⟩
  ·simp only [hless,decide_false,Y6,if_false];refine wpS_bind (dM hB' h0 (by omega) (by omega) ?_)
   by_cases hlarger:K (arrOf st') (lo+x-1)<K (arrOf st') (lo+x)
   ·simp only [hlarger,decide_true,if_true];exact wpS_pure (h x neq st' hB' hax (by omega) hs' hq he)
   ·simp only [hlarger,decide_false,Y6,if_false];have heqx:K (arrOf st') (lo+x)=K (arrOf st') (lo+x-1):=by omega
    refine wpS_pure ⟨neq+1,rfl,hB',fun i j hi hij hj=>?_,by omega,fun i h1 h2=>?_⟩
    ·by_cases hjx:j<lo+x
     ·exact hs' i j hi hij hjx
     ·have hj':j=lo+x:=by omega
      subst hj'
      by_cases hi':i=lo+x
      ·subst hi'; exact Y_ _
      ·rw [heqx]; exact hs' i (lo+x-1) hi (by omega) (by omega)
    ·rw [show lo+(x+1)-1=lo+x by omega]
     by_cases hix:i=lo+x
     ·subst hix; rfl
     ·rw [heqx]; exact he i (by omega) (by omega)
theorem lU {n nrem:Nat}{Q:Option Nat->SortSt->Prop}(h0:IntKeys a₀)(hn:lo+nrem<=a₀.size)(hnn:n+1<=nrem)(hB:SC a₀ pre lo pn st)
  (hs:BX (arrOf st) lo (n+1)) (h:∀ m st',SC a₀ pre lo pn st'->1<=m->m<=nrem->kZ (arrOf st') lo m->Q (some m) st'):wpS (model prog w) A E s (J6 lo n nrem) Q st:=by
 unfold J6;refine wpS_bind (wpS_lift (wpAny_rule ⟨rfl,?_⟩));refine wpS_bind (nF h0 hn (by omega) hnn hB hs fun m neq st' hB' hm1 hm2 hs' hq he=>?_);dsimp only;have hsz:lo+m<=(arrOf st').size:=by rw [hB'.size]; omega
 by_cases hneq:neq > 0
 ·rw [if_pos hneq];refine wpS_bind (wpS_reverse (gJ h0 hn (by omega) hm2 (hB'.mir (by omega) (by omega)) ?_ h));intro i j hi hij hj;show K (mirror (arrOf st') _ _ _) j<=K (mirror (arrOf st') _ _ _) i;rw [K_mirror_equal hsz he,K_mirror_equal hsz he];exact hs' i j hi hij hj
 ·rw [if_neg hneq];exact gJ h0 hn (by omega) hm2 hB' hs' h
theorem iK {nrem:Nat}{Q:Option Nat->SortSt->Prop}(h0:IntKeys a₀)(hn:lo+nrem<=a₀.size)(h1:1<=nrem)(hB:SC a₀ pre lo pn st)
  (h:∀ m st',SC a₀ pre lo pn st'->1<=m->m<=nrem->kZ (arrOf st') lo m->Q (some m) st'):wpS (model prog w) A E s (countRun' lo nrem) Q st:=by
 rw [rW];refine wpS_bind (iY h0 hn (YS 1) h1 hB (fun i j hi hij hj=>by have:i=j:=(by omega); subst this; exact Y_ _) fun n hn1 hn2 hsn hor=>?_);dsimp only
 by_cases hnn:n=nrem
 ·rw [if_pos (by simpa using hnn)];exact wpS_pure (h n st hB hn1 hn2 hsn)
 ·rw [if_neg (by simpa using hnn)];have hlt:K (arrOf st) (lo+n)<K (arrOf st) (lo+n-1):=hor.resolve_left hnn
  by_cases hgt:n > 1
  ·rw [if_pos hgt];refine wpS_bind (dM hB h0 (by omega) (by omega) ?_)
   by_cases hrose:K (arrOf st) lo<K (arrOf st) (lo+n-1)
   ·simp only [hrose,decide_true,if_true];exact wpS_pure (h n st hB hn1 hn2 hsn)
   ·simp only [hrose,decide_false,Y6,if_false];have hsz:lo+n<=(arrOf st).size:=by rw [hB.size]; omega
    have hall:∀ k,lo<=k->k<lo+n->K (arrOf st) k=K (arrOf st) (lo+n-1):=by
     intro k hlk hk;have a1:=hsn lo k (YS _) hlk hk;have a2:=hsn k (lo+n-1) hlk (by omega) (by omega);omega
    refine wpS_bind (wpS_reverse (lU h0 hn (by omega) (hB.mir (YS _) (by omega)) ?_ h));intro i j hi hij hj;show K (mirror (arrOf st) _ _ _) j<=K (mirror (arrOf st) _ _ _) i;rw [K_mirror_equal hsz hall,K_mirror_equal hsz hall]
    by_cases hjn:j<lo+n
    ·rw [hall i hi (by omega),hall j (by omega) hjn]; exact Y_ _
    ·have hj':j=lo+n:=by omega
     subst hj'
     by_cases hi':i=lo+n
     ·subst hi'; exact Y_ _
     ·rw [hall i hi (by omega)]; exact Yt hlt
  ·rw [if_neg hgt];have hn1':n=1:=by omega
   subst hn1';refine lU h0 hn (by omega) hB ?_ h;intro i j hi hij hj
   by_cases hi':i=j
   ·subst hi'; exact Y_ _
   ·have hi0:i=lo:=by omega
    have hj1:j=lo+1:=by omega
    subst hi0; subst hj1;exact Yt hlt
end
section
variable {prog:Program}{w:World}{A:Around}{E:Value->Shared->Prop}{s:Shared}{a₀:Array Keyed}
structure SE (a₀:Array Keyed)(st:SortSt):Prop where
 perm:(arrOf st).Perm a₀
 kind:kindOf st=oneType'
 failed:failedOf st=none
def Jw (a₀:Array Keyed)(r:Nat)(st:SortSt):Prop:=SE a₀ st/\(∃ p,pendingOf st = #[(0,r,p)])/\kZ (arrOf st) 0 r
def Ko (a₀:Array Keyed)(st:SortSt):Prop:=SE a₀ st/\∃ r p,1<=r/\r<a₀.size/\pendingOf st = #[(0,r,p),(r,a₀.size-r,0)]/\kZ (arrOf st) 0 r/\kZ (arrOf st) r (a₀.size-r)
theorem QR {xs:Array Keyed}(h0:IntKeys a₀)(hp:xs.Perm a₀):∀ p∈xs,Cv p:=fun p hm=>h0 p ((Zb.mp hp).mem_iff.mp (by simpa using hm))
theorem Cj {st:SortSt}{Q:Unit->SortSt->Prop}(h0:IntKeys a₀)(hB:SBase a₀ st)(h64:64<=a₀.size)(h128:a₀.size<128)
  (h:∀ st',(arrOf st').Perm a₀->failedOf st'=none->SortedTo (arrOf st') a₀.size->Q () st'):wpS (model prog w) A E s sortRuns' Q st:=by
 rw [sortRuns'_eq];refine wpS_bind (wpS_get ?_);dsimp only;obtain ⟨mr,hmr,hm2,hm3⟩:∃ mr,minRun' a₀.size a₀.size 0=mr/\a₀.size<=2*mr/\mr<a₀.size:=by
  refine ⟨a₀.size/2+max 0 (a₀.size%2),?_,by omega,by omega⟩;obtain ⟨f,hf⟩:∃ f,a₀.size=f+2:=⟨a₀.size-2,by omega⟩
  have:minRun' (f+1+1) a₀.size 0=a₀.size/2+max 0 (a₀.size%2):=by rw [minRun'_succ,if_neg (by omega),minRun'_succ,if_pos (by omega)]
  rwa [show f+1+1=a₀.size by omega] at this
 simp only [hB.size,hmr];refine wpS_bind (wpS_mono (wpS_forRange
  (I:=fun x c st'=>(x=0/\c=(none,0)/\SBase a₀ st')∨(x=1/\∃ r,c=(none,r)/\mr<=r/\r<a₀.size/\Jw a₀ r st')∨(1<=x/\c=(none,a₀.size)/\(Jw a₀ a₀.size st'∨Ko a₀ st')))
  (Q:=fun c st'=>c=(none,a₀.size)/\(Jw a₀ a₀.size st'∨Ko a₀ st')) ?step ?fin (.inl ⟨rfl,rfl,hB⟩)) ?post)
 case fin =>
  rintro c st' (⟨hx,_,_⟩ | ⟨hx,_⟩ | ⟨_,hc,hD⟩)
  ·omega
  ·omega
  ·exact ⟨hc,hD⟩
 case step =>
  rintro x c st' _ hx (⟨rfl,rfl,hB'⟩ | ⟨rfl,r,rfl,hr1,hr2,hD⟩ | ⟨hx1,rfl,hD⟩)
  ·dsimp only;rw [if_neg (by omega)];have hC:SC a₀ a₀ 0 #[] st':=⟨hB'.perm,hB'.kind,hB'.failed,hB'.pend,fun i hi=>by omega⟩
   have fin1:∀ (n:Nat) (st3:SortSt),SC a₀ a₀ 0 #[] st3->kZ (arrOf st3) 0 n->Jw a₀ n (setPending st3 ((pendingOf st3).push (0,n,0))):=fun n st3 hC3 hs=>⟨⟨hC3.perm,hC3.kind,hC3.failed⟩,⟨0,by show (pendingOf st3).push _=_; rw [hC3.pend]; rfl⟩,hs⟩
   refine wpS_bind (iK h0 (by omega) (by omega) hC fun m st2 hC2 m1 m2 hs2=>?_);dsimp only
   by_cases hlt:m<mr
   ·rw [if_pos hlt];refine wpS_bind (wpS_lift (wpAny_rule ⟨rfl,?_⟩));refine wpS_bind (lL h0 (by omega) (by omega) hC2 hs2 fun st3 hC3 hs3=>?_);simp only [aAD,Y6,if_false];refine wpS_bind (wpS_get ?_);have hb:(pendingOf st3).back? = none:=by rw [hC3.pend]; rfl
    rw [hb];dsimp only;refine wpS_bind (wpS_modify (wpS_pure ?_));have one:=fin1 _ _ hC3 hs3;generalize hn:min (a₀.size-0) mr=n at one ⊢
    by_cases e:n=a₀.size
    ·subst e;exact .inr (.inr ⟨by omega,by rw [Zm],.inl one⟩)
    ·exact .inr (.inl ⟨by first | rfl | trivial,n,by rw [Zm],by omega,by omega,one⟩)
   ·rw [if_neg hlt];refine wpS_bind (wpS_get ?_);have hb:(pendingOf st2).back? = none:=by rw [hC2.pend]; rfl
    rw [hb];dsimp only;refine wpS_bind (wpS_modify (wpS_pure ?_));have one:=fin1 _ _ hC2 hs2;generalize hn:m=n at one ⊢
    by_cases e:n=a₀.size
    ·subst e;exact .inr (.inr ⟨by omega,by rw [Zm],.inl one⟩)
    ·exact .inr (.inl ⟨by first | rfl | trivial,n,by rw [Zm],by omega,by omega,one⟩)
  ·dsimp only;rw [if_neg (by omega)];obtain ⟨⟨o1,o2,o3⟩,⟨p0,o4⟩,o5⟩:=hD;have hC:SC a₀ (arrOf st') r #[(0,r,p0)] st':=⟨o1,o2,o3,o4,fun i hi=>rfl⟩
   have tail:∀ (n:Nat) (st3:SortSt),SC a₀ (arrOf st') r #[(0,r,p0)] st3->n=a₀.size-r->kZ (arrOf st3) r n->∀ (pw:Nat) (T:Option Unit×Nat->SortSt->Prop),(∀ st4,Ko a₀ st4->T (none,r+n) st4) ->
     T (none,r+n) (setPending (setPending st3 ((pendingOf st3).modify ((pendingOf st3).size-1) fun (st,len,_)=>(st,len,pw))) ((pendingOf (setPending st3 ((pendingOf st3).modify ((pendingOf st3).size-1) fun (st,len,_)=>(st,len,pw)))).push (r,n,0))):=fun n st3 hC3 hn hs pw T hT=>by
    refine hT _ ⟨⟨hC3.perm,hC3.kind,hC3.failed⟩,r,pw,by omega,hr2,?_,?_,by rw [<- hn]; exact hs⟩
    ·show ((pendingOf st3).modify ((pendingOf st3).size-1) fun (st,len,_)=>(st,len,pw)).push (r,n,0)=_;rw [hC3.pend,hn]; rfl
    ·intro i j hi hij hj;show K (arrOf st3) i<=K (arrOf st3) j;rw [K_congr (hC3.keep i (by omega)),K_congr (hC3.keep j (by omega))];exact o5 i j hi hij hj
   refine wpS_bind (iK h0 (by omega) (by omega) hC fun m st2 hC2 m1 m2 hs2=>?_);dsimp only;have go:∀ (n:Nat) (st3:SortSt),SC a₀ (arrOf st') r #[(0,r,p0)] st3->n=a₀.size-r->kZ (arrOf st3) r n->∀ (pw:Nat),Ko a₀ (setPending (setPending st3 ((pendingOf st3).modify ((pendingOf st3).size-1) fun (st,len,_)=>(st,len,pw))) ((pendingOf (setPending st3 ((pendingOf st3).modify ((pendingOf st3).size-1) fun (st,len,_)=>(st,len,pw)))).push (r,n,0))):=fun n st3 hC3 hn hs pw=>tail n st3 hC3 hn hs pw (fun _ st=>Ko a₀ st) fun _ z=>z
   by_cases hlt:m<mr
   ·rw [if_pos hlt];refine wpS_bind (wpS_lift (wpAny_rule ⟨rfl,?_⟩));refine wpS_bind (lL h0 (by omega) (by omega) hC2 hs2 fun st3 hC3 hs3=>?_);simp only [aAD,Y6,if_false];refine wpS_bind (wpS_get ?_);have hb:(pendingOf st3).back? = some (0,r,p0):=by rw [hC3.pend]; rfl
    rw [hb];dsimp only;refine wpS_bind (wpS_mono (wpS_forRange (I:=fun _ c st''=>st''=st3/\c=(none,())) (Q:=fun c st''=>st''=st3/\c=(none,())) ?_ (fun _ _ hh=>hh) ⟨rfl,rfl⟩) ?_)
    ·rintro x c st'' _ _ ⟨rfl,rfl⟩;refine wpS_bind (wpS_get ?_);have e:(if (pendingOf st'').size > 1 then (pendingOf st'')[(pendingOf st'').size-2]? else none)=none:=by rw [hC3.pend]; rfl
     rw [e];exact wpS_pure ⟨rfl,rfl⟩
    ·rintro c st'' ⟨rfl,rfl⟩;dsimp only;have em:min (a₀.size-r) mr=a₀.size-r:=by omega
     refine wpS_bind (wpS_modify (wpS_bind (wpS_modify (wpS_pure (.inr (.inr ⟨by omega,?_,.inr ?_⟩))))))
     ·rw [em,show r+(a₀.size-r)=a₀.size by omega]
     ·exact go _ _ hC3 em hs3 _
   ·rw [if_neg hlt];refine wpS_bind (wpS_get ?_);have hb:(pendingOf st2).back? = some (0,r,p0):=by rw [hC2.pend]; rfl
    rw [hb];dsimp only;have em:m=a₀.size-r:=by omega
    refine wpS_bind (wpS_mono (wpS_forRange (I:=fun _ c st''=>st''=st2/\c=(none,())) (Q:=fun c st''=>st''=st2/\c=(none,())) ?_ (fun _ _ hh=>hh) ⟨rfl,rfl⟩) ?_)
    ·rintro x c st'' _ _ ⟨rfl,rfl⟩;refine wpS_bind (wpS_get ?_);have e:(if (pendingOf st'').size > 1 then (pendingOf st'')[(pendingOf st'').size-2]? else none)=none:=by rw [hC2.pend]; rfl
     rw [e];exact wpS_pure ⟨rfl,rfl⟩
    ·rintro c st'' ⟨rfl,rfl⟩;dsimp only;refine wpS_bind (wpS_modify (wpS_bind (wpS_modify (wpS_pure (.inr (.inr ⟨by omega,?_,.inr ?_⟩))))))
     ·rw [em,show r+(a₀.size-r)=a₀.size by omega]
     ·exact go _ _ hC2 em hs2 _
  ·dsimp only;rw [if_pos (YS _)];exact wpS_pure ⟨rfl,hD⟩
 case post =>
  rintro c st' ⟨rfl,hD⟩;dsimp only;have fin1:∀ st2,Jw a₀ a₀.size st2->Q () st2:=fun st2 ⟨⟨o1,o2,o3⟩,o4,o5⟩=>h st2 o1 o3 fun i j hij hj=>o5 i j (by omega) hij (by omega);refine wpS_bind (wpS_mono (wpS_forRange (I:=fun x c st''=>c=(none,())/\(Jw a₀ a₀.size st''∨(x=0/\Ko a₀ st''))) (Q:=fun c st''=>c=(none,())/\Jw a₀ a₀.size st'') ?_ ?_ ⟨rfl,hD.imp id fun z=>⟨rfl,z⟩⟩) ?_)
  ·rintro x c st'' _ _ ⟨rfl,hO | ⟨rfl,⟨⟨o1,o2,o3⟩,r,p,r1,r2,o4,o5,o6⟩⟩⟩
   ·refine wpS_bind (wpS_get ?_);obtain ⟨p,hp⟩:=hO.2.1;rw [if_pos (by rw [hp]; exact YS 1)];exact wpS_pure ⟨rfl,hO⟩
   ·refine wpS_bind (wpS_get ?_);rw [o4];have sz:(arrOf st'').size=r+(a₀.size-r):=by rw [o1.size_eq]; omega
    refine wpS_bind (vZ (n1:=r) (n2:=a₀.size-r) rfl o2 (QR h0 o1) o4 sz r1 (by omega) (fun i j hj hij hl=>?_) (fun i j hj hij hl=>?_) o3 fun st3 c1 c2 c3 c4 c5=>?_)
    ·rw [<- Bt hj,<- Bt (show i<(arrOf st'').size by omega)];exact o5 i j (by omega) hij (by omega)
    ·rw [<- Bt hj,<- Bt (show i<(arrOf st'').size by omega)];exact o6 i j hl hij (by omega)
    ·have pm:(arrOf st3).Perm (arrOf st''):=Zb.mpr c1;simp only [aAD,Y6,if_false];have es:(arrOf st3).size=a₀.size:=(pm.trans o1).size_eq;refine wpS_pure ⟨rfl,.inl ⟨⟨pm.trans o1,c2,c3⟩,⟨p,by rw [c4,show r+(a₀.size-r)=a₀.size by omega]⟩,fun i j hi hij hj=>?_⟩⟩;exact Ni c5 i j hij (by omega)
  ·rintro c st'' ⟨rfl,hO | ⟨hx,_⟩⟩
   ·exact ⟨rfl,hO⟩
   ·omega
  ·rintro c st'' ⟨rfl,hO⟩;exact wpS_pure (fin1 _ hO)
end
end Mg
set_option maxHeartbeats 3200000
namespace L2
open PySem PySem.Spec PyProof.Rows
theorem Hi (t:SetTable)(es:Array (Int×Value))(h:Int)(x:Value):(layNew t es h x).2.1.led=t.led:=by
 unfold layNew
 split
 ·simp only [SetTable.put,SetTable.orStandIn,SetTable.standIn]
  split <;> split <;> rfl
 ·rfl
theorem Bg (t:SetTable)(es:Array (Int×Value))(m:Nat):(relayAll t es m).2.1.led=t.led:=by
 unfold relayAll
 split
 ·rename_i t' order hr;have e:t'.led=t.led:=by
   unfold SetTable.relaid SetTable.laid at hr;cases hc:SetTable.layClean (SetTable.sizeAbove m-1) (es.map (·.1)) with
   | none=>rw [hc] at hr; cases hr
   | some ow =>
    rw [hc] at hr;injection hr with hr
    injection hr with h1 h2
    rw [<- h1]
  dsimp only
  split
  ·exact e
  ·rfl
 ·rfl
def m7 (P:Program)(w:World)(G:SetTable->Prop)(h:Heap)(a:Addr)(S:Int->Bool)(n:Nat):Prop :=
 ∃ o es ep t,h.get? a=some o/\o.ExactSet/\o.data=.set es ep t/\ElemsOf (intKind P w) es.toList/\(∀ k,S k=true↔∃ e∈es.toList,(intKind P w).is k e.2=true)/\es.size<scanBound/\t.fits es.size=true/\es.size=n/\G t
structure vJ (G:SetTable->Prop):Prop where
 lay:∀ t es h x,G t->t.fits es.size=true->G (layNew t es h x).2.1
 rel:∀ t es m,G t->t.fits es.size=true->G (relayAll t es m).2.1
section
variable {P:Program}{w:World}{A:Around}{E:Value->Shared->Prop}{s:Shared}{G:SetTable->Prop}
theorem Ey {h:Heap}{a:Addr}{o:Obj}{es es':Array (Int×Value)}{ep:Nat}{t t':SetTable}{S':Int->Bool}(ho:h.get? a=some o)(hx:o.ExactSet)(hd:o.data=.set es ep t)(he:ElemsOf (intKind P w) es'.toList)
  (hm:∀ k,S' k=true↔∃ e∈es'.toList,(intKind P w).is k e.2=true) (hb:es'.size<scanBound) (hf:t'.fits es'.size=true) (g:G t') :
  (h.update a (Obj.putSet es' t')).get? a=some { o with data:=.set es' (ep+1) t' }/\m7 P w G (h.update a (Obj.putSet es' t')) a S' es'.size:=by
 obtain ⟨e1,_⟩:=SetOf_store (knd:=intKind P w) ho hx hd he hm hb hf;exact ⟨e1,_,es',ep+1,t',e1,hx,rfl,he,hm,hb,hf,rfl,g⟩
theorem xF (KT:vJ G){gw:Bool->Sem Unit}(hgw:∀ (b:Bool) (s1:Shared) (Q1:Unit->Shared->Prop),Q1 () s1->wpAny (model P w) A (gw b) Q1 E s1){a:Addr}{o:Obj}{es es1:Array (Int×Value)}{ep:Nat}{t t2:SetTable}{S':Int->Bool}{wd:Bool}{R:Option Bool->Shared->Prop}
  (ho:s.heap.get? a=some o) (hx:o.ExactSet) (hd:o.data=.set es ep t) (he:ElemsOf (intKind P w) es1.toList) (hm:∀ k,S' k=true↔∃ e∈es1.toList,(intKind P w).is k e.2=true) (hb:es1.size<scanBound) (hf:t2.fits es1.size=true) (g:G t2)
  (h:∀ h',Ym a s.heap h'->m7 P w G h' a S' es1.size->R (some true) { s with heap:=h' }) :
  wpAny (model P w) A (do
   storeSet a es1 t2
   if (!wd&&t2.tooFull)=true then do
    gw (relayAll t2 es1 (SetTable.grown es1.size)).2.2
    storeSet a (relayAll t2 es1 (SetTable.grown es1.size)).1 (relayAll t2 es1 (SetTable.grown es1.size)).2.1
    pure (some true)
   else pure (some true)) R E s:=by
 obtain ⟨o1,g1⟩:=Ey (G:=G) ho hx hd he hm hb hf g;refine wpAny_bind (wpAny_storeSet_of ho hd ?_ (fits_of_scanBound hb))
 split
 ·have p:=relayAll_perm t2 es1 (SetTable.grown es1.size);have f:=relayAll_fits t2 es1 (SetTable.grown es1.size);have r:=KT.rel t2 es1 (SetTable.grown es1.size) g hf;generalize relayAll t2 es1 (SetTable.grown es1.size)=Z at p f r ⊢;obtain ⟨es2,t3,b2⟩:=Z;dsimp only at p f r ⊢;have z:es2.size=es1.size:=by rw [<- YW,p.length_eq,YW]
  have m2:∀ k,S' k=true↔∃ e∈es2.toList,(intKind P w).is k e.2=true:=fun k=>by rw [hm k]; exact ⟨fun ⟨e,x,y⟩=>⟨e,p.mem_iff.mpr x,y⟩,fun ⟨e,x,y⟩=>⟨e,p.mem_iff.mp x,y⟩⟩
  obtain ⟨_,g2⟩:=Ey (G:=G) o1 hx rfl (he.perm p) m2 (by omega) f r;refine wpAny_bind (hgw _ _ _ (wpAny_bind (wpAny_storeSet_of o1 rfl (wpAny_pure (h _ ?_ (z ▸ g2))) (fits_of_scanBound (by omega)))));exact (Ym.update s.heap a (Obj.putSet es1 t2)).trans (Ym.update _ a _)
 ·exact wpAny_pure (h _ (Ym.update s.heap a (Obj.putSet es1 t2)) g1)
theorem QS (KT:vJ G){a:Addr}{S:Int->Bool}{n:Nat}{k:Int}{tk:Nat}{Q:Bool->Shared->Prop}(hS:m7 P w G s.heap a S n)(hn:n+1<scanBound)
  (h:∀ h',Ym a s.heap h'->m7 P w G h' a (fun j=>S j||decide (j=k)) (if S k then n else n+1)->Q (!S k) { s with heap:=h' }) :
  wpAny (model P w) A (setAddHashed a (.int k tk) ((intKind P w).hash k)) Q E s:=by
 have ky:(intKind P w).is k (.int k tk)=true:=intKind_is _ _ _ _;obtain ⟨o,es,ep,t,ho,hx,hd,he,hm,hb,hf,hz,g⟩:=hS;unfold setAddHashed setAddHashedIn;refine wpAny_holding (wpAny_bind (wpAny_setState_of ho hd hf ?_));dsimp only;rw [byScan_of (x:=Value.int k tk) rfl hb he];simp only [↓reduceIte];unfold setAddByScan;refine wpAny_bind (wpAny_bind (wpAny_rule (wpAny_bind (wpAny_setScan_of ky ho hd hf he ?_))));cases hr:List.findIdx? (fun e=>(intKind P w).is k e.2) es.toList with
 | some j =>
  obtain ⟨j1,j2,_⟩:=List.findIdx?_eq_some_iff_getElem.mp hr;have hk:S k=true:=(hm k).mpr ⟨_,ZK j1,j2⟩;have q:=h s.heap (Ym.refl a s.heap) ⟨o,es,ep,t,ho,hx,hd,he,fun k'=>by
   rw [Zv,decide_eq_true_eq,<- hm k'];exact ⟨fun z=>z.elim id fun e=>e ▸ hk,.inl⟩,hb,hf,(by rw [hk]; exact hz),g⟩
  rw [hk] at q;exact wpAny_pure (wpAny_pure q)
 | none =>
  have hk:S k=false:=by
   rw [<- Bool.not_eq_true,hm k];rintro ⟨e,x,y⟩;have z:=List.findIdx?_eq_none_iff.mp hr e x;rw [y] at z;cases z
  have p:=layNew_perm t es ((intKind P w).hash k) (.int k tk);have f:=layNew_fits t es ((intKind P w).hash k) (.int k tk);have r:=KT.lay t es ((intKind P w).hash k) (.int k tk) g hf;generalize layNew t es ((intKind P w).hash k) (.int k tk)=Z at p f r ⊢;obtain ⟨es1,t1,wd,gv⟩:=Z;dsimp only at p f r ⊢;rw [aBz] at p;have z1:es1.size=n+1:=by rw [<- YW,p.length_eq,Y4,YW,hz]; rfl
  have e1:=(he.push ky (x:=.int k tk) rfl).perm p;have m1:=mem_push_iff ky hm p;have fin:∀ h',Ym a s.heap h'->m7 P w G h' a (fun j=>S j||decide (j=k)) es1.size->Q true { s with heap:=h' }:=fun h' sb g'=>by
   have q:=h h' sb;rw [hk] at q;exact q (z1 ▸ g')
  have gw:∀ (b:Bool) (s1:Shared) (Q1:Unit->Shared->Prop),Q1 () s1->wpAny (model P w) A (match b with | true=>rule "set.scan.the-table-gave-way" | false=>pure ()) Q1 E s1:=fun b s1 Q1 q=>by
   cases b
   ·exact wpAny_pure q
   ·exact wpAny_rule q
  refine wpAny_bind (gw _ _ _ ?_)
  split
  ·rw [hashByValue_scannable 8 (x:=Value.int k tk) rfl];refine wpAny_bind (wpAny_pure ?_);exact xF KT gw ho hx hd e1 m1 (by omega) f r fun h' sb g'=>wpAny_pure (fin h' sb g')
  ·refine wpAny_bind (wpAny_pure ?_);exact xF KT gw ho hx hd e1 m1 (by omega) f r fun h' sb g'=>wpAny_pure (fin h' sb g')
theorem LQ (KT:vJ G){I:Addr}{fp wr:List Addr}{Gs:Array GenState->Array GenState->Prop}{n:Nat}{Pv:Nat->Value->Prop}{St:Nat->Shared->Prop}{R:Result->Shared->Prop}(W:WalksS P w A.in1 I fp wr Gs n Pv St){a:Addr}(na:a∉fp){val:Nat->Int}
  (hv:∀ i v,Pv i v->∃ t,v=.int (val i) t) (hn:n+1<scanBound):∀ (d i:Nat) (s:Shared),n-i=d->i<=n->St i s->m7 P w G s.heap a (fun j=>(firstMet val i).any (·==j)) (firstMet val i).length ->
   (∀ s',Moved (a::wr) Gs s s'->m7 P w G s'.heap a (fun j=>(firstMet val n).any (·==j)) (firstMet val n).length->R (.ok (.ret .none)) s')->codeAny (model P w) A (.builtin "set.update.loop" ⟨[.ref a,.ref I],[]⟩) R s:=by
 have nw:a∉wr:=fun z=>na (W.sub _ z);have wk:∀ {s s':Shared}{S:Int->Bool}{m:Nat},Moved wr Gs s s'->m7 P w G s.heap a S m->m7 P w G s'.heap a S m:=fun hm ⟨o,es,ep,t,e,r⟩=>⟨o,es,ep,t,hm.heap a _ nw e,r⟩
 have up:∀ b∈wr,b∈a::wr:=fun b hb=>Y8 _ hb;intro d
 induction d with
 | zero =>
  intro i s hd hi st g hR;obtain rfl:i=n:=by omega
  refine codeAny_builtin PyProof.Rows.F.entry_set_update_loop ?_;rw [Around.under_plainId PyProof.Rows.F.plain_set_update_loop _];show wpAny _ A.in1 (pyNext (.ref I) >>= _) _ _ s;exact wpAny_bind (W.done s _ _ st fun s' hm=>wpAny_pure (hR s' (hm.mono up) (wk hm g)))
 | succ d ih =>
  intro i s hd hi st g hR;refine codeAny_builtin PyProof.Rows.F.entry_set_update_loop ?_;rw [Around.under_plainId PyProof.Rows.F.plain_set_update_loop _];show wpAny _ A.in1 (pyNext (.ref I) >>= _) _ _ s;refine wpAny_bind (W.item i s _ _ (by omega) st fun v s' pv st' hm=>?_);obtain ⟨t,rfl⟩:=hv i v pv;show wpAny _ A.in1 (holding [Value.int (val i) t] (setAdd a (.int (val i) t)) >>= _) _ _ s';refine wpAny_bind (wpAny_holding ?_);unfold setAdd;refine wpAny_holding (wpAny_bind ((intKind P w).pyHash (k:=val i) (intKind_is _ _ _ _) ?_));have hl:=firstMet_length_le val i;have gk:=wk hm g;refine QS (s:={ s' with toks:=s'.toks+1 }) KT gk (by omega) fun h' sb g2=>?_;have g3:m7 P w G h' a (fun j=>(firstMet val (i+1)).any (·==j)) (firstMet val (i+1)).length:=by
   have e1:(fun j=>(firstMet val (i+1)).any (·==j))=fun j=>((firstMet val i).any (·==j)||decide (j=val i)):=funext fun j=>by rw [firstMet_succ,step_any]
   rw [e1,firstMet_succ,step_length];exact g2
  refine wpAny_pure ⟨plainId_quiet PyProof.Rows.F.plain_set_update_loop _,ih (i+1) _ (by omega) (by omega) (W.frame _ s' _ _ st' (aAk _) fun b hb o e=>?_) g3 fun s2 hm2 g4=>?_⟩
  ·exact (sb.2 b fun z:b=a=>na (z ▸ hb)).trans e
  ·exact hR s2 (Moved.trans W.gtrans ((hm.mono up).then_heap (aAk _) fun b o hb e=>(sb.2 b fun z:b=a=>hb (z ▸ Yg)).trans e) hm2) g4
theorem Rq (v:Value){Q:Value->Shared->Prop}(h:Q (.ref s.heap.objs.size) { s with heap:=s.heap.push { cls:=.type "set",dict:=none,data:=.set #[] 0 (.fresh 0 0 (!w.params.followText "set-order")) } }) :
  codeAny (model P w) A (.call (.builtin "set.__new__") ⟨[.type "set",v],[]⟩) (wants Q E) s:=by
 refine codeAny_of_tree ?_;show wpAny _ A.in1 (do checkBuiltinCall "set.__new__" ⟨[.type "set",v],[]⟩; again (.builtin "set.__new__" ⟨[.type "set",v],[]⟩)) _ _ s;refine wpAny_bind (wpAny_of_eq (PySem.F.newCall_set_1 v) (wpAny_pure ⟨plainId_quiet PySem.F.plain_set_new _,codeAny_builtin PySem.F.entry_set_new ?_⟩));rw [Around.under_plainId PySem.F.plain_set_new _];unfold Builtin.«set.__new__» Builtin.Frozenset.newClass;have sb:=sub_set_self;cases s;dsimp only
 wp_walk
 refine wpAny_askSetting (wpAny_pure ?_);dsimp only;simp only [newObj];exact wpAny_bind (wpAny_alloc (wpAny_pure (wpAny_pure h)))
theorem CG (KT:vJ G){l:Addr}{its:Array Value}{ns:List Int}{Q:Value->Shared->Prop}(hh:A.handled=none)(hl:s.heap.IsList l its)(hi:IntsAre its.toList ns)(hb:its.size+1<scanBound)(g0:G (.fresh 0 0 (!w.params.followText "set-order")))
  (h:∀ (h':Heap) (tk:Nat),m7 P w G h' s.heap.objs.size (fun j=>(firstMet (fun i=>ns.getD i 0) its.size).any (·==j)) (firstMet (fun i=>ns.getD i 0) its.size).length->(∀ b o,b<s.heap.objs.size->s.heap.get? b=some o->h'.get? b=some o)->Q (.ref s.heap.objs.size) { s with heap:=h',toks:=tk }) :
  wpAny (model P w) A (call (.type "set") [.ref l]) Q E s:=by
 obtain ⟨c0,tl0,hm0⟩:=PySem.F.called_set.mro;have t1:=PySem.F.called_set.made; have t2:=PySem.F.called_set.sub;refine wpAny_call (codeAny_of_tree (show wpAny _ _ (callAny (.type "set") _) _ _ _ from ?_));refine wpAny_pure ⟨Code.quiet_builtin _ (by decide +kernel),codeAny_builtin PySem.F.entry_type_call ?_⟩;rw [Around.under_plain (weight_type_call_type "set" [.ref l] []) rfl];have t3:=PySem.F.called_set.notType; have t4:=PySem.F.called_set.canCreate;have t5:=PySem.F.typeCall_set_1 (.ref l); (repeat (any_goals (first | assumption | wp_step)));generalize hO:({ cls:=.type "set",dict:=none,data:=.set #[] 0 (.fresh 0 0 (!w.params.followText "set-order")) }:Obj)=ob;refine codeAny_mono (Rq (.ref l) (E:=E) (Q:=fun v s1=>v=.ref s.heap.objs.size/\s1 = { s with heap:=s.heap.push ob }) (by rw [hO]; exact ⟨rfl,rfl⟩)) fun r s1 hr=>?_;have hfr:ob.isFreed=false:=by rw [<- hO]; rfl
 cases r with
 | error e=>exact hr
 | ok fl =>
  cases fl with
  | next=>exact hr.elim
  | brk=>exact hr.elim
  | cont=>exact hr.elim
  | ret v =>
   obtain ⟨rfl,rfl⟩:=hr;have eS:(s.heap.push ob).get? s.heap.objs.size=some ob:=YZ _ hfr;have tS:Shared.TypeIs { s with heap:=s.heap.push ob } (.ref s.heap.objs.size) "set":=⟨_,eS,by rw [<- hO]⟩
   have t6:=PySem.F.called_set.init.lookup;have t7:=PySem.F.called_set.init.bind (.ref s.heap.objs.size); (repeat (any_goals (first | assumption | wp_step)));refine codeAny_mono (codeAny_call_builtin (R:=wants (fun r s2=>r=.none/\∃ h' tk,s2 = { s with heap:=h',toks:=tk }/\m7 P w G h' s.heap.objs.size (fun j=>(firstMet (fun i=>ns.getD i 0) its.size).any (·==j)) (firstMet (fun i=>ns.getD i 0) its.size).length ∧
    (∀ b o,b<s.heap.objs.size->s.heap.get? b=some o->h'.get? b=some o)) E) PySem.F.called_set.init.plain PySem.F.entry_set_init (check_set_init_1 tS ?_)) fun r2 s2 hr2=>?_
   ·subst hO;obtain ⟨⟨c1,d1,a1,l1⟩,hol,hc1,n1,hd1⟩:=hl;simp only at hc1 hd1;subst hc1 hd1;have hol1:(s.heap.push { cls:=.type "set",dict:=none,data:=.set #[] 0 (.fresh 0 0 (!w.params.followText "set-order")) }).get? l=some { cls:=.type "list",dict:=d1,data:=.seq its n1,slots:=l1 }:=YK _ hol;have u1:=PySem.F.sub_list_set; have u2:=PySem.F.sub_list_frozenset;have u3:(Value.type "list"==Value.type "dict")=false:=by decide
    have L1:(s.heap.push { cls:=.type "set",dict:=none,data:=.set #[] 0 (.fresh 0 0 (!w.params.followText "set-order")) }).IsList l its:=⟨_,hol1,rfl,n1,rfl⟩
    have ll:l<s.heap.objs.size:=YX hol;unfold Builtin.«set.__init__» noKeywords Builtin.Frozenset.updateFrom;generalize hIt:pyIter=It
    wp_walk
    subst hIt;refine wpAny_pyIter_list L1 ?_;refine wpAny_bind (m:=runValue _) (wpAny_runValue ?_);have sz:(s.heap.push { cls:=.type "set",dict:=none,data:=.set #[] 0 (.fresh 0 0 (!w.params.followText "set-order")) }).objs.size=s.heap.objs.size+1:=Zg _ _;have nI:l≠(s.heap.push { cls:=.type "set",dict:=none,data:=.set #[] 0 (.fresh 0 0 (!w.params.followText "set-order")) }).objs.size:=by rw [sz]; exact Yd (aAh ll)
    refine LQ KT ((Walks.list (show A.in1.in1.in1.handled=none by simp [hh]) _ l nI its).toS) (a:=s.heap.objs.size) (by rw [sz]; simp only [Yn,aAq,or_false,not_or]; exact ⟨Yd (aAo _),Z7 ll⟩)
     (val:=fun i=>ns.getD i 0) (fun i v hv=>IntsAre.int_at hi i v (by rw [Z5]; exact hv)) hb (its.size-0) 0 _ (by omega) (Yq _) ⟨⟨_,YZ _ rfl,rfl,rfl⟩,L1.push _⟩ ?_ ?_
    ·refine ⟨_,#[],0,.fresh 0 0 (!w.params.followText "set-order"),YK _ eS,⟨rfl,rfl,rfl⟩,rfl,(fun e he=>by simp at he),fun k=>?_,by decide,rfl,rfl,g0⟩;simp [firstMet]
    ·intro s3 hm g3;obtain ⟨h3,gs3,d3,k3,o3⟩:=s3;have e1:gs3=s.gens:=hm.gens;have e2:d3=s.drawn:=hm.drawn;have e3:o3=s.os:=hm.os;subst e1 e2 e3;show wpAny _ _ _ _ _ _;refine wpAny_pure (show wpAny _ _ (ret Value.none) _ _ _ from wpAny_pure ⟨rfl,h3,k3,rfl,g3,fun b o hb e=>?_⟩);exact hm.heap b o (by simp only [Yn,aAq,or_false,not_or]; exact ⟨Yd hb,by rw [sz]; exact Yd (aAh hb)⟩) (YK _ (YK _ e))
   ·cases r2 with
    | error e=>exact hr2
    | ok fl2 =>
     cases fl2 with
     | next=>exact hr2.elim
     | brk=>exact hr2.elim
     | cont=>exact hr2.elim
     | ret r =>
      obtain ⟨rfl,h2,k2,rfl,g2,kp⟩:=hr2; (repeat (any_goals (first | assumption | wp_step)));exact h _ _ g2 kp
end
theorem cG:Slot "set_iterator" "__next__" "set_iterator.__next__" :=
 .of (owner:="set_iterator") (n:="__next__") (by rw [typeLookup_type,builtinLookup_eq_fast]; kernel_rfl) (by decide +kernel) (by decide +kernel) (by decide +kernel) (by first | exact .inl (by decide +kernel) | exact .inr (by decide +kernel)) (by rw [isSubtype_type]; kernel_rfl)
theorem iZ:entryFor table "set_iterator.__next__" = some Builtin.«set_iterator.__next__»:=entryFor_of_tree (by kernel_rfl)
theorem j5 (v:Value):argsOk "set_iterator.__next__" ⟨[v],[]⟩:=by unfold argsOk; kernel_rfl
theorem j7:Slot "set_iterator" "__iter__" "set_iterator.__iter__" :=
 .of (owner:="set_iterator") (n:="__iter__") (by rw [typeLookup_type,builtinLookup_eq_fast]; kernel_rfl) (by decide +kernel) (by decide +kernel) (by decide +kernel) (by first | exact .inl (by decide +kernel) | exact .inr (by decide +kernel)) (by rw [isSubtype_type]; kernel_rfl)
theorem pQ:entryFor table "set_iterator.__iter__" = some Builtin.«dict_keyiterator.__iter__»:=entryFor_alias (id':="dict_keyiterator.__iter__") (by kernel_rfl) rfl (by decide +kernel) (by kernel_rfl)
theorem rE (v:Value):argsOk "set_iterator.__iter__" ⟨[v],[]⟩:=by unfold argsOk; kernel_rfl
theorem o9:entryFor table "set.__iter__" = some Builtin.«frozenset.__iter__»:=entryFor_alias (id':="frozenset.__iter__") (by kernel_rfl) rfl (by decide +kernel) (by kernel_rfl)
section
variable {P:Program}{w:World}{A:Around}{E:Value->Shared->Prop}{s:Shared}{a it:Addr}{o:Obj}{e:Int×Value}{ep:Nat}{t:SetTable}
theorem Eo {r:Addr}(hT:s.TypeIs (.ref r) "set"){Q:Bool->Shared->Prop}(h:Q false s):wpAny (model P w) A (Builtin.List.listLengthHint (.ref r)) Q E s:=by
 unfold Builtin.List.listLengthHint;refine wpAny_bind (wpAny_specialOf hT F.slot_set_len.lookup ?_);generalize hid:("set.__len__" : String)=id0
 wp_delta
 rw [show splitId id0=some ("set","__len__") from by subst hid; decide +kernel];subst hid;refine wpAny_bind (wpAny_isInstance (T:="set") (b:=true) hT (by rw [isSubtype_type]; kernel_rfl) ?_);refine wpAny_ite_split (fun z=>absurd z (by decide)) (fun _=>wpAny_ite_split (fun _=>wpAny_bind (wpAny_typeOf hT (wpAny_pure h))) (fun z=>absurd (by decide +kernel) z))
end
theorem isInt_shape {k:Int}{v:Value}(h:Value.isInt k v=true):∃ tk,v=.int k tk:=by
 unfold Value.isInt at h
 split at h
 ·rename_i i tk;obtain rfl:i=k:=by simpa using h
  exact ⟨tk,rfl⟩
 ·cases h
theorem Gr:bootBuiltins "set" = some (.type "set"):=by decide +kernel
def tL (xs:Array Nat):Prop:=xs.toList.Pairwise (· < ·)
theorem tL.lt {xs:Array Nat}(h:tL xs){i j:Nat}(hij:i<j)(hj:j<xs.size):xs[i]'(by omega)<xs[j]:=by
 have:=Yu.mp h i j (by simpa using (by omega:i<xs.size)) (by simpa using hj) hij
 simpa using this
theorem pN {xs:Array Nat}(h:tL xs)(j:Nat):∀ (fuel lo hi:Nat),lo<=hi->hi<=xs.size->hi-lo<=fuel->(∀ i (hi:i<xs.size),i<lo->xs[i]<j)->(∀ i (hx:i<xs.size),hi<=i->j<=xs[i]) ->
  SetTable.below.go xs j fuel lo hi<=xs.size/\(∀ i (hx:i<xs.size),i<SetTable.below.go xs j fuel lo hi->xs[i]<j)/\∀ i (hx:i<xs.size),SetTable.below.go xs j fuel lo hi<=i->j<=xs[i]
 | 0,lo,hi,h1,h2,h3,a,b=>by
  have e:SetTable.below.go xs j 0 lo hi=lo:=by unfold SetTable.below.go; rfl
  rw [e];exact ⟨by omega,a,fun i hx z=>b i hx (by omega)⟩
 | fuel+1,lo,hi,h1,h2,h3,a,b=>by
  by_cases hl:lo<hi
  ·have hm:(lo+hi)/2<xs.size:=by omega
   have e:SetTable.below.go xs j (fuel+1) lo hi=if xs[(lo+hi)/2]<j then SetTable.below.go xs j fuel ((lo+hi)/2+1) hi else SetTable.below.go xs j fuel lo ((lo+hi)/2):=by
    conv=>lhs; unfold SetTable.below.go
    rw [if_pos hl];simp [aBJ,hm]
   rw [e]
   by_cases hc:xs[(lo+hi)/2]<j
   ·rw [if_pos hc];refine pN h j fuel _ _ (by omega) h2 (by omega) (fun i hx z=>?_) b
    by_cases z2:i=(lo+hi)/2
    ·subst z2; exact hc
    ·exact aAP (h.lt (by omega) hm) hc
   ·rw [if_neg hc];refine pN h j fuel _ _ (by omega) (by omega) (by omega) a fun i hx z=>?_
    by_cases z2:i=(lo+hi)/2
    ·subst z2; omega
    ·exact Yx (Zf (by omega:j<=xs[(lo+hi)/2]) (h.lt (by omega) hx))
  ·have e:SetTable.below.go xs j (fuel+1) lo hi=lo:=by unfold SetTable.below.go; rw [if_neg hl]
   rw [e];exact ⟨by omega,a,fun i hx z=>b i hx (by omega)⟩
theorem p8 {xs:Array Nat}(h:tL xs)(j:Nat):SetTable.below xs j<=xs.size/\(∀ i (hx:i<xs.size),i<SetTable.below xs j->xs[i]<j)/\∀ i (hx:i<xs.size),SetTable.below xs j<=i->j<=xs[i] :=
 pN h j xs.size 0 xs.size (Yq _) (YS _) (by omega) (fun _ _ z=>by omega) fun i hx z=>by omega
theorem below_at {xs:Array Nat}(h:tL xs){i:Nat}(hi:i<xs.size):SetTable.below xs (xs[i]+1)=i+1:=by
 obtain ⟨a,b,c⟩:=p8 h (xs[i]+1);have h1:¬ SetTable.below xs (xs[i]+1)<=i:=fun z=>by have:=c i hi z; omega
 by_cases h2:i+1<SetTable.below xs (xs[i]+1)
 ·have:=b (i+1) (by omega) h2;have:=h.lt (show i<i+1 by omega) (by omega:i+1<xs.size);omega
 ·omega
theorem xW {xs:Array Nat}(h:tL xs):SetTable.below xs 0=0:=by
 obtain ⟨a,b,c⟩:=p8 h 0
 by_cases z:0<SetTable.below xs 0
 ·have:=b 0 (by omega) z;omega
 ·omega
theorem zK {xs:Array Nat}(h:tL xs){j:Nat}(hn:xs[SetTable.below xs j]?≠some j):tL (SetTable.insertAt xs (SetTable.below xs j) j):=by
 obtain ⟨a,b,c⟩:=p8 h j;unfold tL;rw [SetTable.toList_insertAt];generalize SetTable.below xs j=p at a b c hn;have gt:∀ i (hx:i<xs.size),p<=i->j<xs[i]:=fun i hx z=>by
  have:=c i hx z
  by_cases e:xs[i]=j
  ·exfalso
   by_cases ip:i=p
   ·subst ip;exact hn (by rw [ZC hx,e])
   ·have:=c p (by omega) (YS _);have:=h.lt (show p<i by omega) hx;omega
  ·omega
 refine ZG.mpr ⟨Zn.sublist (aAU _ _) h,aAt.mpr ⟨fun y hy=>?_,Zn.sublist (List.drop_sublist _ _) h⟩,fun x hx y hy=>?_⟩
 ·obtain ⟨i,hi,rfl⟩:=ZR.mp hy;rw [aAi];have hs:p+i<xs.size:=by rw [Z8,YW] at hi; omega
  have:=gt (p+i) hs (by omega)
  simpa using this
 ·obtain ⟨i,hi,rfl⟩:=ZR.mp hx;rw [aAw];have hi2:i<p/\i<xs.size:=by rw [Yw,YW] at hi; omega
  have lt1:xs[i]'hi2.2<j:=b i hi2.2 hi2.1;rcases Yn.mp hy with e | e
  ·subst e; simpa using lt1
  ·obtain ⟨k,hk,rfl⟩:=ZR.mp e;rw [aAi];have hs:p+k<xs.size:=by rw [Z8,YW] at hk; omega
   have:=gt (p+k) hs (by omega);have:xs[i]'hi2.2<xs[p+k]:=by omega
   simpa using this
theorem jO (n:Nat):tL (Array.range n):=by
 unfold tL;rw [Array.toList_range];exact aA8
def Iv (t:SetTable)(j:Nat):Prop:=t.place[SetTable.below t.place j]?≠some j
theorem tD {t:SetTable}{j:Nat}(h:t.slot j=.empty∨t.slot j=.dummy):Iv t j:=by
 intro z;unfold SetTable.slot at h;simp only [z,beq_self_eq_true,if_true] at h;rcases h with h | h <;> cases h
theorem lB {t:SetTable}{f:Nat->Int}{h:Int}:∀ (fuel:Nat) (p:SetTable.Probe) (j:Nat) (d:Option Nat),(∀ x,p.dummy=some x->Iv t x)->SetTable.probe.go t f h fuel p=some (.empty j d)->Iv t (d.getD j)
 | 0,p,j,d,_,e=>by unfold SetTable.probe.go at e; cases e
 | fuel+1,p,j,d,hp,e=>by
  unfold SetTable.probe.go at e
  split at e
  ·rename_i hs;injection e with e
   injection e with e1 e2
   subst e1 e2;cases hd:p.dummy with
   | none=>exact tD (.inl hs)
   | some x=>exact hp x hd
  ·rename_i hs;refine lB fuel _ j d (fun x hx=>?_) e;have:(t.advance { p with dummy:=some p.j }).dummy=some p.j:=by unfold SetTable.advance; split <;> rfl
   rw [this] at hx;cases hx;exact tD (.inr hs)
  ·split at e
   ·injection e with e; cases e
   ·refine lB fuel _ j d (fun x hx=>?_) e;have:(t.advance p).dummy=p.dummy:=by unfold SetTable.advance; split <;> rfl
    rw [this] at hx;exact hp x hx
theorem rB {t:SetTable}{h:Int}{s:Nat}{wd:Bool}(e:t.freeSlot h=some (s,wd)):Iv t s:=by
 unfold SetTable.freeSlot at e
 split at e
 ·rename_i j d hp;injection e with e
  injection e with e1 e2
  subst e1;exact lB _ _ _ _ (fun x hx=>by unfold SetTable.probeStart at hx; cases hx) hp
 ·cases e
theorem Hs {t:SetTable}(es:Array (Int×Value))(h:Int)(x:Value)(hr:tL t.place):tL (layNew t es h x).2.1.place:=by
 unfold layNew
 split
 ·rename_i s wd hs;have z:=zK hr (rB hs);dsimp only [SetTable.put,SetTable.orStandIn]
  split <;> split <;> first | exact z | exact jO _
 ·exact jO _
theorem Dw {mask fg mv:Nat}{led pl:Bool}{hs:Array Int}{t':SetTable}{o:Array Nat}(e:SetTable.laid mask fg mv led pl hs=some (t',o)):tL t'.place:=by
 unfold SetTable.laid at e;cases hc:SetTable.layClean mask hs with
 | none=>rw [hc] at e; cases e
 | some ow =>
  rw [hc] at e;injection e with e
  injection e with e1 e2
  rw [<- e1];unfold tL;show ((List.filterMap _ _).map _).Pairwise _;rw [aAx,List.pairwise_filterMap];refine aA8.imp fun {a b} hab c hc d hd=>?_;cases h1:ow.getD a none with
  | none=>rw [h1] at hc; cases hc
  | some u =>
   cases h2:ow.getD b none with
   | none=>rw [h2] at hd; cases hd
   | some v =>
    rw [h1] at hc;rw [h2] at hd;cases hc;cases hd;exact hab
theorem Bw {t:SetTable}(es:Array (Int×Value))(m:Nat)(hr:tL t.place):tL (relayAll t es m).2.1.place:=by
 unfold relayAll
 split
 ·rename_i t' order he;dsimp only
  split
  ·exact Dw he
  ·exact jO _
 ·exact jO _
def Hn (w:World)(t:SetTable):Prop:=t.led=(!w.params.followText "set-order")/\tL t.place
theorem Fl (w:World):vJ (Hn w):=⟨fun t es h x g _=>⟨(Hi t es h x).trans g.1,Hs es h x g.2⟩,fun t es m g _=>⟨(Bg t es m).trans g.1,Bw es m g.2⟩⟩
theorem kO {α:Type}:∀ (l:List α) (i:Nat) (h:i<l.length),(l[i]::l.eraseIdx i).Perm l
 | [],i,h=>by simp at h
 | x::l,0,h=>ZS.refl _
 | x::l,i+1,h=>(ZS.swap x (l[i]'(by simpa using h)) (l.eraseIdx i)).trans ((kO l i (by simpa using h)).cons x)
theorem zW {α:Type}(f:Nat->Nat):∀ (n k:Nat) (left:List α) (out:Array α),left.length=n->(pickOrder.go f n k left out).toList.Perm (out.toList++left)
 | 0,k,left,out,h=>by
  obtain rfl:=aAc h;unfold pickOrder.go;simp
 | n+1,k,left,out,h=>by
  have hl:f k%left.length<left.length:=Nat.mod_lt _ (by omega);unfold pickOrder.go;rw [YL hl];dsimp only;refine (zW f n (k+1) _ _ (by rw [aAn hl]; omega)).trans ?_;rw [aBz,Yl];exact ZS.append_left _ (kO _ _ hl)
theorem Bk {α:Type}(f:Nat->Nat)(xs:Array α):(pickOrder f xs).toList.Perm xs.toList:=by
 have:=zW f xs.size 0 xs.toList #[] (by simp)
 simpa [pickOrder] using this
section
variable {P:Program}{w:World}{A:Around}{E:Value->Shared->Prop}{s:Shared}{a it T:Addr}{o:Obj}{es:Array (Int×Value)}{ep:Nat}{t:SetTable}
theorem wp_choose {src:Source}{n:Nat}{Q:Nat->Shared->Prop}(hn:n≠0)(h:∀ i d',i<n->Q i { s with drawn:=d' }):wpAny (model P w) A (choose src n) Q E s:=fun _ _ _=>⟨hn,h _ _ (Nat.mod_lt _ (by omega))⟩
theorem Ac {α:Type}:∀ (n:Nat) (xs:List α) (s:Shared) (Q:List α->Shared->Prop),xs.length=n->(∀ ys d',ys.Perm xs->Q ys { s with drawn:=d' })->wpAny (model P w) A (drawOrder n xs) Q E s
 | 0,xs,s,Q,h,q=>by
  obtain rfl:=aAc h;unfold drawOrder;exact wpAny_pure (q [] s.drawn (ZS.refl _))
 | n+1,[],s,Q,h,q=>by simp at h
 | n+1,x::xs,s,Q,h,q=>by
  unfold drawOrder;refine wpAny_bind (wp_choose (by simp) fun i d' hi=>?_);rw [YL hi];refine wpAny_bind (Ac n ((x::xs).eraseIdx i) _ _ (by rw [aAn hi]; omega) fun ys d2 p=>?_);exact wpAny_pure (q _ d2 ((p.cons _).trans (kO _ _ hi)))
def wV (h:Heap)(it a:Addr)(fst:Value)(i n ep:Nat):Prop:=∃ o,h.get? it=some o/\o.cls=.type "set_iterator"/\o.data=.fields #[fst,.int i 0,.ref a,.int n 0,.int ep 0]
theorem wV.typeIs {fst:Value}{i n:Nat}(h:wV s.heap it a fst i n ep):s.TypeIs (.ref it) "set_iterator":=let ⟨o,e,c,_⟩:=h; ⟨o,e,c⟩
inductive Kd (w:World)(es:Array (Int×Value))(ep:Nat)(t:SetTable)(a T:Addr)(vals:List Value)(h:Heap):Value->Nat->Prop
 | text {i:Nat} (hw:w.params.followText "set-order" = true) (e:vals=(pickOrder (w.params.setOrder a ep) es).toList.map (·.2)):Kd w es ep t a T vals h (.int 0 0) i
 | place {slot i:Nat} (hw:¬ w.params.followText "set-order" = true) (hp:¬ (!t.plain&&decide (es.size > 1))=true) (e:vals=es.toList.map (·.2)) (hs:SetTable.below t.place slot=i):Kd w es ep t a T vals h (.int slot 0) i
 | draw {i:Nat}{os:List Nat} (hT:h.get? T=some { cls:=.type "tuple",data:=.seq (os.map fun (i:Nat)=>rawInt (i:Int)).toArray }) (ho:∀ j∈os,j<es.size) (e:vals=os.map fun j=>(es.getD j (0,.none)).2):Kd w es ep t a T vals h (.ref T) i
theorem qG {vals:List Value}{slot i:Nat}{h0:Heap}(ho:s.heap.get? a=some o)(hd:o.data=.set es ep t)(hf:t.fits es.size=true)(g:Hn w t)(k:Kd w es ep t a T vals h0 (.int slot 0) i)(hi:i<=es.size){Q:Option (Value×Nat)->Shared->Prop}
  (h:∀ nx:Nat,(∀ h1,i<es.size->Kd w es ep t a T vals h1 (.int nx 0) (i+1))->Q ((vals[i]?).map fun v=>(v,nx)) s):wpAny (model P w) A (setNext a slot i ep) Q E s:=by
 unfold setNext setsByText;refine wpAny_bind (wpAny_setState_of ho hd hf ?_);dsimp only;refine wpAny_bind (wpAny_bind (wpAny_askSetting (wpAny_pure ?_)));cases k with
 | text hw e =>
  refine wpAny_ite_split (fun _=>?_) (fun z=>absurd hw z);rw [if_neg (by simp)];unfold setWalk setsByText;refine wpAny_bind (wpAny_bind (wpAny_setState_of ho hd hf ?_));refine wpAny_bind (wpAny_bind (wpAny_askSetting (wpAny_pure ?_)));refine wpAny_ite_split (fun _=>?_) (fun z=>absurd hw z);refine wpAny_bind (wpAny_askSetting (wpAny_pure (wpAny_pure ?_)));have q:=h 0 fun h1 _=>.text hw e;rw [e,Yi,Z5] at q;rw [Option.map_map] at q;exact q
 | place hw hp e hs =>
  refine wpAny_ite_split (fun z=>absurd z hw) (fun _=>?_);refine wpAny_ite_split (fun z=>absurd z hp) (fun _=>?_);have hl1:t.led=true:=by rw [g.1]; simpa using hw
  refine wpAny_bind (wpAny_ite_split (fun z=>absurd (show (!t.led&&!es.isEmpty)=true from z) (by rw [hl1]; simp)) (fun _=>wpAny_pure ?_));have hz:t.place.size=es.size:=by
   simp only [SetTable.fits,Yh,beq_iff_eq] at hf;exact hf.1
  rw [hs];refine wpAny_pure ?_
  by_cases hlt:i<es.size
  ·have q:=h (t.place[i]'(by omega)+1) fun h1 _=>.place hw hp e (below_at g.2 (by omega));rw [e,Yi,Z5,ZC hlt] at q;rw [ZC hlt,ZC (show i<t.place.size by omega)];exact q
  ·have q:=h 0 fun h1 z=>absurd z hlt;rw [e,Yi,Z5,aAd (by omega)] at q;rw [aAd (show es.size<=i by omega)];exact q
theorem Bx {vals:List Value}{fst:Value}{i:Nat}{v:Value}(hit:wV s.heap it a fst i es.size ep)(hTi:T≠it)(ho:s.heap.get? a=some o)(hd:o.data=.set es ep t)(hf:t.fits es.size=true)(g:Hn w t)(k:Kd w es ep t a T vals s.heap fst i)(hi:i<es.size)(hv:vals[i]? = some v){Q:Option Value->Shared->Prop}
  (hQ:∀ h' f',wV h' it a f' (i+1) es.size ep->Kd w es ep t a T vals h' f' (i+1)->Ym it s.heap h'->Q (some v) { s with heap:=h' }):wpAny (model P w) A (pyNext (.ref it)) Q E s:=by
 obtain ⟨oi,hoi,hci,hdi⟩:=id hit;unfold pyNext;refine wpAny_bind (wpAny_attempt (wpAny_callSpecial?_slot (name:=Str.ofString "__next__") hit.typeIs cG (wpAny_call_entry cG hit.typeIs iZ ?_ (j5 _))));unfold Builtin.«set_iterator.__next__»;refine wpAny_bind (m:=slotArgs "__next__" 0 _) (wpAny_pure ?_);refine wpAny_bind (wpAny_fieldsOf hoi hdi ?_);show wpAny _ _ (setEntries a >>= _) _ _ s;refine wpAny_bind (wpAny_setEntries_of ho hd hf ?_);refine wpAny_ite_split (fun z=>absurd z (by simp)) (fun _=>?_);have int:∀ {slot:Nat}{E':Value->Shared->Prop},fst=.int slot 0->wpAny (model P w) A.in1 (do
   match <- setNext a slot i ep with
   | some (x,next) =>
    setField (.ref it) 0 (rawInt next)
    setField (.ref it) 1 (rawInt ((i:Int)+1))
    ret x
   | none=>do setField (.ref it) 2 .none; raiseNew (<- newExc (.type "StopIteration") [])) (fun fin s'=>∃ v,fin=.done (.ret v)/\Q (some v) s') E' s:=fun {slot}{E'} e=>by
  subst e;refine wpAny_bind (qG ho hd hf g k (by omega) fun nx kn=>?_);rw [hv];show wpAny _ _ (setField (.ref it) 0 (rawInt nx) >>= _) _ _ s;refine wpAny_bind (wpAny_setField hoi hdi (by simp) ?_);have g1:(s.heap.update it (Obj.mapFields (·.setIfInBounds 0 (rawInt nx)))).get? it=some (Obj.mapFields (·.setIfInBounds 0 (rawInt nx)) oi):=Yv _ hoi (Obj.isFreed_of_fields (Obj.data_mapFields hdi _));have d1:=Obj.data_mapFields hdi (·.setIfInBounds 0 (rawInt nx));refine wpAny_bind (wpAny_setField g1 d1 (by simp) ?_);refine wpAny_pure ⟨_,rfl,hQ _ (.int nx 0) ⟨_,Yv _ g1 (Obj.isFreed_of_fields (Obj.data_mapFields d1 _)),(Obj.cls_mapFields ..).trans ((Obj.cls_mapFields ..).trans hci),?_⟩ (kn _ hi) ((Ym.update ..).trans (Ym.update ..))⟩;rw [Obj.data_mapFields d1];simp [rawInt]
 cases k with
 | text hw e =>
  refine wpAny_mono (int (slot:=0) rfl) (fun fin s' h=>?_) fun _ _ h=>h;obtain ⟨u,e1,e2⟩:=h;exact ⟨u,e1,wpAny_pure e2⟩
 | @place slot _ hw hp e hs =>
  refine wpAny_mono (int (slot:=slot) rfl) (fun fin s' h=>?_) fun _ _ h=>h;obtain ⟨u,e1,e2⟩:=h;exact ⟨u,e1,wpAny_pure e2⟩
 | @draw _ os hT hos e =>
  show wpAny _ _ (seqItems? (.ref T) >>= _) _ _ s;refine wpAny_bind (wpAny_seqItems hT rfl ?_);have hio:i<os.length:=by
   have:=(Yp.mp hv).1;rw [e,YQ] at this;exact this
  have hj:=hos os[i] (ZK hio);have ev:v=(es[os[i]]'hj).2:=by
   rw [e,Yi,YL hio] at hv;have:=(Z1.inj hv).symm;rw [this];simp [aBJ,hj]
  have ep1:(os.map fun (i:Nat)=>rawInt (i:Int)).toArray[((i:Int)).toNat]? = some (rawInt (os[i]:Int)):=by
   show (os.map fun (i:Nat)=>rawInt (i:Int)).toArray[i]? = _;rw [aAB,Yi,YL hio]
   rfl
  dsimp only;rw [ep1];show wpAny _ _ (setNextDrawn a os[i] ep >>= _) _ _ s;unfold setNextDrawn;refine wpAny_bind (wpAny_bind (wpAny_setState_of ho hd hf ?_));refine wpAny_ite_split (fun z=>absurd z (by simp)) (fun _=>?_);rw [ZC hj];refine wpAny_pure ?_;refine wpAny_bind (wpAny_setField hoi hdi (by simp) ?_);refine wpAny_pure ⟨_,rfl,wpAny_pure ?_⟩;show Q (some (es[os[i]]'hj).2) _;rw [<- ev];refine hQ _ (.ref T) ⟨_,Yv _ hoi (Obj.isFreed_of_fields (Obj.data_mapFields hdi _)),(Obj.cls_mapFields ..).trans hci,?_⟩ (.draw ?_ hos e) (Ym.update ..)
  ·rw [Obj.data_mapFields hdi];simp [rawInt]
  ·exact (ZV _ _ (Ne.symm hTi)).trans hT
theorem Dd {vals:List Value}{fst:Value}(hh:A.handled=none)(hit:wV s.heap it a fst es.size es.size ep)(ho:s.heap.get? a=some o)(hd:o.data=.set es ep t)(hf:t.fits es.size=true)(g:Hn w t)(k:Kd w es ep t a T vals s.heap fst es.size)(hv:vals.length=es.size){Q:Option Value->Shared->Prop}
  (hQ:∀ h',Heap.ExtBut it s.heap h'->Q none { s with heap:=h' }):wpAny (model P w) A (pyNext (.ref it)) Q E s:=by
 obtain ⟨oi,hoi,hci,hdi⟩:=id hit;have fin:∀ {h1:Heap}{Q1:Fin->Shared->Prop}{E1:Value->Shared->Prop},Ym it s.heap h1->(∀ e s',wpAny (model P w) A (do if <- isInstance e (.type "StopIteration") then pure none else throw e) Q E s'->E1 e s') ->
   wpAny (model P w) A.in1 (do raiseNew (<- newExc (.type "StopIteration") [])) Q1 E1 { s with heap:=h1 }:=fun {h1 Q1 E1} sb hE=>by
  apply wpAny_bind;simp only [newExc,newTuple];refine wpAny_bind (wpAny_newObj_type (wpAny_bind (m:=firstArgMember _ _) (wpAny_of_eq (a:=Value.none) (by first | rfl | (simp only [firstArgMember]; rfl)) (wpAny_newObj_type ?_ (by size_fits)))) (by size_fits));simp only [raiseNew];refine wpAny_bind (wpAny_handled ?_);rw [show A.in1.handled=aBG from hh];refine wpAny_bind (wpAny_pure (wpAny_throw (hE _ _ ?_)));apply wpAny_bind;refine wpAny_isInstance (T:="StopIteration") (b:=true) ⟨_,YZ _ rfl,rfl⟩ isSubtype_stop ?_;exact wpAny_pure (hQ _ ((sb.extBut.push _).push _))
 unfold pyNext;refine wpAny_bind (wpAny_attempt (wpAny_callSpecial?_slot (name:=Str.ofString "__next__") hit.typeIs cG (wpAny_call_entry cG hit.typeIs iZ ?_ (j5 _))));unfold Builtin.«set_iterator.__next__»;refine wpAny_bind (m:=slotArgs "__next__" 0 _) (wpAny_pure ?_);refine wpAny_bind (wpAny_fieldsOf hoi hdi ?_);show wpAny _ _ (setEntries a >>= _) _ _ s;refine wpAny_bind (wpAny_setEntries_of ho hd hf ?_);refine wpAny_ite_split (fun z=>absurd z (by simp)) (fun _=>?_);have hn:vals[es.size]? = none:=Z2 (by omega);cases k with
 | text hw e =>
  show wpAny _ _ (setNext a 0 es.size ep >>= _) _ _ s;refine wpAny_bind (qG (slot:=0) (T:=T) (h0:=s.heap) ho hd hf g (.text hw e) (YS _) fun nx _=>?_);rw [hn];show wpAny _ _ (setField (.ref it) 2 .none >>= _) _ _ s;refine wpAny_bind (wpAny_setField hoi hdi (by simp) ?_);exact fin (Ym.update ..) fun e s' h=>h
 | @place slot _ hw hp e hs =>
  show wpAny _ _ (setNext a slot es.size ep >>= _) _ _ s;refine wpAny_bind (qG (slot:=slot) (T:=T) (h0:=s.heap) ho hd hf g (.place hw hp e hs) (YS _) fun nx _=>?_);rw [hn];show wpAny _ _ (setField (.ref it) 2 .none >>= _) _ _ s;refine wpAny_bind (wpAny_setField hoi hdi (by simp) ?_);exact fin (Ym.update ..) fun e s' h=>h
 | @draw _ os hT hos e =>
  show wpAny _ _ (seqItems? (.ref T) >>= _) _ _ s;refine wpAny_bind (wpAny_seqItems hT rfl ?_);have hlo:os.length=es.size:=by rw [e,YQ] at hv; exact hv
  have ep1:(os.map fun (i:Nat)=>rawInt (i:Int)).toArray[((es.size:Int)).toNat]? = none:=by
   show (os.map fun (i:Nat)=>rawInt (i:Int)).toArray[es.size]? = _;rw [aAB];exact Z2 (by rw [YQ]; omega)
  dsimp only;rw [ep1];show wpAny _ _ (setField (.ref it) 0 (rawInt 0) >>= _) _ _ s;refine wpAny_bind (wpAny_setField hoi hdi (by simp) ?_);have g1:(s.heap.update it (Obj.mapFields (·.setIfInBounds 0 (rawInt 0)))).get? it=some (Obj.mapFields (·.setIfInBounds 0 (rawInt 0)) oi):=Yv _ hoi (Obj.isFreed_of_fields (Obj.data_mapFields hdi _));refine wpAny_bind (wpAny_setField g1 (Obj.data_mapFields hdi _) (by simp) ?_);exact fin ((Ym.update ..).trans (Ym.update ..)) fun e s' h=>h
theorem Br {fst:Value}{i n:Nat}(hit:wV s.heap it a fst i n ep){Q:Value->Shared->Prop}(h:Q (.ref it) s):wpAny (model P w) A (pyIter (.ref it)) Q E s:=by
 refine wpAny_pyIter_slot hit.typeIs j7 (wpAny_call_entry j7 hit.typeIs pQ ?_ (rE _));show wpAny _ _ (ret (.ref it)) _ _ s;exact wpAny_pure ⟨_,rfl,"set_iterator",_,hit.typeIs,cG.lookup,h⟩
theorem Bo (ho:s.heap.get? a=some o)(hx:o.ExactSet)(hd:o.data=.set es ep t)(hf:t.fits es.size=true)(g:Hn w t)(hz:es.size<=sizeLine){Q:Value->Shared->Prop}
  (h:∀ (it T:Addr) (vals:List Value) (fst:Value) (h':Heap) (d':Drawn),s.heap.objs.size<=it->T≠it->(T=a∨s.heap.objs.size<=T)->vals.Perm (es.toList.map (·.2))->(∀ b o,s.heap.get? b=some o->h'.get? b=some o)->wV h' it a fst 0 es.size ep->Kd w es ep t a T vals h' fst 0->Q (.ref it) { s with heap:=h',drawn:=d' }) :
  wpAny (model P w) A (pyIter (.ref a)) Q E s:=by
 have ty:s.TypeIs (.ref a) "set":=⟨o,ho,hx.1⟩
 have ha:=YX ho;refine wpAny_pyIter_slot ty F.slot_set_iter (wpAny_call_entry F.slot_set_iter ty o9 ?_ (F.args_set_iter_1 _));unfold Builtin.«frozenset.__iter__»;refine wpAny_bind (m:=Builtin.Frozenset.slot0 "__iter__" _) (wpAny_pure ?_);unfold Builtin.Frozenset.sizeOf;refine wpAny_bind (wpAny_bind (wpAny_setEntries_of ho hd hf (wpAny_pure ?_)));unfold setDrawn setsByText;refine wpAny_bind (wpAny_bind (wpAny_setState_of ho hd hf ?_));refine wpAny_bind (wpAny_bind (wpAny_askSetting (wpAny_pure ?_)));refine wpAny_pure ?_;refine wpAny_ite_split (fun z=>?_) (fun z=>?_)
 ·refine wpAny_bind (Ac es.size (Zi es.size) s _ (by simp) fun os d' p=>?_);have hlo:os.length=es.size:=by rw [p.length_eq,Z4]
  refine wpAny_bind (wpAny_newTuple ?_ (by rw [YQ]; omega));have ho2:(s.heap.push { cls:=.type "tuple",data:=.seq (os.map fun (i:Nat)=>rawInt (i:Int)).toArray }).get? a=some o:=YK _ ho;refine wpAny_bind (wpAny_setEpoch_of ho2 hd hf ?_);refine wpAny_bind (wpAny_newObj_type (wpAny_pure ⟨_,rfl,"set_iterator",_,⟨_,YZ _ rfl,rfl⟩,cG.lookup,?_⟩));refine h _ s.heap.objs.size (os.map fun j=>(es.getD j (0,.none)).2) (.ref s.heap.objs.size) _ d' (by rw [Zg]; exact aAk _) (by rw [Zg]; exact Yd (aAo _)) (.inr (YS _)) ?_ (fun b u e=>YK _ (YK _ e)) ⟨_,YZ _ rfl,rfl,rfl⟩ (.draw (YK _ (YZ _ rfl)) (fun j hj=>ZZ.mp (p.mem_iff.mp hj)) rfl);refine (p.map _).trans ?_;have e:(Zi es.size).map (fun j=>(es.getD j (0,.none)).2)=es.toList.map (·.2):=by
   apply aAp
   ·simp
   ·intro i h1 h2;simp at h1;simp [aBJ,h1]
  rw [e]
 ·refine wpAny_bind (wpAny_pure ?_);refine wpAny_bind (wpAny_setEpoch_of ho hd hf ?_);refine wpAny_bind (wpAny_newObj_type (wpAny_pure ⟨_,rfl,"set_iterator",_,⟨_,YZ _ rfl,rfl⟩,cG.lookup,?_⟩));have fin:∀ vals:List Value,vals.Perm (es.toList.map (·.2))->(∀ h',Kd w es ep t a a vals h' (.int 0 0) 0)->Q (.ref s.heap.objs.size) { s with heap:=s.heap.push { cls:=.type "set_iterator",data:=.fields #[.int 0 0,.int 0 0,.ref a,.int es.size 0,.int ep 0] } }:=fun vals p k =>
   h _ a vals (.int 0 0) _ s.drawn (YS _) (Yd ha) (.inl rfl) p (fun b u e=>YK _ e) ⟨_,YZ _ rfl,rfl,rfl⟩ (k _)
  by_cases hw:w.params.followText "set-order" = true
  ·exact fin _ ((Bk (w.params.setOrder a ep) es).map _) fun h'=>.text hw rfl
  ·refine fin _ (ZS.refl _) fun h'=>.place hw (fun y=>z ?_) rfl (xW g.2);have hw2:(!w.params.followText "set-order")=true:=by simpa using hw
   exact (Yh _ _).mpr ⟨hw2,y⟩
theorem Ci {vals:List Value}(hh:A.handled=none)(hne:it≠a)(hTi:T≠it)(hd:o.data=.set es ep t)(hf:t.fits es.size=true)(g:Hn w t)(hl:vals.length=es.size) :
  Walks P w A it [it,a,T] [it] es.size (fun i v=>vals[i]? = some v) (fun i h=>∃ fst,wV h it a fst i es.size ep/\Kd w es ep t a T vals h fst i/\h.get? a=some o) where
 sub:=fun b hb=>by rw [YT.mp hb]; exact .head _
 frame:=fun i h h' st k=>by
  obtain ⟨fst,⟨oi,e1,c1,d1⟩,kd,e2⟩:=st;refine ⟨fst,⟨oi,k it (.head _) _ e1,c1,d1⟩,?_,k a (.tail _ (.head _)) _ e2⟩;cases kd with
  | text hw e=>exact .text hw e
  | place hw hp e hs=>exact .place hw hp e hs
  | draw hT hos e=>exact .draw (k T (.tail _ (.tail _ (.head _))) _ hT) hos e
 item:=fun i s Q E hi st hQ=>by
  obtain ⟨fst,si,kd,e2⟩:=st;have hv:=YL (show i<vals.length by omega);refine Bx si hTi e2 hd hf g kd hi hv fun h' f' si' kd' sb=>?_;exact hQ _ h' s.toks hv ⟨f',si',kd',(sb.2 a (Ne.symm hne)).trans e2⟩ fun b o hb e=>(sb.2 b (fun z=>hb (by rw [z]; exact .head _))).trans e
 done:=fun s Q E st hQ=>by
  obtain ⟨fst,si,kd,e2⟩:=st;refine Dd hh si e2 hd hf g kd hl fun h' eb=>?_;exact hQ h' s.toks fun b o hb e=>eb b o (fun z=>hb (by rw [z]; exact .head _)) e
 self:=fun i s Q E st hQ=>let ⟨_,si,_,_⟩:=st; Br si hQ
theorem uA {R:List Value->Shared->Prop}(hh:A.handled=none)(ho:s.heap.get? a=some o)(hx:o.ExactSet)(hd:o.data=.set es ep t)(hf:t.fits es.size=true)(g:Hn w t)(hz:es.size<=sizeLine)
  (h:∀ (h':Heap) (tk:Nat) (d':Drawn) (acc:List Value),(∀ b o,s.heap.get? b=some o->h'.get? b=some o)->acc.Perm (es.toList.map (·.2))->R acc { s with heap:=h',toks:=tk,drawn:=d' }):wpAny (model P w) A (collect (.ref a)) R E s:=by
 have ha:=YX ho;unfold collect;refine wpAny_bind (wpAny_runValue (codeAny_builtin entry_proto_collect' ?_));rw [Around.under_plainId PySem.F.plain_proto_collect _];show wpAny _ A.in1 (newList [] >>= fun l=>again (.builtin "list.__iadd__" ⟨[l,.ref a],[]⟩)) _ _ s;refine wpAny_bind (wpAny_newObj_type (wpAny_pure ⟨plainId_quiet PySem.F.plain_list_iadd _,codeAny_builtin entry_list_iadd' ?_⟩));rw [Around.under_plainId PySem.F.plain_list_iadd _];have e0:(s.heap.push { cls:=.type "list",data:=.seq ([]:List Value).toArray }).get? s.heap.objs.size=some { cls:=.type "list",data:=.seq #[] }:=YZ _ rfl;have e1:(s.heap.push { cls:=.type "list",data:=.seq ([]:List Value).toArray }).get? a=some o:=YK _ ho;generalize hH:s.heap.push { cls:=.type "list",data:=.seq ([]:List Value).toArray }=h1 at e0 e1;have z1:h1.objs.size=s.heap.objs.size+1:=by rw [<- hH]; exact Zg _ _
 have k1:∀ b u,s.heap.get? b=some u->h1.get? b=some u:=fun b u e=>by rw [<- hH]; exact YK _ e
 show wpAny _ A.in1 (Builtin.List.listExtendWith (.ref s.heap.objs.size) (.ref a) (.ref s.heap.objs.size)) _ _ { s with heap:=h1 };unfold Builtin.List.listExtendWith;refine wpAny_bind (wpAny_typeOf (T:="set") ⟨o,e1,hx.1⟩ ?_);have n1:Builtin.List.listSameRef (.ref s.heap.objs.size) (.ref a)=false:=by simp [Builtin.List.listSameRef]; exact Z7 ha
 have n2:(Value.type "set"==Value.type "list")=false:=by decide
 have n3:(Value.type "set"==Value.type "tuple")=false:=by decide
 simp only [n1,n2,n3,aBm,Y6,if_false];refine wpAny_bind (Bo e1 hx hd hf g hz fun it T vals fst h2 d' hit hTi hT p k2 si kd=>?_);have e2:=k2 _ _ e0;have ea:=k2 _ _ e1;have z2:s.heap.objs.size<h1.objs.size:=by rw [z1]; exact aAo _
 have ni:s.heap.objs.size≠it:=Yd (Yj z2 hit);have na:s.heap.objs.size≠a:=Z7 ha;have nT:s.heap.objs.size≠T:=by
  rcases hT with e | e
  ·rw [e]; exact na
  ·exact Yd (Yj z2 e)
 have nS:s.heap.objs.size∉[it,a,T]:=by
  simp only [Yn,aAq,or_false,not_or];exact ⟨ni,na,nT⟩
 have hl:vals.length=es.size:=by rw [p.length_eq,YQ,YW]
 refine wpAny_bind (wpAny_holding (Eo ⟨o,ea,hx.1⟩ ?_));have nia:it≠a:=fun z=>by rw [z] at hit; exact absurd (Yj (aAP ha z2) hit) (Za _)
 have W:=(Ci (P:=P) (A:=A.in1) (show A.in1.handled=none by simp [hh]) nia hTi hd hf g hl)
 refine wpAny_ite_split (fun _=>?_) (fun z=>absurd (by decide) z);refine wpAny_bind (wpAny_rule (wpAny_bind (show wpAny _ _ (updateSeq s.heap.objs.size (·.push .none) >>= fun _=>updateSeq s.heap.objs.size (·.pop)) _ _ _ from ?_)));refine wpAny_bind (wpAny_updateSeq e2 rfl ?_);have e3:=Yv (Obj.mapSeq (·.push Value.none)) e2 rfl;refine wpAny_updateSeq (hz:=by seq_fits) e3 rfl ?_;have e4:=Yv (Obj.mapSeq (·.pop)) e3 rfl;have kb:∀ b u,b≠s.heap.objs.size->h2.get? b=some u->((h2.update s.heap.objs.size (Obj.mapSeq (·.push Value.none))).update s.heap.objs.size (Obj.mapSeq (·.pop))).get? b=some u:=fun b u n e =>
  (ZV _ _ (Ne.symm n)).trans ((ZV _ _ (Ne.symm n)).trans e)
 refine wpAny_pure ⟨plainId_quiet PySem.F.plain_extend_loop _,?_⟩;refine codeAny_extend_loopS W.toS hz s.heap.objs.size nS _ es.size 0 _ #[] ?c rfl (Yq _) ?st ?e4 (ItemsOf.nil _) fun s' acc c hm hS hacc=>?fin
 case st=>exact W.frame 0 _ _ ⟨fst,si,kd,ea⟩ fun b hb u e=>kb b u (fun z=>nS (z ▸ hb)) e
 case e4=>exact e4
 case fin =>
 obtain ⟨h3,gs3,d3,k3,o3⟩:=s';have f1:gs3=s.gens:=hm.gens;have f2:d3=d':=hm.drawn;have f3:o3=s.os:=hm.os;subst f1 f2 f3;show wpAny _ A (load s.heap.objs.size >>= _) _ _ _;refine wpAny_bind (wpAny_load hS (wpAny_pure (h h3 k3 d3 acc.toList (fun b u e=>?_) ?_)))
 ·have hb:=YX e;refine hm.heap b u ?_ (kb b u (Yd hb) (k2 _ _ (k1 b u e)));simp only [Yn,aAq,or_false,not_or];exact ⟨Yd hb,Yd (Yj (aAP hb z2) hit)⟩
 ·have e:acc.toList=vals:=by
   apply aAp
   ·rw [YW,hacc.1,hl]
   ·intro i x1 x2;have hia:i<acc.size:=by simpa using x1
    have this:vals[i]? = some acc[i]:=hacc.2 i acc[i] (ZC hia);rw [YL x2] at this
    simpa using (Z1.inj this).symm
  rw [e];exact p
end
section
variable {X:Cx}
theorem ints_map:∀ l:List Value,(∀ v∈l,∃ n t,v=Value.int n t)->IntsAre l (l.map numOf)
 | [],_=>.nil
 | v::l,h=>by
  obtain ⟨n,t,rfl⟩:=h v Yg;exact .cons n t (ints_map l fun u hu=>h u (Y8 _ hu))
theorem rP:∀ {l:List Value}{ns:List Int},IntsAre l ns->∀ v∈l,∃ n t,v=Value.int n t
 | _,_,.nil,_,h=>nomatch h
 | _,_,.cons n t r,v,h=>by
  rcases Yn.mp h with e | e
  ·exact ⟨n,t,e⟩
  ·exact rP r v e
def wO (w:World)(a:Addr)(ns:List Int)(h:Heap):Prop:=∃ o es ep t,h.get? a=some o/\o.ExactSet/\o.data=.set es ep t/\t.fits es.size=true/\Hn w t/\es.size<scanBound/\∃ ms,IntsAre (es.toList.map (·.2)) ms/\ms.Perm ns
theorem aQ.drawn {pins:List (Addr×Obj)}{σ:St}{H:Hp}{s:Shared}(I:aQ X pins σ H s){h':Heap}{tk:Nat}{d':Drawn}(k:∀ b o,s.heap.get? b=some o->h'.get? b=some o):aQ X pins σ H { s with heap:=h',toks:=tk,drawn:=d' }:=by
 have J:aQ X pins σ H { s with heap:=h',toks:=tk }:=I.kept (t':=tk) k;exact J.step (s:={ s with heap:=h',toks:=tk }) (h':=h') (g':=s.gens) (t':=tk) (d':=d') (ch:=[]) (fun _ z=>nomatch z) (fun _ _ _ _ _ e _=>e) (fun b o _ _ _ e _=>⟨o.slots,e⟩) (fun _ _ _ _ n=>n) (fun _ o _ e=>⟨o,e⟩) (fun _ _ e=>e) (fun _ _ _ e=>e) (fun _ ps e=>⟨#[],by simpa using e⟩) (fun _ n=>n) J.hok J.bare
theorem nZ {α:Type}[DecidableEq α]:∀ {l m:List α},l.Nodup->(∀ x∈l,x∈m)->m.length<=l.length->m.Perm l
 | [],m,_,_,h=>by
  obtain rfl:=aAc (show m.length=0 by simpa using h);exact ZS.refl _
 | x::l,m,nd,sub,h=>by
  have hx:=sub x Yg;obtain ⟨n1,n2⟩:=Zj.mp nd;have hm:=aAZ hx;have pos:0<m.length:=aAy hx;refine (List.perm_cons_erase hx).trans ((nZ n2 (fun y hy=>?_) (by rw [hm]; rw [ZP] at h; omega)).cons x);have ne:y≠x:=fun e=>n1 (by rw [<- e]; exact hy);exact (aBi ne).mpr (sub y (Y8 _ hy))
theorem Gv {P:Program}{w:World}{h:Heap}{a:Addr}{ns:List Int}(nd:ns.Nodup)(x:m7 P w (Hn w) h a (fun j=>ns.any (·==j)) ns.length):wO w a ns h:=by
 obtain ⟨o,es,ep,t,e1,ex,hd,he,hm,hb,hf,hz,hl⟩:=x;have each:∀ v∈es.toList.map (·.2),∃ n t,v=Value.int n t:=fun v hv=>by
  obtain ⟨e,he2,rfl⟩:=ZW.mp hv;obtain ⟨⟨k,hk,_⟩,_⟩:=he e he2;obtain ⟨tk,hv⟩:=isInt_shape hk;exact ⟨k,tk,hv⟩
 refine ⟨o,es,ep,t,e1,ex,hd,hf,hl,hb,_,ints_map _ each,nZ nd (fun k hk=>?_) (by simp; omega)⟩;obtain ⟨e,h1,h2⟩:=(hm k).mp (Zo.mpr ⟨k,hk,by simp⟩);obtain ⟨tk,hv⟩:=isInt_shape h2;exact ZW.mpr ⟨e.2,ZW.mpr ⟨e,h1,rfl⟩,by rw [hv]; rfl⟩
end
section
variable {prog:Program}{w:World}{A:Around}{E:Value->Shared->Prop}{s:Shared}
theorem HJ {a:Addr}{vs:List Value}{ns:List Int}{n:Nat}{P:PySem.Fin->Shared->Prop}(ho:s.heap.get? a=some (seqObj "list" vs.toArray n))(hI:IntsAre vs ns)(h128:vs.length<128)
  (h:∀ (out:Array Value) (ns':List Int),IntsAre out.toList ns'->ns'.Perm ns->ns'.Pairwise (·<=·)->P (.done (.ret .none)) { s with heap:=sortedHeap s.heap a vs out }) :
  wpAny (model prog w) A (Builtin.«list.sort» ⟨[.ref a],[]⟩) P E s:=by
 by_cases h64:vs.length<64
 ·exact list_sort_tree ho hI h64 h
 rw [list_sort_plain];have ha:a<s.heap.objs.size:=YX ho;have hl:vs.toArray.size=vs.length:=by simp
 refine wpAny_bind (listItems_at ho rfl (wpAny_bind (listUpdate_at ho rfl ?_ (by rw [hl,sizeLine_eq]; omega) (Yq _))));obtain ⟨e1,ho1⟩:∃ e1,(s.heap.update a (Obj.mapSeq fun _=>#[])).get? a=some (seqObj "list" #[] e1):=⟨_,get?_update_seq ho (fun _=>#[])⟩
 refine wpAny_bind (seqEpoch_at ho1 rfl (wpAny_bind (wpAny_newTuple (wpAny_bind (wpAny_newList (wpAny_holding ?_))) (by rw [show vs.toArray.toList=vs from rfl,sizeLine_eq]; omega))));have ho6:(((s.heap.update a (Obj.mapSeq fun _=>#[])).push (seqObj "tuple" vs.toArray 0)).push (seqObj "list" #[] 0)).get? a=some (seqObj "list" #[] e1):=YK _ (YK _ ho1);show wpAny (model prog w) A _ P E { s with heap:=((s.heap.update a (Obj.mapSeq fun _=>#[])).push (seqObj "tuple" vs.toArray 0)).push (seqObj "list" #[] 0) };dsimp only;rw [if_neg (by rw [hl]; omega),if_neg (by rw [hl]; omega)];obtain ⟨v1,v2,rest,rfl⟩:∃ v1 v2 rest,vs=v1::v2::rest:=by
  match vs,h64 with
  | v1::v2::rest,_=>exact ⟨v1,v2,rest,rfl⟩
  | [],h=>exact absurd (by decide) h
  | [v],h=>exact absurd (by show 1<64; decide) h
 rw [keyKind_ints hI];refine wpAny_bind (wpAny_pure ?_);refine wpAny_bind (wpAny_mono (Mg.Cj (a₀:=pairsOf (v1::v2::rest)) (st:=SortSt.mk' oneType' ((v1::v2::rest).toArray.zip (v1::v2::rest).toArray) #[] 7 none)
  (Q:=fun _ st'=>(arrOf st').Perm (pairsOf (v1::v2::rest))/\failedOf st'=none/\SortedTo (arrOf st') (pairsOf (v1::v2::rest)).size)
  hI.intKeys ⟨aBs.refl _,rfl,rfl,rfl⟩ (by rw [pairsOf_size]; omega) (by rw [pairsOf_size]; exact h128) fun st' a1 a2 a3=>⟨a1,a2,a3⟩) ?_ fun _ _ e=>e)
 rintro ⟨⟨⟩,st'⟩ s' ⟨rfl,hp,hf,hso⟩;dsimp only;refine wpAny_bind (seqEpoch_at ho6 rfl (wpAny_bind (listUpdate_at ho6 rfl ?_ (Yq _) (Y7 (aAN ((aBf ..).trans (hp.size_eq.trans (pairsOf_size _)))) (by rw [sizeLine_eq]; omega)))));rw [hf];simp only [bne_self_eq_false,Y6,if_false];obtain ⟨ns',b1,b2,b3⟩:=sorted_out hI hp hso;exact wpAny_pure (h _ ns' b1 b2 b3)
end
section
variable {X:Cx}
theorem uQ (hc:X.calm=true):cN X (.builtin "sorted") (fun xs H Q=>∃ (r:Addr) (ns:List Int),xs=[.ref r]/\H r=some (.ext (wO X.w r ns))/\ns.length<128/\∀ (l:Addr) (ms:List Int),H l=none->ms.Perm ns->ms.Pairwise (·<=·)->Q (.ref l) (bN H l (.lst (ms.map V.int)))):=by
 intro pins s σ H xs us Q I r h;obtain ⟨a,ns,rfl,hS,h64,q⟩:=h;obtain ⟨u,rfl,ru⟩:=vals1 r;cases (show u=Value.ref a from ru);obtain ⟨⟨o,es,ep,t,e,ex,hd,hf,g,hb,ms,im,pm⟩,_,_⟩:=(show cJ X.prog X.w H s.heap a (.ext (wO X.w a ns)) from I.hok a _ hS)
 have hme:es.toList.length=ns.length:=by
  have h1:=im.length;rw [YQ] at h1;rw [h1,pm.length_eq]
 have hz:es.size<=sizeLine:=by rw [<- YW,hme,sizeLine_eq]; omega
 refine Calls.call_function_entry kind_sorted plain_sorted entry_sorted (args_sorted1 _) ?_;unfold Builtin.«sorted»;refine wpAny_bind (m:=checkCount "sorted" 1 1 _) (wpAny_pure ?_);refine wpAny_bind (uA (by first | exact I.ok.hd hc | (rw [show X.A.in1.handled=X.A.handled from rfl]; exact I.ok.hd hc)) e ex hd hf g hz fun h' tk d' acc hk pa=>?_);obtain ⟨ks,ia,pk⟩:∃ ks,IntsAre acc ks/\ks.Perm ms:=by
  refine ⟨acc.map numOf,ints_map acc fun v hv=>rP im v (pa.mem_iff.mp hv),?_⟩;rw [<- im.nums];exact pa.map _
 have hla:acc.length=ns.length:=by rw [ia.length,pk.length_eq,pm.length_eq]
 refine wpAny_bind (wpAny_newList ?_ (by rw [hla,sizeLine_eq]; omega));have hoL:(h'.push (seqObj "list" acc.toArray 0)).get? h'.objs.size=some (seqObj "list" acc.toArray 0):=YZ _ rfl;refine wpAny_bind (wpAny_holding (wpAny_call_entry slot_list_sort ⟨_,hoL,rfl⟩ entry_list_sort (HJ hoL ia (by omega) fun out ns' a1 a2 a3=>⟨_,rfl,?_⟩) (args_list_sort _)));refine wpAny_pure ⟨_,rfl,?_⟩;have I1:aQ X pins σ H { s with heap:=h',toks:=tk,drawn:=d' }:=I.drawn hk;have fr:H h'.objs.size=none:=I1.hok.fresh (YS _);obtain ⟨ep2,eo⟩:=sortedHeap_at (out:=out) hoL;have pp:ns'.Perm ns:=a2.trans (pk.trans pm);refine ⟨.ref h'.objs.size,bN H h'.objs.size (.lst (ns'.map V.int)),I1.laid (t':=tk) (fun b u q=>?_) (YS _) ⟨by rw [YQ,pp.length_eq,sizeLine_eq]; omega,out.toList,ep2,gC a1,by rw [aAl]; exact eo⟩,rfl,q _ _ fr pp a3⟩;rw [sortedHeap_old (Yd (YX q)) (by rw [Zg]; exact aAh (YX q))];exact YK _ q
theorem pF:∀ (ns acc:List Int),acc.Nodup->(ns.foldl step_dedup acc).Nodup/\∀ k,k∈ns.foldl step_dedup acc↔(k∈acc∨k∈ns)
 | [],acc,h=>⟨h,fun k=>by simp⟩
 | n::ns,acc,h=>by
  rw [Zw]
  by_cases hn:acc.any (·==n)=true
  ·have e:step_dedup acc n=acc:=by unfold step_dedup; rw [if_pos hn]
   have hm:n∈acc:=by
    obtain ⟨x,hx,z⟩:=Zo.mp hn;have:x=n:=by simpa using z
    rw [<- this]; exact hx
   rw [e];obtain ⟨a1,a2⟩:=pF ns acc h;refine ⟨a1,fun k=>(a2 k).trans ?_⟩;rw [Yn];exact ⟨fun z=>z.elim .inl fun z=>.inr (.inr z),fun z=>z.elim .inl fun z=>z.elim (fun e=>.inl (by rw [e]; exact hm)) .inr⟩
  ·have e:step_dedup acc n=acc++[n]:=by unfold step_dedup; rw [if_neg hn]
   have hm:n∉acc:=fun z=>hn (Zo.mpr ⟨n,z,by simp⟩);rw [e];obtain ⟨a1,a2⟩:=pF ns (acc++[n]) (aAv.mpr ⟨h,by simp,fun x hx y hy z=>by rw [YT.mp hy] at z; exact hm (by rw [<- z]; exact hx)⟩);refine ⟨a1,fun k=>(a2 k).trans ?_⟩;rw [Ye,YT,Yn,or_assoc]
theorem mY (ns:List Int):(uV ns).Nodup:=(pF ns [] (by simp)).1
theorem uW (ns:List Int)(k:Int):k∈uV ns↔k∈ns:=((pF ns [] (by simp)).2 k).trans (by simp)
theorem By (hc:X.calm=true):cN X (.type "set") (fun xs H Q=>∃ (a:Addr) (ns:List Int),xs=[.ref a]/\bJ X.K H a (ns.map V.int)/\ns.length+1<scanBound/\∀ r,H r=none->Q (.ref r) (bN H r (.ext (wO X.w r (uV ns))))):=by
 intro pins s σ H xs us Q I r h;obtain ⟨a,ns,rfl,hS,hb,q⟩:=h;obtain ⟨u,rfl,ru⟩:=vals1 r;cases (show u=Value.ref a from ru);obtain ⟨its,rv,p,hz⟩:=I.list hS;have hi:IntsAre its ns:=intsAre_of rv;have hl:its.toArray.size=ns.length:=by
  have h:=rv.length;rw [YQ] at h
  simpa using h.symm
 refine CG (Fl X.w) (I.ok.hd hc) p.isList hi (by rw [hl]; exact hb) ⟨rfl,by unfold tL SetTable.fresh; exact .nil⟩ fun h' tk hG kp=>?_;rw [hl,oG] at hG;have one:wO X.w s.heap.objs.size (uV ns) h':=Gv (mY ns) hG;have hk2:∃ o,h'.get? s.heap.objs.size=some o:=let ⟨o,_,_,_,e,_⟩:=one; ⟨o,e⟩;refine ⟨.ref s.heap.objs.size,_,I.laid (t':=tk) (fun b o e=>kp b o (YX e) e) (YS _) (show cJ X.prog X.w _ h' _ (.ext _) from ⟨one,hk2,fun h1 h2 x k=>let ⟨o,a1,a2,a3,e,r⟩:=x; ⟨o,a1,a2,a3,k o e,r⟩⟩),rfl,q _ (I.hok.fresh (YS _))⟩
theorem xR {K:PySem.W.Frag}{w:World}(hK:X.K=K)(hw:X.w=w)(hc:X.calm=true):cN X (.type "set") (fun xs H Q=>∃ (a:Addr) (ns:List Int),xs=[.ref a]/\bJ K H a (ns.map V.int)/\ns.length+1<scanBound/\∀ r,H r=none->Q (.ref r) (bN H r (.ext (wO w r (uV ns))))):=by subst hK; subst hw; exact By hc
theorem qX {w:World}(hw:X.w=w)(hc:X.calm=true):cN X (.builtin "sorted") (fun xs H Q=>∃ (r:Addr) (ns:List Int),xs=[.ref r]/\H r=some (.ext (wO w r ns))/\ns.length<128/\∀ (l:Addr) (ms:List Int),H l=none->ms.Perm ns->ms.Pairwise (·<=·)->Q (.ref l) (bN H l (.lst (ms.map V.int)))):=by subst hw; exact uQ hc
end
theorem xQ:Manifest.owners.lookup (String.ofList ['d','e','s','r','e','v','e','r'].reverse)=some Manifest.sig_reversed:=by kernel_rfl
theorem dY:Slot "reversed" "__next__" "reversed.__next__" :=
 .of (owner:="reversed") (n:="__next__") (by rw [typeLookup_type,builtinLookup_eq_fast]; kernel_rfl) (by decide +kernel) (by decide +kernel) (by decide +kernel) (by first | exact .inl (by decide +kernel) | exact .inr (by decide +kernel)) (by rw [isSubtype_type]; kernel_rfl)
theorem oA:entryFor table "reversed.__next__" = some Builtin.«reversed.__next__»:=entryFor_of_tree (by kernel_rfl)
theorem oK (a:Value):argsOk "reversed.__next__" ⟨[a],[]⟩:=by
 unfold argsOk; rw [signature?_of (id:="reversed.__next__") (n:=['_','_','t','x','e','n','_','_']) (o:=['d','e','s','r','e','v','e','r']) (by kernel_rfl) xQ]; kernel_rfl
theorem nY:Slot "reversed" "__iter__" "reversed.__iter__" :=
 .of (owner:="reversed") (n:="__iter__") (by rw [typeLookup_type,builtinLookup_eq_fast]; kernel_rfl) (by decide +kernel) (by decide +kernel) (by decide +kernel) (by first | exact .inl (by decide +kernel) | exact .inr (by decide +kernel)) (by rw [isSubtype_type]; kernel_rfl)
theorem wZ (a:Value):argsOk "reversed.__iter__" ⟨[a],[]⟩:=by
 unfold argsOk; rw [signature?_of (id:="reversed.__iter__") (n:=['_','_','r','e','t','i','_','_']) (o:=['d','e','s','r','e','v','e','r']) (by kernel_rfl) xQ]; kernel_rfl
theorem w6:entryFor table "reversed.__iter__" = some Builtin.«dict_keyiterator.__iter__» :=
 entryFor_alias (id':="dict_keyiterator.__iter__") (by kernel_rfl) (by first | rfl | decide +kernel | (unfold String.splitOn; simp +decide [String.splitOnAux])) (by decide +kernel) (by kernel_rfl)
theorem v9:Slot "reversed" "__init__" "object.__init__" :=
 .of (owner:="object") (n:="__init__") (by rw [typeLookup_type,builtinLookup_eq_fast]; kernel_rfl) (by decide +kernel) (by decide +kernel) (by decide +kernel) (by first | exact .inl (by decide +kernel) | exact .inr (by decide +kernel)) (by rw [isSubtype_type]; kernel_rfl)
theorem J7:TypeCalled "reversed" "reversed.__new__" "object.__init__":=⟨by decide +kernel,F.create_reversed,⟨_,_,F.mro_reversed⟩,F.made_reversed,F.plain_reversed_new,F.sub_reversed_self,v9⟩
theorem yV:typeLookup (.type "tuple") "__reversed__" = pure none:=by rw [typeLookup_type,builtinLookup_eq_fast]; kernel_rfl
theorem tQ:isSubtype (.type "tuple") (.type "dict")=pure false:=by rw [isSubtype_type]; kernel_rfl
def yD (t:Addr)(i:Int):Obj:={ cls:=.type "reversed",data:=.fields #[.ref t,.int i 0] }
theorem Dv (t:Addr)(xs:Array Value)(hz:(xs.size:Int)<2^63) :
  Meets (Builtin.«reversed.__new__» ⟨[.type "reversed",.ref t],[]⟩) (fun _ R s=>IsTup s.heap t xs/\R (.ok (.ret (.ref s.heap.objs.size))) { s with heap:=s.heap.push (yD t ((xs.size:Int)-1)),toks:=s.toks+2 }) :=
 .of_wp fun prog w A R s h=>by
  obtain ⟨ht,h⟩:=h;unfold Builtin.«reversed.__new__»;refine wpAny_bind (wpAny_of_eq (newClass_reversed _) ?_);refine wpAny_bind (m:=Builtin.SmallTypes.refuseKeywords _ _ _) (wpAny_pure ?_);refine wpAny_bind (m:=checkCount _ _ _ _) (wpAny_pure ?_);refine wpAny_bind (wpAny_specialOf ht.typeIs yV ?_);refine wpAny_bind (wpAny_bind (wpAny_isInstance ht.typeIs tQ ?_));simp only [Y6,if_false];refine wpAny_bind (wpAny_specialOf ht.typeIs slot_tuple_getitem.lookup ?_);refine wpAny_pure (a:=true) ?_;refine wpAny_bind (len_tuple ht hz ?_);refine wpAny_bind (m:=asInt? _) (wpAny_pure ?_);show wpAny _ _ (newObj (.type "reversed") (.fields #[.ref t,rawInt ((xs.size:Int)-1)]) >>= _) _ _ _;exact wpAny_bind (wpAny_newObj_type (wpAny_pure ⟨_,rfl,h⟩))
def qH (h:Heap)(r t:Addr)(i:Int):Prop:=∃ o,h.get? r=some o/\o.cls=.type "reversed"/\o.data=.fields #[.ref t,.int i 0]
section
variable {prog:Program}{w:World}{A:Around}{E:Value->Shared->Prop}{s:Shared}{r t:Addr}{xs:Array Value}
theorem Ia {i:Nat}{x:Value}{Q:Option Value->Shared->Prop}(hr:qH s.heap r t i)(ht:IsTup s.heap t xs)(hx:xs[i]? = some x)(hz:(xs.size:Int)<2^63)
  (k:∀ h',qH h' r t ((i:Int)-1)->Ym r s.heap h'->Q (some x) { s with heap:=h',toks:=s.toks+1 }):wpAny (model prog w) A (pyNext (.ref r)) Q E s:=by
 obtain ⟨o,ho,hc,hd⟩:=id hr;have il:i<xs.size:=by
  rcases Nat.lt_or_ge i xs.size with z | z
  ·exact z
  ·rw [aAd z] at hx; cases hx
 have ty:s.TypeIs (.ref r) "reversed":=⟨o,ho,hc⟩
 unfold pyNext;refine wpAny_bind (wpAny_attempt (wpAny_callSpecial?_slot (name:=Str.ofString "__next__") ty dY (wpAny_call_entry dY ty oA ?_ (oK _))));show wpAny _ _ (field (.ref r) 0 >>= _) _ _ s;refine wpAny_bind (wpAny_field ho hd (x:=.ref t) rfl ?_);show wpAny _ _ (field (.ref r) 1 >>= _) _ _ s;refine wpAny_bind (wpAny_field ho hd (x:=.int i 0) rfl ?_);dsimp only;rw [if_neg (show ¬ (i:Int)<0 by omega)];refine wpAny_bind (wpAny_specialOf ht.typeIs slot_tuple_getitem.lookup ?_);simp only [Option.isNone_some,Y6,if_false];refine wpAny_bind (wpAny_mkInt ?_);refine wpAny_bind (wpAny_attempt (getItem_tuple (s:={ s with toks:=s.toks+1 }) ht (by omega) (by omega) (j:=i) ?_ hx ?_))
 ·have e:DQ xs.size (i:Int)=some i:=by
   unfold DQ;rw [if_pos (aBp i),if_pos (by omega),ZM]
  exact (uN e).1
 dsimp only;refine wpAny_bind (wpAny_field (s:={ s with toks:=s.toks+1 }) ho hd (x:=.int i 0) rfl ?_);dsimp only;refine wpAny_bind (wpAny_setField (s:={ s with toks:=s.toks+1 }) ho hd (by simp) (wpAny_pure ⟨x,rfl,wpAny_pure (k _ ?_ (Ym.update ..))⟩));exact ⟨_,Yv _ ho (Obj.isFreed_of_fields (Obj.data_mapFields hd _)),(Obj.cls_mapFields ..).trans hc,by rw [Obj.data_mapFields hd]; simp [rawInt]⟩
theorem KZ {i:Int}{Q:Option Value->Shared->Prop}(hh:A.handled=none)(hr:qH s.heap r t i)(hi:i<0)(k:∀ h',Heap.ExtBut r s.heap h'->Q none { s with heap:=h' }):wpAny (model prog w) A (pyNext (.ref r)) Q E s:=by
 obtain ⟨o,ho,hc,hd⟩:=id hr;have ty:s.TypeIs (.ref r) "reversed":=⟨o,ho,hc⟩
 unfold pyNext;refine wpAny_bind (wpAny_attempt (wpAny_callSpecial?_slot (name:=Str.ofString "__next__") ty dY (wpAny_call_entry dY ty oA ?_ (oK _))));show wpAny _ _ (field (.ref r) 0 >>= _) _ _ s;refine wpAny_bind (wpAny_field ho hd (x:=.ref t) rfl ?_);show wpAny _ _ (field (.ref r) 1 >>= _) _ _ s;refine wpAny_bind (wpAny_field ho hd (x:=.int i 0) rfl ?_);dsimp only;rw [if_pos hi];refine wpAny_bind (wpAny_rule (wpAny_bind ?_));show wpAny _ _ (setField (.ref r) 1 (rawInt (-1)) >>= _) _ _ _;refine wpAny_bind (wpAny_setField ho hd (by simp) ?_);have ho2:=Yv (Obj.mapFields (fun a=>a.setIfInBounds 1 (rawInt (-1)))) ho (Obj.isFreed_of_fields (Obj.data_mapFields hd _));have hd2:=Obj.data_mapFields hd (fun a=>a.setIfInBounds 1 (rawInt (-1)));refine wpAny_setField (s:={ s with heap:=s.heap.update r (Obj.mapFields (fun a=>a.setIfInBounds 1 (rawInt (-1)))) }) ho2 hd2 (by simp) ?_;refine wpAny_bind ?_;unfold Builtin.SmallTypes.stopIteration;refine wpAny_bind ?_;simp only [newExc,newTuple];refine wpAny_bind (wpAny_newObj_type ?_ (by size_fits));refine wpAny_bind (m:=firstArgMember _ _) (wpAny_of_eq (a:=Value.none) (by first | rfl | (simp only [firstArgMember]; rfl)) ?_);refine wpAny_newObj_type ?_ (by size_fits);simp only [raiseNew];refine wpAny_bind (wpAny_handled ?_)
 first | rw [show A.in1.handled=none from hh] | rw [hh]
 refine wpAny_bind (wpAny_pure (wpAny_throw ?_));refine wpAny_bind (wpAny_isInstance (T:="StopIteration") (b:=true) ⟨_,YZ _ rfl,rfl⟩ isSubtype_stop ?_);refine wpAny_pure (k _ fun b o' n e=>?_);exact YK _ (YK _ ((Ym.update ..).extBut _ _ n ((Ym.update ..).extBut _ _ n e)))
theorem Ag {i:Int}{Q:Value->Shared->Prop}(hr:qH s.heap r t i)(h:Q (.ref r) s):wpAny (model prog w) A (pyIter (.ref r)) Q E s:=by
 obtain ⟨o,ho,hc,hd⟩:=hr;have ty:s.TypeIs (.ref r) "reversed":=⟨o,ho,hc⟩
 refine wpAny_pyIter_slot ty nY (wpAny_call_entry nY ty w6 ?_ (wZ _));show wpAny _ _ (ret (.ref r)) _ _ s;exact wpAny_pure ⟨_,rfl,"reversed",_,ty,dY.lookup,h⟩
theorem Iz {Q:Value->Shared->Prop}(ht:IsTup s.heap t xs)(hz:(xs.size:Int)<2^63)(h:Q (.ref s.heap.objs.size) { s with heap:=s.heap.push (yD t ((xs.size:Int)-1)),toks:=s.toks+2 }):wpAny (model prog w) A (call (.type "reversed") [.ref t]) Q E s:=by
 refine callType_new J7 (by decide) (F.typeCall_reversed_1 _) (F.newCall_reversed_1 _) (fun obj=>F.args_object_init_2 obj _) F.entry_reversed_new (Dv t xs hz) ⟨ht,?_⟩;exact ⟨⟨_,YZ _ rfl,rfl⟩,h⟩
end
theorem q9:typeLookup (.type "reversed") "__len__" = pure none:=by rw [typeLookup_type,builtinLookup_eq_fast]; kernel_rfl
theorem tW:typeLookup (.type "reversed") "__length_hint__" = pure (some (.builtin "reversed.__length_hint__")):=by rw [typeLookup_type,builtinLookup_eq_fast]; kernel_rfl
theorem wK:Slot "reversed" "__length_hint__" "reversed.__length_hint__" :=
 .of (owner:="reversed") (n:="__length_hint__") (by rw [typeLookup_type,builtinLookup_eq_fast]; kernel_rfl) (by decide +kernel) (by decide +kernel) (by decide +kernel) (by first | exact .inl (by decide +kernel) | exact .inr (by decide +kernel)) (by rw [isSubtype_type]; kernel_rfl)
theorem xH:entryFor table "reversed.__length_hint__" = some Builtin.«reversed.__length_hint__»:=entryFor_of_tree (by kernel_rfl)
theorem wL (a:Value):argsOk "reversed.__length_hint__" ⟨[a],[]⟩:=by
 unfold argsOk; rw [signature?_of (id:="reversed.__length_hint__") (n:=['_','_','t','n','i','h','_','h','t','g','n','e','l','_','_']) (o:=['d','e','s','r','e','v','e','r']) (by kernel_rfl) xQ]; kernel_rfl
theorem vC:typeOf (.builtin "reversed.__length_hint__")=pure (.type "method_descriptor"):=by show builtinType _=_; rw [builtinType_eq_fast]; kernel_rfl
theorem Fz {prog:Program}{w:World}{A:Around}{E:Value->Shared->Prop}{s:Shared}{r t:Addr}{xs:Array Value}{Q:Bool->Shared->Prop}(hr:qH s.heap r t ((xs.size:Int)-1))(ht:IsTup s.heap t xs)(h1:1<=xs.size)(hs:xs.size<=sizeLine)(hz:(xs.size:Int)<2^63)(h:∀ k,Q true { s with toks:=k }):wpAny (model prog w) A (Builtin.List.listLengthHint (.ref r)) Q E s:=by
 obtain ⟨o,ho,hc,hd⟩:=id hr;have ty:s.TypeIs (.ref r) "reversed":=⟨o,ho,hc⟩
 unfold Builtin.List.listLengthHint;refine wpAny_bind (wpAny_specialOf ty q9 ?_);show wpAny _ A (specialOf (Value.ref r) (Str.ofString "__length_hint__") >>= _) _ _ _;refine wpAny_bind (wpAny_specialOf ty tW ?_);have sp:splitId "reversed.__length_hint__" = some ("reversed","__length_hint__"):=by decide +kernel
 generalize he:("reversed.__length_hint__" : String)=e0 at sp
 wp_delta
 rw [sp];subst he;refine wpAny_bind (wpAny_isInstance (b:=true) ty (by rw [isSubtype_type]; kernel_rfl) ?_);rw [if_neg (by decide)];dsimp only;rw [if_neg (by decide +kernel)];refine wpAny_bind (wpAny_rule ?_);unfold bindSpecial;refine wpAny_bind (wpAny_bind (wpAny_of_eq vC ?_));refine wpAny_pure ?_;dsimp only;refine wpAny_bind (wpAny_attempt (wpAny_call_entry wK ty xH ?_ (wL _)));show wpAny _ _ (field (.ref r) 0 >>= _) _ _ s;refine wpAny_bind (wpAny_field ho hd (x:=.ref t) rfl ?_);dsimp only;refine wpAny_bind (len_tuple ht hz ?_);refine wpAny_bind (m:=asInt? _) (wpAny_pure ?_);dsimp only;refine wpAny_bind (wpAny_field (s:={ s with toks:=s.toks+1+1 }) ho hd (x:=.int ((xs.size:Int)-1) 0) rfl ?_);dsimp only;rw [if_neg (by omega)];unfold retInt;refine wpAny_bind (wpAny_mkInt (wpAny_pure ⟨_,rfl,?_⟩));dsimp only;refine wpAny_bind (m:=asInt? _) (wpAny_pure ?_);dsimp only;have f:Builtin.List.listFitsIndex ((xs.size:Int)-1+1)=true:=by
  unfold Builtin.List.listFitsIndex;rw [Yh];exact ⟨decide_eq_true (by omega),decide_eq_true (by omega)⟩
 rw [if_neg (by rw [f]; decide),if_neg (by omega),if_neg (by unfold Builtin.List.listTooLong; rw [show ((xs.size:Int)-1+1).toNat=xs.size by omega]; simp; exact hs)];have e:((xs.size:Int)-1+1 != 0)=true:=by
  rw [bne_iff_ne];omega
 rw [e];exact wpAny_pure (h _)
theorem Di {h h':Heap}{it l:Addr}{i:Int}(r:qH h it l i)(k:∀ o,h.get? it=some o->h'.get? it=some o):qH h' it l i:=by
 obtain ⟨o,e,c,d⟩:=r;exact ⟨o,k o e,c,d⟩
theorem pZ {h h':Heap}{l:Addr}{xs:Array Value}(r:IsTup h l xs)(k:∀ o,h.get? l=some o->h'.get? l=some o):IsTup h' l xs:=by
 obtain ⟨o,e,c,d⟩:=r;exact ⟨o,k o e,c,d⟩
theorem Bm {prog:Program}{w:World}{A:Around}(hh:A.handled=none)(it l:Addr)(ne:it≠l)(xs:Array Value)(hz:(xs.size:Int)<2^63) :
  Walks prog w A it [it,l] [it] xs.size (fun i v=>xs[xs.size-1-i]? = some v) (fun i h=>i<=xs.size/\qH h it l ((xs.size:Int)-1-(i:Int))/\IsTup h l xs) where
 sub:=fun b hb=>by rw [YT.mp hb]; exact .head _
 frame:=fun i h h' st k=>⟨st.1,Di st.2.1 fun o e=>k it (.head _) o e,pZ st.2.2 fun o e=>k l (.tail _ (.head _)) o e⟩
 item:=fun i s Q E hi st hQ=>by
  have ei:(xs.size:Int)-1-(i:Int)=((xs.size-1-i:Nat):Int):=by omega
  have ej:(xs.size:Int)-1-((i+1:Nat):Int)=((xs.size-1-i:Nat):Int)-1:=by omega
  have st1:=st.2.1;rw [ei] at st1;have hx:xs[xs.size-1-i]? = some xs[xs.size-1-i]:=ZC (by omega);refine Ia st1 st.2.2 hx hz fun h' st' sb=>?_;exact hQ _ h' (s.toks+1) hx ⟨hi,by rw [ej]; exact st',pZ st.2.2 fun o e=>(sb.2 l (Ne.symm ne)).trans e⟩ fun b o hb e=>(sb.2 b (fun z=>hb (by rw [z]; exact .head _))).trans e
 done:=fun s Q E st hQ=>by
  have ei:(xs.size:Int)-1-(xs.size:Int) = -1:=by omega
  have st1:=st.2.1;rw [ei] at st1;refine KZ hh st1 (by decide) fun h' eb=>?_;exact hQ h' s.toks fun b o hb e=>eb b o (fun z=>hb (by rw [z]; exact .head _)) e
 self:=fun i s Q E st hQ=>Ag st.2.1 hQ
theorem wX {prog:Program}{w:World}{A:Around}{E:Value->Shared->Prop}{s:Shared}{it l:Addr}{xs:Array Value}{Q:Value->Shared->Prop}(hh:A.handled=none)(ne:it≠l)(hit:qH s.heap it l ((xs.size:Int)-1))(hl:IsTup s.heap l xs)(h1:1<=xs.size)(hn:xs.size<=sizeLine)(hz:(xs.size:Int)<2^63)
  (hQ:∀ h' tk acc c,(∀ b o,b≠it->s.heap.get? b=some o->h'.get? b=some o)->h'.get? s.heap.objs.size=some { cls:=.type "list",dict:=none,data:=.seq acc c,slots:=#[] }->ItemsOf (fun i v=>xs[xs.size-1-i]? = some v) acc xs.size->Q (.ref s.heap.objs.size) { s with heap:=h',toks:=tk }) :
  wpAny (model prog w) A (call (.type "list") [.ref it]) Q E s:=by
 have ilt:it<s.heap.objs.size:=by obtain ⟨o,e,_⟩:=hit; exact YX e
 have llt:l<s.heap.objs.size:=by obtain ⟨o,e,_⟩:=hl; exact YX e
 refine callType_codes (Q₁:=fun obj s₁=>obj=.ref s.heap.objs.size/\s₁ = { s with heap:=s.heap.push { cls:=.type "list",data:=.seq #[] } }) F.called_list (F.typeCall_list_1 _) F.entry_list_init (code_list_new _ ⟨rfl,rfl⟩) fun obj s₁ z=>?_;obtain ⟨rfl,rfl⟩:=z;have hS:(s.heap.push { cls:=.type "list",data:=.seq #[] }).get? s.heap.objs.size=some { cls:=.type "list",data:=.seq #[] }:=YZ _ rfl;refine ⟨⟨_,hS,rfl⟩,F.args_list_init_2 _ _,?_⟩;show wpAny _ _ (do let old <- Builtin.List.listItems (.ref s.heap.objs.size); Builtin.List.listUpdate (.ref s.heap.objs.size) (fun _=>#[]); letGo old.toList.reverse; Builtin.List.listExtendWith (.ref s.heap.objs.size) (.ref it) .none) _ _ _;unfold Builtin.List.listItems;refine wpAny_bind (wpAny_bind (wpAny_seqItems hS rfl (wpAny_pure ?_)));refine wpAny_bind (wpAny_updateSeq hS rfl (wpAny_bind (wpAny_letGo ?_)));have hS2:=Yv (Obj.mapSeq (fun _=>(#[]:Array Value))) hS rfl;have old:∀ b o,s.heap.get? b=some o->((s.heap.push { cls:=.type "list",data:=.seq #[] }).update s.heap.objs.size (Obj.mapSeq (fun _=>(#[]:Array Value)))).get? b=some o:=fun b o e =>
  (ZV _ _ (Z7 (YX e))).trans (YK _ e)
 generalize (s.heap.push { cls:=.type "list",data:=.seq #[] }).update s.heap.objs.size (Obj.mapSeq (fun _=>(#[]:Array Value)))=h2 at hS2 old ⊢;have hit2:qH h2 it l ((xs.size:Int)-1-((0:Nat):Int)):=by
  rw [show (xs.size:Int)-1-((0:Nat):Int)=(xs.size:Int)-1 by omega];exact Di hit fun o e=>old it o e
 have hl2:IsTup h2 l xs:=pZ hl fun o e=>old l o e;have ty:({ s with heap:=h2 }:Shared).TypeIs (.ref it) "reversed":=by obtain ⟨o,e,c,_⟩:=hit2; exact ⟨o,e,c⟩
 have Sf:s.heap.objs.size∉[it,l]:=by
  simp only [Yn,aAq,or_false,not_or];exact ⟨Z7 ilt,Z7 llt⟩
 unfold Builtin.List.listExtendWith;refine wpAny_bind (wpAny_typeOf ty ?_);have r1:Builtin.List.listSameRef (.ref s.heap.objs.size) (.ref it)=false:=by simp [Builtin.List.listSameRef,Z7 ilt]
 rw [if_neg (by rw [r1]; decide)];refine wpAny_bind (Ag (s:={ s with heap:=h2 }) hit2 ?_);refine wpAny_bind (wpAny_holding (Fz (s:={ s with heap:=h2 }) (by rw [show (xs.size:Int)-1-((0:Nat):Int)=(xs.size:Int)-1 by omega] at hit2; exact hit2) hl2 h1 hn hz fun tk0=>?_));rw [if_pos (by rfl)];refine wpAny_bind (wpAny_rule (wpAny_bind ?_));unfold Builtin.List.listTouch Builtin.List.listUpdate;dsimp only;refine wpAny_bind (wpAny_updateSeq (s:={ s with heap:=h2,toks:=tk0 }) hS2 rfl ?_);have hS3:=Yv (Obj.mapSeq (fun x:Array Value=>x.push Value.none)) hS2 rfl;refine wpAny_updateSeq (s:={ s with heap:=h2.update s.heap.objs.size (Obj.mapSeq (fun x:Array Value=>x.push Value.none)),toks:=tk0 }) hS3 rfl ?_;have hS4:=Yv (Obj.mapSeq (fun x:Array Value=>x.pop)) hS3 rfl;have old4:∀ b o,s.heap.get? b=some o->((h2.update s.heap.objs.size (Obj.mapSeq (fun x:Array Value=>x.push Value.none))).update s.heap.objs.size (Obj.mapSeq (fun x:Array Value=>x.pop))).get? b=some o:=fun b o e =>
  (ZV _ _ (Z7 (YX e))).trans ((ZV _ _ (Z7 (YX e))).trans (old b o e))
 generalize (h2.update s.heap.objs.size (Obj.mapSeq (fun x:Array Value=>x.push Value.none))).update s.heap.objs.size (Obj.mapSeq (fun x:Array Value=>x.pop))=h4 at hS4 old4 ⊢;have hit4:qH h4 it l ((xs.size:Int)-1-((0:Nat):Int)):=by
  rw [show (xs.size:Int)-1-((0:Nat):Int)=(xs.size:Int)-1 by omega];exact Di hit fun o e=>old4 it o e
 have hl4:IsTup h4 l xs:=pZ hl fun o e=>old4 l o e;refine wpAny_pure ⟨plainId_quiet F.plain_extend_loop _,codeAny_extend_loopS (Bm (A:=A.in1.in1) hh it l ne xs hz).toS hn _ Sf _ xs.size 0 _ _ _ rfl (Yq _) ⟨Yq _,hit4,hl4⟩ hS4 (ItemsOf.nil _) fun s' acc' c' hm hS' hacc=>?_⟩;rw [Moved.eq_with hm];refine ⟨rfl,hQ s'.heap s'.toks acc' c' (fun b o hb e=>hm.heap b o (fun z=>?_) (old4 b o e)) hS' hacc⟩;rcases Yn.mp z with z | z
 ·exact absurd (YX e) (by rw [z]; exact Za _)
 ·exact hb (YT.mp z)
section
variable {X:Cx}
def BW (K:PySem.W.Frag)(ta:TA):TE:=fun σ H Q=>ta σ H fun vs H1=>∃ a xs,vs=[.ref a]/\dB K H1 a xs/\1<=xs.length/\∀ l,H1 l=none->Q (.ref l) (bN H1 l (.lst xs.reverse))
theorem wF {a:Expr}{ta:TA}{p p2 pos pos2:Pos}(hc:X.calm=true)(hg:Gl X "list")(hm:X.mg "list" = none)(hg2:Gl X "reversed")(hm2:X.mg "reversed" = none)(ha:PA X [a] ta)(hs:starEach [a] X.env=[(false,eval a X.env)]:=by rfl)
  (hs2:starEach [.Call (.Name "reversed" p2) [a] [] pos2] X.env=[(false,eval (.Call (.Name "reversed" p2) [a] [] pos2) X.env)]:=by rfl) :
  PE X (.Call (.Name "list" p) [.Call (.Name "reversed" p2) [a] [] pos2] [] pos) (BW X.K ta):=by
 intro pins s σ H Q I h;refine wpAny_Call_Name_kw (jJ I hg hm iQ ?_);refine PyProof.Rows.callWith_type1 ?_ hs2 rfl;rw [hs2];show wpAny _ _ (spliced [(false,eval (.Call (.Name "reversed" p2) [a] [] pos2) X.env)]) _ _ _;refine Calls.spliced_cons ?_;refine Call_ (jJ I hg2 hm2 xA (PyProof.Rows.callWith_type1 (cM (ha pos2 pins s σ H _ I h) fun us s1 ⟨vs,H1,I1,r1,q1⟩=>?_) hs rfl));obtain ⟨b,xs,e,hS,hx1,q⟩:=q1;subst e;obtain ⟨u,rfl,ru⟩:=vals1 r1;cases (show u=Value.ref b from ru);obtain ⟨its,rv,pl,hz⟩:=I1.tuple hS;have hlen:=rv.length;have z63:(its.toArray.size:Int)<2^63:=by
  have z2:sizeLine<2^62:=by decide
  rw [YM];omega
 refine Iz pl z63 (Calls.spliced_nil ?_);have I2:aQ X pins σ H1 { s1 with heap:=s1.heap.push (yD b (((its.toArray.size:Nat):Int)-1)) }:=I1.kept (t':=s1.toks) fun b o e=>YK _ e;have lt:b<s1.heap.objs.size:=by obtain ⟨o,e,_⟩:=pl; exact YX e
 obtain ⟨its2,rv2,pl2,_⟩:=I2.tuple hS;have f:=I1.fpOk (H':=H1) (b:=s1.heap.objs.size) (YS _) (I1.hok.fresh (YS _));have hl2:IsTup (s1.heap.push (yD b (((its.toArray.size:Nat):Int)-1))) b its.toArray:=pZ pl fun o e=>YK _ e;refine wX (it:=s1.heap.objs.size) (l:=b) (xs:=its.toArray) (I1.ok.hd hc) (Z7 lt) ⟨_,YZ _ rfl,rfl,rfl⟩ hl2 (by rw [YM]; omega) (by rw [YM]; omega) z63 fun h' tk acc c hk hD hacc=>?_;have nsz:(s1.heap.push (yD b (((its.toArray.size:Nat):Int)-1))).objs.size=s1.heap.objs.size+1:=Zg ..;have ac:acc.toList=its.reverse:=by
  refine List.ext_getElem? fun i=>?_;rw [Z5]
  by_cases hi:i<its.length
  ·have ha:i<acc.size:=by rw [hacc.1,YM]; exact hi
   have z:=hacc.2 i _ (ZC ha);rw [ZC ha,List.getElem?_reverse hi,<- z,YM];simp
  ·rw [aAd (by rw [hacc.1,YM]; omega),Z2 (by rw [Zz]; omega)]
 have rr:∀ {us:List V}{ws:List Value},bL us ws->bL us.reverse ws.reverse:=by
  intro us ws r
  induction r with
  | nil=>exact .nil
  | cons h t ih=>rw [aBA,aBA]; exact ih.append (.cons h .nil)
 have D0:H1 (s1.heap.objs.size+1)=none:=I1.hok.fresh (aAk _);rw [nsz] at hD;refine ⟨.ref (s1.heap.push (yD b (((its.toArray.size:Nat):Int)-1))).objs.size,bN H1 (s1.heap.push (yD b (((its.toArray.size:Nat):Int)-1))).objs.size (.lst xs.reverse),?_,rfl,q _ (by rw [nsz]; exact D0)⟩;refine I2.turnedLaid (t':=tk) (ch:=[s1.heap.objs.size]) (fun c hc=>by rw [YT.mp hc]; exact f) (fun c o hc e=>hk c o (fun z=>hc (by rw [z]; exact .head _)) e) (YS _) ⟨by rw [Zz]; exact hz,its.reverse,c,rr rv,?_⟩;rw [nsz,<- ac,aAl];exact hD
end
end L2
set_option maxHeartbeats 4000000
namespace TP
open PySem L2 TD
def Ex (H:Hp)(a:Addr)(qs:List Addr):Prop:=H a=some (.lst (qs.map V.ref))/\∀ q∈qs,∃ x y:Int,H q=some (.tup [.int x,.int y])/\0<=x/\x<4/\0<=y/\y<4
theorem Ex.same {H H':Hp}{a:Addr}{qs:List Addr}(s:aW H H')(h:Ex H a qs):Ex H' a qs:=⟨s _ _ h.1,fun q hq=>by
 obtain ⟨x,y,e,r⟩:=h.2 q hq;exact ⟨x,y,s _ _ e,r⟩⟩
def v8:Sp:=fun vs H Q _=>∃ (a:Addr) (qs:List Addr) (k:Int),vs=[.ref a,.int k]/\Ex H a qs/\qs.length<=6/\∀ b H',aW H H'->(k=0->b=true)->Q (.bl b) H'
theorem GR (b:Int):hb 0 b=false:=by
 unfold hb;rw [Int.zero_ediv]
 rfl
def uF (ss:List Int)(k:Int):Bool:=(ss.map fun o=>decide (V.int (Builtin.bitAnd k o)=V.int k)).any id
theorem VF {ss:List Int}(h:ss≠[])(hp:∀ s∈ss,Builtin.bitAnd 0 s=0):uF ss (0+((0:Nat):Int))=true:=by
 cases ss with
 | nil=>exact absurd rfl h
 | cons s ss =>
  have e:=hp s Yg;unfold uF;rw [ZF,aAC];show (decide (V.int (Builtin.bitAnd 0 s)=V.int 0)||_)=true;rw [e]
  rfl
theorem GK:∀ (s:Fin 64),Builtin.bitAnd 0 ((s.val:Nat):Int)=0:=by decide +kernel
theorem R4 {s:Int}(h0:0<=s)(h1:s<64):Builtin.bitAnd 0 s=0:=by
 have:=GK ⟨s.toNat,by omega⟩;simp only [show ((s.toNat:Nat):Int)=s by omega] at this;exact this
structure Part (i:Nat)(ks:List Int):Prop where
 lt:ks.Pairwise (· < ·)
 r:∀ x∈ks,0<=x/\x<(i:Int)
 l:ks.length<=i
 z:0<i->(0:Int)∈ks
theorem Part.nil:Part 0 []:=⟨Zn.nil,(fun _ h=>nomatch h),YS _,fun h=>absurd h (Za _)⟩
theorem Part.skip {i:Nat}{ks:List Int}(p:Part i ks)(h:i≠0):Part (i+1) ks:=⟨p.lt,fun x hx=>by have:=p.r x hx; omega,aBw p.l,fun _=>p.z (by omega)⟩
theorem Part.snoc {i:Nat}{ks:List Int}(p:Part i ks):Part (i+1) (ks++[0+(i:Int)]):=by
 refine ⟨ZG.mpr ⟨p.lt,Zh _ _,fun x hx y hy=>?_⟩,fun x hx=>?_,by rw [Y4]; exact aA2 p.l,fun _=>?_⟩
 ·rw [YT.mp hy];have:=p.r x hx;omega
 ·rcases Ye.mp hx with u | u
  ·have:=p.r x u;omega
  ·rw [YT.mp u];omega
 ·by_cases e:i=0
  ·subst e;exact Yb _ Yg
  ·exact ZQ _ (p.z (by omega))
def Az:Sp:=fun vs H Q _=>∃ (a:Addr) (ss:List Int) (m:Nat),vs=[.ref a,.int (m:Int)]/\H a=some (.lst (Is ss))/\ss≠[]/\ss.length<=100/\(∀ s∈ss,0<=s/\s<64)/\m<=6/\∀ r H' ks,aW H H'->H r=none->H' r=some (.lst (Is ks))->Part (2^m) ks->Q (.ref r) H'
structure Q4 (ks:List Int):Prop where
 l1:1<=ks.length
 l2:ks.length<=100
 k:∀ k∈ks,0<=k/\k<=63
def zT (K:PySem.W.Frag):Sp:=fun vs H Q _=>∃ (a:Addr) (ns:List Int) (w:Int) (m:Nat),vs=[.ref a,.int w,.int (m:Int)]/\bJ K H a (ns.map V.int)/\1<=m/\m<=6/\∀ r H' ks,aW H H'->H' r=some (.lst (Is ks))->Q4 ks->Q (.ref r) H'
inductive Jc:Sk->Prop where
 | few {c:Int} (h0:0<=c) (h6:c<=6):Jc (.few c)
 | groups {gs ms:List Int} (g:JN gs ms):Jc (.groups gs ms)
 | listed {ks:List Int} (lt:ks.Pairwise (· < ·)) (l1:1<=ks.length) (l64:ks.length<=64) (hk:∀ x∈ks,0<=x/\x<=63):Jc (.listed ks)
theorem Jc.good {S:Sk}(h:Jc S):wD S:=by
 cases h with
 | few h0 h6=>exact ⟨h0,h6⟩
 | groups g=>exact g
 | listed lt l1 l64 hk=>exact lD l1 l64 lt hk
def An (K:PySem.W.Frag):Sp:=fun vs H Q _=>∃ (a:Addr) (ns:List Int) (m:Nat),vs=[.ref a,.int (m:Int)]/\bJ K H a (ns.map V.int)/\1<=m/\m<=6/\∀ r H' S,aW H H'->oX H' r S->Jc S->Q (.ref r) H'
section
variable (p:yH)
def Ak:Sp:=fun vs H Q _=>∃ (r:Addr) (S:Sk),vs=[.ref r]/\oX H r S/\Jc S/\∀ x H',aW H H'->jX p H' x S->Q (.ref x) H'
end
theorem Hv {ms:List Int}(so:ms.Pairwise (·<=·))(nd:ms.Nodup):ms.Pairwise (· < ·):=by
 have h:=so.and nd;exact h.imp fun z=>by have:=z.1; have:=z.2; omega
theorem Hl {ks:List Int}(lt:ks.Pairwise (· < ·))(hk:∀ x∈ks,0<=x/\x<=63):ks.length<=64:=by
 have go:∀ (ks:List Int) (lo:Nat),ks.Pairwise (· < ·)->(∀ x∈ks,(lo:Int)<=x/\x<=63)->ks.length+lo<=64∨ks=[]:=by
  intro ks
  induction ks with
  | nil=>intro lo _ _; exact .inr rfl
  | cons k ks ih =>
   intro lo lt hk;obtain ⟨h1,h2⟩:=aAt.mp lt;have hk0:=hk k Yg;have:=ih (k.toNat+1) h2 fun x hx=>by have:=h1 x hx; have:=hk x (Y8 _ hx); omega
   refine .inl ?_;rw [ZP];rcases this with z | z
   ·omega
   ·subst z;show 0+1+lo<=64;omega
 rcases go ks 0 lt (fun x hx=>by have:=hk x hx; omega) with z | z
 ·omega
 ·rw [z]; exact Yq _
theorem Bu {xs ys:List Int}(p:xs.Perm ys)(sx:xs.Pairwise (·<=·))(sy:ys.Pairwise (· < ·)):xs=ys :=
 p.eq_of_pairwise (le:=fun a b:Int=>a<=b) (fun a b _ _ h1 h2=>Int.le_antisymm h1 h2) sx (sy.imp fun h=>Yt h)
def gF (ss:List Int)(o e b:Int):Bool:=hb o b&&(!hb e b&&qL (.int (Builtin.bitOr e (1*2^b.toNat))) (Is ss))
def zB (ss:List Int)(o e:Int):Bool:=(six 6).any (gF ss o e)
def lF (ss:List Int)(o b:Int):Bool:=hb o b&&!qL (.int (o-1*2^b.toNat)) (Is ss)
def P0 (ss:List Int)(o:Int):Bool:=(six 6).any (lF ss o)
def wJ (ss:List Int):Bool:=ss.any (P0 ss)
def sF (ss:List Int)(o e:Int):Bool:=decide (V.int (((eQ o).length:Nat):Int)=V.int ((((eQ e).length:Nat):Int)+1))&&!zB ss o e
def HW (ss:List Int)(o:Int):Bool:=ss.any (sF ss o)
def Ce (ss:List Int):Bool:=ss.any (HW ss)
structure Np (ss:List Int):Prop where
 len:ss.length<=64
 r:∀ x∈ss,0<=x/\x<64
theorem pL {f:Int->Bool}{i:Nat}(no:(six i).any f=false)(h:f (0+(i:Int))=false):(six (i+1)).any f=false:=by
 rw [eF,aBH,no,aAC,h]
 rfl
theorem Ax {f:Int->Bool}{i n:Nat}(hi:i<n)(h:f (0+(i:Int))=true):(six n).any f=true :=
 Zo.mpr ⟨_,ZW.mpr ⟨i,ZZ.mpr hi,rfl⟩,h⟩
theorem zQ {ss:List Int}{f:Int->Bool}{i:Nat}{x:Int}(no:(ss.take i).any f=false)(e:ss[i]? = some x)(h:f x=false):(ss.take (i+1)).any f=false:=by
 rw [take_snoc e,aBH,no,aAC,h]
 rfl
theorem yR {ss:List Int}{f:Int->Bool}{i:Nat}{x:Int}(e:ss[i]? = some x)(h:f x=true):ss.any f=true:=Zo.mpr ⟨x,Yy e,h⟩
def JV:Sp:=fun vs H Q _=>∃ (a:Addr) (ss:List Int) (o e:Int),vs=[.ref a,.int o,.int e]/\H a=some (.lst (Is ss))/\0<=e/\e<64/\Q (.bl (zB ss o e)) H
def JP:Sp:=fun vs H Q _=>∃ (a:Addr) (ss:List Int),vs=[.ref a]/\H a=some (.lst (Is ss))/\Q (.bl (wJ ss)) H
def d8 (S:Sk)(n:Nat):List Int:=(six n).filter (bY S)
theorem iR {S:Sk}{n:Nat}{k:Int}:qL (.int k) (Is (d8 S n))=true↔(0<=k/\k<(n:Int))/\bY S k=true:=by
 rw [gU];unfold d8;rw [ZX];refine ⟨fun h=>⟨dH h.1,h.2⟩,fun h=>⟨?_,h.2⟩⟩;unfold six;exact ZW.mpr ⟨k.toNat,ZZ.mpr (by omega),by omega⟩
theorem Ka {S:Sk}{n:Nat}{k:Int}(h0:0<=k)(h1:k<(n:Int))(h:bY S k=false):qL (.int k) (Is (d8 S n))=false:=by
 cases e:qL (.int k) (Is (d8 S n)) with
 | false=>rfl
 | true=>rw [(iR.mp e).2] at h; cases h
theorem Ab {S:Sk}{n:Nat}{k:Int}(h:k∈d8 S n):(0<=k/\k<(n:Int))/\bY S k=true:=iR.mp (gU.mpr h)
theorem Dc {S:Sk}{n:Nat}(h:n<=64):Np (d8 S n):=⟨Y7 (Ze _ _) (by unfold six; rw [YQ,Z4]; exact h),fun x hx=>by have:=(Ab hx).1; omega⟩
theorem Jq {o b:Int}(hb6:b∈six 6)(h:hb o b=true):b∈eQ o:=ZX.mpr ⟨hb6,h⟩
section
variable {S:Sk}{m:Nat}
theorem yO (m6:m<=6):2^m<=64:=Y7 (Zy (by decide) m6) (by decide)
theorem Hd:qL (.int 0) (Is (d8 S (2^m)))=bY S 0:=by
 have hp:(0:Int)<((2^m:Nat):Int):=by exact_mod_cast aAG (n:=m) (by decide:0<2)
 cases e:bY S 0 with
 | false=>exact Ka (by decide) hp e
 | true=>exact iR.mpr ⟨⟨by decide,hp⟩,e⟩
end
end TP
namespace TH
open PySem L2 TD TP TG
structure Kh (J:(Int->Bool)->Prop):Prop where
 e:∀ {G:Int->Bool},(∀ x∈six 6,G x=false)->J G
 dn:∀ {A B:Int->Bool},J B->(∀ x∈six 6,A x=true->B x=true)->J A
 mr:∀ {G I:Int->Bool},J G->J I->(six 6).countP G<(six 6).countP I->∃ b∈six 6,I b=true/\G b=false/\J (put G b)
section
variable {J:(Int->Bool)->Prop}{w:Int->Rat}
structure Cr (J:(Int->Bool)->Prop)(w:Int->Rat)(P:List Int)(G:Int->Bool):Prop where
 ind:J G
 sub:∀ x∈six 6,G x=true->x∈P/\0<w x
 max:∀ b∈P,b∈six 6->0<w b->G b=false->¬ J (put G b)
theorem Cr.nil (mt:Kh J){G:Int->Bool}(e:∀ x∈six 6,G x=false):Cr J w [] G:=⟨mt.e e,(fun x hx z=>by rw [e x hx] at z; cases z),fun b h=>nomatch h⟩
theorem Cr.take (mt:Kh J){P:List Int}{G G':Int->Bool}{b:Int}(h:Cr J w P G)(hw:0<w b)(e:∀ x∈six 6,G' x=put G b x)(i:J G'):Cr J w (P++[b]) G':=by
 refine ⟨i,fun x hx z=>?_,fun d hd d6 dw z j=>?_⟩
 ·rw [e x hx] at z;unfold put at z;rw [Zv] at z;rcases z with z | z
  ·exact ⟨ZQ _ (h.sub x hx z).1,(h.sub x hx z).2⟩
  ·have:x=b:=by simpa using z
   subst this;exact ⟨Yb _ (YT.mpr rfl),hw⟩
 ·rw [e d d6] at z;unfold put at z;rw [Bool.or_eq_false_iff] at z;rcases Ye.mp hd with y | y
  ·refine h.max d y d6 dw z.1 (mt.dn j fun x hx t=>?_);unfold put at t ⊢;rw [Zv] at t ⊢;rcases t with t | t
   ·left
    rw [e x hx];unfold put;rw [t]
    rfl
   ·exact .inr t
  ·have:d=b:=YT.mp y;subst this;simp at z
theorem Cr.skip {P:List Int}{G:Int->Bool}{b:Int}(h:Cr J w P G)(no:0<w b->b∈six 6->G b=false->¬ J (put G b)):Cr J w (P++[b]) G:=by
 refine ⟨h.ind,fun x hx z=>⟨ZQ _ (h.sub x hx z).1,(h.sub x hx z).2⟩,fun d hd d6 dw z=>?_⟩;rcases Ye.mp hd with y | y
 ·exact h.max d y d6 dw z
 ·have:d=b:=YT.mp y;subst this;exact no dw d6 z
theorem Cr.rank (mt:Kh J){P:List Int}{G I:Int->Bool}(h:Cr J w P G)(hI:J I)(s:∀ x∈six 6,I x=true->x∈P/\0<w x):(six 6).countP I<=(six 6).countP G:=by
 by_cases z:(six 6).countP G<(six 6).countP I
 ·obtain ⟨b,b6,bI,bG,j⟩:=mt.mr h.ind hI z;exact absurd j (h.max b (s b b6 bI).1 b6 (s b b6 bI).2 bG)
 ·omega
inductive Run (J:(Int->Bool)->Prop)(w:Int->Rat):List Int->(Int->Bool)->Prop
 | nil {G:Int->Bool} (e:∀ x∈six 6,G x=false):Run J w [] G
 | take {P:List Int}{G G':Int->Bool}{b:Int} (h:Run J w P G) (hw:0<w b) (e:∀ x∈six 6,G' x=put G b x) (i:J G'):Run J w (P++[b]) G'
 | skip {P:List Int}{G:Int->Bool}{b:Int} (h:Run J w P G) (no:¬ (0<w b/\J (put G b))):Run J w (P++[b]) G
theorem Run.gdy (mt:Kh J){P:List Int}{G:Int->Bool}(h:Run J w P G):Cr J w P G:=by
 induction h with
 | nil e=>exact .nil mt e
 | take h hw e i ih=>exact ih.take mt hw e i
 | skip h no ih=>exact ih.skip fun hw _ _ j=>no ⟨hw,j⟩
theorem Run.best (mt:Kh J){P:List Int}{G:Int->Bool}(h:Run J w P G):P.Nodup->(∀ x∈P,x∈six 6)->P.Pairwise (fun a b=>w b<=w a)->∀ (t:Rat),(∀ b∈P,0<w b->t<=w b)->∀ I,J I->(∀ x∈six 6,I x=true->x∈P/\0<w x)->sw (fun b=>w b-t) I P<=sw (fun b=>w b-t) G P:=by
 have key:∀ {P:List Int}{b:Int}{G G':Int->Bool},Cr J w (P++[b]) G'->(∀ x∈P,G' x=G x)->(∀ x∈six 6,G x=true->x∈P)->(P.Nodup->(∀ x∈P,x∈six 6)->P.Pairwise (fun a b=>w b<=w a)->∀ (t:Rat),(∀ b∈P,0<w b->t<=w b)->∀ I,J I->(∀ x∈six 6,I x=true->x∈P/\0<w x)->sw (fun b=>w b-t) I P<=sw (fun b=>w b-t) G P) ->
   (P++[b]).Nodup->(∀ x∈P++[b],x∈six 6)->(P++[b]).Pairwise (fun a b=>w b<=w a)->∀ (t:Rat),(∀ d∈P++[b],0<w d->t<=w d)->∀ I,J I->(∀ x∈six 6,I x=true->x∈P++[b]/\0<w x)->sw (fun b=>w b-t) I (P++[b])<=sw (fun b=>w b-t) G' (P++[b]):=by
  intro P b G G' gd eG sG ih nd p6 so t ht I hI sI;have b6:=p6 b (Yb _ (YT.mpr rfl));obtain ⟨n1,n2,n3⟩:=aAv.mp nd;obtain ⟨o1,o2,o3⟩:=ZG.mp so;have nb:b∉P:=fun z=>n3 b z b (YT.mpr rfl) rfl;have pp6:∀ x∈P,x∈six 6:=fun x hx=>p6 x (ZQ _ hx);have eP:∀ (u:Rat),sw (fun x=>w x-u) G' P=sw (fun x=>w x-u) G P:=fun u=>sw_eq eG
  by_cases wb:0<w b
  ·let I':Int->Bool:=fun x=>I x&&!(x==b)
   have hI':J I':=mt.dn hI fun x _ e=>by
    have e:(I x&&!(x==b))=true:=e;rw [Yh] at e;exact e.1
   have sI':∀ x∈six 6,I' x=true->x∈P/\0<w x:=fun x hx e=>by
    have e:(I x&&!(x==b))=true:=e;rw [Yh] at e;obtain ⟨q1,q2⟩:=sI x hx e.1;refine ⟨?_,q2⟩;rcases Ye.mp q1 with z | z
    ·exact z
    ·have:x=b:=YT.mp z;subst this;simp at e
   have h1:=ih n1 pp6 o1 (w b) (fun d hd _=>o3 d hd b (YT.mpr rfl)) I' hI' sI';have eI:∀ (u:Rat),sw (fun x=>w x-u) I P=sw (fun x=>w x-u) I' P:=fun u=>sw_eq fun x hx=>by
    show I x=(I x&&!(x==b))
    have:(x==b)=false:=by
     have:x≠b:=fun z=>nb (z ▸ hx)
     simpa using this
    rw [this];simp
   have rk:=gd.rank mt hI sI;rw [wW nd p6 (fun x hx e=>(sI x hx e).1),wW nd p6 (fun x hx e=>(gd.sub x hx e).1)] at rk;rw [pO w I t (w b),pO w G' t (w b),pG,pG,eI,eP];have z1:(if I b=true then w b-w b else 0)=0:=by split <;> grind
   have z2:(if G' b=true then w b-w b else 0)=0:=by split <;> grind
   rw [z1,z2];have tb:=ht b (Yb _ (YT.mpr rfl)) wb;have rk2:(((P++[b]).countP I:Nat):Rat)<=(((P++[b]).countP G':Nat):Rat):=by exact_mod_cast rk
   have:=Z_ rk2 (show 0<=w b-t by grind)
   grind
  ·have i0:I b=true->False:=fun z=>wb (sI b b6 z).2;have g0:G' b=true->False:=fun z=>wb (gd.sub b b6 z).2;rw [pG,pG,if_neg i0,if_neg g0,eP];have:=ih n1 pp6 o1 t (fun d hd=>ht d (ZQ _ hd)) I hI fun x hx e=>by
    obtain ⟨q1,q2⟩:=sI x hx e;refine ⟨?_,q2⟩;rcases Ye.mp q1 with z | z
    ·exact z
    ·have:x=b:=YT.mp z;subst this;exact absurd q2 wb
   grind
 induction h with
 | nil e=>intro _ _ _ t _ I _ _; exact Rat.le_refl
 | @take P G G' b h hw e i ih =>
  intro nd p6 so;have gd:=(Run.take h hw e i).gdy mt;have gP:=h.gdy mt;obtain ⟨n1,n2,n3⟩:=aAv.mp nd;refine key gd (fun x hx=>?_) (fun x hx z=>(gP.sub x hx z).1) ih nd p6 so;rw [e x (p6 x (ZQ _ hx))];unfold put;have:(x==b)=false:=by
   have:x≠b:=fun z=>n3 x hx b (YT.mpr rfl) z
   simpa using this
  rw [this];simp
 | @skip P G b h no ih =>
  intro nd p6 so;have gd:=(Run.skip h no).gdy mt;have gP:=h.gdy mt;exact key gd (fun x _=>rfl) (fun x hx z=>(gP.sub x hx z).1) ih nd p6 so
theorem Run.top (mt:Kh J){P:List Int}{G I:Int->Bool}(h:Run J w P G)(nd:P.Nodup)(p6:∀ x∈P,x∈six 6)(so:P.Pairwise (fun a b=>w b<=w a))(hI:J I)(s:∀ x∈six 6,I x=true->x∈P):sw w I P<=sw w G P:=by
 have e0:(fun b=>w b-0)=w:=by funext b; grind
 have z:=h.best mt nd p6 so 0 (fun b _ hb=>aBx hb) (fun x=>I x&&decide (0<w x)) (mt.dn hI fun x _ e=>by rw [Yh] at e; exact e.1) fun x hx e=>by
  rw [Yh] at e;exact ⟨s x hx e.1,of_decide_eq_true e.2⟩
 rw [e0] at z;refine Rat.le_trans (JH fun b _=>?_) z;cases I b with
 | false=>simp
 | true =>
  by_cases hb:0<w b
  ·simp [hb]
  ·simp [hb]
   grind
end
end TH
namespace TH
open PySem L2 TD TP TG
open Builtin.Int (intBits)
theorem Jd:∀ (k l:Fin 64),(∀ x∈six 6,hb ((k.val:Nat):Int) x=hb ((l.val:Nat):Int) x)->k=l:=by decide +kernel
theorem FN {k l:Int}(k0:0<=k)(k1:k<64)(l0:0<=l)(l1:l<64)(h:∀ x∈six 6,hb k x=hb l x):k=l:=by
 have e:=Jd ⟨k.toNat,by omega⟩ ⟨l.toNat,by omega⟩;simp only [show ((k.toNat:Nat):Int)=k by omega,show ((l.toNat:Nat):Int)=l by omega] at e;have:=congrArg Fin.val (e h);have:k.toNat=l.toNat:=this;omega
theorem Im:∀ (k:Fin 64) (b:Fin 6),hb ((k.val:Nat):Int) ((b.val:Nat):Int)=true->∀ x∈six 6,hb (((k.val:Nat):Int)-1*2^b.val) x=(hb ((k.val:Nat):Int) x&&!(x==((b.val:Nat):Int))):=by decide +kernel
theorem Dr {k b:Int}(k0:0<=k)(k1:k<64)(hb6:b∈six 6)(h:hb k b=true):∀ x∈six 6,hb (k-1*2^b.toNat) x=(hb k x&&!(x==b)):=by
 have r:=dH hb6;have e:=Im ⟨k.toNat,by omega⟩ ⟨b.toNat,by omega⟩;simp only [show ((k.toNat:Nat):Int)=k by omega,show ((b.toNat:Nat):Int)=b by omega] at e;exact e h
theorem vD (k:Int):(eQ k).length=(six 6).countP (hb k):=by unfold eQ; rw [aAe]
theorem jR {A B:Int->Bool}:∀ {l:List Int},(∀ x∈l,A x=true->B x=true)->∀ {x:Int},x∈l->B x=true->A x=false->l.countP A<l.countP B
 | [],_,x,hx,_,_=>nomatch hx
 | y::l,s,x,hx,bx,ax=>by
  have mono:l.countP A<=l.countP B:=aBd fun z hz h=>s z (Y8 _ hz) h;rw [aAa,aAa];rcases Yn.mp hx with e | e
  ·subst e;rw [if_neg (by rw [ax]; decide),if_pos bx];omega
  ·have:=jR (fun z hz h=>s z (Y8 _ hz) h) e bx ax;have h:=s y Yg;cases a:A y with
   | false=>rw [if_neg (by decide)]; split <;> omega
   | true=>rw [if_pos rfl,if_pos (h a)]; omega
def JS (S:Sk)(m:Nat)(A:Int->Bool):Prop:=∃ k:Int,0<=k/\k<((2^m:Nat):Int)/\bY S k=true/\∀ x∈six 6,A x=hb k x
structure fM (S:Sk)(m:Nat):Prop where
 z:bY S 0=true
 ls:wJ (d8 S (2^m))=false
 sk:Ce (d8 S (2^m))=false
section
variable {S:Sk}{m:Nat}
theorem fM.less (f:fM S m)(m6:m<=6){k b:Int}(k0:0<=k)(k1:k<((2^m:Nat):Int))(hk:bY S k=true)(hb6:b∈six 6)(h:hb k b=true):0<=k-1*2^b.toNat/\k-1*2^b.toNat<((2^m:Nat):Int)/\bY S (k-1*2^b.toNat)=true:=by
 have hp:=yO m6;have lo:=low k0 (by omega) (Jq hb6 h);refine ⟨lo.1,by omega,?_⟩;have ls:=f.ls;unfold wJ at ls;rw [Zx] at ls;have a:=ls k (gU.mp (iR.mpr ⟨⟨k0,k1⟩,hk⟩));have a:P0 (d8 S (2^m)) k=false:=by simpa using a
 unfold P0 at a;rw [Zx] at a;have b':=a b hb6;unfold lF at b';rw [h,aBn] at b';have c:qL (.int (k-1*2^b.toNat)) (Is (d8 S (2^m)))=true:=by
  cases e:qL (.int (k-1*2^b.toNat)) (Is (d8 S (2^m))) with
  | true=>rfl
  | false=>rw [e] at b'; exact absurd rfl b'
 exact (iR.mp c).2
theorem u6 (f:fM S m)(m6:m<=6):∀ (n:Nat) {A B:Int->Bool},(six 6).countP B<=(six 6).countP A+n->JS S m B->(∀ x∈six 6,A x=true->B x=true)->JS S m A
 | 0,A,B,hn,⟨k,k0,k1,hk,e⟩,s=>by
  refine ⟨k,k0,k1,hk,fun x hx=>?_⟩;rw [<- e x hx];cases a:A x with
  | true=>exact (s x hx a).symm
  | false =>
   cases b:B x with
   | false=>rfl
   | true =>
    exfalso;have:(six 6).countP A<(six 6).countP B:=jR s hx b a;omega
 | n+1,A,B,hn,⟨k,k0,k1,hk,e⟩,s=>by
  by_cases z:∃ x∈six 6,B x=true/\A x=false
  ·obtain ⟨x,hx,bx,ax⟩:=z;have hkx:hb k x=true:=by rw [<- e x hx]; exact bx
   have hp:=yO m6;obtain ⟨l0,l1,l2⟩:=f.less m6 k0 k1 hk hx hkx;have ob:=Dr k0 (by omega) hx hkx;refine u6 f m6 n (B:=fun y=>B y&&!(y==x)) ?_ ⟨_,l0,l1,l2,fun y hy=>by show (B y&&!(y==x))=_; rw [ob y hy,e y hy]⟩ fun y hy a=>?_
   ·have:(six 6).countP (fun y=>B y&&!(y==x))<(six 6).countP B:=jR (A:=fun y=>B y&&!(y==x)) (fun y _ h=>by rw [Yh] at h; exact h.1) hx bx (by simp);omega
   ·rw [Yh];refine ⟨s y hy a,?_⟩;have:y≠x:=fun z=>by rw [z,ax] at a; cases a
    simpa using this
  ·refine ⟨k,k0,k1,hk,fun x hx=>?_⟩;rw [<- e x hx];cases a:A x with
   | true=>exact (s x hx a).symm
   | false =>
    cases b:B x with
    | false=>rfl
    | true=>exact absurd ⟨x,hx,b,a⟩ z
theorem wI {I:Int->Bool}:∀ (n c:Nat),(six 6).countP I=c+n->∃ A:Int->Bool,(∀ x∈six 6,A x=true->I x=true)/\(six 6).countP A=c
 | 0,c,h=>⟨I,fun _ _ z=>z,h⟩
 | n+1,c,h=>by
  obtain ⟨A,s,a⟩:=wI (I:=I) n (c+1) (by omega);have pos:0<(six 6).countP A:=by omega
  obtain ⟨b,hb1,ab⟩:=List.countP_pos_iff.mp pos;refine ⟨fun y=>A y&&!(y==b),fun x hx z=>?_,?_⟩
  ·rw [Yh] at z;exact s x hx z.1
  ·have h1:(six 6).countP (fun y=>A y&&!(y==b))<(six 6).countP A:=jR (A:=fun y=>A y&&!(y==b)) (fun y _ h=>by rw [Yh] at h; exact h.1) hb1 ab (by simp);have h2:=Ip (p:=fun y=>A y&&!(y==b)) (b:=b) UL;have h3:(six 6).countP A<=(six 6).countP (put (fun y=>A y&&!(y==b)) b):=aBd fun x _ hx=>by
    unfold put
    by_cases e:x=b
    ·subst e; simp
    ·simp [hx,e]
   omega
theorem fM.mtr (f:fM S m)(m6:m<=6):Kh (JS S m):=by
 have hp:=yO m6;have pp:0<2^m:=aAG (by decide);refine ⟨fun {G} h=>⟨0,by decide,by omega,f.z,fun x hx=>by rw [h x hx]; exact (TP.GR x).symm⟩,fun {A B} hB s=>u6 f m6 ((six 6).countP B) (by omega) hB s,fun {G I} hG hI lt=>?_⟩;obtain ⟨A,sA,cA⟩:=wI (I:=I) ((six 6).countP I-((six 6).countP G+1)) ((six 6).countP G+1) (by omega);obtain ⟨o,o0,o1,ho,eo⟩:=u6 f m6 ((six 6).countP I) (A:=A) (by omega) hI sA;obtain ⟨g,g0,g1,hg,eg⟩:=hG;have so:(eQ o).length=(eQ g).length+1:=by
  have c1:(six 6).countP (hb o)=(six 6).countP A:=aAX fun x hx=>by rw [eo x hx]
  have c2:(six 6).countP (hb g)=(six 6).countP G:=aAX fun x hx=>by rw [eg x hx]
  rw [vD,vD,c1,c2];exact cA
 have sk:=f.sk;unfold Ce at sk;rw [Zx] at sk;have a:=sk o (gU.mp (iR.mpr ⟨⟨o0,o1⟩,ho⟩));have a:HW (d8 S (2^m)) o=false:=by simpa using a
 unfold HW at a;rw [Zx] at a;have b:=a g (gU.mp (iR.mpr ⟨⟨g0,g1⟩,hg⟩));unfold sF at b;rw [decide_eq_true (by rw [so]; push_cast; rfl),aBn] at b;have c:zB (d8 S (2^m)) o g=true:=by
  cases e:zB (d8 S (2^m)) o g with
  | true=>rfl
  | false=>rw [e] at b; exact absurd rfl b
 obtain ⟨x,hx,h1⟩:=Zo.mp c;unfold gF at h1;rw [Yh,Yh] at h1;obtain ⟨⟨r0,r1⟩,rm⟩:=iR.mp h1.2.2;refine ⟨x,hx,sA x hx (by rw [eo x hx]; exact h1.1),by rw [eg x hx]; simpa using h1.2.1,_,r0,r1,rm,fun y hy=>?_⟩;have z:=FT ⟨g.toNat,by omega⟩ x hx y hy;simp only [show ((g.toNat:Nat):Int)=g by omega] at z;rw [z];unfold put;rw [eg y hy]
end
end TH
namespace Mr
open PySem PyProof.Rows
def KR (R:Keyed->Int)(xs:Array Keyed)(i:Nat):Int:=match xs[i]? with
 | some p=>R p
 | none=>0
theorem jE {R:Keyed->Int}{xs ys:Array Keyed}{i j:Nat}(h:xs[i]? = ys[j]?):KR R xs i=KR R ys j:=by unfold KR; rw [h]
theorem zP {R:Keyed->Int}{xs:Array Keyed}{i:Nat}(h:i<xs.size):KR R xs i=R xs[i]:=by unfold KR; rw [getElem?_pos xs i h]
theorem sS {R:Keyed->Int}{xs:Array Keyed}{src d:Nat}(hs:src<xs.size)(hd:d<=src)(k:Nat) :
  KR R (bubble xs src d) k=if k=src-d then KR R xs src else if src-d<k/\k<=src then KR R xs (k-1) else KR R xs k:=by
 have e:=getElem?_bubble hs d hd k
 by_cases h1:k=src-d
 ·rw [if_pos h1] at e ⊢; exact jE e
 ·rw [if_neg h1] at e ⊢
  by_cases h2:src-d<k/\k<=src
  ·rw [if_pos h2] at e ⊢; exact jE e
  ·rw [if_neg h2] at e ⊢; exact jE e
theorem mO {R:Keyed->Int}{xs:Array Keyed}{i j:Nat}(hj:j<=xs.size)(k:Nat) :
  KR R (mirror xs i j ((j-i)/2)) k=if i<=k/\k<j then KR R xs (i+j-1-k) else KR R xs k:=by
 have e:=getElem?_mirror_all (i:=i) hj k
 by_cases h1:i<=k/\k<j
 ·rw [if_pos h1] at e ⊢; exact jE e
 ·rw [if_neg h1] at e ⊢; exact jE e
theorem cQ {R:Keyed->Int}{xs:Array Keyed}{i j:Nat}(hj:j<=xs.size)(heq:∀ k,i<=k->k<j->KR R xs k=KR R xs (j-1))(k:Nat) :
  KR R (mirror xs i j ((j-i)/2)) k=KR R xs k:=by
 rw [mO hj]
 split
 ·rw [heq _ (by omega) (by omega),heq k (by omega) (by omega)]
 ·rfl
def J1 (prog:Program)(w:World)(A:Around)(E:Value->Shared->Prop)(s:Shared)(κ:SortKind)(R:Keyed->Int)(a₀:Array Keyed):Prop :=
 ∀ p q,p∈a₀.toList->q∈a₀.toList->∀ (st:SortSt) (Q:Option Bool->SortSt->Prop),kindOf st = κ->Q (some (decide (R p<R q))) st->wpS (model prog w) A E s (lt' p q) Q st
structure SC (κ:SortKind)(a₀ pre:Array Keyed)(lo:Nat)(pn:Array (Nat×Nat×Nat))(st:SortSt):Prop where
 perm:(arrOf st).Perm a₀
 kind:kindOf st = κ
 failed:failedOf st=none
 pend:pendingOf st=pn
 keep:∀ i,i<lo->(arrOf st)[i]? = pre[i]?
def kZ (R:Keyed->Int)(xs:Array Keyed)(lo n:Nat):Prop:=∀ i j,lo<=i->i<=j->j<lo+n->KR R xs i<=KR R xs j
def BX (R:Keyed->Int)(xs:Array Keyed)(lo n:Nat):Prop:=∀ i j,lo<=i->i<=j->j<lo+n->KR R xs j<=KR R xs i
section
variable {κ:SortKind}{a₀ pre:Array Keyed}{lo:Nat}{pn:Array (Nat×Nat×Nat)}{st:SortSt}
theorem SC.size (h:SC κ a₀ pre lo pn st):(arrOf st).size=a₀.size:=h.perm.size_eq
theorem SC.mir (h:SC κ a₀ pre lo pn st){i j:Nat}(hi:lo<=i)(hj:j<=a₀.size):SC κ a₀ pre lo pn (setArr st (mirror (arrOf st) i j ((j-i)/2))) :=
 ⟨(mirror_perm _ _ _ _).trans h.perm,h.kind,h.failed,h.pend,fun k hk=>by
  show (mirror (arrOf st) i j ((j-i)/2))[k]? = _;rw [getElem?_mirror_all (by rw [h.size]; exact hj),if_neg (by omega)];exact h.keep k hk⟩
theorem SC.bub (h:SC κ a₀ pre lo pn st){src d:Nat}(hs:src<a₀.size)(hd:lo+d<=src):SC κ a₀ pre lo pn (setArr st (bubble (arrOf st) src d)) :=
 ⟨(bubble_perm _ _ _).trans h.perm,h.kind,h.failed,h.pend,fun k hk=>by
  show (bubble (arrOf st) src d)[k]? = _;rw [getElem?_bubble (by rw [h.size]; exact hs) d (by omega),if_neg (by omega),if_neg (by omega)];exact h.keep k hk⟩
end
section
variable {prog:Program}{w:World}{A:Around}{E:Value->Shared->Prop}{s:Shared}{κ:SortKind}{R:Keyed->Int}{a₀ pre:Array Keyed}{lo:Nat}{pn:Array (Nat×Nat×Nat)}{st:SortSt}
theorem dM {i j:Nat}{Q:Option Bool->SortSt->Prop}(hB:SC κ a₀ pre lo pn st)(h0:J1 prog w A E s κ R a₀)(hi:i<a₀.size)(hj:j<a₀.size)
  (h:Q (some (decide (KR R (arrOf st) i<KR R (arrOf st) j))) st):wpS (model prog w) A E s (ltAt' i j) Q st:=by
 have hi':i<(arrOf st).size:=by rw [hB.size]; exact hi
 have hj':j<(arrOf st).size:=by rw [hB.size]; exact hj
 have mi:(arrOf st)[i]∈a₀.toList:=(Zb.mp hB.perm).mem_iff.mp (by simp);have mj:(arrOf st)[j]∈a₀.toList:=(Zb.mp hB.perm).mem_iff.mp (by simp);rw [ltAt'_eq];refine wpS_bind (wpS_get ?_);refine wpS_bind (Mg.bM hi' (wpS_bind (Mg.bM hj' ?_)));rw [zP hi',zP hj'] at h;exact h0 _ _ mi mj st Q hB.kind h
theorem lL {n ok:Nat}{Q:Bool->SortSt->Prop}(h0:J1 prog w A E s κ R a₀)(hn:lo+n<=a₀.size)(hok:ok<=n)(hB:SC κ a₀ pre lo pn st)(hs:kZ R (arrOf st) lo ok)
  (h:∀ st',SC κ a₀ pre lo pn st'->kZ R (arrOf st') lo n->Q true st'):wpS (model prog w) A E s (binarySort' lo n ok) Q st:=by
 rw [binarySort'_eq];refine wpS_bind (wpS_mono (wpS_forRange (I:=fun k c st'=>c=(none,())/\SC κ a₀ pre lo pn st'/\kZ R (arrOf st') lo (min k n))
  (Q:=fun c st'=>c=(none,())/\SC κ a₀ pre lo pn st'/\kZ R (arrOf st') lo n) ?step ?fin ?init) ?post)
 case post =>
  rintro c st' ⟨rfl,hB',hs'⟩;exact wpS_pure (h st' hB' hs')
 case init =>
  refine ⟨rfl,hB,fun i j hi hij hj=>?_⟩
  by_cases h1:ok=0
  ·have:i=j:=by omega
   subst this; exact Y_ _
  ·exact hs i j hi hij (by omega)
 case fin =>
  rintro c st' ⟨hc,hB',hs'⟩;refine ⟨hc,hB',?_⟩
  rwa [show min (max (max ok 1) n) n=n by omega] at hs'
 case step =>
  rintro k c st' hak hkn ⟨rfl,hB',hs'⟩;rw [show min k n=k by omega] at hs';have hk:lo+k<a₀.size:=by omega
  refine wpS_bind (wpS_mono (wpS_forRange (I:=fun x c st''=>st''=st'/\∃ l r,c=(none,l,r)/\l<=r/\r<=k/\r-l<=k-x ∧
    (∀ i,lo<=i->i<lo+l->KR R (arrOf st') i<=KR R (arrOf st') (lo+k))/\(∀ i,lo+r<=i->i<lo+k->KR R (arrOf st') (lo+k)<KR R (arrOf st') i))
   (Q:=fun c st''=>st''=st'/\∃ l r,c=(none,l,r)/\l<=k ∧
    (∀ i,lo<=i->i<lo+l->KR R (arrOf st') i<=KR R (arrOf st') (lo+k))/\(∀ i,lo+l<=i->i<lo+k->KR R (arrOf st') (lo+k)<KR R (arrOf st') i)) ?istep ?ifin ?iinit) ?ipost)
  case iinit=>exact ⟨rfl,0,k,rfl,by omega,by omega,by omega,fun i hi=>by omega,fun i h1 h2=>by omega⟩
  case ifin =>
   rintro c st'' ⟨rfl,l,r,rfl,hlr,hrk,hm,hlo,hhi⟩;have:l=r:=by omega
   subst this;exact ⟨rfl,l,l,rfl,hrk,hlo,hhi⟩
  case istep =>
   rintro x c st'' _ hxk ⟨rfl,l,r,rfl,hlr,hrk,hm,hlo,hhi⟩;dsimp only
   by_cases hge:l ≥ r
   ·rw [if_pos hge];have:l=r:=by omega
    subst this;exact wpS_pure ⟨rfl,l,l,rfl,hrk,hlo,hhi⟩
   ·rw [if_neg hge];refine wpS_bind (dM hB' h0 hk (by omega) ?_)
    by_cases hless:KR R (arrOf st'') (lo+k)<KR R (arrOf st'') (lo+(l+r)/2)
    ·simp only [hless,decide_true,if_true];refine wpS_pure ⟨rfl,l,(l+r)/2,rfl,by omega,by omega,by omega,hlo,fun i h1 h2=>?_⟩;exact aBt hless (hs' _ _ (by omega) h1 (by omega))
    ·simp only [hless,decide_false,Y6,if_false];refine wpS_pure ⟨rfl,(l+r)/2+1,r,rfl,by omega,by omega,by omega,fun i h1 h2=>?_,hhi⟩;exact Yr (hs' i (lo+(l+r)/2) h1 (by omega) (by omega)) (aAS.mp hless)
  case ipost =>
   rintro c st'' ⟨rfl,l,r,rfl,hlk,hlo,hhi⟩;show wpS _ _ _ _ (do moveDown' (lo+k) (lo+l); pure (ForInStep.yield (none,()))) _ _;rw [moveDown'_eq];refine wpS_bind (wpS_modify (wpS_pure ⟨rfl,hB'.bub hk (by omega),?_⟩));rw [show min (k+1) n=k+1 by omega];have hks:lo+k<(arrOf st'').size:=by rw [hB'.size]; exact hk
   intro i j hi hij hj;show KR R (bubble (arrOf st'') (lo+k) (lo+k-(lo+l))) i<=KR R (bubble (arrOf st'') (lo+k) (lo+k-(lo+l))) j;rw [sS hks (by omega),sS hks (by omega),show lo+k-(lo+k-(lo+l))=lo+l by omega]
   repeat' split
   all_goals first
    | (exfalso; omega)
    | exact Y_ _
    | exact hlo _ (by omega) (by omega)
    | exact Yt (hhi _ (by omega) (by omega))
    | exact hs' _ _ (by omega) (by omega) (by omega)
theorem iY {a nrem:Nat}{Q:AscSt->SortSt->Prop}(h0:J1 prog w A E s κ R a₀)(hn:lo+nrem<=a₀.size)(ha:1<=a)(han:a<=nrem)(hB:SC κ a₀ pre lo pn st)(hs:kZ R (arrOf st) lo a)
  (h:∀ n,a<=n->n<=nrem->kZ R (arrOf st) lo n->(n=nrem∨KR R (arrOf st) (lo+n)<KR R (arrOf st) (lo+n-1))->Q (none,n) st):wpS (model prog w) A E s (Mg.uE lo a nrem) Q st:=by
 unfold Mg.uE;refine wpS_forRange (I:=fun x c st'=>st'=st/\c=(none,x)/\kZ R (arrOf st) lo x) ?step ?fin ⟨rfl,rfl,hs⟩
 case fin =>
  rintro c st' ⟨rfl,rfl,hs'⟩;rw [show max a nrem=nrem by omega] at hs' ⊢;exact h nrem han (YS _) hs' (.inl rfl)
 case step =>
  rintro x c st' hax hxn ⟨rfl,rfl,hs'⟩;dsimp only;refine wpS_bind (dM hB h0 (by omega) (by omega) ?_)
  by_cases hless:KR R (arrOf st') (lo+x)<KR R (arrOf st') (lo+x-1)
  ·simp only [hless,decide_true,if_true];exact wpS_pure (h x hax (by omega) hs' (.inr hless))
  ·simp only [hless,decide_false,Y6,if_false];refine wpS_pure ⟨rfl,rfl,fun i j hi hij hj=>?_⟩
   by_cases hjx:j<lo+x
   ·exact hs' i j hi hij hjx
   ·have hj':j=lo+x:=by omega
    subst hj'
    by_cases hi':i=lo+x
    ·subst hi'; exact Y_ _
    ·exact Yr (hs' i (lo+x-1) hi (by omega) (by omega)) (aAS.mp hless)
theorem gJ {n nrem:Nat}{Q:Option Nat->SortSt->Prop}(h0:J1 prog w A E s κ R a₀)(hn:lo+nrem<=a₀.size)(h1:1<=n)(hnn:n<=nrem)(hB:SC κ a₀ pre lo pn st)
  (hs:BX R (arrOf st) lo n) (h:∀ m st',SC κ a₀ pre lo pn st'->1<=m->m<=nrem->kZ R (arrOf st') lo m->Q (some m) st'):wpS (model prog w) A E s (Mg.oE lo n nrem) Q st:=by
 unfold Mg.oE;have hsz:lo+n<=(arrOf st).size:=by rw [hB.size]; omega
 refine wpS_bind (wpS_reverse ?_);have hB':=hB.mir (i:=lo) (j:=lo+n) (YS _) (by omega);refine wpS_bind (iY h0 hn h1 hnn hB' ?_ fun m hm1 hm2 hsm _=>wpS_pure (h m _ hB' (by omega) hm2 hsm));intro i j hi hij hj;show KR R (mirror (arrOf st) lo (lo+n) ((lo+n-lo)/2)) i<=KR R (mirror (arrOf st) lo (lo+n) ((lo+n-lo)/2)) j;rw [mO hsz,mO hsz,if_pos (by omega),if_pos (by omega)];exact hs _ _ (by omega) (by omega) (by omega)
theorem nF {n nrem:Nat}{Q:DescSt->SortSt->Prop}(h0:J1 prog w A E s κ R a₀)(hn:lo+nrem<=a₀.size)(h1:1<=n)(hnn:n<=nrem)(hB:SC κ a₀ pre lo pn st)(hs:BX R (arrOf st) lo n)
  (h:∀ m neq st',SC κ a₀ pre lo pn st'->n<=m->m<=nrem->BX R (arrOf st') lo m->neq+1<=m->(∀ i,lo+m-(neq+1)<=i->i<lo+m->KR R (arrOf st') i=KR R (arrOf st') (lo+m-1))->Q (none,m,neq) st') :
  wpS (model prog w) A E s (Mg.qC lo n nrem) Q st:=by
 unfold Mg.qC;refine wpS_forRange (I:=fun x c st'=>∃ neq,c=(none,x,neq)/\SC κ a₀ pre lo pn st'/\BX R (arrOf st') lo x/\neq+1<=x ∧
   (∀ i,lo+x-(neq+1)<=i->i<lo+x->KR R (arrOf st') i=KR R (arrOf st') (lo+x-1))) ?step ?fin ⟨0,rfl,hB,hs,by omega,fun i h1 h2=>by congr 1; omega⟩
 case fin =>
  rintro c st' ⟨neq,rfl,hB',hs',hq,he⟩;rw [show max n nrem=nrem by omega] at hs' hq he ⊢;exact h nrem neq st' hB' hnn (YS _) hs' hq he
 case step =>
  rintro x c st' hax hxn ⟨neq,rfl,hB',hs',hq,he⟩;dsimp only;have hsz:lo+x<=(arrOf st').size:=by rw [hB'.size]; omega
  refine wpS_bind (dM hB' h0 (by omega) (by omega) ?_)
  by_cases hless:KR R (arrOf st') (lo+x)<KR R (arrOf st') (lo+x-1)
  ·simp only [hless,decide_true,if_true];have step1:∀ xs:Array Keyed,(∀ k,KR R xs k=KR R (arrOf st') k)->BX R xs lo (x+1):=by
    intro xs hk i j hi hij hj;rw [hk,hk]
    by_cases hjx:j<lo+x
    ·exact hs' i j hi hij hjx
    ·have hj':j=lo+x:=by omega
     subst hj'
     by_cases hi':i=lo+x
     ·subst hi'; exact Y_ _
     ·exact Yr (Yt hless) (hs' i (lo+x-1) hi (by omega) (by omega))
   by_cases hneq:neq > 0
   ·rw [if_pos hneq];refine wpS_bind (wpS_reverse (wpS_pure ⟨0,rfl,hB'.mir (by omega) (by omega),step1 _ (cQ hsz he),by omega,fun i h1 h2=>by congr 1; omega⟩))
   ·rw [if_neg hneq];exact wpS_pure ⟨0,rfl,hB',step1 _ (fun _=>rfl),by omega,fun i h1 h2=>by congr 1; omega⟩
  ·simp only [hless,decide_false,Y6,if_false];refine wpS_bind (dM hB' h0 (by omega) (by omega) ?_)
   by_cases hlarger:KR R (arrOf st') (lo+x-1)<KR R (arrOf st') (lo+x)
   ·simp only [hlarger,decide_true,if_true];exact wpS_pure (h x neq st' hB' hax (by omega) hs' hq he)
   ·simp only [hlarger,decide_false,Y6,if_false];have heqx:KR R (arrOf st') (lo+x)=KR R (arrOf st') (lo+x-1):=by omega
    refine wpS_pure ⟨neq+1,rfl,hB',fun i j hi hij hj=>?_,by omega,fun i h1 h2=>?_⟩
    ·by_cases hjx:j<lo+x
     ·exact hs' i j hi hij hjx
     ·have hj':j=lo+x:=by omega
      subst hj'
      by_cases hi':i=lo+x
      ·subst hi'; exact Y_ _
      ·rw [heqx]; exact hs' i (lo+x-1) hi (by omega) (by omega)
    ·rw [show lo+(x+1)-1=lo+x by omega]
     by_cases hix:i=lo+x
     ·subst hix; rfl
     ·rw [heqx]; exact he i (by omega) (by omega)
theorem lU {n nrem:Nat}{Q:Option Nat->SortSt->Prop}(h0:J1 prog w A E s κ R a₀)(hn:lo+nrem<=a₀.size)(hnn:n+1<=nrem)(hB:SC κ a₀ pre lo pn st)
  (hs:BX R (arrOf st) lo (n+1)) (h:∀ m st',SC κ a₀ pre lo pn st'->1<=m->m<=nrem->kZ R (arrOf st') lo m->Q (some m) st'):wpS (model prog w) A E s (Mg.J6 lo n nrem) Q st:=by
 unfold Mg.J6;refine wpS_bind (wpS_lift (wpAny_rule ⟨rfl,?_⟩));refine wpS_bind (nF h0 hn (by omega) hnn hB hs fun m neq st' hB' hm1 hm2 hs' hq he=>?_);dsimp only;have hsz:lo+m<=(arrOf st').size:=by rw [hB'.size]; omega
 by_cases hneq:neq > 0
 ·rw [if_pos hneq];refine wpS_bind (wpS_reverse (gJ h0 hn (by omega) hm2 (hB'.mir (by omega) (by omega)) ?_ h));intro i j hi hij hj;show KR R (mirror (arrOf st') _ _ _) j<=KR R (mirror (arrOf st') _ _ _) i;rw [cQ hsz he,cQ hsz he];exact hs' i j hi hij hj
 ·rw [if_neg hneq];exact gJ h0 hn (by omega) hm2 hB' hs' h
theorem iK {nrem:Nat}{Q:Option Nat->SortSt->Prop}(h0:J1 prog w A E s κ R a₀)(hn:lo+nrem<=a₀.size)(h1:1<=nrem)(hB:SC κ a₀ pre lo pn st)
  (h:∀ m st',SC κ a₀ pre lo pn st'->1<=m->m<=nrem->kZ R (arrOf st') lo m->Q (some m) st'):wpS (model prog w) A E s (countRun' lo nrem) Q st:=by
 rw [Mg.rW];refine wpS_bind (iY h0 hn (YS 1) h1 hB (fun i j hi hij hj=>by have:i=j:=(by omega); subst this; exact Y_ _) fun n hn1 hn2 hsn hor=>?_);dsimp only
 by_cases hnn:n=nrem
 ·rw [if_pos (by simpa using hnn)];exact wpS_pure (h n st hB hn1 hn2 hsn)
 ·rw [if_neg (by simpa using hnn)];have hlt:KR R (arrOf st) (lo+n)<KR R (arrOf st) (lo+n-1):=hor.resolve_left hnn
  by_cases hgt:n > 1
  ·rw [if_pos hgt];refine wpS_bind (dM hB h0 (by omega) (by omega) ?_)
   by_cases hrose:KR R (arrOf st) lo<KR R (arrOf st) (lo+n-1)
   ·simp only [hrose,decide_true,if_true];exact wpS_pure (h n st hB hn1 hn2 hsn)
   ·simp only [hrose,decide_false,Y6,if_false];have hsz:lo+n<=(arrOf st).size:=by rw [hB.size]; omega
    have hall:∀ k,lo<=k->k<lo+n->KR R (arrOf st) k=KR R (arrOf st) (lo+n-1):=by
     intro k hlk hk;have a1:=hsn lo k (YS _) hlk hk;have a2:=hsn k (lo+n-1) hlk (by omega) (by omega);omega
    refine wpS_bind (wpS_reverse (lU h0 hn (by omega) (hB.mir (YS _) (by omega)) ?_ h));intro i j hi hij hj;show KR R (mirror (arrOf st) _ _ _) j<=KR R (mirror (arrOf st) _ _ _) i;rw [cQ hsz hall,cQ hsz hall]
    by_cases hjn:j<lo+n
    ·rw [hall i hi (by omega),hall j (by omega) hjn]; exact Y_ _
    ·have hj':j=lo+n:=by omega
     subst hj'
     by_cases hi':i=lo+n
     ·subst hi'; exact Y_ _
     ·rw [hall i hi (by omega)]; exact Yt hlt
  ·rw [if_neg hgt];have hn1':n=1:=by omega
   subst hn1';refine lU h0 hn (by omega) hB ?_ h;intro i j hi hij hj
   by_cases hi':i=j
   ·subst hi'; exact Y_ _
   ·have hi0:i=lo:=by omega
    have hj1:j=lo+1:=by omega
    subst hi0; subst hj1;exact Yt hlt
end
section
variable {prog:Program}{w:World}{A:Around}{E:Value->Shared->Prop}{s:Shared}{κ:SortKind}{R:Keyed->Int}{a₀:Array Keyed}
def Dn (κ:SortKind)(R:Keyed->Int)(a₀:Array Keyed)(st:SortSt):Prop:=(arrOf st).Perm a₀/\failedOf st=none/\pendingOf st = #[(0,a₀.size,0)]/\kZ R (arrOf st) 0 a₀.size
theorem CJ {st:SortSt}{Q:Unit->SortSt->Prop}(h0:J1 prog w A E s κ R a₀)(hB:SC κ a₀ a₀ 0 #[] st)(h2:2<=a₀.size)(h64:a₀.size<64)
  (h:∀ st',(arrOf st').Perm a₀->failedOf st'=none->kZ R (arrOf st') 0 a₀.size->Q () st'):wpS (model prog w) A E s sortRuns' Q st:=by
 rw [sortRuns'_eq];refine wpS_bind (wpS_get ?_);dsimp only;have hmr:minRun' a₀.size a₀.size 0=a₀.size:=by
  obtain ⟨f,hf⟩:∃ f,a₀.size=f+1:=⟨a₀.size-1,by omega⟩
  have:minRun' (f+1) a₀.size 0=a₀.size:=by rw [minRun'_succ,if_pos h64]; rfl
  rwa [<- hf] at this
 have dn:∀ st3,SC κ a₀ a₀ 0 #[] st3->kZ R (arrOf st3) 0 a₀.size->Dn κ R a₀ (setPending st3 ((pendingOf st3).push (0,a₀.size,0))):=fun st3 hC hs=>⟨hC.perm,hC.failed,by show (pendingOf st3).push _=_; rw [hC.pend]; rfl,hs⟩
 simp only [hB.size,hmr];refine wpS_bind (wpS_mono (wpS_forRange
  (I:=fun x c st'=>(x=0/\c=(none,0)/\SC κ a₀ a₀ 0 #[] st')∨(1<=x/\c=(none,a₀.size)/\Dn κ R a₀ st'))
  (Q:=fun c st'=>c=(none,a₀.size)/\Dn κ R a₀ st') ?step ?fin (.inl ⟨rfl,rfl,hB⟩)) ?post)
 case fin =>
  rintro c st' (⟨hx,_,_⟩ | ⟨_,hc,hD⟩)
  ·omega
  ·exact ⟨hc,hD⟩
 case step =>
  rintro x c st' _ hx (⟨rfl,rfl,hB'⟩ | ⟨hx1,rfl,hD⟩)
  ·dsimp only;rw [if_neg (by omega)];refine wpS_bind (iK h0 (by omega) (by omega) hB' fun m st2 hB2 hm1 hm2 hs2=>?_);dsimp only
   by_cases hlt:m<a₀.size
   ·rw [if_pos hlt];refine wpS_bind (wpS_lift (wpAny_rule ⟨rfl,?_⟩));have em:min (a₀.size-0) a₀.size=a₀.size:=by omega
    rw [em];refine wpS_bind (lL h0 (by omega) (by omega) hB2 hs2 fun st3 hB3 hs3=>?_);simp only [aAD,Y6,if_false];refine wpS_bind (wpS_get ?_);have hb:(pendingOf st3).back? = none:=by rw [hB3.pend]; rfl
    rw [hb];dsimp only;refine wpS_bind (wpS_modify (wpS_pure (.inr ⟨by omega,by rw [Zm],dn st3 hB3 hs3⟩)))
   ·rw [if_neg hlt];have hm:m=a₀.size:=by omega
    subst hm;refine wpS_bind (wpS_get ?_);have hb:(pendingOf st2).back? = none:=by rw [hB2.pend]; rfl
    rw [hb];dsimp only;exact wpS_bind (wpS_modify (wpS_pure (.inr ⟨by omega,by rw [Zm],dn st2 hB2 hs2⟩)))
  ·dsimp only;rw [if_pos (YS _)];exact wpS_pure ⟨rfl,hD⟩
 case post =>
  rintro c st' ⟨rfl,hD⟩;dsimp only;refine wpS_bind (wpS_mono (wpS_forRange (I:=fun _ c st''=>st''=st'/\c=(none,())) (Q:=fun c st''=>st''=st'/\c=(none,())) ?_ (fun _ _ hh=>hh) ⟨rfl,rfl⟩) ?_)
  ·rintro x c st'' _ _ ⟨rfl,rfl⟩;refine wpS_bind (wpS_get ?_);rw [if_pos (by rw [hD.2.2.1]; exact YS 1)];exact wpS_pure ⟨rfl,rfl⟩
  ·rintro c st'' ⟨rfl,rfl⟩;exact wpS_pure (h _ hD.1 hD.2.1 hD.2.2.2)
end
end Mr
namespace L2
open PySem PySem.Spec PyProof.Rows
section
variable {X:Cx}
def lE (i:Int)(n:Nat):List Int:=(Zi n).map fun (k:Nat)=>i+(k:Int)
end
section
variable {prog:Program}{w:World}{A:Around}{E:Value->Shared->Prop}{s:Shared}
theorem vN {Q:List Value->Shared->Prop}{r:Addr}{a b c:Int}{t u v:Tok}{n:Nat}(hh:A.handled=none)(hr:IsRange s.heap r a b c t u v)(hsmall:Builtin.Range.small a b c=true)
  (hn:Builtin.Range.rangeSize a b c=n) (hlen:n<=2^24)
  (h:∀ h' tk acc,(∀ b o,s.heap.get? b=some o->h'.get? b=some o)->ItemsOf (fun i v=>∃ t,v=.int (a+i*c) t) acc n->Q acc.toList { s with heap:=h',toks:=tk }):wpAny (model prog w) A (collect (.ref r)) Q E s:=by
 unfold collect;refine wpAny_bind (wpAny_runValue (codeAny_builtin F.entry_proto_collect ?_));rw [Around.under_plainId F.plain_proto_collect _];show wpAny _ A.in1 (newList [] >>= fun l=>again (.builtin "list.__iadd__" ⟨[l,.ref r],[]⟩)) _ _ s;have hS₁:(s.heap.push { cls:=.type "list",data:=.seq ([]:List Value).toArray }).get? s.heap.objs.size=some { cls:=.type "list",data:=.seq #[] 0 }:=YZ _ rfl;have go:∀ (R:Result->Shared->Prop),(∀ h' tk acc' c',(∀ b o,b≠s.heap.objs.size->(s.heap.push { cls:=.type "list",data:=.seq ([]:List Value).toArray }).get? b=some o->h'.get? b=some o) ->
   h'.get? s.heap.objs.size=some { cls:=.type "list",dict:=none,data:=.seq acc' c',slots:=#[] }->ItemsOf (fun i v=>∃ t,v=.int (a+i*c) t) acc' n->R (.ok (.ret (.ref s.heap.objs.size))) { s with heap:=h',toks:=tk }) ->
   codeAny (model prog w) A (.builtin "list.__iadd__" ⟨[.ref s.heap.objs.size,.ref r],[]⟩) R { s with heap:=s.heap.push { cls:=.type "list",data:=.seq ([]:List Value).toArray } }:=fun R hR=>by
  refine codeAny_builtin F.entry_list_iadd ?_;rw [Around.under_plainId F.plain_list_iadd _];exact wpAny_extend_range (s:={ s with heap:=s.heap.push { cls:=.type "list",data:=.seq ([]:List Value).toArray } }) (R:=R) hh (YK _ hr) hsmall hn hlen _ _ _ hS₁ fun h' tk acc' c' hk hS' hacc=>hR h' tk acc' c' hk hS' hacc
 refine wpAny_bind (wpAny_newObj_type ?_);refine wpAny_pure ⟨plainId_quiet F.plain_list_iadd _,go _ fun h' tk acc' c' hk hS' hacc=>?_⟩;show wpAny _ A (load s.heap.objs.size >>= _) _ _ _;refine wpAny_bind (wpAny_load hS' ?_);exact wpAny_pure (h h' tk acc' (fun b o e=>hk b o (Yd (YX e)) (YK _ e)) hacc)
def Uq:Value->Value->Int
 | .int a _,.int b _=>a*64+b
 | _,_=>0
def Cu (h:Heap)(v:Value):Int:=match v with
 | .ref q=>match h.get? q with
  | some o=>match o.data with
   | .seq xs _=>Uq (xs.getD 0 .none) (xs.getD 1 .none)
   | _=>0
  | none=>0
 | _=>0
theorem Ft {h:Heap}{q:Addr}{o:Obj}{a b:Int}{t u:Tok}{n:Nat}(e:h.get? q=some o)(d:o.data=.seq #[.int a t,.int b u] n):Cu h (.ref q)=a*64+b:=by
 unfold Cu;dsimp only;rw [e];dsimp only;rw [d]
 rfl
theorem Io {st:SortSt}{p q:Keyed}{x y:Addr}{ox oy:Obj}{a b c d:Int}{t1 t2 t3 t4:Tok}{n k:Nat}{Q:Option Bool->SortSt->Prop}(hk:kindOf st=tuples' true)(ep:p.1=.ref x)(eq:q.1=.ref y)
  (hx:s.heap.get? x=some ox) (dx:ox.data=.seq #[.int a t1,.int b t2] n) (hy:s.heap.get? y=some oy) (dy:oy.data=.seq #[.int c t3,.int d t4] k) (b0:0<=b) (b1:b<64) (d0:0<=d) (d1:d<64)
  (h:Q (some (decide (Cu s.heap p.1<Cu s.heap q.1))) st):wpS (model prog w) A E s (lt' p q) Q st:=by
 rw [ep,eq,Ft hx dx,Ft hy dy] at h;rw [lt'_eq];refine wpS_bind (wpS_get ?_);rw [hk,ep,eq];have key:wpAny (model prog w) A (keyLt' (tuples' true) (.ref x) (.ref y)) (fun r s'=>s'=s/\r=decide (a*64+b<c*64+d)) (fun _ _=>False) s:=by
  refine PySem.W.kat_lt hx dx hy dy ?_;show PySem.W.KatLex prog w A true _ _ [(Value.int a t1,Value.int c t3),(Value.int b t2,Value.int d t4)] 0 s;refine PySem.W.kat_cons (wpAny_eqBool_int ?_);cases e:a==c with
  | false =>
   have ne:a≠c:=by simpa using e
   refine PySem.W.kat_no ?_;refine oneLt_int ⟨rfl,?_⟩
   by_cases z:a<c
   ·rw [decide_eq_true z,decide_eq_true (by omega)]
   ·rw [decide_eq_false z,decide_eq_false (by omega)]
  | true =>
   have ee:a=c:=by simpa using e
   refine PySem.W.kat_yes (PySem.W.kat_cons (wpAny_eqBool_int ?_));cases e2:b==d with
   | false =>
    refine PySem.W.kat_no ?_;show wpAny _ _ (oneLt' false _ _) _ _ _;refine PySem.W.kat_one _ _ (lt_int ?_);show s=s/\decide (b<d)=decide (a*64+b<c*64+d);refine ⟨rfl,?_⟩
    by_cases z:b<d
    ·rw [decide_eq_true z,decide_eq_true (by omega)]
    ·rw [decide_eq_false z,decide_eq_false (by omega)]
   | true =>
    have e3:b=d:=by simpa using e2
    refine PySem.W.kat_yes (PySem.W.kat_nil ?_);refine ⟨rfl,?_⟩;rw [decide_eq_false (show ¬ (a*64+b<c*64+d) by omega)]
    rfl
 refine wpS_bind (wpS_lift (wpAny_attempt (wpAny_mono key (fun r s' hq=>?_) fun ev s' hq=>hq.elim)))
 ·obtain ⟨rfl,rfl⟩:=hq;exact ⟨rfl,wpS_pure h⟩
end
section
variable {X:Cx}{pins:List (Addr×Obj)}{σ:St}{H:Hp}{s:Shared}
def Hf (X:Cx)(pins:List (Addr×Obj))(σ:St)(H:Hp)(A:Around)(f v:Value)(k:Int×Int):Prop :=
 ∀ (more:List (Addr×Obj)) (H1:Hp) (s:Shared),aW H H1->aQ X (pins++more) σ H1 s->wpAny (model X.prog X.w) A (call f [v]) (fun r s'=>∃ q,r=Value.ref q/\H1 q=none/\aQ X (pins++more) σ (bN H1 q (.tup [.int k.1,.int k.2])) s') (fun _ _=>False) s
theorem pH {H:Hp}{h:Heap}{q:Addr}{a b:Int}{P:Program}{w:World}(ok:oY P w H h)(e:H q=some (.tup [.int a,.int b])):∃ o t u n,h.get? q=some o/\o.cls=.type "tuple"/\o.data=.seq #[.int a t,.int b u] n:=by
 obtain ⟨_,its,r,o,ho,hc,n,hd⟩:=ok q _ e;cases r with
 | cons r1 r2 =>
  cases r2 with
  | cons r3 r4 =>
   cases r4;obtain ⟨t,rfl⟩:=r1;obtain ⟨u,rfl⟩:=r3;exact ⟨o,t,u,n,ho,hc,hd⟩
variable {A:Around}{E:Value->Shared->Prop}{P:PySem.Fin->Shared->Prop}{a kS:Addr}{vs:List Value}{kz:List (Int×Int)}{qs:List Addr}{e e1:Nat}{f:Value}
def Kg (k:Int×Int):Int:=k.1*64+k.2
theorem tK {α β:Type}(g:α->β):∀ {xs:List β}{ys:List α},xs.Perm (ys.map g)->∃ zs:List α,zs.Perm ys/\zs.map g=xs
 | [],ys,h=>by
  have e:=h.length_eq;rw [YQ] at e;have:ys=[]:=aAb.mp e.symm;subst this;exact ⟨[],.refl _,rfl⟩
 | x::xs,ys,h=>by
  obtain ⟨y,hy,e⟩:=ZW.mp (h.mem_iff.mp Yg);obtain ⟨l1,l2,rfl⟩:=List.append_of_mem hy;have p1:(y::(l1++l2)).Perm (l1++y::l2):=aBE.symm;have h2:(x::xs).Perm (x::(l1++l2).map g):=by
   refine h.trans ?_;have:=(p1.map g).symm;rw [ZF,e] at this;exact this
  obtain ⟨zs,z1,z2⟩:=tK g (ZS.cons_inv h2);exact ⟨y::zs,(z1.cons y).trans p1,by rw [ZF,z2,e]⟩
def Ib (kz:List (Int×Int))(vs out:List Value):Prop:=∃ ps:List ((Int×Int)×Value),ps.Perm (kz.zip vs)/\out=ps.map (·.2)/\ps.Pairwise fun p q=>Kg p.1<=Kg q.1
theorem Ez {st:SortSt}{H1:Hp}(I:aQ X pins σ H1 s)(fk:dN X pins H1 kS)(fa:dN X pins H1 a)(hka:kS≠a)(ek:s.heap.get? kS=some (seqObj "list" (qs.map Value.ref).toArray e))(ea:s.heap.get? a=some (seqObj "list" #[] e1))
  (hl:qs.length=vs.length) (h64:vs.length<64) (hsz:(arrOf st).size=vs.length) (hfl:failedOf st=none)
  (done:∀ s' c,aQ X pins σ H1 s'->s'.heap.get? a=some (seqObj "list" ((arrOf st).map (·.2)) c)->P (.done (.ret .none)) s') :
  wpAny (model X.prog X.w) A (ksk_tail a false e1 (.ref kS) st) P E s:=by
 have hout:((arrOf st).map (·.2)).size=vs.length:=by rw [aBf,hsz]
 generalize hO:(arrOf st).map (·.2)=out at done hout;have I1:aQ X pins σ H1 { s with heap:=s.heap.update kS (Obj.mapSeq fun _=>(#[]:Array Value)) } :=
  I.turned (t':=s.toks) (fun b o hb q=>((Ym.update s.heap kS _).2 b hb).trans q) fk.1 fk.2.1 fk.2.2.2.1 fk.2.2.2.2.1 fk.2.2.2.2.2
 have ea1:(s.heap.update kS (Obj.mapSeq fun _=>(#[]:Array Value))).get? a=some (seqObj "list" #[] e1):=((Ym.update s.heap kS _).2 a (Ne.symm hka)).trans ea;have I2:aQ X pins σ H1 { s with heap:=(s.heap.update kS (Obj.mapSeq fun _=>(#[]:Array Value))).update a (Obj.mapSeq fun _=>out) } :=
  I1.turned (t':=s.toks) (fun b o hb q=>((Ym.update _ a _).2 b hb).trans q) fa.1 fa.2.1 fa.2.2.2.1 fa.2.2.2.2.1 fa.2.2.2.2.2
 unfold ksk_tail;dsimp only;refine wpAny_bind (listUpdate_at ek rfl ?_ (by rw [YM,YQ,hl]; exact Y7 (Yx h64) (by decide)) (Yq _));refine wpAny_bind (wpAny_letGo ?_);refine wpAny_bind (seqEpoch_at ea1 rfl ?_);rw [hO];simp only [Y6,if_false];refine wpAny_bind (listUpdate_at ea1 rfl ?_ (Yq _) (by rw [hout]; exact Y7 (Yx h64) (by decide)));rw [hfl];simp only [bne_self_eq_false,Y6,if_false];exact wpAny_pure (done _ _ I2 (get?_update_seq ea1 fun _=>out))
theorem xU {α β:Type}{xs:List α}{ys:List β}{p:α×β}(h:p∈xs.zip ys):∃ i:Nat,xs[i]? = some p.1/\ys[i]? = some p.2:=by
 obtain ⟨i,hi,e⟩:=ZR.mp h;rw [aAJ] at hi;rw [aA5] at e;refine ⟨i,?_,?_⟩
 ·rw [YL (by omega)]; exact congrArg (fun z=>some z.1) e
 ·rw [YL (by omega)]; exact congrArg (fun z=>some z.2) e
theorem Iw {H1:Hp}(I:aQ X pins σ H1 s)(fk:dN X pins H1 kS)(fa:dN X pins H1 a)(hka:kS≠a)(ek:s.heap.get? kS=some (seqObj "list" (qs.map Value.ref).toArray e))(ea:s.heap.get? a=some (seqObj "list" #[] e1))
  (hl:qs.length=vs.length) (hkz:kz.length=vs.length) (h64:vs.length<64) (hq:∀ (i:Nat) q k,qs[i]? = some q->kz[i]? = some k->H1 q=some (.tup [.int k.1,.int k.2])) (hb:∀ k∈kz,0<=k.2/\k.2<64)
  (done:∀ s' out c,aQ X pins σ H1 s'->s'.heap.get? a=some (seqObj "list" out c)->Ib kz vs out.toList->P (.done (.ret .none)) s') :
  wpAny (model X.prog X.w) A (ksk_end a false vs.toArray e1 (.ref kS) (qs.map Value.ref).toArray) P E s:=by
 have hzs:((qs.map Value.ref).toArray.zip vs.toArray).size=vs.length:=by rw [Array.size_zip,YM,YM,YQ]; omega
 have ez:((qs.map Value.ref).toArray.zip vs.toArray).toList=(qs.map Value.ref).zip vs:=by simp
 have kof:∀ (i:Nat) q,qs[i]? = some q->∃ k,kz[i]? = some k/\k∈kz/\H1 q=some (.tup [.int k.1,.int k.2]):=fun i q e0=>by
  have hi:=(Yp.mp e0).1;obtain ⟨k,hk⟩:∃ k,kz[i]? = some k:=⟨_,YL (by omega)⟩
  exact ⟨k,hk,Yy hk,hq i q k e0 hk⟩
 have rk:∀ (i:Nat) q k,qs[i]? = some q->kz[i]? = some k->Cu s.heap (.ref q)=Kg k:=fun i q k e0 e2=>by
  obtain ⟨o,t,u,n,ho,_,hd⟩:=pH I.hok (hq i q k e0 e2);exact Ft ho hd
 have fin:∀ st:SortSt,(arrOf st).Perm ((qs.map Value.ref).toArray.zip vs.toArray)->failedOf st=none->((arrOf st).toList.Pairwise fun p q=>Cu s.heap p.1<=Cu s.heap q.1)->wpAny (model X.prog X.w) A (ksk_tail a false e1 (.ref kS) st) P E s:=fun st pm fl so=>by
  refine Ez I fk fa hka ek ea hl h64 (by rw [pm.size_eq,hzs]) fl fun s' c I' e'=>done s' _ c I' e' ?_;have pl:(arrOf st).toList.Perm ((qs.map Value.ref).zip vs):=by rw [<- ez]; exact Zb.mp pm
  obtain ⟨ps,p1,p2⟩:∃ ps:List ((Int×Int)×Value),ps.Perm (kz.zip vs)/\ps.map (fun p=>(Kg p.1,p.2))=(arrOf st).toList.map fun p=>(Cu s.heap p.1,p.2):=by
   have em:((qs.map Value.ref).zip vs).map (fun p=>(Cu s.heap p.1,p.2))=(kz.zip vs).map fun p=>(Kg p.1,p.2):=by
    apply aAp
    ·simp only [YQ,aAJ]; omega
    ·intro i h1 h2;simp only [YQ,aAJ] at h1 h2;simp only [aA4,aA5]
     congr 1
     exact rk i _ _ (YL (by omega)) (YL (by omega))
   have pm2:=pl.map fun p:Value×Value=>(Cu s.heap p.1,p.2)
   rw [em] at pm2;exact tK _ pm2
  refine ⟨ps,p1,?_,?_⟩
  ·rw [Array.toList_map];have:=congrArg (List.map Prod.snd) p2;rw [aBB,aBB] at this;exact this.symm
  ·have q1:(ps.map fun p=>(Kg p.1,p.2)).Pairwise fun p q=>p.1<=q.1:=by
    rw [p2,aAx];exact so
   rw [aAx] at q1;exact q1
 unfold ksk_end;dsimp only;simp only [Y6,if_false]
 by_cases h2:vs.toArray.size<2
 ·rw [if_pos h2,if_pos h2];refine wpAny_bind (wpAny_pure ?_);rw [StateT.run_pure];refine wpAny_bind (wpAny_pure ?_);refine fin (SortSt.mk' general' ((qs.map Value.ref).toArray.zip vs.toArray) #[] 7 none) (aBs.refl _) rfl ?_;show (((qs.map Value.ref).toArray.zip vs.toArray).toList).Pairwise _;rw [YM] at h2;have ll:((qs.map Value.ref).toArray.zip vs.toArray).toList.length<2:=by rw [YW,hzs]; exact h2
  rw [Yu];intro i j hi hj hij;omega
 ·rw [if_neg h2,if_neg h2];rw [YM] at h2;have kt:∀ (xs:List Addr),(∀ q∈xs,∃ k:Int×Int,H1 q=some (.tup [.int k.1,.int k.2]))->∃ fs:List Value,PySem.W.KatTups s.heap (xs.map Value.ref) fs/\fs.length=xs.length/\∀ v∈fs,∃ n t,v=Value.int n t:=by
   intro xs
   induction xs with
   | nil=>intro _; exact ⟨[],trivial,rfl,fun _ h=>nomatch h⟩
   | cons x xs ih =>
    intro h;obtain ⟨k,hk⟩:=h x Yg;obtain ⟨fs,f1,f2,f3⟩:=ih fun q hq=>h q (Y8 _ hq);obtain ⟨o,t,u,n,ho,hc,hd⟩:=pH I.hok hk;refine ⟨Value.int k.1 t::fs,PySem.W.KatTups.cons ho hc hd rfl f1,by rw [ZP,f2]; rfl,fun v hv=>?_⟩;rcases Yn.mp hv with e | e
    ·exact ⟨_,_,e⟩
    ·exact f3 v e
  obtain ⟨fs,f1,f2,f3⟩:=kt qs fun q hq1=>by
   obtain ⟨i,hi⟩:=List.getElem?_of_mem hq1;obtain ⟨k,_,_,h⟩:=kof i q hi;exact ⟨k,h⟩
  refine wpAny_bind (PySem.W.kat_kind (T:=.type "int") f1 (by omega) (fun v hv=>?_) rfl ?_)
  ·obtain ⟨n,t,rfl⟩:=f3 v hv;exact .now
  have et:(Value.type "int" != Value.type "tuple")=true:=by decide
  rw [et];refine wpAny_bind (wpAny_mono (Mr.CJ (κ:=tuples' true) (R:=fun p=>Cu s.heap p.1) (a₀:=(qs.map Value.ref).toArray.zip vs.toArray) (st:=SortSt.mk' (tuples' true) ((qs.map Value.ref).toArray.zip vs.toArray) #[] 7 none)
   (Q:=fun _ t=>(arrOf t).Perm ((qs.map Value.ref).toArray.zip vs.toArray)/\failedOf t=none/\Mr.kZ (fun p=>Cu s.heap p.1) (arrOf t) 0 ((qs.map Value.ref).toArray.zip vs.toArray).size)
   (fun p q hp hq1 st Q hk hQ=>?_) ⟨aBs.refl _,rfl,rfl,rfl,fun i hi=>absurd hi (aBI _)⟩ (by omega) (by omega) fun t z1 z2 z3=>⟨z1,z2,z3⟩) ?_ fun _ _ z=>z)
  ·rw [ez] at hp hq1;obtain ⟨i,i1,_⟩:=xU hp;obtain ⟨j,j1,_⟩:=xU hq1;rw [Yi] at i1 j1;cases ei:qs[i]? with
   | none=>rw [ei] at i1; cases i1
   | some x =>
    cases ej:qs[j]? with
    | none=>rw [ej] at j1; cases j1
    | some y =>
     rw [ei] at i1;rw [ej] at j1;obtain ⟨k,_,km,hk1⟩:=kof i x ei;obtain ⟨l,_,lm,hl1⟩:=kof j y ej;obtain ⟨o,t,u,n,ho,_,hd⟩:=pH I.hok hk1;obtain ⟨o2,t2,u2,n2,ho2,_,hd2⟩:=pH I.hok hl1;exact Io hk (Z1.inj i1).symm (Z1.inj j1).symm ho hd ho2 hd2 (hb k km).1 (hb k km).2 (hb l lm).1 (hb l lm).2 hQ
  ·rintro ⟨⟨⟩,t⟩ s2 ⟨rfl,p1,p2,p3⟩;refine fin t p1 p2 ?_;rw [Yu];intro i j hi hj hij;rw [YW] at hi hj;have z:=p3 i j (Yq _) (Yx hij) (by rw [Zm,<- p1.size_eq]; exact hj);rw [Mr.zP hi,Mr.zP hj] at z
   simpa using z
theorem En (I:aQ X pins σ H s)(fk:dN X pins H kS)(fa:dN X pins H a)(hka:kS≠a)(ek:s.heap.get? kS=some (seqObj "list" #[] 0))(ea:s.heap.get? a=some (seqObj "list" #[] e1))
  (hkz:kz.length=vs.length) (h64:vs.length<64) (hb:∀ k∈kz,0<=k.2/\k.2<64) (turn:∀ (i:Nat) v k,vs[i]? = some v->kz[i]? = some k->Hf X pins σ H A f v k)
  (done:∀ s' H1 out c,aW H H1->dN X pins H1 a->aQ X pins σ H1 s'->s'.heap.get? a=some (seqObj "list" out c)->Ib kz vs out.toList->P (.done (.ret .none)) s') :
  wpAny (model X.prog X.w) A (ksk_rest a f false vs.toArray e1 (.ref kS)) P E s:=by
 unfold ksk_rest;refine wpAny_bind (wpAny_rule ?_);rw [List.forIn_toArray];refine wpAny_bind (ksk_fold (fun i s'=>∃ (H1:Hp) (qs:List Addr) (e:Nat),aW H H1/\aQ X pins σ H1 s'/\dN X pins H1 kS/\dN X pins H1 a/\s'.heap.get? a=some (seqObj "list" #[] e1)/\s'.heap.get? kS=some (seqObj "list" (qs.map Value.ref).toArray e)/\qs.length=i ∧
  ∀ (j:Nat) q k,qs[j]? = some q->kz[j]? = some k->H1 q=some (.tup [.int k.1,.int k.2])) vs 0 s ⟨H,[],0,aW.refl _,I,fk,fa,ea,ek,rfl,fun j q k h=>by simp at h⟩ ?step ?fin)
 case step =>
  rintro j x s1 hx ⟨H1,qs,e,hs,I1,fk1,fa1,ea1,ek1,ql,hq⟩;rw [Zm] at ql ⊢;have hj:j<vs.length:=(Yp.mp hx).1;have hkj:kz[j]? = some kz[j]:=YL (by omega);have I2:aQ X (pins++[(kS,seqObj "list" (qs.map Value.ref).toArray e),(a,seqObj "list" #[] e1)]) σ H1 s1:=I1.pins_of fun p hp=>by
   rcases Ye.mp hp with z | z
   ·exact I1.pin p (Yb _ z)
   ·rcases Yn.mp z with z | z
    ·subst z; exact fk1.pin ek1 fun v q=>nomatch q
    ·rw [YT.mp z]; exact fa1.pin ea1 fun v q=>nomatch q
  refine wpAny_bind (wpAny_attempt (wpAny_mono (turn j x _ hx hkj _ H1 s1 hs I2) (fun v s2 h2=>?_) fun _ _ z=>z.elim));obtain ⟨q,rfl,qn,I3⟩:=h2;have pk:=I3.pin (kS,seqObj "list" (qs.map Value.ref).toArray e) (Yb _ (Yb _ (.head _)));have pa:=I3.pin (a,seqObj "list" #[] e1) (Yb _ (Yb _ (.tail _ (.head _))));have I4:=I3.unpinned;have nqk:kS≠q:=fun z=>by have:=pk.2.1; rw [show (kS,seqObj "list" (qs.map Value.ref).toArray e).1=kS from rfl,z,aC] at this; cases this
  have nqa:a≠q:=fun z=>by have:=pa.2.1; rw [show (a,seqObj "list" #[] e1).1=a from rfl,z,aC] at this; cases this
  have fk2:dN X pins (bN H1 q (.tup [.int kz[j].1,.int kz[j].2])) kS:=⟨by rw [aO nqk]; exact fk1.1,fk1.2⟩
  have fa2:dN X pins (bN H1 q (.tup [.int kz[j].1,.int kz[j].2])) a:=⟨by rw [aO nqa]; exact fa1.1,fa1.2⟩
  have hz:(qs.map Value.ref).toArray.size=j:=by rw [YM,YQ,ql]
  refine wpAny_bind (listUpdate_at pk.1 rfl ?_ (by rw [hz]; exact Y7 (Yx (aAP hj h64)) (by decide)) (Y7 (aAN (Array.size_push ..)) (by rw [hz]; exact aA2 (Y7 (Yx (aAP hj h64)) (by decide)))));obtain ⟨e2,he2⟩:∃ e2,(s2.heap.update kS (Obj.mapSeq (·.push (Value.ref q)))).get? kS=some (seqObj "list" ((qs++[q]).map Value.ref).toArray e2):=by
   have z:=get?_update_seq pk.1 (·.push (.ref q));rw [List.push_toArray] at z;rw [Yo];exact ⟨_,z⟩
  refine wpAny_pure ⟨rfl,bN H1 q (.tup [.int kz[j].1,.int kz[j].2]),qs++[q],e2,hs.trans (aH qn _),I4.turned (t':=s2.toks) (fun b o hb q=>((Ym.update s2.heap kS _).2 b hb).trans q) fk2.1 fk2.2.1 fk2.2.2.2.1 fk2.2.2.2.2.1 fk2.2.2.2.2.2,fk2,fa2,((Ym.update s2.heap kS _).2 a (Ne.symm hka)).trans pa.1,he2,by rw [Y4,ql]; rfl,fun i y k hy hk=>?_⟩
  ·rcases Nat.lt_trichotomy i qs.length with u | u | u
   ·rw [Zd u] at hy;have h1:=hq i y k hy hk;rw [aO (bB h1 qn)];exact h1
   ·subst u;rw [Z3 (YS _),Nat.sub_self] at hy;cases hy;rw [ql,hkj] at hk;cases hk;exact aC
   ·rw [Z2 (by rw [Y4]; show qs.length+1<=i; omega)] at hy;cases hy
 case fin =>
  rintro s1 ⟨H1,qs,e,hs,I1,fk1,fa1,ea1,ek1,ql,hq⟩;rw [Zm] at ql;exact wpAny_bind (listItems_at ek1 rfl (Iw I1 fk1 fa1 hka ek1 ea1 ql hkz h64 hq hb fun s' out c I' e' ho=>done s' H1 out c hs fa1 I' e' ho))
theorem DX {n:Nat}(I:aQ X pins σ H s)(fa:dN X pins H a)(ea:s.heap.get? a=some (seqObj "list" vs.toArray n))(hkz:kz.length=vs.length)(h64:vs.length<64)(hb:∀ k∈kz,0<=k.2/\k.2<64)
  (turn:∀ (i:Nat) v k,vs[i]? = some v->kz[i]? = some k->Hf X pins σ H A f v k)
  (done:∀ s' H1 out c,aW H H1->dN X pins H1 a->aQ X pins σ H1 s'->s'.heap.get? a=some (seqObj "list" out c)->Ib kz vs out.toList->P (.done (.ret .none)) s') :
  wpAny (model X.prog X.w) A (ksk_tree a f false) P E s:=by
 have I1:aQ X pins σ H { s with heap:=s.heap.update a (Obj.mapSeq fun _=>(#[]:Array Value)) } :=
  I.turned (t':=s.toks) (fun b o hb q=>((Ym.update s.heap a _).2 b hb).trans q) fa.1 fa.2.1 fa.2.2.2.1 fa.2.2.2.2.1 fa.2.2.2.2.2
 have ea1:=get?_update_seq ea fun _=>(#[]:Array Value)
 generalize hh:s.heap.update a (Obj.mapSeq fun _=>(#[]:Array Value))=h1 at I1 ea1;have I2:aQ X pins σ H { s with heap:=(h1.push (seqObj "tuple" vs.toArray 0)).push (seqObj "list" #[] 0) } :=
  I1.kept (t':=s.toks) fun b o q=>YK _ (YK _ q)
 have hlt:a<h1.objs.size:=YX ea1;have hsz:(h1.push (seqObj "tuple" vs.toArray 0)).objs.size=h1.objs.size+1:=size_push' _ _;have h64':vs.length<=sizeLine:=Y7 (Yx h64) (by decide);unfold ksk_tree;refine wpAny_bind (listItems_at ea rfl ?_);refine wpAny_bind (listUpdate_at ea rfl ?_ (by rw [YM]; exact h64') (Yq _));rw [hh];refine wpAny_bind (seqEpoch_at (s:={ s with heap:=h1 }) ea1 rfl ?_);refine wpAny_bind (wpAny_newTuple ?_ (by simpa using h64'));refine wpAny_bind (wpAny_newList ?_ (Yq _));refine wpAny_holding ?_;refine En (s:={ s with heap:=(h1.push (seqObj "tuple" vs.toArray 0)).push (seqObj "list" #[] 0) }) (kS:=(h1.push (seqObj "tuple" vs.toArray 0)).objs.size) I2 ?_ fa ?_ (YZ _ rfl) (YK _ (YK _ ea1)) hkz h64 hb turn done
 ·exact I1.fpOk (by rw [hsz]; exact aAk _) (I1.hok.fresh (by rw [hsz]; exact aAk _))
 ·rw [hsz];exact Z7 (aAh hlt)
theorem Bd {ns:List Int}{out:List Value}{g:Int->Int}(hi:IntsAre vs ns)(h:Ib (ns.map fun i=>(g i,i)) vs out):∃ ms:List Int,IntsAre out ms/\ms.Perm ns/\ms.Pairwise fun i j=>g i*64+i<=g j*64+j:=by
 obtain ⟨ps,p1,p2,p3⟩:=h;have hnv:=hi.nums;have all:∀ p∈ps,∃ t,p.2=Value.int p.1.2 t/\p.1.1=g p.1.2:=fun p hp=>by
  obtain ⟨i,i1,i2⟩:=xU (p1.mem_iff.mp hp);rw [Yi] at i1;cases e:ns[i]? with
  | none=>rw [e] at i1; cases i1
  | some n =>
   rw [e] at i1;have e1:(g n,n)=p.1:=Z1.inj i1;obtain ⟨n',t,e3⟩:=hi.all p.2 (Yy i2);have e4:numOf p.2=n:=by
    have:(vs.map numOf)[i]? = some (numOf p.2):=by rw [Yi,i2]; rfl
    rw [hnv,e] at this;exact (Z1.inj this).symm
   rw [e3] at e4;have e5:n'=n:=e4;subst e5;rw [<- e1];exact ⟨t,e3,rfl⟩
 refine ⟨ps.map fun p=>p.1.2,?_,?_,?_⟩
 ·rw [p2];have go:∀ (l:List ((Int×Int)×Value)),(∀ p∈l,∃ t,p.2=Value.int p.1.2 t/\p.1.1=g p.1.2)->IntsAre (l.map (·.2)) (l.map fun p=>p.1.2):=by
   intro l
   induction l with
   | nil=>intro _; exact .nil
   | cons p l ih =>
    intro hl;obtain ⟨t,e,_⟩:=hl p Yg;rw [ZF,ZF,e];exact .cons _ t (ih fun q hq=>hl q (Y8 _ hq))
  exact go ps all
 ·have hl:vs.length=ns.length:=hi.length;have q1:=p1.map fun p:(Int×Int)×Value=>p.1.2;have e:((ns.map fun i=>(g i,i)).zip vs).map (fun p=>p.1.2)=ns:=by
   apply aAp
   ·simp only [YQ,aAJ]; omega
   ·intro i h1 h2;simp only [aA4,aA5]
  rw [e] at q1;exact q1
 ·rw [aAx];refine p3.imp_of_mem fun {p q} hp hq h=>?_;obtain ⟨_,_,a1⟩:=all p hp;obtain ⟨_,_,a2⟩:=all q hq;unfold Kg at h;rw [a1,a2] at h;exact h
theorem Fp {l fa:Addr}{n:Nat}{g:Int->Int}{t u v:Tok}{Q:VK}(hc:X.A.handled=none)(I:aQ X pins σ H s)(hr:IsRange s.heap l 0 (n:Int) 1 t u v)(hn:n<64)
  (turn:∀ (i:Nat) (tk:Tok),i<n->Hf X pins σ H X.A.in1.in1 (.ref fa) (.int (0+(i:Int)) tk) (g (0+(i:Int)),0+(i:Int)))
  (done:∀ D H1 (ms:List Int),aW H H1->H1 D=none->ms.Perm (lE 0 n)->(ms.Pairwise fun i j=>g i*64+i<=g j*64+j)->Q (.ref D) (bN H1 D (.lst (ms.map V.int)))) :
  wpAny (model X.prog X.w) X.A (call (.builtin "sorted") [.ref l] [(Str.ofString "key",.ref fa)]) (EP X pins σ Q) E s:=by
 refine call_function_entry_kw kind_sorted plain_sorted entry_sorted (ksk_s1 _ _) ?_;unfold Builtin.«sorted»;refine wpAny_bind (m:=checkCount "sorted" 1 1 _) (wpAny_pure ?_);have sz:Builtin.Range.rangeSize 0 (n:Int) 1=((n:Nat):Int):=by rw [rangeSize_one]; split <;> omega
 refine wpAny_bind (vN (by first | exact hc | (rw [show X.A.in1.handled=X.A.handled from rfl]; exact hc)) hr (small_one (by omega) (by omega) (by omega) (by omega)) sz (Y7 (Yx hn) (by decide)) fun h1 tk acc up hacc=>?_);have hal:acc.toList.length=n:=by rw [YW]; exact hacc.1
 have hat:∀ (i:Nat) x,acc.toList[i]? = some x->∃ t,x=Value.int (0+(i:Int)) t:=fun i x hx=>by
  obtain ⟨t0,h0⟩:=hacc.2 i x (by rw [<- Z5]; exact hx);exact ⟨t0,by rw [h0,Int.mul_one]⟩
 have ia:IntsAre acc.toList (lE 0 n):=by
  have gen:∀ (m:Nat) (k:Int) (ws:List Value),ws.length=m->(∀ (x:Nat) v,ws[x]? = some v->∃ t,v=Value.int (k+(x:Int)) t)->IntsAre ws (lE k m):=by
   intro m
   induction m with
   | zero =>
    intro k ws hl _;have e:ws=[]:=aAb.mp hl;rw [e];exact .nil
   | succ m ih =>
    intro k ws hl hw;cases ws with
    | nil=>simp at hl
    | cons v ws =>
     have e:lE k (m+1)=k::lE (k+1) m:=by
      unfold lE;rw [List.range_succ_eq_map,ZF,aBB];have e0:k+((0:Nat):Int)=k:=by omega
      rw [e0]
      congr 1
      refine List.map_congr_left fun x _=>?_;show k+((x+1:Nat):Int)=k+1+(x:Int)
      omega
     rw [e];obtain ⟨t0,h0⟩:=hw 0 v rfl;have h0':v=Value.int k t0:=by rw [h0]; congr 1; omega
     rw [h0'];refine .cons k t0 (ih (k+1) ws (by simpa using hl) fun x w' hx=>?_);obtain ⟨t1,h1⟩:=hw (x+1) w' (by simpa using hx);exact ⟨t1,by rw [h1]; congr 1; omega⟩
  exact gen n 0 _ hal hat
 have rl:(lE 0 n).length=n:=by unfold lE; rw [YQ,Z4]
 refine wpAny_bind (wpAny_newList ?_ (by rw [hal]; exact Y7 (Yx hn) (by decide)));have I1:aQ X pins σ H { s with heap:=h1.push (seqObj "list" acc.toList.toArray 0),toks:=tk }:=I.kept (t':=tk) fun b o q=>YK _ (up b o q);have I0:aQ X pins σ H { s with heap:=h1,toks:=tk }:=I.kept (t':=tk) up;have fr:H h1.objs.size=none:=I0.hok.fresh (YS _);have fp:dN X pins H h1.objs.size:=I0.fpOk (YS _) fr;have yo:X.s₀.heap.objs.size<=h1.objs.size:=I0.sz;have ea:(h1.push (seqObj "list" acc.toList.toArray 0)).get? h1.objs.size=some (seqObj "list" acc.toList.toArray 0):=YZ _ rfl;refine wpAny_bind (wpAny_holding (wpAny_call_entry_kw PyProof.Rows.slot_list_sort ⟨_,ea,rfl⟩ PyProof.Rows.entry_list_sort ?body (ksk_l1 _ _)))
 case body =>
  show wpAny (model X.prog X.w) X.A.in1.in1 (Builtin.«list.sort» ⟨[.ref h1.objs.size],[(Str.ofString "key",.ref fa)]⟩) _ _ _;rw [ksk_t1];refine DX (kz:=(lE 0 n).map fun i=>(g i,i)) (vs:=acc.toList) (s:={ s with heap:=h1.push (seqObj "list" acc.toList.toArray 0),toks:=tk }) I1 fp ea (by rw [YQ,rl,hal]) (by rw [hal]; exact hn) (fun k hk=>?_) (fun i v k hv hk=>?_) fun s2 H1 out c sH fp2 I2 e2 ko=>⟨_,rfl,?_⟩
  ·obtain ⟨i,hi,rfl⟩:=ZW.mp hk;unfold lE at hi;obtain ⟨j,hj,rfl⟩:=ZW.mp hi;have:=ZZ.mp hj;show 0<=0+(j:Int)/\0+(j:Int)<64;omega
  ·have hi:i<n:=by have:=(Yp.mp hv).1; omega
   obtain ⟨t0,rfl⟩:=hat i v hv;have ek:k=(g (0+(i:Int)),0+(i:Int)):=by
    rw [Yi] at hk;unfold lE at hk;rw [Yi,List.getElem?_range hi] at hk;exact (Z1.inj hk).symm
   rw [ek];exact turn i t0 hi
  ·obtain ⟨ms,m1,m2,m3⟩:=Bd ia ko;have ml:ms.length=n:=by rw [m2.length_eq,rl]
   refine wpAny_pure ⟨_,rfl,.ref h1.objs.size,_,I2.track (o:=.lst (ms.map V.int)) fp2 yo ⟨?_,out.toList,c,gC m1,?_⟩,rfl,done _ H1 ms sH fp2.1 m2 m3⟩
   ·rw [YQ,ml];exact Y7 (Yx hn) (by decide)
   ·rw [aAl];exact e2
end
section
variable {X:Cx}{pins:List (Addr×Obj)}{σ:St}{H:Hp}{A:Around}{p qual:Str}{M:List Str}{scope:Scope}{params:Arguments}{body:Expr}{pm ctv:Value}{c' f:Addr}{te:TE}
theorem Eb (hA:A.frames=some X.stack)(hd:A.handled=none)(hdep:A.depth<recursionLimit)(S:bT X.env.scope scope)(nl:NL X.N M scope)(hp:scope.names.lookup p=some .local)
  (hco:scope.isCoroutine=false) (hgen:scope.isGenerator=false) (hbind:∀ (cl:List (Str×Addr)) (pm cdv ctv u:Value),bindArgs (PySem.W.kla_fn "<lambda>" qual params body scope cl pm cdv ctv) ⟨[u],[]⟩=pure [(p,u)])
  (hb:∀ f c' s H,PE (Aj X A p M scope qual f c' s H) body te) {x:V}{u:Value}{k:Int×Int} (rx:RelV x u) (hf:(f,PySem.W.kla_obj "<lambda>" qual params body scope (cT X.env scope.names []) pm c' ctv)∈pins)
  (hcr:H c'=some (wN c' qual)) (h:∀ H1,aW H H1->te (some x::σ) H1 fun r H'=>∃ q,r=.ref q/\H1 q=none/\H'=bN H1 q (.tup [.int k.1,.int k.2])):Hf X pins σ H A (.ref f) u k:=by
 intro more H1 s sH I;have hcd:s.heap.CodeRec (.ref c') qual:=(I.hok c' _ (sH _ _ hcr)).1;have ho:=(I.pin _ (Yb _ (ZQ _ hf))).1;have sub:∀ x a,(cT X.env scope.names []).lookup x=some a->X.env.cells.lookup x=some a:=fun x a e=>by
  rcases nH _ _ _ (PySem.mem_of_lookup e) with z | z
  ·exact absurd z (by simp)
  ·exact z
 have kin:∀ x,scope.names.lookup x=some .free->X.env.kindOf x=some .cell∨X.env.kindOf x=some .free:=fun x e=>S.free (x,.free) (PySem.mem_of_lookup e) rfl;have has:∀ x a,scope.names.lookup x=some .free->X.env.cells.lookup x=some a->(cT X.env scope.names []).lookup x=some a:=fun x a e ec=>by
  obtain ⟨d,hd⟩:=fX (mU ec scope.names [] (PySem.mem_of_lookup e));have:=sub x d hd;rw [ec] at this;cases this;exact hd
 have nocell:∀ x,scope.names.lookup x≠some .cell:=fun x e=>S.nocell _ (PySem.mem_of_lookup e) rfl;refine wpAny_call (PySem.W.kla_callFunE hdep ho rfl hco hgen rfl hcd ?_);rw [hbind];refine wpAny_pure (wpAny_newFunctionEnv S.nocell (fun y hy=>?_) (fun h₁ hns hsb=>⟨?_,?_⟩) S.kind)
 ·rw [YT.mp hy]; exact hp
 ·exact I.nolimit.keeps fun b o e=>hsb.extBut b o (Yd (YX e)) (YK _ e)
 have old:∀ b o,s.heap.get? b=some o->h₁.get? b=some o:=fun b o e=>hsb.extBut b o (Yd (YX e)) (YK _ e);have okY:(Aj X A p M scope qual f c' s H1).Ok:=by
  refine ⟨I.ok.mod,S.kind,rfl,rfl,YS _,fun x y a h1 h2=>I.ok.inj x y a (sub x a h1) (sub y a h2),fun x hx=>?_,(fun x a h=>nomatch h),fun _=>hd,Around.frames_deeper hA,.inr ⟨rfl,rfl⟩,(fun b hb'=>nomatch hb'),
   I.bs,Y7 I.ok.bsz I.sz,(fun b o e hb'=>nomatch hb'),(fun b hb'=>nomatch hb'),I.stack,I.stkFree⟩
  have hf:scope.names.lookup x=some .free:=by
   rcases hx with hx | hx
   ·exact absurd hx (nocell x)
   ·exact hx
  obtain ⟨a,ea⟩:=I.ok.has x (kin x hf);exact ⟨a,has x a hf ea⟩
 have IY:aQ (Aj X A p M scope qual f c' s H1) [] (some x::σ) H1 { s with heap:=h₁,toks:=s.toks+[(p,u)].length }:=by
  refine ⟨okY,rfl,I.bare,Un.kept old,⟨_,hns,fun i y v e1 e2 e3=>?_⟩,fun y a e=>?_,I.hok.fresh (YS _),fun y a e=>I.freeC y a (sub y a e),(fun q hq=>nomatch hq),I.hok.kept old,?_⟩
  ·cases i with
   | zero =>
    have e1':some p=some y:=e1;have e2':some (some x)=some (some v):=e2;cases e1';cases e2';refine ⟨u,rx,.inl ⟨hp,?_⟩⟩;show aAj p [(p,u)]=some u;simp
   | succ i =>
    have e0:M[i]? = some y:=e1;have e2':σ[i]? = some (some v):=e2;have hf:scope.names.lookup y=some .free:=by
     rcases e3 with e3 | e3 | e3
     ·exact absurd e3 (nl.loc _ y e0)
     ·exact absurd e3 (nocell y)
     ·exact e3
    have hk:=kin y hf;obtain ⟨m,hn,hl⟩:=I.loc;obtain ⟨z,rz,lk⟩:=hl i y v (nl.free _ y e0 hf) e2' (hk.elim (fun z=>.inr (.inl z)) fun z=>.inr (.inr z));refine ⟨z,rz,.inr ⟨.inr hf,?_⟩⟩;rcases lk with ⟨q,_⟩ | ⟨_,a,ea,o,eo,hdd⟩
    ·rcases hk with hk | hk <;> (rw [hk] at q; cases q)
    ·exact ⟨a,has y a hf ea,o,old a o eo,hdd⟩
  ·obtain ⟨v,o,eo,hdd⟩:=I.cell y a (sub y a e);exact ⟨v,o,old a o eo,hdd⟩
  ·show σ.length+1=M.length+1;rw [I.len,nl.len]
 refine PySem.W.kla_codeExpr (wpAny_mono (hb f c' s H1 [] _ (some x::σ) H1 _ IY (h H1 sH)) (fun r s2 h2=>?_) fun _ _ z=>z.elim);obtain ⟨v,H2,J,rv,q,hv,hq,hH⟩:=h2;subst hv hH;exact ⟨q,rv,hq,I.call' (ch:=[]) J.os J.base J.hok J.bare (fun b hb'=>nomatch hb')⟩
end
def Lz (ta:TA):TE:=fun σ H Q=>ta σ H fun vs H1=>∃ j:Int,vs=[.int j]/\∀ p,H1 p=none->Q (.ref p) (bN H1 p (.rng 0 j))
theorem Gp {X:Cx}{a:Expr}{ta:TA}{p pos:Pos}(hg:Gl X "range")(hm:X.mg "range" = none)(ha:PA X [a] ta)(hs:starEach [a] X.env=[(false,eval a X.env)]:=by rfl):PE X (.Call (.Name "range" p) [a] [] pos) (Lz ta):=by
 intro pins s σ H Q I h;refine Call_ (jJ I hg hm boot_range (PyProof.Rows.callWith_type1 (cM (ha pos pins s σ H _ I h) fun us s1 ⟨vs,H1,I1,r1,q1⟩=>?_) hs rfl));obtain ⟨j,e,q⟩:=q1;subst e;cases r1 with
 | cons r rr =>
 cases rr;obtain ⟨t,rfl⟩:=r;refine call_range_1 ?_;have fr:H1 s1.heap.objs.size=none:=I1.hok.fresh (YS _);exact ⟨.ref s1.heap.objs.size,bN H1 s1.heap.objs.size (.rng 0 j),I1.laid (t':=s1.toks+1+1) (fun b u e=>YK _ e) (YS _) ⟨_,_,_,YZ _ rfl⟩,rfl,q _ fr⟩
def Er (P:Addr)(pos:Pos)(qual:Str)(tl tb:TE):TE:=fun σ H Q=>tl σ H fun x H1=>∃ (l:Addr) (n:Nat) (g:Int->Int),x=.ref l/\H1 l=some (.rng 0 (n:Int))/\n<64/\mZ P pos qual H1 ∧
 ∀ H2 c',j9 P H1 H2->O5 P pos qual c' H2->(∀ (i:Nat) H3,i<n->aW H2 H3->tb (some (.int (0+(i:Int)))::σ) H3 fun r H'=>∃ q,r=.ref q/\H3 q=none/\H'=bN H3 q (.tup [.int (g (0+(i:Int))),.int (0+(i:Int))])) ∧
  ∀ D H3 (ms:List Int),aW H2 H3->H3 D=none->ms.Perm (lE 0 n)->(ms.Pairwise fun i j=>g i*64+i<=g j*64+j)->Q (.ref D) (bN H3 D (.lst (ms.map V.int)))
theorem Dp {X:Cx}{c P:Addr}{k:Nat}{p:Str}{M:List Str}{scope:Scope}{params:Arguments}{body e:Expr}{p0 pos lpos kpos:Pos}{tl tb:TE}(hr:dJ k X.A)(hc:X.calm=true)(hg:Gl X "sorted")(hm:X.mg "sorted" = none)
  (hcode:X.env.code=.ref c) (C:PySem.W.CodeHd X.base c P) (B:X.base.BuiltinsAt X.mg P) (S:bT X.env.scope scope) (nl:NL X.N M scope) (hp:scope.names.lookup p=some .local) (hco:scope.isCoroutine=false) (hgen:scope.isGenerator=false)
  (he:PE X e tl) (hb:∀ A f c' s H,PE (Aj X A p M scope (X.env.qual++"<lambda>") f c' s H) body tb)
  (hdef:defaultsOf params X.env=([],[]):=by rfl)
  (hbind:∀ (cl:List (Str×Addr)) (pm cdv ctv u:Value),bindArgs (PySem.W.kla_fn "<lambda>" (X.env.qual++"<lambda>") params body scope cl pm cdv ctv) ⟨[u],[]⟩=pure [(p,u)]:=by intro _ _ _ _ _; rfl)
  (hs:starEach [e] X.env=[(false,eval e X.env)]:=by rfl) :
  PE X (.Call (.Name "sorted" p0) [e] [⟨some "key",.Lambda params body scope lpos,kpos⟩] pos) (Er P lpos (X.env.qual++"<lambda>") tl tb):=by
 intro pins s σ H Q I h;refine wpAny_Call_Name_kw (jJ I hg hm mQ ?_ (by decide) (by decide));refine callWith_kw (cM (aA he aD hs pos pins s σ H (fun vs H1=>∃ x,vs=[x]/\∃ (l:Addr) (n:Nat) (g:Int->Int),x=.ref l/\H1 l=some (.rng 0 (n:Int))/\n<64/\mZ P lpos (X.env.qual++"<lambda>") H1 ∧
  ∀ H2 c',j9 P H1 H2->O5 P lpos (X.env.qual++"<lambda>") c' H2->(∀ (i:Nat) H3,i<n->aW H2 H3->tb (some (.int (0+(i:Int)))::σ) H3 fun r H'=>∃ q,r=.ref q/\H3 q=none/\H'=bN H3 q (.tup [.int (g (0+(i:Int))),.int (0+(i:Int))])) ∧
   ∀ D H3 (ms:List Int),aW H2 H3->H3 D=none->ms.Perm (lE 0 n)->(ms.Pairwise fun i j=>g i*64+i<=g j*64+j)->Q (.ref D) (bN H3 D (.lst (ms.map V.int)))) I ?_) fun us s1 ⟨vs,H1,I1,r1,x,ev,l,n,g,ex,hl,hn,hT,q1⟩=>?_) ?_ ?_ rfl rfl
 ·show tl σ H fun x H1=>_;have e1:∀ (F:V->Hp->Prop),(fun (x:V) (H1:Hp)=>∃ x',[x]=[x']/\F x' H1)=F:=fun F=>by
   funext x H1
   refine propext ⟨?_,fun r=>⟨x,rfl,r⟩⟩;rintro ⟨x',z,r⟩;injection z with z
   subst z;exact r
  have h0:=h;unfold Er at h0;rw [<- e1 (fun x H1=>∃ (l:Addr) (n:Nat) (g:Int->Int),x=.ref l/\H1 l=some (.rng 0 (n:Int))/\n<64/\mZ P lpos (X.env.qual++"<lambda>") H1 ∧
  ∀ H2 c',j9 P H1 H2->O5 P lpos (X.env.qual++"<lambda>") c' H2->(∀ (i:Nat) H3,i<n->aW H2 H3->tb (some (.int (0+(i:Int)))::σ) H3 fun r H'=>∃ q,r=.ref q/\H3 q=none/\H'=bN H3 q (.tup [.int (g (0+(i:Int))),.int (0+(i:Int))])) ∧
   ∀ D H3 (ms:List Int),aW H2 H3->H3 D=none->ms.Perm (lE 0 n)->(ms.Pairwise fun i j=>g i*64+i<=g j*64+j)->Q (.ref D) (bN H3 D (.lst (ms.map V.int))))] at h0
  exact h0
 ·subst ev ex;obtain ⟨u,rfl,ru⟩:=vals1 r1;cases (show u=Value.ref l from ru);show wpAny _ _ (evalAll [do let v <- eval (.Lambda params body scope lpos) X.env; standAt pos; pure v]) _ _ s1;refine wpAny_evalAll_cons (wpAny_bind (GD I1 hcode C B hT S hdef fun f c' pm ctv H2 s2 st hit I2=>wpAny_bind (wpAny_standAt (wpAny_pure (wpAny_evalAll_nil ?_)))));obtain ⟨q2,q3⟩:=q1 H2 c' st hit;have hl2:H2 l=some (.rng 0 (n:Int)):=st.get hT hl fun _ z=>nomatch z
  obtain ⟨t,u,v,hr2⟩:=(show cJ X.prog X.w H2 s2.heap l (.rng 0 (n:Int)) from I2.hok l _ hl2)
  have fin:=Fp (E:=X.xe) (Q:=Q) (fa:=f) (g:=g) (I2.ok.hd hc) I2 hr2 hn (fun i tk hi=>Eb (A:=X.A.in1.in1) I2.ok.frames (I2.ok.hd hc) hr.depth S nl hp hco hgen hbind (hb X.A.in1.in1) (x:=.int (0+(i:Int))) ⟨tk,rfl⟩ (Yb _ (.head _)) hit.2 fun H3 s3=>q2 i H3 hi s3) fun D H3 ms s3 hD hp hs=>q3 D H3 ms s3 hD hp hs;exact cM fin fun r s3 ⟨v,H3,I3,rv,qv⟩=>⟨v,H3,I3.unpinned,rv,qv⟩
 ·show backTo pos (starEach [e] X.env)=(false,eval e X.env)::_;rw [hs]
  rfl
 ·rw [hs]
  rfl
end L2
namespace TH
open PySem L2 TD TP TG
open Builtin.Int (intBits)
section
variable {S:Sk}{m:Nat}
theorem Aw (m6:m<=6)(h0:bY S 0=true){xs:List (Int×Int)}(hp:∀ x∈xs,0<x.2){o:List Int}(ho:∀ x∈o,x∈six m):∀ j,j<=o.length ->
  0<=(o.take j).foldl (fZ (bY S) xs) 0/\(o.take j).foldl (fZ (bY S) xs) 0<((2^m:Nat):Int)/\bY S ((o.take j).foldl (fZ (bY S) xs) 0)=true/\Run (JS S m) (fO xs) (o.take j) (hb ((o.take j).foldl (fZ (bY S) xs) 0))
 | 0,_=>by
  have p:0<2^m:=aAG (by decide);exact ⟨Y_ _,by show (0:Int)<_; omega,h0,.nil fun x hx=>TP.GR x⟩
 | j+1,hl=>by
  obtain ⟨a,b,ms,r⟩:=Aw m6 h0 hp ho j (by omega);have ep:o[j]? = some (o[j]'(by omega)):=YL _;have hd:=ho _ (ZK (show j<o.length by omega));rw [take_snoc ep,aAz];show 0<=fZ (bY S) xs _ (o[j]'(by omega))/\fZ (bY S) xs _ (o[j]'(by omega))<_/\bY S (fZ (bY S) xs _ (o[j]'(by omega)))=true/\Run _ _ _ (hb (fZ (bY S) xs _ (o[j]'(by omega))));generalize o[j]'(by omega)=d at *;generalize (o.take j).foldl (fZ (bY S) xs) 0=k at *;have yO:2^m<=64:=Y7 (Zy (by decide) m6) (by decide);have dm:=dH hd;have or1:=qN ⟨m,by omega⟩ ⟨k.toNat,by omega⟩ ⟨d.toNat,by omega⟩ (by show k.toNat<2^m; omega) (by show d.toNat<m; omega);have ek:((k.toNat:Nat):Int)=k:=by omega
  have ed:((d.toNat:Nat):Int)=d:=by omega
  simp only [ek,ed] at or1;have oe:∀ x∈six 6,hb (Builtin.bitOr k (1*2^d.toNat)) x=put (hb k) d x:=fun x hx=>by
   have z:=FT ⟨k.toNat,by omega⟩ d (Do m6 hd) x hx;simp only [ek] at z;exact z
  unfold fZ
  by_cases t:yN (0,1) (oV xs d)/\bY S (Builtin.bitOr k (1*2^d.toNat))=true
  ·rw [if_pos t];exact ⟨or1.1,or1.2,t.2,.take r ((pos_iff hp d).mp t.1) oe ⟨_,or1.1,or1.2,t.2,fun x _=>rfl⟩⟩
  ·rw [if_neg t];refine ⟨a,b,ms,.skip r fun z=>t ⟨(pos_iff hp d).mpr z.1,?_⟩⟩;obtain ⟨l,l0,l1,lm,le⟩:=z.2;have:Builtin.bitOr k (1*2^d.toNat)=l:=FN or1.1 (by omega) l0 (by omega) fun x hx=>by rw [oe x hx,le x hx]
   rw [this];exact lm
theorem Ik (f:fM S m)(m6:m<=6){xs:List (Int×Int)}(hl:xs.length=m)(hp:∀ x∈xs,0<x.2) :
  0<=Cg (bY S) xs/\Cg (bY S) xs<((2^m:Nat):Int)/\bY S (Cg (bY S) xs)=true/\∀ k,0<=k->k<((2^m:Nat):Int)->bY S k=true->Bb xs k<=Bb xs (Cg (bY S) xs):=by
 have mt:=f.mtr m6;have pm:=gR xs m;have ho:∀ x∈bH xs m,x∈six m:=fun x hx=>pm.mem_iff.mp hx;obtain ⟨a,b,ms,r⟩:=Aw m6 f.z hp ho (bH xs m).length (YS _);rw [Yz] at a b ms r;have e:(bH xs m).foldl (fZ (bY S) xs) 0=Cg (bY S) xs:=by unfold Cg; rw [hl]
 rw [e] at a b ms r;have yO:2^m<=64:=Y7 (Zy (by decide) m6) (by decide);refine ⟨a,b,ms,fun k k0 k1 hk=>?_⟩;have nd:(bH xs m).Nodup:=pm.nodup_iff.mpr (by
  unfold six;refine Zn.map _ (fun x y (hxy:x≠y)=>?_) List.nodup_range;intro z;exact hxy (by omega))
 have eq:∀ k,0<=k->k<((2^m:Nat):Int)->sw (fO xs) (hb k) (bH xs m)=Bb xs k:=fun k k0 k1=>by
  rw [tH];have p2:((bH xs m).filter (hb k)).Perm ((six m).filter (hb k)):=pm.filter _;have z:=lO ⟨m,by omega⟩ ⟨k.toNat,by omega⟩ (by show k.toNat<2^m; omega);have ek:((k.toNat:Nat):Int)=k:=by omega
  simp only [ek] at z;rw [Fv (p2.map _),z]
  rfl
 rw [<- eq k k0 k1,<- eq _ a b];refine r.top mt nd (fun x hx=>Do m6 (ho x hx)) (kY hp m) ⟨k,k0,k1,hk,fun _ _=>rfl⟩ fun x hx z=>?_;have bz:=lO ⟨m,by omega⟩ ⟨k.toNat,by omega⟩ (by show k.toNat<2^m; omega);have ek:((k.toNat:Nat):Int)=k:=by omega
 simp only [ek] at bz;have mm:x∈eQ k:=ZX.mpr ⟨hx,z⟩;rw [<- bz] at mm;exact pm.mem_iff.mpr (ZX.mp mm).1
end
def QH (xs:List (Int×Int))(x y:Int):Prop:=fO xs y<fO xs x∨(fO xs y=fO xs x/\x<y)
theorem pP {xs:List (Int×Int)}(hp:∀ x∈xs,0<x.2){o:List Int}{b:Int}(so:o.Pairwise fun x y=>fO xs y<=fO xs x):∀ p,p<=o.length->(∀ x∈o.take (eX xs o b p),fO xs b<=fO xs x)/\∀ x∈(o.take p).drop (eX xs o b p),fO xs x<fO xs b
 | 0,_=>⟨(fun x h=>by unfold eX at h; simp at h),(fun x h=>by simp at h)⟩
 | p+1,hl=>by
  have ih:=pP hp so (b:=b) p (by omega);have ep:o[p]? = some (o[p]'(by omega)):=YL _;have eg:o.getD p 0=o[p]'(by omega):=by rw [Y5,ep]; rfl
  unfold eX
  by_cases h:yN (oV xs (o.getD p 0)) (oV xs b)
  ·rw [if_pos h];refine ⟨ih.1,fun x hx=>?_⟩;have lt:=(uP hp _ _).mp h;have le:=pI xs o b p;rw [take_snoc ep,aAF (by rw [Yw]; omega)] at hx;rcases Ye.mp hx with z | z
   ·exact ih.2 x z
   ·rw [YT.mp z,<- eg];exact lt
  ·rw [if_neg h];refine ⟨(nA hp so (b:=b) (p+1) hl).1 |> fun g=>?_,(fun x hx=>by simp at hx)⟩;unfold eX at g;rw [if_neg h] at g;exact g
theorem rJ {xs:List (Int×Int)}(hp:∀ x∈xs,0<x.2):∀ i,(bH xs i).Pairwise (QH xs)
 | 0=>Zn.nil
 | i+1=>by
  show (fQ xs (bH xs i) (0+(i:Int))).Pairwise _;have so:=kY hp i;have ih:=rJ hp i;have lt:∀ x∈bH xs i,x<0+(i:Int):=fun x hx=>by have:=fB xs i x hx; omega
  obtain ⟨h1,h2⟩:=pP hp so (b:=0+(i:Int)) (bH xs i).length (YS _);rw [Yz] at h2;unfold fQ;generalize eX xs (bH xs i) (0+(i:Int)) (bH xs i).length=p at *;have sp:((bH xs i).take p++(bH xs i).drop p).Pairwise (QH xs):=by rw [Z6]; exact ih
  obtain ⟨s1,s2,s3⟩:=ZG.mp sp;refine ZG.mpr ⟨s1,aAt.mpr ⟨fun y hy=>.inl (h2 y hy),s2⟩,fun x hx y hy=>?_⟩;rcases Yn.mp hy with e | e
  ·rw [e];have a:=h1 x hx;have b:=lt x (aBj hx);unfold QH;rcases (by grind:fO xs (0+(i:Int))<fO xs x∨fO xs (0+(i:Int))=fO xs x) with z | z
   ·exact .inl z
   ·exact .inr ⟨z,b⟩
  ·exact s3 x hx y e
structure Em (xs:List (Int×Int))(ts:List Int)(sc:Int):Prop where
 len:ts.length=xs.length
 pos:0<sc
 at_:∀ b:Int,0<=b->b<(xs.length:Int)->(ts.getD b.toNat 0:Rat)=fO xs b*(sc:Rat)
theorem Em.lt {xs:List (Int×Int)}{ts:List Int}{sc:Int}(s:Em xs ts sc){a b:Int}(a0:0<=a)(a1:a<(xs.length:Int))(b0:0<=b)(b1:b<(xs.length:Int)):ts.getD a.toNat 0<ts.getD b.toNat 0↔fO xs a<fO xs b:=by
 have e1:=s.at_ a a0 a1;have e2:=s.at_ b b0 b1;have sp:(0:Rat)<(sc:Rat):=by exact_mod_cast s.pos
 have c:ts.getD a.toNat 0<ts.getD b.toNat 0↔((ts.getD a.toNat 0:Int):Rat)<((ts.getD b.toNat 0:Int):Rat):=by norm_cast
 rw [c,e1,e2];constructor
 ·intro h;have:=(aAH sp).mp h;exact this
 ·intro h;exact (aAH sp).mpr h
theorem Bc {xs:List (Int×Int)}{ts:List Int}{sc:Int}(s:Em xs ts sc)(h6:xs.length<=6)(hp:∀ x∈xs,0<x.2){ms:List Int}(pm:ms.Perm (six xs.length))(so:ms.Pairwise fun i j=>(0-ts.getD i.toNat 0)*64+i<=(0-ts.getD j.toNat 0)*64+j):ms=bH xs xs.length:=by
 have pf:=gR xs xs.length;refine (pm.trans pf.symm).eq_of_pairwise (le:=fun i j=>(0-ts.getD i.toNat 0)*64+i<=(0-ts.getD j.toNat 0)*64+j) (fun a b ha hb h1 h2=>?_) so ?_
 ·have r1:=dH (pm.mem_iff.mp ha);have r2:=dH (pf.mem_iff.mp hb);omega
 ·refine (rJ hp xs.length).imp_of_mem fun {x y} hx hy h=>?_;have r1:=dH (pf.mem_iff.mp hx);have r2:=dH (pf.mem_iff.mp hy);rcases h with h | ⟨h,l⟩
  ·have:=(s.lt r2.1 r2.2 r1.1 r1.2).mpr h;omega
  ·have n1:¬ ts.getD x.toNat 0<ts.getD y.toNat 0:=fun z=>by have:=(s.lt r1.1 r1.2 r2.1 r2.2).mp z; grind
   have n2:¬ ts.getD y.toNat 0<ts.getD x.toNat 0:=fun z=>by have:=(s.lt r2.1 r2.2 r1.1 r1.2).mp z; grind
   omega
theorem Em.pos_iff {xs:List (Int×Int)}{ts:List Int}{sc:Int}(s:Em xs ts sc)(hp:∀ x∈xs,0<x.2){b:Int}(b0:0<=b)(b1:b<(xs.length:Int)):0<ts.getD b.toNat 0↔yN (0,1) (oV xs b):=by
 rw [TG.pos_iff hp b];have e:=s.at_ b b0 b1;have sp:(0:Rat)<(sc:Rat):=by exact_mod_cast s.pos
 have c:0<ts.getD b.toNat 0↔(0:Rat)<((ts.getD b.toNat 0:Int):Rat):=by norm_cast
 rw [c,e];have z:(0:Rat)<fO xs b*(sc:Rat)↔0*(sc:Rat)<fO xs b*(sc:Rat):=by rw [Rat.zero_mul]
 rw [z];exact aAH sp
def lst (may:Int->Bool)(ts:List Int)(k b:Int):Int:=if 0<ts.getD b.toNat 0/\may (Builtin.bitOr k (1*2^b.toNat))=true then Builtin.bitOr k (1*2^b.toNat) else k
theorem Ec {xs:List (Int×Int)}{ts:List Int}{sc:Int}(s:Em xs ts sc)(hp:∀ x∈xs,0<x.2)(may:Int->Bool):∀ (o:List Int) (k:Int),(∀ b∈o,0<=b/\b<(xs.length:Int))->o.foldl (lst may ts) k=o.foldl (fZ may xs) k
 | [],_,_=>rfl
 | b::o,k,h=>by
  rw [Zw,Zw];have r:=h b Yg;have e:lst may ts k b=fZ may xs k b:=by
   unfold lst fZ
   by_cases z:0<ts.getD b.toNat 0/\may (Builtin.bitOr k (1*2^b.toNat))=true
   ·rw [if_pos z,if_pos ⟨(s.pos_iff hp r.1 r.2).mp z.1,z.2⟩]
   ·rw [if_neg z,if_neg fun y=>z ⟨(s.pos_iff hp r.1 r.2).mpr y.1,y.2⟩]
  rw [e];exact Ec s hp may o _ fun x hx=>h x (Y8 _ hx)
def Bq (ts:List Int)(n:Nat)(k:Int):Int:=(((six n).filter (hb k)).map fun b=>ts.getD b.toNat 0).sum
theorem BJ {xs:List (Int×Int)}{ts:List Int}{sc:Int}(s:Em xs ts sc):∀ (l:List Int),(∀ b∈l,0<=b/\b<(xs.length:Int))->(((l.map fun b=>ts.getD b.toNat 0).sum:Int):Rat)=(l.map (fO xs)).sum*(sc:Rat)
 | [],_=>by simp
 | b::l,h=>by
  have r:=h b Yg;rw [ZF,ZF,aAr,aAr]
  push_cast
  rw [s.at_ b r.1 r.2,BJ s l fun x hx=>h x (Y8 _ hx)]
  grind
theorem Gx {xs:List (Int×Int)}{ts:List Int}{sc:Int}(s:Em xs ts sc)(h6:xs.length<=6){k l:Int}(k0:0<=k)(k1:k<((2^xs.length:Nat):Int))(l0:0<=l)(l1:l<((2^xs.length:Nat):Int))(h:Bb xs k<=Bb xs l):Bq ts xs.length k<=Bq ts xs.length l:=by
 have yO:2^xs.length<=64:=yO h6;have one:∀ k:Int,0<=k->k<((2^xs.length:Nat):Int)->((Bq ts xs.length k:Int):Rat)=Bb xs k*(sc:Rat):=fun k k0 k1=>by
  unfold Bq;rw [BJ s _ fun b hb1=>dH (ZX.mp hb1).1];have z:=lO ⟨xs.length,by omega⟩ ⟨k.toNat,by omega⟩ (by show k.toNat<2^xs.length; omega);simp only [show ((k.toNat:Nat):Int)=k by omega] at z;rw [z]
  rfl
 have sp:(0:Rat)<=(sc:Rat):=aBx (by exact_mod_cast s.pos);have:=Z_ h sp;rw [<- one k k0 k1,<- one l l0 l1] at this
 exact_mod_cast this
def fW (H H':Hp):Prop:=∀ b o,(∀ ps,o≠.tbl ps)->H b=some o->H' b=some o
theorem aW.toN {H H':Hp}(s:aW H H'):fW H H':=fun b o _ e=>s b o e
theorem fW.trans {H H1 H2:Hp}(a:fW H H1)(b:fW H1 H2):fW H H2:=fun x o n e=>b x o n (a x o n e)
theorem fW.of {P:Addr}{pos:Pos}{qual:Str}{H H':Hp}(a:j9 P H H')(t:mZ P pos qual H):fW H H':=fun b o n e=>a.get t e n
theorem jX.sameN {p:yH}{H H':Hp}{x:Addr}{S:Sk}(s:fW H H')(h:jX p H x S):jX p H' x S:=by
 cases S with
 | few c=>obtain ⟨dx,a⟩:=(show oJ p.f H x c from h); exact ⟨dx,s _ _ (fun _ z=>nomatch z) a⟩
 | groups gs ms=>obtain ⟨dx,g,m,a,b,c⟩:=(show vI p.g H x gs ms from h); exact ⟨dx,g,m,s _ _ (fun _ z=>nomatch z) a,s _ _ (fun _ z=>nomatch z) b,s _ _ (fun _ z=>nomatch z) c⟩
 | listed ks=>obtain ⟨ms,a,b,dx,k,c,d⟩:=h; exact ⟨ms,a,b,dx,k,s _ _ (fun _ z=>nomatch z) c,s _ _ (fun _ z=>nomatch z) d⟩
theorem oX.sameN {H H':Hp}{p:Addr}{S:Sk}(s:fW H H')(h:oX H p S):oX H' p S:=by
 cases S with
 | few c=>exact s _ _ (fun _ z=>nomatch z) h
 | groups gs ms=>obtain ⟨g,m,a,b,c⟩:=h; exact ⟨g,m,s _ _ (fun _ z=>nomatch z) a,s _ _ (fun _ z=>nomatch z) b,s _ _ (fun _ z=>nomatch z) c⟩
 | listed ks=>obtain ⟨k,a,b⟩:=h; exact ⟨k,s _ _ (fun _ z=>nomatch z) a,s _ _ (fun _ z=>nomatch z) b⟩
theorem fD.sameN {H H':Hp}{a:Addr}{qs:List Addr}{xs:List (Int×Int)}(s:fW H H')(h:fD H a qs xs):fD H' a qs xs:=⟨s _ _ (fun _ z=>nomatch z) h.lst,h.len,fun i q hq=>s _ _ (fun _ z=>nomatch z) (h.each i q hq)⟩
theorem none_of {H H':Hp}{r:Addr}(s:aW H H')(h:H' r=none):H r=none:=by
 cases e:H r with
 | none=>rfl
 | some o=>rw [s _ _ e] at h; cases h
structure Ga (xs:List (Int×Int))(m:Nat):Prop where
 len:xs.length=m
 b:∀ x∈xs,0<x.2/\x.2<=12/\intBits x.1<=200
theorem Ga.pos {xs:List (Int×Int)}{m:Nat}(f:Ga xs m):∀ x∈xs,0<x.2:=fun x hx=>(f.b x hx).1
def JF (K:PySem.W.Frag):Sp:=fun vs H Q _=>∃ (a:Addr) (ns:List Int) (m:Nat),vs=[.ref a,.int (m:Int)]/\bJ K H a (ns.map V.int)/\1<=m/\m<=6/\∀ r H' qs xs,aW H H'->fD H' r qs xs->Ga xs m->Q (.ref r) H'
def Es:Sp:=fun vs H Q _=>∃ (a:Addr) (qs:List Addr) (xs:List (Int×Int)) (m:Nat),vs=[.ref a]/\fD H a qs xs/\Ga xs m/\m<=6/\∀ r H' ts sc,aW H H'->H' r=some (.lst (Is ts))->Em xs ts sc->Q (.ref r) H'
def GJ:Sp:=fun vs H Q _=>∃ (a:Addr) (ts:List Int) (k:Int),vs=[.ref a,.int k]/\H a=some (.lst (Is ts))/\ts.length<=6/\∀ H',aW H H'->Q (.int (Bq ts ts.length k)) H'
def Ew:Sp:=fun vs H Q _=>∃ (a:Addr) (ss:List Int),vs=[.ref a]/\H a=some (.lst (Is ss))/\Np ss/\Q (.bl (qL (.int 0) (Is ss)&&(!wJ ss&&!Ce ss))) H
def JK (P:Addr)(pos:Pos)(qual:Str):Sp:=fun vs H Q _=>∃ (r a:Addr) (S:Sk) (ts:List Int) (xs:List (Int×Int)) (sc:Int) (m:Nat),vs=[.ref r,.ref a]/\oX H r S/\wD S/\H a=some (.lst (Is ts))/\Em xs ts sc/\Ga xs m/\1<=m/\m<=6/\mZ P pos qual H/\∀ H',fW H H'->Q (.int (Cg (bY S) xs)) H'
def JL:Sp:=fun vs H Q _=>∃ a b:Int,vs=[.int a,.int b]/\0<=a/\0<=b/\Q (.int ((aAV a b:Nat):Int)) H
def rY (p:yH):Sp:=fun vs H Q _=>∃ (x a:Addr) (S:Sk) (qs:List Addr) (xs:List (Int×Int)),vs=[.ref x,.ref a]/\jX p H x S/\wD S/\fD H a qs xs/\xs.length<=6/\(∀ x∈xs,intBits x.1<=4000/\intBits x.2<=4000)/\∀ r H',aW H H'->H r=none->H' r=some (.lst (Is (eQ (Cg (bY S) xs))))->Q (.ref r) H'
def pD (K:PySem.W.Frag)(P:Addr):Sp:=fun vs H Q _=>∃ (a:Addr) (ns:List Int),vs=[.ref a]/\bJ K H a (ns.map V.int)/\ns.length<=63/\H P=some (.tbl #[])/\∀ H',Q (.bl true) H'
end TH
namespace K34
open PySem L2 TD
def top (i:Nat):Stmt:=PySem.Challenge.pw_lidprice_k34_whole_greedy_choosing.main.body.getD i (.Pass ⟨0,0,0,0⟩)
def Ji:Pos:=⟨219,59,219,116⟩
theorem oO:aY ["thing","least","most"] ["thing","least","most"] (aN (top 5)):=⟨rfl,rfl,rfl,by decide +kernel,rfl,by decide +kernel,by decide +kernel⟩
theorem vG:aY ["number"] ["number"] (aN (top 6)):=⟨rfl,rfl,rfl,by decide +kernel,rfl,by decide +kernel,by decide +kernel⟩
theorem xD:aY ["one","other"] ["one","other"] (aN (top 7)):=⟨rfl,rfl,rfl,by decide +kernel,rfl,by decide +kernel,by decide +kernel⟩
theorem qJ:aY ["kept","box"] ["kept","box"] (aN (top 11)):=⟨rfl,rfl,rfl,by decide +kernel,rfl,by decide +kernel,by decide +kernel⟩
theorem oF:aY ["kept"] ["kept"] (aN (top 12)):=⟨rfl,rfl,rfl,by decide +kernel,rfl,by decide +kernel,by decide +kernel⟩
theorem pM:aY ["kept"] ["kept"] (aN (top 13)):=⟨rfl,rfl,rfl,by decide +kernel,rfl,by decide +kernel,by decide +kernel⟩
theorem n6:aY ["kept","box"] ["kept","box"] (aN (top 14)):=⟨rfl,rfl,rfl,by decide +kernel,rfl,by decide +kernel,by decide +kernel⟩
theorem jW:aY ["things","fewest","most","greatest_number"] ["things","fewest","most","greatest_number"] (aN (top 15)):=⟨rfl,rfl,rfl,by decide +kernel,rfl,by decide +kernel,by decide +kernel⟩
theorem qD:aY ["worths","order","box","place"] ["worths"] (aN (top 20)):=⟨rfl,rfl,rfl,by decide +kernel,rfl,by decide +kernel,by decide +kernel⟩
theorem rQ:aY ["pattern","worths","kept","box"] ["pattern","worths"] (aN (top 21)):=⟨rfl,rfl,rfl,by decide +kernel,rfl,by decide +kernel,by decide +kernel⟩
theorem iT:aY ["_law_script","_law_k","_law_number"] ["_law_script","_law_k"] (aN (top 23)):=⟨rfl,rfl,rfl,by decide +kernel,rfl,by decide +kernel,by decide +kernel⟩
theorem mH:aY ["_law_script","_law_first","_law_most","_law_drawn"] ["_law_script","_law_first","_law_most"] (aN (top 24)):=⟨rfl,rfl,rfl,by decide +kernel,rfl,by decide +kernel,by decide +kernel⟩
theorem lY:aY ["_law_kept","_law_size_here","_law_box"] ["_law_kept"] (aN (top 25)):=⟨rfl,rfl,rfl,by decide +kernel,rfl,by decide +kernel,by decide +kernel⟩
theorem n8:aY ["_law_spec_here","_law_kept","_law_many_here","_law_box","_law_group"] ["_law_spec_here","_law_kept"] (aN (top 26)):=⟨rfl,rfl,rfl,by decide +kernel,rfl,by decide +kernel,by decide +kernel⟩
theorem jA:aY ["_law_pairs","_law_kept","_law_roots","_law_box","_law_one","_law_other"] ["_law_pairs","_law_kept"] (aN (top 27)):=⟨rfl,rfl,rfl,by decide +kernel,rfl,by decide +kernel,by decide +kernel⟩
theorem jY:aY ["_law_some","_law_many_here","_law_found","_law_kept"] ["_law_some","_law_many_here"] (aN (top 28)):=⟨rfl,rfl,rfl,by decide +kernel,rfl,by decide +kernel,by decide +kernel⟩
theorem mG:aY ["_law_script","_law_k","_law_number","_law_some"] ["_law_script","_law_k"] (aN (top 29)):=⟨rfl,rfl,rfl,by decide +kernel,rfl,by decide +kernel,by decide +kernel⟩
theorem jD:aY ["_law_script","_law_way","_law_many_here","_law_some","_law_pairs","_law_found"] ["_law_script","_law_way","_law_many_here"] (aN (top 30)):=⟨rfl,rfl,rfl,by decide +kernel,rfl,by decide +kernel,by decide +kernel⟩
theorem lM:aY ["_law_script","_law_many_here","_law_way","_law_groups","_law_most"] ["_law_script","_law_many_here"] (aN (top 31)):=⟨rfl,rfl,rfl,by decide +kernel,rfl,by decide +kernel,by decide +kernel⟩
theorem mD:aY ["_law_spec_here"] ["_law_spec_here"] (aN (top 32)):=⟨rfl,rfl,rfl,by decide +kernel,rfl,by decide +kernel,by decide +kernel⟩
theorem j6:aY ["_law_sets","_law_one","_law_other","_law_box"] ["_law_sets","_law_one","_law_other"] (aN (top 33)):=⟨rfl,rfl,rfl,by decide +kernel,rfl,by decide +kernel,by decide +kernel⟩
theorem gH:aY ["_law_sets","_law_one","_law_box"] ["_law_sets"] (aN (top 34)):=⟨rfl,rfl,rfl,by decide +kernel,rfl,by decide +kernel,by decide +kernel⟩
theorem gO:aY ["_law_sets","_law_one","_law_other"] ["_law_sets"] (aN (top 35)):=⟨rfl,rfl,rfl,by decide +kernel,rfl,by decide +kernel,by decide +kernel⟩
theorem iU:aY ["_law_one","_law_other"] ["_law_one","_law_other"] (aN (top 36)):=⟨rfl,rfl,rfl,by decide +kernel,rfl,by decide +kernel,by decide +kernel⟩
theorem fU:aY ["_law_script","_law_many_here","_law_found","_law_k","_law_cell","_law_top","_law_bottom","_law_by"] ["_law_script","_law_many_here"] (aN (top 37)):=⟨rfl,rfl,rfl,by decide +kernel,rfl,by decide +kernel,by decide +kernel⟩
theorem lX:aY ["_law_fractions_here","_law_scale","_law_top","_law_bottom"] ["_law_fractions_here"] (aN (top 38)):=⟨rfl,rfl,rfl,by decide +kernel,rfl,by decide +kernel,by decide +kernel⟩
theorem jG:aY ["_law_spec_here","_law_tops_here","_law_kept","_law_box"] ["_law_spec_here","_law_tops_here"] (aN (top 39)):=⟨rfl,rfl,rfl,by decide +kernel,rfl,by decide +kernel,by decide +kernel⟩
theorem oH:aY ["_law_tops_here","_law_kept"] ["_law_tops_here","_law_kept"] (aN (top 40)):=⟨rfl,rfl,rfl,by decide +kernel,rfl,by decide +kernel,by decide +kernel⟩
theorem FZ:aY ["_law_script","_law_many_here","_law_spec_here","_law_pattern","_law_fractions_here","_law_tops_here","_law_kept","_law_handed","_law_found","_law_sets","_law_most"] ["_law_script"] (aN (top 41)):=⟨rfl,rfl,rfl,by decide +kernel,rfl,by decide +kernel,by decide +kernel⟩
theorem iV:aY ["self","count"] ["self","count"] (aN (inClass (top 17) 0)):=⟨rfl,rfl,rfl,by decide +kernel,rfl,by decide +kernel,by decide +kernel⟩
theorem pY:aY ["self","kept"] ["self","kept"] (aN (inClass (top 17) 1)):=⟨rfl,rfl,rfl,by decide +kernel,rfl,by decide +kernel,by decide +kernel⟩
theorem fK:aY ["self","groups","most"] ["self","groups","most"] (aN (inClass (top 18) 0)):=⟨rfl,rfl,rfl,by decide +kernel,rfl,by decide +kernel,by decide +kernel⟩
theorem j8:aY ["self","kept","boxes","groups"] ["self","kept"] (aN (inClass (top 18) 1)):=⟨rfl,rfl,rfl,by decide +kernel,rfl,by decide +kernel,by decide +kernel⟩
theorem fH:aY ["self","sets"] ["self","sets"] (aN (inClass (top 19) 0)):=⟨rfl,rfl,rfl,by decide +kernel,rfl,by decide +kernel,by decide +kernel⟩
theorem jZ:aY ["self","kept"] ["self","kept"] (aN (inClass (top 19) 1)):=⟨rfl,rfl,rfl,by decide +kernel,rfl,by decide +kernel,by decide +kernel⟩
end K34
namespace K34
open PySem L2 TD
open Builtin.Int (intBits)
section
variable {P:Program}{w:World}{K:PySem.W.Frag}{mg:Str->Option Value}{base:Heap}{Pt:Addr}
theorem xE {n:Nat}{f:Addr}{fd:FuncData}(F:eN K "is_whole" "is_whole" (top 5) f fd)(h_:mg "isinstance" = none)(Wy:mg "bool" = none)(W5:mg "int" = none):bO P w K mg base eE (n+1) f fd ["thing","least","most"] Fe:=by
 refine F.ok oO (fun vs H Q E h=>?_) (fun cdv A outer s H vs Q E hr h=>?_)
 ·obtain ⟨v,lo,hi,b,rfl,_⟩:=h
  rfl
 obtain ⟨v,lo,hi,b,rfl,h,q⟩:=h;have nd:=oO.nd;refine ⟨_,(aG (aU (Fj (aV (fP (T:="int")) rfl h_ dR (aA (pv 0) (aA (pC (v:=.ty "int") rfl W5 Dz rfl) aD))) (Fj (Jv (aV (fP (T:="bool")) rfl h_ dR (aA (pv 0) (aA (pC (v:=.ty "bool") rfl Wy Ie rfl) aD)))) (Kc (Dy qF qF (pv 1) (pv 0) (pv 2))))))),?_⟩;cases h with
 | no h =>
  obtain ⟨t,ht,hk⟩:=h K;refine ⟨_,rfl,_,_,_,rfl,ht,hk,_,rfl,?_⟩;exact jH q
 | bl c =>
  refine ⟨_,rfl,_,_,_,rfl,.bl c,uJ,_,rfl,?_⟩;refine uY ?_;refine ⟨_,rfl,_,_,_,rfl,.bl c,lN _,_,rfl,?_⟩;refine ⟨_,rfl,?_⟩;exact jH q
 | int i =>
  refine ⟨_,rfl,_,_,_,rfl,.int i,lN _,_,rfl,?_⟩;refine uY ?_;refine ⟨_,rfl,_,_,_,rfl,.int i,u5,_,rfl,?_⟩;refine ⟨_,rfl,?_⟩;refine uY ?_;refine ⟨_,rfl,_,rfl,_,_,rfl,rfl,_,rfl,?_⟩
  by_cases h1:lo<=i
  ·refine jL (decide_eq_true h1) ?_;refine ⟨_,rfl,_,_,rfl,rfl,?_⟩;rw [decide_eq_true h1] at q;exact q
  ·refine eU (decide_eq_false h1) ?_;rw [decide_eq_false h1] at q;exact q
end
end K34
namespace K34
open PySem L2 TD TP
open Builtin.Int (intBits)
section
variable {P:Program}{w:World}{K:PySem.W.Frag}{mg:Str->Option Value}{base:Heap}{Pt:Addr}
theorem zF {n:Nat}{f:Addr}{fd:FuncData}(F:eN K "has_box" "has_box" (top 11) f fd):bO P w K mg base eE (n+1) f fd ["kept","box"] J2:=by
 refine F.ok qJ (fun vs H Q E h=>?_) (fun cdv A outer s H vs Q E hr h=>?_)
 ·obtain ⟨k,b,rfl,_⟩:=h
  rfl
 obtain ⟨k,b,rfl,GR,q⟩:=h;have nd:=qJ.nd;refine ⟨_,(aG (aU (dI cH (aJ fG (aJ gA (pv 0) (pv 1)) aB) aB (aX _)))),?_⟩;exact ⟨_,rfl,_,rfl,_,_,rfl,rfl,GR,_,_,rfl,rfl,rfl,q⟩
theorem wA {n:Nat}{f:Addr}{fd:FuncData}(F:eN K "boxes_of" "boxes_of" (top 12) f fd){XH:Addr}{Wz:FuncData}(XJ:fJ P w K mg base n "has_box" ["kept","box"] J2 XH Wz)(b_:mg "range" = none){i_:Value}(cC:mg "MOST_BOXES" = some i_)(d_:RelV (.int 6) i_):bO P w K mg base eE (n+1) f fd ["kept"] uZ:=by
 refine F.ok oF (fun vs H Q E h=>?_) (fun cdv A outer s H vs Q E hr h=>?_)
 ·obtain ⟨k,rfl,_⟩:=h
  rfl
 obtain ⟨k,rfl,q⟩:=h;have nd:=oF.nd;refine ⟨_,(aG (aU (dC (ls:=["box"]) (M:=["kept"]) rfl (bT.of (by rfl)) (NL.of (by rfl)) (bK rfl b_ (aA (eV (v:=.int 6) rfl cC d_) aD)) (fun _ _ _ _=>⟨(bA (i:=0) (c7 (by rfl)) rfl (Or.inl rfl)),(jM (cU (aL XJ hr (aA (pv 1) (aA (pv 0) aD))))),(pv 0)⟩)))),?_⟩;refine ⟨6,rfl,by decide,by decide,fun D hD=>?_⟩;refine bW (n:=(6:Int).toNat) (fun i τ H'=>∃ v0,τ = [v0,some (.int k)]/\aW H H'/\H' D=some (.lst (Is ((six i).filter (hb k))))) ⟨none,rfl,aH hD _,aC⟩ ?turn ?done
 case turn =>
  rintro i m τ H' hm hi ⟨v0,rfl,hs,hD'⟩;refine ⟨_,rfl,_,rfl,k,0+(i:Int),rfl,by omega,?_⟩;cases eb:hb k (0+(i:Int)) with
  | false =>
   refine ⟨_,rfl,?_⟩;refine eU rfl ?_;refine dO hm hi ⟨_,rfl,hs,?_⟩;rw [eF,Zt,show [0+(i:Int)].filter (hb k)=[] by rw [Zq,eb]; rfl,Zc];exact hD'
  | true =>
   refine ⟨_,rfl,?_⟩;refine jL rfl ?_;refine ⟨_,rfl,?_⟩;refine bF hm hi hD' (by rw [aK]; exact aP (Y7 (Ze _ _) (by unfold six; rw [YQ,Z4]; have:i<6:=hi; omega))) ⟨_,rfl,hs.upd_new hD _,?_⟩;rw [aC,eF,Zt,show [0+(i:Int)].filter (hb k)=[0+(i:Int)] by rw [Zq,eb]; rfl,cD]
 case done =>
  rintro τ H' ⟨v0,rfl,hs,hD'⟩;exact q D H' hs hD hD'
theorem zL {n:Nat}{f:Addr}{fd:FuncData}(F:eN K "size_of" "size_of" (top 13) f fd){o_:Addr}{m_:FuncData}(p_:fJ P w K mg base n "boxes_of" ["kept"] uZ o_ m_)(e_:mg "len" = none):bO P w K mg base eE (n+1) f fd ["kept"] Lr:=by
 refine F.ok pM (fun vs H Q E h=>?_) (fun cdv A outer s H vs Q E hr h=>?_)
 ·obtain ⟨k,rfl,_⟩:=h
  rfl
 obtain ⟨k,rfl,q⟩:=h;have nd:=pM.nd;refine ⟨_,(aG (aU (aV bC rfl e_ cW (aA (aL p_ hr (aA (pv 0) aD)) aD)))),?_⟩;refine ⟨_,rfl,k,rfl,fun r H1 s1 _ hr1=>?_⟩;refine ⟨r,_,rfl,.inl (bJ.of hr1),?_⟩;rw [aK];exact q H1 s1
theorem rD {n:Nat}{f:Addr}{fd:FuncData}(F:eN K "is_numbers" "is_numbers" (top 15) f fd){H_:Addr}{B_:FuncData}(I_:fJ P w K mg base n "is_whole" ["thing","least","most"] Ds H_ B_)(Vy:mg "all" = none)(e_:mg "len" = none)(h_:mg "isinstance" = none)(l_:mg "list" = none):bO P w K mg base eE (n+1) f fd ["things","fewest","most","greatest_number"] yZ:=by
 refine F.ok jW (fun vs H Q E h=>?_) (fun cdv A outer s H vs Q E hr h=>?_)
 ·obtain ⟨a,ns,lo,hi,g,rfl,_⟩:=h
  rfl
 obtain ⟨a,ns,lo,hi,g,rfl,ha,h1,h2,h64,hg,q⟩:=h;have nd:=jW.nd;refine ⟨_,(aF (bU (PW.pt (sW (iM (cU (aV (fP (T:="list")) rfl h_ dR (aA (pv 0) (aA (pC (v:=.ty "list") rfl l_ iQ rfl) aD))))) (nJ (iM (Dg qF qF (pv 1) (aV bC rfl e_ cW (aA (pv 0) aD)) (pv 2)))))) (aG (aU d7)) aZ) (aG (aU (aV (m8 rfl rfl) rfl Vy xY (aA (dC (ls:=["thing"]) (M:=["things","fewest","most","greatest_number"]) rfl (bT.of (by rfl)) (NL.of (by rfl)) (cV (pv 0)) (fun _ _ _ _=>⟨(bA (i:=0) (c7 (by rfl)) rfl (Or.inl rfl)),cX,(aL I_ hr (aA (pv 0) (aA aB (aA (pv 4) aD))))⟩)) aD))))),?_⟩;have hlr:=aK ns;refine ⟨_,rfl,_,_,_,rfl,.lst ha,lN _,_,rfl,?_⟩;refine jH ?_;refine ⟨_,rfl,_,rfl,a,_,rfl,.inl (bJ.of ha),_,_,rfl,rfl,_,rfl,?_⟩;refine jL (decide_eq_true (show lo<=_ by rw [hlr]; exact h1)) ?_;refine ⟨_,rfl,_,_,rfl,rfl,_,rfl,?_⟩;refine eU (by rw [decide_eq_true (show (_:Int)<=hi by rw [hlr]; exact h2)]; rfl) ?_;refine ⟨_,rfl,a,rfl,⟨_,bJ.of ha⟩,fun D hD=>?_⟩;refine dG (xs:=Is ns) (fun i τ H'=>∃ v0,τ = [v0,some (.ref a),some (.int lo),some (.int hi),some (.int g)]/\aW H H'/\H' D=some (.lst ((Zr i true).map V.bl))) ⟨none,rfl,aH hD _,aC⟩ ?keep ?turn ?done
 case keep =>
  rintro i τ H' hi ⟨v0,rfl,hs,_⟩;exact bJ.of (hs _ _ ha)
 case turn =>
  rintro i m v τ H' hm hi hv ⟨v0,rfl,hs,hD'⟩;obtain ⟨x,hx,rfl⟩:=gM hv;have hmem:=Yy hx;refine m9 ?_;refine ⟨_,rfl,_,rfl,x,0,g,rfl,(hg x hmem).1,(hg x hmem).2,?_⟩;refine bF hm hi hD' (by rw [YQ,aAf]; exact aP (by rw [hlr] at hi; omega)) ⟨_,rfl,hs.upd_new hD _,?_⟩;rw [aC,List.replicate_succ',Yo]
  rfl
 case done =>
  rintro τ H' ⟨v0,rfl,hs,hD'⟩;refine ⟨D,_,rfl,bJ.of hD',?_⟩;have e:(Zr (Is ns).length true).all id=true:=by simp
  rw [e];exact q H' hs
theorem o8 {n:Nat}{f:Addr}{fd:FuncData}(F:eN K "__init__" "Few.__init__" (inClass (top 17) 0) f fd){C:Addr}(cf:uI K C)(Vz:PySem.W.findIn K (.ref C) "limit" = some none){H_:Addr}{B_:FuncData}(I_:fJ P w K mg base n "is_whole" ["thing","least","most"] Ds H_ B_){i_:Value}(cC:mg "MOST_BOXES" = some i_)(d_:RelV (.int 6) i_):bO P w K mg base eE (n+1) f fd ["self","count"] (JX C):=by
 refine F.ok iV (fun vs H Q E h=>?_) (fun cdv A outer s H vs Q E hr h=>?_)
 ·obtain ⟨x,dx,c,rfl,_⟩:=h
  rfl
 obtain ⟨x,dx,c,rfl,hx,h1,h2,q⟩:=h;have nd:=iV.nd;refine ⟨_,(aF (bU (iM (cU (aL I_ hr (aA (pv 1) (aA aB (aA (eV (v:=.int 6) rfl cC d_) aD)))))) (aG mJ) aZ) (aG (u9 (pv 0) (pv 1) rfl))),?_⟩;refine ⟨_,rfl,c,0,6,rfl,h1,h2,?_⟩;refine ⟨_,rfl,?_⟩;refine jH ?_;exact ⟨_,rfl,_,rfl,x,C,dx,[],rfl,hx,cf,Vz,(by show 0<1000; decide),q⟩
theorem lA {n:Nat}{f:Addr}{fd:FuncData}(F:eN K "__init__" "Groups.__init__" (inClass (top 18) 0) f fd){C:Addr}(cf:uI K C)(E_:PySem.W.findIn K (.ref C) "groups" = some none)(W7:PySem.W.findIn K (.ref C) "most" = some none){x_:Addr}{v_:FuncData}(n_:fJ P w K mg base n "is_numbers" ["things","fewest","most","greatest_number"] yZ x_ v_)(j_:mg "tuple" = none){i_:Value}(cC:mg "MOST_BOXES" = some i_)(d_:RelV (.int 6) i_):bO P w K mg base eE (n+1) f fd ["self","groups","most"] (JW C):=by
 refine F.ok fK (fun vs H Q E h=>?_) (fun cdv A outer s H vs Q E hr h=>?_)
 ·obtain ⟨x,dx,a,b,gs,ms,rfl,_⟩:=h
  rfl
 obtain ⟨x,dx,a,b,gs,ms,rfl,hx,ha,hb,g,q⟩:=h;have nd:=fK.nd;refine ⟨_,(aF (bU (iM (cU (aL n_ hr (aA (pv 1) (aA aB (aA (eV (v:=.int 6) rfl cC d_) (aA (aJ eO (eV (v:=.int 6) rfl cC d_) aB) aD))))))) (aG mJ) aZ) (aF (bU (iM (cU (aL n_ hr (aA (pv 2) (aA (eV (v:=.int 6) rfl cC d_) (aA (eV (v:=.int 6) rfl cC d_) (aA (eV (v:=.int 6) rfl cC d_) aD))))))) (aG mJ) aZ) (aF (u9 (pv 0) (cB (cL (K:=K) rfl) rfl j_ gD (aA (pv 1) aD)) rfl) (aG (u9 (pv 0) (cB (cL (K:=K) rfl) rfl j_ gD (aA (pv 2) aD)) rfl))))),?_⟩;have g1:=g.l1;have g6:=g.l6;have gm:=g.m6;refine ⟨_,rfl,_,_,rfl,rfl,a,gs,1,6,5,rfl,ha,by omega,by omega,by omega,g.g,fun H1 s1=>?_⟩;refine ⟨_,rfl,?_⟩;refine jH ?_;refine ⟨_,rfl,b,ms,6,6,6,rfl,s1 _ _ hb,by omega,by omega,by omega,g.m,fun H2 s2=>?_⟩;refine ⟨_,rfl,?_⟩;refine jH ?_;have jU:=s1.trans s2;refine ⟨_,rfl,a,_,rfl,.inl ⟨bJ.of (jU _ _ ha),fun t ht=>?_⟩⟩;have n1:=aH ht (.tup (Is gs));have hx1:=(jU.trans n1) _ _ hx;refine ⟨_,rfl,x,C,dx,[],rfl,hx1,cf,E_,(by show 0<1000; decide),?_⟩;have nbx:b≠x:=sX hb hx fun z=>nomatch z
 have ntx:t≠x:=Ne.symm (bB (jU _ _ hx) ht);have kx:∀ c o,c≠x->H c=some o->bN (bN H2 t (.tup (Is gs))) x (.ins C dx [("groups",.ref t)]) c=some o:=fun c o nc e=>by rw [aO nc]; exact (jU.trans n1) _ _ e
 have ht3:bN (bN H2 t (.tup (Is gs))) x (.ins C dx [("groups",.ref t)]) t=some (.tup (Is gs)):=by rw [aO ntx]; exact aC
 have hx3:bN (bN H2 t (.tup (Is gs))) x (.ins C dx [("groups",.ref t)]) x=some (.ins C dx [("groups",.ref t)]):=aC;refine ⟨_,rfl,b,_,rfl,.inl ⟨bJ.of (kx _ _ nbx hb),fun u hu=>?_⟩⟩;have n4:=aH hu (.tup (Is ms));have nux:u≠x:=Ne.symm (bB hx3 hu);refine ⟨_,rfl,x,C,dx,[("groups",.ref t)],rfl,n4 _ _ hx3,cf,W7,(by show 1<1000; decide),?_⟩;refine q t u _ (fun c o nc e=>?_) ?_ ?_ aC
 ·rw [aO nc];exact n4 _ _ (kx c o nc e)
 ·rw [aO ntx];exact n4 _ _ ht3
 ·rw [aO nux];exact aC
theorem kW {n:Nat}{f:Addr}{fd:FuncData}(F:eN K "__init__" "Listed.__init__" (inClass (top 19) 0) f fd){C:Addr}(cf:uI K C)(W8:PySem.W.findIn K (.ref C) "sets" = some none){x_:Addr}{v_:FuncData}(n_:fJ P w K mg base n "is_numbers" ["things","fewest","most","greatest_number"] yZ x_ v_)(j_:mg "tuple" = none)(k_:mg "sorted" = none)(e_:mg "len" = none)(W6:mg "set" = none){R_:Value}(q_:mg "MOST_SETS" = some R_)(t_:RelV (.int 64) R_):bO P w K mg base eE (n+1) f fd ["self","sets"] (Dh C):=by
 refine F.ok fH (fun vs H Q E h=>?_) (fun cdv A outer s H vs Q E hr h=>?_)
 ·obtain ⟨x,dx,a,ks,rfl,_⟩:=h
  rfl
 obtain ⟨x,dx,a,ks,rfl,hx,ha,g,q⟩:=h;have nd:=fH.nd;refine ⟨_,(aF (bU (PW.pt (sW (iM (cU (aL n_ hr (aA (pv 1) (aA aB (aA (eV (v:=.int 64) rfl q_ t_) (aA (aJ eO (eV (v:=.int 64) rfl q_ t_) aB) aD))))))) (nJ (aR Ou (aV qW rfl e_ cW (aA (cB (yF (K:=K) rfl rfl) rfl W6 Jp (aA (pv 1) aD)) aD)) (aV bC rfl e_ cW (aA (pv 1) aD)) (aX _))))) (aG mJ) aZ) (aG (u9 (pv 0) (cB (cL (K:=K) rfl) rfl j_ gD (aA (aV (pJ (K:=K) rfl) rfl k_ mQ (aA (pv 1) aD)) aD)) rfl))),?_⟩;have g1:=g.l1;have g64:=g.l64;refine ⟨_,rfl,_,_,rfl,rfl,a,ks,1,64,63,rfl,ha,by omega,by omega,g64,g.k,fun H1 s1=>?_⟩;refine ⟨_,rfl,?_⟩;refine jH ?_;refine ⟨_,rfl,a,ks,rfl,bJ.of (s1 _ _ ha),(by show ks.length+1<4096; omega),fun r hr0=>?_⟩;have n1:=aH hr0 (.set (fun k=>(uV ks).any (·==k)) (uV ks).length);refine ⟨r,_,_,rfl,aC,_,rfl,a,_,rfl,.inl (bJ.of ((s1.trans n1) _ _ ha)),rfl,_,rfl,?_⟩;refine eU (by rw [Il g.nd,aK]; simp) ?_;have s2:=s1.trans n1;generalize bN H1 r (.set (fun k=>(uV ks).any (·==k)) (uV ks).length)=H2 at s2 ⊢;refine ⟨_,rfl,a,ks,rfl,.inl (bJ.of (s2 _ _ ha)),g.few,fun l ms hl pm so=>?_⟩;have n3:=aH hl (.lst (Is ms));refine ⟨l,_,rfl,.inl ⟨bJ.of aC,fun t ht=>?_⟩⟩;have n4:=aH ht (.tup (Is ms));have s4:=s2.trans (n3.trans n4);exact ⟨_,rfl,x,C,dx,[],rfl,s4 _ _ hx,cf,W8,(by show 0<1000; decide),q t ms _ s4 pm so aC⟩
theorem zO {n:Nat}{f:Addr}{fd:FuncData}(F:eN K "may" "Few.may" (inClass (top 17) 1) f fd){C:Addr}(cf:uI K C)(Vz:PySem.W.findIn K (.ref C) "limit" = some none){XM:Addr}{W_:FuncData}(XN:fJ P w K mg base n "size_of" ["kept"] Lr XM W_):bO P w K mg base eE (n+1) f fd ["self","kept"] (yG C):=by
 refine F.ok pY (fun vs H Q E h=>?_) (fun cdv A outer s H vs Q E hr h=>?_)
 ·obtain ⟨x,c,k,rfl,_⟩:=h
  rfl
 obtain ⟨x,c,k,rfl,hF,q⟩:=h;have nd:=pY.nd;refine ⟨_,(aG (aU (dI qF (aL XN hr (aA (pv 1) aD)) (xT (pv 0) rfl) (aX _)))),?_⟩;obtain ⟨dx,hx⟩:=hF;refine ⟨_,rfl,k,rfl,fun H1 s1=>?_⟩;exact ⟨_,rfl,x,C,dx,_,_,rfl,s1 _ _ hx,cf,Vz,rfl,_,_,rfl,rfl,q H1 s1⟩
theorem qZ {n:Nat}{f:Addr}{fd:FuncData}(F:eN K "may" "Listed.may" (inClass (top 19) 1) f fd){C:Addr}(cf:uI K C)(W8:PySem.W.findIn K (.ref C) "sets" = some none):bO P w K mg base eE (n+1) f fd ["self","kept"] (xM C):=by
 refine F.ok jZ (fun vs H Q E h=>?_) (fun cdv A outer s H vs Q E hr h=>?_)
 ·obtain ⟨x,ks,k,rfl,_⟩:=h
  rfl
 obtain ⟨x,ks,k,rfl,hF,q⟩:=h;have nd:=jZ.nd;refine ⟨_,(aG (aU (dI nQ (pv 1) (xT (pv 0) rfl) rfl))),?_⟩;obtain ⟨dx,t,hx,ht⟩:=hF;exact ⟨_,rfl,_,rfl,x,C,dx,_,_,rfl,hx,cf,W8,rfl,t,_,rfl,.inr (dB.of ht),rfl,jN ks,q⟩
theorem rC {n:Nat}{f:Addr}{fd:FuncData}(F:eN K "may" "Groups.may" (inClass (top 18) 1) f fd){C:Addr}(cf:uI K C)(E_:PySem.W.findIn K (.ref C) "groups" = some none)(W7:PySem.W.findIn K (.ref C) "most" = some none){o_:Addr}{m_:FuncData}(p_:fJ P w K mg base n "boxes_of" ["kept"] uZ o_ m_)(Vy:mg "all" = none)(e_:mg "len" = none):bO P w K mg base eE (n+1) f fd ["self","kept"] (zJ C):=by
 refine F.ok j8 (fun vs H Q E h=>?_) (fun cdv A outer s H vs Q E hr h=>?_)
 ·obtain ⟨x,gs,ms,k,rfl,_⟩:=h
  rfl
 obtain ⟨x,gs,ms,k,rfl,hF,gg,q⟩:=h;have nd:=j8.nd;refine ⟨_,(aF (bD (i:=2) nd rfl (Or.inl rfl) (aL p_ hr (aA (pv 1) aD))) (aF (bU (iM (cU (aV (m8 rfl rfl) rfl Vy xY (aA (dC (ls:=["box"]) (M:=["self","kept","boxes","groups"]) rfl (bT.of (by rfl)) (NL.of (by rfl)) (cV (pv 2)) (fun _ _ _ _=>⟨(bA (i:=0) (c7 (by rfl)) rfl (Or.inl rfl)),cX,(dI rO (pv 0) (aV (qU (K:=K) rfl) rfl e_ cW (aA (tO (K:=K) rfl (pv 1) rfl) aD)) (aX _))⟩)) aD)))) (aG (aU d7)) aZ) (aF (bD (i:=3) nd rfl (Or.inr rfl) (dC (ls:=["box"]) (M:=["self","kept","boxes","groups"]) rfl (bT.of (by rfl)) (NL.of (by rfl)) (cV (pv 2)) (fun _ _ _ _=>⟨(bA (i:=0) (c7 (by rfl)) rfl (Or.inl rfl)),cX,(bQ (Al (K:=K) rfl) (tO (K:=K) rfl (pv 1) rfl) (pv 0) (fun _ _=>rfl))⟩))) (aG (aU (aV (m8 rfl rfl) rfl Vy xY (aA (dC (ls:=["group"]) (M:=["self","kept","boxes","groups"]) rfl (bT.of (by rfl)) (NL.of (by rfl)) (cV (pv 3)) (fun _ _ _ _=>⟨(bA (i:=0) (c7 (by rfl)) rfl (Or.inl rfl)),cX,(dI qF (K3 (K:=K) rfl PySem.F.plainAttrs_list PySem.F.slot_list_count PySem.F.type_list_count DK (pv 4) (aA (pv 0) aD)) (bQ (Al (K:=K) rfl) (tO (K:=K) rfl (pv 1) rfl) (pv 0) (fun _ _=>rfl)) (aX _))⟩)) aD))))))),?_⟩;obtain ⟨dx,g,m,hx,hg,hm⟩:=hF;have bl:=HR k;have hlr:=aK (eQ k);refine ⟨_,rfl,k,rfl,fun B H1 s1 hBn hB=>?_⟩;refine ⟨_,rfl,B,rfl,⟨_,bJ.of hB⟩,fun D hD=>?_⟩;refine dG (xs:=Is (eQ k)) (fun i τ H'=>∃ v0,τ = [v0,some (.ref x),some (.int k),some (.ref B),none]/\aW H1 H'/\H' D=some (.lst ((((eQ k).take i).map fun b=>decide (b<(gs.length:Int))).map V.bl))) ⟨none,rfl,aH hD _,aC⟩ ?keep ?turn ?done
 case keep =>
  rintro i τ H' hi ⟨v0,rfl,hs,_⟩;exact bJ.of (hs _ _ hB)
 case turn =>
  rintro i j v τ H' hm' hi hv ⟨v0,rfl,hs,hD'⟩;obtain ⟨b,hb1,rfl⟩:=gM hv;have ss:=s1.trans hs;refine m9 ?_;refine ⟨_,rfl,_,rfl,x,C,dx,_,_,rfl,ss _ _ hx,cf,E_,rfl,g,_,rfl,.inr (dB.of (ss _ _ hg)),_,_,rfl,rfl,?_⟩;refine bF hm' hi hD' (by rw [YQ,YQ,Yw]; exact aP (by omega)) ⟨_,rfl,hs.upd_new hD _,?_⟩;rw [aC,take_snoc hb1,Yo,Yo,aK]
  rfl
 case done =>
 rintro τ H2 ⟨v0,rfl,s2,hD2⟩;rw [hlr,Yz] at hD2;have jU:=s1.trans s2;refine ⟨D,_,rfl,bJ.of hD2,?_⟩;refine ⟨_,rfl,?_⟩;have ea:((eQ k).map fun b=>decide (b<(gs.length:Int))).all id=(eQ k).all (fun b=>decide (b<(gs.length:Int))):=by rw [List.all_map]; rfl
 rw [ea];cases hall:(eQ k).all (fun b=>decide (b<(gs.length:Int))) with
 | false =>
  refine uY ?_;have h:=q H2 jU;unfold pR at h;rw [hall] at h;exact h
 | true =>
 refine jH ?_;have hin:∀ b∈eQ k,b<(gs.length:Int):=fun b hb=>of_decide_eq_true (Z0.mp hall b hb);refine ⟨_,rfl,B,rfl,⟨_,bJ.of (s2 _ _ hB)⟩,fun D2 hD2n=>?_⟩;refine dG (xs:=Is (eQ k)) (fun i τ H'=>∃ v0,τ = [v0,some (.ref x),some (.int k),some (.ref B),none]/\aW H2 H'/\H' D2=some (.lst (Is (((eQ k).take i).map fun b=>gs.getD b.toNat 0)))) ⟨none,rfl,aH hD2n _,aC⟩ ?keep2 ?turn2 ?done2
 case keep2 =>
  rintro i τ H' hi ⟨v0,rfl,hs,_⟩;exact bJ.of ((s2.trans hs) _ _ hB)
 case turn2 =>
  rintro i j v τ H' hm' hi hv ⟨v0,rfl,hs,hD'⟩;obtain ⟨b,hb1,rfl⟩:=gM hv;have hbm:=Yy hb1;have ss:=jU.trans hs;refine m9 ?_;refine ⟨_,rfl,x,C,dx,_,_,rfl,ss _ _ hx,cf,E_,rfl,_,rfl,g,_,_,_,rfl,rfl,dB.of (ss _ _ hg),lR (pB hbm).1 (hin b hbm),?_⟩;refine bF hm' hi hD' (by rw [aK,YQ,Yw]; exact aP (by omega)) ⟨_,rfl,hs.upd_new hD2n _,?_⟩;rw [aC,take_snoc hb1,Yo];show _=some (HO.lst (Is (_++[gs.getD b.toNat 0])));rw [cD]
 case done2 =>
 rintro τ H3 ⟨v1,rfl,s3,hD3⟩;rw [hlr,Yz] at hD3;have rG:=jU.trans s3;generalize hgl:((eQ k).map fun b=>gs.getD b.toNat 0)=gl at hD3;have gll:gl.length<=6:=by rw [<- hgl,YQ]; exact bl
 have gin:∀ z∈gl,0<=z/\z<(ms.length:Int):=fun z hz=>by
  rw [<- hgl] at hz;obtain ⟨b,hb1,rfl⟩:=ZW.mp hz;have e:=hin b hb1;have e0:=(pB hb1).1;have hbn:b.toNat<gs.length:=by omega
  have e2:=gg.g (gs.getD b.toNat 0) (by rw [show gs.getD b.toNat 0=gs[b.toNat] by simp [hbn]]; exact ZK hbn);have:=gg.m6;omega
 refine ⟨_,rfl,D2,rfl,⟨_,bJ.of hD3⟩,fun D4 hD4n=>?_⟩;refine dG (xs:=Is gl) (fun i τ H'=>∃ v0,τ = [v0,some (.ref x),some (.int k),some (.ref B),some (.ref D2)]/\aW H3 H'/\H' D4=some (.lst (((gl.take i).map fun z=>decide ((gl.count z:Nat)<=ms.getD z.toNat 0)).map V.bl))) ⟨none,rfl,aH hD4n _,aC⟩ ?keep4 ?turn4 ?done4
 case keep4 =>
  rintro i τ H' hi ⟨v0,rfl,hs,_⟩;exact bJ.of (hs _ _ hD3)
 case turn4 =>
  rintro i j v τ H' hm' hi hv ⟨v0,rfl,hs,hD'⟩;obtain ⟨z,hz1,rfl⟩:=gM hv;have hzm:=Yy hz1;have ss:=rG.trans hs;refine m9 ?_;refine ⟨_,rfl,.inl ⟨rfl,_,bJ.of (hs _ _ hD3)⟩,_,rfl,D2,gl,z,rfl,rfl,hs _ _ hD3,_,rfl,x,C,dx,_,_,rfl,ss _ _ hx,cf,W7,rfl,_,rfl,m,_,_,_,rfl,rfl,dB.of (ss _ _ hm),lR (gin z hzm).1 (gin z hzm).2,_,_,rfl,rfl,?_⟩;refine bF hm' hi hD' (by rw [YQ,YQ,Yw]; exact aP (by omega)) ⟨_,rfl,hs.upd_new hD4n _,?_⟩;rw [aC,take_snoc hz1,Yo,Yo]
  rfl
 case done4 =>
  rintro τ H5 ⟨v2,rfl,s5,hD5⟩;rw [aK,Yz] at hD5;refine ⟨D4,_,rfl,bJ.of hD5,?_⟩;have h:=q H5 (rG.trans s5);unfold pR at h;rw [hall,hgl,aBn] at h;rw [List.all_map];exact h
theorem vX {n:Nat}{f:Addr}{fd:FuncData}(F:eN K "with_box" "with_box" (top 14) f fd):bO P w K mg base eE (n+1) f fd ["kept","box"] Eg:=by
 refine F.ok n6 (fun vs H Q E h=>?_) (fun cdv A outer s H vs Q E hr h=>?_)
 ·obtain ⟨k,b,rfl,_⟩:=h
  rfl
 obtain ⟨k,b,rfl,GR,hb1,q⟩:=h;have nd:=n6.nd;refine ⟨_,(aG (aU (aJ Ae (pv 0) (aJ fC aB (pv 1))))),?_⟩;exact ⟨_,rfl,_,rfl,_,_,rfl,rfl,⟨GR,by omega,by decide⟩,_,_,rfl,rfl,q⟩
end
section
variable {P:Program}{w:World}{K:PySem.W.Frag}{mg:Str->Option Value}{base:Heap}
theorem Et {n:Nat}{f:Addr}{fd:FuncData}(F:eN K "below" "below" (top 7) f fd):bO P w K mg base eE (n+1) f fd ["one","other"] (uG K):=by
 refine F.ok xD (fun vs H Q E h=>?_) (fun cdv A outer s H vs Q E hr h=>?_)
 ·obtain ⟨p,q,a,b,c,d,rfl,_⟩:=h
  rfl
 obtain ⟨p,q,a,b,c,d,rfl,hp,hq,z,k⟩:=h;have nd:=xD.nd;refine ⟨_,(aG (aU (dI rO (aJ iH (bQ b8 (pv 0) aB (fun _ _=>rfl)) (bQ b8 (pv 1) aB (fun _ _=>rfl))) (aJ iH (bQ b8 (pv 1) aB (fun _ _=>rfl)) (bQ b8 (pv 0) aB (fun _ _=>rfl))) (aX _)))),?_⟩;exact ⟨_,rfl,p,_,_,_,rfl,rfl,hp,rfl,_,rfl,q,_,_,_,rfl,rfl,hq,rfl,_,_,rfl,rfl,oU z.a z.d (by decide),_,rfl,q,_,_,_,rfl,rfl,hq,rfl,_,rfl,p,_,_,_,rfl,rfl,hp,rfl,_,_,rfl,rfl,oU z.c z.b (by decide),_,_,rfl,rfl,k⟩
theorem FW {n:Nat}{f:Addr}{fd:FuncData}(F:eN K "whole" "whole" (top 6) f fd):bO P w K mg base eE (n+1) f fd ["number"] Kr:=by
 refine F.ok vG (fun vs H Q E h=>?_) (fun cdv A outer s H vs Q E hr h=>?_)
 ·obtain ⟨t,rfl,_⟩:=h
  rfl
 obtain ⟨t,rfl,q⟩:=h;have nd:=vG.nd;refine ⟨_,(aG (aU (gY (aA (pv 0) (aA aB aD))))),?_⟩;refine ⟨_,rfl,GQ,fun p hp=>?_⟩;exact q p _ (aH hp _) aC
end
end K34
namespace K34
open PySem L2 TD TP TH
open Builtin.Int (intBits)
section
variable {P:Program}{w:World}{K:PySem.W.Frag}{mg:Str->Option Value}{base:Heap}
theorem oW {n:Nat}{f:Addr}{fd:FuncData}(F:eN K "_law_divisor" "_law_divisor" (top 36) f fd):bO P w K mg base eE (n+1) f fd ["_law_one","_law_other"] JL:=by
 refine F.ok iU (fun vs H Q E h=>?_) (fun cdv A outer s H vs Q E hr h=>?_)
 ·obtain ⟨a,b,rfl,_⟩:=h
  rfl
 obtain ⟨a,b,rfl,ha,hb,q⟩:=h;have nd:=iU.nd;refine ⟨_,(aF (vV PassesOwn.never (aR sU (pv 1) aB (aX _)) (aG (Jk (i:=0) (j:=1) rfl nd rfl rfl (by decide) rfl rfl (aA (pv 1) (aA (aJ bV (pv 0) (pv 1)) aD)) rfl))) (aG (aU (pv 0)))),?_⟩;refine vP (fun σ H'=>∃ x y,σ = [some (.int x),some (.int y)]/\aAV x y=aAV a b/\0<=x/\0<=y/\H'=H) (fun σ _=>match σ with | [_,some (.int y)]=>y.natAbs | _=>0) ⟨_,_,rfl,rfl,ha,hb,rfl⟩ (fun σ H' ⟨x,y,e,hg,x0,y0,eH⟩=>?_) (fun σ H Q Q' hQ ⟨v,e,i,j,e1,e2,k,ek,q⟩=>⟨v,e,i,j,e1,e2,k,ek,hQ _ _ q⟩);subst e eH;refine ⟨_,rfl,_,_,rfl,rfl,_,rfl,?_⟩
 by_cases hy:0<y
 ·refine jL (decide_eq_true hy) ?_;refine ⟨_,rfl,_,rfl,_,rfl,x,y,rfl,rfl,hy,_,_,rfl,?_⟩;have e:x%y=x.fmod y:=(aAR x (by omega)).symm;refine ⟨⟨y,x%y,rfl,?_,y0,Yk x (by omega),rfl⟩,?_⟩
  ·rw [e]; exact (Fr.Fo x y).trans hg
  ·show (x%y).natAbs<y.natAbs;rw [e]; exact Fr.BZ (Int.ne_of_gt hy)
 ·refine eU (decide_eq_false hy) ?_;have e:y=0:=by omega
  subst e;refine ⟨_,rfl,?_⟩;have e:x=((aAV a b:Nat):Int):=by
   rw [<- hg,Int.gcd_zero];omega
  rw [<- e] at q;exact q
end
end K34
namespace K34
open PySem L2 TD TP
open Builtin.Int (intBits)
section
variable {P:Program}{w:World}{K:PySem.W.Frag}{mg:Str->Option Value}{base:Heap}
theorem oZ {n:Nat}{f:Addr}{fd:FuncData}(F:eN K "_law_cell_at" "_law_cell_at" (top 23) f fd)(e_:mg "len" = none):bO P w K mg base eE (n+1) f fd ["_law_script","_law_k"] (Bv K):=by
 refine F.ok iT (fun vs H Q E h=>?_) (fun cdv A outer s H vs Q E hr h=>?_)
 ·obtain ⟨a,ns,k,rfl,_⟩:=h
  rfl
 obtain ⟨a,ns,k,rfl,hS,h0,hk,q⟩:=h;have nd:=iT.nd;refine ⟨_,(aF (bD (i:=2) nd rfl (Or.inl rfl) (aJ b7 (aJ mR aB (pv 1)) aB)) (aF (bU (aR rO (pv 1) (aV bC rfl e_ cW (aA (pv 0) aD)) (aX _)) (aG (bD (i:=2) nd rfl (Or.inl rfl) (bQ cI (pv 0) (pv 1) (fun _ _=>rfl)))) aZ) (aF (bD (i:=2) nd rfl (Or.inl rfl) (aJ bV (aJ b7 (aJ b7 (aJ iH (aJ bV (pv 2) aB) aB) (aJ mR aB (pv 1))) aB) aB)) (aF (bD (i:=2) nd rfl (Or.inl rfl) (aJ bV (aJ iH (pv 2) (pv 2)) aB)) (aG (aU (aJ bV (aJ b7 (aJ b7 (aJ iH (pv 2) (pv 2)) (aJ mR aB (pv 2))) (pv 1)) aB))))))),?_⟩;have b1:∀ x:Int,0<=x->x<2147483648->intBits x<=64:=fun x h1 h2=>PySem.intBits_le_64 (by omega) (by omega);have hl:(ns.map V.int).length=ns.length:=YQ _;refine ⟨_,rfl,_,_,rfl,rfl,.inl ⟨by decide,by decide⟩,_,_,rfl,rfl,?_⟩;refine ⟨_,rfl,_,rfl,a,_,rfl,.inl hS,_,_,rfl,rfl,_,rfl,?_⟩;refine jT (fun c=>?_) (fun c=>?_)
 ·have c':k<(((ns.map V.int).length:Nat):Int):=of_decide_eq_true c;rw [hl] at c';refine ⟨_,rfl,_,rfl,a,_,_,_,rfl,rfl,hS,xG h0 c',?_⟩;have m1:=Yk (ns.getD k.toNat 0) (show (2147483647:Int)≠0 by decide);have m2:=Yc (ns.getD k.toNat 0) (show (0:Int)<2147483647 by decide);refine ⟨_,rfl,_,_,rfl,rfl,(by show (0:Int)<2147483647; decide),_,_,rfl,rfl,oU (b1 _ m1 (by omega)) (b1 48271 (by decide) (by decide)) (by decide),_,rfl,_,_,rfl,rfl,.inl ⟨by decide,by decide⟩,_,_,rfl,rfl,_,_,rfl,rfl,_,_,rfl,rfl,(by show (0:Int)<2147483647; decide),?_⟩;have n1:=Yk ((ns.getD k.toNat 0)%2147483647*48271+7919*k+1) (show (2147483647:Int)≠0 by decide);have n2:=Yc ((ns.getD k.toNat 0)%2147483647*48271+7919*k+1) (show (0:Int)<2147483647 by decide);have nb:=b1 _ n1 (aAO n2 (by decide));refine ⟨_,rfl,_,rfl,_,_,rfl,rfl,oU nb nb (by decide),_,_,rfl,rfl,(by show (0:Int)<2147483647; decide),?_⟩;have k1:=Yk (((ns.getD k.toNat 0)%2147483647*48271+7919*k+1)%2147483647*(((ns.getD k.toNat 0)%2147483647*48271+7919*k+1)%2147483647)) (show (2147483647:Int)≠0 by decide);have k2:=Yc (((ns.getD k.toNat 0)%2147483647*48271+7919*k+1)%2147483647*(((ns.getD k.toNat 0)%2147483647*48271+7919*k+1)%2147483647)) (show (0:Int)<2147483647 by decide);have kb:=b1 _ k1 (aAO k2 (by decide));refine ⟨_,rfl,_,rfl,_,_,rfl,rfl,oU kb kb (by decide),_,rfl,_,_,rfl,rfl,.inl ⟨by decide,by decide⟩,_,_,rfl,rfl,_,rfl,_,_,rfl,rfl,_,_,rfl,rfl,(by show (0:Int)<2147483629; decide),?_⟩;exact q _ (Yk _ (by decide)) (Yc _ (by decide))
 ·skip
  have m1:=Yk (104729*k+7) (show (2147483647:Int)≠0 by decide);have m2:=Yc (104729*k+7) (show (0:Int)<2147483647 by decide);refine ⟨_,rfl,_,_,rfl,rfl,(by show (0:Int)<2147483647; decide),_,_,rfl,rfl,oU (b1 _ m1 (by omega)) (b1 48271 (by decide) (by decide)) (by decide),_,rfl,_,_,rfl,rfl,.inl ⟨by decide,by decide⟩,_,_,rfl,rfl,_,_,rfl,rfl,_,_,rfl,rfl,(by show (0:Int)<2147483647; decide),?_⟩;have n1:=Yk ((104729*k+7)%2147483647*48271+7919*k+1) (show (2147483647:Int)≠0 by decide);have n2:=Yc ((104729*k+7)%2147483647*48271+7919*k+1) (show (0:Int)<2147483647 by decide);have nb:=b1 _ n1 (aAO n2 (by decide));refine ⟨_,rfl,_,rfl,_,_,rfl,rfl,oU nb nb (by decide),_,_,rfl,rfl,(by show (0:Int)<2147483647; decide),?_⟩;have k1:=Yk (((104729*k+7)%2147483647*48271+7919*k+1)%2147483647*(((104729*k+7)%2147483647*48271+7919*k+1)%2147483647)) (show (2147483647:Int)≠0 by decide);have k2:=Yc (((104729*k+7)%2147483647*48271+7919*k+1)%2147483647*(((104729*k+7)%2147483647*48271+7919*k+1)%2147483647)) (show (0:Int)<2147483647 by decide);have kb:=b1 _ k1 (aAO k2 (by decide));refine ⟨_,rfl,_,rfl,_,_,rfl,rfl,oU kb kb (by decide),_,rfl,_,_,rfl,rfl,.inl ⟨by decide,by decide⟩,_,_,rfl,rfl,_,rfl,_,_,rfl,rfl,_,_,rfl,rfl,(by show (0:Int)<2147483629; decide),?_⟩;exact q _ (Yk _ (by decide)) (Yc _ (by decide))
theorem uR {n:Nat}{f:Addr}{fd:FuncData}(F:eN K "_law_many" "_law_many" (top 24) f fd){g_:Addr}{gV:FuncData}(a_:fJ P w K mg base n "_law_cell_at" ["_law_script","_law_k"] (Bv K) g_ gV)(X6:mg "min" = none)(F_:mg "max" = none)(e_:mg "len" = none):bO P w K mg base eE (n+1) f fd ["_law_script","_law_first","_law_most"] (Ms K):=by
 refine F.ok mH (fun vs H Q E h=>?_) (fun cdv A outer s H vs Q E hr h=>?_)
 ·obtain ⟨a,ns,f,m,rfl,_⟩:=h
  rfl
 obtain ⟨a,ns,f,m,rfl,hS,h1,h2,hm,q⟩:=h;have nd:=mH.nd;refine ⟨_,(aF (bD (i:=3) nd rfl (Or.inl rfl) (aJ bV (aJ dX (aL a_ hr (aA (pv 0) (aA (aJ eO (pv 1) aB) aD))) aB) (aJ b7 (pv 2) aB))) (aG (aU (aV (CZ rfl) rfl X6 Ke (aA (pv 2) (aA (aV (mV rfl) rfl F_ tR (aA (pv 3) (aA (aJ eO (aV bC rfl e_ cW (aA (pv 0) aD)) (pv 1)) aD))) aD)))))),?_⟩;refine ⟨_,rfl,_,rfl,_,_,rfl,rfl,a,ns,f-1,rfl,hS,by omega,by omega,fun j j0 j1=>?_⟩;have e1:=Yk (j/7) (show m+1≠0 by omega);have e2:=Yc (j/7) (show 0<m+1 by omega);refine ⟨_,_,rfl,rfl,⟨by decide,by decide⟩,_,rfl,_,_,rfl,rfl,_,_,rfl,rfl,(by show 0<m+1; omega),?_⟩;refine ⟨_,rfl,_,rfl,_,rfl,a,_,rfl,.inl hS,_,rfl,_,_,rfl,rfl,_,_,rfl,_,_,rfl,?_⟩;refine q _ ?_ ?_
 ·(repeat' split) <;> omega
 ·(repeat' split) <;> omega
theorem tU {n:Nat}{f:Addr}{fd:FuncData}(F:eN K "_law_size" "_law_size" (top 25) f fd)(b_:mg "range" = none):bO P w K mg base eE (n+1) f fd ["_law_kept"] FJ:=by
 refine F.ok lY (fun vs H Q E h=>?_) (fun cdv A outer s H vs Q E hr h=>?_)
 ·obtain ⟨k,rfl,_⟩:=h
  rfl
 obtain ⟨k,rfl,k0,k1,q⟩:=h;have nd:=lY.nd;refine ⟨_,(aF (bD (i:=1) nd rfl (Or.inl rfl) aB) (aF (dF PassesOwn.never rfl (bK rfl b_ (aA aB aD)) (bA (i:=2) nd rfl (Or.inl rfl)) (aG (bD (i:=1) nd rfl (Or.inl rfl) (aJ b7 (pv 1) (aJ fG (aJ gA (pv 0) (pv 2)) aB))))) (aG (aU (pv 1))))),?_⟩;refine ⟨6,rfl,by decide,by decide,?_⟩;refine cY (n:=(6:Int).toNat) (fun i σ H'=>∃ v2,σ = [some (.int k),some (.int (((six i).filter (hb k)).length:Nat)),v2]/\H'=H) ⟨none,rfl,rfl⟩ ?_ ?_
 ·rintro i σ H' hi ⟨v2,rfl,rfl⟩;refine ⟨_,rfl,_,rfl,_,rfl,_,_,rfl,rfl,(by show (0:Int)<=0+(i:Int); omega),_,_,rfl,rfl,_,_,rfl,rfl,?_⟩;refine ⟨some (.int (0+(i:Int))),?_,rfl⟩;have e:=JQ k0 k1 (show i<6 from hi);rw [rZ,Y4];show [_,some (V.int (_+Builtin.bitAnd (k/2^((0:Int)+(i:Int)).toNat) 1)),_]=_;rw [e]
  split <;> rfl
 ·rintro σ H' ⟨v2,rfl,rfl⟩;exact ⟨_,rfl,q⟩
theorem xB {n:Nat}{f:Addr}{fd:FuncData}(F:eN K "_law_may" "_law_may" (top 26) f fd){C_:Addr}{z_:FuncData}(u_:fJ P w K mg base n "_law_size" ["_law_kept"] FJ C_ z_)(b_:mg "range" = none)(e_:mg "len" = none):bO P w K mg base eE (n+1) f fd ["_law_spec_here","_law_kept"] De:=by
 refine F.ok n8 (fun vs H Q E h=>?_) (fun cdv A outer s H vs Q E hr h=>?_)
 ·obtain ⟨p,k,S,rfl,_⟩:=h
  rfl
 obtain ⟨p,k,S,rfl,hP,hG,k0,k1,q⟩:=h;have nd:=n8.nd;refine ⟨_,(aF (bU (aR cH (bQ b8 (pv 0) aB (fun _ _=>rfl)) lC (aX _)) (aG (aU (dI qF (aL u_ hr (aA (pv 1) aD)) (bQ b8 (pv 0) aB (fun _ _=>rfl)) (aX _)))) aZ) (aF (bU (aR cH (bQ b8 (pv 0) aB (fun _ _=>rfl)) lC (aX _)) (aG (aU (dI nQ (pv 1) (bQ b8 (pv 0) aB (fun _ _=>rfl)) rfl))) aZ) (aF (bD (i:=2) nd rfl (Or.inl rfl) (gB (aA aB (aA aB (aA aB (aA aB (aA aB (aA aB aD)))))))) (aF (dF PassesOwn.never rfl (bK rfl b_ (aA aB aD)) (bA (i:=3) nd rfl (Or.inl rfl)) (aG (bU (aR cH (aJ fG (aJ gA (pv 1) (pv 3)) aB) aB (aX _)) (aF (bU (aR Ol (pv 3) (aV bC rfl e_ cW (aA (bQ b8 (pv 0) aB (fun _ _=>rfl)) aD)) (aX _)) (aG (aU d7)) aZ) (aG (xX (aJ b7 (bQ cI (pv 2) (bQ b8 (bQ b8 (pv 0) aB (fun _ _=>rfl)) (pv 3) (fun _ _=>rfl)) (fun _ _=>rfl)) aB) (Cz (pv 2) (bQ b8 (bQ b8 (pv 0) aB (fun _ _=>rfl)) (pv 3) (fun _ _=>rfl)) set_list)))) aZ))) (aF (dF PassesOwn.never rfl (bK rfl b_ (aA aB aD)) (bA (i:=4) nd rfl (Or.inl rfl)) (aG (bU (aR sU (bQ cI (pv 2) (pv 4) (fun _ _=>rfl)) (bQ b8 (bQ b8 (pv 0) aB (fun _ _=>rfl)) (pv 4) (fun _ _=>rfl)) (aX _)) (aG (aU d7)) aZ))) (aG (aU d7))))))),?_⟩;cases S with
 | few c =>
  have hP:H p=some (.tup [.str "few",.int c]):=hP;refine ⟨_,rfl,p,_,_,_,rfl,rfl,dB.of hP,rfl,rfl,_,rfl,?_⟩;refine uY ?_;exact ⟨_,rfl,k,rfl,k0,k1,_,rfl,p,_,_,_,rfl,rfl,dB.of hP,rfl,_,_,rfl,rfl,q H (aW.refl _)⟩
 | listed ks =>
  obtain ⟨t,hP,ht⟩:=hP;refine ⟨_,rfl,p,_,_,_,rfl,rfl,dB.of hP,rfl,rfl,_,rfl,?_⟩;refine jH ?_;refine ⟨_,rfl,p,_,_,_,rfl,rfl,dB.of hP,rfl,rfl,_,rfl,?_⟩;refine uY ?_;exact ⟨_,rfl,_,rfl,p,_,_,_,rfl,rfl,dB.of hP,rfl,t,_,rfl,.inr (dB.of ht),rfl,jN ks,q H (aW.refl _)⟩
 | groups gs ms =>
 obtain ⟨g,m,hP,hg,hm⟩:=hP;have gg:JN gs ms:=hG;have q:∀ H',aW H H'->Q (.bl (pR gs ms k)) H':=q;refine ⟨_,rfl,p,_,_,_,rfl,rfl,dB.of hP,rfl,rfl,_,rfl,?_⟩;refine jH ?_;refine ⟨_,rfl,p,_,_,_,rfl,rfl,dB.of hP,rfl,rfl,_,rfl,?_⟩;refine jH ?_;refine ⟨Yx (aP (show 6<=1000 by decide)),fun M hM=>?_⟩;refine ⟨6,rfl,by decide,by decide,?_⟩;refine cY (n:=(6:Int).toNat) (fun i σ H'=>∃ v3 v4 cs,σ = [some (.ref p),some (.int k),some (.ref M),v3,v4]/\aW H H'/\H' M=some (.lst (Is cs))/\cs.length=6/\(∀ z:Nat,z<6->cs.getD z 0=(((Cq gs k i).count (z:Int):Nat):Int))/\∀ b∈(six i).filter (hb k),b<(gs.length:Int)) ⟨none,none,[0,0,0,0,0,0],rfl,aH hM _,aC,rfl,(fun z hz=>?z0),fun _ h=>nomatch h⟩ ?turn ?done
 case z0 =>
  have e:(Cq gs k 0).count (z:Int)=0:=rfl;rw [e]
  match z,hz with
  | 0,_=>rfl
  | 1,_=>rfl
  | 2,_=>rfl
  | 3,_=>rfl
  | 4,_=>rfl
  | 5,_=>rfl
 case turn =>
  rintro i σ H' hi ⟨v3,v4,cs,rfl,hs,hM',hl,hc,hin⟩;have hi6:i<6:=hi;refine ⟨_,rfl,_,rfl,_,_,rfl,rfl,(by show (0:Int)<=0+(i:Int); omega),_,_,rfl,rfl,rfl,_,rfl,?_⟩;have fs:=rZ k i;cases eb:hb k (0+(i:Int)) with
  | false =>
   refine eU eb ?_;rw [eb,if_neg Y9,Zc] at fs;refine ⟨_,v4,cs,rfl,hs,hM',hl,fun z hz=>?_,fun b hb1=>?_⟩
   ·rw [hc z hz];unfold Cq;rw [fs]
   ·rw [fs] at hb1;exact hin b hb1
  | true =>
   refine jL eb ?_;rw [eb,if_pos rfl] at fs;refine ⟨_,rfl,_,rfl,p,_,_,_,rfl,rfl,dB.of (hs _ _ hP),rfl,g,_,rfl,.inr (dB.of (hs _ _ hg)),_,_,rfl,rfl,_,rfl,?_⟩
   by_cases hge:(0+(i:Int))<(gs.length:Int)
   ·refine eU (decide_eq_false (by show ¬ (0+(i:Int)) ≥ (((Is gs).length:Nat):Int); rw [aK]; omega)) ?_;have hgi:=gg.g (gs.getD (0+(i:Int)).toNat 0) (TP.getD_mem (by omega));have a1:=lR (ns:=gs) (k:=0+(i:Int)) (by omega) hge;generalize hzz:gs.getD (0+(i:Int)).toNat 0=z at hgi a1;have a2:=lR (ns:=cs) (k:=z) hgi.1 (by omega);have cz:=hc z.toNat (by omega);refine ⟨_,rfl,_,rfl,p,_,_,_,rfl,rfl,dB.of (hs _ _ hP),rfl,_,rfl,g,_,_,_,rfl,rfl,dB.of (hs _ _ hg),a1,M,_,_,_,rfl,rfl,bJ.of hM',a2,_,_,rfl,rfl,?_⟩;refine ⟨_,rfl,_,rfl,p,_,_,_,rfl,rfl,dB.of (hs _ _ hP),rfl,_,rfl,g,_,_,_,rfl,rfl,dB.of (hs _ _ hg),a1,M,_,z,z.toNat,rfl,rfl,hM',(by unfold DQ; rw [if_pos hgi.1,aK,hl,if_pos (by omega)]),?_⟩;refine ⟨_,v4,cs.set z.toNat (cs.getD z.toNat 0+1),rfl,hs.upd_new hM _,?_,by rw [aAs]; exact hl,fun y hy=>?_,fun b hb1=>?_⟩
    ·rw [aC];exact congrArg (fun l=>some (HO.lst l)) (Jz _ _ _)
    ·have eg:Cq gs k (i+1)=Cq gs k i++[z]:=by
      unfold Cq;rw [fs,Yo,<- hzz]
      rfl
     rw [eg,List.count_append,Df (by omega)]
     by_cases e:y=z.toNat
     ·rw [if_pos e,<- e,hc y hy];have:([z].count (y:Int))=1:=by rw [show z=(y:Int) by omega]; simp
      rw [this]
      rfl
     ·rw [if_neg e,hc y hy];have:([z].count (y:Int))=0:=by
       rw [List.count_eq_zero];intro h;have:=YT.mp h;omega
      rw [this]
      rfl
    ·rw [fs] at hb1;rcases Ye.mp hb1 with u | u
     ·exact hin b u
     ·rw [YT.mp u];exact hge
   ·refine jL (decide_eq_true (by show (0+(i:Int)) ≥ (((Is gs).length:Nat):Int); rw [aK]; omega)) ?_;have h:=q H' hs;rw [Gi (b:=0+(i:Int)) (ZX.mpr ⟨ZW.mpr ⟨i,ZZ.mpr hi6,rfl⟩,eb⟩) hge] at h;exact h
 case done =>
 rintro σ H1 ⟨v3,v4,cs,rfl,s1,hM1,hl,hc,hin⟩;have hin:∀ b∈eQ k,b<(gs.length:Int):=hin;refine ⟨6,rfl,by decide,by decide,?_⟩;refine cY (n:=(6:Int).toNat) (fun i σ H'=>∃ v4,σ = [some (.ref p),some (.int k),some (.ref M),v3,v4]/\H'=H1/\∀ z:Nat,z<i->(((Cq gs k 6).count (z:Int):Nat):Int)<=ms.getD z 0) ⟨v4,rfl,rfl,fun z h=>absurd h (aBI _)⟩ ?turn2 ?done2
 case turn2 =>
  rintro i σ H' hi ⟨v4,rfl,rfl,hle⟩;have hi6:i<6:=hi;have ci:=hc i hi6;refine ⟨_,rfl,_,rfl,M,_,_,_,rfl,rfl,bJ.of hM1,lR (ns:=cs) (k:=0+(i:Int)) (by omega) (by omega),_,rfl,p,_,_,_,rfl,rfl,dB.of (s1 _ _ hP),rfl,_,rfl,m,_,_,_,rfl,rfl,dB.of (s1 _ _ hm),lR (ns:=ms) (k:=0+(i:Int)) (by omega) (by rw [gg.m6]; omega),_,_,rfl,rfl,_,rfl,?_⟩;have e0:(0+(i:Int)).toNat=i:=by omega
  rw [e0,ci]
  by_cases hgt:ms.getD i 0<(((Cq gs k 6).count (i:Int):Nat):Int)
  ·refine jL (decide_eq_true hgt) ?_;have h:=q H' s1;rw [HB gg hi6 hgt] at h;exact h
  ·refine eU (decide_eq_false hgt) ?_;refine ⟨_,rfl,rfl,fun z hz=>?_⟩
   by_cases e:z=i
   ·rw [e]; omega
   ·exact hle z (by omega)
 case done2 =>
  rintro σ H' ⟨v4,rfl,rfl,hle⟩;have h:=q H' s1;rw [KC gg hin hle] at h;exact h
theorem uK {n:Nat}{f:Addr}{fd:FuncData}(F:eN K "_law_bits" "_law_bits" (top 29) f fd)(b_:mg "range" = none)(e_:mg "len" = none):bO P w K mg base eE (n+1) f fd ["_law_script","_law_k"] (DP K):=by
 refine F.ok mG (fun vs H Q E h=>?_) (fun cdv A outer s H vs Q E hr h=>?_)
 ·obtain ⟨a,ns,k,rfl,_⟩:=h
  rfl
 obtain ⟨a,ns,k,rfl,hS,h0,q⟩:=h;have nd:=mG.nd;have hu1:_+0+1<cLine:=Zf (aAL (by decide:1<=64) _) (dJ.units hr);refine ⟨_,(aF (bD (i:=2) nd rfl (Or.inr rfl) aB) (aF (bU (aR rO (pv 1) (aV bC rfl e_ cW (aA (pv 0) aD)) (aX _)) (aG (bD (i:=2) nd rfl (Or.inr rfl) (aJ bV (bQ cI (pv 0) (pv 1) (fun _ _=>rfl)) (aJ fC aB aB)))) aZ) (aF (gZ (i:=3) (ls:=["_law_kept"]) (M:=["_law_script","_law_k","_law_number","_law_some"]) rfl (bT.of (by rfl)) (NL.of (by rfl)) nd rfl (Or.inl rfl) (bK rfl b_ (aA aB aD)) (fun _ _ _ _=>⟨(bA (i:=0) (c7 (by rfl)) rfl (Or.inl rfl)),(jM (aR cH (aJ fG (aJ gA (pv 3) (pv 0)) aB) aB (aX _))),(pv 0)⟩)) (aF (bU (aR (Eh (n:=0) hu1) (pv 3) (gB aD) (aX _)) (aG (aU (gB (aA aB aD)))) aZ) (aG (aU (pv 3))))))),?_⟩;have hl:(ns.map V.int).length=ns.length:=YQ _;refine ⟨_,rfl,_,rfl,a,_,rfl,.inl hS,_,_,rfl,rfl,_,rfl,?_⟩;refine jT (fun c=>?_) (fun c=>?_)
 ·have c':k<(((ns.map V.int).length:Nat):Int):=of_decide_eq_true c;rw [hl] at c';refine ⟨_,rfl,_,rfl,a,_,_,_,rfl,rfl,hS,xG h0 c',_,_,rfl,rfl,⟨by decide,by decide,by decide⟩,_,_,rfl,rfl,(by show (0:Int)<1*2^(64:Int).toNat; decide),?_⟩;refine ⟨64,rfl,by decide,by decide,fun D hD=>?_⟩;refine bW (n:=(64:Int).toNat) (fun i τ H'=>∃ v0 ks,τ = [v0,some (.ref a),some (.int k),some (.int (ns.getD k.toNat 0%(1*2^(64:Int).toNat))),none]/\aW H H'/\H' D=some (.lst (Is ks))/\ks.Pairwise (· < ·)/\(∀ x∈ks,0<=x/\x<(i:Int))/\ks.length<=i) ⟨none,[],rfl,aH hD _,aC,Zn.nil,(fun _ h=>nomatch h),YS _⟩ ?turn1 ?done1
  case turn1 =>
   rintro i m τ H' hm hi ⟨v0,ks,rfl,hs,hD',lt,kr,kl⟩;have hi6:i<64:=hi;refine ⟨_,rfl,_,rfl,_,_,rfl,rfl,(by show (0:Int)<=0+(i:Int); omega),_,_,rfl,rfl,rfl,_,rfl,?_⟩;refine jT (fun e=>?_) (fun e=>?_)
   ·refine ⟨_,rfl,?_⟩;refine bF hm hi hD' (by rw [aK]; exact aP (by omega)) ⟨_,ks++[0+(i:Int)],rfl,hs.upd_new hD _,by rw [aC,cD],?_,?_,by rw [Y4]; show ks.length+1<=_; omega⟩
    ·refine ZG.mpr ⟨lt,Zh _ _,fun x hx y hy=>?_⟩;rw [YT.mp hy];have:=kr x hx;omega
    ·intro x hx;rcases Ye.mp hx with z | z
     ·have:=kr x z;omega
     ·rw [YT.mp z];omega
   ·refine dO hm hi ⟨_,ks,rfl,hs,hD',lt,(fun x hx=>?_),by omega⟩;have:=kr x hx;omega
  case done1 =>
  rintro τ H1 ⟨v0,ks,rfl,s1,hD1,lt,kr,kl⟩;have kr:∀ x∈ks,0<=x/\x<64:=kr;have kl:ks.length<=64:=kl;refine ⟨_,rfl,Yq _,fun Z hZ=>?_⟩;have n2:=aH hZ (.lst [])
  by_cases hn:ks=[]
  ·subst hn;have d:=DE.lst (K:=K) (n:=0) (fun _=>true) (bJ.of (n2 _ _ hD1)) (bJ.of (aC (H:=H1) (a:=Z) (o:=.lst []))) rfl (fun j x y hx=>by simp at hx);refine ⟨D,Z,true,rfl,rfl,d,_,rfl,?_⟩;refine uY ?_;refine ⟨Px,fun r hr0=>?_⟩;have n3:=aH hr0 (.lst [V.int 0]);exact q r _ [0] ((s1.trans n2).trans n3) ((s1.trans n2).free hr0) aC (lD (by decide) (by decide) (Zh _ _) fun x hx=>by rw [YT.mp hx]; decide)
  ·have d:=DE.lstN (K:=K) (n:=0) (bJ.of (n2 _ _ hD1)) (bJ.of (aC (H:=H1) (a:=Z) (o:=.lst []))) (by rw [aK]; intro z; exact hn (aAb.mp z));refine ⟨D,Z,false,rfl,rfl,d,_,rfl,?_⟩;refine jH ?_;exact ⟨_,rfl,q D _ ks (s1.trans n2) hD (n2 _ _ hD1) (lD (aAM.mpr hn) kl lt fun x hx=>by have:=kr x hx; omega)⟩
 ·skip
  refine ⟨64,rfl,by decide,by decide,fun D hD=>?_⟩;refine bW (n:=(64:Int).toNat) (fun i τ H'=>∃ v0 ks,τ = [v0,some (.ref a),some (.int k),some (.int 1),none]/\aW H H'/\H' D=some (.lst (Is ks))/\ks.Pairwise (· < ·)/\(∀ x∈ks,0<=x/\x<(i:Int))/\ks.length<=i) ⟨none,[],rfl,aH hD _,aC,Zn.nil,(fun _ h=>nomatch h),YS _⟩ ?turn2 ?done2
  case turn2 =>
   rintro i m τ H' hm hi ⟨v0,ks,rfl,hs,hD',lt,kr,kl⟩;have hi6:i<64:=hi;refine ⟨_,rfl,_,rfl,_,_,rfl,rfl,(by show (0:Int)<=0+(i:Int); omega),_,_,rfl,rfl,rfl,_,rfl,?_⟩;refine jT (fun e=>?_) (fun e=>?_)
   ·refine ⟨_,rfl,?_⟩;refine bF hm hi hD' (by rw [aK]; exact aP (by omega)) ⟨_,ks++[0+(i:Int)],rfl,hs.upd_new hD _,by rw [aC,cD],?_,?_,by rw [Y4]; show ks.length+1<=_; omega⟩
    ·refine ZG.mpr ⟨lt,Zh _ _,fun x hx y hy=>?_⟩;rw [YT.mp hy];have:=kr x hx;omega
    ·intro x hx;rcases Ye.mp hx with z | z
     ·have:=kr x z;omega
     ·rw [YT.mp z];omega
   ·refine dO hm hi ⟨_,ks,rfl,hs,hD',lt,(fun x hx=>?_),by omega⟩;have:=kr x hx;omega
  case done2 =>
  rintro τ H1 ⟨v0,ks,rfl,s1,hD1,lt,kr,kl⟩;have kr:∀ x∈ks,0<=x/\x<64:=kr;have kl:ks.length<=64:=kl;refine ⟨_,rfl,Yq _,fun Z hZ=>?_⟩;have n2:=aH hZ (.lst [])
  by_cases hn:ks=[]
  ·subst hn;have d:=DE.lst (K:=K) (n:=0) (fun _=>true) (bJ.of (n2 _ _ hD1)) (bJ.of (aC (H:=H1) (a:=Z) (o:=.lst []))) rfl (fun j x y hx=>by simp at hx);refine ⟨D,Z,true,rfl,rfl,d,_,rfl,?_⟩;refine uY ?_;refine ⟨Px,fun r hr0=>?_⟩;have n3:=aH hr0 (.lst [V.int 0]);exact q r _ [0] ((s1.trans n2).trans n3) ((s1.trans n2).free hr0) aC (lD (by decide) (by decide) (Zh _ _) fun x hx=>by rw [YT.mp hx]; decide)
  ·have d:=DE.lstN (K:=K) (n:=0) (bJ.of (n2 _ _ hD1)) (bJ.of (aC (H:=H1) (a:=Z) (o:=.lst []))) (by rw [aK]; intro z; exact hn (aAb.mp z));refine ⟨D,Z,false,rfl,rfl,d,_,rfl,?_⟩;refine jH ?_;exact ⟨_,rfl,q D _ ks (s1.trans n2) hD (n2 _ _ hD1) (lD (aAM.mpr hn) kl lt fun x hx=>by have:=kr x hx; omega)⟩
theorem pW {n:Nat}{f:Addr}{fd:FuncData}(F:eN K "_law_forest" "_law_forest" (top 27) f fd)(b_:mg "range" = none)(e_:mg "len" = none)(W5:mg "int" = none):bO P w K mg base eE (n+1) f fd ["_law_pairs","_law_kept"] v8:=by
 refine F.ok jA (fun vs H Q E h=>?_) (fun cdv A outer s H vs Q E hr h=>?_)
 ·obtain ⟨a,qs,k,rfl,_⟩:=h
  rfl
 obtain ⟨a,qs,k,rfl,hP,l6,q⟩:=h;have nd:=jA.nd;refine ⟨_,(aF (bD (i:=2) nd rfl (Or.inl rfl) (gB (aA aB (aA aB (aA aB (aA aB aD)))))) (aF (dF PassesOwn.never rfl (bK rfl b_ (aA (aV bC rfl e_ cW (aA (pv 0) aD)) aD)) (bA (i:=3) nd rfl (Or.inl rfl)) (aG (bU (aR cH (aJ fG (aJ gA (pv 1) (pv 3)) aB) aB (aX _)) (aF (xX (gY (aA (bQ cI (pv 2) (bQ b8 (bQ cI (pv 0) (pv 3) (fun _ _=>rfl)) aB (fun _ _=>rfl)) (fun _ _=>rfl)) (aA (bQ cI (pv 2) (bQ b8 (bQ cI (pv 0) (pv 3) (fun _ _=>rfl)) aB (fun _ _=>rfl)) (fun _ _=>rfl)) aD))) (yJ rfl (gK (bA (i:=4) nd rfl (Or.inr rfl)) (gK (bA (i:=5) nd rfl (Or.inr rfl)) uM)))) (aF (bU (aR cH (pv 4) (pv 5) (aX _)) (aG (aU d7)) aZ) (aG (gZ (i:=2) (ls:=["_law_root"]) (M:=["_law_pairs","_law_kept","_law_roots","_law_box","_law_one","_law_other"]) rfl (bT.of (by rfl)) (NL.of (by rfl)) nd rfl (Or.inl rfl) (cV (pv 2)) (fun _ _ _ _=>⟨(bA (i:=0) (c7 (by rfl)) rfl (Or.inl rfl)),cX,(bQ (mF (K:=K) rfl) (gB (aA (pv 0) (aA (pv 5) aD))) (cB Bp rfl W5 Dz (aA (dI cH (pv 0) (pv 6) (aX _)) aD)) (fun _ _=>rfl))⟩))))) aZ))) (aG (aU d7)))),?_⟩;have lq:(qs.map V.ref).length=qs.length:=YQ _;refine ⟨Yx (aP (show 4<=1000 by decide)),fun R hR=>?_⟩;have nR:=aH hR (.lst [V.int 0,V.int 1,V.int 2,V.int 3]);refine ⟨_,rfl,a,_,rfl,.inl (bJ.of (nR _ _ hP.1)),(qs.length:Int),by rw [lq],by omega,by omega,?_⟩;refine cY (n:=(qs.length:Int).toNat) (fun i σ H'=>∃ R rs v3 v4 v5,σ = [some (.ref a),some (.int k),some (.ref R),v3,v4,v5]/\aW H H'/\H' R=some (.lst (Is rs))/\rs.length=4) ⟨R,[0,1,2,3],none,none,none,rfl,nR,aC,rfl⟩ ?turn ?done
 case done =>
  rintro σ H' ⟨R,rs,v3,v4,v5,rfl,hs,_,_⟩;exact q true H' hs fun _=>rfl
 case turn =>
  rintro i σ H' hi ⟨R,rs,v3,v4,v5,rfl,hs,hR',rl⟩;have hiq:i<qs.length:=by omega
  refine ⟨_,rfl,_,rfl,_,_,rfl,rfl,(by show (0:Int)<=0+(i:Int); omega),_,_,rfl,rfl,rfl,_,rfl,?_⟩;cases b1:hb k (0+(i:Int)) with
  | false =>
   refine eU b1 ?_;exact ⟨R,rs,_,_,_,rfl,hs,hR',rl⟩
  | true =>
  refine jL b1 ?_;have k0:k≠0:=fun z=>by rw [z,GR] at b1; cases b1
  obtain ⟨q1,hq1⟩:∃ q1,qs[i]? = some q1:=⟨_,YL hiq⟩
  obtain ⟨x,y,hxy,x0,x4,y0,y4⟩:=hP.2 q1 (Yy hq1);have hq':=hs _ _ hxy;have ha':=hs _ _ hP.1;have aq:wH (qs.map V.ref) (0+(i:Int))=some (.ref q1):=Vt (by rw [Yi,hq1]; rfl);refine ⟨_,rfl,_,rfl,_,rfl,a,_,_,_,rfl,rfl,bJ.of ha',aq,q1,_,_,_,rfl,rfl,dB.of hq',rfl,R,_,_,_,rfl,rfl,bJ.of hR',lR x0 (by omega),_,rfl,_,rfl,_,rfl,a,_,_,_,rfl,rfl,bJ.of ha',aq,q1,_,_,_,rfl,rfl,dB.of hq',rfl,R,_,_,_,rfl,rfl,bJ.of hR',lR y0 (by omega),GQ,fun p hp=>?_⟩;have n1:=aH hp (.tup [V.int (rs.getD x.toNat 0),V.int (rs.getD y.toNat 0)]);refine ⟨p,_,rfl,dB.of aC,rfl,_,_,rfl,_,_,rfl,rfl,?_⟩;refine ⟨_,rfl,_,rfl,rfl,_,rfl,?_⟩;refine jT (fun c=>?_) (fun c=>?_)
  ·exact q false _ (hs.trans n1) fun z=>absurd z k0
  refine ⟨_,rfl,R,rfl,⟨_,bJ.of (n1 _ _ hR')⟩,fun D hD=>?_⟩;have hDn:=n1.free hD;refine dG (xs:=Is rs) (fun j τ H2=>∃ v0 ts,τ = [v0,some (.ref a),some (.int k),some (.ref R),some (.int (0+(i:Int))),some (.int (rs.getD x.toNat 0)),some (.int (rs.getD y.toNat 0))]/\aW H' H2/\H2 D=some (.lst (Is ts))/\ts.length=j) ⟨none,[],rfl,n1.trans (aH hD _),aC,rfl⟩ ?keep2 ?turn2 ?done2
  case keep2 =>
   rintro j τ H2 hj ⟨v0,ts,rfl,hs2,_⟩;exact bJ.of (hs2 _ _ hR')
  case turn2 =>
   rintro j m v τ H2 hm hj hv ⟨v0,ts,rfl,hs2,hD2,tl⟩;obtain ⟨z,hz,rfl⟩:=gM hv;have hj4:j<4:=by rw [aK] at hj; omega
   refine m9 ?_;refine ⟨_,rfl,_,rfl,GQ,fun l hl=>?_⟩;have nl:=aH hl (.lst [V.int z,V.int (rs.getD x.toNat 0)]);refine ⟨_,rfl,_,rfl,rfl,.inr ⟨_,rfl,?_⟩⟩;obtain ⟨u,hu⟩:∃ u:Int,wH [V.int z,V.int (rs.getD x.toNat 0)] (if decide (V.int z=V.int (rs.getD y.toNat 0))=true then 1 else 0)=some (.int u):=by cases decide (V.int z=V.int (rs.getD y.toNat 0)) <;> exact ⟨_,rfl⟩
   refine ⟨l,_,_,_,rfl,rfl,bJ.of aC,hu,?_⟩;refine bF hm hj (nl _ _ hD2) (by rw [aK]; exact aP (by omega)) ⟨_,ts++[u],rfl,(hs2.trans nl).upd_new hDn _,by rw [aC,cD],by rw [Y4,tl]; rfl⟩
  case done2 =>
   rintro τ H2 ⟨v0,ts,rfl,hs2,hD2,tl⟩;exact ⟨D,ts,_,_,_,rfl,hs.trans hs2,hD2,by rw [tl,aK,rl]⟩
theorem qQ {n:Nat}{f:Addr}{fd:FuncData}(F:eN K "_law_under" "_law_under" (top 28) f fd)(b_:mg "range" = none)(X7:mg "any" = none):bO P w K mg base eE (n+1) f fd ["_law_some","_law_many_here"] Az:=by
 refine F.ok jY (fun vs H Q E h=>?_) (fun cdv A outer s H vs Q E hr h=>?_)
 ·obtain ⟨a,ss,m,rfl,_⟩:=h
  rfl
 obtain ⟨a,ss,m,rfl,ha,hne,hl,hr0,m6,q⟩:=h;have nd:=jY.nd;refine ⟨_,(aF (bD (i:=2) nd rfl (Or.inl rfl) (gB aD)) (aF (dF PassesOwn.never rfl (bK rfl b_ (aA (aJ fC aB (pv 1)) aD)) (bA (i:=3) nd rfl (Or.inr rfl)) (aG (bU (cU (aV (CN rfl rfl) rfl X7 Je (aA (dC (ls:=["_law_one"]) (M:=["_law_some","_law_many_here","_law_found","_law_kept"]) rfl (bT.of (by rfl)) (NL.of (by rfl)) (cV (pv 0)) (fun _ _ _ _=>⟨(bA (i:=0) (c7 (by rfl)) rfl (Or.inl rfl)),cX,(dI cH (aJ fG (pv 4) (pv 0)) (pv 4) (aX _))⟩)) aD))) (aG (iI (oR PySem.F.plainAttrs_list PySem.F.slot_list_append PySem.F.type_list_append eZ (pv 2) (aA (pv 3) aD)))) aZ))) (aG (aU (pv 2))))),?_⟩;obtain ⟨N,hN⟩:∃ N:Nat,N=2^m:=⟨_,rfl⟩
 have yO:N<=64:=by rw [hN]; exact Y7 (Zy (by decide) m6) (by decide)
 have pp:0<N:=by rw [hN]; exact aAG (by decide)
 have pe:(1:Int)*2^((m:Int)).toNat=(N:Int):=by rw [aAI,ZM,hN]; push_cast; rfl
 refine ⟨Yq _,fun R hR=>?_⟩;have nR:=aH hR (.lst []);refine ⟨_,rfl,_,_,rfl,rfl,⟨by omega,by omega,by decide⟩,(N:Int),congrArg (fun v=>[V.int v]) pe,by omega,by omega,?_⟩;refine cY (n:=(N:Int).toNat) (fun i σ H'=>∃ v3 ks,σ = [some (.ref a),some (.int (m:Int)),some (.ref R),v3]/\aW H H'/\H' R=some (.lst (Is ks))/\Part i ks) ⟨none,[],rfl,nR,aC,Part.nil⟩ ?turn ?done
 case done =>
  rintro σ H' ⟨v3,ks,rfl,hs,hR',pt⟩;rw [ZM,hN] at pt;exact ⟨_,rfl,q R H' ks hs hR hR' pt⟩
 case turn =>
  rintro i σ H' hi ⟨v3,ks,rfl,hs,hR',pt⟩;have ha':=hs _ _ ha;refine ⟨_,rfl,a,rfl,⟨_,bJ.of ha'⟩,fun D hD=>?_⟩;refine dG (xs:=Is ss) (fun j τ H2=>∃ v0,τ = [v0,some (.ref a),some (.int (m:Int)),some (.ref R),some (.int (0+(i:Int)))]/\aW H' H2/\H2 D=some (.lst (Bs ((ss.take j).map fun o=>decide (V.int (Builtin.bitAnd (0+(i:Int)) o)=V.int (0+(i:Int))))))) ⟨none,rfl,aH hD _,aC⟩ ?keep2 ?turn2 ?done2
  case keep2 =>
   rintro j τ H2 hj ⟨v0,rfl,hs2,_⟩;exact bJ.of (hs2 _ _ ha')
  case turn2 =>
   rintro j m' v τ H2 hm hj hv ⟨v0,rfl,hs2,hD2⟩;obtain ⟨z,hz,rfl⟩:=gM hv;refine m9 ?_;refine ⟨_,rfl,_,rfl,_,_,rfl,rfl,_,rfl,rfl,?_⟩;refine bF hm hj hD2 (by rw [Ba,YQ]; exact aP (Y7 (List.length_take_le _ _) (by rw [aK] at hj; omega))) ⟨_,rfl,hs2.upd_new hD _,?_⟩;rw [aC,take_snoc hz,Yo];show _=some (HO.lst (List.map V.bl (_++[decide (V.int (Builtin.bitAnd (0+(i:Int)) z)=V.int (0+(i:Int)))])));rw [Yo]
   rfl
  case done2 =>
   rintro τ H2 ⟨v0,rfl,hs2,hD2⟩;rw [aK,Yz] at hD2;refine ⟨D,_,rfl,bJ.of hD2,_,rfl,?_⟩;cases eu:uF ss (0+(i:Int)) with
   | true =>
    refine jL (show uF ss (0+(i:Int))=true from eu) ?_;refine ⟨_,rfl,.inl ⟨rfl,_,bJ.of (hs2 _ _ hR')⟩,_,rfl,R,_,_,rfl,rfl,hs2 _ _ hR',by rw [aK]; exact aP (Y7 pt.l (by omega)),?_⟩;exact ⟨_,ks++[0+(i:Int)],rfl,(hs.trans hs2).upd_new hR _,by rw [aC,cD],pt.snoc⟩
   | false =>
    refine eU (show uF ss (0+(i:Int))=false from eu) ?_;have i0:i≠0:=fun z=>by
     subst z;rw [VF hne fun s hs=>R4 (hr0 s hs).1 (hr0 s hs).2] at eu;cases eu
    exact ⟨_,ks,rfl,hs.trans hs2,hs2 _ _ hR',pt.skip i0⟩
end
section
variable {P:Program}{w:World}{K:PySem.W.Frag}{mg:Str->Option Value}{base:Heap}{Pt:Addr}
theorem RJ {k:Int}{b:Nat}(h0:0<=k)(h1:k<64)(hb6:b<6):decide (V.int (Builtin.bitAnd (k/2^((0:Int)+(b:Int)).toNat) 1)=V.int 0) = !hb k (0+(b:Int)):=by
 rw [JQ h0 h1 hb6];cases hb k (0+(b:Int)) <;> rfl
theorem qR {n:Nat}{f:Addr}{fd:FuncData}(F:eN K "_law_grown" "_law_grown" (top 33) f fd)(b_:mg "range" = none):bO P w K mg base eE (n+1) f fd ["_law_sets","_law_one","_law_other"] JV:=by
 refine F.ok j6 (fun vs H Q E h=>?_) (fun cdv A outer s H vs Q E hr h=>?_)
 ·obtain ⟨a,ss,o,e,rfl,_⟩:=h
  rfl
 obtain ⟨a,ss,o,e,rfl,ha,e0,e1,q⟩:=h;have nd:=j6.nd;refine ⟨_,(aF (dF PassesOwn.never rfl (bK rfl b_ (aA aB aD)) (bA (i:=3) nd rfl (Or.inl rfl)) (aG (bU (PW.pt (fY (aR cH (aJ fG (aJ gA (pv 1) (pv 3)) aB) aB (aX _)) (fY (aR cH (aJ fG (aJ gA (pv 2) (pv 3)) aB) aB (aX _)) (eY (aR nQ (aJ Ae (pv 2) (aJ fC aB (pv 3))) (pv 0) rfl))))) (aG (aU d7)) aZ))) (aG (aU d7))),?_⟩;refine ⟨6,rfl,by decide,by decide,?_⟩;refine cY (n:=(6:Int).toNat) (fun i σ H'=>∃ v3,σ = [some (.ref a),some (.int o),some (.int e),v3]/\H'=H/\(six i).any (gF ss o e)=false) ⟨none,rfl,rfl,rfl⟩ ?turn ?done
 case turn =>
  rintro i σ H' hi ⟨v3,rfl,rfl,no⟩;have hi6:i<6:=hi;refine ⟨_,rfl,_,rfl,_,_,rfl,rfl,(by show (0:Int)<=0+(i:Int); omega),_,_,rfl,rfl,rfl,_,rfl,?_⟩;cases b1:hb o (0+(i:Int)) with
  | false =>
   refine eU b1 ?_;refine eU rfl ?_;exact ⟨_,rfl,rfl,pL no (by unfold gF; rw [b1]; rfl)⟩
  | true =>
   refine jL b1 ?_;refine ⟨_,rfl,_,rfl,_,_,rfl,rfl,(by show (0:Int)<=0+(i:Int); omega),_,_,rfl,rfl,rfl,_,rfl,?_⟩;rw [RJ e0 e1 hi6];cases b2:hb e (0+(i:Int)) with
   | true =>
    refine eU rfl ?_;refine eU rfl ?_;exact ⟨_,rfl,rfl,pL no (by unfold gF; rw [b1,b2]; rfl)⟩
   | false =>
    refine jL rfl ?_;refine ⟨_,rfl,_,rfl,_,_,rfl,rfl,⟨by omega,by omega,by decide⟩,_,_,rfl,rfl,_,rfl,a,_,rfl,.inl (bJ.of ha),rfl,jN _,_,rfl,?_⟩;cases b3:qL (.int (Builtin.bitOr e (1*2^((0:Int)+(i:Int)).toNat))) (Is ss) with
    | false =>
     refine eU rfl ?_;exact ⟨_,rfl,rfl,pL no (by unfold gF; rw [b1,b2,b3]; rfl)⟩
    | true =>
     refine jL rfl ?_;have t:zB ss o e=true:=Ax hi6 (by unfold gF; rw [b1,b2,b3]; rfl);rw [t] at q;exact q
 case done =>
  rintro σ H' ⟨v3,rfl,rfl,no⟩;have t:zB ss o e=false:=no;rw [t] at q;exact q
theorem nM {n:Nat}{f:Addr}{fd:FuncData}(F:eN K "_law_lessened" "_law_lessened" (top 34) f fd)(b_:mg "range" = none):bO P w K mg base eE (n+1) f fd ["_law_sets"] JP:=by
 refine F.ok gH (fun vs H Q E h=>?_) (fun cdv A outer s H vs Q E hr h=>?_)
 ·obtain ⟨a,ss,rfl,_⟩:=h
  rfl
 obtain ⟨a,ss,rfl,ha,q⟩:=h;have nd:=gH.nd;refine ⟨_,(aF (dF PassesOwn.never rfl (cV (pv 0)) (bA (i:=1) nd rfl (Or.inl rfl)) (aG (dF PassesOwn.never rfl (bK rfl b_ (aA aB aD)) (bA (i:=2) nd rfl (Or.inl rfl)) (aG (bU (PW.pt (fY (aR cH (aJ fG (aJ gA (pv 1) (pv 2)) aB) aB (aX _)) (eY (aR gW (aJ eO (pv 1) (aJ fC aB (pv 2))) (pv 0) rfl)))) (aG (aU d7)) aZ))))) (aG (aU d7))),?_⟩;refine ⟨_,rfl,a,rfl,⟨_,bJ.of ha⟩,?_⟩;refine gQ (xs:=Is ss) (fun j σ H'=>∃ v1 v2,σ = [some (.ref a),v1,v2]/\H'=H/\(ss.take j).any (P0 ss)=false) ⟨none,none,rfl,rfl,rfl⟩ ?keep ?turn ?done
 case keep =>
  rintro j σ H' hj ⟨v1,v2,rfl,rfl,_⟩;exact bJ.of ha
 case turn =>
  rintro j v σ H' hv ⟨v1,v2,rfl,rfl,no⟩;obtain ⟨o,ho,rfl⟩:=gM hv;refine ⟨6,rfl,by decide,by decide,?_⟩;refine cY (n:=(6:Int).toNat) (fun i σ H1=>∃ v2,σ = [some (.ref a),some (.int o),v2]/\H1=H'/\(six i).any (lF ss o)=false) ⟨v2,rfl,rfl,rfl⟩ ?turn2 ?done2
  case done2 =>
   rintro σ H1 ⟨v2,rfl,rfl,no2⟩;exact ⟨_,_,rfl,rfl,zQ no ho no2⟩
  case turn2 =>
   rintro i σ H1 hi ⟨v2,rfl,rfl,no2⟩;have hi6:i<6:=hi;refine ⟨_,rfl,_,rfl,_,_,rfl,rfl,(by show (0:Int)<=0+(i:Int); omega),_,_,rfl,rfl,rfl,_,rfl,?_⟩;cases b1:hb o (0+(i:Int)) with
   | false =>
    refine eU b1 ?_;refine eU rfl ?_;exact ⟨_,rfl,rfl,pL no2 (by unfold lF; rw [b1]; rfl)⟩
   | true =>
    refine jL b1 ?_;refine ⟨_,rfl,_,rfl,_,_,rfl,rfl,⟨by omega,by omega,by decide⟩,_,_,rfl,rfl,_,rfl,a,_,rfl,.inl (bJ.of ha),rfl,jN _,_,rfl,?_⟩;cases b3:qL (.int (o-1*2^((0:Int)+(i:Int)).toNat)) (Is ss) with
    | true =>
     refine eU rfl ?_;exact ⟨_,rfl,rfl,pL no2 (by unfold lF; rw [b1,b3]; rfl)⟩
    | false =>
     refine jL rfl ?_;have t:wJ ss=true:=yR ho (Ax hi6 (by unfold lF; rw [b1,b3]; rfl));rw [t] at q;exact q
 case done =>
  rintro σ H' ⟨v1,v2,rfl,rfl,no⟩;rw [aK,Yz] at no;have t:wJ ss=false:=no;rw [t] at q;exact q
theorem UJ {n:Nat}(h:n<=1000):n<=sizeLine:=Yx (aP h)
theorem Ef:∀ (ks:List Int) (i:Nat),(ks.map V.int).eraseIdx i=(ks.eraseIdx i).map V.int
 | [],_=>rfl
 | _::_,0=>rfl
 | k::ks,i+1=>by show V.int k::(ks.map V.int).eraseIdx i=V.int k::(ks.eraseIdx i).map V.int; rw [Ef ks i]
theorem RB {ks:List Int}{i:Nat}{x:V}(h:i<ks.length):(Is ks)[i]? = some (V.int (ks.getD i 0)):=by rw [Yi,YL h]; simp [h]
theorem pU {n:Nat}{f:Addr}{fd:FuncData}(F:eN K "_law_listed" "_law_listed" (top 30) f fd){g_:Addr}{gV:FuncData}(a_:fJ P w K mg base n "_law_cell_at" ["_law_script","_law_k"] (Bv K) g_ gV){WR:Addr}{V_:FuncData}(WT:fJ P w K mg base n "_law_forest" ["_law_pairs","_law_kept"] v8 WR V_){W9:Addr}{WW:FuncData}(Wa:fJ P w K mg base n "_law_under" ["_law_some","_law_many_here"] Az W9 WW){Wl:Addr}{Wb:FuncData}(S_:fJ P w K mg base n "_law_many" ["_law_script","_law_first","_law_most"] (Ms K) Wl Wb){Wm:Addr}{Wc:FuncData}(Wn:fJ P w K mg base n "_law_bits" ["_law_script","_law_k"] (DP K) Wm Wc)(e_:mg "len" = none)(b_:mg "range" = none)(F_:mg "max" = none):bO P w K mg base eE (n+1) f fd ["_law_script","_law_way","_law_many_here"] (zT K):=by
 refine F.ok jD (fun vs H Q E h=>?_) (fun cdv A outer s H vs Q E hr h=>?_)
 ·obtain ⟨a,ns,w,m,rfl,_⟩:=h
  rfl
 obtain ⟨a,ns,w,m,rfl,hS,m1,m6,q⟩:=h;have nd:=jD.nd;refine ⟨_,(aF (bU (PW.pt (fY (aR cH (pv 1) aB (aX _)) (eY (aR sU (aJ bV (aL a_ hr (aA (pv 0) (aA aB aD))) aB) aB (aX _))))) (aG (aU (aL Wn hr (aA (pv 0) (aA aB aD))))) aZ) (aF (bU (aR cH (pv 1) aB (aX _)) (aG (aU (dC (ls:=["_law_k"]) (M:=["_law_script","_law_way","_law_many_here","_law_some","_law_pairs","_law_found"]) rfl (bT.of (by rfl)) (NL.of (by rfl)) (bK rfl b_ (aA (aV (mV rfl) rfl F_ tR (aA aB (aA (aL S_ hr (aA (pv 0) (aA aB (aA aB aD)))) aD))) aD)) (fun _ _ _ _=>⟨(bA (i:=0) (c7 (by rfl)) rfl (Or.inl rfl)),cX,(aJ bV (aL a_ hr (aA (pv 1) (aA (aJ b7 aB (pv 0)) aD))) aB)⟩)))) aZ) (aF (bU (PW.pt (sW (aR cH (pv 1) aB (aX _)) (nJ (aR cH (pv 1) aB (aX _))))) (aF (gZ (i:=3) (ls:=["_law_k"]) (M:=["_law_script","_law_way","_law_many_here","_law_some","_law_pairs","_law_found"]) rfl (bT.of (by rfl)) (NL.of (by rfl)) nd rfl (Or.inl rfl) (bK rfl b_ (aA (aV (mV rfl) rfl F_ tR (aA aB (aA (aL S_ hr (aA (pv 0) (aA aB (aA aB aD)))) aD))) aD)) (fun _ _ _ _=>⟨(bA (i:=0) (c7 (by rfl)) rfl (Or.inl rfl)),cX,(aJ bV (aL a_ hr (aA (pv 1) (aA (aJ b7 aB (pv 0)) aD))) (aJ fC aB (pv 3)))⟩)) (aG (aU (aJ K7 (aL Wa hr (aA (pv 3) (aA (pv 2) aD))) (gB (aA (aJ eO aB (aJ fC aB (pv 2))) aD)))))) aZ) (aF (bD (i:=4) nd rfl (Or.inr rfl) (dC (ls:=["_law_k"]) (M:=["_law_script","_law_way","_law_many_here","_law_some","_law_pairs","_law_found"]) rfl (bT.of (by rfl)) (NL.of (by rfl)) (bK rfl b_ (aA (pv 2) aD)) (fun _ _ _ _=>⟨(bA (i:=0) (c7 (by rfl)) rfl (Or.inl rfl)),cX,(gY (aA (aJ bV (aL a_ hr (aA (pv 1) (aA (aJ b7 aB (pv 0)) aD))) aB) (aA (aJ bV (aL a_ hr (aA (pv 1) (aA (aJ b7 aB (pv 0)) aD))) aB) aD)))⟩))) (aF (gZ (i:=5) (ls:=["_law_kept"]) (M:=["_law_script","_law_way","_law_many_here","_law_some","_law_pairs","_law_found"]) rfl (bT.of (by rfl)) (NL.of (by rfl)) nd rfl (Or.inl rfl) (bK rfl b_ (aA (aJ fC aB (pv 2)) aD)) (fun _ _ _ _=>⟨(bA (i:=0) (c7 (by rfl)) rfl (Or.inl rfl)),(jM (cU (aL WT hr (aA (pv 5) (aA (pv 0) aD))))),(pv 0)⟩)) (aF (bU (aR cH (pv 1) aB (aX _)) (aG (iI (oR PySem.F.plainAttrs_list PySem.F.slot_list_append PySem.F.type_list_append eZ (pv 5) (aA (aJ eO aB (aJ bV (aJ dX (aL a_ hr (aA (pv 0) (aA aB aD))) aB) aB)) aD)))) aZ) (aF (bU (PW.pt (fY (aR cH (pv 1) aB (aX _)) (eY (aR sU (aV bC rfl e_ cW (aA (pv 5) aD)) aB (aX _))))) (aG (iI (oR PySem.F.plainAttrs_list PySem.F.slot_list_pop PySem.F.type_list_pop DN (pv 5) (aA (aJ bV (aJ dX (aL a_ hr (aA (pv 0) (aA aB aD))) aB) (aV bC rfl e_ cW (aA (pv 5) aD))) aD)))) aZ) (aG (aU (pv 5)))))))))),?_⟩;obtain ⟨N,hN⟩:∃ N:Nat,N=2^m:=⟨_,rfl⟩
 have yO:N<=64:=by rw [hN]; exact Y7 (Zy (by decide) m6) (by decide)
 have pp:0<N:=by rw [hN]; exact aAG (by decide)
 have pe:(1:Int)*2^((m:Int)).toNat=(N:Int):=by rw [aAI,ZM,hN]; push_cast; rfl
 refine ⟨_,rfl,rfl,_,rfl,?_⟩
 by_cases z2:w=2
 ·refine jL (decide_eq_true (congrArg V.int z2)) ?_;refine ⟨_,rfl,a,ns,2,rfl,hS,by decide,by decide,fun j j0 j1=>?_⟩;refine ⟨_,_,rfl,rfl,(by show (0:Int)<3; decide),_,_,rfl,rfl,_,rfl,?_⟩;refine jT (fun _=>?_) (fun _=>?_)
  ·exact ⟨_,rfl,a,ns,3,rfl,hS,by decide,fun r H1 ks s1 hrn hr1 g=>q r H1 ks s1 hr1 ⟨g.l1,by have:=g.l64; omega,g.k⟩⟩
  refine ⟨_,rfl,rfl,_,rfl,?_⟩;refine jL (decide_eq_true (congrArg V.int z2)) ?_;refine ⟨_,rfl,a,ns,3,12,rfl,hS,by decide,by decide,by decide,fun y y0 y1=>?_⟩;refine ⟨1,y,rfl,?_⟩;obtain ⟨M,eM,hM1,hM2⟩:∃ M:Int,(if y > 1 then y else 1)=M/\1<=M/\M<=12:=⟨_,rfl,by split <;> omega,by split <;> omega⟩
  refine ⟨M,congrArg (fun v=>[V.int v]) eM,by omega,by omega,fun D hD=>?_⟩;refine bW (n:=M.toNat) (fun i τ H'=>∃ v0 ss,τ = [v0,some (.ref a),some (.int w),some (.int (m:Int)),none,none,none]/\aW H H'/\H' D=some (.lst (Is ss))/\(∀ s∈ss,0<=s/\s<64)/\ss.length=i) ⟨none,[],rfl,aH hD _,aC,(fun _ h=>nomatch h),rfl⟩ ?turn1 ?done1
  case turn1 =>
   rintro i j τ H' hm hi ⟨v0,ss,rfl,hs,hD',sr,sl⟩;refine m9 ?_;refine ⟨_,rfl,_,rfl,_,_,rfl,rfl,a,ns,3+(0+(i:Int)),rfl,hs.seq hS,by omega,by omega,fun z z0 z1=>?_⟩;have y1:=Yk z (show (64:Int)≠0 by decide);have y2:=Yc z (show (0:Int)<64 by decide);refine ⟨_,_,rfl,rfl,(by show (0:Int)<64; decide),?_⟩;refine bF hm hi hD' (by rw [aK]; exact aP (by omega)) ⟨_,ss++[z%64],rfl,hs.upd_new hD _,by rw [aC,cD],?_,by rw [Y4,sl]; rfl⟩;intro x hx;rcases Ye.mp hx with u | u
   ·exact sr x u
   ·rw [YT.mp u];omega
  case done1 =>
  rintro τ H1 ⟨v0,ss,rfl,s1,hD1,sr,sl⟩;exact q D H1 ss s1 hD1 ⟨by omega,by omega,fun x hx=>by have:=sr x hx; omega⟩
 refine eU (decide_eq_false fun z=>z2 (by injection z)) ?_;refine eU rfl ?_;refine ⟨_,rfl,rfl,_,rfl,?_⟩;refine eU (decide_eq_false fun z=>z2 (by injection z)) ?_;refine ⟨_,rfl,rfl,_,rfl,?_⟩;refine jT (fun _=>?_) (fun _=>?_)
 ·refine jL rfl ?_;refine ⟨_,rfl,a,ns,3,8,rfl,hS,by decide,by decide,by decide,fun y y0 y1=>?_⟩;refine ⟨1,y,rfl,?_⟩;obtain ⟨M,eM,hM1,hM2⟩:∃ M:Int,(if y > 1 then y else 1)=M/\1<=M/\M<=8:=⟨_,rfl,by split <;> omega,by split <;> omega⟩
  refine ⟨M,congrArg (fun v=>[V.int v]) eM,by omega,by omega,fun D hD=>?_⟩;refine bW (n:=M.toNat) (fun i τ H'=>∃ v0 ss,τ = [v0,some (.ref a),some (.int w),some (.int (m:Int)),none,none,none]/\aW H H'/\H' D=some (.lst (Is ss))/\(∀ s∈ss,0<=s/\s<64)/\ss.length=i) ⟨none,[],rfl,aH hD _,aC,(fun _ h=>nomatch h),rfl⟩ ?turn3 ?done3
  case turn3 =>
   rintro i j τ H' hm hi ⟨v0,ss,rfl,hs,hD',sr,sl⟩;refine m9 ?_;refine ⟨_,rfl,_,rfl,_,_,rfl,rfl,a,ns,3+(0+(i:Int)),rfl,hs.seq hS,by omega,by omega,fun z z0 z1=>?_⟩;have y1:=Yk z (show (N:Int)≠0 by omega);have y2:=Yc z (show (0:Int)<(N:Int) by omega);refine ⟨_,rfl,_,_,rfl,rfl,⟨by omega,by omega,by decide⟩,_,_,rfl,rfl,(by show (0:Int)<1*2^((m:Int)).toNat; rw [pe]; omega),?_⟩;refine bF hm hi hD' (by rw [aK]; exact aP (by omega)) ⟨_,ss++[z%(1*2^((m:Int)).toNat)],rfl,hs.upd_new hD _,by rw [aC,cD],?_,by rw [Y4,sl]; rfl⟩;intro x hx;rcases Ye.mp hx with u | u
   ·exact sr x u
   ·rw [YT.mp u,pe];omega
  case done3 =>
  rintro τ H1 ⟨v0,ss,rfl,s1,hD1,sr,sl⟩;refine ⟨_,rfl,_,rfl,D,ss,m,rfl,hD1,(fun z=>by rw [z] at sl; have:0=M.toNat:=sl; omega),by omega,sr,m6,fun r H2 ks s2 _ hr2 pt=>?_⟩;rw [<- hN] at pt;have kl:=pt.l;refine ⟨_,rfl,_,_,rfl,rfl,⟨by omega,by omega,by decide⟩,_,_,rfl,rfl,Px,fun l hl=>?_⟩;have n3:=aH hl (.lst [V.int (64-1*2^((m:Int)).toNat)]);refine ⟨r,l,_,_,rfl,rfl,n3 _ _ hr2,aC,by rw [aK]; exact UJ (show ks.length+1<=1000 by omega),fun t ht=>?_⟩;have n4:=aH ht (.lst (Is ks++[V.int (64-1*2^((m:Int)).toNat)]));refine q t _ (ks++[64-1*2^((m:Int)).toNat]) ((s1.trans s2).trans (n3.trans n4)) (by rw [aC,cD]) ⟨by rw [Y4]; show 1<=ks.length+1; omega,by rw [Y4]; show ks.length+1<=100; omega,fun x hx=>?_⟩;rcases Ye.mp hx with u | u
  ·have:=pt.r x u;omega
  ·rw [YT.mp u,pe];omega
 refine ⟨_,rfl,rfl,_,rfl,?_⟩;refine jT (fun _=>?_) (fun _=>?_)
 ·skip
  refine ⟨_,rfl,a,ns,3,8,rfl,hS,by decide,by decide,by decide,fun y y0 y1=>?_⟩;refine ⟨1,y,rfl,?_⟩;obtain ⟨M,eM,hM1,hM2⟩:∃ M:Int,(if y > 1 then y else 1)=M/\1<=M/\M<=8:=⟨_,rfl,by split <;> omega,by split <;> omega⟩
  refine ⟨M,congrArg (fun v=>[V.int v]) eM,by omega,by omega,fun D hD=>?_⟩;refine bW (n:=M.toNat) (fun i τ H'=>∃ v0 ss,τ = [v0,some (.ref a),some (.int w),some (.int (m:Int)),none,none,none]/\aW H H'/\H' D=some (.lst (Is ss))/\(∀ s∈ss,0<=s/\s<64)/\ss.length=i) ⟨none,[],rfl,aH hD _,aC,(fun _ h=>nomatch h),rfl⟩ ?turn4 ?done4
  case turn4 =>
   rintro i j τ H' hm hi ⟨v0,ss,rfl,hs,hD',sr,sl⟩;refine m9 ?_;refine ⟨_,rfl,_,rfl,_,_,rfl,rfl,a,ns,3+(0+(i:Int)),rfl,hs.seq hS,by omega,by omega,fun z z0 z1=>?_⟩;have y1:=Yk z (show (N:Int)≠0 by omega);have y2:=Yc z (show (0:Int)<(N:Int) by omega);refine ⟨_,rfl,_,_,rfl,rfl,⟨by omega,by omega,by decide⟩,_,_,rfl,rfl,(by show (0:Int)<1*2^((m:Int)).toNat; rw [pe]; omega),?_⟩;refine bF hm hi hD' (by rw [aK]; exact aP (by omega)) ⟨_,ss++[z%(1*2^((m:Int)).toNat)],rfl,hs.upd_new hD _,by rw [aC,cD],?_,by rw [Y4,sl]; rfl⟩;intro x hx;rcases Ye.mp hx with u | u
   ·exact sr x u
   ·rw [YT.mp u,pe];omega
  case done4 =>
  rintro τ H1 ⟨v0,ss,rfl,s1,hD1,sr,sl⟩;refine ⟨_,rfl,_,rfl,D,ss,m,rfl,hD1,(fun z=>by rw [z] at sl; have:0=M.toNat:=sl; omega),by omega,sr,m6,fun r H2 ks s2 _ hr2 pt=>?_⟩;rw [<- hN] at pt;have kl:=pt.l;refine ⟨_,rfl,_,_,rfl,rfl,⟨by omega,by omega,by decide⟩,_,_,rfl,rfl,Px,fun l hl=>?_⟩;have n3:=aH hl (.lst [V.int (64-1*2^((m:Int)).toNat)]);refine ⟨r,l,_,_,rfl,rfl,n3 _ _ hr2,aC,by rw [aK]; exact UJ (show ks.length+1<=1000 by omega),fun t ht=>?_⟩;have n4:=aH ht (.lst (Is ks++[V.int (64-1*2^((m:Int)).toNat)]));refine q t _ (ks++[64-1*2^((m:Int)).toNat]) ((s1.trans s2).trans (n3.trans n4)) (by rw [aC,cD]) ⟨by rw [Y4]; show 1<=ks.length+1; omega,by rw [Y4]; show ks.length+1<=100; omega,fun x hx=>?_⟩;rcases Ye.mp hx with u | u
  ·have:=pt.r x u;omega
  ·rw [YT.mp u,pe];omega
 refine ⟨_,rfl,(m:Int),rfl,by omega,by omega,fun D hD=>?_⟩;refine bW (n:=(m:Int).toNat) (fun i τ H'=>∃ v0 qs,τ = [v0,some (.ref a),some (.int w),some (.int (m:Int)),none,none,none]/\aW H H'/\Ex H' D qs/\qs.length=i) ⟨none,[],rfl,aH hD _,⟨aC,fun _ h=>nomatch h⟩,rfl⟩ ?turn5 ?done5
 case turn5 =>
  rintro i j τ H' hm hi ⟨v0,qs,rfl,hs,pr,ql⟩;refine m9 ?_;refine ⟨_,rfl,_,rfl,_,_,rfl,rfl,a,ns,3+(0+(i:Int)),rfl,hs.seq hS,by omega,by omega,fun z z0 z1=>?_⟩;have y1:=Yk z (show (4:Int)≠0 by decide);have y2:=Yc z (show (0:Int)<4 by decide);refine ⟨_,_,rfl,rfl,(by show (0:Int)<4; decide),?_⟩;refine ⟨_,rfl,_,rfl,_,_,rfl,rfl,a,ns,9+(0+(i:Int)),rfl,hs.seq hS,by omega,by omega,fun u u0 u1=>?_⟩;have x1:=Yk u (show (4:Int)≠0 by decide);have x2:=Yc u (show (0:Int)<4 by decide);refine ⟨_,_,rfl,rfl,(by show (0:Int)<4; decide),GQ,fun p hp=>?_⟩;have n1:=aH hp (.tup [V.int (z%4),V.int (u%4)]);have pr1:=pr.same n1;refine bF hm hi pr1.1 (by rw [YQ]; exact aP (by omega)) ⟨_,qs++[p],rfl,(hs.trans n1).upd_new hD _,⟨?_,fun q1 hq1=>?_⟩,by rw [Y4,ql]; rfl⟩
  ·rw [aC,Yo]
   rfl
  ·rcases Ye.mp hq1 with t | t
   ·obtain ⟨c,d,e1,e2⟩:=pr1.2 q1 t;exact ⟨c,d,by rw [aO (sX e1 pr1.1 fun z=>nomatch z)]; exact e1,e2⟩
   ·rw [YT.mp t];exact ⟨z%4,u%4,by rw [aO (sX aC pr1.1 fun z=>nomatch z)]; exact aC,y1,y2,x1,x2⟩
 case done5 =>
 rintro τ H1 ⟨v0,qs,rfl,s1,pr,ql⟩;rw [ZM] at ql;refine ⟨_,rfl,_,_,rfl,rfl,⟨by omega,by omega,by decide⟩,(N:Int),congrArg (fun v=>[V.int v]) pe,by omega,by omega,fun F hF=>?_⟩;refine bW (n:=(N:Int).toNat) (fun i τ H'=>∃ v0 ks,τ = [v0,some (.ref a),some (.int w),some (.int (m:Int)),none,some (.ref D),none]/\aW H1 H'/\H' F=some (.lst (Is ks))/\Part i ks) ⟨none,[],rfl,aH hF _,aC,Part.nil⟩ ?turn6 ?done6
 case turn6 =>
  rintro i j τ H' hm hi ⟨v0,ks,rfl,hs,hF',pt⟩;refine ⟨_,rfl,_,rfl,D,qs,0+(i:Int),rfl,pr.same hs,by omega,fun b H2 s2 hb0'=>?_⟩;refine ⟨_,rfl,?_⟩;have hF2:=s2 _ _ hF';cases b with
  | false =>
   refine eU rfl ?_;exact dO hm hi ⟨_,ks,rfl,hs.trans s2,hF2,pt.skip fun z=>by have h:=hb0' (by rw [z]; rfl); cases h⟩
  | true =>
   refine jL rfl ?_;refine ⟨_,rfl,?_⟩;exact bF hm hi hF2 (by rw [aK]; exact aP (Y7 pt.l (by omega))) ⟨_,ks++[0+(i:Int)],rfl,(hs.trans s2).upd_new hF _,by rw [aC,cD],pt.snoc⟩
 case done6 =>
 rintro τ H2 ⟨v1,ks,rfl,s2,hF2,pt⟩;rw [ZM] at pt;have kr:∀ x∈ks,0<=x/\x<=63:=fun x hx=>by have:=pt.r x hx; omega
 have kl:=pt.l;have k1:1<=ks.length:=aAM.mpr (List.ne_nil_of_mem (pt.z pp));have jU:=s1.trans s2;have Fn:=s1.free hF;refine ⟨_,rfl,rfl,_,rfl,?_⟩;refine jT (fun c5=>?_) (fun c5=>?_)
 ·refine ⟨_,rfl,.inl ⟨rfl,_,bJ.of hF2⟩,_,rfl,a,ns,2,rfl,jU.seq hS,by decide,by decide,fun z z0 z1=>?_⟩;have y1:=Yk (z/7) (show (5:Int)≠0 by decide);have y2:=Yc (z/7) (show (0:Int)<5 by decide);refine ⟨_,_,rfl,rfl,⟨by decide,by decide⟩,_,_,rfl,rfl,(by show (0:Int)<5; decide),_,_,rfl,rfl,F,_,_,rfl,rfl,hF2,by rw [aK]; exact aP (by omega),?_⟩;have hF3:bN H2 F (.lst (Is ks++[V.int (63-z/7%5)])) F=some (.lst (Is (ks++[63-z/7%5]))):=by rw [aC,cD]
  have s3:aW H (bN H2 F (.lst (Is ks++[V.int (63-z/7%5)]))):=jU.upd_new Fn _;have w5:w=5:=by have:=of_decide_eq_true c5; injection this
  refine ⟨_,rfl,rfl,_,rfl,?_⟩;refine eU (decide_eq_false fun z=>by injection z; omega) ?_;refine eU rfl ?_;refine ⟨_,rfl,?_⟩;refine q F _ _ s3 hF3 ⟨by rw [Y4]; omega,by rw [Y4]; show ks.length+1<=100; omega,fun x hx=>?_⟩;rcases Ye.mp hx with u | u
  ·exact kr x u
  ·rw [YT.mp u];omega
 refine ⟨_,rfl,rfl,_,rfl,?_⟩
 by_cases z6:w=6
 ·refine jL (decide_eq_true (congrArg V.int z6)) ?_;refine ⟨_,rfl,F,_,rfl,.inl (bJ.of hF2),_,_,rfl,rfl,_,rfl,?_⟩;have kl2:=aK ks;refine jT (fun c=>?_) (fun _=>?_)
  ·have c':(1:Int)<(((Is ks).length:Nat):Int):=of_decide_eq_true c;refine ⟨_,rfl,.inl ⟨rfl,_,bJ.of hF2⟩,_,rfl,a,ns,2,rfl,jU.seq hS,by decide,by decide,fun z z0 z1=>?_⟩;refine ⟨_,_,rfl,rfl,⟨by decide,by decide⟩,_,rfl,F,_,rfl,.inl (bJ.of hF2),_,_,rfl,rfl,(by show (0:Int)<(((Is ks).length:Nat):Int); omega),?_⟩;have g1:=Yk (z/7) (show (((Is ks).length:Nat):Int)≠0 by omega);have g2:=Yc (z/7) (show (0:Int)<(((Is ks).length:Nat):Int) by omega);generalize hg:z/7%(((Is ks).length:Nat):Int)=g at g1 g2;refine ⟨F,_,g,g.toNat,V.int (ks.getD g.toNat 0),rfl,congrArg (fun v=>[V.int v]) hg,hF2,by omega,by omega,?_,RB (x:=V.non) (by omega),?_⟩
   ·unfold seqIndex?;have g3:g<(ks.length:Int):=by omega
    simp [show ¬ g<0 by omega,show 0<=g by omega,g3]
   ·have er:(Is ks).eraseIdx g.toNat=Is (ks.eraseIdx g.toNat):=by
     show (ks.map V.int).eraseIdx _=(ks.eraseIdx _).map V.int;exact Ef _ _
    have el:(ks.eraseIdx g.toNat).length=ks.length-1:=aAn (by omega);refine ⟨_,rfl,?_⟩;refine q F _ (ks.eraseIdx g.toNat) (jU.upd_new Fn _) (by rw [aC,er]) ⟨by omega,by omega,fun x hx=>kr x ((List.eraseIdx_sublist ks g.toNat).subset hx)⟩
  ·exact ⟨_,rfl,q F _ ks jU hF2 ⟨k1,by omega,kr⟩⟩
 refine eU (decide_eq_false fun z=>z6 (by injection z)) ?_;refine eU rfl ?_;exact ⟨_,rfl,q F _ ks jU hF2 ⟨k1,by omega,kr⟩⟩
theorem Ep:∀ {l m:List Int},l.Nodup->(∀ x∈l,x∈m)->l.length<=m.length
 | [],_,_,_=>Yq _
 | x::l,m,nd,sub=>by
  obtain ⟨n1,n2⟩:=Zj.mp nd;have hx:=sub x Yg;have hm:=aAZ hx;have pos:0<m.length:=aAy hx;have:=Ep (m:=m.erase x) n2 fun y hy=>(aBi fun e=>n1 (by rw [<- e]; exact hy)).mpr (sub y (Y8 _ hy));rw [ZP];omega
theorem HD {ks:List Int}(nd:ks.Nodup)(hk:∀ x∈ks,0<=x/\x<=63):ks.length<=64:=by
 have sub:∀ x∈ks,x∈six 64:=fun x hx=>by
  have:=hk x hx;unfold six;exact ZW.mpr ⟨x.toNat,ZZ.mpr (by omega),by omega⟩
 have e:(six 64).length=64:=by unfold six; rw [YQ,Z4]
 by_cases h:ks.length<=64
 ·exact h
 ·exact absurd (Ep nd sub) (by omega)
theorem uH {n:Nat}{f:Addr}{fd:FuncData}(F:eN K "_law_spec" "_law_spec" (top 31) f fd){g_:Addr}{gV:FuncData}(a_:fJ P w K mg base n "_law_cell_at" ["_law_script","_law_k"] (Bv K) g_ gV){WX:Addr}{WD:FuncData}(WY:fJ P w K mg base n "_law_listed" ["_law_script","_law_way","_law_many_here"] (zT K) WX WD)(j_:mg "tuple" = none)(b_:mg "range" = none)(k_:mg "sorted" = none)(W6:mg "set" = none):bO P w K mg base eE (n+1) f fd ["_law_script","_law_many_here"] (An K):=by
 refine F.ok lM (fun vs H Q E h=>?_) (fun cdv A outer s H vs Q E hr h=>?_)
 ·obtain ⟨a,ns,m,rfl,_⟩:=h
  rfl
 obtain ⟨a,ns,m,rfl,hS,m1,m6,q⟩:=h;have nd:=lM.nd;refine ⟨_,(aF (bD (i:=2) nd rfl (Or.inl rfl) (aJ bV (aL a_ hr (aA (pv 0) (aA aB aD))) aB)) (aF (bU (aR cH (pv 2) aB (aX _)) (aG (aU (gY (aA lC (aA (aJ bV (aL a_ hr (aA (pv 0) (aA aB aD))) aB) aD))))) aZ) (aF (bU (aR cH (pv 2) aB (aX _)) (aF (gZ (i:=3) (ls:=["_law_k"]) (M:=["_law_script","_law_many_here","_law_way","_law_groups","_law_most"]) rfl (bT.of (by rfl)) (NL.of (by rfl)) nd rfl (Or.inl rfl) (bK rfl b_ (aA (aJ b7 aB (aJ bV (aL a_ hr (aA (pv 0) (aA aB aD))) aB)) aD)) (fun _ _ _ _=>⟨(bA (i:=0) (c7 (by rfl)) rfl (Or.inl rfl)),cX,(aJ bV (aL a_ hr (aA (pv 1) (aA (aJ b7 aB (pv 0)) aD))) aB)⟩)) (aF (gZ (i:=4) (ls:=["_law_k"]) (M:=["_law_script","_law_many_here","_law_way","_law_groups","_law_most"]) rfl (bT.of (by rfl)) (NL.of (by rfl)) nd rfl (Or.inl rfl) (bK rfl b_ (aA aB aD)) (fun _ _ _ _=>⟨(bA (i:=0) (c7 (by rfl)) rfl (Or.inl rfl)),cX,(bQ (mF (K:=K) rfl) (gB (aA aB (aA aB (aA aB (aA aB (aA aB (aA aB (aA aB (aA aB aD))))))))) (aJ bV (aL a_ hr (aA (pv 1) (aA (aJ b7 aB (pv 0)) aD))) aB) (fun _ _=>rfl))⟩)) (aG (aU (gY (aA lC (aA (cB (cL (K:=K) rfl) rfl j_ gD (aA (pv 3) aD)) (aA (cB (cL (K:=K) rfl) rfl j_ gD (aA (pv 4) aD)) aD)))))))) aZ) (aG (aU (gY (aA lC (aA (cB (cL (K:=K) rfl) rfl j_ gD (aA (aV (qX (w:=w) rfl rfl) rfl k_ mQ (aA (cB (xR (K:=K) (w:=w) rfl rfl rfl) rfl W6 Gr (aA (aL WY hr (aA (pv 0) (aA (pv 2) (aA (pv 1) aD)))) aD)) aD)) aD)) aD)))))))),?_⟩;refine ⟨_,rfl,a,ns,0,rfl,hS,by decide,by decide,fun w0 w1 w2=>?_⟩;have e1:=Yk w0 (show (8:Int)≠0 by decide);have e2:=Yc w0 (show (0:Int)<8 by decide);refine ⟨_,_,rfl,rfl,(by show (0:Int)<8; decide),?_⟩;refine ⟨_,rfl,rfl,_,rfl,?_⟩;refine jT (fun _=>?_) (fun c0=>?_)
 ·refine ⟨_,rfl,a,ns,2,rfl,hS,by decide,by decide,fun j j0 j1=>?_⟩;have f1:=Yk j (show (7:Int)≠0 by decide);have f2:=Yc j (show (0:Int)<7 by decide);refine ⟨_,_,rfl,rfl,(by show (0:Int)<7; decide),GQ,fun r hr0=>?_⟩;exact q r _ (.few (j%7)) (aH hr0 _) aC (.few f1 (by omega))
 refine ⟨_,rfl,rfl,_,rfl,?_⟩;refine jT (fun _=>?_) (fun c1=>?_)
 ·refine ⟨_,rfl,a,ns,2,rfl,hS,by decide,by decide,fun j j0 j1=>?_⟩;have f1:=Yk j (show (6:Int)≠0 by decide);have f2:=Yc j (show (0:Int)<6 by decide);refine ⟨_,_,rfl,rfl,(by show (0:Int)<6; decide),_,_,rfl,rfl,1+j%6,rfl,by omega,by omega,fun D hD=>?_⟩;refine bW (n:=(1+j%6).toNat) (fun i τ H'=>∃ v0 gs,τ = [v0,some (.ref a),some (.int (m:Int)),some (.int (w0%8)),none,none]/\aW H H'/\H' D=some (.lst (Is gs))/\(∀ x∈gs,0<=x/\x<=5)/\gs.length=i) ⟨none,[],rfl,aH hD _,aC,(fun _ h=>nomatch h),rfl⟩ ?turn1 ?done1
  case turn1 =>
   rintro i m' τ H' hm hi ⟨v0,gs,rfl,hs,hD',gr,gl⟩;refine m9 ?_;refine ⟨_,rfl,_,rfl,_,_,rfl,rfl,a,ns,3+(0+(i:Int)),rfl,hs.seq hS,by omega,by omega,fun z z0 z1=>?_⟩;have y1:=Yk z (show (3:Int)≠0 by decide);have y2:=Yc z (show (0:Int)<3 by decide);refine ⟨_,_,rfl,rfl,(by show (0:Int)<3; decide),?_⟩;refine bF hm hi hD' (by rw [aK]; exact aP (by omega)) ⟨_,gs++[z%3],rfl,hs.upd_new hD _,by rw [aC,cD],?_,by rw [Y4,gl]; rfl⟩;intro x hx;rcases Ye.mp hx with u | u
   ·exact gr x u
   ·rw [YT.mp u];omega
  case done1 =>
  rintro τ H1 ⟨v0,gs,rfl,s1,hD1,gr,gl⟩;refine ⟨6,rfl,by decide,by decide,fun D2 hD2=>?_⟩;refine bW (n:=(6:Int).toNat) (fun i τ H'=>∃ v0 ms,τ = [v0,some (.ref a),some (.int (m:Int)),some (.int (w0%8)),some (.ref D),none]/\aW H1 H'/\H' D2=some (.lst (Is ms))/\(∀ x∈ms,0<=x/\x<=6)/\ms.length=i) ⟨none,[],rfl,aH hD2 _,aC,(fun _ h=>nomatch h),rfl⟩ ?turn2 ?done2
  case turn2 =>
   rintro i m' τ H' hm hi ⟨v0,ms,rfl,hs,hD',gr2,gl2⟩;have hi6:i<6:=hi;refine m9 ?_;refine ⟨Yx (aP (show 8<=1000 by decide)),fun l hl=>?_⟩;have nl:=aH hl (.lst [V.int 0,V.int 1,V.int 1,V.int 1,V.int 2,V.int 2,V.int 3,V.int 6]);refine ⟨_,rfl,_,rfl,_,_,rfl,rfl,a,ns,9+(0+(i:Int)),rfl,((s1.trans hs).trans nl).seq hS,by omega,by omega,fun z z0 z1=>?_⟩;obtain ⟨y,hy,y1,y2⟩:=VJ z;refine ⟨_,_,rfl,rfl,(by show (0:Int)<8; decide),l,_,_,_,rfl,rfl,bJ.of aC,hy,?_⟩;have hD3:=nl _ _ hD';refine bF hm hi hD3 (by rw [aK]; exact aP (by omega)) ⟨_,ms++[y],rfl,(hs.trans nl).upd_new hD2 _,by rw [aC,cD],?_,by rw [Y4,gl2]; rfl⟩;intro x hx;rcases Ye.mp hx with u | u
   ·exact gr2 x u
   ·rw [YT.mp u];exact ⟨y1,y2⟩
  case done2 =>
  rintro τ H2 ⟨v1,ms,rfl,s2,hD2',mr,ml⟩;have ml:ms.length=6:=ml;refine ⟨_,rfl,D,_,rfl,.inl ⟨bJ.of (s2 _ _ hD1),fun g hg=>?_⟩⟩;have n3:=aH hg (.tup (Is gs));refine ⟨_,rfl,D2,_,rfl,.inl ⟨bJ.of (n3 _ _ hD2'),fun m hm=>?_⟩⟩;have n4:=aH hm (.tup (Is ms));refine ⟨Uo,fun r hr0=>?_⟩;have n5:=aH hr0 (.tup [.str "groups",.ref g,.ref m]);exact q r _ (.groups gs ms) ((s1.trans s2).trans (n3.trans (n4.trans n5))) ⟨g,m,aC,(n4.trans n5) _ _ aC,n5 _ _ aC⟩ (.groups ⟨by omega,by omega,gr,ml,mr⟩)
 refine ⟨_,rfl,_,rfl,_,rfl,a,ns,w0%8,m,rfl,hS,m1,m6,fun r H1 ks s1 hr1 g=>?_⟩;refine ⟨r,ks,rfl,bJ.of hr1,Zf (show ks.length+1<=101 by have:=g.l2; omega) (by decide),fun S hS1=>?_⟩;have n2:=aH hS1 (.ext (wO w S (uV ks)));have dl:(uV ks).length<=64:=by
  refine HD (mY ks) fun x hx=>g.k x ((uW ks x).mp hx)
 refine ⟨S,uV ks,rfl,aC,by omega,fun l ms hl pm so=>?_⟩;have n3:=aH hl (.lst (Is ms));refine ⟨l,_,rfl,.inl ⟨bJ.of aC,fun t ht=>?_⟩⟩;have n4:=aH ht (.tup (Is ms));refine ⟨GQ,fun p hp=>?_⟩;have n5:=aH hp (.tup [.str "listed",.ref t]);have nd2:ms.Nodup:=pm.nodup_iff.mpr (mY ks);have mk:∀ x∈ms,0<=x/\x<=63:=fun x hx=>g.k x ((uW ks x).mp (pm.mem_iff.mp hx));have lt:=Hv so nd2;have m1':1<=ms.length:=by
  have k1:=g.l1;obtain ⟨x,hx⟩:=List.exists_mem_of_length_pos (show 0<ks.length by omega);exact aAy (pm.mem_iff.mpr ((uW ks x).mpr hx))
 exact q p _ (.listed ms) (s1.trans (n2.trans (n3.trans (n4.trans n5)))) ⟨t,aC,n5 _ _ aC⟩ (.listed lt m1' (Hl lt mk) mk)
theorem uC {n:Nat}{f:Addr}{fd:FuncData}(F:eN K "_law_made" "_law_made" (top 32) f fd){p:yH}{iF:Addr}{iDF:FuncData}{kOF:Nat}(Xr:Mk K p.f iF)(Xu:bO P w K mg base eE kOF iF iDF ["self","count"] (JX p.f))(Xv:Binds K iDF ["self","count"] [])(X8:mg "Few" = some (.ref p.f))(Xp:kOF+1<=n){iG:Addr}{iDG:FuncData}{kOG:Nat}(Xa:Mk K p.g iG)(Xb:bO P w K mg base eE kOG iG iDG ["self","groups","most"] (JW p.g))(Xc:Binds K iDG ["self","groups","most"] [])(WF:mg "Groups" = some (.ref p.g))(XQ:kOG+1<=n){iL:Addr}{iDL:FuncData}{kOL:Nat}(Xd:Mk K p.l iL)(Xe:bO P w K mg base eE kOL iL iDL ["self","sets"] (Dh p.l))(Xf:Binds K iDL ["self","sets"] [])(WK:mg "Listed" = some (.ref p.l))(XR:kOL+1<=n)(l_:mg "list" = none)(J_:mg "reversed" = none):bO P w K mg base eE (n+1) f fd ["_law_spec_here"] (Ak p):=by
 refine F.ok mD (fun vs H Q E h=>?_) (fun cdv A outer s H vs Q E hr h=>?_)
 ·obtain ⟨r,S,rfl,_⟩:=h
  rfl
 obtain ⟨r,S,rfl,hS,ok,q⟩:=h;have nd:=mD.nd;refine ⟨_,(aF (bU (aR cH (bQ b8 (pv 0) aB (fun _ _=>rfl)) lC (aX _)) (aG (aU (tY Xr Xu (hr.mono Xp) rfl X8 Xv .nil qK (aA (bQ b8 (pv 0) aB (fun _ _=>rfl)) aD)))) aZ) (aF (bU (aR cH (bQ b8 (pv 0) aB (fun _ _=>rfl)) lC (aX _)) (aG (aU (tY Xa Xb (hr.mono XQ) rfl WF Xc .nil qK (aA (cB (j4 (K:=K) rfl) rfl l_ iQ (aA (bQ b8 (pv 0) aB (fun _ _=>rfl)) aD)) (aA (cB (j4 (K:=K) rfl) rfl l_ iQ (aA (bQ b8 (pv 0) aB (fun _ _=>rfl)) aD)) aD))))) aZ) (aG (aU (tY Xd Xe (hr.mono XR) rfl WK Xf .nil qK (aA (wF rfl rfl l_ rfl J_ (aA (bQ b8 (pv 0) aB (fun _ _=>rfl)) aD)) aD)))))),?_⟩;cases ok with
 | @few c h0 h6 =>
  have hr1:H r=some (.tup [.str "few",.int c]):=hS;refine ⟨_,rfl,r,_,_,_,rfl,rfl,dB.of hr1,rfl,rfl,_,rfl,jL rfl ?_⟩;refine ⟨_,rfl,r,_,_,_,rfl,rfl,dB.of hr1,rfl,?_⟩;intro y dy hy hdy ndy;have nO:aW H (bN (bN H dy (.own y)) y (.ins p.f dy [])):=(aH hdy (.own y)).trans (aH (by rw [aO (Ne.symm ndy)]; exact hy) _);refine ⟨y,dy,c,rfl,aC,h0,h6,rfl,?_⟩;exact q y _ (nO.upd_new hy _) ⟨dy,aC⟩
 | @groups gs ms g =>
  obtain ⟨ga,ma,hr1,hg,hm⟩:=hS;refine ⟨_,rfl,r,_,_,_,rfl,rfl,dB.of hr1,rfl,rfl,_,rfl,eU rfl ?_⟩;refine ⟨_,rfl,r,_,_,_,rfl,rfl,dB.of hr1,rfl,rfl,_,rfl,jL rfl ?_⟩;refine ⟨_,rfl,r,_,_,_,rfl,rfl,dB.of hr1,rfl,ga,_,rfl,.inr (dB.of hg),fun l1 hl1=>?_⟩;have n1:=aH hl1 (.lst (Is gs));refine ⟨_,rfl,r,_,_,_,rfl,rfl,dB.of (n1 _ _ hr1),rfl,ma,_,rfl,.inr (dB.of (n1 _ _ hm)),fun l2 hl2=>?_⟩;have n2:=aH hl2 (.lst (Is ms));have g1:=n2 _ _ (aC (H:=H) (a:=l1) (o:=.lst (Is gs)));have g2:bN (bN H l1 (.lst (Is gs))) l2 (.lst (Is ms)) l2=some (.lst (Is ms)):=aC;have n12:=n1.trans n2;generalize bN (bN H l1 (.lst (Is gs))) l2 (.lst (Is ms))=H2 at n12 g1 g2 ⊢;intro y dy hy hdy ndy;have nO:aW H2 (bN (bN H2 dy (.own y)) y (.ins p.g dy [])):=(aH hdy (.own y)).trans (aH (by rw [aO (Ne.symm ndy)]; exact hy) _);refine ⟨y,dy,l1,l2,gs,ms,rfl,aC,nO _ _ g1,nO _ _ g2,g,fun gt mt H3 kp h1 h2 h3=>⟨rfl,?_⟩⟩;have s3:aW H2 H3:=fun a o e=>kp a o (bB e hy) (nO _ _ e);exact q y H3 (n12.trans s3) ⟨dy,gt,mt,h3,h1,h2⟩
 | @listed ks lt k1 l64 hk =>
  obtain ⟨ka,hr1,hkk⟩:=hS;have kl:(Is ks).length=ks.length:=aK ks;refine ⟨_,rfl,r,_,_,_,rfl,rfl,dB.of hr1,rfl,rfl,_,rfl,eU rfl ?_⟩;refine ⟨_,rfl,r,_,_,_,rfl,rfl,dB.of hr1,rfl,rfl,_,rfl,eU rfl ?_⟩;refine ⟨_,rfl,r,_,_,_,rfl,rfl,dB.of hr1,rfl,ka,_,rfl,dB.of hkk,by omega,fun l1 hl1=>?_⟩;have er:(Is ks).reverse=Is ks.reverse:=by unfold Is; rw [List.map_reverse]
  rw [er];have n1:=aH hl1 (.lst (Is ks.reverse));have g1:bN H l1 (.lst (Is ks.reverse)) l1=some (.lst (Is ks.reverse)):=aC;generalize bN H l1 (.lst (Is ks.reverse))=H2 at n1 g1 ⊢;intro y dy hy hdy ndy;have nO:aW H2 (bN (bN H2 dy (.own y)) y (.ins p.l dy [])):=(aH hdy (.own y)).trans (aH (by rw [aO (Ne.symm ndy)]; exact hy) _);have gd:HY ks.reverse:=by
   refine ⟨by rw [Zz]; exact k1,?_,aBe.mpr (lt.imp fun h=>(Int.ne_of_lt h).symm),fun x hx=>hk x (List.mem_reverse.mp hx)⟩
   by_cases z:ks.length<64
   ·exact .inl (by rw [Zz]; exact z)
   ·exact .inr ⟨by rw [Zz]; omega,aBe.mpr lt⟩
  refine ⟨y,dy,l1,ks.reverse,rfl,aC,nO _ _ g1,gd,fun kt ms H3 s3 pm so h3=>⟨rfl,?_⟩⟩;have e:ms=ks:=Bu (pm.trans (List.reverse_perm ks)) so lt;subst e;have hy3:=s3 _ _ (aC (H:=bN H2 dy (.own y)) (a:=y) (o:=.ins p.l dy []));have nk:kt≠y:=fun z=>by rw [z,hy3] at h3; cases h3
  exact q y _ ((n1.trans (nO.trans s3)).upd_new (n1.free hy) _) ⟨_,ZS.refl _,lt.imp fun h=>Yt h,dy,kt,aC,by rw [aO nk]; exact h3⟩
end
end K34
namespace K34
open PySem L2 TD TP TG TH
open Builtin.Int (intBits)
section
variable {P:Program}{w:World}{K:PySem.W.Frag}{mg:Str->Option Value}{base:Heap}{Pt:Addr}
theorem zN {n:Nat}{f:Addr}{fd:FuncData}(F:eN K "falling" "falling" (top 20) f fd){Wd:Addr}{WL:FuncData}(We:fJ P w K mg base n "below" ["one","other"] (uG K) Wd WL)(b_:mg "range" = none)(e_:mg "len" = none):bO P w K mg base eE (n+1) f fd ["worths"] z8:=by
 refine F.ok qD (fun vs H Q E h=>?_) (fun cdv A outer s H vs Q E hr h=>?_)
 ·obtain ⟨a,qs,xs,rfl,_⟩:=h
  rfl
 obtain ⟨a,qs,xs,rfl,hW,l6,hz,q⟩:=h;have nd:=qD.nd;refine ⟨_,(aF (bD (i:=1) nd rfl (Or.inl rfl) (gB aD)) (aF (dF PassesOwn.never rfl (bK rfl b_ (aA (aV bC rfl e_ cW (aA (pv 0) aD)) aD)) (bA (i:=2) nd rfl (Or.inl rfl)) (aF (bD (i:=3) nd rfl (Or.inl rfl) (aV bC rfl e_ cW (aA (pv 1) aD))) (aF (vV PassesOwn.never (PW.pt (fY (aR sU (pv 3) aB (aX _)) (eY (cU (aL We hr (aA (bQ cI (pv 0) (bQ cI (pv 1) (aJ eO (pv 3) aB) (fun _ _=>rfl)) (fun _ _=>rfl)) (aA (bQ cI (pv 0) (pv 2) (fun _ _=>rfl)) aD))))))) (aG (bD (i:=3) nd rfl (Or.inl rfl) (aJ eO (pv 3) aB)))) (aG (iI (oR PySem.F.plainAttrs_list PySem.F.slot_list_insert PySem.F.type_list_insert BP (pv 1) (aA (pv 3) (aA (pv 2) aD)))))))) (aG (aU (pv 1))))),?_⟩;have hql:=hW.len;have lq:(qs.map V.ref).length=xs.length:=by rw [YQ,hql]
 refine ⟨Yq _,fun O hO=>?_⟩;have nO:=aH hO (.lst []);refine ⟨_,rfl,a,_,rfl,.inl (bJ.of (nO _ _ hW.lst)),(xs.length:Int),by rw [lq],by omega,by omega,?_⟩;refine cY (n:=(xs.length:Int).toNat) (fun i σ H'=>∃ v2 v3,σ = [some (.ref a),some (.ref O),v2,v3]/\aW H H'/\H' O=some (.lst (Is (bH xs i)))) ⟨none,none,rfl,nO,aC⟩ ?turn ?done
 case done =>
  rintro σ H' ⟨v2,v3,rfl,hs,hO'⟩;rw [ZM] at hO';exact ⟨_,rfl,q O H' hs hO hO'⟩
 case turn =>
  rintro i σ H' hi ⟨v2,v3,rfl,hs,hO'⟩;have hin:i<xs.length:=by omega
  have fl:=rT xs i;have hW':=hW.same hs;refine ⟨_,rfl,O,_,rfl,.inl (bJ.of hO'),?_⟩;refine vP (fun σ H''=>∃ p:Nat,σ = [some (.ref a),some (.ref O),some (.int (0+(i:Int))),some (.int (p:Int))]/\H''=H'/\p<=i/\eX xs (bH xs i) (0+(i:Int)) p=eX xs (bH xs i) (0+(i:Int)) (bH xs i).length) (fun σ _=>match σ with | [_,_,_,some (.int p)]=>p.toNat | _=>0) ⟨i,by rw [aK,fl]; rfl,rfl,YS _,by rw [fl]⟩ ?step ?mono
  case mono =>
   intro σ H Q Q' hQ h;obtain ⟨v1,e1,i,j,e5,e6,kk,e7,h⟩:=h;refine ⟨v1,e1,i,j,e5,e6,kk,e7,?_⟩;cases kk with
   | false=>exact eU rfl (hQ _ _ (Kf h))
   | true =>
    refine jL rfl ?_;obtain ⟨w1,f1,w2,f2,w3,f3,i2,j2,g1,g2,p1,y1,k1,u1,a1,a2,a3,a4,p2,y2,k2,u2,b1,b2,b3,b4,w4,f4,w5,f5,p3,y3,k3,u3,c1,c2,c3,c4,P1,R1,A1,B1,C1,D1,d1,d2,d3,d4,k9,e9,h9⟩:=K8 h;exact ⟨w1,f1,w2,f2,w3,f3,i2,j2,g1,g2,p1,y1,k1,u1,a1,a2,a3,a4,p2,y2,k2,u2,b1,b2,b3,b4,w4,f4,w5,f5,p3,y3,k3,u3,c1,c2,c3,c4,P1,R1,A1,B1,C1,D1,d1,d2,d3,d4,k9,e9,hQ _ _ h9⟩
  case step =>
   rintro σ H'' ⟨p,rfl,rfl,hp,ep⟩;refine ⟨_,rfl,_,_,rfl,rfl,_,rfl,?_⟩;cases p with
   | zero =>
    refine eU (decide_eq_false (by omega)) ?_;refine jH ?_;refine ⟨_,rfl,.inl ⟨rfl,_,bJ.of hO'⟩,_,rfl,_,rfl,O,_,_,_,rfl,rfl,hO',by omega,by rw [aK,fl]; omega,by rw [aK,fl]; exact aP (by omega),?_⟩;refine ⟨_,_,rfl,hs.upd_new hO _,?_⟩;rw [aC];show _=some (HO.lst (Is (fQ xs (bH xs i) (0+(i:Int)))));rw [Af,show eX xs (bH xs i) (0+(i:Int)) (bH xs i).length=0 from ep.symm]
    rfl
   | succ p =>
    refine jL (decide_eq_true (by omega)) ?_;have hpl:p<(bH xs i).length:=by omega
    have bm:=fB xs i _ (TP.getD_mem hpl);have ao:wH (Is (bH xs i)) (((p+1:Nat):Int)-1)=some (.int ((bH xs i).getD p 0)):=by
     have h:=lR (ns:=bH xs i) (k:=((p+1:Nat):Int)-1) (by omega) (by omega);rw [show (((p+1:Nat):Int)-1).toNat=p by omega] at h;exact h
    obtain ⟨q1,hq1,hq1'⟩:=hW'.at' bm.1 (by omega);obtain ⟨q2,hq2,hq2'⟩:=hW'.at' (k:=0+(i:Int)) (by omega) (by omega);have z1:=Fd hz ((bH xs i).getD p 0);have z2:=Fd hz (0+(i:Int));refine ⟨_,rfl,_,rfl,_,rfl,_,_,rfl,rfl,O,_,_,_,rfl,rfl,bJ.of hO',ao,a,_,_,_,rfl,rfl,bJ.of hW'.lst,hq1,_,rfl,_,rfl,a,_,_,_,rfl,rfl,bJ.of hW'.lst,hq2,q1,q2,_,_,_,_,rfl,dB.of hq1',dB.of hq2',⟨Y7 z1.1 (by decide),Y7 z1.2 (by decide),Y7 z2.1 (by decide),Y7 z2.2 (by decide)⟩,_,rfl,?_⟩
    by_cases hless:yN (oV xs ((bH xs i).getD p 0)) (oV xs (0+(i:Int)))
    ·refine jL (decide_eq_true (p:=yN _ _) hless) ?_;refine ⟨_,rfl,_,_,rfl,rfl,?_⟩;rw [show eX xs (bH xs i) (0+(i:Int)) (p+1)=eX xs (bH xs i) (0+(i:Int)) p from if_pos hless] at ep;refine ⟨⟨p,?_,rfl,by omega,ep⟩,?_⟩
     ·show [_,_,_,some (V.int (((p+1:Nat):Int)-1))]=_;rw [show (((p+1:Nat):Int)-1)=(p:Int) by omega]
     ·show (((p+1:Nat):Int)-1).toNat<((p+1:Nat):Int).toNat;omega
    ·refine eU (decide_eq_false (p:=yN _ _) hless) ?_;rw [show eX xs (bH xs i) (0+(i:Int)) (p+1)=p+1 from if_neg hless] at ep;refine ⟨_,rfl,.inl ⟨rfl,_,bJ.of hO'⟩,_,rfl,_,rfl,O,_,_,_,rfl,rfl,hO',by omega,by rw [aK,fl]; omega,by rw [aK,fl]; exact aP (by omega),?_⟩;refine ⟨_,_,rfl,hs.upd_new hO _,?_⟩;rw [aC];show _=some (HO.lst (Is (fQ xs (bH xs i) (0+(i:Int)))));rw [Af,<- ep]
     rfl
theorem Cp {n:Nat}{f:Addr}{fd:FuncData}(F:eN K "chosen" "chosen" (top 21) f fd){p:yH}(pt:QK K p){Xw:Addr}{Xm:FuncData}(Xz:xP K p.f "may" Xw)(X_:bO P w K mg base eE n Xw Xm ["self","kept"] (yG p.f))(YB:Binds K Xm ["self","kept"] []){Xx:Addr}{Xn:FuncData}(YC:xP K p.g "may" Xx)(YD:bO P w K mg base eE n Xx Xn ["self","kept"] (zJ p.g))(YF:Binds K Xn ["self","kept"] []){Xy:Addr}{Xo:FuncData}(YG:xP K p.l "may" Xy)(YH:bO P w K mg base eE n Xy Xo ["self","kept"] (xM p.l))(YJ:Binds K Xo ["self","kept"] []){o_:Addr}{m_:FuncData}(p_:fJ P w K mg base n "boxes_of" ["kept"] uZ o_ m_){XS:Addr}{XC:FuncData}(XX:fJ P w K mg base n "falling" ["worths"] z8 XS XC){Wd:Addr}{WL:FuncData}(We:fJ P w K mg base n "below" ["one","other"] (uG K) Wd WL){Xk:Addr}{Xg:FuncData}(Xl:fJ P w K mg base n "whole" ["number"] Kr Xk Xg){XD:Addr}{Wo:FuncData}(A_:fJ P w K mg base n "with_box" ["kept","box"] Eg XD Wo):bO P w K mg base eE (n+1) f fd ["pattern","worths"] (rY p):=by
 refine F.ok rQ (fun vs H Q E h=>?_) (fun cdv A outer s H vs Q E hr h=>?_)
 ·obtain ⟨x,a,S,qs,xs,rfl,_⟩:=h
  rfl
 obtain ⟨x,a,S,qs,xs,rfl,hX,hG,hW,l6,hz,q⟩:=h;have nd:=rQ.nd;refine ⟨_,(aF (bD (i:=2) nd rfl (Or.inl rfl) aB) (aF (dF PassesOwn.never rfl (cV (aL XX hr (aA (pv 1) aD))) (bA (i:=3) nd rfl (Or.inl rfl)) (aG (bU (PW.pt (fY (cU (aL We hr (aA (aL Xl hr (aA aB aD)) (aA (bQ cI (pv 1) (pv 3) (fun _ _=>rfl)) aD)))) (eY (cU (Jr (uU (pv 0) pt.cf Xz X_ hr YB .nil qK (aA (aL A_ hr (aA (pv 2) (aA (pv 3) aD))) aD)) (uU (pv 0) pt.cg YC YD hr YF .nil qK (aA (aL A_ hr (aA (pv 2) (aA (pv 3) aD))) aD)) (uU (pv 0) pt.cl YG YH hr YJ .nil qK (aA (aL A_ hr (aA (pv 2) (aA (pv 3) aD))) aD))))))) (aG (bD (i:=2) nd rfl (Or.inl rfl) (aL A_ hr (aA (pv 2) (aA (pv 3) aD))))) aZ))) (aG (aU (aL p_ hr (aA (pv 2) aD)))))),?_⟩;refine ⟨_,rfl,a,qs,xs,rfl,hW,l6,hz,fun F H1 s1 hF0 hF=>?_⟩;refine ⟨F,rfl,⟨_,bJ.of hF⟩,?_⟩;refine gQ (xs:=Is (bH xs xs.length)) (fun j σ H'=>∃ kk v3,σ = [some (.ref x),some (.ref a),some (.int kk),v3]/\kk=((bH xs xs.length).take j).foldl (fZ (bY S) xs) 0/\aW H1 H') ⟨0,none,rfl,rfl,aW.refl _⟩ ?keep ?turn ?done
 case keep =>
  rintro j σ H' hj ⟨kk,v3,rfl,ek,hs⟩;exact bJ.of (hs _ _ hF)
 case done =>
  rintro σ H' ⟨kk,v3,rfl,ek,hs⟩;rw [aK,Yz] at ek;refine ⟨_,rfl,kk,rfl,fun r H2 s2 hn2 hr2=>?_⟩;subst ek;exact q r H2 ((s1.trans hs).trans s2) (none_of (s1.trans hs) hn2) hr2
 case turn =>
  rintro j v σ H' hv ⟨kk,v3,rfl,ek,hs⟩;obtain ⟨b,hb1,rfl⟩:=gM hv;have r:=fB xs _ b (Yy hb1);have fs:((bH xs xs.length).take (j+1)).foldl (fZ (bY S) xs) 0=fZ (bY S) xs kk b:=by rw [take_snoc hb1,aAz,ek]; rfl
  have ss:=s1.trans hs;refine ⟨0,rfl,fun p0 H2 s2 hp2=>?_⟩;have hW2:=hW.same (ss.trans s2);obtain ⟨q1,hq1,hq1'⟩:=hW2.at' r.1 r.2;have z1:=Fd hz b;refine ⟨_,rfl,_,rfl,a,_,_,_,rfl,rfl,bJ.of hW2.lst,hq1,p0,q1,0,1,_,_,rfl,dB.of hp2,dB.of hq1',⟨by decide,by decide,Y7 z1.1 (by decide),Y7 z1.2 (by decide)⟩,_,rfl,?_⟩
  by_cases e1:yN (0,1) (oV xs b)
  ·refine jL (decide_eq_true (p:=yN _ _) e1) ?_;refine Sy (k:=Builtin.bitOr kk (1*2^b.toNat)) (hX.same (ss.trans s2)) hG (fun Q' h=>⟨_,rfl,h⟩) (fun Q' h=>⟨_,rfl,_,rfl,kk,b,rfl,r.1,by omega,h _ (aW.refl _)⟩) fun H3 s3=>⟨_,rfl,?_⟩
   cases e2:bY S (Builtin.bitOr kk (1*2^b.toNat)) with
   | false =>
    refine eU rfl ?_;refine ⟨kk,_,rfl,?_,(hs.trans s2).trans s3⟩;rw [fs];exact (if_neg fun z=>by rw [e2] at z; exact absurd z.2 Y9).symm
   | true =>
    refine jL rfl ?_;refine ⟨_,rfl,_,rfl,kk,b,rfl,r.1,by omega,?_⟩;refine ⟨_,_,rfl,?_,(hs.trans s2).trans s3⟩;rw [fs];exact (if_pos ⟨e1,e2⟩).symm
  ·refine eU (decide_eq_false (p:=yN _ _) e1) ?_;refine ⟨kk,_,rfl,?_,hs.trans s2⟩;rw [fs];exact (if_neg fun z=>e1 z.1).symm
theorem mK {n:Nat}{f:Addr}{fd:FuncData}(F:eN K "_law_flawless" "_law_flawless" (top 35) f fd){Wf:Addr}{W0:FuncData}(Wg:fJ P w K mg base n "_law_grown" ["_law_sets","_law_one","_law_other"] JV Wf W0){C_:Addr}{z_:FuncData}(u_:fJ P w K mg base n "_law_size" ["_law_kept"] FJ C_ z_){T_:Addr}{N_:FuncData}(U_:fJ P w K mg base n "_law_lessened" ["_law_sets"] JP T_ N_):bO P w K mg base eE (n+1) f fd ["_law_sets"] Ew:=by
 refine F.ok gO (fun vs H Q E h=>?_) (fun cdv A outer s H vs Q E hr h=>?_)
 ·obtain ⟨a,ss,rfl,_⟩:=h
  rfl
 obtain ⟨a,ss,rfl,ha,ok,q⟩:=h;have nd:=gO.nd;refine ⟨_,(aF (bU (PW.pt (sW (aR gW aB (pv 0) rfl) (nJ (cU (aL U_ hr (aA (pv 0) aD)))))) (aG (aU d7)) aZ) (aF (dF PassesOwn.never rfl (cV (pv 0)) (bA (i:=1) nd rfl (Or.inl rfl)) (aG (dF PassesOwn.never rfl (cV (pv 0)) (bA (i:=2) nd rfl (Or.inl rfl)) (aG (bU (PW.pt (fY (aR cH (aL u_ hr (aA (pv 1) aD)) (aJ b7 (aL u_ hr (aA (pv 2) aD)) aB) (aX _)) (eY (iM (cU (aL Wg hr (aA (pv 0) (aA (pv 1) (aA (pv 2) aD))))))))) (aG (aU d7)) aZ))))) (aG (aU d7)))),?_⟩;refine ⟨_,rfl,a,_,rfl,.inl (bJ.of ha),rfl,jN _,_,rfl,?_⟩;cases i0:qL (.int 0) (Is ss) with
 | false =>
  refine jL rfl ?_;rw [i0] at q;exact q
 | true =>
 refine eU rfl ?_;refine ⟨_,rfl,a,ss,rfl,ha,?_⟩;rw [i0] at q;cases ls:wJ ss with
 | true =>
  refine ⟨_,rfl,?_⟩;refine uY ?_;rw [ls] at q;exact q
 | false =>
 refine ⟨_,rfl,?_⟩;refine jH ?_;rw [ls] at q;refine ⟨_,rfl,a,rfl,⟨_,bJ.of ha⟩,?_⟩;refine gQ (xs:=Is ss) (fun j σ H'=>∃ v1 v2,σ = [some (.ref a),v1,v2]/\H'=H/\(ss.take j).any (HW ss)=false) ⟨none,none,rfl,rfl,rfl⟩ ?keep ?turn ?done
 case keep =>
  rintro j σ H' hj ⟨v1,v2,rfl,rfl,_⟩;exact bJ.of ha
 case turn =>
  rintro j v σ H' hv ⟨v1,v2,rfl,rfl,no⟩;obtain ⟨o,ho,rfl⟩:=gM hv;have ro:=ok.r o (Yy ho);refine ⟨_,rfl,a,rfl,⟨_,bJ.of ha⟩,?_⟩;refine gQ (xs:=Is ss) (fun l σ H1=>∃ v2,σ = [some (.ref a),some (.int o),v2]/\H1=H'/\(ss.take l).any (sF ss o)=false) ⟨v2,rfl,rfl,rfl⟩ ?keep2 ?turn2 ?done2
  case keep2 =>
   rintro l σ H1 hj ⟨v2,rfl,rfl,_⟩;exact bJ.of ha
  case done2 =>
   rintro σ H1 ⟨v2,rfl,rfl,no2⟩;rw [aK,Yz] at no2;exact ⟨_,_,rfl,rfl,zQ no ho no2⟩
  case turn2 =>
   rintro l v σ H1 hv2 ⟨v2,rfl,rfl,no2⟩;obtain ⟨e,he,rfl⟩:=gM hv2;have re:=ok.r e (Yy he);refine ⟨_,rfl,o,rfl,ro.1,ro.2,_,rfl,e,rfl,re.1,re.2,_,_,rfl,rfl,rfl,_,rfl,?_⟩;cases b1:decide (V.int (((eQ o).length:Nat):Int)=V.int ((((eQ e).length:Nat):Int)+1)) with
   | false =>
    refine eU rfl ?_;refine eU rfl ?_;exact ⟨_,rfl,rfl,zQ no2 he (by unfold sF; rw [b1]; rfl)⟩
   | true =>
    refine jL rfl ?_;refine ⟨_,rfl,_,rfl,_,rfl,a,ss,o,e,rfl,ha,re.1,re.2,?_⟩;refine ⟨_,rfl,?_⟩;cases b2:zB ss o e with
    | true =>
     refine eU rfl ?_;exact ⟨_,rfl,rfl,zQ no2 he (by unfold sF; rw [b1,b2]; rfl)⟩
    | false =>
     refine jL rfl ?_;have t:Ce ss=true:=yR ho (yR he (by unfold sF; rw [b1,b2]; rfl));rw [t] at q;exact q
 case done =>
  rintro σ H' ⟨v1,v2,rfl,rfl,no⟩;rw [aK,Yz] at no;have t:Ce ss=false:=no;rw [t] at q;exact q
theorem Gj {ts:List Int}{b:Int}(h0:0<=b)(h1:b<(ts.length:Int)):wH (Is ts) b=some (.int (ts.getD b.toNat 0)):=by
 have e:=jP (xs:=Is ts) (j:=b.toNat) (v:=V.int (ts.getD b.toNat 0)) (by
  unfold Is;rw [Yi,YL (by omega),Y5,YL (by omega)]
  rfl)
 rwa [show ((b.toNat:Nat):Int)=b by omega] at e
theorem wR {n:Nat}{f:Addr}{fd:FuncData}(F:eN K "_law_sum" "_law_sum" (top 40) f fd)(Xh:mg "sum" = none)(b_:mg "range" = none)(e_:mg "len" = none):bO P w K mg base eE (n+1) f fd ["_law_tops_here","_law_kept"] GJ:=by
 refine F.ok oH (fun vs H Q E h=>?_) (fun cdv A outer s H vs Q E hr h=>?_)
 ·obtain ⟨a,ts,k,rfl,_⟩:=h
  rfl
 obtain ⟨a,ts,k,rfl,ha,l6,q⟩:=h;have nd:=oH.nd;refine ⟨_,(aG (aU (aV (FP rfl) rfl Xh Jg (aA (dC (ls:=["_law_box"]) (M:=["_law_tops_here","_law_kept"]) rfl (bT.of (by rfl)) (NL.of (by rfl)) (bK rfl b_ (aA (aV bC rfl e_ cW (aA (pv 0) aD)) aD)) (fun _ _ _ _=>⟨(bA (i:=0) (c7 (by rfl)) rfl (Or.inl rfl)),(jM (aR cH (aJ fG (aJ gA (pv 2) (pv 0)) aB) aB (aX _))),(bQ (mF (K:=K) rfl) (pv 1) (pv 0) (fun _ _=>rfl))⟩)) aD)))),?_⟩;refine ⟨_,rfl,a,_,rfl,.inl (bJ.of ha),((ts.length:Nat):Int),congrArg (fun v=>[V.int v]) (by rw [aK]),by omega,by omega,fun D hD=>?_⟩;refine bW (n:=((ts.length:Nat):Int).toNat) (fun i τ H'=>∃ v0,τ = [v0,some (.ref a),some (.int k)]/\aW H H'/\H' D=some (.lst (Is (((six i).filter (hb k)).map fun b=>ts.getD b.toNat 0)))) ⟨none,rfl,aH hD _,aC⟩ ?turn ?done
 case turn =>
  rintro i j τ H' hm hi ⟨v0,rfl,hs,hD'⟩;have hi2:i<ts.length:=by omega
  have es:((six (i+1)).filter (hb k)).map (fun b=>ts.getD b.toNat 0)=((six i).filter (hb k)).map (fun b=>ts.getD b.toNat 0)++(if hb k (0+(i:Int))=true then [ts.getD (0+(i:Int)).toNat 0] else []):=by
   rw [eF,Zt,Yo]
   congr 1
   rw [Zq]
   split <;> rfl
  refine ⟨_,rfl,_,rfl,_,_,rfl,rfl,(by show (0:Int)<=0+(i:Int); omega),_,_,rfl,rfl,rfl,_,rfl,?_⟩;cases b:hb k (0+(i:Int)) with
  | false =>
   refine eU b ?_;refine dO hm hi ⟨_,rfl,hs,?_⟩;rw [es,b,if_neg (by decide),Zc];exact hD'
  | true =>
   refine jL b ?_;refine ⟨_,rfl,_,rfl,a,_,_,_,rfl,rfl,bJ.of (hs _ _ ha),Gj (by omega) (by omega),?_⟩;refine bF hm hi hD' (by rw [aK]; refine aP (Y7 (by rw [YQ]; exact Ze _ _) ?_); unfold six; rw [YQ,Z4]; omega) ⟨_,rfl,hs.upd_new hD _,?_⟩;rw [aC,es,b,if_pos rfl,cD]
 case done =>
 rintro τ H1 ⟨v0,rfl,s1,hD1⟩;rw [ZM] at hD1;exact ⟨D,_,rfl,bJ.of hD1,q _ s1⟩
theorem Ir {xs:List (Int×Int)}{j:Nat}(hj:j<xs.length):((xs.take (j+1)).map Prod.snd).foldl (· * ·) (1:Int)=((xs.take j).map Prod.snd).foldl (· * ·) 1*(xs.getD j (0,1)).2:=by
 rw [take_snoc (YL hj),Yo,aAz,Y5,YL hj]
 rfl
def pK (xs:List (Int×Int)):Int:=(xs.map Prod.snd).foldl (· * ·) 1
theorem lQ:∀ (l:List Int) (a:Int),l.foldl (· * ·) a=a*l.foldl (· * ·) 1
 | [],a=>by simp
 | x::l,a=>by
  rw [Zw,Zw,lQ l (a*x),lQ l (1*x),aAI,Int.mul_assoc]
theorem zZ:∀ {xs:List (Int×Int)},(∀ x∈xs,0<x.2/\x.2<=12)->0<pK xs/\pK xs<=(12:Int)^xs.length
 | [],_=>by decide
 | x::xs,h=>by
  have a:=zZ (xs:=xs) fun y hy=>h y (Y8 _ hy);have b:=h x Yg;have e:pK (x::xs)=x.2*pK xs:=by
   show (xs.map Prod.snd).foldl (· * ·) (1*x.2)=_;rw [aAI,lQ]
   rfl
  rw [e,ZP,Int.pow_succ];refine ⟨Int.mul_pos b.1 a.1,?_⟩;have:=Int.mul_le_mul b.2 a.2 (by omega) (by decide);omega
theorem zX:∀ {xs:List (Int×Int)}{x:Int×Int},x∈xs->∃ q,pK xs=x.2*q
 | y::xs,x,h=>by
  have e:pK (y::xs)=y.2*pK xs:=by
   show (xs.map Prod.snd).foldl (· * ·) (1*y.2)=_;rw [aAI,lQ]
   rfl
  rcases Yn.mp h with r | r
  ·exact ⟨pK xs,by rw [e,r]⟩
  ·obtain ⟨q,hq⟩:=zX r;exact ⟨y.2*q,by rw [e,hq,Int.mul_left_comm]⟩
theorem Gz {xs:List (Int×Int)}{ts:List Int}(h:∀ x∈xs,0<x.2/\x.2<=12)(e:ts=xs.map fun x=>x.1*(pK xs/x.2)):Em xs ts (pK xs):=by
 refine ⟨by rw [e,YQ],(zZ h).1,fun b b0 b1=>?_⟩;have hb:b.toNat<xs.length:=by omega
 have ex:ts.getD b.toNat 0=xs[b.toNat].1*(pK xs/xs[b.toNat].2):=by
  rw [e,Y5,Yi,YL hb]
  rfl
 have wx:fO xs b=(xs[b.toNat].1:Rat)/(xs[b.toNat].2:Rat):=by
  unfold fO oV;rw [Y5,YL hb]
  rfl
 have hm:=ZK hb;generalize xs[b.toNat]=x at *;obtain ⟨q,hq⟩:=zX hm;have p:=(h x hm).1;rw [ex,wx,hq,aA0 _ (by omega)]
 push_cast
 have:(x.2:Rat)≠0:=by
  intro z;have:x.2=0:=by exact_mod_cast z
  omega
 grind
theorem uB {n:Nat}{f:Addr}{fd:FuncData}(F:eN K "_law_tops" "_law_tops" (top 38) f fd):bO P w K mg base eE (n+1) f fd ["_law_fractions_here"] Es:=by
 refine F.ok lX (fun vs H Q E h=>?_) (fun cdv A outer s H vs Q E hr h=>?_)
 ·obtain ⟨a,qs,xs,m,rfl,_⟩:=h
  rfl
 obtain ⟨a,qs,xs,m,rfl,hW,hF,m6,q⟩:=h;have nd:=lX.nd;refine ⟨_,(aF (bD (i:=1) nd rfl (Or.inr rfl) aB) (aF (dF PassesOwn.never rfl (cV (pv 0)) (yJ rfl (gK (bA (i:=2) nd rfl (Or.inl rfl)) (gK (bA (i:=3) nd rfl (Or.inl rfl)) uM))) (aG (bD (i:=1) nd rfl (Or.inr rfl) (aJ iH (pv 1) (pv 3))))) (aG (aU (dC (ls:=["_law_top","_law_bottom"]) (M:=["_law_fractions_here","_law_scale","_law_top#","_law_bottom#"]) rfl (bT.of (by rfl)) (NL.of (by rfl)) (cV (pv 0)) (fun _ _ _ _=>⟨(HS (K:=K) (n:=2) rfl rfl (gK (bA (i:=0) (c7 (by rfl)) rfl (Or.inl rfl)) (gK (bA (i:=1) (c7 (by rfl)) rfl (Or.inl rfl)) uM))),cX,(aJ iH (pv 0) (aJ dX (pv 3) (pv 1)))⟩)))))),?_⟩;have hl:=hF.len;have hql:=hW.len;have xb:∀ j:Nat,j<xs.length->0<(xs.getD j (0,1)).2/\(xs.getD j (0,1)).2<=12/\intBits (xs.getD j (0,1)).1<=200:=fun j hj=>by
  rw [Y5,YL hj];exact hF.b _ (ZK hj)
 have x2:∀ x∈xs,0<x.2/\x.2<=12:=fun x hx=>⟨(hF.b x hx).1,(hF.b x hx).2.1⟩
 have p12:∀ j:Nat,j<=6->(12:Int)^j<=2985984:=by decide
 refine ⟨_,rfl,a,rfl,⟨_,bJ.of hW.lst⟩,?_⟩;refine gQ (xs:=qs.map V.ref) (fun j σ H'=>∃ v2 v3,σ = [some (.ref a),some (.int (pK (xs.take j))),v2,v3]/\H=H') ⟨none,none,rfl,rfl⟩ ?keep ?turn ?done
 case keep =>
  rintro j σ H' hj ⟨v2,v3,rfl,rfl⟩;exact bJ.of hW.lst
 case turn =>
  rintro j v σ H' hv ⟨v2,v3,rfl,rfl⟩;rw [Yi] at hv;obtain ⟨q1,hq1,rfl⟩:=aAA.mp hv;have hj:j<xs.length:=by have:=(Yp.mp hq1).1; omega
  have t1:=hW.each j q1 hq1;have bj:=xb j hj;have sb:=zZ (xs:=xs.take j) fun x hx=>x2 x (aBj hx);have pj:=p12 (xs.take j).length (by rw [Yw]; omega);refine ⟨q1,_,rfl,dB.of t1,rfl,_,_,rfl,_,_,rfl,rfl,?_⟩;refine ⟨_,rfl,_,rfl,_,_,rfl,rfl,?mb,?_⟩
  case mb =>
   have h1:intBits (pK (xs.take j))<=64:=intBits_le_64 (by omega) (by omega);have h2:intBits (xs.getD j (0,1)).2<=64:=intBits_le_64 (by omega) (by omega);show intBits (pK (xs.take j))+intBits (xs.getD j (0,1)).2<=134217728;omega
  refine ⟨some (.int (xs.getD j (0,1)).1),some (.int (xs.getD j (0,1)).2),?_,rfl⟩;rw [show pK (xs.take (j+1))=_ from Ir hj]
  rfl
 case done =>
 rintro σ H' ⟨v2,v3,rfl,rfl⟩;rw [YQ,hql,Yz];refine ⟨_,rfl,a,rfl,⟨_,bJ.of hW.lst⟩,fun D hD=>?_⟩;refine dG (xs:=qs.map V.ref) (fun i τ H'=>∃ v0 v1,τ = [v0,v1,some (.ref a),some (.int (pK xs)),v2,v3]/\aW H H'/\H' D=some (.lst (Is ((xs.take i).map fun x=>x.1*(pK xs/x.2))))) ⟨none,none,rfl,aH hD _,aC⟩ ?keep2 ?turn2 ?done2
 case keep2 =>
  rintro i τ H' hi ⟨v0,v1,rfl,hs,_⟩;exact bJ.of (hs _ _ hW.lst)
 case turn2 =>
  rintro i m' v τ H' hm hi hv ⟨v0,v1,rfl,hs,hD'⟩;rw [Yi] at hv;obtain ⟨q1,hq1,rfl⟩:=aAA.mp hv;have hj:i<xs.length:=by have:=(Yp.mp hq1).1; omega
  have t1:Tq H' q1 _:=hs _ _ (hW.each i q1 hq1);have bj:=xb i hj;have sb:=zZ (xs:=xs) x2;have pj:=p12 xs.length (by omega);refine ⟨q1,_,rfl,dB.of t1,rfl,_,_,rfl,_,_,rfl,rfl,?_⟩;refine ⟨_,rfl,_,rfl,_,rfl,_,_,rfl,rfl,⟨bj.1,by omega⟩,_,_,rfl,rfl,?mb,?_⟩
  case mb =>
   have h1:intBits (pK xs/(xs.getD i (0,1)).2)<=64:=by
    have a1:0<=pK xs/(xs.getD i (0,1)).2:=Int.ediv_nonneg (by omega) (by omega);have a2:pK xs/(xs.getD i (0,1)).2<=pK xs:=Int.ediv_le_self _ (by omega);exact intBits_le_64 (by omega) (by omega)
   show intBits (xs.getD i (0,1)).1+intBits (pK xs/(xs.getD i (0,1)).2)<=134217728;omega
  refine bF hm hi hD' (by rw [aK,YQ,Yw]; exact aP (by omega)) ⟨_,_,rfl,hs.upd_new hD _,?_⟩;rw [aC,take_snoc (YL hj),Yo,Y5,YL hj];unfold Is;rw [Yo]
  rfl
 case done2 =>
  rintro τ H1 ⟨v0,v1,rfl,s1,hD1⟩;rw [YQ,hql,Yz] at hD1;exact q D H1 _ (pK xs) s1 hD1 (Gz x2 rfl)
theorem JC {α:Type}{G:α->Prop}{A:Prop}(Cond:α->Prop)(main:(∀ x,Cond x->G x)->A)(rest:∀ x,Cond x->G x):A:=main rest
theorem IV {x:Int}(h0:-(10^30)<=x)(h1:x<=10^30):intBits x<=200:=by
 unfold intBits
 by_cases z:x=0
 ·subst z; decide
 have:x.natAbs<2^150:=by
  have:x.natAbs<=10^30:=by omega
  exact Zf this (by decide)
 have:=(Nat.log2_lt (by omega)).mpr this
 split <;> omega
theorem My {t y:Int}(h0:-(10^30)<=t)(h1:t<=10^30)(hy:0<y):-(10^30)<=t/y/\t/y<=10^30:=by
 refine ⟨Int.le_ediv_of_mul_le hy ?_,Int.ediv_le_of_le_mul hy ?_⟩ <;> omega
theorem Gf {b:Int}{g:Nat}(hb:0<b)(h12:b<=12)(hg:0<g)(hd:(g:Int)∣b):0<b/(g:Int)/\b/(g:Int)<=12:=by
 obtain ⟨c,rfl⟩:=hd;rw [aA0 _ (by omega)];have c0:0<c:=by
  rcases Int.lt_or_le 0 c with z | z
  ·exact z
  ·have:=Int.mul_nonpos_of_nonneg_of_nonpos (show (0:Int)<=(g:Int) by omega) z;omega
 refine ⟨c0,?_⟩;have:=Int.mul_le_mul_of_nonneg_right (show (1:Int)<=(g:Int) by omega) (Yt c0);omega
theorem Dj {H:Hp}{D p:Addr}{qs:List Addr}{xs:List (Int×Int)}{x:Int×Int}(h:fD H D qs xs)(hp:H p=none):fD (bN (bN H p (.tup [.int x.1,.int x.2])) D (.lst (qs.map V.ref++[.ref p]))) D (qs++[p]) (xs++[x]):=by
 have hl:=h.len;have nD:∀ q y,Tq H q y->q≠D:=fun q y t e=>by subst e; have:=h.lst; rw [show H q=_ from t] at this; cases this
 refine ⟨by rw [aC,Yo]; rfl,by rw [Y4,Y4,hl]; rfl,fun i q hq=>?_⟩;rcases Nat.lt_or_ge i qs.length with z | z
 ·rw [Zd z] at hq;have t:=h.each i q hq;have np:q≠p:=fun e=>by subst e; rw [show H q=_ from t] at hp; cases hp
  show bN _ _ _ q=_;rw [aO (nD q _ t),aO np,Y5,Zd (by omega),<- Y5];exact t
 ·rw [Z3 z] at hq;have e:i-qs.length=0:=by
   rcases aBq (i-qs.length) with e | e
   ·exact e
   ·rw [Z2 (by show 1<=_; omega)] at hq; cases hq
  rw [e] at hq;cases hq;have np:p≠D:=fun e=>by subst e; have:=h.lst; rw [hp] at this; cases this
  show bN _ _ _ p=_;rw [aO np,aC,Y5,Z3 (by omega),show i-xs.length=0 by omega]
  rfl
theorem Dk {H:Hp}{D:Addr}{qs:List Addr}{xs:List (Int×Int)}(h:fD H D qs xs){i j:Nat}{q:Addr}(hq:qs[j]? = some q):fD (bN H D (.lst ((qs.map V.ref).set i (.ref q)))) D (qs.set i q) (xs.set i (xs.getD j (0,1))):=by
 have hl:=h.len;have nD:∀ q y,Tq H q y->q≠D:=fun q y t e=>by subst e; have:=h.lst; rw [show H q=_ from t] at this; cases this
 refine ⟨by rw [aC,List.map_set],by rw [aAs,aAs,hl],fun l p hp=>?_⟩;rw [aAY] at hp
 by_cases z:i=l
 ·rw [if_pos z] at hp
  split at hp
  ·cases hp;have t:=h.each j _ hq;show bN _ _ _ _=_;rw [aO (nD _ _ t),Y5 (l:=xs.set _ _),aAY,if_pos z,if_pos (by omega)];exact t
  ·cases hp
 ·rw [if_neg z] at hp;have t:=h.each l _ hp;show bN _ _ _ _=_;rw [aO (nD _ _ t),Y5,aAY,if_neg z,<- Y5];exact t
theorem Hu {xs:List (Int×Int)}{i:Nat}{x:Int×Int}(h:Ga xs i)(hx:0<x.2/\x.2<=12/\intBits x.1<=200):Ga (xs++[x]) (i+1):=⟨by rw [Y4,h.len]; rfl,fun y hy=>by
 rcases Ye.mp hy with z | z
 ·exact h.b y z
 ·rw [YT.mp z]; exact hx⟩
theorem Hh {xs:List (Int×Int)}{m i j:Nat}(h:Ga xs m)(hj:j<xs.length):Ga (xs.set i (xs.getD j (0,1))) m:=⟨by rw [aAs,h.len],fun y hy=>by
 rcases List.mem_or_eq_of_mem_set hy with z | z
 ·exact h.b y z
 ·rw [z,Y5,YL hj];exact h.b _ (ZK hj)⟩
theorem lJ {n:Nat}{f:Addr}{fd:FuncData}(F:eN K "_law_fractions" "_law_fractions" (top 37) f fd){WM:Addr}{Vv:FuncData}(WN:fJ P w K mg base n "_law_divisor" ["_law_one","_law_other"] TH.JL WM Vv){g_:Addr}{gV:FuncData}(a_:fJ P w K mg base n "_law_cell_at" ["_law_script","_law_k"] (Bv K) g_ gV)(b_:mg "range" = none)(Xi:mg "abs" = none)(e_:mg "len" = none):bO P w K mg base eE (n+1) f fd ["_law_script","_law_many_here"] (JF K):=by
 refine F.ok fU (fun vs H Q E h=>?_) (fun cdv A outer s H vs Q E hr h=>?_)
 ·obtain ⟨a,ns,m,rfl,_⟩:=h
  rfl
 obtain ⟨a,ns,m,rfl,hS,m1,m6,q⟩:=h;have nd:=fU.nd;refine ⟨_,(aF (bD (i:=2) nd rfl (Or.inl rfl) (gB aD)) (aF (dF PassesOwn.never rfl (bK rfl b_ (aA (pv 1) aD)) (bA (i:=3) nd rfl (Or.inl rfl)) (aF (bD (i:=4) nd rfl (Or.inl rfl) (aL a_ hr (aA (pv 0) (aA (aJ b7 aB (pv 3)) aD)))) (aF (bU (PW.pt (fY (aR cH (aJ bV (aL a_ hr (aA (pv 0) (aA aB aD))) aB) aB (aX _)) (eY (aR rO (aJ b7 aB (pv 3)) (aV bC rfl e_ cW (aA (pv 0) aD)) (aX _))))) (aG (bD (i:=4) nd rfl (Or.inl rfl) (bQ cI (pv 0) (aJ b7 aB (pv 3)) (fun _ _=>rfl)))) aZ) (aF (bD (i:=5) nd rfl (Or.inl rfl) (aJ eO (aJ bV (aJ dX (pv 4) aB) aB) aB)) (aF (bU (aR cH (aJ bV (pv 4) aB) aB (aX _)) (aG (bD (i:=5) nd rfl (Or.inl rfl) (aJ eO (aJ bV (aJ mR (aJ mR (pv 4) (aL a_ hr (aA (pv 0) (aA (aJ b7 aB (pv 3)) aD)))) aB) (aJ b7 (aJ mR aB (aJ Cy aB aB)) aB)) (aJ Cy aB aB)))) aZ) (aF (bD (i:=6) nd rfl (Or.inl rfl) (aJ b7 aB (aJ bV (aJ dX (pv 4) aB) aB))) (aF (bD (i:=7) nd rfl (Or.inl rfl) (aL WN hr (aA (pv 6) (aA (aV DR rfl Xi Jl (aA (pv 5) aD)) aD)))) (aF (iI (oR PySem.F.plainAttrs_list PySem.F.slot_list_append PySem.F.type_list_append eZ (pv 2) (aA (gY (aA (aJ dX (pv 5) (pv 7)) (aA (aJ dX (pv 6) (pv 7)) aD))) aD))) (aG (bU (aR cH (aJ bV (aJ dX (pv 4) aB) aB) aB (aX _)) (aG (xX (bQ cI (pv 2) (aJ bV (aJ dX (pv 4) aB) (aJ b7 (pv 3) aB)) (fun _ _=>rfl)) (Cz (pv 2) (pv 3) set_list))) aZ)))))))))) (aG (aU (pv 2))))),?_⟩;refine ⟨Yq _,fun D hD=>?_⟩;have s0:=aH hD (.lst []);refine ⟨_,rfl,_,rfl,by omega,by omega,?_⟩;refine cY (n:=(m:Int).toNat) (fun i σ H'=>∃ v3 v4 v5 v6 v7 qs xs,σ = [some (.ref a),some (.int (m:Int)),some (.ref D),v3,v4,v5,v6,v7]/\aW H H'/\fD H' D qs xs/\Ga xs i) ⟨none,none,none,none,none,[],[],rfl,s0,⟨aC,rfl,fun i q h=>by simp at h⟩,⟨rfl,fun x h=>nomatch h⟩⟩ ?turn ?done
 case done =>
  rintro σ H' ⟨v3,v4,v5,v6,v7,qs,xs,rfl,hs,hW,hF⟩;rw [ZM] at hF;exact ⟨_,rfl,q D H' qs xs hs hW hF⟩
 case turn =>
 rintro i σ H' hi ⟨v3,v4,v5,v6,v7,qs,xs,rfl,hs,hW,hF⟩;have hi6:i<m:=by omega
 have hS':=hs.seq hS;refine ⟨_,rfl,_,rfl,_,_,rfl,rfl,a,ns,15+(0+(i:Int)),rfl,hS',by omega,by omega,fun z z0 z1=>?_⟩
 refine' JC (fun c:Int=>True) (fun rest=>?main) ?rst
 case main =>
  refine ⟨_,rfl,a,ns,14,rfl,hS',by decide,by decide,fun y y0 y1=>?_⟩;refine ⟨_,_,rfl,rfl,(by show (0:Int)<2; decide),rfl,_,rfl,?_⟩;refine jT (fun _=>?_) (fun _=>?_)
  ·refine ⟨_,rfl,_,_,rfl,rfl,_,rfl,a,_,rfl,.inl hS',_,_,rfl,rfl,_,rfl,?_⟩;refine jT (fun h=>?_) (fun _=>?_)
   ·have h':15+(0+(i:Int))<((ns.map V.int).length:Int):=of_decide_eq_true h;rw [YQ] at h';refine ⟨_,rfl,_,rfl,_,_,rfl,rfl,a,_,_,_,rfl,rfl,hS',Gj (ts:=ns) (by omega) h',?_⟩;generalize ns.getD (15+(0+(i:Int))).toNat 0=c;exact rest c trivial
   ·exact rest z trivial
  ·refine eU rfl ?_;exact rest z trivial
 case rst =>
 rintro c -
 refine ⟨_,rfl,_,_,rfl,rfl,⟨by decide,by decide⟩,_,_,rfl,rfl,(by show (0:Int)<41; decide),_,_,rfl,rfl,?_⟩
 refine' JC (fun t:Int=>-(10^30)<=t/\t<=10^30) (fun rest=>?main2) ?rst2
 case main2 =>
  refine ⟨_,rfl,_,_,rfl,rfl,(by show (0:Int)<7; decide),rfl,_,rfl,?_⟩;refine jT (fun _=>?_) (fun _=>?_)
  ·refine ⟨_,rfl,_,rfl,_,rfl,_,_,rfl,rfl,a,ns,21+(0+(i:Int)),rfl,hS',by omega,by omega,fun u u0 u1=>?_⟩;refine ⟨_,_,rfl,rfl,.inr ⟨by omega,by omega⟩,_,_,rfl,rfl,.inr ⟨by decide,by decide⟩,?_⟩;refine ⟨_,_,rfl,rfl,⟨by decide,by decide,by decide⟩,_,_,rfl,rfl,.inl ⟨by decide,by decide⟩,_,_,rfl,rfl,_,_,rfl,rfl,(by show (0:Int)<2*10^30+1; decide),?_⟩;refine ⟨_,_,rfl,rfl,⟨by decide,by decide,by decide⟩,_,_,rfl,rfl,?_⟩;have e1:=Yk (c*u*48271) (show (2*10^30+1:Int)≠0 by decide);have e2:=Yc (c*u*48271) (show (0:Int)<2*10^30+1 by decide);obtain ⟨t,ht⟩:∃ t,c*u*48271%(2*10^30+1)-10^30=t:=⟨_,rfl⟩
   have r:-(10^30)<=t/\t<=10^30:=⟨by omega,by omega⟩
   clear e1 e2;show p7 5 (V.int (c*u*48271%(2*10^30+1)-10^30)) _ _ _;rw [ht];exact rest t r
  ·have e1:=Yk (c/7) (show (41:Int)≠0 by decide);have e2:=Yc (c/7) (show (0:Int)<41 by decide);exact rest (c/7%41-20) ⟨by omega,by omega⟩
 case rst2 =>
 rintro t ⟨t0,t1⟩;refine ⟨_,rfl,_,_,rfl,rfl,⟨by decide,by decide⟩,_,_,rfl,rfl,(by show (0:Int)<12; decide),_,_,rfl,rfl,?_⟩;obtain ⟨b,GR⟩:∃ b,1+c/287%12=b:=⟨_,rfl⟩
 have b1:=Yk (c/287) (show (12:Int)≠0 by decide);have b2:=Yc (c/287) (show (0:Int)<12 by decide);show p7 6 (V.int (1+c/287%12)) _ _ _;rw [GR];have b0:0<b:=by omega
 have b12:b<=12:=by omega
 clear GR b1 b2;refine ⟨_,rfl,_,rfl,t,rfl,b,_,rfl,by omega,(by split <;> omega),?_⟩;have gd:=Int.gcd_dvd_left (a:=b) (b:=if t<0 then -t else t);have gp:0<aAV b (if t<0 then -t else t):=Int.gcd_pos_of_ne_zero_left _ (by omega);generalize aAV b (if t<0 then -t else t)=g at gd gp ⊢;have g12:(g:Int)<=12:=Yr (Int.le_of_dvd b0 gd) b12;refine ⟨_,rfl,.inl ⟨rfl,_,bJ.of hW.lst⟩,_,rfl,_,rfl,_,_,rfl,rfl,⟨by omega,by omega⟩,_,rfl,_,rfl,_,_,rfl,rfl,⟨by omega,by omega⟩,GQ,fun p hp=>?_⟩;have nb:=Gf b0 b12 gp gd;have tb:=My t0 t1 (show (0:Int)<(g:Int) by omega);have hF2:=Hu hF (x:=(t/(g:Int),b/(g:Int))) ⟨nb.1,nb.2,IV tb.1 tb.2⟩;have hW2:=Dj hW (x:=(t/(g:Int),b/(g:Int))) hp;have hl:=hF.len;have hql:=hW.len;have s2:=(hs.trans (aH hp (.tup [V.int (t/(g:Int)),V.int (b/(g:Int))]))).upd_new hD (.lst (qs.map V.ref++[.ref p]));have hDl:=aH hp (.tup [V.int (t/(g:Int)),V.int (b/(g:Int))]) _ _ hW.lst;refine ⟨D,_,_,rfl,rfl,hDl,(by rw [YQ]; exact aP (by omega)),?_⟩;generalize bN (bN H' p (.tup [V.int (t/(g:Int)),V.int (b/(g:Int))])) D (.lst (qs.map V.ref++[.ref p]))=H2 at hW2 s2 ⊢;refine ⟨_,rfl,_,_,rfl,rfl,⟨by decide,by decide⟩,_,_,rfl,rfl,(by show (0:Int)<5; decide),rfl,_,rfl,?_⟩;refine jT (fun _=>?_) (fun _=>?_)
 ·have j1:=Yk (c/17220) (show (0+(i:Int))+1≠0 by omega);have j2:=Yc (c/17220) (show (0:Int)<(0+(i:Int))+1 by omega);have ql:(qs++[p]).length=i+1:=by rw [Y4]; show qs.length+1=_; omega
  obtain ⟨j,ej⟩:∃ j:Nat,c/17220%(0+(i:Int)+1)=(j:Int):=⟨(c/17220%(0+(i:Int)+1)).toNat,by omega⟩
  have hj:j<(qs++[p]).length:=by omega
  have eq:(qs++[p])[j]? = some (qs++[p])[j]:=YL hj;have ha2:wH ((qs++[p]).map V.ref) (c/17220%(0+(i:Int)+1))=some (.ref (qs++[p])[j]):=by
   rw [ej];exact jP (by rw [Yi,eq]; rfl)
  refine ⟨_,rfl,_,rfl,_,_,rfl,rfl,⟨by decide,by decide⟩,_,rfl,_,_,rfl,rfl,_,_,rfl,rfl,(by show (0:Int)<0+(i:Int)+1; omega),D,_,_,_,rfl,rfl,bJ.of hW2.lst,ha2,?_⟩;refine ⟨_,rfl,_,rfl,D,_,_,i,rfl,rfl,hW2.lst,?ix,?_⟩
  case ix =>
   rw [YQ,ql];unfold DQ;rw [if_pos (by omega),if_pos (by omega)]
   congr 1
   omega
  have hF3:=Hh (i:=i) hF2 (j:=j) (by rw [hF2.len]; omega);exact ⟨_,_,_,_,_,_,_,rfl,s2.upd_new hD _,Dk hW2 eq,hF3⟩
 ·exact ⟨_,_,_,_,_,_,_,rfl,s2,hW2,hF2⟩
def KQ:Str:=("_law_chosen" : Str)++".<locals>."++"<lambda>"
theorem MK {k b:Int}(k0:0<=k)(k1:k<64)(b0:0<=b)(b1:b<6):0<=Builtin.bitOr k (1*2^b.toNat)/\Builtin.bitOr k (1*2^b.toNat)<64:=by
 have or1:=qN ⟨6,by decide⟩ ⟨k.toNat,by omega⟩ ⟨b.toNat,by omega⟩ (by show k.toNat<64; omega) (by show b.toNat<6; omega);simp only [show ((k.toNat:Nat):Int)=k by omega,show ((b.toNat:Nat):Int)=b by omega] at or1;exact or1
theorem pX {n:Nat}{f c:Addr}{fd:FuncData}(F:eN K "_law_chosen" "_law_chosen" (top 39) f fd)(hc:fd.code=.ref c)(hC:PySem.W.CodeHd base c Pt)(hB:base.BuiltinsAt mg Pt){K_:Addr}{D_:FuncData}(L_:fJ P w K mg base n "_law_may" ["_law_spec_here","_law_kept"] De K_ D_)(k_:mg "sorted" = none)(b_:mg "range" = none)(e_:mg "len" = none):bO P w K mg base eE (n+1) f fd ["_law_spec_here","_law_tops_here"] (JK Pt Ji KQ):=by
 refine F.okc hc jG (fun vs H Q E h=>?_) (fun A outer s H vs Q E hr h=>?_)
 ·obtain ⟨r,a,S,ts,xs,sc,m,rfl,_⟩:=h
  rfl
 obtain ⟨r,a,S,ts,xs,sc,m,rfl,hR,hG,ha,hsc,hF,m1,m6,hT,q⟩:=h;have nd:=jG.nd;refine ⟨_,(aF (bD (i:=2) nd rfl (Or.inl rfl) aB) (aF (dF PassesOwn.never rfl (cV (Dp (p:="_law_one") (M:=["_law_spec_here","_law_tops_here","_law_kept","_law_box"]) hr rfl rfl k_ rfl hC hB (bT.of (by rfl)) (NL.of (by rfl)) rfl rfl rfl (Gp rfl b_ (aA (aV bC rfl e_ cW (aA (pv 1) aD)) aD)) (fun _ _ _ _ _=>(gY (aA (aJ eO aB (bQ (mF (K:=K) rfl) (pv 2) (pv 0) (fun _ _=>rfl))) (aA (pv 0) aD)))))) (bA (i:=3) nd rfl (Or.inl rfl)) (aG (bU (PW.pt (fY (aR sU (bQ cI (pv 1) (pv 3) (fun _ _=>rfl)) aB (aX _)) (eY (cU (aL L_ hr (aA (pv 0) (aA (aJ Ae (pv 2) (aJ fC aB (pv 3))) aD))))))) (aG (bD (i:=2) nd rfl (Or.inl rfl) (aJ Ae (pv 2) (aJ fC aB (pv 3))))) aZ))) (aG (aU (pv 2))))),?_⟩;have hl:=hF.len;have tl:=hsc.len;refine ⟨_,rfl,a,_,rfl,.inl (bJ.of ha),((ts.length:Nat):Int),congrArg (fun v=>[V.int v]) (by rw [aK]),fun rg hrg=>?_⟩;have s0:=aH hrg (.rng 0 ((ts.length:Nat):Int));refine ⟨rg,ts.length,(fun b=>0-ts.getD b.toNat 0),rfl,aC,by omega,hT.same s0,fun H2 c' st hit=>?_⟩;have ha2:H2 a=some (.lst (Is ts)):=st.get (hT.same s0) (s0 _ _ ha) fun _ z=>nomatch z
 refine ⟨fun i H3 hi s3=>?_,fun D H3 ms s3 hD pm so=>?_⟩
 ·refine ⟨_,rfl,_,rfl,a,_,_,_,rfl,rfl,bJ.of (s3 _ _ ha2),Gj (by omega) (by omega),_,_,rfl,rfl,_,rfl,GQ,fun p hp=>?_⟩;exact ⟨p,rfl,hp,rfl⟩
 have sN:fW H H3:=(aW.toN s0).trans ((fW.of st (hT.same s0)).trans (aW.toN s3));have sN4:fW H (bN H3 D (.lst (ms.map V.int))):=sN.trans (aW.toN (aH hD _));have em:ms=bH xs xs.length:=Bc hsc (by omega) hF.pos (by rw [<- tl]; exact pm) so;subst em;have hD4:bN H3 D (.lst ((bH xs xs.length).map V.int)) D=some (.lst (Is (bH xs xs.length))):=aC;have hR4:=oX.sameN sN4 hR;have ha4:=sN4 a (.lst (Is ts)) (fun _ z=>nomatch z) ha;generalize bN H3 D (.lst ((bH xs xs.length).map V.int))=H4 at *;refine ⟨D,rfl,⟨_,bJ.of hD4⟩,?_⟩;refine gQ (xs:=Is (bH xs xs.length)) (fun j σ H'=>∃ kk v3,σ = [some (.ref r),some (.ref a),some (.int kk),v3]/\kk=((bH xs xs.length).take j).foldl (lst (bY S) ts) 0/\0<=kk/\kk<64/\aW H4 H') ⟨0,none,rfl,rfl,by decide,by decide,aW.refl _⟩ ?keep ?turn ?done
 case keep =>
  rintro j σ H' hj ⟨kk,v3,rfl,ek,_,_,hs⟩;exact bJ.of (hs _ _ hD4)
 case done =>
  rintro σ H' ⟨kk,v3,rfl,ek,_,_,hs⟩;rw [aK,Yz,Ec hsc hF.pos _ _ _ fun b hb1=>fB xs _ b hb1] at ek;subst ek;exact ⟨_,rfl,q H' (sN4.trans (aW.toN hs))⟩
 case turn =>
  rintro j v σ H' hv ⟨kk,v3,rfl,ek,k0,k1,hs⟩;obtain ⟨b,hb1,rfl⟩:=gM hv;have r1:=fB xs _ b (Yy hb1);have fs:((bH xs xs.length).take (j+1)).foldl (lst (bY S) ts) 0=lst (bY S) ts kk b:=by rw [take_snoc hb1,aAz,ek]; rfl
  have ob:=MK k0 k1 r1.1 (show b<6 by omega);refine ⟨_,rfl,_,rfl,a,_,_,_,rfl,rfl,bJ.of (hs _ _ ha4),Gj (by omega) (by omega),_,_,rfl,rfl,_,rfl,?_⟩
  by_cases e1:0<ts.getD b.toNat 0
  ·refine jL (decide_eq_true e1) ?_;refine ⟨_,rfl,_,rfl,_,rfl,_,_,rfl,rfl,⟨by omega,by omega,by decide⟩,_,_,rfl,rfl,r,_,S,rfl,hR4.same hs,hG,ob.1,ob.2,fun H5 s5=>?_⟩;refine ⟨_,rfl,?_⟩;cases e2:bY S (Builtin.bitOr kk (1*2^b.toNat)) with
   | false =>
    refine eU rfl ?_;refine ⟨kk,_,rfl,?_,k0,k1,hs.trans s5⟩;rw [fs];exact (if_neg fun z=>by rw [e2] at z; exact absurd z.2 Y9).symm
   | true =>
    refine jL rfl ?_;refine ⟨_,rfl,_,rfl,_,_,rfl,rfl,⟨by omega,by omega,by decide⟩,_,_,rfl,rfl,?_⟩;refine ⟨_,_,rfl,?_,ob.1,ob.2,hs.trans s5⟩;rw [fs];exact (if_pos ⟨e1,e2⟩).symm
  ·refine eU (decide_eq_false e1) ?_;refine eU rfl ?_;refine ⟨kk,_,rfl,?_,k0,k1,hs⟩;rw [fs];exact (if_neg fun z=>e1 z.1).symm
theorem MT {S:Sk}{m:Nat}{xs:List (Int×Int)}(m6:m<=6)(hl:xs.length=m):0<=Cg (bY S) xs/\Cg (bY S) xs<((2^m:Nat):Int):=by
 have go:∀ (o:List Int) (k:Int),(∀ b∈o,0<=b/\b<(m:Int))->0<=k/\k<((2^m:Nat):Int)->0<=o.foldl (fZ (bY S) xs) k/\o.foldl (fZ (bY S) xs) k<((2^m:Nat):Int):=by
  intro o
  induction o with
  | nil=>intro k _ h; exact h
  | cons b o ih =>
   intro k ho h;rw [Zw];refine ih _ (fun x hx=>ho x (Y8 _ hx)) ?_;have hb:=ho b Yg;have yO:2^m<=64:=yO m6;unfold fZ
   split
   ·have or1:=qN ⟨m,by omega⟩ ⟨k.toNat,by omega⟩ ⟨b.toNat,by omega⟩ (by show k.toNat<2^m; omega) (by show b.toNat<m; omega);simp only [show ((k.toNat:Nat):Int)=k by omega,show ((b.toNat:Nat):Int)=b by omega] at or1;exact or1
   ·exact h
 refine go _ 0 (fun b hb=>by rw [hl] at hb; exact fB xs m b hb) ⟨Y_ _,?_⟩;have:0<2^m:=aAG (by decide);omega
theorem yI {K:PySem.W.Frag}{H:Hp}{a b:Addr}{ns:List Int}(h1:H a=some (.lst (Is ns)))(h2:H b=some (.lst (Is ns))):DE K H (0+1) (.ref a) (.ref b) true:=by
 have d:=DE.lst (K:=K) (n:=0) (fun _=>true) (bJ.of h1) (bJ.of h2) rfl fun j x y hx hy=>by
  rw [hx] at hy;cases hy;obtain ⟨i,hi,rfl⟩:=gM hx;have:=DE.int (K:=K) (H:=H) 0 i i
  rwa [beq_self_eq_true] at this
 rwa [show (Zi (Is ns).length).all (fun _=>true)=true from Z0.mpr fun _ _=>rfl] at d
theorem Ge {K:PySem.W.Frag}{H:Hp}{a b:Addr}{o e:Int}(h1:H a=some (.tup [.int o,.int e]))(h2:H b=some (.tup [.int o,.int e])):DE K H (0+1) (.ref a) (.ref b) true:=by
 have d:=DE.tup (K:=K) (n:=0) (fun _=>true) (dB.of h1) (dB.of h2) fun j x y hx hy=>by
  rcases j with _ | _ | j
  ·cases hx; cases hy; have:=DE.int (K:=K) (H:=H) 0 o o; rwa [beq_self_eq_true] at this
  ·cases hx; cases hy; have:=DE.int (K:=K) (H:=H) 0 e e; rwa [beq_self_eq_true] at this
  ·exact absurd hx (by simp)
 exact d
theorem Ek {K:PySem.W.Frag}{H:Hp}{a b:Addr}{qs:List Addr}{xs:List (Int×Int)}(h1:fD H a qs xs)(h2:fD H b qs xs):DE K H (1+1) (.ref a) (.ref b) true:=by
 have d:=DE.lst (K:=K) (n:=1) (fun _=>true) (bJ.of h1.lst) (bJ.of h2.lst) rfl fun j x y hx hy=>by
  rw [hx] at hy;cases hy;rw [Yi] at hx;obtain ⟨q,hq,rfl⟩:=aAA.mp hx;have t:=h1.each j q hq;exact Ge t t
 rwa [show (Zi (qs.map V.ref).length).all (fun _=>true)=true from Z0.mpr fun _ _=>rfl] at d
theorem Hj {m:Nat}(m6:m<=6){k:Int}(k0:0<=k)(k1:k<((2^m:Nat):Int)):(six m).filter (hb k)=eQ k:=by
 have yO:2^m<=64:=yO m6;have z:=lO ⟨m,by omega⟩ ⟨k.toNat,by omega⟩ (by show k.toNat<2^m; omega);simp only [show ((k.toNat:Nat):Int)=k by omega] at z;exact z
theorem vW {xs:List V}{v:V}:vB (xs++[v]) none (some (-1))=xs:=by
 unfold vB;have e:HT.xJ (xs++[v]).length (xs++[v]).length (some (-1))=xs.length:=by
  show (if (-1:Int)<0 then (-1+((xs++[v]).length:Int)).toNat else min (-1:Int).toNat (xs++[v]).length)=_;rw [if_pos (by decide),Y4];show (-1+((xs.length+1:Nat):Int)).toNat=_;omega
 rw [e];show ((xs++[v]).drop 0).take (xs.length-0)=xs;rw [List.drop_zero,aBy,List.take_left']
 rfl
theorem Jh {ns:List Int}{k:Int}:Is ns++[.int k]=Is (ns++[k]):=by unfold Is; rw [Yo]; rfl
theorem KH {n:Nat}{f:Addr}{fd:FuncData}(F:eN K "law" "law" (top 41) f fd){p:yH}{Xj:Addr}{X3:FuncData}(Wq:fJ P w K mg base n "chosen" ["pattern","worths"] (rY p) Xj X3){Vw:Addr}{O_:FuncData}(Vx:fJ P w K mg base n "_law_flawless" ["_law_sets"] Ew Vw O_){XF:Addr}{Wr:FuncData}(WP:fJ P w K mg base n "_law_sum" ["_law_tops_here","_law_kept"] GJ XF Wr){K_:Addr}{D_:FuncData}(L_:fJ P w K mg base n "_law_may" ["_law_spec_here","_law_kept"] De K_ D_){W2:Addr}{WQ:FuncData}(W3:fJ P w K mg base n "_law_chosen" ["_law_spec_here","_law_tops_here"] (JK Pt Ji KQ) W2 WQ){Ws:Addr}{Wh:FuncData}(Wt:fJ P w K mg base n "_law_tops" ["_law_fractions_here"] Es Ws Wh){P_:Addr}{M_:FuncData}(Q_:fJ P w K mg base n "_law_fractions" ["_law_script","_law_many_here"] (JF K) P_ M_){Wu:Addr}{Wi:FuncData}(Wv:fJ P w K mg base n "_law_made" ["_law_spec_here"] (Ak p) Wu Wi){Ww:Addr}{Wj:FuncData}(Wx:fJ P w K mg base n "_law_spec" ["_law_script","_law_many_here"] (An K) Ww Wj){g_:Addr}{gV:FuncData}(a_:fJ P w K mg base n "_law_cell_at" ["_law_script","_law_k"] (Bv K) g_ gV)(l_:mg "list" = none)(F_:mg "max" = none)(b_:mg "range" = none)(h_:mg "isinstance" = none):bO P w K mg base eE (n+1) f fd ["_law_script"] (pD K Pt):=by
 refine F.ok FZ (fun vs H Q E h=>?_) (fun cdv A outer s H vs Q E hr h=>?_)
 ·obtain ⟨a,ns,rfl,_⟩:=h
  rfl
 obtain ⟨a,ns,rfl,hS,hlen,hP,q⟩:=h;have nd:=FZ.nd;have hu1:_+0+1<cLine:=Zf (aAL (by decide:1<=64) _) (dJ.units hr);have hu2:_+1+1<cLine:=Zf (aAL (by decide:2<=64) _) (dJ.units hr);refine ⟨_,(aF (bD (i:=1) nd rfl (Or.inl rfl) (aJ b7 aB (aJ bV (aL a_ hr (aA (pv 0) (aA aB aD))) aB))) (aF (bD (i:=2) nd rfl (Or.inr rfl) (aL Wx hr (aA (pv 0) (aA (pv 1) aD)))) (aF (bD (i:=3) nd rfl (Or.inl rfl) (aL Wv hr (aA (pv 2) aD))) (aF (bD (i:=4) nd rfl (Or.inl rfl) (aL Q_ hr (aA (pv 0) (aA (pv 1) aD)))) (aF (bD (i:=5) nd rfl (Or.inr rfl) (aL Wt hr (aA (pv 4) aD))) (aF (bD (i:=6) nd rfl (Or.inr rfl) (aL W3 hr (aA (pv 2) (aA (pv 5) aD)))) (aF (bD (i:=7) nd rfl (Or.inl rfl) (cB iD rfl l_ iQ (aA (pv 4) aD))) (aF (bD (i:=8) nd rfl (Or.inl rfl) (aL Wq hr (aA (pv 3) (aA (pv 7) aD)))) (aF (bU (PW.pt (sW (iM (cU (aV (fP (T:="list")) rfl h_ dR (aA (pv 8) (aA (pC (v:=.ty "list") rfl l_ iQ rfl) aD))))) (nJ (aR (Eu (n:=0) hu1) (pv 8) (dC (ls:=["_law_box"]) (M:=["_law_script","_law_many_here","_law_spec_here","_law_pattern","_law_fractions_here","_law_tops_here","_law_kept","_law_handed","_law_found","_law_sets","_law_most"]) rfl (bT.of (by rfl)) (NL.of (by rfl)) (bK rfl b_ (aA (pv 1) aD)) (fun _ _ _ _=>⟨(bA (i:=0) (c7 (by rfl)) rfl (Or.inl rfl)),(jM (aR cH (aJ fG (aJ gA (pv 7) (pv 0)) aB) aB (aX _))),(pv 0)⟩)) (aX _))))) (aG (aU d7)) aZ) (aF (gZ (i:=9) (ls:=["_law_one"]) (M:=["_law_script","_law_many_here","_law_spec_here","_law_pattern","_law_fractions_here","_law_tops_here","_law_kept","_law_handed","_law_found","_law_sets","_law_most"]) rfl (bT.of (by rfl)) (NL.of (by rfl)) nd rfl (Or.inl rfl) (bK rfl b_ (aA (aJ fC aB (pv 1)) aD)) (fun _ _ _ _=>⟨(bA (i:=0) (c7 (by rfl)) rfl (Or.inl rfl)),(jM (cU (aL L_ hr (aA (pv 3) (aA (pv 0) aD))))),(pv 0)⟩)) (aF (bU (cU (aL Vx hr (aA (pv 9) aD))) (aF (bD (i:=10) nd rfl (Or.inl rfl) (aV (BK rfl) rfl F_ tR (aA (dC (ls:=["_law_one"]) (M:=["_law_script","_law_many_here","_law_spec_here","_law_pattern","_law_fractions_here","_law_tops_here","_law_kept","_law_handed","_law_found","_law_sets","_law_most"]) rfl (bT.of (by rfl)) (NL.of (by rfl)) (cV (pv 9)) (fun _ _ _ _=>⟨(bA (i:=0) (c7 (by rfl)) rfl (Or.inl rfl)),cX,(aL WP hr (aA (pv 6) (aA (pv 0) aD)))⟩)) aD))) (aG (bU (PW.pt (sW (aR gW (pv 6) (pv 9) rfl) (nJ (aR rO (aL WP hr (aA (pv 5) (aA (pv 6) aD))) (pv 10) (aX _))))) (aG (aU d7)) aZ))) aZ) (aF (bU (aR (Eu (n:=1) hu2) (pv 7) (pv 4) (aX _)) (aG (aU d7)) aZ) (aF (iI (oR PySem.F.plainAttrs_list PySem.F.slot_list_append PySem.F.type_list_append eZ (pv 7) (aA (gY (aA aB (aA aB aD))) aD))) (aF (iI (oR PySem.F.plainAttrs_list PySem.F.slot_list_append PySem.F.type_list_append eZ (pv 8) (aA aB aD))) (aG (aU (dI (Eh (n:=0) hu1) (aL Wq hr (aA (pv 3) (aA (cB iD rfl l_ iQ (aA (pv 4) aD)) aD))) (Ff HN (pv 8) HF (HQ (O9 Ju aB))) (aX _)))))))))))))))))),?_⟩;refine ⟨_,rfl,a,ns,1,rfl,hS,by decide,by decide,fun j j0 j1=>?_⟩;have f1:=Yk j (show (6:Int)≠0 by decide);have f2:=Yc j (show (0:Int)<6 by decide);refine ⟨_,_,rfl,rfl,(by show (0:Int)<6; decide),_,_,rfl,rfl,?_⟩;obtain ⟨m,hm⟩:∃ m:Nat,1+j%6=(m:Int):=⟨(1+j%6).toNat,by omega⟩
 have m1:1<=m:=by omega
 have m6:m<=6:=by omega
 show p7 1 (V.int (1+j%6)) _ _ _;generalize 1+j%6=mi at hm ⊢;subst hm;refine ⟨_,rfl,_,rfl,a,ns,m,rfl,hS,m1,m6,fun r H1 S s1 hr1 ok=>?_⟩;refine ⟨_,rfl,r,S,rfl,hr1,ok,fun x H2 s2 hX=>?_⟩;have jU:=s1.trans s2;refine ⟨_,rfl,_,rfl,a,ns,m,rfl,jU.seq hS,m1,m6,fun F H3 qs xs s3 hW hF=>?_⟩;refine ⟨_,rfl,F,qs,xs,m,rfl,hW,hF,m6,fun tp H4 ts sc s4 htp hsc=>?_⟩;have s34:=s3.trans s4;have hT4:mZ Pt Ji KQ H4:=.inl ((jU.trans s34) _ _ hP);refine ⟨_,rfl,_,rfl,r,tp,S,ts,xs,sc,m,rfl,(hr1.same s2).same s34,ok.good,htp,hsc,hF,m1,m6,hT4,fun H5 s5=>?_⟩;have hW5:=fD.sameN s5 (hW.same s4);have hX5:=jX.sameN s5 (hX.same s34);have hr5:=oX.sameN s5 ((hr1.same s2).same s34);have ht5:=s5 tp (.lst (Is ts)) (fun _ z=>nomatch z) htp;have xl:=hF.len;have tl:=hsc.len;refine ⟨_,rfl,F,_,rfl,.inl (bJ.of hW5.lst),fun hd hhd=>?_⟩;have s6:=aH hhd (.lst (qs.map V.ref));have hWh:fD (bN H5 hd (.lst (qs.map V.ref))) hd qs xs:=⟨aC,hW5.len,fun i q1 hq=>s6 _ _ (hW5.each i q1 hq)⟩
 have hW6:=hW5.same s6;have hX6:=hX5.same s6;have hr6:=hr5.same s6;have ht6:=s6 _ _ ht5;generalize bN H5 hd (.lst (qs.map V.ref))=H6 at s6 hWh hW6 hX6 hr6 ht6 ⊢;have xz:∀ x∈xs,intBits x.1<=4000/\intBits x.2<=4000:=fun x hx=>by
  have b:=hF.b x hx;exact ⟨by omega,Y7 (intBits_le_64 (by omega) (by omega)) (by decide)⟩
 refine ⟨_,rfl,_,rfl,x,hd,S,qs,xs,rfl,hX6,ok.good,hWh,by omega,xz,fun fo H7 s7 fo6 hfo=>?_⟩;have fo5:=none_of s6 fo6;have nfh:fo≠hd:=fun e=>by have:=hWh.lst; rw [<- e,fo6] at this; cases this
 obtain ⟨pm0,pm1,pmm,_⟩:0<=Cg (bY S) xs/\Cg (bY S) xs<((2^m:Nat):Int)/\True/\True:=by
  have:=MT (S:=S) (xs:=xs) m6 xl;exact ⟨this.1,this.2,trivial,trivial⟩
 have best:=fun (f:fM S m)=>Ik f m6 xl hF.pos;obtain ⟨kk,hk⟩:∃ kk,Cg (bY S) xs=kk:=⟨_,rfl⟩
 rw [hk] at pm0 pm1 best hfo;rw [hk];have fe:=Hj m6 pm0 pm1;have yO:2^m<=64:=yO m6;have bl:(eQ kk).length<=6:=by rw [<- fe]; exact Y7 (Ze _ _) (by unfold six; rw [YQ,Z4]; exact m6)
 refine ⟨_,rfl,_,_,_,rfl,.lst hfo,lN _,_,rfl,?_⟩;refine jH ?_;refine ⟨_,rfl,_,rfl,(m:Int),rfl,by omega,by omega,fun B hB1=>?_⟩;have hX7:=hX6.same s7;have hr7:=hr6.same s7;have ht7:=s7 _ _ ht6;have hW7:=hW6.same s7;have hWh7:=hWh.same s7;refine bW (n:=(m:Int).toNat) (fun i τ H'=>∃ v0,τ = [v0,some (.ref a),some (.int (m:Int)),some (.ref r),some (.ref x),some (.ref F),some (.ref tp),some (.int kk),some (.ref hd),some (.ref fo),none,none]/\aW H7 H'/\H' B=some (.lst (Is ((six i).filter (hb kk))))) ⟨none,rfl,aH hB1 _,aC⟩ ?turnB ?doneB
 case turnB =>
  rintro i j τ H' hm hi ⟨v0,rfl,hs,hD'⟩;have es:(six (i+1)).filter (hb kk)=(six i).filter (hb kk)++(if hb kk (0+(i:Int))=true then [0+(i:Int)] else []):=by
   rw [eF,Zt]
   congr 1
   rw [Zq]
   split <;> rfl
  refine ⟨_,rfl,_,rfl,_,_,rfl,rfl,(by show (0:Int)<=0+(i:Int); omega),_,_,rfl,rfl,rfl,_,rfl,?_⟩;cases b:hb kk (0+(i:Int)) with
  | false =>
   refine eU b ?_;refine dO hm hi ⟨_,rfl,hs,?_⟩;rw [es,b,if_neg (by decide),Zc];exact hD'
  | true =>
   refine jL b ?_;refine ⟨_,rfl,?_⟩;refine bF hm hi hD' (by rw [aK]; refine aP (Y7 (Ze _ _) ?_); unfold six; rw [YQ,Z4]; omega) ⟨_,rfl,hs.upd_new hB1 _,?_⟩;rw [aC,es,b,if_pos rfl,cD]
 case doneB =>
 rintro τ H8 ⟨v0,rfl,s8,hB8⟩;rw [ZM,fe] at hB8;have hfo8:=s8 _ _ hfo;refine ⟨fo,B,true,rfl,rfl,yI hfo8 hB8,_,rfl,?_⟩;refine jH ?_;obtain ⟨N,hN⟩:∃ N:Nat,N=2^m:=⟨_,rfl⟩
 have pe:(1:Int)*2^((m:Int)).toNat=(N:Int):=by rw [aAI,ZM,hN]; push_cast; rfl
 refine ⟨_,rfl,_,_,rfl,rfl,⟨by omega,by omega,by decide⟩,(N:Int),congrArg (fun v=>[V.int v]) pe,by omega,by omega,fun C hC1=>?_⟩;have hr8:=hr7.same s8;refine bW (n:=(N:Int).toNat) (fun i τ H'=>∃ v0,τ = [v0,some (.ref a),some (.int (m:Int)),some (.ref r),some (.ref x),some (.ref F),some (.ref tp),some (.int kk),some (.ref hd),some (.ref fo),none,none]/\aW H8 H'/\H' C=some (.lst (Is (d8 S i)))) ⟨none,rfl,aH hC1 _,aC⟩ ?turnC ?doneC
 case turnC =>
  rintro i j τ H' hm hi ⟨v0,rfl,hs,hD'⟩;have hi2:i<N:=by omega
  refine ⟨_,rfl,_,rfl,r,0+(i:Int),S,rfl,hr8.same hs,ok.good,by omega,by omega,fun H2 s2=>?_⟩;refine ⟨_,rfl,?_⟩;have hD2:=s2 _ _ hD';have es:d8 S (i+1)=d8 S i++(if bY S (0+(i:Int))=true then [0+(i:Int)] else []):=by
   unfold d8;rw [eF,Zt]
   congr 1
   rw [Zq]
   split <;> rfl
  cases b:bY S (0+(i:Int)) with
  | false =>
   refine eU rfl ?_;refine dO hm hi ⟨_,rfl,hs.trans s2,?_⟩;rw [es,b,if_neg (by decide),Zc];exact hD2
  | true =>
   refine jL rfl ?_;refine ⟨_,rfl,?_⟩;refine bF hm hi hD2 (by rw [aK]; exact aP (Y7 (Dc (by omega)).len (by decide))) ⟨_,rfl,(hs.trans s2).upd_new hC1 _,?_⟩;rw [aC,es,b,if_pos rfl,cD]
 case doneC =>
 rintro τ H9 ⟨v0,rfl,s9,hC9⟩;rw [ZM,hN] at hC9;have sk:=Dc (S:=S) (n:=2^m) (by omega);have s89:=s8.trans s9;have ht9:=s89 _ _ ht7;have hX9:=hX7.same s89;have hW9:=hW7.same s89;have hWh9:=hWh7.same s89;have hfo9:=s9 _ _ hfo8;refine ⟨_,rfl,C,_,rfl,hC9,sk,?_⟩;cases fl:(qL (.int 0) (Is (d8 S (2^m)))&&(!wJ (d8 S (2^m))&&!Ce (d8 S (2^m)))) with
 | false =>
  refine ⟨_,rfl,?_⟩;refine eU rfl ?_;have sx:aW H9 H9:=aW.refl _;have GP:=(s6.trans (s7.trans (s89.trans sx)))
  have hWh10:=hWh9.same sx;have hW10:=hW9.same sx;have hfo10:=sx _ _ hfo9;refine ⟨_,rfl,_,rfl,hd,F,true,rfl,rfl,Ek hWh10 hW10,_,rfl,?_⟩;refine eU rfl ?_;refine ⟨_,rfl,.inl ⟨rfl,_,bJ.of hWh10.lst⟩,GQ,fun t1 ht1=>?_⟩;have n1:=aH ht1 (.tup [V.int 1,V.int 1]);refine ⟨hd,_,_,rfl,rfl,n1 _ _ hWh10.lst,(by rw [YQ,hW10.len]; exact aP (by omega)),?_⟩;have GX:=(GP.trans n1).upd_new hhd (.lst (qs.map V.ref++[.ref t1]));have hfo11:bN (bN H9 t1 (.tup [V.int 1,V.int 1])) hd (.lst (qs.map V.ref++[.ref t1])) fo=some (.lst (Is (eQ kk))):=by rw [aO nfh]; exact n1 _ _ hfo10
  generalize bN (bN H9 t1 (.tup [V.int 1,V.int 1])) hd (.lst (qs.map V.ref++[.ref t1]))=H11 at GX hfo11 ⊢;refine ⟨_,rfl,.inl ⟨rfl,_,bJ.of hfo11⟩,fo,_,_,rfl,rfl,hfo11,(by rw [aK]; exact aP (by omega)),?_⟩;have jU:=GX.upd_new fo5 (.lst (Is (eQ kk)++[.int 0]));have hfo12:bN H11 fo (.lst (Is (eQ kk)++[.int 0])) fo=some (.lst (Is (eQ kk)++[.int 0])):=aC;generalize bN H11 fo (.lst (Is (eQ kk)++[.int 0]))=H12 at jU hfo12 ⊢;have hW12:=hW5.same jU;refine ⟨_,rfl,_,rfl,F,_,rfl,.inl (bJ.of hW12.lst),fun l2 hl2=>?_⟩;have rG:=aH hl2 (.lst (qs.map V.ref));have hWl:fD (bN H12 l2 (.lst (qs.map V.ref))) l2 qs xs:=⟨aC,hW12.len,fun i q1 hq=>rG _ _ (hW12.each i q1 hq)⟩
  refine ⟨x,l2,S,qs,xs,rfl,(hX5.same jU).same rG,ok.good,hWl,by omega,xz,fun f2 H14 zM _ hf2=>?_⟩;rw [hk] at hf2;refine ⟨_,rfl,_,rfl,_,rfl,fo,_,rfl,bJ.of ((rG.trans zM) _ _ hfo12),fun p5 hp5=>?_⟩;have n15:=aH hp5 (.lst (vB (Is (eQ kk)++[V.int 0]) none (some (-1))));refine ⟨f2,p5,true,rfl,rfl,yI (n15 _ _ hf2) (by rw [aC,vW]),q _⟩
 | true =>
  rw [Yh,Yh,aBC,aBC,Hd] at fl;obtain ⟨b0,b1,bm,bb⟩:=best ⟨fl.1,fl.2.1,fl.2.2⟩;refine ⟨_,rfl,?_⟩;refine jL rfl ?_;refine ⟨_,rfl,C,rfl,⟨_,bJ.of hC9⟩,fun E1 hE=>?_⟩;refine dG (xs:=Is (d8 S (2^m))) (fun i τ H'=>∃ v0,τ = [v0,some (.ref a),some (.int (m:Int)),some (.ref r),some (.ref x),some (.ref F),some (.ref tp),some (.int kk),some (.ref hd),some (.ref fo),some (.ref C),none]/\aW H9 H'/\H' E1=some (.lst (Is (((d8 S (2^m)).take i).map (Bq ts ts.length))))) ⟨none,rfl,aH hE _,aC⟩ ?keepE ?turnE ?doneE
  case keepE =>
   rintro i τ H' hi ⟨v0,rfl,hs,_⟩;exact bJ.of (hs _ _ hC9)
  case turnE =>
   rintro i mm v τ H' hm hi hv ⟨v0,rfl,hs,hD'⟩;obtain ⟨o,ho,rfl⟩:=gM hv;refine m9 ?_;refine ⟨_,rfl,_,rfl,tp,ts,o,rfl,hs _ _ ht9,by omega,fun H2 s2=>?_⟩;refine bF hm hi (s2 _ _ hD') (by rw [aK,YQ,Yw]; exact aP (by have:=sk.len; omega)) ⟨_,rfl,(hs.trans s2).upd_new hE _,?_⟩;rw [aC,take_snoc ho,Yo,Jh]
   rfl
  case doneE =>
  rintro τ Ha ⟨v0,rfl,sa,hEa⟩;rw [aK,Yz] at hEa;have kin:qL (.int kk) (Is (d8 S (2^m)))=true:=iR.mpr ⟨⟨b0,b1⟩,bm⟩;have kmem:kk∈d8 S (2^m):=gU.mp kin;refine ⟨E1,_,rfl,bJ.of hEa,(fun z=>by rw [List.map_eq_nil_iff.mp z] at kmem; cases kmem),fun M hM hmax=>?_⟩;obtain ⟨o,ho,rfl⟩:=ZW.mp hM;have om:=Ab ho;have le:=Gx hsc (by omega) om.1.1 (by rw [xl]; exact om.1.2) b0 (by rw [xl]; exact b1) (bb o om.1.1 om.1.2 om.2);rw [<- tl] at le;refine ⟨_,rfl,_,rfl,C,_,rfl,.inl (bJ.of (sa _ _ hC9)),rfl,jN _,_,rfl,?_⟩;refine eU (by rw [kin]; rfl) ?_;refine ⟨_,rfl,_,rfl,tp,ts,kk,rfl,sa _ _ ht9,by omega,fun Hb sb=>?_⟩;refine ⟨_,rfl,_,_,rfl,rfl,_,rfl,?_⟩;refine eU (decide_eq_false (by omega)) ?_;have sx:=sa.trans sb;have GP:=(s6.trans (s7.trans (s89.trans sx)))
  have hWh10:=hWh9.same sx;have hW10:=hW9.same sx;have hfo10:=sx _ _ hfo9;refine ⟨_,rfl,_,rfl,hd,F,true,rfl,rfl,Ek hWh10 hW10,_,rfl,?_⟩;refine eU rfl ?_;refine ⟨_,rfl,.inl ⟨rfl,_,bJ.of hWh10.lst⟩,GQ,fun t1 ht1=>?_⟩;have n1:=aH ht1 (.tup [V.int 1,V.int 1]);refine ⟨hd,_,_,rfl,rfl,n1 _ _ hWh10.lst,(by rw [YQ,hW10.len]; exact aP (by omega)),?_⟩;have GX:=(GP.trans n1).upd_new hhd (.lst (qs.map V.ref++[.ref t1]));have hfo11:bN (bN Hb t1 (.tup [V.int 1,V.int 1])) hd (.lst (qs.map V.ref++[.ref t1])) fo=some (.lst (Is (eQ kk))):=by rw [aO nfh]; exact n1 _ _ hfo10
  generalize bN (bN Hb t1 (.tup [V.int 1,V.int 1])) hd (.lst (qs.map V.ref++[.ref t1]))=H11 at GX hfo11 ⊢;refine ⟨_,rfl,.inl ⟨rfl,_,bJ.of hfo11⟩,fo,_,_,rfl,rfl,hfo11,(by rw [aK]; exact aP (by omega)),?_⟩;have jU:=GX.upd_new fo5 (.lst (Is (eQ kk)++[.int 0]));have hfo12:bN H11 fo (.lst (Is (eQ kk)++[.int 0])) fo=some (.lst (Is (eQ kk)++[.int 0])):=aC;generalize bN H11 fo (.lst (Is (eQ kk)++[.int 0]))=H12 at jU hfo12 ⊢;have hW12:=hW5.same jU;refine ⟨_,rfl,_,rfl,F,_,rfl,.inl (bJ.of hW12.lst),fun l2 hl2=>?_⟩;have rG:=aH hl2 (.lst (qs.map V.ref));have hWl:fD (bN H12 l2 (.lst (qs.map V.ref))) l2 qs xs:=⟨aC,hW12.len,fun i q1 hq=>rG _ _ (hW12.each i q1 hq)⟩
  refine ⟨x,l2,S,qs,xs,rfl,(hX5.same jU).same rG,ok.good,hWl,by omega,xz,fun f2 H14 zM _ hf2=>?_⟩;rw [hk] at hf2;refine ⟨_,rfl,_,rfl,_,rfl,fo,_,rfl,bJ.of ((rG.trans zM) _ _ hfo12),fun p5 hp5=>?_⟩;have n15:=aH hp5 (.lst (vB (Is (eQ kk)++[V.int 0]) none (some (-1))));refine ⟨f2,p5,true,rfl,rfl,yI (n15 _ _ hf2) (by rw [aC,vW]),q _⟩
theorem Ad {f:Addr}{fd:FuncData}{ps:List Str}{m:Nat}(F:bO P w K mg base eE m f fd ps Fe):bO P w K mg base eE m f fd ps Ds:=F.imp fun vs H Q E ⟨i,lo,hi,e,h1,h2,q⟩=>⟨_,lo,hi,_,e,.int i,by rw [decide_eq_true h1,decide_eq_true h2]; exact q⟩
end
end K34
namespace L2
open PySem PySem.Spec PyProof.Rows
structure QV (K:PySem.W.Frag)(dT:Addr)(x qual:Str)(st:Stmt)(f:Addr)(fd:FuncData):Prop where
 ex:∃ (oc:Value) (od:Option Addr) (kV doc pm:Value) (an:Option Addr) (cdv ct:Value) (osl:Array (Option Value)),
  fd=PySem.W.fnOf x qual (fV st) (dU st) (aN st) (.ref dT) kV doc pm an cdv ct/\K.lookup f=some ⟨oc,od,.func fd,osl⟩/\PySem.W.codeIn K cdv qual=true
 kp:PySem.W.keepIn K (.ref f)=true
structure TF (K:PySem.W.Frag)(x:Str)(st:Stmt)(f:Addr)(fd:FuncData):Prop where
 a:PySem.W.nsIn K mainGlobals x=some (some (.ref f))
 F:eN K x x st f fd
structure MF (K:PySem.W.Frag)(C:Addr)(m q:Str)(st:Stmt)(f:Addr)(fd:FuncData):Prop where
 a:PySem.W.findIn K (.ref C) m=some (some (.ref f))
 i:PySem.W.isFn K (.ref f)=true
 F:eN K m q st f fd
structure TD (K:PySem.W.Frag)(x:Str)(st:Stmt)(dT f:Addr)(fd:FuncData):Prop where
 a:PySem.W.nsIn K mainGlobals x=some (some (.ref f))
 F:QV K dT x x st f fd
def Jx (K:PySem.W.Frag)(l:List Str):Bool:=l.all fun x=>match PySem.W.nsIn K mainGlobals x with | some none=>true | _=>false
def Ny (mg:Str->Option Value):List Str->Prop
 | []=>True
 | x::r=>mg x=none/\Ny mg r
section
variable {P:Program}{w:World}{K:PySem.W.Frag}{mg:Str->Option Value}{base h:Heap}{x m q:Str}{st:Stmt}{f C:Addr}{fd:FuncData}{ps:List Str}{sp:Sp}{n:Nat}
theorem Mm (X:K.In h)(G:h.Ns mainGlobals mg):∀ {l:List Str},Jx K l=true->Ny mg l
 | [],_=>trivial
 | y::r,e=>by
  have e':((match PySem.W.nsIn K mainGlobals y with | some none=>true | _=>false)&&Jx K r)=true:=e;rw [Yh] at e';refine ⟨PySem.W.mg_none_of X G ?_,Mm X G e'.2⟩;have e1:=e'.1;revert e1;cases PySem.W.nsIn K mainGlobals y with
  | none=>intro z; cases z
  | some o=>cases o with
   | none=>intro _; rfl
   | some v=>intro z; cases z
theorem MF.mt (T:MF K C m q st f fd):xP K C m f:=⟨T.a,T.i,T.F.kp⟩
theorem TF.cal (T:TF K x st f fd)(X:K.In h)(G:h.Ns mainGlobals mg)(g:bO P w K mg base eE n f fd ps sp)(b:Binds K fd ps []):fJ P w K mg base n x ps sp f fd:=⟨g,b,T.F.kp,PySem.W.mg_of X G T.a⟩
theorem fJ.u {m:Nat}(c:fJ P w K mg base n x ps sp f fd)(h:n<=m:=by omega):fJ P w K mg base m x ps sp f fd:=c.up h
theorem bO.u {CX:vY}{m:Nat}(g:bO P w K mg base CX n f fd ps sp)(h:n<=m:=by omega):bO P w K mg base CX m f fd ps sp:=g.mono h
theorem Km {CX:vY}(_:bO P w K mg base CX n f fd ps sp)(b:Binds K fd ps []):Binds K fd ps []:=b
abbrev Pk (x q:Str)(st:Stmt)(us:List Value)(r:List (Str×Value)):Prop:=∀ (kV doc pm:Value) (an:Option Addr) (cdv ct:Value),bindArgs (PySem.W.fnOf x q (fV st) (dU st) (aN st) .none kV doc pm an cdv ct) ⟨us,[]⟩=pure r
theorem eN.bd1 {a:Str}(F:eN K x q st f fd)(h:∀ u,Pk x q st [u] [(a,u)]:=by intros; exact fun _ _ _ _ _ _=>rfl):Binds K fd [a] []:=F.binds fun _ _ _ _ _ _ us hl=>match us,hl with | [_],_=>h _ _ _ _ _ _ _
theorem eN.bd2 {a b:Str}(F:eN K x q st f fd)(h:∀ u v,Pk x q st [u,v] [(a,u),(b,v)]:=by intros; exact fun _ _ _ _ _ _=>rfl):Binds K fd [a,b] []:=F.binds fun _ _ _ _ _ _ us hl=>match us,hl with | [_,_],_=>h _ _ _ _ _ _ _ _
theorem eN.bd3 {a b c:Str}(F:eN K x q st f fd)(h:∀ u v y,Pk x q st [u,v,y] [(a,u),(b,v),(c,y)]:=by intros; exact fun _ _ _ _ _ _=>rfl):Binds K fd [a,b,c] []:=F.binds fun _ _ _ _ _ _ us hl=>match us,hl with | [_,_,_],_=>h _ _ _ _ _ _ _ _ _
theorem eN.bd4 {a b c d:Str}(F:eN K x q st f fd)(h:∀ u v y z,Pk x q st [u,v,y,z] [(a,u),(b,v),(c,y),(d,z)]:=by intros; exact fun _ _ _ _ _ _=>rfl):Binds K fd [a,b,c,d] []:=F.binds fun _ _ _ _ _ _ us hl=>match us,hl with | [_,_,_,_],_=>h _ _ _ _ _ _ _ _ _ _
end
end L2
namespace K34
open PySem L2 TD TP TG TH PyProof.Rows
theorem Js {l:W.OpenLaw}{w:World}{K:W.Frag}{h:Heap}{mg:Str->Option Value}{fa cR Pt f1 f2 f3 f4 f5 f6 f7 f8 f9 f10 f11 f12 f13 f14 f15 f16 f17 f18 f19 f20 f21 f22 f23 f24 f25 f26 f27 f28 f29 f30 f31 f32 f33 f34 f35 cFw cGr cLi:Addr}{g1 g2 g3 g4 g5 g6 g7 g8 g9 g10 g11 g12 g13 g14 g15 g16 g17 g18 g19 g20 g21 g22 g23 g24 g25 g26 g27 g28 g29 g30 g31 g32 g33 g34 g35:FuncData}(X:K.In h)(G:h.Ns mainGlobals mg)(hfa:mg "law" = some (.ref fa))
  (Xq:W.nsIn K mainGlobals "Few" = some (some (.ref cFw)))
  (X4:W.nsIn K mainGlobals "Groups" = some (some (.ref cGr)))
  (X5:W.nsIn K mainGlobals "Listed" = some (some (.ref cLi)))
  (T1:TF K "is_whole" (top 5) f1 g1)
  (T2:TF K "whole" (top 6) f2 g2)
  (T3:TF K "below" (top 7) f3 g3)
  (T4:TF K "has_box" (top 11) f4 g4)
  (T5:TF K "boxes_of" (top 12) f5 g5)
  (T6:TF K "size_of" (top 13) f6 g6)
  (T7:TF K "with_box" (top 14) f7 g7)
  (T8:TF K "is_numbers" (top 15) f8 g8)
  (T9:TF K "falling" (top 20) f9 g9)
  (T10:TF K "chosen" (top 21) f10 g10)
  (T11:TF K "_law_cell_at" (top 23) f11 g11)
  (T12:TF K "_law_many" (top 24) f12 g12)
  (T13:TF K "_law_size" (top 25) f13 g13)
  (T14:TF K "_law_may" (top 26) f14 g14)
  (T15:TF K "_law_forest" (top 27) f15 g15)
  (T16:TF K "_law_under" (top 28) f16 g16)
  (T17:TF K "_law_bits" (top 29) f17 g17)
  (T18:TF K "_law_listed" (top 30) f18 g18)
  (T19:TF K "_law_spec" (top 31) f19 g19)
  (T20:TF K "_law_made" (top 32) f20 g20)
  (T21:TF K "_law_grown" (top 33) f21 g21)
  (T22:TF K "_law_lessened" (top 34) f22 g22)
  (T23:TF K "_law_flawless" (top 35) f23 g23)
  (T24:TF K "_law_divisor" (top 36) f24 g24)
  (T25:TF K "_law_fractions" (top 37) f25 g25)
  (T26:TF K "_law_tops" (top 38) f26 g26)
  (T27:TF K "_law_chosen" (top 39) f27 g27)
  (T28:TF K "_law_sum" (top 40) f28 g28)
  (T29:TF K "law" (top 41) f29 g29)
  (T30:MF K cFw "__init__" "Few.__init__" (inClass (top 17) 0) f30 g30)
  (T31:MF K cFw "may" "Few.may" (inClass (top 17) 1) f31 g31)
  (T32:MF K cGr "__init__" "Groups.__init__" (inClass (top 18) 0) f32 g32)
  (T33:MF K cGr "may" "Groups.may" (inClass (top 18) 1) f33 g33)
  (T34:MF K cLi "__init__" "Listed.__init__" (inClass (top 19) 0) f34 g34)
  (T35:MF K cLi "may" "Listed.may" (inClass (top 19) 1) f35 g35)
  (pt:QK K ⟨cFw,cGr,cLi⟩)
  (mkFw:W.makesIn K cFw=true)
  (kcFw:W.keepIn K (.ref cFw)=true)
  (mkGr:W.makesIn K cGr=true)
  (kcGr:W.keepIn K (.ref cGr)=true)
  (mkLi:W.makesIn K cLi=true)
  (kcLi:W.keepIn K (.ref cLi)=true)
  (nkF:W.findIn K (.ref cFw) "limit" = some none)
  (nkG:W.findIn K (.ref cGr) "groups" = some none)
  (nkM:W.findIn K (.ref cGr) "most" = some none)
  (nkS:W.findIn K (.ref cLi) "sets" = some none)
  (y_:Jx K ["abs","all","any","bool","int","isinstance","len","list","max","min","range","reversed","set","sorted","sum","tuple"]=true)
  {G_:Tok} (W4:W.nsIn K mainGlobals "MOST_BOXES" = some (some (.int 6 G_)))
  {NP:Tok} (Wk:W.nsIn K mainGlobals "MOST_SETS" = some (some (.int 64 NP)))
  (gcR:g27.code=.ref cR)
  (tb:W.tabIn K "_law_chosen" = some (cR,Pt)) (ch:W.codeHdIn K cR Pt=true) (np:K.lookup Pt=none)
  : ∃ (fd:FuncData) (c P:Addr),(∀ (s:Shared) (v:Value),BindsTo s fd ⟨[v],[]⟩ [("_law_script",v)])/\W.tabIn K "_law_chosen" = some (c,P)/\W.codeHdIn K c P=true/\K.lookup P=none/\∀ base:Heap,K.In base->base.Ns mainGlobals mg->W.CodeHd base c P->base.BuiltinsAt mg P->bO l.prog w K mg base eE 6 fa fd ["_law_script"] (pD K P):=by
 obtain ⟨p,rfl,rfl,rfl⟩:∃ p:yH,p.f=cFw/\p.g=cGr/\p.l=cLi:=⟨⟨cFw,cGr,cLi⟩,rfl,rfl,rfl⟩
 replace pt:QK K p:=pt;cases hfa.symm.trans (W.mg_of X G T29.a);have ⟨Xi,Vy,X7,Wy,W5,h_,e_,l_,F_,X6,b_,J_,W6,k_,Xh,j_,_⟩:=Mm X G y_;have X8:=W.mg_of X G Xq;have WF:=W.mg_of X G X4;have WK:=W.mg_of X G X5;have cC:=W.mg_of X G W4;have d_:RelV (.int 6) (.int 6 G_):=⟨_,rfl⟩
 have q_:=W.mg_of X G Wk;have t_:RelV (.int 64) (.int 64 NP):=⟨_,rfl⟩
 refine ⟨g29,cR,Pt,fun s v=>?_,tb,ch,np,fun base _ _ hC hB=>?_⟩
 ·obtain ⟨_,_,_,_,_,_,_,_,_,rfl,_⟩:=T29.F.ex;exact .of_eq rfl
 have R {CX n f g ps sp} (z:bO l.prog w K mg base CX n f g ps sp):=z;have MFw:Mk K p.f f30:=⟨mkFw,T30.a,T30.i,kcFw⟩
 have MGr:Mk K p.g f32:=⟨mkGr,T32.a,T32.i,kcGr⟩
 have MLi:Mk K p.l f34:=⟨mkLi,T34.a,T34.i,kcLi⟩
 have mt31:=T31.mt;have mt33:=T33.mt;have mt35:=T35.mt;have G1:=R (xE (n:=0) T1.F h_ Wy W5);have C1:=T1.cal X G G1 T1.F.bd3;have G2:=R (FW (n:=0) T2.F );have C2:=T2.cal X G G2 T2.F.bd1;have G3:=R (Et (n:=0) T3.F );have C3:=T3.cal X G G3 T3.F.bd2;have G4:=R (zF (n:=0) T4.F );have C4:=T4.cal X G G4 T4.F.bd2;have G5:=R (wA (n:=1) T5.F C4.u b_ cC d_);have C5:=T5.cal X G G5 T5.F.bd1;have G6:=R (zL (n:=2) T6.F C5.u e_);have C6:=T6.cal X G G6 T6.F.bd1;have G7:=R (vX (n:=0) T7.F );have C7:=T7.cal X G G7 T7.F.bd2;have G8:=R (rD (n:=1) T8.F (T1.cal X G (Ad G1) T1.F.bd3).u Vy e_ h_ l_);have C8:=T8.cal X G G8 T8.F.bd4;have G9:=R (zN (n:=1) T9.F C3.u b_ e_);have C9:=T9.cal X G G9 T9.F.bd1;have G31:=R (zO (n:=3) T31.F pt.cf nkF C6.u);have b31:=Km G31 T31.F.bd2;have G33:=R (rC (n:=2) T33.F pt.cg nkG nkM C5.u Vy e_);have b33:=Km G33 T33.F.bd2;have G35:=R (qZ (n:=0) T35.F pt.cl nkS);have b35:=Km G35 T35.F.bd2;have G10:=R (Cp (n:=4) T10.F pt mt31 G31.u b31 mt33 G33.u b33 mt35 G35.u b35 C5.u C9.u C3.u C2.u C7.u);have C10:=T10.cal X G G10 T10.F.bd2;have G11:=R (oZ (n:=0) T11.F e_);have C11:=T11.cal X G G11 T11.F.bd2;have G12:=R (uR (n:=1) T12.F C11.u X6 F_ e_);have C12:=T12.cal X G G12 T12.F.bd3;have G13:=R (tU (n:=0) T13.F b_);have C13:=T13.cal X G G13 T13.F.bd1;have G14:=R (xB (n:=1) T14.F C13.u b_ e_);have C14:=T14.cal X G G14 T14.F.bd2;have G15:=R (pW (n:=0) T15.F b_ e_ W5);have C15:=T15.cal X G G15 T15.F.bd2;have G16:=R (qQ (n:=0) T16.F b_ X7);have C16:=T16.cal X G G16 T16.F.bd2;have G17:=R (uK (n:=0) T17.F b_ e_);have C17:=T17.cal X G G17 T17.F.bd2;have G18:=R (pU (n:=2) T18.F C11.u C15.u C16.u C12.u C17.u e_ b_ F_);have C18:=T18.cal X G G18 T18.F.bd3;have G19:=R (uH (n:=3) T19.F C11.u C18.u j_ b_ k_ W6);have C19:=T19.cal X G G19 T19.F.bd2;have G30:=R (o8 (n:=1) T30.F pt.cf nkF (T1.cal X G (Ad G1) T1.F.bd3).u cC d_);have b30:=Km G30 T30.F.bd2;have G32:=R (lA (n:=2) T32.F pt.cg nkG nkM C8.u j_ cC d_);have b32:=Km G32 T32.F.bd3;have G34:=R (kW (n:=2) T34.F pt.cl nkS C8.u j_ k_ e_ W6 q_ t_);have b34:=Km G34 T34.F.bd2;have G20:=R (uC (n:=4) T20.F MFw G30 b30 X8 (by omega) MGr G32 b32 WF (by omega) MLi G34 b34 WK (by omega) l_ J_);have C20:=T20.cal X G G20 T20.F.bd1;have G21:=R (qR (n:=0) T21.F b_);have C21:=T21.cal X G G21 T21.F.bd3;have G22:=R (nM (n:=0) T22.F b_);have C22:=T22.cal X G G22 T22.F.bd1;have G23:=R (mK (n:=1) T23.F C21.u C13.u C22.u);have C23:=T23.cal X G G23 T23.F.bd1;have G24:=R (oW (n:=0) T24.F );have C24:=T24.cal X G G24 T24.F.bd2;have G25:=R (lJ (n:=1) T25.F C24.u C11.u b_ Xi e_);have C25:=T25.cal X G G25 T25.F.bd2;have G26:=R (uB (n:=0) T26.F );have C26:=T26.cal X G G26 T26.F.bd1;have G27:=R (pX (n:=2) T27.F gcR hC hB C14.u k_ b_ e_);have C27:=T27.cal X G G27 T27.F.bd2;have G28:=R (wR (n:=0) T28.F Xh b_ e_);have C28:=T28.cal X G G28 T28.F.bd2;exact KH (n:=5) T29.F (p:=p) C10.u C23.u C28.u C14.u C27.u C26.u C25.u C20.u C19.u C11.u l_ F_ b_ h_
theorem walk {l:W.OpenLaw}{q:Program}{loose:List Str}{XP:(Str->Option Value)->Heap->Prop}{YP:World->Heap->Prop}{d d0:DefRec}{K:Params->W.Frag}(hn:l.most=some 63)(hdf:d.params.defaults=[])
  (h0:(recsOf q).find? (fun e=>e.name==("_law_chosen" : Str))=some d0)
  (hY:∀ (w:World) (h:Heap),YP w h->(K w.params).In h)
  (F:∀ (w:World) (mg:Str->Option Value) (fa:Addr) (h:Heap),(K w.params).In h->h.Ns mainGlobals mg->mg d.name=some (.ref fa) ->
   ∃ (fd:FuncData) (c P:Addr),(∀ (s:Shared) (u:Value),BindsTo s fd ⟨[u],[]⟩ [("_law_script",u)])/\W.tabIn (K w.params) "_law_chosen" = some (c,P)/\W.codeHdIn (K w.params) c P=true/\(K w.params).lookup P=none/\∀ base:Heap,(K w.params).In base->base.Ns mainGlobals mg->W.CodeHd base c P->base.BuiltinsAt mg P->bO l.prog w (K w.params) mg base eE 6 fa fd ["_law_script"] (pD (K w.params) P)) :
  W.WalkO q loose XP YP l.row.toRowW d [] (fun f vs=>PySem.call f vs) :=
 L2.GC (n:=63) (k:=6) (x:="_law_script") (x0:="_law_chosen") (CX:=fun _=>eE) (sp:=fun w P=>pD (K w.params) P) hn (by decide) hdf ⟨rfl,by decide,by decide⟩ h0 hY F (fun _ _ a P ns hl hP hS=>⟨a,ns,rfl,hS,hl,hP,fun _=>rfl⟩) fun _ _ _ _ _ z=>z
noncomputable section
abbrev OO:=Params->Obj
def E (P:Params)(x:Str)(t:Tok)(v:Value):DictEntry:=⟨PyData.keyHash P x,.str x t,v⟩
abbrev V2 (n q:Str)(st:Stmt)(dV kV doc pm:Value)(an:Option Addr)(cdv ct:Value):FuncData:=W.fnOf n q (fV st) (dU st) (aN st) dV kV doc pm an cdv ct
def Up (n q:Str)(st:Stmt):FuncData:={ name:=n,qualname:=q,params:=fV st,body:=.stmts (dU st),scope:=aN st,globals:=0,closure:=[],defaults:=.none,kwdefaults:=.none }
def s0  : Obj:=⟨(.type "tuple"),none,(.seq #[] 0),#[]⟩
def s1  : Obj:=⟨.none,none,(.fields #[]),#[]⟩
def s2 (x0:Str)(x1:Nat)(x3:Nat)(x5:Nat)(x6:Int)(x16:Nat)(x19:Nat)(x20:Int)(x25:Nat):Obj:=⟨(.type "code"),none,(.fields #[(.str x0 x1),(.str x0 x3),(.str "/claim/cut.py" x5),(.int x6 0),(.int 0 0),(.int 0 0),(.int 0 0),(.int 0 0),(.ref x16),(.bool false),(.int 181 0),(.ref x19),.none,.none,.none,.none,(.int x20 0),(.int x6 0),(.str "/claim/cut.py" x25)]),#[]⟩
def s3 (x0:Nat)(x2:Nat)(x3:Str)(x4:Nat):Obj:=⟨(.type "frame"),none,.plain,#[(some (.ref x0)),(some (.ref 3)),(some (.ref x2)),none,(some (.str x3 x4)),none,(some (.ref 0))]⟩
def s4 (x0:Str)(x1:Nat):Obj:=⟨(.type "tuple"),none,(.seq #[(.str x0 x1)] 0),#[]⟩
def s5 (x0:Str)(x1:Str)(x2:Stmt):Obj:=⟨.none,none,(.func (Up x0 x1 x2)),#[]⟩
def s6 (x0:Str)(x1:Nat)(x2:Str)(x3:Nat)(x5:Nat)(x6:Int)(x8:Int)(x16:Nat)(x19:Nat)(x20:Nat)(x21:Nat)(x22:Nat)(x23:Int)(x28:Nat):Obj:=⟨(.type "code"),none,(.fields #[(.str x0 x1),(.str x2 x3),(.str "/claim/cut.py" x5),(.int x6 0),(.int x8 0),(.int 0 0),(.int 0 0),(.int 3 0),(.ref x16),(.bool true),(.int 181 0),(.ref x19),.none,(.ref x20),(.ref x21),(.ref x22),(.int x23 0),(.int x6 0),(.str "/claim/cut.py" x28)]),#[]⟩
def s7 (x0:Str)(x1:Str)(x2:Stmt)(x3:Str)(x4:Nat)(x5:Nat):Obj:=⟨(.type "function"),none,(.func (V2 x0 x1 x2 .none .none .none (.str x3 x4) none (.ref x5) .none)),#[]⟩
def s8  : Obj:=⟨(.type "builtin_function_or_method"),none,(.fields #[(.builtin "type.__prepare__"),(.type "type")]),#[]⟩
def s9 (x0:Nat):Obj:=⟨(.type "super"),none,(.fields #[(.ref x0),(.ref x0),(.ref x0)]),#[]⟩
def GP (x0:Nat):Obj:=⟨(.type "builtin_function_or_method"),none,(.fields #[(.builtin "object.__init_subclass__"),(.ref x0)]),#[]⟩
def GX (x0:Nat):Obj:=⟨(.type "tuple"),none,(.seq #[(.ref x0)] 0),#[]⟩
def jU (x0:Str)(x1:Nat)(x2:Str)(x3:Nat)(x4:Str)(x5:Nat):Obj:=⟨(.type "tuple"),none,(.seq #[(.str x0 x1),(.str x2 x3),(.str x4 x5)] 0),#[]⟩
def rG (x0:Str)(x1:Nat)(x2:Str)(x3:Nat):Obj:=⟨(.type "tuple"),none,(.seq #[(.str x0 x1),(.str x2 x3)] 0),#[]⟩
def zM (x0:Str)(x1:Nat)(x2:Str)(x3:Nat)(x5:Nat)(x6:Int)(x8:Int)(x16:Nat)(x19:Nat)(x20:Nat)(x21:Int)(x26:Nat):Obj:=⟨(.type "code"),none,(.fields #[(.str x0 x1),(.str x2 x3),(.str "/claim/cut.py" x5),(.int x6 0),(.int x8 0),(.int 0 0),(.int 0 0),(.int 3 0),(.ref x16),(.bool true),(.int 181 0),(.ref x19),.none,.none,.none,(.ref x20),(.int x21 0),(.int x6 0),(.str "/claim/cut.py" x26)]),#[]⟩
def Mq (x0:Str)(x1:Nat)(x2:Str)(x3:Nat)(x4:Str)(x5:Nat)(x6:Str)(x7:Nat):Obj:=⟨(.type "tuple"),none,(.seq #[(.str x0 x1),(.str x2 x3),(.str x4 x5),(.str x6 x7)] 0),#[]⟩
def Vb:OO:=fun _=>s2 "<module>" 182 183 184 1 11 12 185 186
def Uu:OO:=fun _=>s3 13 3 "__main__" 164
def o3:OO:=fun P=>⟨(.type "dict"),none,(.dict #[E P "__name__" 165 (.str "lidprice.patterns" 258),E P "__doc__" 166 .none,E P "__package__" 167 .none,E P "__loader__" 168 (.builtin "__main__.__loader__#opaque"),E P "__spec__" 169 .none,E P "__annotations__" 170 (.ref 6),E P "__builtins__" 171 (.ref 4),E P "__file__" 173 (.str "/claim/cut.py" 172),E P "__cached__" 174 .none,E P "_wall" 193 (.ref 21),E P "LidError" 213 (.ref 31),E P "NoSets" 229 (.ref 44),E P "is_whole" 240 (.ref 53),E P "whole" 247 (.ref 60),E P "below" 255 (.ref 67),E P "MOST_BOXES" 257 (.int 6 256),E P "MOST_SETS" 261 (.int 64 260),E P "has_box" 269 (.ref 74),E P "boxes_of" 275 (.ref 79),E P "size_of" 282 (.ref 86),E P "with_box" 290 (.ref 93),E P "is_numbers" 296 (.ref 98),E P "Pattern" 316 (.ref 108),E P "Few" 356 (.ref 143)] 24),#[]⟩
def MJ:OO:=fun _=>⟨.none,none,(.fields #[(.int 1 0),(.int 0 0),(.ref 20),(.int 5 0),(.int 0 0),(.ref 27),(.int 7 0),(.int 0 0),(.ref 40),(.int 10 0),(.int 0 0),(.ref 52),(.int 12 0),(.int 0 0),(.ref 59),(.int 14 0),(.int 0 0),(.ref 66),(.int 19 0),(.int 0 0),(.ref 73),(.int 21 0),(.int 0 0),(.ref 78),(.int 23 0),(.int 0 0),(.ref 85),(.int 25 0),(.int 0 0),(.ref 92),(.int 27 0),(.int 0 0),(.ref 97),(.int 31 0),(.int 0 0),(.ref 104),(.int 33 0),(.int 0 0),(.ref 118)]),#[]⟩
def Vi:OO:=fun _=>s4 "k" 190
def Vd:OO:=fun _=>s5 "_wall" "_wall" (top 0)
def Tz:OO:=fun _=>s6 "_wall" 187 "_wall" 188 189 1 1 15 16 17 18 19 191 192
def U6:OO:=fun _=>s7 "_wall" "_wall" (top 0) "__main__" 164 20
def VG:OO:=fun _=>⟨(.type "tuple"),none,(.seq #[(.type "ValueError")] 0),#[]⟩
def V5:OO:=fun P=>⟨(.type "dict"),none,(.dict #[E P "__module__" 203 (.str "lidprice.errors" 194),E P "__qualname__" 205 (.str "LidError" 204),E P "__firstlineno__" 207 (.int 5 206),E P "__static_attributes__" 208 (.ref 29)] 4),#[]⟩
def V8:OO:=fun _=>s2 "LidError" 198 199 200 5 25 26 201 202
def Vm:OO:=fun _=>s3 27 24 "lidprice.errors" 194
def Tp:OO:=fun P=>⟨(.type "dict"),none,(.dict #[E P "__module__" 203 (.str "lidprice.errors" 194),E P "__firstlineno__" 207 (.int 5 206),E P "__static_attributes__" 208 (.ref 29),E P "__weakref__" 210 (.ref 32),E P "__doc__" 211 .none] 3),#[]⟩
def U7:OO:=fun _=>⟨(.type "type"),none,(.cls ⟨"LidError",[(.type "ValueError")],[(.ref 31),(.type "ValueError"),(.type "Exception"),(.type "BaseException"),(.type "object")],30,"LidError",true,[],[(.ref 44)],false,none,false⟩),#[(some (.ref 22)),none,(some (.str "LidError" 196)),(some (.str "LidError" 204)),(some (.builtin "ValueError.__new__")),(some (.bool true))]⟩
def Tj:OO:=fun _=>⟨(.type "getset_descriptor"),none,(.fields #[(.str "__weakref__" 209),(.ref 31),(.builtin "ExceptionGroup.__weakref__"),.none]),#[]⟩
def Vg:OO:=fun _=>s9 31
def Vr:OO:=fun _=>GP 31
def Uw:OO:=fun _=>GX 31
def Vq:OO:=fun P=>⟨(.type "dict"),none,(.dict #[E P "__module__" 221 (.str "lidprice.errors" 194),E P "__qualname__" 223 (.str "NoSets" 222),E P "__firstlineno__" 225 (.int 7 224),E P "__static_attributes__" 226 (.ref 42)] 4),#[]⟩
def Vh:OO:=fun _=>s2 "NoSets" 216 217 218 7 38 39 219 220
def Ve:OO:=fun _=>s3 40 37 "lidprice.errors" 194
def Tt:OO:=fun P=>⟨(.type "dict"),none,(.dict #[E P "__module__" 221 (.str "lidprice.errors" 194),E P "__firstlineno__" 225 (.int 7 224),E P "__static_attributes__" 226 (.ref 42),E P "__doc__" 227 .none] 2),#[]⟩
def U4:OO:=fun _=>⟨(.type "type"),none,(.cls ⟨"NoSets",[(.ref 31)],[(.ref 44),(.ref 31),(.type "ValueError"),(.type "Exception"),(.type "BaseException"),(.type "object")],43,"NoSets",true,[],[],false,none,false⟩),#[(some (.ref 35)),none,(some (.str "NoSets" 214)),(some (.str "NoSets" 222)),(some (.builtin "ValueError.__new__")),(some (.bool true))]⟩
def Vo:OO:=fun _=>s9 44
def VR:OO:=fun _=>GP 44
def Vl:OO:=fun _=>jU "thing" 235 "least" 236 "most" 237
def Vf:OO:=fun _=>s5 "is_whole" "is_whole" (top 5)
def Ud:OO:=fun _=>s6 "is_whole" 232 "is_whole" 233 234 10 3 47 48 49 50 51 238 239
def Ub:OO:=fun _=>s7 "is_whole" "is_whole" (top 5) "lidprice.shares" 230 52
def VM:OO:=fun _=>s4 "number" 244
def Vs:OO:=fun _=>s5 "whole" "whole" (top 6)
def UW:OO:=fun _=>s6 "whole" 241 "whole" 242 243 12 1 54 55 56 57 58 245 246
def UT:OO:=fun _=>s7 "whole" "whole" (top 6) "lidprice.shares" 230 59
def Vn:OO:=fun _=>rG "one" 251 "other" 252
def Uy:OO:=fun _=>s5 "below" "below" (top 7)
def Tw:OO:=fun _=>s6 "below" 248 "below" 249 250 14 2 61 62 63 64 65 253 254
def Ul:OO:=fun _=>s7 "below" "below" (top 7) "lidprice.shares" 230 66
def Us:OO:=fun _=>rG "kept" 265 "box" 266
def Vc:OO:=fun _=>s5 "has_box" "has_box" (top 11)
def Ug:OO:=fun _=>s6 "has_box" 262 "has_box" 263 264 19 2 68 69 70 71 72 267 268
def U0:OO:=fun _=>s7 "has_box" "has_box" (top 11) "lidprice.patterns" 258 73
def Va:OO:=fun _=>s5 "boxes_of" "boxes_of" (top 12)
def Uk:OO:=fun _=>zM "boxes_of" 270 "boxes_of" 271 272 21 1 75 76 77 273 274
def U8:OO:=fun _=>s7 "boxes_of" "boxes_of" (top 12) "lidprice.patterns" 258 78
def VB:OO:=fun _=>s4 "kept" 279
def V7:OO:=fun _=>s5 "size_of" "size_of" (top 13)
def Tv:OO:=fun _=>s6 "size_of" 276 "size_of" 277 278 23 1 80 81 82 83 84 280 281
def Ua:OO:=fun _=>s7 "size_of" "size_of" (top 13) "lidprice.patterns" 258 85
def VD:OO:=fun _=>rG "kept" 286 "box" 287
def V6:OO:=fun _=>s5 "with_box" "with_box" (top 14)
def UV:OO:=fun _=>s6 "with_box" 283 "with_box" 284 285 25 2 87 88 89 90 91 288 289
def Uh:OO:=fun _=>s7 "with_box" "with_box" (top 14) "lidprice.patterns" 258 92
def Vp:OO:=fun _=>s5 "is_numbers" "is_numbers" (top 15)
def Uj:OO:=fun _=>zM "is_numbers" 291 "is_numbers" 292 293 27 4 94 95 96 294 295
def U9:OO:=fun _=>s7 "is_numbers" "is_numbers" (top 15) "lidprice.patterns" 258 97
def Qc:OO:=fun P=>⟨(.type "dict"),none,(.dict #[E P "__module__" 304 (.str "lidprice.patterns" 258),E P "__qualname__" 306 (.str "Pattern" 305),E P "__firstlineno__" 308 (.int 31 307),E P "__static_attributes__" 309 (.ref 106)] 4),#[]⟩
def Qx:OO:=fun _=>s2 "Pattern" 299 300 301 31 102 103 302 303
def Rn:OO:=fun _=>s3 104 101 "lidprice.patterns" 258
def Nz:OO:=fun P=>⟨(.type "dict"),none,(.dict #[E P "__module__" 304 (.str "lidprice.patterns" 258),E P "__firstlineno__" 308 (.int 31 307),E P "__static_attributes__" 309 (.ref 106),E P "__dict__" 311 (.ref 109),E P "__weakref__" 313 (.ref 110),E P "__doc__" 314 .none] 4),#[]⟩
def Sw:OO:=fun _=>⟨(.type "type"),none,(.cls ⟨"Pattern",[(.type "object")],[(.ref 108),(.type "object")],107,"Pattern",true,[],[(.ref 143)],false,none,false⟩),#[none,none,(some (.str "Pattern" 297)),(some (.str "Pattern" 305)),(some (.builtin "object.__new__")),(some (.bool true))]⟩
def PJ:OO:=fun _=>⟨(.type "getset_descriptor"),none,(.fields #[(.str "__dict__" 310),(.ref 108),(.builtin "function.__dict__"),(.builtin "function.__dict__#set")]),#[]⟩
def PQ:OO:=fun _=>⟨(.type "getset_descriptor"),none,(.fields #[(.str "__weakref__" 312),(.ref 108),(.builtin "ExceptionGroup.__weakref__"),.none]),#[]⟩
def Rx:OO:=fun _=>s9 108
def TJ:OO:=fun _=>GP 108
def RV:OO:=fun _=>GX 108
def QG:OO:=fun P=>⟨(.type "dict"),none,(.dict #[E P "__module__" 324 (.str "lidprice.patterns" 258),E P "__qualname__" 326 (.str "Few" 325),E P "__firstlineno__" 328 (.int 33 327),E P "__init__" 336 (.ref 126),E P "may" 344 (.ref 133),E P "told" 351 (.ref 140),E P "__static_attributes__" 353 (.ref 141)] 7),#[]⟩
def QD:OO:=fun _=>⟨.none,none,(.fields #[(.int 35 0),(.int 4 0),(.ref 125),(.int 40 0),(.int 4 0),(.ref 132),(.int 43 0),(.int 4 0),(.ref 139)]),#[]⟩
def QJ:OO:=fun _=>s2 "Few" 319 320 321 33 116 117 322 323
def Sg:OO:=fun _=>s3 118 115 "lidprice.patterns" 258
def Qa:OO:=fun _=>rG "self" 332 "count" 333
def Qt:OO:=fun _=>s5 "__init__" "Few.__init__" (inClass (top 17) 0)
def Nx:OO:=fun _=>s6 "__init__" 329 "Few.__init__" 330 331 35 2 120 121 122 123 124 334 335
def Kz:OO:=fun _=>s7 "__init__" "Few.__init__" (inClass (top 17) 0) "lidprice.patterns" 258 125
def RZ:OO:=fun _=>rG "self" 340 "kept" 341
def RT:OO:=fun _=>s5 "may" "Few.may" (inClass (top 17) 1)
def Ln:OO:=fun _=>s6 "may" 337 "Few.may" 338 339 40 2 127 128 129 130 131 342 343
def Lj:OO:=fun _=>s7 "may" "Few.may" (inClass (top 17) 1) "lidprice.patterns" 258 132
def QF:OO:=fun _=>s4 "self" 348
def RC:OO:=fun _=>s5 "told" "Few.told" (inClass (top 17) 2)
def Nv:OO:=fun _=>s6 "told" 345 "Few.told" 346 347 43 1 134 135 136 137 138 349 350
def Ob:OO:=fun _=>s7 "told" "Few.told" (inClass (top 17) 2) "lidprice.patterns" 258 139
def Ry:OO:=fun _=>s4 "limit" 352
def Lx:OO:=fun P=>⟨(.type "dict"),none,(.dict #[E P "__module__" 324 (.str "lidprice.patterns" 258),E P "__firstlineno__" 328 (.int 33 327),E P "__init__" 336 (.ref 126),E P "may" 344 (.ref 133),E P "told" 351 (.ref 140),E P "__static_attributes__" 353 (.ref 141),E P "__doc__" 354 .none] 2),#[]⟩
def NT:OO:=fun _=>⟨(.type "type"),none,(.cls ⟨"Few",[(.ref 108)],[(.ref 143),(.ref 108),(.type "object")],142,"Few",true,[],[],false,none,false⟩),#[(some (.ref 113)),none,(some (.str "Few" 317)),(some (.str "Few" 325)),(some (.builtin "object.__new__")),(some (.bool true))]⟩
def Q8:OO:=fun _=>s9 143
def RP:OO:=fun _=>GP 143
def Sv:OO:=fun P=>⟨(.type "dict"),none,(.dict #[E P "__name__" 165 (.str "law_lidprice_k34_whole_greedy_choosing" 457),E P "__doc__" 166 .none,E P "__package__" 167 .none,E P "__loader__" 168 (.builtin "__main__.__loader__#opaque"),E P "__spec__" 169 .none,E P "__annotations__" 170 (.ref 6),E P "__builtins__" 171 (.ref 4),E P "__file__" 173 (.str "/claim/cut.py" 172),E P "__cached__" 174 .none,E P "_wall" 193 (.ref 21),E P "LidError" 213 (.ref 31),E P "NoSets" 229 (.ref 44),E P "is_whole" 240 (.ref 53),E P "whole" 247 (.ref 60),E P "below" 255 (.ref 67),E P "MOST_BOXES" 257 (.int 6 256),E P "MOST_SETS" 261 (.int 64 260),E P "has_box" 269 (.ref 74),E P "boxes_of" 275 (.ref 79),E P "size_of" 282 (.ref 86),E P "with_box" 290 (.ref 93),E P "is_numbers" 296 (.ref 98),E P "Pattern" 316 (.ref 108),E P "Few" 356 (.ref 143),E P "Groups" 396 (.ref 174),E P "Listed" 436 (.ref 207),E P "falling" 446 (.ref 216),E P "chosen" 456 (.ref 223),E P "_law_cell_at" 467 (.ref 230),E P "_law_many" 477 (.ref 237),E P "_law_size" 486 (.ref 244),E P "_law_may" 497 (.ref 251),E P "_law_forest" 503 (.ref 256),E P "_law_under" 509 (.ref 261),E P "_law_bits" 515 (.ref 266),E P "_law_listed" 521 (.ref 271),E P "_law_spec" 527 (.ref 276),E P "_law_made" 534 (.ref 283),E P "_law_grown" 544 (.ref 290),E P "_law_lessened" 553 (.ref 297),E P "_law_flawless" 562 (.ref 304),E P "_law_divisor" 570 (.ref 311),E P "_law_fractions" 584 (.ref 318),E P "_law_tops" 590 (.ref 323),E P "_law_chosen" 601 (.ref 330),E P "_law_sum" 607 (.ref 335)] 46),#[]⟩
def Li:OO:=fun _=>⟨.none,none,(.fields #[(.int 1 0),(.int 0 0),(.ref 20),(.int 5 0),(.int 0 0),(.ref 27),(.int 7 0),(.int 0 0),(.ref 40),(.int 10 0),(.int 0 0),(.ref 52),(.int 12 0),(.int 0 0),(.ref 59),(.int 14 0),(.int 0 0),(.ref 66),(.int 19 0),(.int 0 0),(.ref 73),(.int 21 0),(.int 0 0),(.ref 78),(.int 23 0),(.int 0 0),(.ref 85),(.int 25 0),(.int 0 0),(.ref 92),(.int 27 0),(.int 0 0),(.ref 97),(.int 31 0),(.int 0 0),(.ref 104),(.int 33 0),(.int 0 0),(.ref 118),(.int 45 0),(.int 0 0),(.ref 151),(.int 64 0),(.int 0 0),(.ref 182),(.int 76 0),(.int 0 0),(.ref 215),(.int 84 0),(.int 0 0),(.ref 222),(.int 91 0),(.int 0 0),(.ref 229),(.int 98 0),(.int 0 0),(.ref 236),(.int 101 0),(.int 0 0),(.ref 243),(.int 106 0),(.int 0 0),(.ref 250),(.int 121 0),(.int 0 0),(.ref 255),(.int 130 0),(.int 0 0),(.ref 260),(.int 136 0),(.int 0 0),(.ref 265),(.int 144 0),(.int 0 0),(.ref 270),(.int 159 0),(.int 0 0),(.ref 275),(.int 168 0),(.int 0 0),(.ref 282),(.int 174 0),(.int 0 0),(.ref 289),(.int 179 0),(.int 0 0),(.ref 296),(.int 185 0),(.int 0 0),(.ref 303),(.int 193 0),(.int 0 0),(.ref 310),(.int 197 0),(.int 0 0),(.ref 317),(.int 212 0),(.int 0 0),(.ref 322),(.int 217 0),(.int 0 0),(.ref 329),(.int 223 0),(.int 0 0),(.ref 334)]),#[]⟩
def DY:OO:=fun _=>⟨(.type "type"),none,(.cls ⟨"Pattern",[(.type "object")],[(.ref 108),(.type "object")],107,"Pattern",true,[],[(.ref 143),(.ref 174),(.ref 207)],false,none,false⟩),#[none,none,(some (.str "Pattern" 297)),(some (.str "Pattern" 305)),(some (.builtin "object.__new__")),(some (.bool true))]⟩
def Q0:OO:=fun _=>GX 108
def Qz:OO:=fun P=>⟨(.type "dict"),none,(.dict #[E P "__module__" 364 (.str "lidprice.patterns" 258),E P "__qualname__" 366 (.str "Groups" 365),E P "__firstlineno__" 368 (.int 45 367),E P "__init__" 377 (.ref 159),E P "may" 383 (.ref 164),E P "told" 390 (.ref 171),E P "__static_attributes__" 393 (.ref 172)] 7),#[]⟩
def Ru:OO:=fun _=>⟨.none,none,(.fields #[(.int 47 0),(.int 4 0),(.ref 158),(.int 55 0),(.int 4 0),(.ref 163),(.int 62 0),(.int 4 0),(.ref 170)]),#[]⟩
def Qf:OO:=fun _=>s2 "Groups" 359 360 361 45 149 150 362 363
def Rh:OO:=fun _=>s3 151 148 "lidprice.patterns" 258
def TX:OO:=fun _=>jU "self" 372 "groups" 373 "most" 374
def RQ:OO:=fun _=>s5 "__init__" "Groups.__init__" (inClass (top 18) 0)
def Mf:OO:=fun _=>s6 "__init__" 369 "Groups.__init__" 370 371 47 3 153 154 155 156 157 375 376
def Ow:OO:=fun _=>s7 "__init__" "Groups.__init__" (inClass (top 18) 0) "lidprice.patterns" 258 158
def Ro:OO:=fun _=>s5 "may" "Groups.may" (inClass (top 18) 1)
def NQ:OO:=fun _=>zM "may" 378 "Groups.may" 379 380 55 2 160 161 162 381 382
def O1:OO:=fun _=>s7 "may" "Groups.may" (inClass (top 18) 1) "lidprice.patterns" 258 163
def Qv:OO:=fun _=>s4 "self" 387
def S9:OO:=fun _=>s5 "told" "Groups.told" (inClass (top 18) 2)
def Mp:OO:=fun _=>s6 "told" 384 "Groups.told" 385 386 62 1 165 166 167 168 169 388 389
def LC:OO:=fun _=>s7 "told" "Groups.told" (inClass (top 18) 2) "lidprice.patterns" 258 170
def Q5:OO:=fun _=>rG "groups" 391 "most" 392
def Nr:OO:=fun P=>⟨(.type "dict"),none,(.dict #[E P "__module__" 364 (.str "lidprice.patterns" 258),E P "__firstlineno__" 368 (.int 45 367),E P "__init__" 377 (.ref 159),E P "may" 383 (.ref 164),E P "told" 390 (.ref 171),E P "__static_attributes__" 393 (.ref 172),E P "__doc__" 394 .none] 2),#[]⟩
def Om:OO:=fun _=>⟨(.type "type"),none,(.cls ⟨"Groups",[(.ref 108)],[(.ref 174),(.ref 108),(.type "object")],173,"Groups",true,[],[],false,none,false⟩),#[(some (.ref 146)),none,(some (.str "Groups" 357)),(some (.str "Groups" 365)),(some (.builtin "object.__new__")),(some (.bool true))]⟩
def Qo:OO:=fun _=>s9 174
def R8:OO:=fun _=>GP 174
def R3:OO:=fun _=>GX 108
def RW:OO:=fun P=>⟨(.type "dict"),none,(.dict #[E P "__module__" 404 (.str "lidprice.patterns" 258),E P "__qualname__" 406 (.str "Listed" 405),E P "__firstlineno__" 408 (.int 64 407),E P "__init__" 416 (.ref 190),E P "may" 424 (.ref 197),E P "told" 431 (.ref 204),E P "__static_attributes__" 433 (.ref 205)] 7),#[]⟩
def Su:OO:=fun _=>⟨.none,none,(.fields #[(.int 66 0),(.int 4 0),(.ref 189),(.int 71 0),(.int 4 0),(.ref 196),(.int 74 0),(.int 4 0),(.ref 203)]),#[]⟩
def Sh:OO:=fun _=>s2 "Listed" 399 400 401 64 180 181 402 403
def RX:OO:=fun _=>s3 182 179 "lidprice.patterns" 258
def Qi:OO:=fun _=>rG "self" 412 "sets" 413
def Ri:OO:=fun _=>s5 "__init__" "Listed.__init__" (inClass (top 19) 0)
def N5:OO:=fun _=>s6 "__init__" 409 "Listed.__init__" 410 411 66 2 184 185 186 187 188 414 415
def MN:OO:=fun _=>s7 "__init__" "Listed.__init__" (inClass (top 19) 0) "lidprice.patterns" 258 189
def Qg:OO:=fun _=>rG "self" 420 "kept" 421
def RN:OO:=fun _=>s5 "may" "Listed.may" (inClass (top 19) 1)
def Oj:OO:=fun _=>s6 "may" 417 "Listed.may" 418 419 71 2 191 192 193 194 195 422 423
def Oa:OO:=fun _=>s7 "may" "Listed.may" (inClass (top 19) 1) "lidprice.patterns" 258 196
def SJ:OO:=fun _=>s4 "self" 428
def Rm:OO:=fun _=>s5 "told" "Listed.told" (inClass (top 19) 2)
def Le:OO:=fun _=>s6 "told" 425 "Listed.told" 426 427 74 1 198 199 200 201 202 429 430
def Mz:OO:=fun _=>s7 "told" "Listed.told" (inClass (top 19) 2) "lidprice.patterns" 258 203
def Qu:OO:=fun _=>s4 "sets" 432
def MP:OO:=fun P=>⟨(.type "dict"),none,(.dict #[E P "__module__" 404 (.str "lidprice.patterns" 258),E P "__firstlineno__" 408 (.int 64 407),E P "__init__" 416 (.ref 190),E P "may" 424 (.ref 197),E P "told" 431 (.ref 204),E P "__static_attributes__" 433 (.ref 205),E P "__doc__" 434 .none] 2),#[]⟩
def M5:OO:=fun _=>⟨(.type "type"),none,(.cls ⟨"Listed",[(.ref 108)],[(.ref 207),(.ref 108),(.type "object")],206,"Listed",true,[],[],false,none,false⟩),#[(some (.ref 177)),none,(some (.str "Listed" 397)),(some (.str "Listed" 405)),(some (.builtin "object.__new__")),(some (.bool true))]⟩
def Rk:OO:=fun _=>s9 207
def R9:OO:=fun _=>GP 207
def S8:OO:=fun _=>Mq "worths" 440 "order" 441 "box" 442 "place" 443
def Td:OO:=fun _=>s5 "falling" "falling" (top 20)
def N6:OO:=fun _=>s6 "falling" 437 "falling" 438 439 76 1 210 211 212 213 214 444 445
def Ot:OO:=fun _=>s7 "falling" "falling" (top 20) "lidprice.patterns" 258 215
def Sq:OO:=fun _=>Mq "pattern" 450 "worths" 451 "kept" 452 "box" 453
def TY:OO:=fun _=>s5 "chosen" "chosen" (top 21)
def Ox:OO:=fun _=>s6 "chosen" 447 "chosen" 448 449 84 2 217 218 219 220 221 454 455
def O7:OO:=fun _=>s7 "chosen" "chosen" (top 21) "lidprice.patterns" 258 222
def S5:OO:=fun _=>jU "_law_script" 462 "_law_k" 463 "_law_number" 464
def SX:OO:=fun _=>s5 "_law_cell_at" "_law_cell_at" (top 23)
def OJ:OO:=fun _=>s6 "_law_cell_at" 459 "_law_cell_at" 460 461 91 2 224 225 226 227 228 465 466
def O6:OO:=fun _=>s7 "_law_cell_at" "_law_cell_at" (top 23) "law_lidprice_k34_whole_greedy_choosing" 457 229
def RM:OO:=fun _=>Mq "_law_script" 471 "_law_first" 472 "_law_most" 473 "_law_drawn" 474
def QM:OO:=fun _=>s5 "_law_many" "_law_many" (top 24)
def LK:OO:=fun _=>s6 "_law_many" 468 "_law_many" 469 470 98 3 231 232 233 234 235 475 476
def PX:OO:=fun _=>s7 "_law_many" "_law_many" (top 24) "law_lidprice_k34_whole_greedy_choosing" 457 236
def R6:OO:=fun _=>jU "_law_kept" 481 "_law_size_here" 482 "_law_box" 483
def QZ:OO:=fun _=>s5 "_law_size" "_law_size" (top 25)
def Nm:OO:=fun _=>s6 "_law_size" 478 "_law_size" 479 480 101 1 238 239 240 241 242 484 485
def Mh:OO:=fun _=>s7 "_law_size" "_law_size" (top 25) "law_lidprice_k34_whole_greedy_choosing" 457 243
def QL:OO:=fun _=>⟨(.type "tuple"),none,(.seq #[(.str "_law_spec_here" 490),(.str "_law_kept" 491),(.str "_law_many_here" 492),(.str "_law_box" 493),(.str "_law_group" 494)] 0),#[]⟩
def Ra:OO:=fun _=>s5 "_law_may" "_law_may" (top 26)
def M7:OO:=fun _=>s6 "_law_may" 487 "_law_may" 488 489 106 2 245 246 247 248 249 495 496
def La:OO:=fun _=>s7 "_law_may" "_law_may" (top 26) "law_lidprice_k34_whole_greedy_choosing" 457 250
def QC:OO:=fun _=>s5 "_law_forest" "_law_forest" (top 27)
def NB:OO:=fun _=>zM "_law_forest" 498 "_law_forest" 499 500 121 2 252 253 254 501 502
def Mj:OO:=fun _=>s7 "_law_forest" "_law_forest" (top 27) "law_lidprice_k34_whole_greedy_choosing" 457 255
def Rf:OO:=fun _=>s5 "_law_under" "_law_under" (top 28)
def PP:OO:=fun _=>zM "_law_under" 504 "_law_under" 505 506 130 2 257 258 259 507 508
def Oe:OO:=fun _=>s7 "_law_under" "_law_under" (top 28) "law_lidprice_k34_whole_greedy_choosing" 457 260
def Qn:OO:=fun _=>s5 "_law_bits" "_law_bits" (top 29)
def Ml:OO:=fun _=>zM "_law_bits" 510 "_law_bits" 511 512 136 2 262 263 264 513 514
def Mt:OO:=fun _=>s7 "_law_bits" "_law_bits" (top 29) "law_lidprice_k34_whole_greedy_choosing" 457 265
def Qh:OO:=fun _=>s5 "_law_listed" "_law_listed" (top 30)
def Kw:OO:=fun _=>zM "_law_listed" 516 "_law_listed" 517 518 144 3 267 268 269 519 520
def N7:OO:=fun _=>s7 "_law_listed" "_law_listed" (top 30) "law_lidprice_k34_whole_greedy_choosing" 457 270
def Ql:OO:=fun _=>s5 "_law_spec" "_law_spec" (top 31)
def Ky:OO:=fun _=>zM "_law_spec" 522 "_law_spec" 523 524 159 2 272 273 274 525 526
def Mi:OO:=fun _=>s7 "_law_spec" "_law_spec" (top 31) "law_lidprice_k34_whole_greedy_choosing" 457 275
def RL:OO:=fun _=>s4 "_law_spec_here" 531
def Rt:OO:=fun _=>s5 "_law_made" "_law_made" (top 32)
def Ng:OO:=fun _=>s6 "_law_made" 528 "_law_made" 529 530 168 1 277 278 279 280 281 532 533
def O8:OO:=fun _=>s7 "_law_made" "_law_made" (top 32) "law_lidprice_k34_whole_greedy_choosing" 457 282
def S6:OO:=fun _=>Mq "_law_sets" 538 "_law_one" 539 "_law_other" 540 "_law_box" 541
def QQ:OO:=fun _=>s5 "_law_grown" "_law_grown" (top 33)
def Nh:OO:=fun _=>s6 "_law_grown" 535 "_law_grown" 536 537 174 3 284 285 286 287 288 542 543
def Ly:OO:=fun _=>s7 "_law_grown" "_law_grown" (top 33) "law_lidprice_k34_whole_greedy_choosing" 457 289
def QB:OO:=fun _=>jU "_law_sets" 548 "_law_one" 549 "_law_box" 550
def Rv:OO:=fun _=>s5 "_law_lessened" "_law_lessened" (top 34)
def O4:OO:=fun _=>s6 "_law_lessened" 545 "_law_lessened" 546 547 179 1 291 292 293 294 295 551 552
def Lf:OO:=fun _=>s7 "_law_lessened" "_law_lessened" (top 34) "law_lidprice_k34_whole_greedy_choosing" 457 296
def Rz:OO:=fun _=>jU "_law_sets" 557 "_law_one" 558 "_law_other" 559
def Rb:OO:=fun _=>s5 "_law_flawless" "_law_flawless" (top 35)
def PK:OO:=fun _=>s6 "_law_flawless" 554 "_law_flawless" 555 556 185 1 298 299 300 301 302 560 561
def OD:OO:=fun _=>s7 "_law_flawless" "_law_flawless" (top 35) "law_lidprice_k34_whole_greedy_choosing" 457 303
def Qy:OO:=fun _=>rG "_law_one" 566 "_law_other" 567
def Rr:OO:=fun _=>s5 "_law_divisor" "_law_divisor" (top 36)
def O3:OO:=fun _=>s6 "_law_divisor" 563 "_law_divisor" 564 565 193 2 305 306 307 308 309 568 569
def Nj:OO:=fun _=>s7 "_law_divisor" "_law_divisor" (top 36) "law_lidprice_k34_whole_greedy_choosing" 457 310
def Rp:OO:=fun _=>⟨(.type "tuple"),none,(.seq #[(.str "_law_script" 574),(.str "_law_many_here" 575),(.str "_law_found" 576),(.str "_law_k" 577),(.str "_law_cell" 578),(.str "_law_top" 579),(.str "_law_bottom" 580),(.str "_law_by" 581)] 0),#[]⟩
def QT:OO:=fun _=>s5 "_law_fractions" "_law_fractions" (top 37)
def Lh:OO:=fun _=>s6 "_law_fractions" 571 "_law_fractions" 572 573 197 2 312 313 314 315 316 582 583
def Ov:OO:=fun _=>s7 "_law_fractions" "_law_fractions" (top 37) "law_lidprice_k34_whole_greedy_choosing" 457 317
def TV:OO:=fun _=>s5 "_law_tops" "_law_tops" (top 38)
def Nf:OO:=fun _=>zM "_law_tops" 585 "_law_tops" 586 587 212 1 319 320 321 588 589
def LR:OO:=fun _=>s7 "_law_tops" "_law_tops" (top 38) "law_lidprice_k34_whole_greedy_choosing" 457 322
def Q7:OO:=fun _=>Mq "_law_spec_here" 594 "_law_tops_here" 595 "_law_kept" 596 "_law_box" 597
def Qp:OO:=fun _=>s4 "_law_tops_here" 598
def Rj:OO:=fun _=>s5 "_law_chosen" "_law_chosen" (top 39)
def Oc:OO:=fun _=>s6 "_law_chosen" 591 "_law_chosen" 592 593 217 2 324 325 326 327 328 599 600
def M6:OO:=fun _=>s7 "_law_chosen" "_law_chosen" (top 39) "law_lidprice_k34_whole_greedy_choosing" 457 329
def QX:OO:=fun _=>s5 "_law_sum" "_law_sum" (top 40)
def Ls:OO:=fun _=>zM "_law_sum" 602 "_law_sum" 603 604 223 2 331 332 333 605 606
def Oq:OO:=fun _=>s7 "_law_sum" "_law_sum" (top 40) "law_lidprice_k34_whole_greedy_choosing" 457 334
def M4:OO:=fun P=>⟨(.type "dict"),none,(.dict #[E P "__name__" 165 (.str "law_lidprice_k34_whole_greedy_choosing" 457),E P "__doc__" 166 .none,E P "__package__" 167 .none,E P "__loader__" 168 (.builtin "__main__.__loader__#opaque"),E P "__spec__" 169 .none,E P "__annotations__" 170 (.ref 6),E P "__builtins__" 171 (.ref 4),E P "__file__" 173 (.str "/claim/cut.py" 172),E P "__cached__" 174 .none,E P "_wall" 193 (.ref 21),E P "LidError" 213 (.ref 31),E P "NoSets" 229 (.ref 44),E P "is_whole" 240 (.ref 53),E P "whole" 247 (.ref 60),E P "below" 255 (.ref 67),E P "MOST_BOXES" 257 (.int 6 256),E P "MOST_SETS" 261 (.int 64 260),E P "has_box" 269 (.ref 74),E P "boxes_of" 275 (.ref 79),E P "size_of" 282 (.ref 86),E P "with_box" 290 (.ref 93),E P "is_numbers" 296 (.ref 98),E P "Pattern" 316 (.ref 108),E P "Few" 356 (.ref 143),E P "Groups" 396 (.ref 174),E P "Listed" 436 (.ref 207),E P "falling" 446 (.ref 216),E P "chosen" 456 (.ref 223),E P "_law_cell_at" 467 (.ref 230),E P "_law_many" 477 (.ref 237),E P "_law_size" 486 (.ref 244),E P "_law_may" 497 (.ref 251),E P "_law_forest" 503 (.ref 256),E P "_law_under" 509 (.ref 261),E P "_law_bits" 515 (.ref 266),E P "_law_listed" 521 (.ref 271),E P "_law_spec" 527 (.ref 276),E P "_law_made" 534 (.ref 283),E P "_law_grown" 544 (.ref 290),E P "_law_lessened" 553 (.ref 297),E P "_law_flawless" 562 (.ref 304),E P "_law_divisor" 570 (.ref 311),E P "_law_fractions" 584 (.ref 318),E P "_law_tops" 590 (.ref 323),E P "_law_chosen" 601 (.ref 330),E P "_law_sum" 607 (.ref 335),E P "law" 613 (.ref 340)] 47),#[]⟩
def Mw:OO:=fun _=>⟨.none,none,(.fields #[(.int 1 0),(.int 0 0),(.ref 20),(.int 5 0),(.int 0 0),(.ref 27),(.int 7 0),(.int 0 0),(.ref 40),(.int 10 0),(.int 0 0),(.ref 52),(.int 12 0),(.int 0 0),(.ref 59),(.int 14 0),(.int 0 0),(.ref 66),(.int 19 0),(.int 0 0),(.ref 73),(.int 21 0),(.int 0 0),(.ref 78),(.int 23 0),(.int 0 0),(.ref 85),(.int 25 0),(.int 0 0),(.ref 92),(.int 27 0),(.int 0 0),(.ref 97),(.int 31 0),(.int 0 0),(.ref 104),(.int 33 0),(.int 0 0),(.ref 118),(.int 45 0),(.int 0 0),(.ref 151),(.int 64 0),(.int 0 0),(.ref 182),(.int 76 0),(.int 0 0),(.ref 215),(.int 84 0),(.int 0 0),(.ref 222),(.int 91 0),(.int 0 0),(.ref 229),(.int 98 0),(.int 0 0),(.ref 236),(.int 101 0),(.int 0 0),(.ref 243),(.int 106 0),(.int 0 0),(.ref 250),(.int 121 0),(.int 0 0),(.ref 255),(.int 130 0),(.int 0 0),(.ref 260),(.int 136 0),(.int 0 0),(.ref 265),(.int 144 0),(.int 0 0),(.ref 270),(.int 159 0),(.int 0 0),(.ref 275),(.int 168 0),(.int 0 0),(.ref 282),(.int 174 0),(.int 0 0),(.ref 289),(.int 179 0),(.int 0 0),(.ref 296),(.int 185 0),(.int 0 0),(.ref 303),(.int 193 0),(.int 0 0),(.ref 310),(.int 197 0),(.int 0 0),(.ref 317),(.int 212 0),(.int 0 0),(.ref 322),(.int 217 0),(.int 0 0),(.ref 329),(.int 223 0),(.int 0 0),(.ref 334),(.int 225 0),(.int 0 0),(.ref 339)]),#[]⟩
def RG:OO:=fun _=>s5 "law" "law" (top 41)
def NK:OO:=fun _=>zM "law" 608 "law" 609 610 225 1 336 337 338 611 612
def Ku:OO:=fun _=>s7 "law" "law" (top 41) "law_lidprice_k34_whole_greedy_choosing" 457 339
def l0 (P:Params):List Obj:=W.boot_o_0 P::W.boot_o_1 P::W.boot_o_2 P::W.boot_o_3 P::W.boot_o_4 P::W.boot_o_5 P::W.boot_o_6 P::W.boot_o_7 P::W.boot_o_8 P::W.boot_o_9 P::W.boot_o_10 P::s0::s1::Vb P::Uu P::[]
def t0 (P:Params):W.BT:=L2.bt 14 (l0 P)
def l1 (P:Params):List Obj:=L2.sets (l0 P) [(3,o3 P),(12,MJ P)]++(s0::s1::Vi P::s0::Vd P::Tz P::U6 P::VG P::s8::V5 P::s0::s1::V8 P::Vm P::s0::Tp P::U7 P::Tj P::Vg P::Vr P::Uw P::s8::Vq P::s0::s1::Vh P::Ve P::s0::Tt P::U4 P::Vo P::VR P::s0::s1::Vl P::s0::Vf P::Ud P::Ub P::s0::s1::VM P::s0::Vs P::UW P::UT P::s0::s1::Vn P::s0::Uy P::Tw P::Ul P::s0::s1::Us P::s0::Vc P::Ug P::U0 P::s0::s1::Va P::Uk P::U8 P::s0::s1::VB P::s0::V7 P::Tv P::Ua P::s0::s1::VD P::s0::V6 P::UV P::Uh P::s0::s1::Vp P::Uj P::U9 P::s0::s8::Qc P::s0::s1::Qx P::Rn P::s0::Nz P::Sw P::PJ P::PQ P::Rx P::TJ P::RV P::s8::QG P::s0::QD P::QJ P::Sg P::s0::s1::Qa P::s0::Qt P::Nx P::Kz P::s0::s1::RZ P::s0::RT P::Ln P::Lj P::s0::s1::QF P::s0::RC P::Nv P::Ob P::Ry P::Lx P::NT P::Q8 P::RP P::[])
def t1 (P:Params):W.BT:=L2.bt 14 (l1 P)
def l2 (P:Params):List Obj:=L2.sets (l1 P) [(3,Sv P),(12,Li P),(108,DY P)]++(Q0 P::s8::Qz P::s0::Ru P::Qf P::Rh P::s0::s1::TX P::s0::RQ P::Mf P::Ow P::s0::s1::Ro P::NQ P::O1 P::s0::s1::Qv P::s0::S9 P::Mp P::LC P::Q5 P::Nr P::Om P::Qo P::R8 P::R3 P::s8::RW P::s0::Su P::Sh P::RX P::s0::s1::Qi P::s0::Ri P::N5 P::MN P::s0::s1::Qg P::s0::RN P::Oj P::Oa P::s0::s1::SJ P::s0::Rm P::Le P::Mz P::Qu P::MP P::M5 P::Rk P::R9 P::s0::s1::S8 P::s0::Td P::N6 P::Ot P::s0::s1::Sq P::s0::TY P::Ox P::O7 P::s0::s1::S5 P::s0::SX P::OJ P::O6 P::s0::s1::RM P::s0::QM P::LK P::PX P::s0::s1::R6 P::s0::QZ P::Nm P::Mh P::s0::s1::QL P::s0::Ra P::M7 P::La P::s0::s1::QC P::NB P::Mj P::s0::s1::Rf P::PP P::Oe P::s0::s1::Qn P::Ml P::Mt P::s0::s1::Qh P::Kw P::N7 P::s0::s1::Ql P::Ky P::Mi P::s0::s1::RL P::s0::Rt P::Ng P::O8 P::s0::s1::S6 P::s0::QQ P::Nh P::Ly P::s0::s1::QB P::s0::Rv P::O4 P::Lf P::s0::s1::Rz P::s0::Rb P::PK P::OD P::s0::s1::Qy P::s0::Rr P::O3 P::Nj P::s0::s1::Rp P::s0::QT P::Lh P::Ov P::s0::s1::TV P::Nf P::LR P::s0::s1::Q7 P::Qp P::Rj P::Oc P::M6 P::s0::s1::QX P::Ls P::Oq P::[])
def t2 (P:Params):W.BT:=L2.bt 14 (l2 P)
def l3 (P:Params):List Obj:=L2.sets (l2 P) [(3,M4 P),(12,Mw P)]++(s0::s1::RG P::NK P::Ku P::[])
def t3 (P:Params):W.BT:=L2.bt 14 (l3 P)
def wM:Env:={ scope:=PySem.Challenge.pw_lidprice_k34_whole_greedy_choosing.main.scope,locals:=mainNs,globals:=mainNs,cells:=[],code:=(.ref 13),frame:=some 14 }
def g1:List Stmt:=[top 0,top 1,top 2,top 3,top 4,top 5,top 6,top 7,top 8,top 9,top 10,top 11,top 12,top 13,top 14,top 15,top 16,top 17]
def g2:List Stmt:=[top 18,top 19,top 20,top 21,top 22,top 23,top 24,top 25,top 26,top 27,top 28,top 29,top 30,top 31,top 32,top 33,top 34,top 35,top 36,top 37,top 38,top 39,top 40]
def g3:List Stmt:=[top 41]
def gs:List Stmt:=g1++(g2++(g3++[]))
def jK:Code:=.body gs wM
theorem Sx (w:World)(os:OsState):W.segRunT PySem.treeTable PySem.Challenge.pw_lidprice_k34_whole_greedy_choosing w 11 (some (.ref 6)) 1 1203 (xK (t0 w.params) 15 187 os) (W.piecesOf g1 wM jK ⟨0,0,0,0⟩ [W.topFrame ⟨0,0,0,0⟩])=some (.next,xK (t1 w.params) 146 357 os,jK,⟨33,0,44,16⟩):=by kernel_rfl
theorem RK (w:World)(os:OsState):W.segRunT PySem.treeTable PySem.Challenge.pw_lidprice_k34_whole_greedy_choosing w 11 (some (.ref 6)) 1 1219 (xK (t1 w.params) 146 357 os) (W.piecesOf g2 wM jK ⟨33,0,44,16⟩ [W.topFrame ⟨0,0,0,0⟩])=some (.next,xK (t2 w.params) 336 608 os,jK,⟨223,0,224,119⟩):=by kernel_rfl
theorem Py (w:World)(os:OsState):W.segRunT PySem.treeTable PySem.Challenge.pw_lidprice_k34_whole_greedy_choosing w 11 (some (.ref 6)) 1 27 (xK (t2 w.params) 336 608 os) (W.piecesOf g3 wM jK ⟨223,0,224,119⟩ [W.topFrame ⟨0,0,0,0⟩])=some (.next,xK (t3 w.params) 341 614 os,jK,⟨225,0,245,77⟩):=by kernel_rfl
theorem Rc (w:World)(os:OsState):W.topRun PySem.treeTable PySem.Challenge.pw_lidprice_k34_whole_greedy_choosing w 11 (some (.ref 6)) 2 (xK (t3 w.params) 341 614 os).abs (W.restOf [] wM jK ⟨225,0,245,77⟩ [W.topFrame ⟨0,0,0,0⟩])=some (xK (t3 w.params) 341 614 os).abs:=by kernel_rfl
theorem Qm (w:World)(os:OsState):W.topGo PySem.treeTable PySem.Challenge.pw_lidprice_k34_whole_greedy_choosing w 11 (some (.ref 6)) 12 ⟨W.boot_heap w.params,aA3 [],W.boot_drawn,W.boot_toks,os⟩ (W.topStub PySem.Challenge.pw_lidprice_k34_whole_greedy_choosing)=some ((xK (t0 w.params) 15 187 os).abs,⟨denote PySem.treeTable (.body gs wM),jK,⟨0,0,0,0⟩,[W.topFrame ⟨0,0,0,0⟩]⟩):=by kernel_rfl
theorem Qd (w:World)(os:OsState):W.segRun PySem.treeTable PySem.Challenge.pw_lidprice_k34_whole_greedy_choosing w 11 (some (.ref 6)) 1 1 (xK (t0 w.params) 15 187 os).abs (W.blockOf gs wM jK ⟨0,0,0,0⟩ [W.topFrame ⟨0,0,0,0⟩])=some (.next,(xK (t0 w.params) 15 187 os).abs,jK,⟨0,0,0,0⟩):=by kernel_rfl
def rF (P:Params):W.Frag :=
(nat_lit 2,W.boot_o_2 P) ::
(nat_lit 3,M4 P) ::
(nat_lit 20,Tz P) ::
(nat_lit 21,U6 P) ::
(nat_lit 30,Tp P) ::
(nat_lit 31,U7 P) ::
(nat_lit 32,Tj P) ::
(nat_lit 43,Tt P) ::
(nat_lit 44,U4 P) ::
(nat_lit 52,Ud P) ::
(nat_lit 53,Ub P) ::
(nat_lit 59,UW P) ::
(nat_lit 60,UT P) ::
(nat_lit 66,Tw P) ::
(nat_lit 67,Ul P) ::
(nat_lit 73,Ug P) ::
(nat_lit 74,U0 P) ::
(nat_lit 78,Uk P) ::
(nat_lit 79,U8 P) ::
(nat_lit 85,Tv P) ::
(nat_lit 86,Ua P) ::
(nat_lit 92,UV P) ::
(nat_lit 93,Uh P) ::
(nat_lit 97,Uj P) ::
(nat_lit 98,U9 P) ::
(nat_lit 107,Nz P) ::
(nat_lit 108,DY P) ::
(nat_lit 109,PJ P) ::
(nat_lit 110,PQ P) ::
(nat_lit 125,Nx P) ::
(nat_lit 126,Kz P) ::
(nat_lit 132,Ln P) ::
(nat_lit 133,Lj P) ::
(nat_lit 139,Nv P) ::
(nat_lit 140,Ob P) ::
(nat_lit 142,Lx P) ::
(nat_lit 143,NT P) ::
(nat_lit 158,Mf P) ::
(nat_lit 159,Ow P) ::
(nat_lit 163,NQ P) ::
(nat_lit 164,O1 P) ::
(nat_lit 170,Mp P) ::
(nat_lit 171,LC P) ::
(nat_lit 173,Nr P) ::
(nat_lit 174,Om P) ::
(nat_lit 189,N5 P) ::
(nat_lit 190,MN P) ::
(nat_lit 196,Oj P) ::
(nat_lit 197,Oa P) ::
(nat_lit 203,Le P) ::
(nat_lit 204,Mz P) ::
(nat_lit 206,MP P) ::
(nat_lit 207,M5 P) ::
(nat_lit 215,N6 P) ::
(nat_lit 216,Ot P) ::
(nat_lit 222,Ox P) ::
(nat_lit 223,O7 P) ::
(nat_lit 229,OJ P) ::
(nat_lit 230,O6 P) ::
(nat_lit 236,LK P) ::
(nat_lit 237,PX P) ::
(nat_lit 243,Nm P) ::
(nat_lit 244,Mh P) ::
(nat_lit 250,M7 P) ::
(nat_lit 251,La P) ::
(nat_lit 255,NB P) ::
(nat_lit 256,Mj P) ::
(nat_lit 260,PP P) ::
(nat_lit 261,Oe P) ::
(nat_lit 265,Ml P) ::
(nat_lit 266,Mt P) ::
(nat_lit 270,Kw P) ::
(nat_lit 271,N7 P) ::
(nat_lit 275,Ky P) ::
(nat_lit 276,Mi P) ::
(nat_lit 282,Ng P) ::
(nat_lit 283,O8 P) ::
(nat_lit 289,Nh P) ::
(nat_lit 290,Ly P) ::
(nat_lit 296,O4 P) ::
(nat_lit 297,Lf P) ::
(nat_lit 303,PK P) ::
(nat_lit 304,OD P) ::
(nat_lit 310,O3 P) ::
(nat_lit 311,Nj P) ::
(nat_lit 317,Lh P) ::
(nat_lit 318,Ov P) ::
(nat_lit 322,Nf P) ::
(nat_lit 323,LR P) ::
(nat_lit 329,Oc P) ::
(nat_lit 330,M6 P) ::
(nat_lit 334,Ls P) ::
(nat_lit 335,Oq P) ::
(nat_lit 339,NK P) ::
(nat_lit 340,Ku P)::[]
def Kq:List Addr:=2::3::20::21::30::31::32::43::44::52::53::59::60::66::67::73::74::78::79::85::86::92::93::97::98::107::108::109::110::125::126::132::133::139::140::142::143::158::159::163::164::170::171::173::174::189::190::196::197::203::204::206::207::215::216::222::223::229::230::236::237::243::244::250::251::255::256::260::261::265::266::270::271::275::276::282::283::289::290::296::297::303::304::310::311::317::318::322::323::329::330::334::335::339::340::[]
theorem xC:∀ P,Kq=(rF P).map (·.1):=fun _=>by kernel_rfl
def vw:Program:={ PySem.Challenge.pw_lidprice_k34_whole_greedy_choosing with main:={ (PySem.Challenge.pw_lidprice_k34_whole_greedy_choosing).main with body:=[top 0,top 2,top 3,top 5,top 6,top 7,top 8,top 10,top 11,top 12,top 13,top 14,top 15,top 16,top 17,top 18,top 19,top 20,top 21,top 23,top 24,top 25,top 26,top 27,top 28,top 29,top 30,top 31,top 32,top 33,top 34,top 35,top 36,top 37,top 38,top 39,top 40,top 41] } }
def Um (s:Shared):Bool:=W.xlAt vw [] s&&W.recOk (W.RowW.records (W.OpenRow.toRowW (W.OpenLaw.row PySem.Challenge.rw_lidprice_k34_whole_greedy_choosing))) s
theorem Nk:W.LeftO PySem.Challenge.pw_lidprice_k34_whole_greedy_choosing vw [] Um (W.Hook.obs (W.kHook rF Kq xC)) (W.Hook.val (W.kHook rF Kq xC)) 5618 :=
 L2.Ed (Tb:=t0) (Tf:=t3) (nf:=341) (kf:=614) (env:=wM) (C:=jK) (gs:=gs) (m0:=11) (ann:=(some (.ref 6))) (by kernel_rfl) (by decide) (fun _=>by kernel_rfl) (fun _=>by kernel_rfl) Qm Qd (c:=1203+(1219+(27+(2)))) (fun w os=>L2.tV (Sx w os) (L2.tV (RK w os) (L2.tV (Py w os) (Rc w os)))) (by decide) (fun _=>by kernel_rfl)
end
end K34
open PySem PySem.W PyProof.Rows
set_option maxRecDepth 100000 in
set_option maxHeartbeats 0 in
theorem PySem.Challenge.cw_lidprice_k34_whole_greedy_choosing_holds : PySem.Challenge.rw_lidprice_k34_whole_greedy_choosing.Holds := by
 w_on
 refine PySem.W.holds_law K34.Lp fun said=>?_;refine PySem.W.holds_open (N:=5618) (q:=K34.vw) (loose:=[]) (Xt:=K34.Um) (XP:=PySem.W.XL K34.vw [])
  (Yf:=PySem.W.Hook.obs (PySem.W.kHook K34.rF K34.Kq K34.xC)) (Ya:=PySem.W.Hook.val (PySem.W.kHook K34.rF K34.Kq K34.xC))
  (YP:=PySem.W.Hook.says (PySem.W.kHook K34.rF K34.Kq K34.xC)) K34.Nk
  (PySem.W.Hook.of _) (PySem.W.Hook.keeps _) (fun s e=>PySem.W.xl_of s (aBk.mp e).1) PySem.W.XL.keeps
  (by rfl) (by rfl) (by rfl) (fun s e=>PySem.W.recFacts_of (aBk.mp e).2)
  (by rfl) (by first | assumption | decide +kernel) (by decide +kernel)
  ⟨rfl,rfl,rfl,rfl,rfl,by decide +kernel⟩ ?hw ?hc
 case hw=>w_witness2
 k_fill
 refine K34.walk (l:=PySem.Challenge.rw_lidprice_k34_whole_greedy_choosing) rfl rfl rfl (fun w h Y=>by first | exact PySem.W.kIn_of Y | exact PySem.W.km_in_of Y) ?F
 case F =>
  intro w mg fa h KX G hmg;apply K34.Js (cR:=329) (Pt:=325) KX G hmg
  all_goals first | k_is | kit_is | exact ⟨by k_is,L2.Fw (by k_is) (by k_is) (by k_is)⟩ | exact ⟨by k_is,by k_is,L2.Fw (by k_is) (by k_is) (by k_is)⟩ | (refine ⟨?_,?_,⟨?_,?_,?_,?_⟩,⟨?_,?_,?_,?_⟩,⟨?_,?_,?_,?_⟩,?_,?_,?_,?_,?_,?_,?_,?_,?_,?_,?_,?_⟩ <;> first | k_is | kit_is | kernel_rfl | (unfold L2.kI; kernel_rfl) | decide) | kernel_rfl | exact rfl | decide
