import PyProof.Rows.All
import Wide.All
import OpenK.AllK
import Wide.FinOn
import Lean
import PyProof.EqAt
import PyProof.EqKinds
import PyProof.TupleCall
import PyProof.NeKinds
import KE.IntBitsLaws
import KE.KRevIter
import KE.KSortKey
import KE.KLam
import KE.KNestM
import KE.KDictList
import PyProof.ConsumeWalk
import PyProof.ZipIter
import PyProof.Rows.Range3
import PyProof.CollectWalk
import PyProof.ListNew
import KE.KDictOf
import PyProof.Rows.SetFrom
import KE.KUnpack
import PyProof.Rows.SortRuns
import KE.KDictSum
import PyProof.FactsAll.set_1
import PyProof.Rows.TupIter
import PySem.Challenge.RW_lidprice_k32_flaws_shown
open PySem.Heap renaming get?_push_of_some → YB, lt_size → YG, get?_push_size → YL, get?_update_self → Yd, SameBut → Yh, get?_update_other → Yq, size_push → ZX, MadeExcOf → Z_, get?_none_of_le → aAi, FlyingW → aAE
open List renaming size_toArray → YC, getElem?_eq_getElem → YF, length_map → YH, mem_singleton → YK, length_append → YQ, append_assoc → YX, getElem?_map → Y7, getElem?_eq_some_iff → Y8, mem_append → Y9, mem_cons_of_mem → Yb, mem_of_getElem? → Yc, mem_cons → Ye, mem_cons_self → Yg, getElem_toArray → Yi, map_append → Yj, getD_eq_getElem?_getD → Yk, mem_append_right → Yl, pairwise_iff_getElem → Yn, mem_iff_getElem → Ys, any_eq_true → Yt, mem_filter → Yu, append_nil → Yy, length_cons → Y_, Perm → ZD, mem_range → ZF, mem_map → ZG, length_take → ZJ, lookup_cons → ZK, all_eq_true → ZL, getElem_mem → ZM, filter_append → ZR, take_length → ZS, replicate → ZZ, length_range → Z2, pairwise_singleton → Z3, nodup_cons → Z4, getElem?_set_self → Z5, map_cons → Z6, filter_cons → Z7, length_filter_le → Z8, getElem?_set_ne → Za, lookup → Zb, pairwise_append → Zc, length_reverse → Zd, length_drop → Ze, not_mem_nil → Zf, eq_nil_of_length_eq_zero → Zg, range → Zh, length_replicate → Zk, perm_append_comm → Zm, take_append_drop → Zn, getElem_drop → Zo, getElem?_append_right → Zr, length_eraseIdx_of_lt → Zu, filterMap_cons → Zw, Pairwise → Zx, mem_filterMap → Zz, getElem_take → aAb, take_of_length_le → aAc, length_pos_of_mem → aAd, getElem?_toArray → aAe, getElem?_eq_none → aAf, any_cons → aAg, mem_append_left → aAj, of_mem_zip → aAm, length_pos_iff → aAn, getElem?_append_left → aAt, take_add_one → aAu, nodup_append → aAv, length_erase_of_mem → aAy, getElem?_replicate → aAz, ext_getElem → aAB, length_eq_zero_iff → aAC, drop_eq_nil_of_le → aAF, pairwise_lt_range → aAG, nil_append → aAI, pairwise_reverse → aAL, drop_drop → aAM, reverse_reverse → aAN, mem_erase_of_ne → aAO, reverse_append → aAQ, contains_cons → aAV, pairwise_cons → aAX, any_eq_false → aAY, take_sublist → aAZ, all_eq_false → aA1, reverse_cons → aA4, length → aA6, length_set → aA8, length_nil → aA9, foldl_cons → aBa, any_append → aBb
open Nat renaming le_refl → YD, lt_of_lt_of_le → YS, ne_of_lt → YW, le_trans → Y5, zero_le → Ym, lt_irrefl → Yz, le_of_lt → ZP, ne_of_gt → ZV, pow_le_pow_right → Z1, lt_of_le_of_lt → Zi, le_succ → Zq, lt_succ_self → Zv, lt_succ_of_lt → aAa, pow_pos → aAl, zero_add → aAp, le_of_eq → aAD, not_lt_zero → aAH, add_le_add_left → aAR, lt_trans → aA3, succ_le_succ → aA5
open Array renaming length_toList → YJ, getElem?_eq_getElem → Yo, toList_append → Yp, getElem_mem → Yv, getElem_toList → Yx, getElem?_toList → ZQ, getElem?_eq_none → Zj, toList_reverse → Zt, toArray_toList → aAk, size_extract → aAr, perm_iff_toList_perm → aAs, mk → aAA, mem_iff_getElem → aAK, append_assoc → aAS, find?_toList → aAU, toList_push → aA2, getD → aBc
open Bool renaming false_ne_true → YM, false_eq_true → YZ, and_eq_true → Y6, eq_iff_iff → Z9, or_eq_true → Zy, true_and → aAh, not_true → aAx, and_eq_false_iff → aAJ, and_eq_true_iff → aAP, not_eq_true' → aA0
open Int renaming emod_lt_of_pos → YT, emod_nonneg → Y4, le_trans → Yr, le_of_lt → Yw, toNat_natCast → ZC, le_refl → Z0, lt_trans → aAo, fdiv_eq_ediv_of_nonneg → aAq, one_mul → aAw, natCast_nonneg → aAT, not_lt → aAW
open Option renaming some → ZW, none → aA7
set_option Elab.async false
set_option linter.all false
set_option maxRecDepth 100000
namespace K32
open PySem PySem.W
abbrev QW:=PySem.Challenge.rw_lidprice_k32_flaws_shown
abbrev Cg:Program:=QW.row.toRowW.prog
theorem Uz:sreFenced Cg.main=true:=by kernel_rfl
theorem U0:((moduleNames Cg.main.body).isEmpty||lookedIntoSs (moduleNames Cg.main.body) Cg.main.body)=true:=by kernel_rfl
theorem VG:namesResolve Cg=true:=by kernel_rfl
theorem Uu:(Cg.boundNames.all fun n=>!worldNames.contains n)=true:=by kernel_rfl
theorem U8:noRoadLSs { strict:=!(importedModules Cg.main.body).all cThrough.contains,foot:=none,bare:=(["vars","dir","locals"]:List Str).filter (readsOut Cg Cg.main.body) } Cg.main.body=true:=by kernel_rfl
theorem Ub:(namesMeet Cg Cg.main.body fun _ n=>attrL n)=true:=by kernel_rfl
theorem Uv:looksOpen Cg=true:=by
 unfold looksOpen;exact look_both (look_both (look_both (look_both (look_both Uz U0) VG) Uu) U8) Ub
theorem Up:QW.row.wellSaid=true:=by
 unfold OpenRow.wellSaid OpenRow.partSaid;rw [Uv]
 kernel_rfl
theorem O7:QW.wellSaid=true:=by
 unfold OpenLaw.wellSaid;rw [Up]
 kernel_rfl
end K32
namespace L2
open PySem PySem.Spec PyProof.Rows
abbrev Key:=Sum Int Str
def Ia:Key →Value →Bool
 | .inl k,v=>Value.isInt k v
 | .inr x,v=>Value.isStrOf x v
def QH (w:World):Key →Int
 | .inl k=>hashInt k
 | .inr x=>hashStr w x
theorem cD:∀ {k:Key}{v:Value},Ia k v=true →(∃ i t,k=Sum.inl i∧v=Value.int i t)∨(∃ x t,k=Sum.inr x∧v=Value.str x t)
 | .inl i,v,h=>by
  obtain ⟨t,e⟩:=Value.isInt_shape (k:=i) (v:=v) h;exact .inl ⟨i,t,rfl,e⟩
 | .inr x,v,h=>by
  obtain ⟨t,e⟩:=Value.isStrOf_shape (x:=x) (v:=v) h;exact .inr ⟨x,t,rfl,e⟩
theorem Ji (a b:Int):decide ((Sum.inl a:Key)=Sum.inl b)=(a==b):=by
 by_cases e:a=b
 ·subst e; simp
 ·have h:¬ (Sum.inl a:Key)=Sum.inl b:=fun q=>e (Sum.inl.inj q);rw [decide_eq_false h];exact (beq_eq_false_iff_ne.mpr e).symm
theorem JD (a b:Str):decide ((Sum.inr a:Key)=Sum.inr b)=decide (a=b):=by
 by_cases e:a=b
 ·subst e; simp
 ·have h:¬ (Sum.inr a:Key)=Sum.inr b:=fun q=>e (Sum.inr.inj q);rw [decide_eq_false h,decide_eq_false e]
theorem Jk (a:Int)(b:Str):decide ((Sum.inl a:Key)=Sum.inr b)=false:=decide_eq_false (fun q=>nomatch q)
theorem JZ (a:Str)(b:Int):decide ((Sum.inr a:Key)=Sum.inl b)=false:=decide_eq_false (fun q=>nomatch q)
def Am (prog:Program)(w:World):PySem.KeyKind prog w Key where
 is:=Ia
 hash:=QH w
 inj:=fun v a b ha hb=>by
  rcases cD ha with ⟨i,t,rfl,rfl⟩ | ⟨x,t,rfl,rfl⟩
  ·rcases cD hb with ⟨j,u,rfl,e⟩ | ⟨y,u,rfl,e⟩
   ·injection e with e1 _; rw [e1]
   ·exact nomatch e
  ·rcases cD hb with ⟨j,u,rfl,e⟩ | ⟨y,u,rfl,e⟩
   ·exact nomatch e
   ·injection e with e1 _; rw [e1]
 byValue:=fun k v h=>by
  rcases cD h with ⟨i,t,rfl,rfl⟩ | ⟨x,t,rfl,rfl⟩ <;> rfl
 pyHash:=fun hv h=>by
  rcases cD hv with ⟨i,t,rfl,rfl⟩ | ⟨x,t,rfl,rfl⟩
  ·exact wpAny_pyHash_int h
  ·exact wpAny_pyHash_str h
 eqBool:=fun hu hv h=>by
  rcases cD hu with ⟨i,t,rfl,rfl⟩ | ⟨x,t,rfl,rfl⟩
  ·rcases cD hv with ⟨j,u,rfl,rfl⟩ | ⟨y,u,rfl,rfl⟩
   ·rw [Ji] at h; exact wpAny_eqBool_int h
   ·rw [Jk] at h; exact SeqAt.EqAt.int_str i t y u _ _ _ _ h
  ·rcases cD hv with ⟨j,u,rfl,rfl⟩ | ⟨y,u,rfl,rfl⟩
   ·rw [JZ] at h; exact SeqAt.EqAt.str_int x t j u _ _ _ _ h
   ·rw [JD] at h; exact wpAny_eqBool_str h
 «strs»:=fun k x t v h=>by
  rcases cD h with ⟨i,u,rfl,e⟩ | ⟨y,u,rfl,e⟩
  ·exact nomatch e
  ·injection e with e1 _
   subst e1;cases v <;> rfl
inductive V where
 | non | bl (b:Bool) | int (i:Int) | str (x:Str) | byt (b:Array UInt8) | flt (b:UInt64) | ref (a:Addr) | ty (n:String)
 deriving DecidableEq
def RelV:V →Value →Prop
 | .non,u=>u=Value.none
 | .bl b,u=>u=Value.bool b
 | .int i,u=>∃ t,u=Value.int i t
 | .str x,u=>∃ t,u=Value.str x t
 | .byt b,u=>∃ t,u=Value.bytes b t
 | .flt b,u=>∃ t,u=Value.float b t
 | .ref a,u=>u=Value.ref a
 | .ty n,u=>u=Value.type n
abbrev bM:List V →List Value →Prop:=Paired RelV
theorem bM.length {xs:List V}{us:List Value}(r:bM xs us):xs.length=us.length:=Paired.length r
theorem bM.get:∀ {xs:List V}{us:List Value}{i:Nat}{x:V},bM xs us →xs[i]? = some x →∃ u,us[i]? = some u∧RelV x u
 | _,_,_,_,.nil,e=>by simp at e
 | _,_,0,_,.cons r _,e=>by simp at e; subst e; exact ⟨_,rfl,r⟩
 | _,_,i+1,x,.cons _ t,e=>by
  obtain ⟨u,h1,h2⟩:=bM.get (i:=i) (x:=x) t (by simpa using e);exact ⟨u,by simpa using h1,h2⟩
theorem bM.set {x:V}{u:Value}(r:RelV x u):∀ {xs:List V}{us:List Value} (i:Nat),bM xs us →bM (xs.set i x) (us.set i u)
 | _,_,_,.nil=>.nil
 | _,_,0,.cons _ t=>.cons r t
 | _,_,i+1,.cons q t=>.cons q (bM.set r i t)
theorem bM.append:∀ {xs ys:List V}{us ws:List Value},bM xs us →bM ys ws →bM (xs++ys) (us++ws)
 | _,_,_,_,.nil,s=>s
 | _,_,_,_,.cons r t,s=>.cons r (bM.append t s)
def mK:Option V →Option Value →Prop
 | some v,some u=>RelV v u
 | none,none=>True
 | _,_=>False
def KV {κ:Type}:List (κ×V) →List (κ×Value) →Prop:=Paired fun (p:κ×V) (q:κ×Value)=>p.1=q.1∧RelV p.2 q.2
def kV:Key →V
 | .inl i=>.int i
 | .inr x=>.str x
inductive HO where
 | lst (xs:List V)
 | tup (xs:List V)
 | dK (kvs:List (Key×V)) | dT (kvs:List (List Key×V))
 | set (S:Int →Bool) (n:Nat)
 | ins (C dx:Addr) (fs:List (Str×V))
 | own (x:Addr)
 | xd (fs:List (Str×V))
 | met (f x:Addr)
 | rng (lo hi:Int)
 | frz (o:Obj) (u:HO)
 | tbl (ps:Array Value)
 | ext (φ:Heap →Prop)
abbrev Hp:=Addr →Option HO
def bQ (H:Hp)(a:Addr)(o:HO):Hp:=fun b=>if b=a then some o else H b
theorem aD {H:Hp}{a:Addr}{o:HO}:bQ H a o a=some o:=by unfold bQ; rw [if_pos rfl]
theorem aP {H:Hp}{a b:Addr}{o:HO}(h:b≠a):bQ H a o b=H b:=by unfold bQ; rw [if_neg h]
theorem Fg {H:Hp}{a b:Addr}{o u:HO}(h:H a=some o)(h':H b=some u)(d:o≠u):a≠b:=by
 intro e; subst e; rw [h] at h'; exact d (ZW.inj h')
theorem bK {H:Hp}{a b:Addr}{o:HO}(h:H a=some o)(h':H b=none):a≠b:=by
 intro e; subst e; rw [h] at h'; cases h'
section
variable (P:Program)(w:World)
def bY (H:Hp)(h:Heap)(a:Addr):HO →Prop
 | .lst xs=>xs.length ≤ sizeLine∧∃ (its:List Value) (n:Nat),bM xs its∧h.get? a=some { cls:=.type "list",data:=.seq its.toArray n }
 | .tup xs=>xs.length ≤ sizeLine∧∃ its:List Value,bM xs its∧IsTup h a its.toArray
 | .dK kvs=>kvs.length ≤ sizeLine∧(a==sysModules)=false∧∃ vs,KV kvs vs∧h.DictOf (Am P w) a vs
 | .dT kvs=>kvs.length ≤ sizeLine∧(a==sysModules)=false∧∃ xs:List (List Key×Addr×Value),
   Paired (fun (p:List Key×V) (q:List Key×Addr×Value)=>p.1=q.1∧H q.2.1=some (.tup (p.1.map kV))∧RelV p.2 q.2.2) kvs xs ∧
   ∃ o es ep,h.get? a=some o∧o.ExactDict∧o.data=.dict es ep∧es.toList=xs.map (entryOfKey (tupleKind (Am P w)))∧(xs.map (·.1)).Nodup
 | .set S n=>h.SetOf (intKind P w) a S n
 | .ins C dx fs=>H dx=some (.own a)∧fs.length ≤ 1000∧dx≠a∧h.get? a=some (PySem.W.instObj C dx) ∧
   ∃ mA,h.Ns1 dx mA∧(∀ f,mK (fs.lookup f) (mA f))∧PySem.Within mA (fs.map (·.1))
 | .own _=>∃ o,h.get? a=some o
 | .xd fs=>∃ mA,h.Ns1 a mA∧∀ f,mK (fs.lookup f) (mA f)
 | .rng lo hi=>∃ t u v,h.get? a=some { cls:=.type "range",data:=.fields #[.int lo t,.int hi u,.int 1 v] }
 | .frz o u=>h.get? a=some o∧bY H h a u
 | .tbl ps=>h.get? a=some { cls:=.none,data:=.fields ps }
 | .met f x=>h.get? a=some (PySem.W.methodObj (.ref f) (.ref x))
 | .ext φ=>φ h∧(∃ o,h.get? a=some o)∧∀ h1 h2:Heap,φ h1 →(∀ o,h1.get? a=some o →h2.get? a=some o) →φ h2
def mQ (H:Hp)(h:Heap):Prop:=∀ a o,H a=some o →bY P w H h a o
end
section
variable {P:Program}{w:World}{H H':Hp}{h h':Heap}{a:Addr}{o:HO}
theorem bY.lt (x:bY P w H h a o):a<h.objs.size:=by
 cases o with
 | lst xs=>obtain ⟨_,_,_,_,e⟩:=x; exact YG e
 | tup xs=>obtain ⟨_,_,_,p⟩:=x; exact p.lt
 | dK kvs=>obtain ⟨_,_,_,_,o,_,_,e,_⟩:=x; exact YG e
 | dT kvs=>obtain ⟨_,_,_,_,o,_,_,e,_⟩:=x; exact YG e
 | set S n=>obtain ⟨o,_,_,_,e,_⟩:=x; exact YG e
 | ins C dx fs=>obtain ⟨_,_,_,e,_⟩:=x; exact YG e
 | own y=>obtain ⟨_,e⟩:=x; exact YG e
 | xd fs=>obtain ⟨_,⟨_,_,_,e,_⟩,_⟩:=x; exact YG e
 | rng lo hi=>obtain ⟨_,_,_,e⟩:=x; exact YG e
 | frz ob u=>obtain ⟨e,_⟩:=x; exact YG e
 | tbl ps=>exact YG (show h.get? a=some _ from x)
 | met f y=>exact YG (show h.get? a=some _ from x)
 | ext φ=>obtain ⟨_,⟨_,e⟩,_⟩:=x; exact YG e
theorem Paired.mapP {α β:Type}{F G:α →β →Prop}:∀ {l₁:List α}{l₂:List β},Paired F l₁ l₂ →(∀ a b,F a b →G a b) →Paired G l₁ l₂
 | _,_,.nil,_=>.nil
 | _,_,.cons r t,f=>.cons (f _ _ r) (Paired.mapP t f)
theorem bY.stay (x:bY P w H h a o)(k:∀ b u,(b=a∨H b=some (.own a)) →h.get? b=some u →h'.get? b=some u)
  (ho:∀ b,H b=some (.own a) →H' b=some (.own a)) (ht:∀ b xs,H b=some (.tup xs) →H' b=some (.tup xs)):bY P w H' h' a o:=by
 induction o with
 | lst xs=>obtain ⟨z,its,n,r,e⟩:=x; exact ⟨z,its,n,r,k _ _ (.inl rfl) e⟩
 | tup xs=>obtain ⟨z,its,r,ob,e,c⟩:=x; exact ⟨z,its,r,ob,k _ _ (.inl rfl) e,c⟩
 | dK kvs=>obtain ⟨z,y,vs,r,ob,es,ep,e,c⟩:=x; exact ⟨z,y,vs,r,ob,es,ep,k _ _ (.inl rfl) e,c⟩
 | dT kvs =>
  obtain ⟨z,y,xs,r,ob,es,ep,e,c⟩:=x;exact ⟨z,y,xs,Paired.mapP r fun p q z=>⟨z.1,ht _ _ z.2.1,z.2.2⟩,ob,es,ep,k _ _ (.inl rfl) e,c⟩
 | set S n=>obtain ⟨ob,es,ep,t,e,c⟩:=x; exact ⟨ob,es,ep,t,k _ _ (.inl rfl) e,c⟩
 | ins C dx fs =>
  obtain ⟨d,z,ne,e,mA,⟨od,es,ep,e2,c⟩,r⟩:=x;exact ⟨ho _ d,z,ne,k _ _ (.inl rfl) e,mA,⟨od,es,ep,k _ _ (.inr d) e2,c⟩,r⟩
 | own y=>obtain ⟨ob,e⟩:=x; exact ⟨ob,k _ _ (.inl rfl) e⟩
 | xd fs=>obtain ⟨mA,⟨od,es,ep,e,c⟩,r⟩:=x; exact ⟨mA,⟨od,es,ep,k _ _ (.inl rfl) e,c⟩,r⟩
 | rng lo hi=>obtain ⟨t,u,v,e⟩:=x; exact ⟨t,u,v,k _ _ (.inl rfl) e⟩
 | frz ob u ih=>obtain ⟨e,q⟩:=x; exact ⟨k _ _ (.inl rfl) e,ih q⟩
 | tbl ps =>
  have e:h.get? a=some { cls:=.none,data:=.fields ps }:=x;show h'.get? a=some { cls:=.none,data:=.fields ps };exact k a _ (.inl rfl) e
 | met f y =>
  have e:h.get? a=some (PySem.W.methodObj (.ref f) (.ref y)):=x;show h'.get? a=some (PySem.W.methodObj (.ref f) (.ref y));exact k a _ (.inl rfl) e
 | ext φ=>obtain ⟨p,⟨o,e⟩,st⟩:=x; exact ⟨st _ _ p fun o q=>k _ _ (.inl rfl) q,⟨o,k _ _ (.inl rfl) e⟩,st⟩
theorem mQ.lt (x:mQ P w H h)(e:H a=some o):a<h.objs.size:=(x a o e).lt
theorem mQ.fresh (x:mQ P w H h)(e:h.objs.size ≤ a):H a=none:=by
 cases q:H a with
 | none=>rfl
 | some u=>exact absurd (YS (x.lt q) e) (Yz _)
theorem mQ.kept (x:mQ P w H h)(k:∀ b u,h.get? b=some u →h'.get? b=some u):mQ P w H h':=fun a o e =>
 (x a o e).stay (fun b u _ q=>k b u q) (fun _ q=>q) fun _ _ q=>q
theorem mQ.laid (x:mQ P w H h)(k:∀ b u,h.get? b=some u →h'.get? b=some u)(hp:h.objs.size ≤ a)(new:bY P w (bQ H a o) h' a o):mQ P w (bQ H a o) h':=fun b u e=>by
 have hn:=x.fresh hp
 by_cases hb:b=a
 ·subst hb; rw [aD] at e; cases e; exact new
 ·rw [aP hb] at e;exact (x b u e).stay (fun c v _ q=>k c v q) (fun c q=>by rw [aP (bK q hn)]; exact q) fun c xs q=>by rw [aP (bK q hn)]; exact q
end
def Rd (H:Hp)(a:Addr)(u:HO):Prop:=H a=some u∨∃ o,H a=some (.frz o u)
theorem Rd.ok {P:Program}{w:World}{H:Hp}{h:Heap}{a:Addr}{u:HO}(r:Rd H a u)(x:mQ P w H h):bY P w H h a u:=by
 rcases r with r | ⟨o,r⟩
 ·exact x a u r
 ·obtain ⟨_,q⟩:=x a _ r;exact q
def Oc:Option HO →Prop
 | some (.lst _)=>True
 | some (.dK _)=>True
 | some (.dT _)=>True
 | some (.set _ _)=>True
 | some (.ins _ _ _)=>True
 | some (.ext _)=>True
 | _=>False
section
variable {P:Program}{w:World}{H:Hp}{h h':Heap}{x e:Addr}{o':HO}
theorem mQ.write (ok:mQ P w H h)(mu:Oc (H x))(he:e=x∨H e=some (.own x))(k:∀ b u,b≠e →h.get? b=some u →h'.get? b=some u)(heo:∃ u,h'.get? e=some u)
  (new:bY P w (bQ H x o') h' x o'):mQ P w (bQ H x o') h':=fun b u q=>by
 have nown:∀ c y,H c=some (.own y) →c≠x:=fun c y r z=>by subst z; rw [r] at mu; exact mu
 have ntup:∀ c xs,H c=some (.tup xs) →c≠x:=fun c xs r z=>by subst z; rw [r] at mu; exact mu
 by_cases hb:b=x
 ·subst hb; rw [aD] at q; cases q; exact new
 ·rw [aP hb] at q
  by_cases hbe:b=e
  ·have q':H b=some (.own x):=by
    rcases he with z | z
    ·exact absurd (hbe.trans z) hb
    ·rw [hbe]; exact z
   rw [q] at q'; cases q';obtain ⟨v,hv⟩:=heo;exact ⟨v,by rw [hbe]; exact hv⟩
  ·refine (ok b u q).stay (fun c v hc r=>k c v ?_ r) (fun c r=>by rw [aP (nown c b r)]; exact r) fun c xs r=>by rw [aP (ntup c xs r)]; exact r
   rcases hc with rfl | hc
   ·exact hbe
   ·rintro rfl;rcases he with z | z
    ·exact nown c b hc z
    ·rw [hc] at z; cases z; exact hb rfl
end
structure Un (fs ex:List Addr)(H H':Hp)(h h':Heap):Prop where
 keep:∀ b o,h.get? b=some o →H b=none →b∉fs →b∉ex →h'.get? b=some o
 slot:∀ b o,h.get? b=some o →H b=none →b∈fs →b∉ex →∃ sl,h'.get? b=some { o with slots:=sl }
 free:∀ b o,h.get? b=some o →H b=none →b∉ex →H' b=none
 there:∀ b o,h.get? b=some o →b∉ex →∃ o',h'.get? b=some o'
 tups:∀ b xs,H b=some (.tup xs) →H' b=some (.tup xs)
 frzs:∀ b o u,H b=some (.frz o u) →H' b=some (.frz o u)
 tbls:∀ b ps,H b=some (.tbl ps) →∃ more,H' b=some (.tbl (ps++more))
section
variable {fs fs' ex ex':List Addr}{H H1 H2:Hp}{h h1 h2 h':Heap}{a x e:Addr}{o:HO}
theorem Un.any (u:Un fs ex H H1 h h1){b:Addr}{ob:Obj}(q:h.get? b=some ob)(n:H b=none)(hx:b∉ex):∃ sl,h1.get? b=some { ob with slots:=sl }:=by
 by_cases hb:b∈fs
 ·exact u.slot b ob q n hb hx
 ·exact ⟨ob.slots,u.keep b ob q n hb hx⟩
theorem Un.trans (a:Un fs ex H H1 h h1)(b:Un fs ex H1 H2 h1 h2):Un fs ex H H2 h h2 where
 keep:=fun c ob q n hc hx=>b.keep c ob (a.keep c ob q n hc hx) (a.free c ob q n hx) hc hx
 slot:=fun c ob q n hc hx=>by
  obtain ⟨sl,e1⟩:=a.slot c ob q n hc hx;obtain ⟨sl',e2⟩:=b.slot c _ e1 (a.free c ob q n hx) hc hx;exact ⟨sl',e2⟩
 free:=fun c ob q n hx=>by
  obtain ⟨o',e1⟩:=a.there c ob q hx;exact b.free c o' e1 (a.free c ob q n hx) hx
 there:=fun c ob q hx=>by
  obtain ⟨o',e1⟩:=a.there c ob q hx;exact b.there c o' e1 hx
 tups:=fun c xs q=>b.tups c xs (a.tups c xs q)
 frzs:=fun c ob xs q=>b.frzs c ob xs (a.frzs c ob xs q)
 tbls:=fun c ps q=>by
  obtain ⟨m1,e1⟩:=a.tbls c ps q;obtain ⟨m2,e2⟩:=b.tbls c _ e1;exact ⟨m1++m2,by rw [e2,aAS]⟩
theorem Un.kept (k:∀ b u,h.get? b=some u →h'.get? b=some u):Un fs ex H H h h' :=
 ⟨fun b ob q _ _ _=>k b ob q,fun b ob q _ _ _=>⟨ob.slots,k b ob q⟩,fun _ _ _ n _=>n,fun b ob q _=>⟨ob,k b ob q⟩,fun _ _ q=>q,fun _ _ _ q=>q,fun _ ps q=>⟨#[],by rw [q]; simp⟩⟩
theorem Un.refl:Un fs ex H H h h:=Un.kept fun _ _ q=>q
theorem Un.laid (k:∀ b u,h.get? b=some u →h'.get? b=some u)(hp:h.objs.size ≤ a)(hn:H a=none):Un fs ex H (bQ H a o) h h' where
 keep:=fun b u q _ _ _=>k b u q
 slot:=fun b u q _ _ _=>⟨u.slots,k b u q⟩
 free:=fun b u q n _=>by rw [aP (YW (YS (YG q) hp))]; exact n
 there:=fun b u q _=>⟨u,k b u q⟩
 tups:=fun b xs q=>by rw [aP (bK q hn)]; exact q
 frzs:=fun b u xs q=>by rw [aP (bK q hn)]; exact q
 tbls:=fun b ps q=>⟨#[],by rw [aP (bK q hn),q]; simp⟩
theorem Un.write (mu:Oc (H x))(he:e=x∨H e=some (.own x))(k:∀ b u,b≠e →h.get? b=some u →h'.get? b=some u)(heo:∃ u,h'.get? e=some u):Un fs ex H (bQ H x o) h h':=by
 have hx:∀ b,H b=none →b≠x:=fun b n z=>by subst z; rw [n] at mu; exact mu
 have hb:∀ b,H b=none →b≠e:=fun b n z=>by
  subst z;rcases he with r | r
  ·exact hx b n r
  ·rw [n] at r; cases r
 have hm:∀ b u,H b=some u →¬ Oc (some u) →b≠x:=fun b u q nm z=>by subst z; rw [q] at mu; exact nm mu
 refine ⟨fun b u q n _ _=>k b u (hb b n) q,fun b u q n _ _=>⟨u.slots,k b u (hb b n) q⟩,fun b u q n _=>by rw [aP (hx b n)]; exact n,fun b u q _=>?_,
  fun b xs q=>by rw [aP (hm b _ q fun z=>z)]; exact q,fun b u xs q=>by rw [aP (hm b _ q fun z=>z)]; exact q,fun b ps q=>⟨#[],by rw [aP (hm b _ q fun z=>z),q]; simp⟩⟩
 by_cases hbe:b=e
 ·subst hbe; exact heo
 ·exact ⟨u,k b u hbe q⟩
end
def Oi (h:Heap)(H:Hp):List Addr:=(Zh h.objs.size).filter fun a=>(H a).isSome
def uA (h:Heap)(H:Hp):Heap:=PySem.W.hideAll h (Oi h H)
theorem CG (h:Heap)(H:Hp):(uA h H).objs.size=h.objs.size:=PySem.W.hideAll_size _ _
theorem DP {h:Heap}{H:Hp}{b:Addr}{o:Obj}(e:h.get? b=some o)(n:H b=none):(uA h H).get? b=some o :=
 PySem.W.hideAll_get _ e fun hm=>by
  have q:(H b).isSome=true:=(Yu.mp hm).2;rw [n] at q; simp at q
theorem Hi {h:Heap}{H:Hp}{b:Addr}{o:Obj}(e:(uA h H).get? b=some o):h.get? b=some o∧H b=none:=by
 have e':h.get? b=some o:=PySem.W.of_hideAll (Oi h H) e;refine ⟨e',?_⟩;cases q:H b with
 | none=>rfl
 | some x =>
  have hm:b∈Oi h H:=Yu.mpr ⟨ZF.mpr (YG e'),by simp [q]⟩;have z:(uA h H).get? b=none:=PySem.W.hideAll_none (Oi h H) hm;rw [z] at e; cases e
def Gj (g h:Heap)(L:Addr):List (Addr×Obj):=(Zh h.objs.size).filterMap fun a=>if a=L∨(g.get? a).isSome=true then none else (h.get? a).map fun o=>(a,o)
def rest (g h:Heap)(L d:Addr):List (Addr×Obj):=(Gj g h L).filter fun p=>decide (p.1≠d)
structure Mod (K:PySem.W.Frag)(mg:Str →Option Value)(base:Heap):Prop where
 kin:K.In base
 glob:base.Ns mainGlobals mg
 blt:∃ mb,base.Ns builtinsNs mb∧∀ x:Str,x≠"__name__" →mb x=bootBuiltins x
 nolimit:base.NoLimit
structure Cx where
 prog:Program
 w:World
 K:PySem.W.Frag
 mg:Str →Option Value
 base:Heap
 A:Around
 N:List Str
 s₀:Shared
 H₀:Hp
 env:Env
 outer:List Env
 stack:List Env
 ex:List Addr
 fn:Str →Bool
 calm:Bool
 pn:List (Addr×Obj)
 xe:Value →Shared →Prop
def iV (l:List Env):List Addr:=l.filterMap (·.frame)
abbrev Cx.fs (X:Cx):List Addr:=iV X.outer
def Pg (sc:Scope)(x:Str):Prop:=sc.names.lookup x=some .local∨sc.names.lookup x=some .cell∨sc.names.lookup x=some .free
def Loc (sc:Scope)(x:Str):Prop:=sc.names.lookup x=some .local∨sc.names.lookup x=some .cell
def Look (env:Env)(h:Heap)(m:Str →Option Value)(x:Str)(u:Value):Prop :=
 (env.kindOf x=some .local∧m x=some u)∨((env.kindOf x=some .cell∨env.kindOf x=some .free)∧∃ c,env.cells.lookup x=some c∧h.IsCell c (some u))
structure Cx.Ok (X:Cx):Prop where
 mod:Mod X.K X.mg X.base
 kind:X.env.scope.kind=.function
 glob:X.env.globals=mainGlobals
 blt:X.env.builtins=builtinsNs
 above:X.s₀.heap.objs.size ≤ X.env.locals
 inj:∀ x y c,X.env.cells.lookup x=some c →X.env.cells.lookup y=some c →x=y
 has:∀ x,(X.env.kindOf x=some .cell∨X.env.kindOf x=some .free) →∃ c,X.env.cells.lookup x=some c
 cab:∀ x c,X.fn x=true →X.env.cells.lookup x=some c →X.s₀.heap.objs.size ≤ c
 hd:X.calm=true →X.A.handled=none
 frames:X.A.frames=some X.stack
 stk:X.stack=X.outer∨(X.stack=X.env::X.outer∧X.env.frame=some X.env.locals)
 exf:∀ b∈X.ex,b≠X.env.locals∧∀ x c,X.env.cells.lookup x=some c →c≠b
 bs:∀ b o,X.base.get? b=some o →X.s₀.heap.get? b=some o∧X.H₀ b=none
 bsz:X.base.objs.size ≤ X.s₀.heap.objs.size
 noex:∀ b o,X.base.get? b=some o →b∉X.ex
 exfs:∀ b∈X.ex,b∉X.fs
 funs:X.s₀.heap.FunFrames X.base X.outer
 frf:∀ b∈X.fs,X.H₀ b=none
structure aU (X:Cx)(pins:List (Addr×Obj))(σ:List (Option V))(H:Hp)(s:Shared):Prop where
 ok:X.Ok
 os:s.os=X.s₀.os
 bare:AllBare s.gens
 base:Un X.fs X.ex X.H₀ H X.s₀.heap s.heap
 loc:∃ m,s.heap.Ns X.env.locals m∧∀ (i:Nat) (x:Str) (v:V),X.N[i]? = some x →σ[i]? = some (some v) →Pg X.env.scope x →∃ u,RelV v u∧Look X.env s.heap m x u
 cell:∀ x c,X.env.cells.lookup x=some c →∃ v,s.heap.IsCell c v
 free:H X.env.locals=none
 freeC:∀ x c,X.env.cells.lookup x=some c →H c=none
 pin:∀ p∈X.pn++pins,s.heap.get? p.1=some p.2∧H p.1=none∧p.1≠X.env.locals∧p.1∉X.fs∧∀ v,p.2.data≠.cell v
 hok:mQ X.prog X.w H s.heap
 len:σ.length=X.N.length
section
variable {X:Cx}{pins:List (Addr×Obj)}{σ:List (Option V)}{H H':Hp}{s:Shared}{h':Heap}
theorem Cx.Ok.nofr (ok:X.Ok){b:Addr}{o:Obj}(e:X.base.get? b=some o):b∉X.fs:=fun hb=>by
 have:=(ok.funs.mem hb).1;rw [e] at this; cases this
theorem aU.bs (I:aU X pins σ H s):∀ b o,X.base.get? b=some o →s.heap.get? b=some o∧H b=none:=fun b o e =>
 ⟨I.base.keep b o (I.ok.bs b o e).1 (I.ok.bs b o e).2 (I.ok.nofr e) (I.ok.noex b o e),I.base.free b o (I.ok.bs b o e).1 (I.ok.bs b o e).2 (I.ok.noex b o e)⟩
theorem aU.bk (I:aU X pins σ H s):∀ b o,X.base.get? b=some o →s.heap.get? b=some o:=fun b o e=>(I.bs b o e).1
theorem aU.mod (I:aU X pins σ H s):Mod X.K X.mg X.base:=I.ok.mod
theorem aU.kIn (I:aU X pins σ H s):X.K.In s.heap:=I.ok.mod.kin.keeps I.bk
theorem aU.lt (I:aU X pins σ H s):X.env.locals<s.heap.objs.size:=let ⟨_,hn,_⟩:=I.loc; hn.lt
theorem aU.sz (I:aU X pins σ H s):X.s₀.heap.objs.size ≤ s.heap.objs.size:=Y5 I.ok.above (ZP I.lt)
theorem aU.nofs (I:aU X pins σ H s){a:Addr}(h:s.heap.objs.size ≤ a):a∉X.fs:=fun hb=>by
 obtain ⟨_,o,ho,_⟩:=I.ok.funs.mem hb;exact absurd (YS (YG ho) (Y5 I.sz h)) (Yz _)
theorem aU.cne (I:aU X pins σ H s):∀ x c,X.env.cells.lookup x=some c →c≠X.env.locals:=fun x c e z=>by
 obtain ⟨v,o,ho,hd⟩:=I.cell x c e;obtain ⟨m,⟨o',es,ep,ho',hd',_⟩,_⟩:=I.loc;rw [z,ho'] at ho; cases ho; rw [hd'] at hd; cases hd
theorem aU.funs (I:aU X pins σ H s):s.heap.FunFrames X.base X.outer:=by
 have all:∀ (l:List Env),(∀ b∈iV l,b∈X.fs) →X.s₀.heap.FunFrames X.base l →s.heap.FunFrames X.base l:=by
  intro l
  induction l with
  | nil=>intro _ _; trivial
  | cons env r ih =>
   intro hs hl;obtain ⟨hk,⟨L,o,hf,hn,ho,hd⟩,hr⟩:=hl;have hL:L∈X.fs:=hs L (by unfold iV; rw [Zw,hf]; exact Yg);obtain ⟨sl,e⟩:=I.base.slot L o ho (I.ok.frf L hL) hL fun z=>I.ok.exfs L z hL;exact ⟨hk,⟨L,_,hf,hn,e,hd⟩,ih (fun b hb=>hs b (by unfold iV; rw [Zw,hf]; exact Yb _ hb)) hr⟩
 exact all X.outer (fun _ hb=>hb) I.ok.funs
theorem aU.stack (I:aU X pins σ H s):s.heap.FunFrames X.base X.stack:=by
 rcases I.ok.stk with e | ⟨e,hf⟩
 ·rw [e]; exact I.funs
 ·rw [e];obtain ⟨m,hn,_⟩:=I.loc;refine .cons (by rw [I.ok.kind]; decide) hf hn ?_ I.funs;exact aAi (Y5 I.ok.bsz I.ok.above)
theorem aU.stkSub (I:aU X pins σ H s):∀ b∈iV X.stack,b∈X.env.locals::X.fs:=fun b hb=>by
 rcases I.ok.stk with e | ⟨e,hf⟩
 ·rw [e] at hb; exact Yb _ hb
 ·rw [e] at hb;unfold iV at hb;rw [Zw,hf] at hb;exact hb
theorem aU.stkFree (I:aU X pins σ H s):∀ b∈iV X.stack,H b=none:=fun b hb=>by
 rcases Ye.mp (I.stkSub b hb) with e | hb
 ·rw [e]; exact I.free
 ·obtain ⟨_,o,ho,_⟩:=I.ok.funs.mem hb;exact I.base.free b o ho (I.ok.frf b hb) fun z=>I.ok.exfs b z hb
theorem aU.step {g':Array GenState}{t':Nat}{d':Drawn}{ch:List Addr}(I:aU X pins σ H s)
  (hch:∀ b∈ch,(b∈X.ex∨X.s₀.heap.objs.size ≤ b)∧b≠X.env.locals∧(∀ x c,X.env.cells.lookup x=some c →c≠b)∧∀ p∈X.pn++pins,p.1≠b)
  (keep:∀ b o,b≠X.env.locals →b∉X.fs →b∉ch →s.heap.get? b=some o →H b=none →h'.get? b=some o)
  (slot:∀ b o,b≠X.env.locals →b∈X.fs →b∉ch →s.heap.get? b=some o →H b=none →∃ sl,h'.get? b=some { o with slots:=sl }) (free:∀ b o,b∉ch →s.heap.get? b=some o →H b=none →H' b=none)
  (there:∀ b o,b∉ch →s.heap.get? b=some o →∃ o',h'.get? b=some o')
  (tups:∀ b xs,H b=some (.tup xs) →H' b=some (.tup xs)) (frzs:∀ b o u,H b=some (.frz o u) →H' b=some (.frz o u)) (tbls:∀ b ps,H b=some (.tbl ps) →∃ more,H' b=some (.tbl (ps++more)))
  (ns:∀ m,s.heap.Ns X.env.locals m →h'.Ns X.env.locals m) (hok:mQ X.prog X.w H' h') (hg:AllBare g') :
  aU X pins σ H' { s with heap:=h',gens:=g',drawn:=d',toks:=t' }:=by
 have neL:∀ b o,X.s₀.heap.get? b=some o →b≠X.env.locals:=fun b o e=>YW (YS (YG e) I.ok.above);have neC:∀ b o,X.s₀.heap.get? b=some o →b∉X.ex →b∉ch:=fun b o e hx hb=>by
  rcases (hch b hb).1 with z | z
  ·exact hx z
  ·exact absurd (YS (YG e) z) (Yz _)
 have cellK:∀ x c,X.env.cells.lookup x=some c →∀ v,s.heap.IsCell c v →h'.IsCell c v:=fun x c e v ⟨o,ho,hd⟩=>by
  have nch:c∉ch:=fun z=>(hch c z).2.2.1 x c e rfl
  by_cases hc:c∈X.fs
  ·obtain ⟨sl,q⟩:=slot c o (I.cne x c e) hc nch ho (I.freeC x c e);exact ⟨_,q,hd⟩
  ·exact ⟨o,keep c o (I.cne x c e) hc nch ho (I.freeC x c e),hd⟩
 refine ⟨I.ok,I.os,hg,⟨fun b o e n hb hx=>?_,fun b o e n hb hx=>?_,fun b o e n hx=>?_,fun b o e hx=>?_,fun b xs e=>tups b xs (I.base.tups b xs e),fun b o xs e=>frzs b o xs (I.base.frzs b o xs e),fun b ps e=>?_⟩,?_,fun x c e=>?_,?_,fun x c e=>?_,fun p hp=>?_,hok,I.len⟩
 ·exact keep b o (neL b o e) hb (neC b o e hx) (I.base.keep b o e n hb hx) (I.base.free b o e n hx)
 ·obtain ⟨sl,e1⟩:=I.base.slot b o e n hb hx;obtain ⟨sl',e2⟩:=slot b _ (neL b o e) hb (neC b o e hx) e1 (I.base.free b o e n hx);exact ⟨sl',e2⟩
 ·obtain ⟨o',e1⟩:=I.base.there b o e hx;exact free b o' (neC b o e hx) e1 (I.base.free b o e n hx)
 ·obtain ⟨o',e1⟩:=I.base.there b o e hx;exact there b o' (neC b o e hx) e1
 ·obtain ⟨m1,e1⟩:=I.base.tbls b ps e;obtain ⟨m2,e2⟩:=tbls b _ e1;exact ⟨m1++m2,by rw [e2,aAS]⟩
 ·obtain ⟨m,hn,hl⟩:=I.loc;refine ⟨m,ns m hn,fun i x v e1 e2 e3=>?_⟩;obtain ⟨u,r,l⟩:=hl i x v e1 e2 e3;refine ⟨u,r,?_⟩;rcases l with l | ⟨k,c,e,z⟩
  ·exact .inl l
  ·exact .inr ⟨k,c,e,cellK x c e _ z⟩
 ·obtain ⟨v,z⟩:=I.cell x c e;exact ⟨v,cellK x c e v z⟩
 ·obtain ⟨m,⟨o,_,_,ho,_⟩,_⟩:=I.loc;exact free _ o (fun z=>(hch _ z).2.1 rfl) ho I.free
 ·obtain ⟨v,o,ho,hd⟩:=I.cell x c e;exact free c o (fun z=>(hch c z).2.2.1 x c e rfl) ho (I.freeC x c e)
 ·obtain ⟨e,n,ne,nf,d⟩:=I.pin p hp;have nch:p.1∉ch:=fun z=>(hch p.1 z).2.2.2 p hp rfl;exact ⟨keep p.1 p.2 ne nf nch e n,free p.1 p.2 nch e n,ne,nf,d⟩
theorem aU.un {t':Nat}(I:aU X pins σ H s)(u:Un X.fs [] H H' s.heap h')(hok:mQ X.prog X.w H' h'):aU X pins σ H' { s with heap:=h',toks:=t' }:=by
 obtain ⟨m,⟨o,es,ep,ho,r⟩,_⟩:=id I.loc;obtain ⟨sl,hL⟩:=u.any ho I.free (by simp);exact I.step (g':=s.gens) (d':=s.drawn) (ch:=[]) (fun _ z=>nomatch z) (fun b o _ hb _ e n=>u.keep b o e n hb (by simp)) (fun b o _ hb _ e n=>u.slot b o e n hb (by simp)) (fun b o _ e n=>u.free b o e n (by simp)) (fun b o _ e=>u.there b o e (by simp)) u.tups u.frzs u.tbls (fun m' hm=>by
  obtain ⟨o',es',ep',ho',r'⟩:=hm;rw [ho] at ho'; cases ho';exact ⟨_,es',ep',hL,r'⟩) hok I.bare
theorem aU.call {g':Array GenState}{t':Nat}{d':Drawn}{ch:List Addr}(I:aU X pins σ H s)(u:Un (iV X.stack) ch H H' s.heap h')(hok:mQ X.prog X.w H' h')(hg:AllBare g')
  (hch:∀ b∈ch,(b∈X.ex∨X.s₀.heap.objs.size ≤ b)∧b≠X.env.locals∧(∀ x c,X.env.cells.lookup x=some c →c≠b)∧∀ p∈X.pn++pins,p.1≠b) :
  aU X pins σ H' { s with heap:=h',gens:=g',drawn:=d',toks:=t' }:=by
 obtain ⟨m,⟨o,es,ep,ho,r⟩,_⟩:=id I.loc;obtain ⟨sl,hL⟩:=u.any ho I.free fun z=>(hch _ z).2.1 rfl;exact I.step (ch:=ch) hch (fun b o hL hb hc e n=>u.keep b o e n (fun z=>(Ye.mp (I.stkSub b z)).elim hL hb) hc) (fun b o _ _ hc e n=>u.any e n hc) (fun b o hc e n=>u.free b o e n hc) (fun b o hc e=>u.there b o e hc) u.tups u.frzs u.tbls (fun m' hm=>by
  obtain ⟨o',es',ep',ho',r'⟩:=hm;rw [ho] at ho'; cases ho';exact ⟨_,es',ep',hL,r'⟩) hok hg
theorem aU.turned {t':Nat}{it:Addr}(I:aU X pins σ H s)(k:∀ b o,b≠it →s.heap.get? b=some o →h'.get? b=some o)(hn:H it=none)(hL:it≠X.env.locals)
  (h1:it∈X.ex∨X.s₀.heap.objs.size ≤ it) (h2:∀ x c,X.env.cells.lookup x=some c →c≠it) (h3:∀ p∈X.pn++pins,p.1≠it):aU X pins σ H { s with heap:=h',toks:=t' }:=by
 have nit:∀ b u,H b=some u →b≠it:=fun b u e z=>by rw [z,hn] at e; cases e
 refine I.step (g':=s.gens) (d':=s.drawn) (ch:=[it]) (fun b hb=>?_) (fun b o _ _ hc e _=>k b o (fun z=>hc (by simp [z])) e) (fun b o _ _ hc e _=>⟨o.slots,k b o (fun z=>hc (by simp [z])) e⟩) (fun _ _ _ _ n=>n)
  (fun b o hc e=>⟨o,k b o (fun z=>hc (by simp [z])) e⟩) (fun _ _ e=>e) (fun _ _ _ e=>e) (fun b ps e=>⟨#[],by rw [e]; simp⟩) (fun m hm=>?_) (fun b u e=>?_) I.bare
 ·have e:b=it:=by simpa using hb
  subst e;exact ⟨h1,hL,h2,h3⟩
 ·obtain ⟨o,es,ep,ho,r⟩:=hm;exact ⟨o,es,ep,k _ o (Ne.symm hL) ho,r⟩
 ·refine (I.hok b u e).stay (fun c v hc q=>k c v ?_ q) (fun _ q=>q) fun _ _ q=>q;rcases hc with z | z
  ·rw [z]; exact nit b u e
  ·exact nit c _ z
theorem aU.tok (I:aU X pins σ H s)(t:Nat):aU X pins σ H { s with toks:=t }:=I.un (h':=s.heap) (t':=t) Un.refl I.hok
theorem aU.kept {t':Nat}(I:aU X pins σ H s)(k:∀ b u,s.heap.get? b=some u →h'.get? b=some u):aU X pins σ H { s with heap:=h',toks:=t' }:=I.un (Un.kept k) (I.hok.kept k)
theorem aU.laid {a:Addr}{o:HO}{t':Nat}(I:aU X pins σ H s)(k:∀ b u,s.heap.get? b=some u →h'.get? b=some u)(hp:s.heap.objs.size ≤ a)(new:bY X.prog X.w (bQ H a o) h' a o) :
  aU X pins σ (bQ H a o) { s with heap:=h',toks:=t' }:=I.un (Un.laid k hp (I.hok.fresh hp)) (I.hok.laid k hp new)
theorem aU.write {x e:Addr}{o:HO}{t':Nat}(I:aU X pins σ H s)(mu:Oc (H x))(he:e=x∨H e=some (.own x))(k:∀ b u,b≠e →s.heap.get? b=some u →h'.get? b=some u)(heo:∃ u,h'.get? e=some u)
  (new:bY X.prog X.w (bQ H x o) h' x o):aU X pins σ (bQ H x o) { s with heap:=h',toks:=t' }:=I.un (Un.write mu he k heo) (I.hok.write mu he k heo new)
theorem aU.pins_of {pins':List (Addr×Obj)}(I:aU X pins σ H s)(h:∀ p∈pins',s.heap.get? p.1=some p.2∧H p.1=none∧p.1≠X.env.locals∧p.1∉X.fs∧∀ v,p.2.data≠.cell v):aU X pins' σ H s :=
 ⟨I.ok,I.os,I.bare,I.base,I.loc,I.cell,I.free,I.freeC,fun p hp=>(Y9.mp hp).elim (fun z=>I.pin p (aAj _ z)) (h p),I.hok,I.len⟩
theorem pW {N:List Str}(hN:N.Nodup){i j:Nat}{x:Str}(a:N[i]? = some x)(b:N[j]? = some x):i=j:=by
 obtain ⟨h1,e1⟩:=Y8.mp a;obtain ⟨h2,e2⟩:=Y8.mp b;exact (List.getElem_inj hN).mp (e1.trans e2.symm)
theorem jL {M:Model}{A:Around}{E:Value →Shared →Prop}{i:Nat}{x:Str}{v:V}{u:Value}{Q:Unit →Shared →Prop}(I:aU X pins σ H s)(hN:X.N.Nodup)(hi:X.N[i]? = some x)(hx:Loc X.env.scope x)(r:RelV v u)
  (h:∀ s',aU X pins (σ.set i (some v)) H s' →(∃ a,Yh a s.heap s'.heap∧(a=X.env.locals∨X.env.cells.lookup x=some a)) →Q () s') (hf:X.fn x=true∨X.env.scope.names.lookup x=some .local:=by first | exact .inl rfl | exact .inr rfl | assumption):wpAny M A (storeName X.env x u) Q E s:=by
 obtain ⟨m,hn,hl⟩:=id I.loc;have hcls:(X.env.scope.kind==.class||(X.env.scope.kind==.module&&X.env.locals != X.env.globals))=false:=by rw [I.ok.kind]; rfl
 have hiσ:i < σ.length:=by rw [I.len]; exact (Y8.mp hi).1
 have cne:=I.cne;have tracked:∀ {a:Addr}{h':Heap},(∃ o,s.heap.get? a=some o∧H a=none) →Yh a s.heap h' →mQ X.prog X.w H h':=fun {a h'} ha hs b ob e=>by
  obtain ⟨_,_,hfree⟩:=ha;refine (I.hok b ob e).stay (fun c w' hc q=>(hs.2 c ?_).trans q) (fun _ q=>q) fun _ _ q=>q;rintro rfl;rcases hc with rfl | hc
  ·rw [hfree] at e; cases e
  ·rw [hfree] at hc; cases hc
 rcases hx with hk | hk
 ·refine wpAny_storeName_local hk hn (fun h' hn' hs=>?_) hcls;obtain ⟨oL,_,_,hoL,_⟩:=id hn;refine h _ ⟨I.ok,I.os,I.bare,⟨fun b o e n hb hx=>?_,fun b o e n hb hx=>?_,I.base.free,fun b o e hx=>?_,I.base.tups,I.base.frzs,I.base.tbls⟩,⟨_,hn',fun j y v' e1 e2 e3=>?_⟩,fun y c e=>?_,I.free,I.freeC,fun p hp=>?_,tracked ⟨oL,hoL,I.free⟩ hs,by simpa using I.len⟩ ⟨_,hs,.inl rfl⟩
  ·exact (hs.2 b (YW (YS (YG e) I.ok.above))).trans (I.base.keep b o e n hb hx)
  ·obtain ⟨sl,e1⟩:=I.base.slot b o e n hb hx;exact ⟨sl,(hs.2 b (YW (YS (YG e) I.ok.above))).trans e1⟩
  ·obtain ⟨o',e1⟩:=I.base.there b o e hx;exact ⟨o',(hs.2 b (YW (YS (YG e) I.ok.above))).trans e1⟩
  ·by_cases hj:j=i
   ·subst hj;rw [hi] at e1; cases e1;rw [Z5 hiσ] at e2;cases e2;exact ⟨u,r,.inl ⟨hk,by simp⟩⟩
   ·rw [Za (Ne.symm hj)] at e2;obtain ⟨u',r',q⟩:=hl j y v' e1 e2 e3;refine ⟨u',r',?_⟩;rcases q with ⟨k,e⟩ | ⟨k,c,e,z⟩
    ·refine .inl ⟨k,?_⟩;have:y≠x:=fun e=>hj (pW hN e1 (e ▸ hi));simp [this,e]
    ·exact .inr ⟨k,c,e,z.sameBut hs (cne y c e)⟩
  ·obtain ⟨w',z⟩:=I.cell y c e;exact ⟨w',z.sameBut hs (cne y c e)⟩
  ·obtain ⟨e,n,ne,nf,d⟩:=I.pin p hp;exact ⟨(hs.2 p.1 ne).trans e,n,ne,nf,d⟩
 ·have hfn:X.fn x=true:=by
   rcases hf with z | z
   ·exact z
   ·rw [z] at hk; cases hk
  obtain ⟨c,hc⟩:=I.ok.has x (.inl hk);obtain ⟨w',z⟩:=I.cell x c hc;refine wpAny_storeName_cell I.ok.kind hk hc z (fun h' hc' hs=>?_);obtain ⟨oc,hoc,hocd⟩:=id z;refine h { s with heap:=h' } ⟨I.ok,I.os,I.bare,⟨fun b o e n hb hx=>?_,fun b o e n hb hx=>?_,I.base.free,fun b o e hx=>?_,I.base.tups,I.base.frzs,I.base.tbls⟩,⟨m,hn.sameBut hs (Ne.symm (cne x c hc)),fun j y v' e1 e2 e3=>?_⟩,fun y c' e=>?_,I.free,I.freeC,fun p hp=>?_,tracked ⟨oc,hoc,I.freeC x c hc⟩ hs,by simpa using I.len⟩ ⟨c,hs,.inr hc⟩
  ·exact (hs.2 b (YW (YS (YG e) (I.ok.cab x c hfn hc)))).trans (I.base.keep b o e n hb hx)
  ·obtain ⟨sl,e1⟩:=I.base.slot b o e n hb hx;exact ⟨sl,(hs.2 b (YW (YS (YG e) (I.ok.cab x c hfn hc)))).trans e1⟩
  ·obtain ⟨o',e1⟩:=I.base.there b o e hx;exact ⟨o',(hs.2 b (YW (YS (YG e) (I.ok.cab x c hfn hc)))).trans e1⟩
  ·by_cases hj:j=i
   ·subst hj;rw [hi] at e1; cases e1;rw [Z5 hiσ] at e2;cases e2;exact ⟨u,r,.inr ⟨.inl hk,c,hc,hc'⟩⟩
   ·rw [Za (Ne.symm hj)] at e2;obtain ⟨u',r',q⟩:=hl j y v' e1 e2 e3;refine ⟨u',r',?_⟩;rcases q with q | ⟨k,c',e,z'⟩
    ·exact .inl q
    ·refine .inr ⟨k,c',e,z'.sameBut hs ?_⟩;rintro rfl;exact hj (pW hN e1 (I.ok.inj _ _ _ e hc ▸ hi))
  ·by_cases hcc:c'=c
   ·subst hcc; exact ⟨_,hc'⟩
   ·obtain ⟨w2,z2⟩:=I.cell y c' e;exact ⟨w2,z2.sameBut hs hcc⟩
  ·obtain ⟨e,n,ne,nf,d⟩:=I.pin p hp;refine ⟨(hs.2 p.1 ?_).trans e,n,ne,nf,d⟩;intro q;rw [q,hoc] at e;have q':oc=p.2:=ZW.inj e;exact d w' (by rw [← q']; exact hocd)
theorem xG {M:Model}{A:Around}{E:Value →Shared →Prop}{i:Nat}{x:Str}{v:V}{u:Value}{Q:Unit →Shared →Prop}(I:aU X pins σ H s)(hN:X.N.Nodup)(hi:X.N[i]? = some x)(hx:Loc X.env.scope x)(r:RelV v u)
  (h:∀ s',aU X pins (σ.set i (some v)) H s' →Q () s') (hf:X.fn x=true∨X.env.scope.names.lookup x=some .local:=by first | exact .inl rfl | exact .inr rfl | assumption):wpAny M A (storeName X.env x u) Q E s :=
 jL I hN hi hx r (fun s' I' _=>h s' I') hf
theorem aU.call' {s':Shared}{ch:List Addr}(I:aU X pins σ H s)(ho:s'.os=s.os)(u:Un (iV X.stack) ch H H' s.heap s'.heap)(hok:mQ X.prog X.w H' s'.heap)(hg:AllBare s'.gens)
  (hch:∀ b∈ch,(b∈X.ex∨X.s₀.heap.objs.size ≤ b)∧b≠X.env.locals∧(∀ x c,X.env.cells.lookup x=some c →c≠b)∧∀ p∈X.pn++pins,p.1≠b):aU X pins σ H' s':=by
 obtain ⟨h',g',d',t',o'⟩:=s';have e:o'=s.os:=ho;subst e;exact I.call (g':=g') (t':=t') (d':=d') u hok hg hch
end
abbrev XK:=Value →Option Addr →Hp →Prop
abbrev St:=List (Option V)
abbrev VK:=V →Hp →Prop
abbrev TE:=St →Hp →VK →Prop
abbrev TT:=St →Hp →(Bool →Hp →Prop) →Prop
abbrev TA:=St →Hp →(List V →Hp →Prop) →Prop
structure Ends where
 nx:St →Hp →Prop
 rt:VK
 bk:St →Hp →Prop:=fun _ _=>False
 ct:St →Hp →Prop:=fun _ _=>False
abbrev TS:=Ends →St →Hp →Prop
def EP (X:Cx)(pins:List (Addr×Obj))(σ:St)(Q:VK)(u:Value)(s':Shared):Prop:=∃ v H',aU X pins σ H' s'∧RelV v u∧Q v H'
def TP (X:Cx)(pins:List (Addr×Obj))(σ:St)(Q:Bool →Hp →Prop)(b:Bool)(s':Shared):Prop:=∃ H',aU X pins σ H' s'∧Q b H'
def AP (X:Cx)(pins:List (Addr×Obj))(σ:St)(Q:List V →Hp →Prop)(us:List Value)(s':Shared):Prop:=∃ vs H',aU X pins σ H' s'∧bM vs us∧Q vs H'
def SP (X:Cx)(pins:List (Addr×Obj))(D:Ends)(f:Flow)(s':Shared):Prop :=
 match f with
 | .next=>∃ σ' H',aU X pins σ' H' s'∧D.nx σ' H'
 | .brk=>∃ σ' H',aU X pins σ' H' s'∧D.bk σ' H'
 | .cont=>∃ σ' H',aU X pins σ' H' s'∧D.ct σ' H'
 | .ret u=>∃ v σ' H',aU X pins σ' H' s'∧RelV v u∧D.rt v H'
def PE (X:Cx)(e:Expr)(t:TE):Prop :=
 ∀ (pins:List (Addr×Obj)) (s:Shared) (σ:St) (H:Hp) (Q:VK),aU X pins σ H s →t σ H Q →wpAny (model X.prog X.w) X.A (eval e X.env) (EP X pins σ Q) X.xe s
def PT (X:Cx)(e:Expr)(t:TT):Prop :=
 ∀ (pins:List (Addr×Obj)) (s:Shared) (σ:St) (H:Hp) (Q:Bool →Hp →Prop),aU X pins σ H s →t σ H Q →wpAny (model X.prog X.w) X.A (isTrue e X.env (eval e X.env)) (TP X pins σ Q) X.xe s
def PW (X:Cx)(e:Expr)(t:TT):Prop :=
 ∀ (whole:Sem Value) (pins:List (Addr×Obj)) (s:Shared) (σ:St) (H:Hp) (Q:Bool →Hp →Prop),aU X pins σ H s →t σ H Q →wpAny (model X.prog X.w) X.A (isTrue e X.env whole) (TP X pins σ Q) X.xe s
theorem PW.pt {X:Cx}{e:Expr}{t:TT}(h:PW X e t):PT X e t:=h _
def PA (X:Cx)(es:List Expr)(t:TA):Prop :=
 ∀ (pos:Pos) (pins:List (Addr×Obj)) (s:Shared) (σ:St) (H:Hp) (Q:List V →Hp →Prop),aU X pins σ H s →t σ H Q →wpAny (model X.prog X.w) X.A (spliced (backTo pos (starEach es X.env))) (AP X pins σ Q) X.xe s
def PS (X:Cx)(st:Stmt)(t:TS):Prop :=
 ∀ (pins:List (Addr×Obj)) (s:Shared) (σ:St) (H:Hp) (D:Ends),aU X pins σ H s →t D σ H →wpAny (model X.prog X.w) X.A (exec st X.env) (SP X pins D) X.xe s
def vK (X:Cx)(st:List Stmt)(t:TS):Prop :=
 ∀ (pins:List (Addr×Obj)) (s:Shared) (σ:St) (H:Hp) (D:Ends),aU X pins σ H s →t D σ H →wpAny (model X.prog X.w) X.A (execs st X.env) (SP X pins D) X.xe s
theorem cN {α:Type}{t:Sem α}{Q Q':α →Shared →Prop}{M:Model}{A:Around}{E:Value →Shared →Prop}{s:Shared}(h:wpAny M A t Q E s)(hQ:∀ a s,Q a s →Q' a s):wpAny M A t Q' E s:=wpAny_mono h hQ fun _ _ x=>x
section
variable {X:Cx}
theorem V7 {a b:Expr}{ta tb:TE}(ha:PE X a ta)(hb:PE X b tb){pins:List (Addr×Obj)}{s:Shared}{σ:St}{H:Hp}{R:V →V →Hp →Prop}(I:aU X pins σ H s)(h:ta σ H fun x H1=>tb σ H1 fun y H2=>R x y H2)
  {α:Type}{Q:α →Shared →Prop}{f:Value →Value →Sem α}
  (hf:∀ v u s2 x y H2,aU X pins σ H2 s2 →RelV x v →RelV y u →R x y H2 →wpAny (model X.prog X.w) X.A (f v u) Q X.xe s2) :
  wpAny (model X.prog X.w) X.A (eval a X.env) (fun v s₁=>wpAny (model X.prog X.w) X.A (eval b X.env) (fun u s₂=>wpAny (model X.prog X.w) X.A (f v u) Q X.xe s₂) X.xe s₁) X.xe s:=by
 refine cN (ha pins s σ H _ I h) fun v s1 ⟨x,H1,I1,r1,q1⟩=>?_;refine cN (hb pins s1 σ H1 _ I1 q1) fun u s2 ⟨y,H2,I2,r2,q2⟩=>?_;exact hf v u s2 x y H2 I2 r1 r2 q2
def Kf (i:Nat):TE:=fun σ H Q=>∃ v,σ[i]? = some (some v)∧Q v H
def tC (v:V):TE:=fun _ H Q=>Q v H
theorem J4 {i:Nat}{x:Str}{pos:Pos}(hN:X.N[i]? = some x)(hv:Pg X.env.scope x)(hd:(x==("__debug__" : Str))=false:=by decide)(hcd:(x==("__classdict__" : Str))=false:=by decide):PE X (.Name x pos) (Kf i):=by
 intro pins s σ H Q I h;obtain ⟨v,e,h⟩:=h;obtain ⟨m,hn,hl⟩:=I.loc;obtain ⟨u,r,l⟩:=hl i x v hN e hv;have fin:EP X pins σ Q u s:=⟨v,H,I,r,h⟩
 rcases l with ⟨hk,hm⟩ | ⟨hk,c,hc,hcell⟩
 ·exact wpAny_Name (wpAny_loadName_local I.ok.kind hk hn hm fin) hd
 ·rcases hk with hk | hk
  ·exact wpAny_Name (wpAny_loadName_cell I.ok.kind hk hc hcell fin) hd
  ·exact wpAny_Name (wpAny_loadName_free I.ok.kind hk hc hcell fin hcd) hd
theorem aC {i j pos}:PE X (.Constant (.int i) j pos) (tC (.int i)):=fun _ _ _ H _ I h=>wpAny_Constant_int ⟨.int i,H,I.tok _,⟨_,rfl⟩,h⟩
theorem dF {b j pos}:PE X (.Constant (.bool b) j pos) (tC (.bl b)):=fun _ _ _ H _ I h=>Constant_bool ⟨.bl b,H,I,rfl,h⟩
theorem iI {j pos}:PE X (.Constant .none j pos) (tC .non):=fun _ _ _ H _ I h=>Constant_none ⟨.non,H,I,rfl,h⟩
theorem d7 {x j pos}:PE X (.Constant (.str x) j pos) (tC (.str x)):=fun _ _ _ H _ I h=>Calls.Constant_str ⟨.str x,H,I.tok _,⟨_,rfl⟩,h⟩
def Gl (X:Cx)(x:Str):Prop:=X.env.kindOf x=some .globalImplicit
theorem gY {E:Value →Shared →Prop}{pins:List (Addr×Obj)}{s:Shared}{σ:St}{H:Hp}{x:Str}{u:Value}{pos:Pos}{Q:Value →Shared →Prop}(I:aU X pins σ H s)(hg:Gl X x)(hm:X.mg x=some u)(h:Q u s)
  (hd:(x==("__debug__" : Str))=false:=by decide):wpAny (model X.prog X.w) X.A (eval (.Name x pos) X.env) Q E s :=
 Calls.Name_function_global I.ok.kind hg (Calls.loadGlobal_global (by rw [I.ok.glob]; exact I.mod.glob.keeps I.bk) hm h) hd
theorem mU {E:Value →Shared →Prop}{pins:List (Addr×Obj)}{s:Shared}{σ:St}{H:Hp}{x:Str}{u:Value}{pos:Pos}{Q:Value →Shared →Prop}(I:aU X pins σ H s)(hg:Gl X x)(hm:X.mg x=none)(hv:bootBuiltins x=some u)(h:Q u s)
  (hn:x≠"__name__":=by decide) (hd:(x==("__debug__" : Str))=false:=by decide):wpAny (model X.prog X.w) X.A (eval (.Name x pos) X.env) Q E s:=by
 obtain ⟨mb,h1,h2⟩:=I.mod.blt;exact Calls.Name_function_global I.ok.kind hg (Calls.loadGlobal_builtin (by rw [I.ok.glob]; exact I.mod.glob.keeps I.bk) hm (by rw [I.ok.blt]; exact h1.keeps I.bk) ((h2 x hn).trans hv) h) hd
theorem cV {x:Str}{v:V}{u:Value}{pos:Pos}(hg:Gl X x)(hm:X.mg x=some u)(r:RelV v u)(hd:(x==("__debug__" : Str))=false:=by decide):PE X (.Name x pos) (tC v) :=
 fun _ _ _ H _ I h=>gY I hg hm ⟨v,H,I,r,h⟩ hd
theorem gU {x:Str}{v:V}{u:Value}{pos:Pos}(hg:Gl X x)(hm:X.mg x=none)(hv:bootBuiltins x=some u)(r:RelV v u)(hn:x≠"__name__":=by decide)(hd:(x==("__debug__" : Str))=false:=by decide):PE X (.Name x pos) (tC v) :=
 fun _ _ _ H _ I h=>mU I hg hm hv ⟨v,H,I,r,h⟩ hn hd
variable {a b:Expr}{ta tb:TE}{pos:Pos}
def PC (X:Cx)(op:CmpOp)(a b:Expr)(t:TE):Prop :=
 ∀ (pins:List (Addr×Obj)) (s:Shared) (σ:St) (H:Hp) (Q:VK),aU X pins σ H s →t σ H Q →
  wpAny (model X.prog X.w) X.A (eval a X.env) (fun v s₁=>wpAny (model X.prog X.w) X.A (eval b X.env) (fun u s₂=>wpAny (model X.prog X.w) X.A (compareOp op v u) (EP X pins σ Q) X.xe s₂) X.xe s₁) X.xe s
theorem Fo (b:Expr){op:CmpOp}(h:op≠.In)(h2:op≠.NotIn):behindInMarks op b=false:=by
 have e1:(op==CmpOp.In)=false:=by cases op <;> first | rfl | exact absurd rfl h
 have e2:(op==CmpOp.NotIn)=false:=by cases op <;> first | rfl | exact absurd rfl h2
 cases b <;> simp [behindInMarks,e1,e2]
def tB (t:TE):TT:=fun σ H Q=>t σ H fun x H1=>∃ c,x=.bl c∧Q c H1
theorem RV {op:CmpOp}{t:TE}(h:PC X op a b t)(h1:behindInMarks op b=false:=by first | exact Fo _ (by decide) (by decide) | rfl):PT X (.Compare a [op] [b] pos) (tB t):=by
 intro pins s σ H Q I hw;refine wpAny_isTrue_Compare1 (cN (h pins s σ H _ I hw) fun v s1 h1=>cN h1 fun u s2 h2=>cN h2 fun c s3 ⟨x,H1,I1,r1,q1⟩=>?_) h1;obtain ⟨d,rfl,q⟩:=q1;cases r1;exact wpAny_truthy_bool ⟨H1,I1,q⟩
theorem bV {e:Expr}{t:TE}(h:PE X e t)(he:∀ whole,isTrue e X.env whole=(do let v ← whole; standAt e.pos; holding [v] (truthy v)):=by intro _; rfl):PT X e (tB t):=by
 intro pins s σ H Q I hw;refine isTrue_plain (cN (h pins s σ H _ I hw) fun v s1 ⟨x,H1,I1,r1,q1⟩=>?_) (he _);obtain ⟨d,rfl,q⟩:=q1;cases r1;exact wpAny_truthy_bool ⟨H1,I1,q⟩
variable {tA tB':TT}{rest:List Expr}
def Ru (t u:TT):TT:=fun σ H Q=>t σ H fun c H1=>if c=true then u σ H1 Q else Q false H1
def U3 (t u:TT):TT:=fun σ H Q=>t σ H fun c H1=>if c=true then Q true H1 else u σ H1 Q
def Qx (t:TT):TT:=fun σ H Q=>t σ H fun c H1=>Q (!c) H1
theorem jN (ha:PT X a tA):PW X (.BoolOp .And [a] pos) tA:=by
 intro wh pins s σ H Q I h;refine isTrue_and (cN (ha pins s σ H Q I h) fun c s1 e=>?_);cases c with
 | true=>exact isTrue_and_nil e
 | false=>exact e
theorem iD (ha:PT X a tA):PW X (.BoolOp .Or [a] pos) tA:=by
 intro wh pins s σ H Q I h;refine isTrue_or (cN (ha pins s σ H Q I h) fun c s1 e=>?_);cases c with
 | false=>exact isTrue_or_nil e
 | true=>exact e
theorem lC (ha:PT X a tA)(hb:PW X (.BoolOp .And (b::rest) pos) tB'):PW X (.BoolOp .And (a::b::rest) pos) (Ru tA tB'):=by
 intro wh pins s σ H Q I h;refine isTrue_and (cN (ha pins s σ H _ I h) fun c s1 ⟨H1,I1,q1⟩=>?_);cases c with
 | true=>exact hb wh pins s1 σ H1 Q I1 q1
 | false=>exact ⟨H1,I1,q1⟩
theorem gO (ha:PT X a tA)(hb:PW X (.BoolOp .Or (b::rest) pos) tB'):PW X (.BoolOp .Or (a::b::rest) pos) (U3 tA tB'):=by
 intro wh pins s σ H Q I h;refine isTrue_or (cN (ha pins s σ H _ I h) fun c s1 ⟨H1,I1,q1⟩=>?_);cases c with
 | true=>exact ⟨H1,I1,q1⟩
 | false=>exact hb wh pins s1 σ H1 Q I1 q1
theorem cP (ha:PT X a tA):PT X (.UnaryOp .Not a pos) (Qx tA):=by
 intro pins s σ H Q I h;exact isTrue_not (ha pins s σ H (fun c H1=>Q (!c) H1) I h)
def Mu (ta tb:TE):TE:=fun σ H Q=>ta σ H fun x H1=>∃ c,x=.bl c∧if c=true then tb σ H1 Q else Q (.bl false) H1
def S9 (ta tb:TE):TE:=fun σ H Q=>ta σ H fun x H1=>∃ c,x=.bl c∧if c=true then Q (.bl true) H1 else tb σ H1 Q
def M7 (ta:TE):TE:=fun σ H Q=>ta σ H fun x H1=>∃ c,x=.bl c∧Q (.bl (!c)) H1
theorem m7 {op}{t:TE}(h:PE X a t):PE X (.BoolOp op [a] pos) t:=fun pins s σ H Q I hw=>BoolOp_one (h pins s σ H Q I hw)
theorem lE (ha:PE X a ta)(hb:PE X (.BoolOp .And (b::rest) pos) tb):PE X (.BoolOp .And (a::b::rest) pos) (Mu ta tb):=by
 intro pins s σ H Q I h;refine BoolOp_and (cN (ha pins s σ H _ I h) fun v s1 ⟨x,H1,I1,r1,q1⟩=>?_);obtain ⟨c,rfl,q1⟩:=q1;cases r1;refine wpAny_truthy_bool ?_;cases c with
 | true=>exact hb pins s1 σ H1 Q I1 q1
 | false=>exact ⟨.bl false,H1,I1,rfl,q1⟩
theorem Ff (ha:PE X a ta)(hb:PE X (.BoolOp .Or (b::rest) pos) tb):PE X (.BoolOp .Or (a::b::rest) pos) (S9 ta tb):=by
 intro pins s σ H Q I h;refine BoolOp_or (cN (ha pins s σ H _ I h) fun v s1 ⟨x,H1,I1,r1,q1⟩=>?_);obtain ⟨c,rfl,q1⟩:=q1;cases r1;refine wpAny_truthy_bool ?_;cases c with
 | false=>exact hb pins s1 σ H1 Q I1 q1
 | true=>exact ⟨.bl true,H1,I1,rfl,q1⟩
theorem xW (ha:PE X a ta):PE X (.UnaryOp .Not a pos) (M7 ta):=by
 intro pins s σ H Q I h;refine UnaryOp_ (cN (ha pins s σ H _ I h) fun v s1 ⟨x,H1,I1,r1,q1⟩=>?_);obtain ⟨c,rfl,q1⟩:=q1;cases r1;exact not_of (wpAny_truthy_bool ⟨.bl (!c),H1,I1,rfl,q1⟩)
def Um (t:TT)(ta tb:TE):TE:=fun σ H Q=>t σ H fun c H1=>if c=true then ta σ H1 Q else tb σ H1 Q
theorem FQ {c:Expr}(hc:PT X c tA)(ha:PE X a ta)(hb:PE X b tb):PE X (.IfExp c a b pos) (Um tA ta tb):=by
 intro pins s σ H Q I h;refine wpAny_IfExp (cN (hc pins s σ H _ I h) fun d s1 ⟨H1,I1,q1⟩=>?_);cases d with
 | true=>exact ha pins s1 σ H1 Q I1 q1
 | false=>exact hb pins s1 σ H1 Q I1 q1
end
def bL (K:PySem.W.Frag)(H:Hp)(a:Addr)(xs:List V):Prop :=
 Rd H a (.lst xs) ∨
  ∃ (o:Obj) (its:Array Value) (n:Nat),K.lookup a=some o∧o.cls=.type "list"∧o.dict=none∧o.data=.seq its n∧its.size ≤ sizeLine∧bM xs its.toList
def dG (K:PySem.W.Frag)(H:Hp)(a:Addr)(xs:List V):Prop :=
 Rd H a (.tup xs) ∨
  ∃ (o:Obj) (its:Array Value) (n:Nat),K.lookup a=some o∧o.cls=.type "tuple"∧o.data=.seq its n∧its.size ≤ sizeLine∧bM xs its.toList
def Rx:Value →Option V
 | .none=>some .non
 | .bool b=>some (.bl b)
 | .int i _=>some (.int i)
 | .str x _=>some (.str x)
 | .bytes b _=>some (.byt b)
 | .float b _=>some (.flt b)
 | .ref a=>some (.ref a)
 | .type n=>some (.ty n)
 | _=>none
theorem RelV.abs {x:V}{u:Value}(r:RelV x u):Rx u=some x:=by
 cases x with
 | non=>cases r; rfl
 | bl _=>cases r; rfl
 | int _=>obtain ⟨t,rfl⟩:=r; rfl
 | str _=>obtain ⟨t,rfl⟩:=r; rfl
 | byt _=>obtain ⟨t,rfl⟩:=r; rfl
 | flt _=>obtain ⟨t,rfl⟩:=r; rfl
 | ref _=>cases r; rfl
 | ty _=>cases r; rfl
theorem RelV.inj {x y:V}{u:Value}(r:RelV x u)(q:RelV y u):x=y:=ZW.inj (r.abs.symm.trans q.abs)
theorem bM.inj:∀ {xs ys:List V}{us:List Value},bM xs us →bM ys us →xs=ys
 | _,_,_,.nil,.nil=>rfl
 | _,_,_,.cons r t,.cons r' t'=>by rw [r.inj r',bM.inj t t']
section
variable {X:Cx}{pins:List (Addr×Obj)}{σ:St}{H:Hp}{s:Shared}{a:Addr}{xs ys:List V}
theorem bL.of {K:PySem.W.Frag}(h:H a=some (.lst xs)):bL K H a xs:=.inl (.inl h)
theorem dG.of {K:PySem.W.Frag}(h:H a=some (.tup xs)):dG K H a xs:=.inl (.inl h)
theorem aU.list (I:aU X pins σ H s)(h:bL X.K H a xs):∃ its:List Value,bM xs its∧PlainL s.heap a its.toArray∧xs.length ≤ sizeLine:=by
 rcases h with h | ⟨o,its,n,hk,hc,hd,hs,hz,r⟩
 ·obtain ⟨z,its,n,r,e⟩:=h.ok I.hok;exact ⟨its,r,⟨_,n,e,rfl,rfl,rfl⟩,z⟩
 ·refine ⟨its.toList,r,⟨o,n,I.kIn a o hk,hc,hd,by simpa using hs⟩,?_⟩;have e:=r.length;simp only [YJ] at e;omega
theorem aU.tuple (I:aU X pins σ H s)(h:dG X.K H a xs):∃ its:List Value,bM xs its∧IsTup s.heap a its.toArray∧xs.length ≤ sizeLine:=by
 rcases h with h | ⟨o,its,n,hk,hc,hs,hz,r⟩
 ·obtain ⟨z,its,r,p⟩:=h.ok I.hok;exact ⟨its,r,p,z⟩
 ·refine ⟨its.toList,r,⟨o,I.kIn a o hk,hc,n,by simpa using hs⟩,?_⟩;have e:=r.length;simp only [YJ] at e;omega
theorem aU.list_inj (I:aU X pins σ H s)(h:bL X.K H a xs)(h':bL X.K H a ys):xs=ys:=by
 obtain ⟨its,r,⟨o,n,e,_,_,d⟩,_⟩:=I.list h;obtain ⟨its',r',⟨o',n',e',_,_,d'⟩,_⟩:=I.list h';rw [e] at e'; cases e';rw [d] at d';injection d' with d1 _
 have:its=its':=by simpa using congrArg Array.toList d1
 subst this;exact r.inj r'
theorem aU.tuple_inj (I:aU X pins σ H s)(h:dG X.K H a xs)(h':dG X.K H a ys):xs=ys:=by
 obtain ⟨its,r,⟨o,e,_,n,d⟩,_⟩:=I.tuple h;obtain ⟨its',r',⟨o',e',_,n',d'⟩,_⟩:=I.tuple h';rw [e] at e'; cases e';rw [d] at d';injection d' with d1 _
 have:its=its':=by simpa using congrArg Array.toList d1
 subst this;exact r.inj r'
end
abbrev Cx.wish (X:Cx)(E:Value →Shared →Prop):Cx:={ X with xe:=E }
abbrev Cx.nox (X:Cx):Cx:=X.wish fun _ _=>False
theorem Cx.Ok.wish {X:Cx}(ok:X.Ok)(E:Value →Shared →Prop):(X.wish E).Ok :=
 ⟨ok.mod,ok.kind,ok.glob,ok.blt,ok.above,ok.inj,ok.has,ok.cab,ok.hd,ok.frames,ok.stk,ok.exf,ok.bs,ok.bsz,ok.noex,ok.exfs,ok.funs,ok.frf⟩
theorem Cx.Ok.unwish {X:Cx}{E:Value →Shared →Prop}(ok:(X.wish E).Ok):X.Ok :=
 ⟨ok.mod,ok.kind,ok.glob,ok.blt,ok.above,ok.inj,ok.has,ok.cab,ok.hd,ok.frames,ok.stk,ok.exf,ok.bs,ok.bsz,ok.noex,ok.exfs,ok.funs,ok.frf⟩
section
variable {X:Cx}{pins:List (Addr×Obj)}{σ:St}{H:Hp}{s:Shared}{E:Value →Shared →Prop}
theorem aU.wish (I:aU X pins σ H s)(E:Value →Shared →Prop):aU (X.wish E) pins σ H s:=⟨I.ok.wish E,I.os,I.bare,I.base,I.loc,I.cell,I.free,I.freeC,I.pin,I.hok,I.len⟩
theorem aU.unwish (I:aU (X.wish E) pins σ H s):aU X pins σ H s:=⟨I.ok.unwish,I.os,I.bare,I.base,I.loc,I.cell,I.free,I.freeC,I.pin,I.hok,I.len⟩
theorem SP.unwish {D:Ends}{f:Flow}{s':Shared}(h:SP (X.wish E) pins D f s'):SP X pins D f s':=by
 cases f with
 | next=>obtain ⟨σ',H',I,q⟩:=h; exact ⟨σ',H',I.unwish,q⟩
 | brk=>obtain ⟨σ',H',I,q⟩:=h; exact ⟨σ',H',I.unwish,q⟩
 | cont=>obtain ⟨σ',H',I,q⟩:=h; exact ⟨σ',H',I.unwish,q⟩
 | ret u=>obtain ⟨v,σ',H',I,r,q⟩:=h; exact ⟨v,σ',H',I.unwish,r,q⟩
theorem PT.nox {e:Expr}{t:TT}(h:PT X.nox e t):PT X e t:=fun pins s σ H Q I hw =>
 wpAny_mono (h pins s σ H Q (I.wish _) hw) (fun _ _ ⟨H',I',q⟩=>⟨H',I'.unwish,q⟩) fun _ _ z=>False.elim z
theorem vK.nox {st:List Stmt}{t:TS}(h:vK X.nox st t):vK X st t:=fun pins s σ H D I hw =>
 wpAny_mono (h pins s σ H D (I.wish _) hw) (fun _ _ q=>q.unwish) fun _ _ z=>False.elim z
end
section
variable {X:Cx}{st:Stmt}{rest:List Stmt}{t u:TS}{e:Expr}{te:TE}{pos:Pos}
def Nt:TS:=fun D σ H=>D.nx σ H
def NB (t u:TS):TS:=fun D σ H=>t { D with nx:=u D } σ H
theorem aQ:vK X [] Nt:=fun _ _ σ H _ I h=>wpAny_execs_nil ⟨σ,H,I,h⟩
theorem aG (h1:PS X st t)(h2:vK X rest u):vK X (st::rest) (NB t u):=by
 intro pins s σ H D I h;refine wpAny_execs_cons (cN (h1 pins s σ H { D with nx:=u D } I h) fun f s1 q=>?_);cases f with
 | next =>
  obtain ⟨σ',H',I',q⟩:=q;exact h2 pins s1 σ' H' D I' q
 | ret v=>exact q
 | brk=>exact q
 | cont=>exact q
theorem aF (h1:PS X st t):vK X [st] t:=by
 intro pins s σ H D I h;refine wpAny_execs_cons (cN (h1 pins s σ H D I h) fun f s1 q=>?_);cases f with
 | next=>exact wpAny_execs_nil q
 | ret v=>exact q
 | brk=>exact q
 | cont=>exact q
theorem aU.quiet {pins:List (Addr×Obj)}{σ:St}{H:Hp}{s:Shared}(I:aU X pins σ H s):interactive X.env=false:=by simp [interactive,I.ok.kind]
def Ng (te:TE):TS:=fun D σ H=>te σ H fun _ H1=>D.nx σ H1
theorem pG (he:PE X e te)(hs:swapsWith e none pos.line X.env=pure false:=by rfl):PS X (.Expr e pos) (Ng te):=by
 intro pins s σ H D I h;exact wpAny_Expr_any (cN (he pins s σ H _ I h) fun v s1 ⟨x,H1,I1,r1,q1⟩=>⟨σ,H1,I1,q1⟩) I.quiet hs
def Ql (te:TE):TS:=fun D σ H=>te σ H D.rt
theorem aO (he:PE X e te):PS X (.Return (some e) pos) (Ql te):=by
 intro pins s σ H D I h;exact wpAny_Return_some (cN (he pins s σ H _ I h) fun v s1 ⟨x,H1,I1,r1,q1⟩=>⟨x,σ,H1,I1,r1,q1⟩)
def RD (c:TT)(t u:TS):TS:=fun D σ H=>c σ H fun b H1=>if b=true then t D σ H1 else u D σ H1
theorem bI {c:Expr}{a b:List Stmt}{tc:TT}(hc:PT X c tc)(ha:vK X a t)(hb:vK X b u):PS X (.If c a b pos) (RD tc t u):=by
 intro pins s σ H D I h;refine wpAny_If (cN (hc pins s σ H _ I h) fun d s1 ⟨H1,I1,q1⟩=>?_);cases d with
 | true=>exact ha pins s1 σ H1 D I1 q1
 | false=>exact hb pins s1 σ H1 D I1 q1
def Jc:TS:=fun _ _ _=>False
theorem lR:PS X st Jc:=fun _ _ _ _ _ _ h=>h.elim
end
abbrev TG:=V →St →Hp →(St →Hp →Prop) →Prop
abbrev Jl:=List V →St →Hp →(St →Hp →Prop) →Prop
def PG (X:Cx)(target:Expr)(t:TG):Prop :=
 ∀ (pins:List (Addr×Obj)) (s:Shared) (σ:St) (H:Hp) (v:V) (u:Value) (Q:St →Hp →Prop),aU X pins σ H s →RelV v u →t v σ H Q →
  wpAny (model X.prog X.w) X.A (assign target X.env u) (fun _ s'=>∃ σ' H',aU X pins σ' H' s'∧Q σ' H') X.xe s
def Od (X:Cx)(ts:List Expr)(t:Jl):Prop :=
 ∀ (pins:List (Addr×Obj)) (s:Shared) (σ:St) (H:Hp) (vs:List V) (us:List Value) (Q:St →Hp →Prop),aU X pins σ H s →bM vs us →t vs σ H Q →
  wpAny (model X.prog X.w) X.A (assignInOrder ((assignEach ts X.env).map (·.2)) us) (fun _ s'=>∃ σ' H',aU X pins σ' H' s'∧Q σ' H') X.xe s
abbrev Ja:=V →V →V →Hp →(Hp →Prop) →Prop
def MJ (X:Cx)(t:Ja):Prop :=
 ∀ (pins:List (Addr×Obj)) (s:Shared) (σ:St) (H:Hp) (o i v:V) (ov iv u:Value) (Q:Hp →Prop),aU X pins σ H s →RelV o ov →RelV i iv →RelV v u →t o i v H Q →
  wpAny (model X.prog X.w) X.A (setItem ov iv u) (fun _ s'=>∃ H',aU X pins σ H' s'∧Q H') X.xe s
section
variable {X:Cx}{pos:Pos}
def rR (i:Nat):TG:=fun v σ H Q=>Q (σ.set i (some v)) H
theorem aZ {i:Nat}{x:Str}(hN:X.N.Nodup)(hi:X.N[i]? = some x)(hx:Loc X.env.scope x)(hf:X.fn x=true∨X.env.scope.names.lookup x=some .local:=by first | exact .inl rfl | exact .inr rfl | assumption):PG X (.Name x pos) (rR i):=by
 intro pins s σ H v u Q I r h;exact wpAny_assign_Name (xG I hN hi hx r (fun s' I'=>⟨_,H,I',h⟩) hf)
def Q8:Jl:=fun vs σ H Q=>vs=[]∧Q σ H
def Mq (t:TG)(u:Jl):Jl:=fun vs σ H Q=>∃ v r,vs=v::r∧t v σ H fun σ' H'=>u r σ' H' Q
theorem zV:Od X [] Q8:=by
 intro pins s σ H vs us Q I r h;obtain ⟨e,h⟩:=h;subst e;cases r;exact assignInOrder_nil ⟨σ,H,I,h⟩
theorem jF {e:Expr}{es:List Expr}{t:TG}{u:Jl}(h1:PG X e t)(h2:Od X es u)
  (hs:(assignEach (e::es) X.env).map (·.2)=assign e X.env::(assignEach es X.env).map (·.2):=by rfl):Od X (e::es) (Mq t u):=by
 intro pins s σ H vs us Q I r h;obtain ⟨v,vr,e1,h⟩:=h;subst e1;cases r with
 | cons r rr =>
  rw [hs];refine assignInOrder_cons (cN (h1 pins s σ H _ _ _ I r h) fun _ s1 ⟨σ1,H1,I1,q1⟩=>?_);exact h2 pins s1 σ1 H1 _ _ Q I1 rr q1
def R6 (K:PySem.W.Frag)(n:Nat)(t:Jl):TG:=fun v σ H Q=>∃ a xs,v=.ref a∧dG K H a xs∧xs.length=n∧t xs σ H Q
theorem Dv {es:List Expr}{k:Nat}{t:Jl}{n:Nat}(hc:X.calm=true)(h:Od X es t)
  (hn:(assignEach es X.env).length=n:=by rfl) (hst:(assignEach es X.env).findIdx? (·.1)=none:=by rfl):PG X (.Tuple es k pos) (R6 X.K n t):=by
 intro pins s σ H v u Q I r hw;obtain ⟨a,xs,e1,hq,hl,hw⟩:=hw;subst e1;cases r;obtain ⟨its,rv,ht,hz⟩:=I.tuple hq;refine assign_Tuple_tuple (I.ok.hd hc) ht (by simp [hn,← hl,rv.length]) hst fun h' hx=>?_;have I1:aU X pins σ H { s with heap:=h' }:=I.kept (t':=s.toks) fun b o e=>hx b o (YW (YG e)) e;exact h pins _ σ H xs _ Q I1 (by simpa using rv) hw
def R7 (to ti:TE)(t:Ja):TG:=fun v σ H Q=>to σ H fun o H1=>ti σ H1 fun i H2=>t o i v H2 fun H3=>Q σ H3
theorem JK {o i:Expr}{to ti:TE}{t:Ja}(ho:PE X o to)(hi:PE X i ti)(hs:MJ X t)
  (ha:∀ v,assign (.Subscript o i pos) X.env v=(do
   let ov ← holding [v] (eval o X.env)
   let iv ← holding [v,ov] (eval i X.env)
   standAt pos
   holding [v,ov,iv] (setItem ov iv v)
   release [v,ov,iv] []):=by intro _; rfl):PG X (.Subscript o i pos) (R7 to ti t):=by
 intro pins s σ H v u Q I r h;rw [ha];refine wpAny_bind (wpAny_holding (cN (ho pins s σ H _ I h) fun ov s1 ⟨x,H1,I1,r1,q1⟩=>?_));refine wpAny_bind (wpAny_holding (cN (hi pins s1 σ H1 _ I1 q1) fun iv s2 ⟨y,H2,I2,r2,q2⟩=>?_));refine wpAny_bind (wpAny_standAt (wpAny_bind (wpAny_holding (cN (hs pins s2 σ H2 x y v ov iv u _ I2 r1 r2 r q2) fun _ s3 ⟨H3,I3,q3⟩=>?_))));exact wpAny_release ⟨σ,H3,I3,q3⟩
def Il (te:TE)(g:TG):TS:=fun D σ H=>te σ H fun x H1=>g x σ H1 D.nx
theorem zN {tg e:Expr}{te:TE}{g:TG}(he:PE X e te)(hg:PG X tg g)(hs:swapsWithSole [tg] e pos.line X.env=pure false:=by rfl)(hw:swappedStores [tg] e X.env=pure none:=by rfl)
  (h1:(assignEach [tg] X.env).map (·.2)=[assign tg X.env]:=by rfl):PS X (.Assign [tg] e pos) (Il te g):=by
 intro pins s σ H D I h;refine wpAny_Assign_stores (cN (he pins s σ H _ I h) fun v s1 ⟨x,H1,I1,r1,q1⟩=>?_) hs hw;rw [h1];exact cN (hg pins s1 σ H1 x v _ I1 r1 q1) fun _ s2 q=>q
theorem bU {i:Nat}{x:Str}{e:Expr}{te:TE}{pos':Pos}(hN:X.N.Nodup)(hi:X.N[i]? = some x)(hx:Loc X.env.scope x)(he:PE X e te)(hs:swapsWith e (some (.Name x pos')) pos.line X.env=pure false:=by rfl)(hf:X.fn x=true∨X.env.scope.names.lookup x=some .local:=by first | exact .inl rfl | exact .inr rfl | assumption) :
  PS X (.Assign [.Name x pos'] e pos) (Il te (rR i)):=by
 intro pins s σ H D I h;refine wpAny_Assign_Name (cN (he pins s σ H _ I h) fun v s1 ⟨y,H1,I1,r1,q1⟩=>?_) hs;exact xG I1 hN hi hx r1 (fun s2 I2=>⟨_,H1,I2,q1⟩) hf
end
structure It where
 go:Nat →Hp →Prop
 yld:Nat →Hp →V →Hp →Prop
 stop:Nat →Hp →Prop
def rE (X:Cx)(pins:List (Addr×Obj))(H:Hp)(b:Addr):Prop :=
 H b=none∧b≠X.env.locals∧b∉X.fs∧(b∈X.ex∨X.s₀.heap.objs.size ≤ b)∧(∀ x c,X.env.cells.lookup x=some c →c≠b)∧∀ p∈X.pn++pins,p.1≠b
theorem aU.fpOk {X:Cx}{pins:List (Addr×Obj)}{σ:St}{H H':Hp}{s:Shared}{b:Addr}(I:aU X pins σ H s)(hb:s.heap.objs.size ≤ b)(hn:H' b=none):rE X pins H' b:=by
 refine ⟨hn,ZV (YS I.lt hb),I.nofs hb,.inr (Y5 I.sz hb),fun x c e z=>?_,fun p hp z=>?_⟩
 ·obtain ⟨v,q⟩:=I.cell x c e;exact absurd (YS q.lt (by rw [z]; exact hb)) (Yz _)
 ·exact absurd (YS (YG (I.pin p hp).1) (by rw [z]; exact hb)) (Yz _)
structure Turn (P:Program)(w:World)(K:PySem.W.Frag)(tg:Expr)(J:It)(fp:List Addr)(it:Addr)(tn:Nat →Heap →Prop):Prop where
 mem:it∈fp
 obj:∀ i h,tn i h →∀ b∈fp,∃ o,h.get? b=some o∧∀ v,o.data≠.cell v
 keep:∀ i h h',tn i h →(∀ b∈fp,∀ o,h.get? b=some o →h'.get? b=some o) →tn i h'
 item:∀ (X:Cx),X.prog=P →X.w=w →X.K=K →X.calm=true →∀ (i:Nat) (pins:List (Addr×Obj)) (s:Shared) (σ:St) (H:Hp) (E:Value →Shared →Prop),aU X pins σ H s →(∀ b∈fp,rE X pins H b) →tn i s.heap →J.go i H →
  wpAny (model P w) X.A (pyNext (.ref it)) (fun r s1=>∃ u,r=some u ∧
   wpAny (model P w) X.A (letOwnedTupleGo tg (.ref it) u) (fun _ s2=>∃ x H',aU X pins σ H' s2∧RelV x u∧J.yld i H x H'∧tn (i+1) s2.heap∧∀ b∈fp,H' b=none) E s1) E s
 done:∀ (X:Cx),X.prog=P →X.w=w →X.K=K →X.calm=true →∀ (i:Nat) (pins:List (Addr×Obj)) (s:Shared) (σ:St) (H:Hp) (E:Value →Shared →Prop),aU X pins σ H s →(∀ b∈fp,rE X pins H b) →tn i s.heap →J.stop i H →
  wpAny (model P w) X.A (pyNext (.ref it)) (fun r s1=>r=none∧aU X pins σ H s1) E s
 self:∀ (A:Around) (i:Nat) (s:Shared) (Q:Value →Shared →Prop) (E:Value →Shared →Prop),tn i s.heap →Q (.ref it) s →wpAny (model P w) A (pyIter (.ref it)) Q E s
abbrev TI:=St →Hp →(It →Hp →Prop) →Prop
def Ss (X:Cx)(pins:List (Addr×Obj))(σ:St)(tg:Expr)(R:It →Hp →Prop)(itv:Value)(s2:Shared):Prop :=
 ∃ (it:Addr) (fp:List Addr) (tn:Nat →Heap →Prop) (J:It) (H':Hp),itv=.ref it∧aU X pins σ H' s2∧Turn X.prog X.w X.K tg J fp it tn∧tn 0 s2.heap∧(∀ b∈fp,rE X pins H' b)∧R J H'
def PI (X:Cx)(tg iter:Expr)(wi:TI):Prop :=
 ∀ (pins:List (Addr×Obj)) (s:Shared) (σ:St) (H:Hp) (R:It →Hp →Prop),aU X pins σ H s →wi σ H R →
  wpAny (model X.prog X.w) X.A (eval iter X.env) (fun v s1=>wpAny (model X.prog X.w) X.A (pyIter v) (Ss X pins σ tg R) X.xe s1) X.xe s
theorem Hu {M:Model}{A:Around}{E:Value →Shared →Prop}{s:Shared}{tg:Expr}{it:Addr}{u:Value}{o:Obj}{n:String}{vs:Array Value}{Q:Unit →Shared →Prop}(ho:s.heap.get? it=some o)(hc:o.cls=.type n)(hd:o.data=.fields vs)
  (hn:["enumerate","zip","dict_itemiterator","dict_reverseitemiterator","odict_iterator","itertools.zip_longest","itertools.pairwise"].contains n=false) (hQ:Q () s):wpAny M A (letOwnedTupleGo tg (.ref it) u) Q E s:=by
 unfold letOwnedTupleGo;cases tg <;> first
  | exact wpAny_pure hQ
  | (cases u <;> first
    | exact wpAny_pure hQ
    | (refine wpAny_bind (wpAny_load ho ?_); rw [hc,hd]; show wpAny M A (if (["enumerate","zip","dict_itemiterator","dict_reverseitemiterator","odict_iterator","itertools.zip_longest","itertools.pairwise"].contains n&&vs[0]?==some (rawInt _))=true then _ else _) Q E s; rw [if_neg (by intro h; rw [hn,Bool.false_and] at h; cases h)]; exact wpAny_pure hQ))
def Jt (K:PySem.W.Frag)(a:Addr):It :=
 ⟨fun i H=>∃ xs x,bL K H a xs∧xs[i]? = some x,fun i H x H'=>H'=H∧∀ xs,bL K H a xs →xs[i]? = some x,fun i H=>∃ xs,bL K H a xs∧xs.length ≤ i⟩
def Ir (lo:Int)(n:Nat):It:=⟨fun i _=>i<n,fun i H x H'=>H'=H∧x=.int (lo+i),fun i _=>n ≤ i⟩
theorem CK {P:Program}{w:World}{K:PySem.W.Frag}{tg:Expr}(a it:Addr):Turn P w K tg (Jt K a) [it] it (fun i h=>h.IsListIter it a i) where
 mem:=by simp
 obj:=fun i h st b hb=>by
  have e:b=it:=by simpa using hb
  subst e;obtain ⟨o,e,c,d⟩:=st;exact ⟨o,e,fun v z=>by rw [d] at z; cases z⟩
 keep:=fun i h h' st k=>st.at fun o e=>k it (by simp) o e
 item:=by
  intro X hP hw hK hc i pins s σ H E I hf st hg;subst hP hw hK;obtain ⟨xs,x,hq,hx⟩:=hg;obtain ⟨its,rv,p,hz⟩:=I.list hq;obtain ⟨u,hu,ru⟩:=rv.get hx;obtain ⟨f0,f1,f2,f3,f4,f5⟩:=hf it (by simp);refine wpAny_pyNext_list_item st p.isList (x:=u) (by simpa using hu) fun h' st' sb=>?_;have I1:aU X pins σ H { s with heap:=h' }:=I.turned (t':=s.toks) (fun b o hb e=>(sb.2 b hb).trans e) f0 f1 f3 f4 f5;obtain ⟨o,e,c,d⟩:=id st';exact ⟨u,rfl,Hu (s:={ s with heap:=h' }) e c d (by decide) ⟨x,H,I1,ru,⟨rfl,fun ys hy=>by rw [I.list_inj hy hq]; exact hx⟩,st',fun b hb=>(hf b hb).1⟩⟩
 done:=by
  intro X hP hw hK hc i pins s σ H E I hf st hg;subst hP hw hK;obtain ⟨xs,hq,hx⟩:=hg;obtain ⟨its,rv,p,hz⟩:=I.list hq;obtain ⟨f0,f1,f2,f3,f4,f5⟩:=hf it (by simp);have hl:=rv.length;exact wpAny_pyNext_list_end (I.ok.hd hc) st p.isList (by simp; omega) fun h' eb=>⟨rfl,I.turned (t':=s.toks) (fun b o hb e=>eb b o hb e) f0 f1 f3 f4 f5⟩
 self:=fun _ _ _ _ _ st h=>wpAny_pyIter_listiter st h
theorem xZ {P:Program}{w:World}{K:PySem.W.Frag}{tg:Expr}(it:Addr)(lo:Int)(n:Nat):Turn P w K tg (Ir lo n) [it] it (fun i h=>IsRangeIter h it (lo+(i:Nat)*1) ((n:Int)-(i:Nat)) 1) where
 mem:=by simp
 obj:=fun i h st b hb=>by
  have e:b=it:=by simpa using hb
  subst e;exact ⟨_,st,fun v z=>by
   have z':Data.fields _=Data.cell v:=z;cases z'⟩
 keep:=fun i h h' st k=>k it (by simp) _ st
 item:=by
  intro X hP hw hK hc i pins s σ H E I hf st hg;subst hP hw hK;obtain ⟨f0,f1,f2,f3,f4,f5⟩:=hf it (by simp);have W:=Walks.range (prog:=X.prog) (w:=X.w) (I.ok.hd hc) it lo 1 n;refine W.item i s _ _ hg st fun v h' tk hv st' kk=>?_;obtain ⟨t,rfl⟩:=hv;have I1:aU X pins σ H { s with heap:=h',toks:=tk }:=I.turned (fun b o hb e=>kk b o (by simpa using hb) e) f0 f1 f3 f4 f5;refine ⟨_,rfl,Hu (s:={ s with heap:=h',toks:=tk }) (n:="range_iterator") st' rfl rfl (by decide) ⟨.int (lo+i),H,I1,⟨t,?_⟩,⟨rfl,rfl⟩,st',fun b hb=>(hf b hb).1⟩⟩;rw [Int.mul_one]
 done:=by
  intro X hP hw hK hc i pins s σ H E I hf st hg;subst hP hw hK;obtain ⟨f0,f1,f2,f3,f4,f5⟩:=hf it (by simp);exact wpAny_pyNext_range_end (I.ok.hd hc) st (by have:n ≤ i:=hg; omega) fun h' eb=>⟨rfl,I.turned (t':=s.toks) (fun b o hb e=>eb b o hb e) f0 f1 f3 f4 f5⟩
 self:=fun _ _ _ _ _ st h=>wpAny_pyIter_rangeiter st h
section
variable {X:Cx}{tg:Expr}
def Lz (K:PySem.W.Frag)(tl:TE):TI:=fun σ H R=>tl σ H fun x H1=>∃ a,x=.ref a∧(∃ xs,bL K H1 a xs)∧R (Jt K a) H1
theorem cT {l:Expr}{tl:TE}(hl:PE X l tl):PI X tg l (Lz X.K tl):=by
 intro pins s σ H R I h;refine cN (hl pins s σ H _ I h) fun v s1 ⟨x,H1,I1,r1,q1⟩=>?_;obtain ⟨a,e,⟨xs,hq⟩,q⟩:=q1;subst e;cases r1;obtain ⟨its,rv,p,hz⟩:=I1.list hq;refine wpAny_pyIter_list p.isList ?_;refine ⟨s1.heap.objs.size,[s1.heap.objs.size],_,_,H1,rfl,I1.kept (t':=s1.toks) fun b o e=>YB _ e,CK a _,⟨_,YL _ rfl,rfl,rfl⟩,fun b hb=>?_,q⟩;have e:b=s1.heap.objs.size:=by simpa using hb
 subst e;exact I1.fpOk (YD _) (I1.hok.fresh (YD _))
theorem Dk {pins:List (Addr×Obj)}{σ:St}{H:Hp}{s:Shared}{R:It →Hp →Prop}{E:Value →Shared →Prop}{lo hi:Int}{t u v:Tok}{tk:Nat}(I:aU X pins σ H s)(h1:-(2^62) ≤ lo)(h2:lo<2^62)(h3:-(2^62) ≤ hi)(h4:hi<2^62)
  (q:R (Ir lo (hi-lo).toNat) H):wpAny (model X.prog X.w) X.A (pyIter (.ref s.heap.objs.size)) (Ss X pins σ tg R) E { s with heap:=s.heap.push { cls:=.type "range",data:=.fields #[.int lo t,.int hi u,.int 1 v] },toks:=tk }:=by
 refine wpAny_pyIter_range (IsRange.new ..) (small_one h1 h2 h3 h4) ?_;have I1:aU X pins σ H { s with heap:=s.heap.push { cls:=.type "range",data:=.fields #[.int lo t,.int hi u,.int 1 v] },toks:=tk }:=I.kept fun b o e=>YB _ e;refine ⟨(s.heap.push { cls:=.type "range",data:=.fields #[.int lo t,.int hi u,.int 1 v] }).objs.size,[(s.heap.push { cls:=.type "range",data:=.fields #[.int lo t,.int hi u,.int 1 v] }).objs.size],_,_,H,rfl,
  I1.kept (t':=tk) fun b o e=>YB _ e,xZ _ lo (hi-lo).toNat,?_,fun b hb=>?_,q⟩
 ·have e1:lo+((0:Nat):Int)*1=lo:=by simp
  have e2:(((hi-lo).toNat:Nat):Int)-((0:Nat):Int)=Builtin.Range.rangeSize lo hi 1:=by rw [rangeSize_one]; split <;> omega
  show IsRangeIter _ _ (lo+((0:Nat):Int)*1) ((((hi-lo).toNat:Nat):Int)-((0:Nat):Int)) 1;rw [e1,e2];exact YL _ rfl
 ·have e:b=(s.heap.push { cls:=.type "range",data:=.fields #[.int lo t,.int hi u,.int 1 v] }).objs.size:=by simpa using hb
  subst e;exact I1.fpOk (YD _) (I1.hok.fresh (YD _))
def Ln (ta:TA):TI:=fun σ H R=>ta σ H fun vs H1=>∃ j:Int,vs=[.int j]∧-(2^62) ≤ j∧j<2^62∧R (Ir 0 j.toNat) H1
theorem bC {a:Expr}{ta:TA}{p pos:Pos}(hg:Gl X "range")(hm:X.mg "range" = none)(ha:PA X [a] ta)(hs:starEach [a] X.env=[(false,eval a X.env)]:=by rfl):PI X tg (.Call (.Name "range" p) [a] [] pos) (Ln ta):=by
 intro pins s σ H R I h;refine Call_ (mU I hg hm boot_range (PyProof.Rows.callWith_type1 (cN (ha pos pins s σ H _ I h) fun us s1 ⟨vs,H1,I1,r1,q1⟩=>?_) hs rfl));obtain ⟨j,e,q1,q2,q⟩:=q1;subst e;cases r1 with
 | cons r rr =>
  cases rr;obtain ⟨t,rfl⟩:=r;exact call_range_1 (Dk I1 (by omega) (by omega) q1 q2 (by simpa using q))
def QK (wi:TI)(g:TG)(tb:TS):TS:=fun D σ H=>wi σ H fun J H1=>∃ W:Nat →Nat →St →Hp →Prop,(∃ m,W 0 m σ H1)∧∀ i m σ H,W i m σ H →
 (J.stop i H∧D.nx σ H)∨(J.go i H∧∃ N:St →Hp →Prop,(∀ σ' H',N σ' H' →∃ m',m'<m∧W (i+1) m' σ' H')∧∀ x H',J.yld i H x H' →g x σ H' fun σ2 H2=>tb { D with nx:=N,ct:=N,bk:=D.nx } σ2 H2)
def pQ (fp:List Addr)(h:Heap):List (Addr×Obj):=fp.filterMap fun b=>(h.get? b).map fun o=>(b,o)
theorem gR {fp:List Addr}{h:Heap}{b:Addr}{o:Obj}(hb:b∈fp)(e:h.get? b=some o):(b,o)∈pQ fp h:=Zz.mpr ⟨b,hb,by rw [e]; rfl⟩
theorem Bq {fp:List Addr}{h:Heap}{p:Addr×Obj}(hp:p∈pQ fp h):p.1∈fp∧h.get? p.1=some p.2:=by
 obtain ⟨b,hb,e⟩:=Zz.mp hp;cases q:h.get? b with
 | none=>rw [q] at e; cases e
 | some o =>
  rw [q] at e;have e':(b,o)=p:=ZW.inj e;subst e';exact ⟨hb,q⟩
theorem aU.pinned {pins:List (Addr×Obj)}{σ:St}{H:Hp}{s:Shared}{fp:List Addr}(I:aU X pins σ H s)(hf:∀ b∈fp,rE X pins H b)(ho:∀ b∈fp,∃ o,s.heap.get? b=some o∧∀ v,o.data≠.cell v):aU X (pins++pQ fp s.heap) σ H s :=
 I.pins_of fun p hp=>(Y9.mp hp).elim (fun z=>I.pin p (Yl _ z)) fun z=>by
  obtain ⟨hb,e⟩:=Bq z;obtain ⟨f0,f1,f2,_⟩:=hf p.1 hb;obtain ⟨o,e',d⟩:=ho p.1 hb;rw [e] at e'; cases e';exact ⟨e,f0,f1,f2,d⟩
theorem aU.unpinned {pins pl:List (Addr×Obj)}{σ:St}{H:Hp}{s:Shared}(I:aU X (pins++pl) σ H s):aU X pins σ H s:=I.pins_of fun p hp=>I.pin p (Yl _ (aAj _ hp))
theorem cZ {iter:Expr}{body:List Stmt}{wi:TI}{g:TG}{tb:TS}{pos:Pos}(hp:PassesOwn (model X.prog X.w) X.A X.env X.xe)(hc:X.calm=true)(hi:PI X tg iter wi)(hg:PG X tg g)(hb:vK X body tb)
  (hs:∀ x,foldedSetIterable iter X.env x=pure x:=by intro _; rfl):PS X (.For tg iter body [] pos) (QK wi g tb):=by
 intro pins s σ H D I h;refine wpAny_For (cN (hi pins s σ H _ I h) fun v s1 h1=>cN h1 fun itv s2 h2=>?_) hs;obtain ⟨it,fp,tn,J,H2,e,I2,T,st2,f2,W,⟨m0,w0⟩,turn⟩:=h2;subst e;have stat:∀ {H':Hp},(∀ b∈fp,H' b=none) →∀ b∈fp,rE X pins H' b:=fun hn b hb=>⟨hn b hb,(f2 b hb).2⟩
 refine codeAny_forLoop_any (fun n s'=>∃ i σ' H',aU X pins σ' H' s'∧tn i s'.heap∧(∀ b∈fp,H' b=none)∧W i n σ' H') ?_ m0 ⟨0,σ,H2,I2,st2,fun b hb=>(f2 b hb).1,w0⟩;rintro n s3 ⟨i,σ3,H3,I3,st3,fr3,w3⟩;rcases turn i n σ3 H3 w3 with ⟨stop,qn⟩ | ⟨go,N,hN,step⟩
 ·refine wpAny_passesOwn hp (cN (T.done X rfl rfl rfl hc i pins s3 σ3 H3 X.xe I3 (stat fr3) st3 stop) fun r s4 ⟨hr,I4⟩=>?_);subst hr;exact wpAny_execs_nil ⟨σ3,H3,I4,qn⟩
 ·refine wpAny_passesOwn hp (cN (T.item X rfl rfl rfl hc i pins s3 σ3 H3 X.xe I3 (stat fr3) st3 go) fun r s4 ⟨u,hr,h4⟩=>?_);subst hr;refine wpAny_passesOwn hp (cN h4 fun _ s5 ⟨x,H5,I5,r5,y5,st5,fr5⟩=>?_);have I5':=I5.pinned (stat fr5) (T.obj _ _ st5);refine wpAny_passesOwn hp (cN (hg _ s5 σ3 H5 x u _ I5' r5 (step x H5 y5)) fun _ s6 ⟨σ6,H6,I6,q6⟩=>?_);refine wpAny_passesOwn hp (cN (hb _ s6 σ6 H6 _ I6 q6) fun f s7 q7=>?_);have again:∀ {σ7:St}{H7:Hp},aU X (pins++pQ fp s5.heap) σ7 H7 s7 →N σ7 H7 →∃ m,m<n∧∃ i σ' H',aU X pins σ' H' s7∧tn i s7.heap∧(∀ b∈fp,H' b=none)∧W i m σ' H':=fun {σ7 H7} I7 n7=>by
   obtain ⟨m',hm,w7⟩:=hN σ7 H7 n7;refine ⟨m',hm,i+1,σ7,H7,I7.unpinned,T.keep _ _ _ st5 fun b hb o e=>(I7.pin (b,o) (Yl _ (Yl _ (gR hb e)))).1,fun b hb=>?_,w7⟩;obtain ⟨o,e,d⟩:=T.obj _ _ st5 b hb;exact (I7.pin (b,o) (Yl _ (Yl _ (gR hb e)))).2.1
  cases f with
  | next=>obtain ⟨σ7,H7,I7,n7⟩:=q7; exact again I7 n7
  | cont=>obtain ⟨σ7,H7,I7,n7⟩:=q7; exact again I7 n7
  | brk=>obtain ⟨σ7,H7,I7,q7⟩:=q7; exact ⟨σ7,H7,I7.unpinned,q7⟩
  | ret v=>obtain ⟨x7,σ7,H7,I7,r7,q7⟩:=q7; exact ⟨x7,σ7,H7,I7.unpinned,r7,q7⟩
end
theorem fL {K:PySem.W.Frag}{a:Addr}{xs:List V}{g:TG}{tb:TS}{D:Ends}{σ:St}{H:Hp}(Pv:Nat →St →Hp →Prop)(h0:Pv 0 σ H)(hl:∀ i σ H,i ≤ xs.length →Pv i σ H →bL K H a xs)
  (hs:∀ i x σ H,xs[i]? = some x →Pv i σ H →g x σ H fun σ2 H2=>tb { D with nx:=Pv (i+1),ct:=Pv (i+1),bk:=D.nx } σ2 H2) (hd:∀ σ H,Pv xs.length σ H →D.nx σ H) :
  ∃ W:Nat →Nat →St →Hp →Prop,(∃ m,W 0 m σ H)∧∀ i m σ H,W i m σ H →
   ((Jt K a).stop i H∧D.nx σ H)∨((Jt K a).go i H∧∃ N:St →Hp →Prop,(∀ σ' H',N σ' H' →∃ m',m'<m∧W (i+1) m' σ' H')∧∀ x H',(Jt K a).yld i H x H' →g x σ H' fun σ2 H2=>tb { D with nx:=N,ct:=N,bk:=D.nx } σ2 H2):=by
 refine ⟨fun i m σ H=>m=xs.length-i∧i ≤ xs.length∧Pv i σ H,⟨xs.length,by simp,Ym _,h0⟩,?_⟩;rintro i m σ H ⟨rfl,hi,p⟩;have q:=hl i σ H hi p
 by_cases hlt:i<xs.length
 ·refine .inr ⟨⟨xs,xs[i],q,by simp [hlt]⟩,Pv (i+1),fun σ' H' p'=>⟨xs.length-(i+1),by omega,rfl,hlt,p'⟩,fun x H' y=>?_⟩;obtain ⟨e,y⟩:=y;subst e;exact hs i x σ _ (y xs q) p
 ·have e:i=xs.length:=by omega
  subst e;exact .inl ⟨⟨xs,q,YD _⟩,hd σ H p⟩
theorem cR {lo:Int}{n:Nat}{g:TG}{tb:TS}{D:Ends}{σ:St}{H:Hp}(Pv:Nat →St →Hp →Prop)(h0:Pv 0 σ H)
  (hs:∀ i σ H,i<n →Pv i σ H →g (.int (lo+i)) σ H fun σ2 H2=>tb { D with nx:=Pv (i+1),ct:=Pv (i+1),bk:=D.nx } σ2 H2) (hd:∀ σ H,Pv n σ H →D.nx σ H) :
  ∃ W:Nat →Nat →St →Hp →Prop,(∃ m,W 0 m σ H)∧∀ i m σ H,W i m σ H →
   ((Ir lo n).stop i H∧D.nx σ H)∨((Ir lo n).go i H∧∃ N:St →Hp →Prop,(∀ σ' H',N σ' H' →∃ m',m'<m∧W (i+1) m' σ' H')∧∀ x H',(Ir lo n).yld i H x H' →g x σ H' fun σ2 H2=>tb { D with nx:=N,ct:=N,bk:=D.nx } σ2 H2):=by
 refine ⟨fun i m σ H=>m=n-i∧i ≤ n∧Pv i σ H,⟨n,by simp,Ym _,h0⟩,?_⟩;rintro i m σ H ⟨rfl,hi,p⟩
 by_cases hlt:i<n
 ·refine .inr ⟨hlt,Pv (i+1),fun σ' H' p'=>⟨n-(i+1),by omega,rfl,hlt,p'⟩,fun x H' y=>?_⟩;obtain ⟨e,y⟩:=y;subst e y;exact hs i σ _ hlt p
 ·have e:i=n:=by omega
  subst e;exact .inl ⟨YD _,hd σ H p⟩
abbrev R2:=V →V →Hp →VK →Prop
def jV (X:Cx)(f:Value →Value →Sem Value)(r:R2):Prop :=
 ∀ (pins:List (Addr×Obj)) (s:Shared) (σ:St) (H:Hp) (x y:V) (v u:Value) (Q:VK),aU X pins σ H s →RelV x v →RelV y u →r x y H Q →
  wpAny (model X.prog X.w) X.A (f v u) (EP X pins σ Q) X.xe s
def cU (X:Cx)(f:Value)(r:List V →Hp →VK →Prop):Prop :=
 ∀ (pins:List (Addr×Obj)) (s:Shared) (σ:St) (H:Hp) (xs:List V) (us:List Value) (Q:VK),aU X pins σ H s →bM xs us →r xs H Q →
  wpAny (model X.prog X.w) X.A (call f us) (EP X pins σ Q) X.xe s
def Ob (r:R2)(ta tb:TE):TE:=fun σ H Q=>ta σ H fun x H1=>tb σ H1 fun y H2=>r x y H2 Q
def rI (C:Int →Int →Prop)(g:Int →Int →V):R2:=fun x y H Q=>∃ i j,x=.int i∧y=.int j∧C i j∧Q (g i j) H
def Fy (g:Int →Int →V):R2:=fun x y H Q=>∃ i j,x=.int i∧y=.int j∧Q (g i j) H
section
variable {X:Cx}{a b c:Expr}{ta tb tc:TE}{pos:Pos}
theorem Iv (ha:PE X a ta)(hb:PE X b tb){pins:List (Addr×Obj)}{s:Shared}{σ:St}{H:Hp}{R:V →V →Hp →Prop}(I:aU X pins σ H s)
  (h:ta σ H fun x H1=>tb σ H1 fun y H2=>R x y H2) {Q:Value →Shared →Prop}{f:Value →Value →Sem Value}
  (hf:∀ v u s2 x y H2,aU X pins σ H2 s2 →RelV x v →RelV y u →R x y H2 →wpAny (model X.prog X.w) X.A (f v u) Q X.xe s2) :
  wpAny (model X.prog X.w) X.A (eval a X.env) (fun v s₁=>wpAny (model X.prog X.w) X.A (eval b X.env) (fun u s₂=>wpAny (model X.prog X.w) X.A (f v u) Q X.xe s₂) X.xe s₁) X.xe s:=by
 refine cN (ha pins s σ H _ I h) fun v s1 ⟨x,H1,I1,r1,q1⟩=>?_;refine cN (hb pins s1 σ H1 _ I1 q1) fun u s2 ⟨y,H2,I2,r2,q2⟩=>?_;exact hf v u s2 x y H2 I2 r1 r2 q2
theorem aN {op:Operator}{r:R2}(ho:jV X (binaryOp op) r)(ha:PE X a ta)(hb:PE X b tb):PE X (.BinOp a op b pos) (Ob r ta tb):=by
 intro pins s σ H Q I h;exact wpAny_BinOp (Iv ha hb I h fun v u s2 x y H2 I2 rx ry q=>ho pins s2 σ H2 x y v u Q I2 rx ry q)
theorem Jq {f:Value →Value →Sem Value}{C:Int →Int →Prop}{g:Int →Int →Int}
  (rule:∀ (i j:Int) (t u:Tok) (s:Shared) (Q:Value →Shared →Prop) (E:Value →Shared →Prop),C i j →Q (.int (g i j) s.toks) { s with toks:=s.toks+1 } →wpAny (model X.prog X.w) X.A (f (.int i t) (.int j u)) Q E s) :
  jV X f (rI C fun i j=>.int (g i j)):=by
 intro pins s σ H x y v u Q I rx ry h;obtain ⟨i,j,rfl,rfl,hc,q⟩:=h;obtain ⟨t,rfl⟩:=rx;obtain ⟨t',rfl⟩:=ry;exact rule i j t t' s _ _ hc ⟨.int (g i j),H,I.tok _,⟨_,rfl⟩,q⟩
theorem Gu {f:Value →Value →Sem Value}{g:Int →Int →Int}
  (rule:∀ (i j:Int) (t u:Tok) (s:Shared) (Q:Value →Shared →Prop) (E:Value →Shared →Prop),Q (.int (g i j) s.toks) { s with toks:=s.toks+1 } →wpAny (model X.prog X.w) X.A (f (.int i t) (.int j u)) Q E s) :
  jV X f (Fy fun i j=>.int (g i j)):=by
 intro pins s σ H x y v u Q I rx ry h;obtain ⟨i,j,rfl,rfl,q⟩:=h;obtain ⟨t,rfl⟩:=rx;obtain ⟨t',rfl⟩:=ry;exact rule i j t t' s _ _ ⟨.int (g i j),H,I.tok _,⟨_,rfl⟩,q⟩
theorem Hm {f:Value →Value →Sem Value}{g:Int →Int →Bool}
  (rule:∀ (i j:Int) (t u:Tok) (s:Shared) (Q:Value →Shared →Prop) (E:Value →Shared →Prop),Q (.bool (g i j)) s →wpAny (model X.prog X.w) X.A (f (.int i t) (.int j u)) Q E s) :
  jV X f (Fy fun i j=>.bl (g i j)):=by
 intro pins s σ H x y v u Q I rx ry h;obtain ⟨i,j,rfl,rfl,q⟩:=h;obtain ⟨t,rfl⟩:=rx;obtain ⟨t',rfl⟩:=ry;exact rule i j t t' s _ _ ⟨.bl (g i j),H,I,rfl,q⟩
def S5 (i j:Int):Prop:=0<j∧j<1073741824
def Rm (i j:Int):Prop:=0 ≤ j∧j ≤ 1000000∧i.natAbs<2^64
def Ip (i j:Int):Prop:=(-(2^64)<i∧i<2^64)∨(-(2^64)<j∧j<2^64)
theorem Ip.ok {i j:Int}(h:Ip i j):IntMulOk i j:=by
 rcases h with ⟨h1,h2⟩ | ⟨h1,h2⟩
 ·exact .of_left (intBits_le_64 h1 h2)
 ·exact .of_right (intBits_le_64 h1 h2)
theorem yJ (k:Nat):(0:Int) ≤ 2^k:=by
 rw [two_pow_cast];exact aAT _
theorem cB:jV X (binaryOp .Add) (Fy fun i j=>.int (i+j)):=Gu fun _ _ _ _ _ _ _ q=>add_int q
theorem jE:jV X (binaryOp .Sub) (Fy fun i j=>.int (i-j)):=Gu fun _ _ _ _ _ _ _ q=>sub_int q
theorem zK:jV X (binaryOp .Mult) (rI Ip fun i j=>.int (i*j)):=Jq fun _ _ _ _ _ _ _ hc q=>mul_int q hc.ok
theorem lN:jV X (binaryOp .FloorDiv) (rI S5 fun i j=>.int (i/j)):=Jq fun i j _ _ _ _ _ hc q=>by
 have h1:(0:Int)<j:=hc.1;have h2:j<1073741824:=hc.2;exact floordiv_int (by omega) (by rw [aAq i (by omega)]; exact q) (.inl (PyProof.noPylong_small (by omega)))
theorem cJ:jV X (binaryOp .Mod) (rI (fun _ j=>0<j) fun i j=>.int (i%j)):=Jq fun i j _ _ _ _ _ hc q=>by
 have h1:(0:Int)<j:=hc;exact mod_int' (by omega) (by rw [Int.fmod_eq_emod_of_nonneg i (by omega)]; exact q)
theorem fK:jV X (binaryOp .LShift) (rI Rm fun i j=>.int (i*2^j.toNat)):=Jq fun _ _ _ _ _ _ _ hc q=>lshift_int_small hc.1 hc.2.1 hc.2.2 q
theorem iY:jV X (binaryOp .RShift) (rI (fun _ j=>0 ≤ j) fun i j=>.int (i/2^j.toNat)):=Jq fun i j _ _ _ _ _ hc q =>
 rshift_int hc (by rw [aAq i (yJ _)]; exact q)
theorem gB:jV X (binaryOp .BitAnd) (Fy fun i j=>.int (Builtin.bitAnd i j)):=Gu fun _ _ _ _ _ _ _ q=>and_int q
theorem Ht:jV X (binaryOp .BitOr) (Fy fun i j=>.int (Builtin.bitOr i j)):=Gu fun _ _ _ _ _ _ _ q=>or_int q
end
def LR:V →V →Bool
 | .non,.non=>true | .non,.int _=>true | .int _,.non=>true | .non,.bl _=>true | .bl _,.non=>true | .non,.str _=>true | .str _,.non=>true
 | .int _,.int _=>true | .bl _,.bl _=>true | .str _,.str _=>true | .byt _,.byt _=>true
 | .int _,.str _=>true | .str _,.int _=>true | .bl _,.str _=>true | .str _,.bl _=>true
 | _,_=>false
def Ua:R2:=fun x y H Q=>LR x y=true∧Q (.bl (decide (x=y))) H
def U6:R2:=fun x y H Q=>LR x y=true∧Q (.bl (!decide (x=y))) H
theorem Ar {i j:Int}:decide (V.int i=V.int j)=(i==j):=by
 rw [Z9];simp
theorem Eu {i j:Bool}:decide (V.bl i=V.bl j)=(i==j):=by
 rw [Z9];simp
theorem BJ {i j:Str}:decide (V.str i=V.str j)=(i==j):=by
 rw [Z9];simp
theorem Ae {i j:Array UInt8}:decide (V.byt i=V.byt j)=(i.toList==j.toList):=by
 rw [Z9];cases i;cases j;simp
section
variable {X:Cx}{a b c:Expr}{ta tb tc:TE}{pos:Pos}
theorem bN {pins:List (Addr×Obj)}{σ:St}{H:Hp}{s:Shared}{Q:VK}{k k':Bool}(I:aU X pins σ H s)(q:Q (.bl k) H)(e:k=k'):EP X pins σ Q (.bool k') s:=by
 subst e;exact ⟨.bl k,H,I,rfl,q⟩
theorem cG:jV X (compareOp .Eq) Ua:=by
 intro pins s σ H x y v u Q I rx ry h;obtain ⟨hs,q⟩:=h;cases x with
 | non =>
  cases rx;cases y with
  | non=>cases ry; exact PySem.EqNone.eq_none_none (bN I q (by simp))
  | bl j=>cases ry; exact PySem.EqNone.eq_none_bool (bN I q (by simp))
  | int j=>obtain ⟨t',rfl⟩:=ry; exact PySem.EqNone.eq_none_int (bN I q (by simp))
  | str j=>obtain ⟨t',rfl⟩:=ry; exact PySem.EqNone.eq_none_str (bN I q (by simp))
  | _=>exact absurd (show false=true from hs) YM
 | bl i =>
  cases rx;cases y with
  | non=>cases ry; exact PySem.EqNone.eq_bool_none (bN I q (by simp))
  | bl j=>cases ry; exact eq_bool (bN I q Eu)
  | str j=>obtain ⟨t',rfl⟩:=ry; exact PySem.EqMixed.eq_bool_str (bN I q (by simp))
  | _=>exact absurd (show false=true from hs) YM
 | int i =>
  obtain ⟨t,rfl⟩:=rx;cases y with
  | non=>cases ry; exact PySem.EqNone.eq_int_none (bN I q (by simp))
  | int j=>obtain ⟨t',rfl⟩:=ry; exact eq_int (bN I q Ar)
  | str j=>obtain ⟨t',rfl⟩:=ry; exact PySem.EqMixed.eq_int_str (bN I q (by simp))
  | _=>exact absurd (show false=true from hs) YM
 | str i =>
  obtain ⟨t,rfl⟩:=rx;cases y with
  | non=>cases ry; exact PySem.EqNone.eq_str_none (bN I q (by simp))
  | bl j=>cases ry; exact PySem.EqMixed.eq_str_bool (bN I q (by simp))
  | int j=>obtain ⟨t',rfl⟩:=ry; exact PySem.EqMixed.eq_str_int (bN I q (by simp))
  | str j=>obtain ⟨t',rfl⟩:=ry; exact eq_str (bN I q BJ)
  | _=>exact absurd (show false=true from hs) YM
 | byt i =>
  obtain ⟨t,rfl⟩:=rx;cases y with
  | byt j=>obtain ⟨t',rfl⟩:=ry; exact PySem.W.eq_bytes (bN I q Ae)
  | _=>exact absurd (show false=true from hs) YM
 | _=>cases y <;> exact absurd (show false=true from hs) YM
theorem tE:jV X (compareOp .NotEq) U6:=by
 intro pins s σ H x y v u Q I rx ry h;obtain ⟨hs,q⟩:=h;cases x with
 | non =>
  cases rx;cases y with
  | non=>cases ry; exact PySem.EqNone.ne_none_none (bN I q (by simp))
  | bl j=>cases ry; exact PySem.EqNone.ne_none_bool (bN I q (by simp))
  | int j=>obtain ⟨t',rfl⟩:=ry; exact PySem.EqNone.ne_none_int (bN I q (by simp))
  | str j=>obtain ⟨t',rfl⟩:=ry; exact PySem.EqNone.ne_none_str (bN I q (by simp))
  | _=>exact absurd (show false=true from hs) YM
 | bl i =>
  cases rx;cases y with
  | non=>cases ry; exact PySem.EqNone.ne_bool_none (bN I q (by simp))
  | bl j=>cases ry; exact ne_bool (bN I q (congrArg not Eu))
  | str j=>obtain ⟨t',rfl⟩:=ry; exact PySem.EqMixed.ne_bool_str (bN I q (by simp))
  | _=>exact absurd (show false=true from hs) YM
 | int i =>
  obtain ⟨t,rfl⟩:=rx;cases y with
  | non=>cases ry; exact PySem.EqNone.ne_int_none (bN I q (by simp))
  | int j=>obtain ⟨t',rfl⟩:=ry; exact ne_int (bN I q (congrArg not Ar))
  | str j=>obtain ⟨t',rfl⟩:=ry; exact PySem.EqMixed.ne_int_str (bN I q (by simp))
  | _=>exact absurd (show false=true from hs) YM
 | str i =>
  obtain ⟨t,rfl⟩:=rx;cases y with
  | non=>cases ry; exact PySem.EqNone.ne_str_none (bN I q (by simp))
  | bl j=>cases ry; exact PySem.EqMixed.ne_str_bool (bN I q (by simp))
  | int j=>obtain ⟨t',rfl⟩:=ry; exact PySem.EqMixed.ne_str_int (bN I q (by simp))
  | str j=>obtain ⟨t',rfl⟩:=ry; exact ne_str (bN I q (congrArg not BJ))
  | _=>exact absurd (show false=true from hs) YM
 | byt i =>
  obtain ⟨t,rfl⟩:=rx;cases y with
  | byt j=>obtain ⟨t',rfl⟩:=ry; exact PySem.W.ne_bytes (bN I q (congrArg not Ae))
  | _=>exact absurd (show false=true from hs) YM
 | _=>cases y <;> exact absurd (show false=true from hs) YM
theorem Dr:jV X (compareOp .Lt) (Fy fun i j=>.bl (decide (i<j))):=Hm fun _ _ _ _ _ _ _ q=>lt_int q
theorem pK:jV X (compareOp .LtE) (Fy fun i j=>.bl (decide (i ≤ j))):=Hm fun _ _ _ _ _ _ _ q=>le_int q
theorem Du:jV X (compareOp .Gt) (Fy fun i j=>.bl (decide (j<i))):=Hm fun _ _ _ _ _ _ _ q=>gt_int q
theorem LC:jV X (compareOp .GtE) (Fy fun i j=>.bl (decide (j ≤ i))):=Hm fun _ _ _ _ _ _ _ q=>ge_int q
theorem pU:jV X (compareOp .Is) (fun x y H Q=>y=.non∧Q (.bl (decide (x=.non))) H):=by
 intro pins s σ H x y v u Q I rx ry h;obtain ⟨rfl,q⟩:=h;cases ry;refine is_none_gen (bN I q ?_);cases x <;> first
  | (cases rx; rfl)
  | (obtain ⟨t,rfl⟩:=rx; rfl)
theorem GZ:jV X (compareOp .IsNot) (fun x y H Q=>y=.non∧Q (.bl (!decide (x=.non))) H):=by
 intro pins s σ H x y v u Q I rx ry h;obtain ⟨rfl,q⟩:=h;cases ry;refine isnot_none_gen (bN I q ?_);cases x <;> first
  | (cases rx; rfl)
  | (obtain ⟨t,rfl⟩:=rx; rfl)
theorem aW (b:Expr){op:CmpOp}(h:op≠.In:=by decide)(h2:op≠.NotIn:=by decide):behindInMarks op b=false:=by
 have e1:(op==CmpOp.In)=false:=by cases op <;> first | rfl | exact absurd rfl h
 have e2:(op==CmpOp.NotIn)=false:=by cases op <;> first | rfl | exact absurd rfl h2
 cases b <;> simp [behindInMarks,e1,e2]
theorem b8 {op:CmpOp}{r:R2}(ho:jV X (compareOp op) r)(ha:PE X a ta)(hb:PE X b tb)(hm:behindInMarks op b=false):PE X (.Compare a [op] [b] pos) (Ob r ta tb):=by
 intro pins s σ H Q I h;exact wpAny_Compare1 (Iv ha hb I h fun v u s2 x y H2 I2 rx ry q=>ho pins s2 σ H2 x y v u Q I2 rx ry q) hm
def Hq (t:TE):TT:=fun σ H Q=>t σ H fun x H'=>∃ k,x=.bl k∧Q k H'
theorem aV {op:CmpOp}{r:R2}(ho:jV X (compareOp op) r)(ha:PE X a ta)(hb:PE X b tb)(hm:behindInMarks op b=false):PT X (.Compare a [op] [b] pos) (Hq (Ob r ta tb)):=by
 intro pins s σ H Q I h;refine wpAny_isTrue_Compare1 (cN (ha pins s σ H _ I h) fun v s1 ⟨x,H1,I1,r1,q1⟩=>cN (hb pins s1 σ H1 _ I1 q1) fun u s2 ⟨y,H2,I2,r2,q2⟩ =>
  cN (ho pins s2 σ H2 x y v u _ I2 r1 r2 q2) fun c s3 ⟨z,H3,I3,r3,k,e,q3⟩=>?_) hm
 subst e;cases r3;exact wpAny_truthy_bool ⟨H3,I3,q3⟩
def DX (r r':R2)(ta tb tc:TE):TE:=fun σ H Q=>ta σ H fun x H1=>tb σ H1 fun y H2=>r x y H2 fun z H3=>∃ k,z=.bl k ∧
 (if k=true then tc σ H3 fun w' H4=>r' y w' H4 Q else Q (.bl false) H3)
theorem Fe {op op':CmpOp}{r r':R2}(ho:jV X (compareOp op) r)(ho':jV X (compareOp op') r')(ha:PE X a ta)(hb:PE X b tb)(hc:PE X c tc)
  (hm:lastMarks [op,op'] [b,c]=false:=by with_unfolding_all rfl):PE X (.Compare a [op,op'] [b,c] pos) (DX r r' ta tb tc):=by
 intro pins s σ H Q I h;refine Compare_chain (cN (ha pins s σ H _ I h) fun v s1 ⟨x,H1,I1,r1,q1⟩=>chain_link (cN (hb pins s1 σ H1 _ I1 q1) fun u s2 ⟨y,H2,I2,r2,q2⟩ =>
  cN (ho pins s2 σ H2 x y v u _ I2 r1 r2 q2) fun d s3 ⟨z,H3,I3,r3,k,e,q3⟩=>?_)) hm
 subst e;cases r3;refine wpAny_truthy_bool ?_;cases k with
 | false=>exact ite_ff ⟨.bl false,H3,I3,rfl,q3⟩
 | true=>exact ite_tt (chain_last (cN (hc pins s3 σ H3 _ I3 q3) fun w' s4 ⟨z',H4,I4,r4,q4⟩=>ho' pins s4 σ H4 y z' u w' Q I4 r2 r4 q4))
theorem Fl {op op':CmpOp}{r r':R2}(ho:jV X (compareOp op) r)(ho':jV X (compareOp op') r')(ha:PE X a ta)(hb:PE X b tb)(hc:PE X c tc)
  (hm:lastMarks [op,op'] [b,c]=false:=by with_unfolding_all rfl):PT X (.Compare a [op,op'] [b,c] pos) (Hq (DX r r' ta tb tc)):=by
 intro pins s σ H Q I h;refine isTrue_chain (cN (ha pins s σ H _ I h) fun v s1 ⟨x,H1,I1,r1,q1⟩=>test_link (cN (hb pins s1 σ H1 _ I1 q1) fun u s2 ⟨y,H2,I2,r2,q2⟩ =>
  cN (ho pins s2 σ H2 x y v u _ I2 r1 r2 q2) fun d s3 ⟨z,H3,I3,r3,k,e,q3⟩=>?_)) hm
 subst e;cases r3;refine wpAny_truthy_bool ?_;cases k with
 | false =>
  obtain ⟨k',e',q'⟩:=q3;cases e';exact ite_ff ⟨H3,I3,q'⟩
 | true =>
  refine ite_tt (test_last (cN (hc pins s3 σ H3 _ I3 q3) fun w' s4 ⟨z',H4,I4,r4,q4⟩=>cN (ho' pins s4 σ H4 y z' u w' _ I4 r2 r4 q4) fun d' s5 ⟨z2,H5,I5,r5,k2,e2,q5⟩=>?_));subst e2;cases r5;exact wpAny_truthy_bool ⟨H5,I5,q5⟩
theorem uM:(sizeLine:Nat)<2^63:=by rw [sizeLine_eq]; decide
theorem vals1 {x:V}{us:List Value}(r:bM [x] us):∃ u,us=[u]∧RelV x u:=by
 cases r with
 | cons r1 r2=>cases r2; exact ⟨_,rfl,r1⟩
theorem vals2 {x y:V}{us:List Value}(r:bM [x,y] us):∃ u w',us=[u,w']∧RelV x u∧RelV y w':=by
 cases r with
 | cons r1 r2 =>
  cases r2 with
  | cons r3 r4=>cases r4; exact ⟨_,_,rfl,r1,r3⟩
theorem jP (hc:X.calm=true):cU X (.builtin "max") (fun xs H Q=>∃ i j,xs=[.int i,.int j]∧Q (.int (if j > i then j else i)) H):=by
 intro pins s σ H xs us Q I r h;obtain ⟨i,j,rfl,q⟩:=h;obtain ⟨u,w',rfl,⟨t,rfl⟩,⟨t',rfl⟩⟩:=vals2 r;refine max_two_ints (I.ok.hd hc) fun h' tk k=>⟨_,H,I.kept k,?_,q⟩
 by_cases hj:j > i
 ·rw [if_pos hj,if_pos hj]; exact ⟨_,rfl⟩
 ·rw [if_neg hj,if_neg hj]; exact ⟨_,rfl⟩
theorem sW (hc:X.calm=true):cU X (.builtin "min") (fun xs H Q=>∃ i j,xs=[.int i,.int j]∧Q (.int (if j<i then j else i)) H):=by
 intro pins s σ H xs us Q I r h;obtain ⟨i,j,rfl,q⟩:=h;obtain ⟨u,w',rfl,⟨t,rfl⟩,⟨t',rfl⟩⟩:=vals2 r;refine min_two_ints (I.ok.hd hc) fun h' tk k=>⟨_,H,I.kept k,?_,q⟩
 by_cases hj:j<i
 ·rw [if_pos hj,if_pos hj]; exact ⟨_,rfl⟩
 ·rw [if_neg hj,if_neg hj]; exact ⟨_,rfl⟩
theorem Bw:cU X (.type "int") (fun xs H Q=>(∃ i,xs=[.int i]∧Q (.int i) H)∨∃ k,xs=[.bl k]∧Q (.int (if k then 1 else 0)) H):=by
 intro pins s σ H xs us Q I r h;rcases h with ⟨i,rfl,q⟩ | ⟨k,rfl,q⟩
 ·obtain ⟨u,rfl,t,rfl⟩:=vals1 r;exact call_int_int ⟨.int i,H,I,⟨_,rfl⟩,q⟩
 ·obtain ⟨u,rfl,r1⟩:=vals1 r;cases r1;exact call_int_bool ⟨.int (if k then 1 else 0),H,I.tok _,⟨_,rfl⟩,q⟩
end
structure xV (h:Heap)(x dx C:Addr)(mA:Str →Option Value):Prop where
 obj:h.get? x=some (PySem.W.instObj C dx)
 ns:h.Ns1 dx mA
 ne:dx≠x
theorem rM {h:Heap}{dx:Addr}{mA:Str →Option Value}(n:h.Ns1 dx mA):∃ od,h.get? dx=some od∧∀ name,PySem.W.lookIn name od=some (mA name):=by
 obtain ⟨o,es,ep,ho,hd,hk,_,hm⟩:=n;refine ⟨o,ho,fun name=>?_⟩;have e:=hm name;unfold nsFind findBy at e;rw [← aAU] at e;unfold PySem.W.lookIn;rw [hd];dsimp only
 split
 ·rename_i y q;rw [q] at e;exact congrArg some e
 ·rename_i q;rw [q] at e;have a:es.toList.any (·.refKey)=false:=by
   rw [aAY];intro y hy;obtain ⟨z,t,hkey⟩:=hk y (Array.mem_toList_iff.mp hy);simp [DictEntry.refKey,hkey]
  have a':¬ es.toList.any (·.refKey)=true:=by rw [a]; exact YM
  rw [if_neg a'];exact congrArg some e
theorem xV.look {h:Heap}{x dx C:Addr}{mA:Str →Option Value}(I:xV h x dx C mA):∃ od,PySem.W.InstAt h x (PySem.W.instObj C dx) C (some od)∧∀ name,PySem.W.lookIn name od=some (mA name) :=
 let ⟨od,ho,hl⟩:=rM I.ns
 ⟨od,⟨I.obj,rfl,rfl,ho⟩,hl⟩
section
variable {prog:Program}{w:World}{A:Around}{E:Value →Shared →Prop}{s:Shared}{K:PySem.W.Frag}{x dx C f:Addr}{mA:Str →Option Value}{name:Str}{v:Value}
theorem Gg {expr:Bool}{Q:Value →Shared →Prop}(X:K.In s.heap)(I:xV s.heap x dx C mA)(hg:PySem.W.plainGet K C name=true)(hh:PySem.W.hasDictIn K C=true)
  (ha:PySem.W.findIn K (.ref C) name=some none) (hv:mA name=some v) (hv':PySem.W.handedIn v=true) (h:Q v { s with toks:=s.toks+1 }) :
  wpAny (model prog w) A (getAttr (.ref x) name expr) Q E s:=by
 obtain ⟨od,J,hl⟩:=I.look;exact PySem.W.get_value X J (PySem.W.plainGet_of hg).1 (PySem.W.findObj_own hh ha rfl (by rw [hl,hv])) hv' h
theorem Ea {pl:Sem Bool}{Q:Value×List Value →Shared →Prop}(X:K.In s.heap)(I:xV s.heap x dx C mA)(hg:PySem.W.plainGet K C name=true)
  (hf:PySem.W.findIn K (.ref C) name=some (some (.ref f))) (ht:PySem.W.isFn K (.ref f)=true) (hv:mA name=none) (h:Q (.ref f,[.ref x]) s) :
  wpAny (model prog w) A (getMethod (.ref x) name pl) Q E s:=by
 obtain ⟨od,J,hl⟩:=I.look;exact PySem.W.method_fn X J (PySem.W.plainGet_of hg).1 (PySem.W.plainGet_of hg).2 hf (beq_iff_eq.mp ht) (by show (PySem.W.lookIn name od).map (·.isSome)=some false; rw [hl,hv]; rfl) h
theorem GQ {ns:List Str}{Q:Unit →Shared →Prop}(X:K.In s.heap)(I:xV s.heap x dx C mA)
  (hs:PySem.W.findIn K (.ref C) "__setattr__" = some (some (.builtin "object.__setattr__"))) (hp:PySem.W.plainOver K C=true) (ht:PySem.W.takerIn K C name=some none) (hh:PySem.W.hasDictIn K C=true)
  (hw:PySem.Within mA ns) (hsz:ns.length ≤ sizeLine)
  (h:∀ h',xV h' x dx C (fun y=>if y=name then some v else mA y) →Yh dx s.heap h' →Q () { s with heap:=h',toks:=s.toks+2 }) :
  wpAny (model prog w) A (setAttr (.ref x) name v) Q E s:=by
 obtain ⟨od,J,hl⟩:=I.look;refine PySem.W.set_plain X J hs (PySem.W.osa_open (s:={ s with toks:=s.toks+1 }) (r:=none) X J hp ht fun b=>?_);obtain ⟨cd,hc,hd'⟩:=PySem.W.any_some hh;have hx:s.heap.get? x=some ⟨.ref C,some dx,.plain,#[]⟩:=I.obj;refine wpAny_bind (wpAny_pure (wpAny_bind (wpAny_bind (wpAny_loadPart hx (wpAny_bind (PySem.W.Looks.here (s:={ s with toks:=s.toks+1 }) (PySem.W.looks_clsIn X hc) ?_))))));rw [hd'];refine wpAny_pure (a:=some dx) (wpAny_bind (wpAny_pure (wpAny_bind ?_)));refine wpAny_nsSet1 (s:={ s with toks:=s.toks+1 }) I.ns fun h' hn2 hs2=>?_;obtain ⟨oD,esD,epD,hoD,hdD,hcD⟩:=hn2.count (PySem.Within.cons name v hw);refine wpAny_bind (wpAny_lookBehind hoD (by rw [hdD]; exact pastItsLine_dict (Y5 hcD (by rw [Y_]; omega))) ?_);exact wpAny_pure (h _ ⟨(hs2.2 _ (Ne.symm I.ne)).trans I.obj,hn2,I.ne⟩ hs2)
theorem En {R:Result →Shared →Prop}{vs:List Value}{kw:List (Str×Value)}(X:K.In s.heap)(hm:PySem.W.makesIn K C=true)
  (hi:PySem.W.findIn K (.ref C) "__init__" = some (some (.ref f))) (hf:PySem.W.typeIn K (.ref f)=some (.type "function"))
  (h:codeAny (model prog w) (A.under (.builtin "type.__call__" ⟨.ref C::vs,kw⟩)) (.call (.ref f) ⟨.ref (s.heap.objs.size+1)::vs,kw⟩) (PySem.W.InitBack (s.heap.objs.size+1) R)
   { s with heap:=(s.heap.push PySem.W.emptyDict).push (PySem.W.instObj C s.heap.objs.size) }) :
  codeAny (model prog w) A (.call (.ref C) ⟨vs,kw⟩) R s:=by
 obtain ⟨hh,g,d,t,os⟩:=s;exact PySem.W.make_core (PySem.W.makes_of X hm) (PySem.W.looks_findIn X hi) (fun self=>PySem.W.bind_fn X self hf) (.inl rfl) h
end
def iJ (f:Str)(v:V):List (Str×V) →List (Str×V)
 | []=>[(f,v)]
 | (g,x)::r=>if g=f then (g,v)::r else (g,x)::iJ f v r
theorem jG (f g:Str)(v:V):∀ fs:List (Str×V),(iJ f v fs).lookup g=if g=f then some v else fs.lookup g
 | []=>by
  show Zb g [(f,v)]=_
  by_cases h:g=f
  ·have hb:(g==f)=true:=beq_iff_eq.mpr h;simp only [Zb,hb,if_pos h]
  ·have hb:(g==f)=false:=beq_eq_false_iff_ne.mpr h;simp only [Zb,hb,if_neg h]
 | (k,x)::r=>by
  have ih:=jG f g v r;rw [show iJ f v ((k,x)::r)=(if k=f then (k,v)::r else (k,x)::iJ f v r) from rfl]
  by_cases hk:k=f
  ·rw [if_pos hk]
   by_cases h:g=k
   ·have hb:(g==k)=true:=beq_iff_eq.mpr h;simp only [Zb,hb,if_pos (h.trans hk)]
   ·have hb:(g==k)=false:=beq_eq_false_iff_ne.mpr h;simp only [Zb,hb,if_neg (fun e:g=f=>h (e.trans hk.symm))]
  ·rw [if_neg hk]
   by_cases h:g=k
   ·have hb:(g==k)=true:=beq_iff_eq.mpr h;simp only [Zb,hb,if_neg (fun e:g=f=>hk (h.symm.trans e))]
   ·have hb:(g==k)=false:=beq_eq_false_iff_ne.mpr h;simp only [Zb,hb];exact ih
theorem gD (f:Str)(v:V):∀ fs:List (Str×V),f∈(iJ f v fs).map (·.1)∧∀ g,g∈fs.map (·.1) →g∈(iJ f v fs).map (·.1)
 | []=>⟨by simp [iJ],fun g h=>by simp at h⟩
 | (k,x)::r=>by
  obtain ⟨i1,i2⟩:=gD f v r;rw [show iJ f v ((k,x)::r)=(if k=f then (k,v)::r else (k,x)::iJ f v r) from rfl]
  by_cases hk:k=f
  ·rw [if_pos hk];subst hk;exact ⟨by simp,fun g h=>by simpa using h⟩
  ·rw [if_neg hk];refine ⟨?_,fun g h=>?_⟩
   ·rw [Z6];exact Yb _ i1
   ·rw [Z6] at h ⊢;rcases Ye.mp h with e | e
    ·exact Ye.mpr (.inl e)
    ·exact Yb _ (i2 g e)
theorem nY (f:Str)(v:V):∀ fs:List (Str×V),(iJ f v fs).length ≤ fs.length+1
 | []=>by simp [iJ]
 | (k,x)::r=>by
  have ih:=nY f v r;rw [show iJ f v ((k,x)::r)=(if k=f then (k,v)::r else (k,x)::iJ f v r) from rfl]
  by_cases hk:k=f
  ·rw [if_pos hk,Y_,Y_]; omega
  ·rw [if_neg hk,Y_,Y_]; omega
theorem mK.some_of {v:V}{o:Option Value}(r:mK (some v) o):∃ u,o=some u∧RelV v u:=by
 cases o with
 | none=>exact (show False from r).elim
 | some u=>exact ⟨u,rfl,r⟩
theorem mK.none_of {o:Option Value}(r:mK none o):o=none:=by
 cases o with
 | none=>rfl
 | some u=>exact (show False from r).elim
theorem rO {v:V}{u:Value}(r:RelV v u):PySem.W.handedIn u=true:=by
 cases v with
 | non=>cases (show u=Value.none from r); rfl
 | bl b=>cases (show u=Value.bool b from r); rfl
 | int i=>obtain ⟨t,e⟩:=(show ∃ t,u=Value.int i t from r); cases e; rfl
 | str x=>obtain ⟨t,e⟩:=(show ∃ t,u=Value.str x t from r); cases e; rfl
 | byt b=>obtain ⟨t,e⟩:=(show ∃ t,u=Value.bytes b t from r); cases e; rfl
 | flt b=>obtain ⟨t,e⟩:=(show ∃ t,u=Value.float b t from r); cases e; rfl
 | ref a=>cases (show u=Value.ref a from r); rfl
 | ty n=>cases (show u=Value.type n from r); rfl
section
variable {P:Program}{w:World}{H H':Hp}{h h':Heap}{a C dx:Addr}{fs fs':List (Str×V)}
theorem pC (hok:mQ P w H h)(e:H a=some (.ins C dx fs)):∃ mA,xV h a dx C mA∧(∀ f,mK (fs.lookup f) (mA f))∧PySem.Within mA (fs.map (·.1))∧fs.length ≤ 1000∧H dx=some (.own a):=by
 obtain ⟨d,z,ne,ob,mA,n,r,q⟩:=(show bY P w H h a (.ins C dx fs) from hok a _ e)
 exact ⟨mA,⟨ob,n,ne⟩,r,q,z,d⟩
end
structure tY (K:PySem.W.Frag)(C:Addr):Prop where
 pg:PySem.W.plainGet K C Str.empty=true
 hd:PySem.W.hasDictIn K C=true
 po:PySem.W.plainOver K C=true
 sa:PySem.W.findIn K (.ref C) "__setattr__" = some (some (.builtin "object.__setattr__"))
theorem tY.get {K:PySem.W.Frag}{C:Addr}(c:tY K C)(f:Str):PySem.W.plainGet K C f=true:=c.pg
def cX (K:PySem.W.Frag)(C:Addr)(f:Str):Prop:=PySem.W.findIn K (.ref C) f=some none
theorem cX.taker {K:PySem.W.Frag}{C:Addr}{f:Str}(n:cX K C f):PySem.W.takerIn K C f=some none:=by
 unfold PySem.W.takerIn;rw [show PySem.W.findIn K (.ref C) f=some none from n]
 rfl
structure yK (K:PySem.W.Frag)(C:Addr)(m:Str)(f:Addr):Prop where
 at_:PySem.W.findIn K (.ref C) m=some (some (.ref f))
 fn:PySem.W.isFn K (.ref f)=true
 kp:PySem.W.keepIn K (.ref f)=true
section
variable {X:Cx}{pins:List (Addr×Obj)}{σ:St}{H:Hp}{s:Shared}{a C dx:Addr}{fs:List (Str×V)}{f:Str}{v:V}{A:Around}{E:Value →Shared →Prop}
theorem yC {b:Bool}{Q:Value →Shared →Prop}(I:aU X pins σ H s)(e:H a=some (.ins C dx fs))(c:tY X.K C)(n:cX X.K C f)(l:fs.lookup f=some v)
  (h:∀ u s',aU X pins σ H s' →RelV v u →Q u s'):wpAny (model X.prog X.w) A (getAttr (.ref a) f b) Q E s:=by
 obtain ⟨mA,O,r,_,_,_⟩:=pC I.hok e;obtain ⟨u,hu,ru⟩:=mK.some_of (v:=v) (o:=mA f) (by rw [← l]; exact r f);exact Gg I.kIn O (c.get f) c.hd n hu (rO ru) (h u _ (I.tok _) ru)
theorem qJ {m:Str}{g:Addr}{pl:Sem Bool}{Q:Value×List Value →Shared →Prop}(I:aU X pins σ H s)(e:H a=some (.ins C dx fs))(c:tY X.K C)(k:yK X.K C m g)(l:fs.lookup m=none)
  (h:Q (.ref g,[.ref a]) s):wpAny (model X.prog X.w) A (getMethod (.ref a) m pl) Q E s:=by
 obtain ⟨mA,O,r,_,_,_⟩:=pC I.hok e;have hn:mA m=none:=mK.none_of (by rw [← l]; exact r m);exact Ea I.kIn O (c.get m) k.at_ k.fn hn h
theorem yE {y:V}{u:Value}{Q:Unit →Shared →Prop}(I:aU X pins σ H s)(e:H a=some (.ins C dx fs))(c:tY X.K C)(n:cX X.K C f)(hl:fs.length<1000)(ry:RelV y u)
  (h:∀ s',aU X pins σ (bQ H a (.ins C dx (iJ f y fs))) s' →Q () s'):wpAny (model X.prog X.w) A (setAttr (.ref a) f u) Q E s:=by
 obtain ⟨mA,O,r,wi,_,ho⟩:=pC I.hok e;have hz:(fs.map (·.1)).length ≤ sizeLine:=by rw [YH,sizeLine_eq]; omega
 refine GQ I.kIn O c.sa c.po n.taker c.hd wi hz fun h' O' sb=>h _ ?_;have hd:∃ o,h'.get? dx=some o:=let ⟨o,_,_,e',_⟩:=O'.ns; ⟨o,e'⟩;refine I.write (x:=a) (e:=dx) (by rw [e]; exact True.intro) (.inr ho) (fun b q hb z=>(sb.2 b hb).trans z) hd ?_;refine ⟨by rw [aP O.ne]; exact ho,?_,O.ne,O'.obj,_,O'.ns,fun g=>?_,fun g hg=>?_⟩
 ·have:=nY f y fs; omega
 ·show mK ((iJ f y fs).lookup g) (if g=f then some u else mA g);rw [jG]
  by_cases q:g=f
  ·rw [if_pos q,if_pos q]; exact ry
  ·rw [if_neg q,if_neg q]; exact r g
 ·by_cases q:g=f
  ·rw [q]; exact (gD f y fs).1
  ·refine (gD f y fs).2 g (wi g fun z=>hg ?_);show (if g=f then some u else mA g)=none;rw [if_neg q]; exact z
theorem aU.made (I:aU X pins σ H s):aU X pins σ (bQ (bQ H s.heap.objs.size (.own (s.heap.objs.size+1))) (s.heap.objs.size+1) (.ins C s.heap.objs.size []))
  { s with heap:=(s.heap.push PySem.W.emptyDict).push (PySem.W.instObj C s.heap.objs.size) }:=by
 have e1:(s.heap.push PySem.W.emptyDict).get? s.heap.objs.size=some PySem.W.emptyDict:=YL s.heap rfl;have e2:((s.heap.push PySem.W.emptyDict).push (PySem.W.instObj C s.heap.objs.size)).get? (s.heap.objs.size+1)=some (PySem.W.instObj C s.heap.objs.size):=by
  have:=YL (s.heap.push PySem.W.emptyDict) (o:=PySem.W.instObj C s.heap.objs.size) rfl
  rwa [ZX] at this
 have e3:(s.heap.push PySem.W.emptyDict).Ns s.heap.objs.size (fun _=>none):=⟨PySem.W.emptyDict,#[],_,e1,rfl,(fun e he=>absurd he (by simp)),fun _=>rfl⟩
 have I1:=I.laid (a:=s.heap.objs.size) (o:=.own (s.heap.objs.size+1)) (h':=s.heap.push PySem.W.emptyDict) (t':=s.toks) (fun b u q=>YB _ q) (YD _) ⟨_,e1⟩;refine I1.laid (a:=s.heap.objs.size+1) (o:=.ins C s.heap.objs.size []) (t':=s.toks) (fun b u q=>YB _ q) (aAD (ZX _ _)) ?_;have ne:s.heap.objs.size≠s.heap.objs.size+1:=YW (Zv _);refine ⟨by rw [aP ne,aD],Ym _,ne,e2,fun _=>none,(Heap.Ns1.of_empty e3).at fun o q=>YB _ q,fun _=>True.intro,fun y hy=>absurd rfl hy⟩
theorem Af {prog:Program}{w:World}{env:Env}{e:Expr}{f:Str}{pos:Pos}{s:Shared}{Q:Value →Shared →Prop}(hb:attributeBase e f env (eval e env)=eval e env)
  (h:wpAny (model prog w) A (eval e env) (fun o s₁=>wpAny (model prog w) A (getAttr o f true) Q E s₁) E s):wpAny (model prog w) A (eval (.Attribute e f pos) env) Q E s :=
 Attribute_any_ h (by rw [arm_eval_Attribute,hb])
end
def Jv (K:PySem.W.Frag)(ta:TE)(f:Str):TE:=fun σ H Q=>ta σ H fun x H1=>∃ a C dx fs v,x=.ref a∧H1 a=some (.ins C dx fs)∧tY K C∧cX K C f∧fs.lookup f=some v∧Q v H1
def Rj (K:PySem.W.Frag)(ta tv:TE)(f:Str):TS:=fun D σ H=>tv σ H fun y H1=>ta σ H1 fun x H2=>∃ a C dx fs,x=.ref a∧H2 a=some (.ins C dx fs)∧tY K C∧cX K C f∧fs.length<1000 ∧
 D.nx σ (bQ H2 a (.ins C dx (iJ f y fs)))
section
variable {X:Cx}{o e value:Expr}{f:Str}{pos pos' tpos:Pos}{ta tv:TE}
theorem zU (he:PE X e ta)(hb:attributeBase e f X.env (eval e X.env)=eval e X.env):PE X (.Attribute e f pos) (Jv X.K ta f):=by
 intro pins s σ H Q I h;refine Af hb (cN (he pins s σ H _ I h) fun u s1 ⟨x,H1,I1,rx,a,C,dx,fs,v,ex,ea,c,n,l,q⟩=>?_);subst ex;obtain rfl:u=Value.ref a:=rx;exact yC I1 ea c n l fun u' s2 I2 ru=>⟨v,H1,I2,ru,q⟩
theorem uD (ha:PE X o ta)(hv:PE X value tv)(hs:swapsWith value (some (.Attribute o f pos')) pos.line X.env=pure false):PS X (.Assign [.Attribute o f pos'] value pos) (Rj X.K ta tv f):=by
 intro pins s σ H D I h;refine plainObj_wpAny_Assign_Attribute (cN (hv pins s σ H _ I h) fun u s1 ⟨y,H1,I1,ry,q⟩=>cN (ha pins s1 σ H1 _ I1 q) fun ov s2 ⟨x,H2,I2,rx,a,C,dx,fs,ex,ea,c,n,l,q2⟩=>?_) hs;subst ex;obtain rfl:ov=Value.ref a:=rx;exact yE I2 ea c n l ry fun s3 I3=>⟨σ,_,I3,q2⟩
theorem Hy {pl:Sem Bool}{m:Str}{apos:Pos}{args:List Expr}{pins:List (Addr×Obj)}{s:Shared}{σ:St}{H:Hp}{Q:Value →Shared →Prop}{te:TE}(he:PE X e te)(I:aU X pins σ H s)
  (h:te σ H fun x H1=>∃ a C dx fs g,x=.ref a∧H1 a=some (.ins C dx fs)∧tY X.K C∧yK X.K C m g∧fs.lookup m=none ∧
   ∀ s1,aU X pins σ H1 s1 →wpAny (model X.prog X.w) X.A (callWith pos (.ref g) [.ref a] (backTo pos (starEach args X.env)) (backToKw pos (keywordEach [] X.env))) Q X.xe s1)
  (ht:eval (.Call (.Attribute e m apos) args [] pos) X.env=(do
   let ov ← eval e X.env
   standAt apos.atName
   let (f,first) ← holding [ov] (getMethod ov m pl)
   callWith pos f first (backTo pos (starEach args X.env)) (backToKw pos (keywordEach [] X.env)))) :
  wpAny (model X.prog X.w) X.A (eval (.Call (.Attribute e m apos) args [] pos) X.env) Q X.xe s:=by
 refine PySem.W.methodCall_KW (pl:=pl) (cN (he pins s σ H _ I h) fun u s1 ⟨x,H1,I1,rx,a,C,dx,fs,g,ex,ea,c,k,l,q⟩=>?_) ht;subst ex;obtain rfl:u=Value.ref a:=rx;exact qJ I1 ea c k l (q s1 I1)
end
section
variable {X:Cx}{pins:List (Addr×Obj)}{σ:St}{H:Hp}{s:Shared}{A:Around}{E:Value →Shared →Prop}{Q:Value →Shared →Prop}{c:Value}{b:Bool}
inductive jW (K:PySem.W.Frag)(H:Hp):V →Value →Prop where
 | non:jW K H .non (.type "NoneType")
 | bl (x:Bool):jW K H (.bl x) (.type "bool")
 | int (i:Int):jW K H (.int i) (.type "int")
 | str (x:Str):jW K H (.str x) (.type "str")
 | flt (x:UInt64):jW K H (.flt x) (.type "float")
 | lst {a:Addr}{xs:List V} (e:H a=some (.lst xs)):jW K H (.ref a) (.type "list")
 | frz {a:Addr}{o:Obj}{xs:List V} (e:H a=some (.frz o (.lst xs))):jW K H (.ref a) (.type "list")
 | tup {a:Addr}{xs:List V} (e:H a=some (.tup xs)):jW K H (.ref a) (.type "tuple")
 | dK {a:Addr}{kvs:List (Key×V)} (e:H a=some (.dK kvs)):jW K H (.ref a) (.type "dict")
 | dT {a:Addr}{kvs:List (List Key×V)} (e:H a=some (.dT kvs)):jW K H (.ref a) (.type "dict")
 | ins {a C dx:Addr}{fs:List (Str×V)} (e:H a=some (.ins C dx fs)) (cl:tY K C) (ha:PySem.W.findIn K (.ref C) "__class__" = some (some (.builtin "object.__class__")))
   (hn:PySem.W.specialIn K (.builtin "object.__class__") "__get__" = some (some (.builtin "getset_descriptor.__get__"))) (htk:PySem.W.takesIn K (.builtin "object.__class__")=some true)
   (hm:PySem.W.mroIn K C (.type "object")=some true):jW K H (.ref a) (.ref C)
theorem tM {x:V}{u t:Value}(I:aU X pins σ H s)(rx:RelV x u)(ty:jW X.K H x t)(e:PySem.W.kitOne X.K t c=some b)(h:∀ tk,Q (.bool b) { s with toks:=tk }) :
  wpAny (model X.prog X.w) A (call (.builtin "isinstance") [u,c]) Q E s:=by
 cases ty with
 | non=>cases (show u=Value.none from rx); exact PySem.W.kia_one PySem.W.kitx_none I.kIn True.intro e (fun z=>nomatch z) h
 | bl y=>cases (show u=Value.bool y from rx); exact PySem.W.kia_one PySem.W.kitx_bool I.kIn True.intro e (fun z=>nomatch z) h
 | int i=>obtain ⟨t,q⟩:=(show ∃ t,u=Value.int i t from rx); cases q; exact PySem.W.kia_one PySem.W.kitx_int I.kIn True.intro e (fun z=>nomatch z) h
 | str y=>obtain ⟨t,q⟩:=(show ∃ t,u=Value.str y t from rx); cases q; exact PySem.W.kia_one PySem.W.kitx_str I.kIn True.intro e (fun z=>nomatch z) h
 | flt y=>obtain ⟨t,q⟩:=(show ∃ t,u=Value.float y t from rx); cases q; exact PySem.W.kia_one PySem.W.kitx_float I.kIn True.intro e (fun z=>nomatch z) h
 | @lst a xs ea =>
  cases (show u=Value.ref a from rx);obtain ⟨_,_,n,_,h1⟩:=(show bY X.prog X.w H s.heap a (.lst xs) from I.hok a _ ea)
  exact PySem.W.kia_one PySem.W.kitx_list I.kIn ⟨_,h1,rfl⟩ e (fun z=>nomatch z) h
 | @frz a ob xs ea =>
  cases (show u=Value.ref a from rx);obtain ⟨_,_,_,n,_,h1⟩:=(show bY X.prog X.w H s.heap a (.frz ob (.lst xs)) from I.hok a _ ea)
  exact PySem.W.kia_one PySem.W.kitx_list I.kIn ⟨_,h1,rfl⟩ e (fun z=>nomatch z) h
 | @tup a xs ea =>
  cases (show u=Value.ref a from rx);obtain ⟨_,_,_,p⟩:=(show bY X.prog X.w H s.heap a (.tup xs) from I.hok a _ ea)
  obtain ⟨o,h1,h2,_⟩:=p;exact PySem.W.kia_one PySem.W.kitx_tuple I.kIn ⟨o,h1,h2⟩ e (fun z=>nomatch z) h
 | @dK a kvs ea =>
  cases (show u=Value.ref a from rx);obtain ⟨_,_,vs,_,p⟩:=(show bY X.prog X.w H s.heap a (.dK kvs) from I.hok a _ ea)
  obtain ⟨o,es,ep,h1,h2,_⟩:=p;exact PySem.W.kia_one PySem.W.kitx_dict I.kIn ⟨o,h1,h2.1⟩ e (fun z=>nomatch z) h
 | @dT a kvs ea =>
  cases (show u=Value.ref a from rx);obtain ⟨_,_,xs,_,o,es,ep,h1,h2,_⟩:=(show bY X.prog X.w H s.heap a (.dT kvs) from I.hok a _ ea)
  exact PySem.W.kia_one PySem.W.kitx_dict I.kIn ⟨o,h1,h2.1⟩ e (fun z=>nomatch z) h
 | @ins a C dx fs ea cl ha hn htk hm =>
  cases (show u=Value.ref a from rx);obtain ⟨mA,O,_⟩:=pC I.hok ea;obtain ⟨od,J,_⟩:=O.look;exact PySem.W.kia_one (PySem.W.kitx_own (cl.get _) cl.hd ha hn htk hm) I.kIn J e (fun z=>nomatch z) h
end
structure dM (k:Nat)(A:Around):Prop where
 hd:A.handled=none
 dp:A.depth+3*k+5<recursionLimit
 un:A.units+16*k+200<cLine
theorem dM.mono {j k:Nat}{A:Around}(r:dM k A)(h:j ≤ k):dM j A:=⟨r.hd,by have:=r.dp; omega,by have:=r.un; omega⟩
theorem dM.deeper {k:Nat}{A:Around}(r:dM (k+1) A)(env:Env):dM k (A.deeper env) :=
 ⟨r.hd,by have:=r.dp; show A.depth+1+3*k+5<_; omega,by have:=r.un; show A.units+3+16*k+200<_; omega⟩
theorem yO {A:Around}{C:Addr}{us:List Value}{kw:List (Str×Value)}:(A.under (.builtin "type.__call__" ⟨.ref C::us,kw⟩)).depth=A.depth+1:=by
 first | rfl | simp [Around.under,Code.weight,Code.isCreation,Code.isGuard,Code.isCaller,Code.frames,Code.isFrame,guardIds]
theorem zE {A:Around}{C:Addr}{us:List Value}{kw:List (Str×Value)}:(A.under (.builtin "type.__call__" ⟨.ref C::us,kw⟩)).units=A.units+1:=by
 first | rfl | simp [Around.under,Code.cUnits,Code.frames,Code.isFrame]
theorem dM.make {k:Nat}{A:Around}(r:dM (k+1) A)(C:Addr)(us:List Value)(kw:List (Str×Value)):dM k (A.under (.builtin "type.__call__" ⟨.ref C::us,kw⟩)) :=
 ⟨r.hd,by have:=r.dp; rw [yO]; omega,by have:=r.un; rw [zE]; omega⟩
theorem dM.depth {k:Nat}{A:Around}(r:dM k A):A.depth<recursionLimit:=by have:=r.dp; omega
theorem dM.units {k:Nat}{A:Around}(r:dM k A):A.units+64<cLine:=by have:=r.un; omega
def Gm:TA:=fun _ H Q=>Q [] H
def Aq (ta:TE)(tr:TA):TA:=fun σ H Q=>ta σ H fun x H1=>tr σ H1 fun xs H2=>Q (x::xs) H2
section
variable {X:Cx}{e:Expr}{es:List Expr}{te:TE}{t:TA}{pos:Pos}
theorem aB:PA X [] Gm:=fun _ _ _ _ H Q I h=>Calls.spliced_nil ⟨[],H,I,.nil,h⟩
theorem aA (ha:PE X e te)(hr:PA X es t)(hs:starEach (e::es) X.env=(false,eval e X.env)::starEach es X.env:=by rfl):PA X (e::es) (Aq te t):=by
 intro pos pins s σ H Q I h;rw [hs];show wpAny _ _ (spliced ((false,eval e X.env)::backTo pos (starEach es X.env))) _ _ s;refine Calls.spliced_cons (cN (ha pins s σ H _ I h) fun u s1 ⟨x,H1,I1,r1,q1⟩=>?_);exact cN (hr pos pins s1 σ H1 _ I1 q1) fun us s2 ⟨xs,H2,I2,r2,q2⟩=>⟨x::xs,H2,I2,.cons r1 r2,q2⟩
def Qg (t:TA):TE:=fun σ H Q=>t σ H fun xs H1=>xs.length ≤ sizeLine∧∀ p,H1 p=none →Q (.ref p) (bQ H1 p (.tup xs))
def Qa (t:TA):TE:=fun σ H Q=>t σ H fun xs H1=>xs.length ≤ sizeLine∧∀ p,H1 p=none →Q (.ref p) (bQ H1 p (.lst xs))
theorem fZ {x1}(h:PA X es t):PE X (.Tuple es x1 pos) (Qg t):=by
 intro pins s σ H Q I hq;refine wpAny_Tuple_spliced (cN (h pos pins s σ H _ I hq) fun us s1 ⟨xs,H1,I1,r,z,q⟩=>⟨by rw [← r.length]; exact z,?_⟩);have hf:H1 s1.heap.objs.size=none:=I1.hok.fresh (YD _);refine ⟨.ref s1.heap.objs.size,bQ H1 s1.heap.objs.size (.tup xs),I1.laid (t':=s1.toks) (fun b u e=>YB _ e) (YD _) ?_,rfl,q _ hf⟩;exact ⟨z,us,r,⟨_,YL _ rfl,rfl,_,rfl⟩⟩
theorem eX (h:PA X es t):PE X (.List es pos) (Qa t):=by
 intro pins s σ H Q I hq;refine wpAny_List_spliced (cN (h pos pins s σ H _ I hq) fun us s1 ⟨xs,H1,I1,r,z,q⟩=>⟨by rw [← r.length]; exact z,?_⟩);have hf:H1 s1.heap.objs.size=none:=I1.hok.fresh (YD _);refine ⟨.ref s1.heap.objs.size,bQ H1 s1.heap.objs.size (.lst xs),I1.laid (t':=s1.toks) (fun b u e=>YB _ e) (YD _) ?_,rfl,q _ hf⟩;exact ⟨z,us,0,r,YL _ rfl⟩
end
abbrev Sp:=List V →Hp →VK →XK →Prop
abbrev vL:=List Env →Hp →Shared →XK →Value →Shared →Prop
structure yR (P:Program)(w:World)(K:PySem.W.Frag)(mg:Str →Option Value)(base:Heap)(A:Around)(outer:List Env)(s:Shared)(H:Hp):Prop where
 frames:A.frames=some outer
 mod:Mod K mg base
 bs:∀ b o,base.get? b=some o →s.heap.get? b=some o∧H b=none
 bsz:base.objs.size ≤ s.heap.objs.size
 funs:s.heap.FunFrames base outer
 frf:∀ b∈iV outer,H b=none
 hok:mQ P w H s.heap
 bare:AllBare s.gens
def CE (outer:List Env)(P:Program)(w:World)(H:Hp)(s:Shared)(Q:VK)(u:Value)(s':Shared):Prop :=
 ∃ v H',s'.os=s.os∧AllBare s'.gens∧Un (iV outer) [] H H' s.heap s'.heap∧mQ P w H' s'.heap∧RelV v u∧Q v H'
def CR (CX:vL)(outer:List Env)(P:Program)(w:World)(H:Hp)(s:Shared)(Q:VK)(E:XK)(r:Result)(s':Shared):Prop :=
 match r with
 | .ok (.ret u)=>CE outer P w H s Q u s'
 | .ok _=>False
 | .error e=>CX outer H s E e s'
structure bD (P:Program)(w:World)(K:PySem.W.Frag)(mg:Str →Option Value)(base:Heap)(CX:vL)(k:Nat)(f:Addr)(fd:FuncData)(ps:List Str)(sp:Sp):Prop where
 len:∀ vs H Q E,sp vs H Q E →vs.length=ps.length
 run:∀ (A:Around) (outer:List Env) (s:Shared) (H:Hp) (args:Args) (us:List Value) (vs:List V) (Q:VK) (E:XK),dM k A →yR P w K mg base A outer s H →BindsTo s fd args (ps.zip us) →bM vs us →sp vs H Q E →
  codeAny (model P w) A (.call (.ref f) args) (CR CX outer P w H s Q E) s
theorem bD.mono {P:Program}{w:World}{K:PySem.W.Frag}{mg:Str →Option Value}{base:Heap}{CX:vL}{j k:Nat}{f:Addr}{fd:FuncData}{ps:List Str}{sp:Sp}(F:bD P w K mg base CX j f fd ps sp)(h:j ≤ k) :
  bD P w K mg base CX k f fd ps sp:=⟨F.len,fun A outer s H args us vs Q E hr=>F.run A outer s H args us vs Q E (hr.mono h)⟩
theorem bD.imp {P:Program}{w:World}{K:PySem.W.Frag}{mg:Str →Option Value}{base:Heap}{CX:vL}{k:Nat}{f:Addr}{fd:FuncData}{ps:List Str}{sp sp':Sp}(F:bD P w K mg base CX k f fd ps sp)
  (h:∀ vs H Q E,sp' vs H Q E →sp vs H Q E):bD P w K mg base CX k f fd ps sp' :=
 ⟨fun vs H Q E q=>F.len vs H Q E (h _ _ _ _ q),fun A outer s H args us vs Q E hr he hb hv hs=>F.run A outer s H args us vs Q E hr he hb hv (h _ _ _ _ hs)⟩
theorem yR.make {P:Program}{w:World}{K:PySem.W.Frag}{mg:Str →Option Value}{base:Heap}{A:Around}{outer:List Env}{s:Shared}{H:Hp}(e:yR P w K mg base A outer s H)(C:Addr)(us:List Value)(kw:List (Str×Value)) :
  yR P w K mg base (A.under (.builtin "type.__call__" ⟨.ref C::us,kw⟩)) outer s H:=⟨by first | exact e.frames | (simpa [Around.under,Code.envs,Code.isFrame,pushEnvs] using e.frames),e.mod,e.bs,e.bsz,e.funs,e.frf,e.hok,e.bare⟩
section
variable {X:Cx}{pins:List (Addr×Obj)}{σ:St}{H:Hp}{s s':Shared}
theorem aU.env0 (I:aU X pins σ H s):yR X.prog X.w X.K X.mg X.base X.A X.stack s H :=
 ⟨I.ok.frames,I.ok.mod,I.bs,Y5 I.ok.bsz I.sz,I.stack,I.stkFree,I.hok,I.bare⟩
theorem aU.after {Q:VK}{u:Value}(I:aU X pins σ H s)(h:CE X.stack X.prog X.w H s Q u s'):EP X pins σ Q u s':=by
 obtain ⟨v,H',os,bare,un,hok,r,q⟩:=h;obtain ⟨hh,g,d,t,os'⟩:=s';obtain rfl:os'=s.os:=os;exact ⟨v,H',I.call (h':=hh) (g':=g) (d':=d) (t':=t) (ch:=[]) un hok bare (fun b z=>absurd z (by simp)),r,q⟩
end
def Hz (sp:Sp)(dvs:List V)(E:XK)(t:TA):TE:=fun σ H Q=>t σ H fun vs H1=>sp (vs++dvs) H1 Q E
def Ac (C:Addr)(m:Str)(sp:Sp)(dvs:List V)(E:XK)(ta:TE)(t:TA):TE:=fun σ H Q=>ta σ H fun x H1=>∃ a dx fs,x=.ref a∧H1 a=some (.ins C dx fs)∧fs.lookup m=none ∧
 t σ H1 fun vs H2=>sp (x::(vs++dvs)) H2 Q E
def KZ (C:Addr)(sp:Sp)(dvs:List V)(E:XK)(t:TA):TE:=fun σ H Q=>t σ H fun vs H1=>∀ x dx,H1 x=none →H1 dx=none →dx≠x →
 sp (.ref x::(vs++dvs)) (bQ (bQ H1 dx (.own x)) x (.ins C dx [])) (fun v H2=>v=.non∧Q (.ref x) H2) E
def Binds (K:PySem.W.Frag)(fd:FuncData)(ps:List Str)(ds:List Value):Prop :=
 ∀ (s:Shared) (us:List Value),K.In s.heap →(us++ds).length=ps.length →BindsTo s fd ⟨us,[]⟩ (ps.zip (us++ds))
theorem Binds.all {K:PySem.W.Frag}{fd:FuncData}{ps:List Str}(h:∀ us:List Value,us.length=ps.length →bindArgs fd ⟨us,[]⟩=pure (ps.zip us)):Binds K fd ps []:=fun s us _ hl=>by
 rw [Yy] at hl ⊢;exact .of_eq (h us hl)
def m8 (CX:vL)(X:Cx)(E:XK):Prop:=∀ (pins:List (Addr×Obj)) (σ:St) (H:Hp) (s:Shared) (e:Value) (s':Shared),aU X pins σ H s →CX X.stack H s E e s' →X.xe e s'
section
variable {X:Cx}{CX:vL}{k:Nat}{f C:Addr}{fd:FuncData}{ps:List Str}{sp:Sp}{dvs:List V}{ds:List Value}{E:XK}{x m:Str}{p pos apos:Pos}{e o:Expr}{es:List Expr}{ta:TE}{t:TA}
theorem FT {pins:List (Addr×Obj)}{σ:St}{H:Hp}{s:Shared}{Q:VK}{us:List Value}{vs:List V}(F:bD X.prog X.w X.K X.mg X.base CX k f fd ps sp)(hr:dM k X.A)(hb:Binds X.K fd ps ds)(hd:bM dvs ds)(hx:m8 CX X E)
  (I:aU X pins σ H s) (r:bM vs us) (h:sp (vs++dvs) H Q E):wpAny (model X.prog X.w) X.A (call (.ref f) us) (EP X pins σ Q) X.xe s:=by
 have r2:bM (vs++dvs) (us++ds):=r.append hd;have hl:(us++ds).length=ps.length:=by rw [← r2.length]; exact F.len _ _ _ _ h
 refine wpAny_call (codeAny_mono (F.run X.A X.stack s H ⟨us,[]⟩ (us++ds) (vs++dvs) Q E hr I.env0 (hb s us I.kIn hl) r2 h) fun r s' hq=>?_);cases r with
 | error e=>exact hx pins σ H s e s' I hq
 | ok fl =>
  cases fl with
  | ret u=>exact I.after hq
  | next=>exact False.elim hq
  | brk=>exact False.elim hq
  | cont=>exact False.elim hq
theorem Gx (F:bD X.prog X.w X.K X.mg X.base CX k f fd ps sp)(hr:dM k X.A)(hg:Gl X x)(hm:X.mg x=some (.ref f))(hk:PySem.W.keepIn X.K (.ref f)=true)(hb:Binds X.K fd ps ds)(hd:bM dvs ds)(hx:m8 CX X E)
  (ha:PA X (e::es) t) (hdb:(x==("__debug__" : Str))=false:=by decide) (he:starEach (e::es) X.env=(false,eval e X.env)::starEach es X.env:=by rfl) (hpl:(backTo pos (starEach es X.env)).any (·.1)=false:=by rfl) :
  PE X (.Call (.Name x p) (e::es) [] pos) (Hz sp dvs E t):=by
 intro pins s σ H Q I h;refine wpAny_Call_Name_kw (gY I hg hm ?_ hdb);refine PySem.W.callWith_K (h₀:=X.base) I.ok.mod.kin hk (cN (ha pos pins s σ H _ I h) fun us s1 ⟨vs,H1,I1,r,q⟩=>⟨I1.kIn,?_⟩) he hpl;exact FT F hr hb hd hx I1 r q
theorem uQ {pl:Sem Bool}(he:PE X o ta)(c:tY X.K C)(hm:yK X.K C m f)(F:bD X.prog X.w X.K X.mg X.base CX k f fd ps sp)(hr:dM k X.A)(hb:Binds X.K fd ps ds)(hd:bM dvs ds)(hx:m8 CX X E)(ha:PA X (e::es) t)
  (hst:starEach (e::es) X.env=(false,eval e X.env)::starEach es X.env:=by rfl) (hpl:(backTo pos (starEach es X.env)).any (·.1)=false:=by rfl)
  (ht:eval (.Call (.Attribute o m apos) (e::es) [] pos) X.env=(do
   let ov ← eval o X.env
   standAt apos.atName
   let (f,first) ← holding [ov] (getMethod ov m pl)
   callWith pos f first (backTo pos (starEach (e::es) X.env)) (backToKw pos (keywordEach [] X.env))):=by rfl) :
  PE X (.Call (.Attribute o m apos) (e::es) [] pos) (Ac C m sp dvs E ta t):=by
 intro pins s σ H Q I h;refine PySem.W.methodCall_KW (pl:=pl) (cN (he pins s σ H _ I h) fun u s1 ⟨x,H1,I1,rx,a,dx,fs,ex,ea,l,q⟩=>?_) ht;subst ex;obtain rfl:u=Value.ref a:=rx;refine qJ I1 ea c hm l ?_;refine PySem.W.callWith_K (first:=[.ref a]) (h₀:=X.base) I.ok.mod.kin hm.kp (cN (ha pos pins s1 σ H1 _ I1 q) fun us s2 ⟨vs,H2,I2,r,q2⟩=>⟨I2.kIn,?_⟩) hst hpl;exact FT (us:=.ref a::us) (vs:=.ref a::vs) F hr hb hd hx I2 (.cons rfl r) q2
structure Mk (K:PySem.W.Frag)(C f:Addr):Prop where
 makes:PySem.W.makesIn K C=true
 init:PySem.W.findIn K (.ref C) "__init__" = some (some (.ref f))
 fn:PySem.W.isFn K (.ref f)=true
 kp:PySem.W.keepIn K (.ref C)=true
theorem Em {pins:List (Addr×Obj)}{σ:St}{H:Hp}{s:Shared}{Q:VK}{us:List Value}{vs:List V}(M:Mk X.K C f)(F:bD X.prog X.w X.K X.mg X.base CX k f fd ps sp)(hr:dM (k+1) X.A)(hb:Binds X.K fd ps ds)(hd:bM dvs ds)
  (hx:m8 CX X E) (I:aU X pins σ H s) (r:bM vs us)
  (h:∀ x dx,H x=none →H dx=none →dx≠x →sp (.ref x::(vs++dvs)) (bQ (bQ H dx (.own x)) x (.ins C dx [])) (fun v H2=>v=.non∧Q (.ref x) H2) E) :
  wpAny (model X.prog X.w) X.A (call (.ref C) us) (EP X pins σ Q) X.xe s:=by
 have hq:=h (s.heap.objs.size+1) s.heap.objs.size (I.hok.fresh (Zq _)) (I.hok.fresh (YD _)) (YW (Zv _));have I2:=aU.made (C:=C) I;have r2:bM (V.ref (s.heap.objs.size+1)::(vs++dvs)) (Value.ref (s.heap.objs.size+1)::(us++ds)):=.cons rfl (r.append hd);have hl:(Value.ref (s.heap.objs.size+1)::us++ds).length=ps.length:=by
  have e:=r2.length;rw [F.len _ _ _ _ hq] at e;exact e.symm
 refine wpAny_call (En (f:=f) I.kIn M.makes M.init (beq_iff_eq.mp M.fn) (codeAny_mono (F.run _ X.stack _ _ ⟨Value.ref (s.heap.objs.size+1)::us,[]⟩ (Value.ref (s.heap.objs.size+1)::(us++ds)) _ _ E (hr.make C us [])
  (I2.env0.make C us []) (hb _ (Value.ref (s.heap.objs.size+1)::us) I2.kIn hl) r2 hq) fun r s' hq'=>?_))
 cases r with
 | error e=>exact hx pins σ _ _ e s' I2 hq'
 | ok fl =>
  cases fl with
  | ret u =>
   obtain ⟨v,H',I3,rv,ev,q3⟩:=I2.after hq';subst ev;exact ⟨rv,⟨V.ref (s.heap.objs.size+1),H',I3,rfl,q3⟩⟩
  | next=>exact False.elim hq'
  | brk=>exact False.elim hq'
  | cont=>exact False.elim hq'
theorem tX (M:Mk X.K C f)(F:bD X.prog X.w X.K X.mg X.base CX k f fd ps sp)(hr:dM (k+1) X.A)(hg:Gl X x)(hm:X.mg x=some (.ref C))(hb:Binds X.K fd ps ds)(hd:bM dvs ds)(hx:m8 CX X E)
  (ha:PA X (e::es) t) (hdb:(x==("__debug__" : Str))=false:=by decide) (he:starEach (e::es) X.env=(false,eval e X.env)::starEach es X.env:=by rfl) (hpl:(backTo pos (starEach es X.env)).any (·.1)=false:=by rfl) :
  PE X (.Call (.Name x p) (e::es) [] pos) (KZ C sp dvs E t):=by
 intro pins s σ H Q I h;refine wpAny_Call_Name_kw (gY I hg hm ?_ hdb);refine PySem.W.callWith_K (h₀:=X.base) I.ok.mod.kin M.kp (cN (ha pos pins s σ H _ I h) fun us s1 ⟨vs,H1,I1,r,q⟩=>⟨I1.kIn,?_⟩) he hpl;exact Em M F hr hb hd hx I1 r q
end
structure aY (N P:List Str)(sc:Scope):Prop where
 kind:sc.kind=.function
 co:sc.isCoroutine=false
 gen:sc.isGenerator=false
 nd:N.Nodup
 pre:N.take P.length=P
 par:∀ x∈P,sc.names.lookup x=some .local∨sc.names.lookup x=some .cell
 nofree:∀ y∈sc.names,y.2≠.free
theorem sZ {kindOf:Str →Option NameKind}{x:Str}:∀ {binds:List (Str×Value)}{m:Str →Option Value},(∀ v,(x,v)∉binds) →bindL kindOf binds m x=m x
 | [],_,_=>rfl
 | (n,v)::r,m,h=>by
  unfold bindL;rw [sZ fun w hw=>h w (Yb _ hw)]
  split
  ·have:x≠n:=by rintro rfl; exact h v Yg
   simp [this]
  ·rfl
theorem rT {kindOf:Str →Option NameKind}{x:Str}:∀ {binds:List (Str×Value)}{m:Str →Option Value},(∀ v,(x,v)∉binds) →bindC kindOf binds m x=m x
 | [],_,_=>rfl
 | (n,v)::r,m,h=>by
  unfold bindC;rw [rT fun w hw=>h w (Yb _ hw)]
  split
  ·rfl
  ·have:x≠n:=by rintro rfl; exact h v Yg
   simp [this]
theorem sU {kindOf:Str →Option NameKind}{x:Str}{v:Value}:∀ {P:List Str}{vs:List Value}{i:Nat}{m:Str →Option Value},P.Nodup →P[i]? = some x →vs[i]? = some v →kindOf x=some .local →
  bindL kindOf (P.zip vs) m x=some v
 | [],_,_,_,_,h,_,_=>by simp at h
 | _::_,[],_,_,_,_,h,_=>by simp at h
 | p::P,w::vs,0,m,nd,h1,h2,hk=>by
  simp at h1 h2; subst h1; subst h2;show bindL kindOf ((p,w)::P.zip vs) m p=_;unfold bindL;rw [sZ fun v hv=>(Z4.mp nd).1 (aAm hv).1,if_pos hk];simp
 | p::P,w::vs,i+1,m,nd,h1,h2,hk=>by
  show bindL kindOf ((p,w)::P.zip vs) m x=_;unfold bindL;exact sU (i:=i) (Z4.mp nd).2 (by simpa using h1) (by simpa using h2) hk
theorem sH {kindOf:Str →Option NameKind}{x:Str}{v:Value}:∀ {P:List Str}{vs:List Value}{i:Nat}{m:Str →Option Value},P.Nodup →P[i]? = some x →vs[i]? = some v →kindOf x≠some .local →
  bindC kindOf (P.zip vs) m x=some v
 | [],_,_,_,_,h,_,_=>by simp at h
 | _::_,[],_,_,_,_,h,_=>by simp at h
 | p::P,w::vs,0,m,nd,h1,h2,hk=>by
  simp at h1 h2; subst h1; subst h2;show bindC kindOf ((p,w)::P.zip vs) m p=_;unfold bindC;rw [rT fun v hv=>(Z4.mp nd).1 (aAm hv).1,if_neg hk];simp
 | p::P,w::vs,i+1,m,nd,h1,h2,hk=>by
  show bindC kindOf ((p,w)::P.zip vs) m x=_;unfold bindC;exact sH (i:=i) (Z4.mp nd).2 (by simpa using h1) (by simpa using h2) hk
def start (N:List Str)(vs:List V):St:=vs.map some++ZZ (N.length-vs.length) none
def oO (CX:vL)(P:Program)(w:World)(K:PySem.W.Frag)(mg:Str →Option Value)(base:Heap)(N:List Str)(qual:Str)(scope:Scope)(f:Addr)(cd:Value)(A:Around)(outer:List Env)(s:Shared)(H:Hp)(E:XK):Cx where
 prog:=P
 w:=w
 K:=K
 mg:=mg
 base:=base
 A:=A.deeper (envOfC qual scope s.heap.objs.size f cd)
 N:=N
 s₀:=s
 H₀:=H
 env:=envOfC qual scope s.heap.objs.size f cd
 outer:=outer
 stack:=envOfC qual scope s.heap.objs.size f cd::outer
 ex:=[]
 calm:=true
 fn:=fun _=>true
 pn:=[]
 xe:=fun e s'=>wpAny (model P w) (A.deeper (envOfC qual scope s.heap.objs.size f cd)) (leaving (envOfC qual scope s.heap.objs.size f cd) e) (fun _ s''=>CX outer H s E e s'') (fun e' s''=>CX outer H s E e' s'') s'
theorem vQ {sc:Scope}{n:Nat}{x:Str}(h:sc.names.lookup x=some .cell):∃ c,(cellsFrom n sc.names []).lookup x=some c:=by
 have q:=PySem.W.cellsFrom_some sc.names n [] (.inl h);exact Option.isSome_iff_exists.mp q
theorem tD {CX:vL}{P:Program}{w:World}{K:PySem.W.Frag}{mg:Str →Option Value}{base:Heap}{N ps:List Str}{qual:Str}{scope:Scope}{f:Addr}{cd:Value}{A:Around}{outer:List Env}{s s1:Shared}{H:Hp}{E:XK}{us:List Value}{vs:List V}
  (S:aY N ps scope) (hd:A.handled=none) (e0:yR P w K mg base A outer s H) (hl:vs.length=ps.length) (r:bM vs us)
  (x:InCallC s s.heap.objs.size (bindL (envOfC qual scope s.heap.objs.size f cd).kindOf (ps.zip us) fun _=>none) (cellsFrom (s.heap.objs.size+1) scope.names []) (bindC (envOfC qual scope s.heap.objs.size f cd).kindOf (ps.zip us) fun _=>none) s1) :
  aU (oO CX P w K mg base N qual scope f cd A outer s H E) [] (start N vs) H s1:=by
 have hpl:ps.length ≤ N.length:=by have:=congrArg aA6 S.pre; rw [ZJ] at this; omega
 obtain ⟨h1,tk,rfl,hk⟩:=x.done;have noA:∀ b:Addr,b∉(oO CX P w K mg base N qual scope f cd A outer s H E).ex:=fun b z=>absurd (show b∈([]:List Addr) from z) (by simp);refine ⟨⟨e0.mod,S.kind,rfl,rfl,YD _,fun y z c h1 h2=>?_,fun y hy=>?_,fun y c _ h=>?_,fun _=>hd,Around.frames_deeper e0.frames,.inr ⟨rfl,rfl⟩,fun b z=>absurd z (noA b),e0.bs,e0.bsz,fun b _ _=>noA b,fun b z=>absurd z (noA b),e0.funs,e0.frf⟩,
  rfl,e0.bare,Un.kept hk,⟨_,x.toInCall.ns,fun i y v h1 h2 h3=>?_⟩,fun y c h=>⟨_,x.cell y c h⟩,e0.hok.fresh (YD _),fun y c h=>?_,fun p hp=>absurd (show p∈([]:List (Addr×Obj)) from hp) (by simp),e0.hok.kept hk,?_⟩
 ·exact name_of_addr x.apart (PySem.mem_of_lookup h1) (PySem.mem_of_lookup h2)
 ·have hy:scope.names.lookup y=some .cell∨scope.names.lookup y=some .free:=hy;rcases hy with hy | hy
  ·exact vQ hy
  ·exact absurd rfl (S.nofree _ (PySem.mem_of_lookup hy))
 ·exact ZP (x.above y c (PySem.mem_of_lookup h))
 ·have hi:i<vs.length:=by
   unfold start at h2
   by_cases hi:i<vs.length
   ·exact hi
   ·rw [Zr (by simpa using hi)] at h2;rw [aAz] at h2
    split at h2 <;> cases h2
  have ha:vs[i]? = some v:=by
   unfold start at h2;rw [aAt (by simpa using hi),Y7] at h2;cases e:vs[i]? with
   | none=>rw [e] at h2; cases h2
   | some a=>rw [e] at h2; cases h2; rfl
  obtain ⟨u,hu,rv⟩:=r.get ha;have hp:ps[i]? = some y:=by
   rw [← S.pre,List.getElem?_take_of_lt (by omega)]; exact h1
  have ndP:ps.Nodup:=by rw [← S.pre]; exact S.nd.sublist (aAZ _ _)
  refine ⟨u,rv,?_⟩;rcases S.par y (Yc hp) with k | k
  ·exact .inl ⟨k,sU ndP hp hu k⟩
  ·obtain ⟨c,e⟩:=vQ (n:=s.heap.objs.size+1) k;refine .inr ⟨.inl k,c,e,?_⟩;have q:=x.cell y c e;rw [sH ndP hp hu (by show scope.names.lookup y≠_; rw [k]; decide)] at q;exact q
 ·exact e0.hok.fresh (ZP (x.above y c (PySem.mem_of_lookup h)))
 ·unfold start;show _=N.length;rw [YQ,YH,Zk];omega
theorem Hw {CX:vL}{P:Program}{w:World}{K:PySem.W.Frag}{mg:Str →Option Value}{base:Heap}{k:Nat}{f:Addr}{name qual:Str}{params:Arguments}{body:List Stmt}{scope:Scope}{dV kV doc pm cdv ct oc:Value}{an od:Option Addr}
  {osl:Array (Option Value)}{N ps:List Str}{sp:Sp} (lk:K.lookup f=some ⟨oc,od,.func (PySem.W.fnOf name qual params body scope dV kV doc pm an cdv ct),osl⟩) (hcd:PySem.W.codeIn K cdv qual=true) (S:aY N ps scope)
  (len:∀ vs H Q E,sp vs H Q E →vs.length=ps.length)
  (hbody:∀ (A:Around) (outer:List Env) (s:Shared) (H:Hp) (vs:List V) (Q:VK) (E:XK),dM k (A.deeper (envOfC qual scope s.heap.objs.size f cdv)) →sp vs H Q E →
   ∃ t,vK (oO CX P w K mg base N qual scope f cdv A outer s H E) body t∧t { nx:=fun _ H'=>Q .non H',rt:=Q } (start N vs) H) :
  bD P w K mg base CX (k+1) f (PySem.W.fnOf name qual params body scope dV kV doc pm an cdv ct) ps sp:=by
 refine ⟨len,fun A outer s H args us vs Q E hr e0 hb r hsp=>?_⟩;have hl:=len _ _ _ _ hsp;have KX:K.In s.heap:=e0.mod.kin.keeps fun b o e=>(e0.bs b o e).1;have lim:s.heap.NoLimit:=e0.mod.nolimit.keeps fun b o e=>(e0.bs b o e).1;have hkind:∀ y∈ps.zip us,scope.names.lookup y.1=some .local∨(scope.names.lookup y.1=some .cell∧((cellsFrom (s.heap.objs.size+1) scope.names []).lookup y.1).isSome=true):=fun ⟨n,v⟩ hy=>by
  rcases S.par n (aAm hy).1 with q | q
  ·exact .inl q
  ·exact .inr ⟨q,PySem.W.cellsFrom_some _ _ _ (.inl q)⟩
 refine codeAny_call_function hr.depth (KX _ _ lk) rfl S.co S.gen rfl (PySem.W.codeRec_of KX hcd) (hb _ _ _ _ ?_);refine wpAny_newFunctionEnv_cells S.kind hkind fun env he s1 x=>?_;subst he;refine ⟨lim.keeps x.toInCall.keep,codeAny_func ?_⟩;obtain ⟨t,ht,hq⟩:=hbody A outer s H vs Q E (hr.deeper _) hsp;have I:aU (oO CX P w K mg base N qual scope f cdv A outer s H E) [] (start N vs) H s1:=tD S hr.hd e0 hl r x;refine wpAny_mono (ht [] s1 (start N vs) H _ I hq) (fun fl s' hs=>?_) fun e s' hs=>hs;have fin:∀ {σ':St}{H':Hp}{v:V}{u:Value},aU (oO CX P w K mg base N qual scope f cdv A outer s H E) [] σ' H' s' →RelV v u →Q v H' →CE outer P w H s Q u s' :=
  fun {σ' H' v u} J rv q=>⟨v,H',J.os,J.bare,J.base,J.hok,rv,q⟩
 cases fl with
 | ret u =>
  obtain ⟨v,σ',H',J,rv,q⟩:=hs;exact fin J rv q
 | next =>
  obtain ⟨σ',H',J,q⟩:=hs;exact fin (v:=V.non) (u:=Value.none) J rfl q
 | brk =>
  obtain ⟨_,_,_,q⟩:=hs;exact False.elim q
 | cont =>
  obtain ⟨_,_,_,q⟩:=hs;exact False.elim q
section
variable {X:Cx}{x:Str}{p pos:Pos}{e:Expr}{es:List Expr}{t:TA}{id T:String}{r:List V →Hp →VK →Prop}
def Sw (r:List V →Hp →VK →Prop)(t:TA):TE:=fun σ H Q=>t σ H fun vs H1=>r vs H1 Q
theorem aR (hc:cU X (.builtin id) r)(hg:Gl X x)(hm:X.mg x=none)(hv:bootBuiltins x=some (.builtin id))(ha:PA X (e::es) t)(hn:x≠"__name__":=by decide)(hdb:(x==("__debug__" : Str))=false:=by decide)
  (he:starEach (e::es) X.env=(false,eval e X.env)::starEach es X.env:=by rfl) (hpl:(backTo pos (starEach es X.env)).any (·.1)=false:=by rfl):PE X (.Call (.Name x p) (e::es) [] pos) (Sw r t):=by
 intro pins s σ H Q I h;refine wpAny_Call_Name_kw (mU I hg hm hv ?_ hn hdb);exact PyProof.Rows.callWith_builtin1 (cN (ha pos pins s σ H _ I h) fun us s1 ⟨vs,H1,I1,r1,q1⟩=>hc pins s1 σ H1 vs us Q I1 r1 q1) he hpl
theorem cM (hc:cU X (.type T) r)(hg:Gl X x)(hm:X.mg x=none)(hv:bootBuiltins x=some (.type T))(ha:PA X (e::es) t)(hn:x≠"__name__":=by decide)(hdb:(x==("__debug__" : Str))=false:=by decide)
  (he:starEach (e::es) X.env=(false,eval e X.env)::starEach es X.env:=by rfl) (hpl:(backTo pos (starEach es X.env)).any (·.1)=false:=by rfl):PE X (.Call (.Name x p) (e::es) [] pos) (Sw r t):=by
 intro pins s σ H Q I h;refine wpAny_Call_Name_kw (mU I hg hm hv ?_ hn hdb);exact PyProof.Rows.callWith_type1 (cN (ha pos pins s σ H _ I h) fun us s1 ⟨vs,H1,I1,r1,q1⟩=>hc pins s1 σ H1 vs us Q I1 r1 q1) he hpl
end
abbrev TO:=St →Hp →(Option Int →Hp →Prop) →Prop
theorem intsAre_of {ns:List Int}:∀ {us:List Value},bM (ns.map V.int) us →IntsAre us ns:=by
 induction ns with
 | nil=>intro us r; rw [List.map_nil] at r; cases r; exact .nil
 | cons n ns ih =>
  intro us r;rw [Z6] at r;cases r with
  | cons r1 r2 =>
   obtain ⟨t,e⟩:=r1;subst e;exact .cons n t (ih r2)
def GD (n:Nat)(i:Int):Option Nat:=if 0 ≤ i then (if i<n then some i.toNat else none) else if -(n:Int) ≤ i then some (i+n).toNat else none
def xM {α:Type}(xs:List α)(i:Int):Option α:=(GD xs.length i).bind fun j=>xs[j]?
theorem vJ {n:Nat}{i:Int}{j:Nat}(h:GD n i=some j):seqIndex? i n=some j∧j<n∧-(n:Int) ≤ i∧i<n:=by
 unfold GD at h
 by_cases h0:0 ≤ i
 ·rw [if_pos h0] at h
  by_cases h1:i<n
  ·rw [if_pos h1] at h;have e:i.toNat=j:=ZW.inj h;exact ⟨by rw [seqIndex_of h0 h1,e],by omega,by omega,h1⟩
  ·rw [if_neg h1] at h; cases h
 ·rw [if_neg h0] at h
  by_cases h1:-(n:Int) ≤ i
  ·rw [if_pos h1] at h;have e:(i+n).toNat=j:=ZW.inj h;exact ⟨by rw [seqIndex_neg (by omega) h1,e],by omega,h1,by omega⟩
  ·rw [if_neg h1] at h; cases h
theorem zW {α:Type}{xs:List α}{i:Int}{v:α}(h:xM xs i=some v):∃ j,seqIndex? i xs.length=some j∧xs[j]? = some v∧j<xs.length∧-(xs.length:Int) ≤ i∧i<xs.length:=by
 unfold xM at h;cases e:GD xs.length i with
 | none=>rw [e] at h; cases h
 | some j =>
  rw [e] at h;obtain ⟨h1,h2,h3,h4⟩:=vJ e;exact ⟨j,h1,h,h2,h3,h4⟩
theorem jR {α:Type}{xs:List α}{j:Nat}{v:α}(h:xs[j]? = some v):xM xs (j:Int)=some v:=by
 have hj:j<xs.length:=(Y8.mp h).1;have e:GD xs.length (j:Int)=some j:=by
  unfold GD;rw [if_pos (by omega),if_pos (by omega)]; simp
 unfold xM; rw [e]; exact h
def Hj (b:Expr):Prop:=∀ o i,subscripted b false o i=operate [o,i] (getItem o i)
def Nu (X:Cx)(r:R2):Prop :=
 ∀ (value slice:Expr) (pins:List (Addr×Obj)) (s:Shared) (σ:St) (H:Hp) (x y:V) (v u:Value) (Q:VK),aU X pins σ H s →RelV x v →RelV y u →r x y H Q →
  subscripted slice false v u=operate [v,u] (getItem v u) →wpAny (model X.prog X.w) X.A (subscriptTail value slice v u) (EP X pins σ Q) X.xe s
def TV (X:Cx)(id:String)(r:V →List V →Hp →VK →Prop):Prop :=
 ∀ (pins:List (Addr×Obj)) (s:Shared) (σ:St) (H:Hp) (x:V) (xs:List V) (v:Value) (us:List Value) (Q:VK),aU X pins σ H s →RelV x v →bM xs us →r x xs H Q →
  wpAny (model X.prog X.w) X.A (call (.builtin id) (v::us)) (EP X pins σ Q) X.xe s
section
variable {X:Cx}{a b:Expr}{ta tb:TE}{pos:Pos}
theorem bJ {r:R2}(hr:Nu X r)(ha:PE X a ta)(hb:PE X b tb)(hs:Hj b):PE X (.Subscript a b pos) (Ob r ta tb):=by
 intro pins s σ H Q I h;exact Subscript_ (Iv ha hb I h fun v u s2 x y H2 I2 rx ry q=>hr a b pins s2 σ H2 x y v u Q I2 rx ry q (hs _ _))
def Nf (K:PySem.W.Frag):R2:=fun x y H Q=>∃ p xs i v,x=.ref p∧y=.int i∧bL K H p xs∧xM xs i=some v∧Q v H
def Li (K:PySem.W.Frag):R2:=fun x y H Q=>∃ p xs i v,x=.ref p∧y=.int i∧dG K H p xs∧xM xs i=some v∧Q v H
theorem cF:Nu X (Nf X.K):=by
 intro value slice pins s σ H x y v u Q I rx ry h hs;obtain ⟨p,xs,i,z,rfl,rfl,hq,he,q⟩:=h;cases rx;obtain ⟨t,rfl⟩:=ry;obtain ⟨its,r,pl,hz⟩:=I.list hq;obtain ⟨j,h1,h2,h3,h4,h5⟩:=zW he;obtain ⟨w,ew,rw'⟩:=r.get h2;have hl:=r.length;have hn:=uM;have fin:EP X pins σ Q w s:=⟨z,H,I,rw',q⟩
 by_cases h0:0 ≤ i
 ·have hj:i.toNat=j:=by
   rw [seqIndex_of h0 h5] at h1;exact ZW.inj h1
  exact item_listR pl.isList h0 (by omega) (by rw [hj]; simpa using ew) fin hs
 ·have hj:(i+(its.toArray.size:Int)).toNat=j:=by
   rw [seqIndex_neg (by omega) h4] at h1;rw [YC,← hl];exact ZW.inj h1
  exact subscriptTail_builtinR (x:=w) pl.isList.typeIs slot_list_getitem.lookup
   (wpAny_getItem_list_neg (Q:=fun r s'=>r=w∧EP X pins σ Q r s') pl.isList (by omega) (by rw [YC] <;> omega) (by omega) (by rw [hj]; simpa using ew) ⟨rfl,fin⟩) hs
theorem b7:Nu X (Li X.K):=by
 intro value slice pins s σ H x y v u Q I rx ry h hs;obtain ⟨p,xs,i,z,rfl,rfl,hq,he,q⟩:=h;cases rx;obtain ⟨t,rfl⟩:=ry;obtain ⟨its,r,pl,hz⟩:=I.tuple hq;obtain ⟨j,h1,h2,h3,h4,h5⟩:=zW he;obtain ⟨w,ew,rw'⟩:=r.get h2;have hl:=r.length;have hn:=uM;have fin:EP X pins σ Q w s:=⟨z,H,I,rw',q⟩
 exact subscriptTail_builtinR (x:=w) pl.typeIs slot_tuple_getitem.lookup
  (getItem_tuple (j:=j) (Q:=fun r s'=>r=w∧EP X pins σ Q r s') pl (by omega) (by omega) (by rw [YC,← hl]; exact h1) (by simpa using ew) ⟨rfl,fin⟩) hs
theorem xQ (its:List Value)(n j:Nat)(u:Value):Obj.mapSeq (·.setIfInBounds j u) { cls:=.type "list",data:=.seq its.toArray n } = { cls:=.type "list",data:=.seq (its.set j u).toArray n }:=by
 simp [Obj.mapSeq]
theorem aU.lst {pins:List (Addr×Obj)}{σ:St}{H:Hp}{s:Shared}{p:Addr}{xs:List V}(I:aU X pins σ H s)(h:H p=some (.lst xs)) :
  ∃ (its:List Value) (n:Nat),bM xs its∧s.heap.get? p=some { cls:=.type "list",data:=.seq its.toArray n }∧xs.length ≤ sizeLine:=by
 obtain ⟨z,its,n,r,e⟩:=I.hok p _ h;exact ⟨its,n,r,e,z⟩
theorem aU.lstUpd {pins:List (Addr×Obj)}{σ:St}{H:Hp}{s:Shared}{p:Addr}{xs ys:List V}{its its':List Value}{n n':Nat}{f:Obj →Obj}(I:aU X pins σ H s)(h:H p=some (.lst xs))
  (ho:s.heap.get? p=some { cls:=.type "list",data:=.seq its.toArray n }) (hf:f { cls:=.type "list",data:=.seq its.toArray n } = { cls:=.type "list",data:=.seq its'.toArray n' }) (r:bM ys its') (hz:ys.length ≤ sizeLine) (t:Nat) :
  aU X pins σ (bQ H p (.lst ys)) { s with heap:=s.heap.update p f,toks:=t }:=by
 have e:(s.heap.update p f).get? p=some { cls:=.type "list",data:=.seq its'.toArray n' }:=by
  rw [Yd f ho (by rw [hf] <;> rfl),hf]
 refine I.write (x:=p) (e:=p) (by rw [h]; trivial) (.inl rfl) (fun b u hb q=>(Yq _ _ (Ne.symm hb)).trans q) ⟨_,e⟩ ?_;exact ⟨hz,its',n',r,e⟩
def K1:V →V →V →Hp →(Hp →Prop) →Prop:=fun o i v H Q=>∃ p xs k j,o=.ref p∧i=.int k∧H p=some (.lst xs)∧GD xs.length k=some j∧Q (bQ H p (.lst (xs.set j v)))
theorem set_list:MJ X K1:=by
 intro pins s σ H o i v ov iv u Q I ro ri rv h;obtain ⟨p,xs,k,j,rfl,rfl,hp,hj,q⟩:=h;cases ro;obtain ⟨t,rfl⟩:=ri;obtain ⟨its,n,r,ho,hz⟩:=I.lst hp;obtain ⟨h1,h2,h3,h4⟩:=vJ hj;have hl:=r.length;have hn:=uM;have I':aU X pins σ (bQ H p (.lst (xs.set j v))) { s with heap:=s.heap.update p (Obj.mapSeq (·.setIfInBounds j u)) } :=
  I.lstUpd hp ho (xQ its n j u) (r.set rv j) (by rw [aA8]; exact hz) s.toks
 by_cases h0:0 ≤ k
 ·have hk:k.toNat=j:=by
   rw [seqIndex_of h0 h4] at h1;exact ZW.inj h1
  exact PySem.W.ki_setAt ho h0 (by omega) (by rw [YC,← hl]; exact h4) (by rw [hk]; exact ⟨_,I',q⟩)
 ·have hk:(k+(its.toArray.size:Int)).toNat=j:=by
   rw [seqIndex_neg (by omega) h3] at h1;rw [YC,← hl];exact ZW.inj h1
  exact PySem.W.ki_setBack ho (by omega) (by rw [YC,← hl]; exact h3) (by omega) (by rw [hk]; exact ⟨_,I',q⟩)
def lO:V →Bool
 | .non=>true
 | .bl _=>true
 | .int _=>true
 | .str _=>true
 | _=>false
def Fx:V →V →Bool
 | .non,.non=>true
 | .bl a,.bl b=>a==b
 | .bl a,.int b=>(if a then 1 else 0)==b
 | .int a,.bl b=>a==(if b then 1 else 0)
 | .int a,.int b=>a==b
 | .str a,.str b=>a==b
 | _,_=>false
theorem JL {A:Around}{s:Shared}{y x:V}{u v:Value}(ry:RelV y u)(rx:RelV x v)(fy:lO y=true)(fx:lO x=true):SeqAt.EqAt A s u v (Fx y x):=by
 cases y with
 | non =>
  cases ry;cases x with
  | non=>cases rx; exact SeqAt.EqAt.same _
  | bl b=>cases rx; exact SeqAt.EqAt.none_bool b
  | int b=>obtain ⟨t,rfl⟩:=rx; exact SeqAt.EqAt.none_int b t
  | str b=>obtain ⟨t,rfl⟩:=rx; exact SeqAt.EqAt.none_str b t
  | _=>exact absurd (show false=true from fx) YM
 | bl a =>
  cases ry;cases x with
  | non=>cases rx; exact SeqAt.EqAt.bool_none a
  | bl b=>cases rx; exact SeqAt.EqAt.bool_bool a b
  | int b=>obtain ⟨t,rfl⟩:=rx; exact SeqAt.EqAt.bool_int a b t
  | str b=>obtain ⟨t,rfl⟩:=rx; exact SeqAt.EqAt.bool_str a b t
  | _=>exact absurd (show false=true from fx) YM
 | int a =>
  obtain ⟨t',rfl⟩:=ry;cases x with
  | non=>cases rx; exact SeqAt.EqAt.int_none a t'
  | bl b=>cases rx; exact SeqAt.EqAt.int_bool a t' b
  | int b=>obtain ⟨t,rfl⟩:=rx; exact SeqAt.EqAt.int_int a t' b t
  | str b=>obtain ⟨t,rfl⟩:=rx; exact SeqAt.EqAt.int_str a t' b t
  | _=>exact absurd (show false=true from fx) YM
 | str a =>
  obtain ⟨t',rfl⟩:=ry;cases x with
  | non=>cases rx; exact SeqAt.EqAt.str_none a t'
  | bl b=>cases rx; exact SeqAt.EqAt.str_bool a t' b
  | int b=>obtain ⟨t,rfl⟩:=rx; exact SeqAt.EqAt.str_int a t' b t
  | str b=>obtain ⟨t,rfl⟩:=rx; exact SeqAt.EqAt.str_str a t' b t
  | _=>exact absurd (show false=true from fx) YM
 | _=>exact absurd (show false=true from fy) YM
def zO (x:V)(u:Value):Bool:=match u with
 | .none=>Fx .non x
 | .bool b=>Fx (.bl b) x
 | .int i _=>Fx (.int i) x
 | .str z _=>Fx (.str z) x
 | _=>false
theorem Ei {x y:V}{u:Value}(r:RelV y u)(f:lO y=true):zO x u=Fx y x:=by
 cases y with
 | non=>cases r; rfl
 | bl b=>cases r; rfl
 | int i=>obtain ⟨t,rfl⟩:=r; rfl
 | str z=>obtain ⟨t,rfl⟩:=r; rfl
 | _=>exact absurd (show false=true from f) YM
theorem lV {x:V}:∀ {xs:List V}{us:List Value},bM xs us →xs.all lO=true →us.any (zO x)=xs.any fun y=>Fx y x
 | _,_,.nil,_=>rfl
 | y::xs,u::us,.cons r t,f=>by
  rw [List.all_cons,Y6] at f;rw [aAg,aAg,Ei r f.1,lV t f.2]
theorem jH {A:Around}{s:Shared}{x:V}{v:Value}(rx:RelV x v)(fx:lO x=true):∀ {xs:List V}{us:List Value},bM xs us →xs.all lO=true →∀ u∈us,SeqAt.EqAt A s u v (zO x u)
 | _,_,.nil,_=>fun u hu=>by cases hu
 | y::xs,u::us,.cons r t,f=>fun u' hu=>by
  rw [List.all_cons,Y6] at f;rcases Ye.mp hu with rfl | hu
  ·rw [Ei r f.1]; exact JL r rx f.1 fx
  ·exact jH rx fx t f.2 u' hu
def oX (x:V)(xs:List V):Bool:=xs.any fun y=>Fx y x
def Tp (K:PySem.W.Frag)(neg:Bool):R2:=fun x y H Q=>∃ p xs,y=.ref p∧(bL K H p xs∨dG K H p xs)∧lO x=true∧xs.all lO=true∧Q (.bl (if neg then !oX x xs else oX x xs)) H
theorem mZ:jV X (compareOp .In) (Tp X.K false):=by
 intro pins s σ H x y v u Q I rx ry h;obtain ⟨p,xs,rfl,hq,fx,fs,q⟩:=h;cases ry;rcases hq with hq | hq
 ·obtain ⟨its,r,pl,hz⟩:=I.list hq;refine SeqAt.in_listAt (zO x) pl.isList (fun w hw=>jH rx fx r fs w (by simpa using hw)) ⟨.bl _,H,I,rfl,?_⟩;rw [show its.toArray.any (zO x)=its.any (zO x) by simp,lV r fs];exact q
 ·obtain ⟨its,r,pl,hz⟩:=I.tuple hq;refine SeqAt.in_tupleAt (zO x) pl (fun w hw=>jH rx fx r fs w (by simpa using hw)) ⟨.bl _,H,I,rfl,?_⟩;rw [show its.toArray.any (zO x)=its.any (zO x) by simp,lV r fs];exact q
theorem cO:jV X (compareOp .NotIn) (Tp X.K true):=by
 intro pins s σ H x y v u Q I rx ry h;obtain ⟨p,xs,rfl,hq,fx,fs,q⟩:=h;cases ry;rcases hq with hq | hq
 ·obtain ⟨its,r,pl,hz⟩:=I.list hq;refine SeqAt.notIn_listAt (zO x) pl.isList (fun w hw=>jH rx fx r fs w (by simpa using hw)) ⟨.bl _,H,I,rfl,?_⟩;rw [show its.toArray.any (zO x)=its.any (zO x) by simp,lV r fs];exact q
 ·obtain ⟨its,r,pl,hz⟩:=I.tuple hq;refine SeqAt.notIn_tupleAt (zO x) pl (fun w hw=>jH rx fx r fs w (by simpa using hw)) ⟨.bl _,H,I,rfl,?_⟩;rw [show its.toArray.any (zO x)=its.any (zO x) by simp,lV r fs];exact q
theorem bF:cU X (.builtin "len") (fun xs H Q=>∃ p ys,xs=[.ref p]∧(bL X.K H p ys∨dG X.K H p ys)∧Q (.int ys.length) H):=by
 intro pins s σ H xs us Q I r h;obtain ⟨p,ys,rfl,hq,q⟩:=h;obtain ⟨u,rfl,rx⟩:=vals1 r;cases rx;have hn:=uM;rcases hq with hq | hq
 ·obtain ⟨its,r',pl,hz⟩:=I.list hq;have hlen:=r'.length;exact Calls.call_len_list pl.isList (by simp only [YC] <;> omega) ⟨.int ys.length,H,I.tok _,⟨s.toks+1,by rw [YC,hlen]⟩,q⟩
 ·obtain ⟨its,r',pl,hz⟩:=I.tuple hq;have hlen:=r'.length;exact len_tuple pl (by simp only [YC] <;> omega) ⟨.int ys.length,H,I.tok _,⟨s.toks+1,by rw [YC,hlen]⟩,q⟩
theorem uX:cU X (.type "list") (fun xs H Q=>∃ p ys,xs=[.ref p]∧(bL X.K H p ys∨dG X.K H p ys)∧∀ l,H l=none →Q (.ref l) (bQ H l (.lst ys))):=by
 intro pins s σ H xs us Q I r h;obtain ⟨p,ys,rfl,hq,q⟩:=h;obtain ⟨u,rfl,rx⟩:=vals1 r;cases rx;have fin:∀ (its:List Value),bM ys its →ys.length ≤ sizeLine →∀ (h':Heap) (c':Nat),(∀ b o',s.heap.get? b=some o' →h'.get? b=some o') →
   h'.get? s.heap.objs.size=some { cls:=.type "list",dict:=none,data:=.seq its.toArray c',slots:=#[] } →EP X pins σ Q (.ref s.heap.objs.size) { s with heap:=h' }:=fun its r' hz h' c' kp e =>
  ⟨.ref s.heap.objs.size,_,I.laid (t':=s.toks) kp (YD _) (show bY X.prog X.w _ h' _ (.lst ys) from ⟨hz,its,c',r',e⟩),rfl,q _ (I.hok.fresh (YD _))⟩
 rcases hq with hq | hq
 ·obtain ⟨its,r',pl,hz⟩:=I.list hq;have hlen:=r'.length;obtain ⟨o,ho,hc,n,hd⟩:=pl.isList;exact call_list_seq p (.inl rfl) ho hc hd (fun h' c' kp e=>fin its r' hz h' c' kp e) (by simp only [YC] <;> omega)
 ·obtain ⟨its,r',pl,hz⟩:=I.tuple hq;have hlen:=r'.length;obtain ⟨o,ho,hc,n,hd⟩:=pl;exact call_list_seq p (.inr rfl) ho hc hd (fun h' c' kp e=>fin its r' hz h' c' kp e) (by simp only [YC] <;> omega)
theorem qN:cU X (.type "tuple") (fun xs H Q=>∃ p ys,xs=[.ref p]∧((bL X.K H p ys∧∀ l,H l=none →Q (.ref l) (bQ H l (.tup ys)))∨(dG X.K H p ys∧Q (.ref p) H))):=by
 intro pins s σ H xs us Q I r h;obtain ⟨p,ys,rfl,h⟩:=h;obtain ⟨u,rfl,rx⟩:=vals1 r;cases rx;rcases h with ⟨hq,q⟩ | ⟨hq,q⟩
 ·obtain ⟨its,r',pl,hz⟩:=I.list hq;have hlen:=r'.length;refine call_tuple_list pl.isList (fun h' kp=>?_) (by simp only [YC] <;> omega);have I1:aU X pins σ H { s with heap:=h' }:=I.kept (t':=s.toks) kp;have I2:aU X pins σ (bQ H h'.objs.size (.tup ys)) { s with heap:=h'.push { cls:=.type "tuple",data:=.seq its.toArray } } :=
   I1.laid (t':=s.toks) (fun b o e=>YB _ e) (YD _) (show bY X.prog X.w _ _ _ (.tup ys) from ⟨hz,its,r',IsTup.new _ _⟩)
  exact ⟨.ref h'.objs.size,_,I2,rfl,q _ (I1.hok.fresh (YD _))⟩
 ·obtain ⟨its,r',pl,hz⟩:=I.tuple hq;exact call_tuple_same pl ⟨.ref p,H,I,rfl,q⟩
def Tn (K:PySem.W.Frag)(T:String)(x:V)(H:Hp):Prop:=match x with
 | .str _=>T = "str"
 | .int _=>T = "int"
 | .ref p=>(T = "list"∧∃ xs,bL K H p xs)∨(T = "tuple"∧∃ o,K.lookup p=some o∧o.cls=.type "tuple"∧o.dict=none) ∨
   (T = "dict"∧((∃ kvs,H p=some (.dK kvs))∨∃ kvs,H p=some (.dT kvs)))∨(T = "set"∧∃ S n,H p=some (.set S n))
 | _=>False
theorem Io {pins:List (Addr×Obj)}{σ:St}{H:Hp}{s:Shared}{T:String}{x:V}{v:Value}(I:aU X pins σ H s)(r:RelV x v)(ty:Tn X.K T x H) :
  s.TypeIs v T∧∀ a,v=.ref a →∃ ob,s.heap.get? a=some ob∧ob.dict=none:=by
 cases x with
 | str z =>
  obtain ⟨t,rfl⟩:=r;cases (show T = "str" from ty);exact ⟨typeIs_str s z t,fun _ e=>nomatch e⟩
 | int i =>
  obtain ⟨t,rfl⟩:=r;cases (show T = "int" from ty);exact ⟨typeIs_int s i t,fun _ e=>nomatch e⟩
 | ref p =>
  cases r;rcases ty with ⟨rfl,xs,hq⟩ | ⟨rfl,o,hk,hc,hd⟩ | ⟨rfl,hk⟩ | ⟨rfl,S,n,hk⟩
  ·obtain ⟨its,_,pl,_⟩:=I.list hq;refine ⟨pl.isList.typeIs,fun a e=>?_⟩;cases e;obtain ⟨o,n,e,c,hd,_⟩:=pl;exact ⟨o,e,hd⟩
  ·refine ⟨⟨o,I.kIn p o hk,hc⟩,fun a e=>?_⟩;cases e;exact ⟨o,I.kIn _ o hk,hd⟩
  ·have z:∃ o,s.heap.get? p=some o∧o.ExactDict:=by
    rcases hk with ⟨kvs,hk⟩ | ⟨kvs,hk⟩
    ·obtain ⟨_,_,_,_,o,_,_,e,ex,_⟩:=I.hok p _ hk;exact ⟨o,e,ex⟩
    ·obtain ⟨_,_,_,_,o,_,_,e,ex,_⟩:=I.hok p _ hk;exact ⟨o,e,ex⟩
   obtain ⟨o,e,ex⟩:=z;refine ⟨⟨o,e,ex.1⟩,fun a e2=>?_⟩;cases e2;exact ⟨o,e,ex.2.1⟩
  ·obtain ⟨o,_,_,_,e,ex,_⟩:=I.hok p _ hk;refine ⟨⟨o,e,ex.1⟩,fun a e2=>?_⟩;cases e2;exact ⟨o,e,ex.2.1⟩
 | _=>exact False.elim ty
def TY (K:PySem.W.Frag)(T:String)(r:V →List V →Hp →VK →Prop)(to:TE)(t:TA):TE:=fun σ H Q=>to σ H fun x H1=>Tn K T x H1∧t σ H1 fun xs H2=>r x xs H2 Q
variable {o e:Expr}{es:List Expr}{to:TE}{t:TA}{name:Str}{apos cpos:Pos}{T id:String}{r:V →List V →Hp →VK →Prop}
theorem vV (pa:PlainAttrs T)(slot:Slot T name id)(hty:typeOf (.builtin id)=pure (.type "method_descriptor"))(hm:TV X id r)(ho:PE X o to)(ha:PA X (e::es) t)
  (hbase:attributeBase o name X.env (eval o X.env)=eval o X.env:=by rfl)
  (hfew:((backTo cpos (starEach (e::es) X.env)).all (fun x=>!x.1)&&(backToKw cpos (keywordEach [] X.env)).all (fun x=>x.1.isSome)
  &&decide ((e::es).length+([]:List Keyword).length+(if ([]:List Keyword).isEmpty then 0 else 1)<30))=true:=by rfl)
  (hline:(apos.endLine==cpos.line)=true:=by rfl) (hs:starEach (e::es) X.env=(false,eval e X.env)::starEach es X.env:=by rfl) (hplain:(backTo cpos (starEach es X.env)).any (·.1)=false:=by rfl) :
  PE X (.Call (.Attribute o name apos) (e::es) [] cpos) (TY X.K T r to t):=by
 intro pins s σ H Q I h;refine wpAny_Call_method_late hbase hfew hline rfl (cN (ho pins s σ H _ I h) fun v s1 ⟨x,H1,I1,r1,ty,q1⟩=>?_);obtain ⟨h1,h2⟩:=Io I1 r1 ty;refine ⟨T,id,pa,slot,hty,h1,h2,?_⟩;have hA:=ha cpos pins s1 σ H1 _ I1 q1;rw [hs] at hA ⊢;refine Calls.callWith_builtin (by show (false||(backTo cpos (starEach es X.env)).any (·.1))=false; rw [hplain] <;> rfl) (Calls.evalArgs_plain ?_);exact cN hA fun us s2 ⟨vs,H2,I2,r2,q2⟩=>hm pins s2 σ H2 x vs v us Q I2 r1 r2 q2
end
def S6 (X:Cx)(id:String)(r:V →List V →Hp →VK →Prop):Prop :=
 ∀ (pins:List (Addr×Obj)) (s:Shared) (σ:St) (H:Hp) (x:V) (xs:List V) (v:Value) (us:List Value) (Q:VK),aU X pins σ H s →RelV x v →bM xs us →r x xs H Q →
  wpAny (model X.prog X.w) X.A (call (.builtin id) (v::us)) (EP X pins σ Q) X.xe s
theorem bM.one:∀ {x:V}{us:List Value},bM [x] us →∃ u,us=[u]∧RelV x u
 | _,_,.cons r .nil=>⟨_,rfl,r⟩
theorem bM.eraseIdx:∀ {xs:List V}{us:List Value} (i:Nat),bM xs us →bM (xs.eraseIdx i) (us.eraseIdx i)
 | _,_,_,.nil=>.nil
 | _,_,0,.cons _ t=>t
 | _,_,i+1,.cons r t=>.cons r (bM.eraseIdx i t)
theorem sO {α:Type}:∀ (l:List α) (i:Nat),(l.eraseIdx i).length ≤ l.length
 | [],_=>YD _
 | _::_,0=>Zq _
 | _::r,i+1=>aA5 (sO r i)
section
variable {X:Cx}{pins:List (Addr×Obj)}{σ:St}{H:Hp}{s:Shared}{l b:Addr}{xs ys zs:List V}
theorem aU.lset {its its':List Value}{n:Nat}{f:Array Value →Array Value}{t':Nat}(I:aU X pins σ H s)(hH:H l=some (.lst xs))
  (e:s.heap.get? l=some { cls:=.type "list",data:=.seq its.toArray n }) (hf:f its.toArray=its'.toArray) (hv:bM ys its') (hz:ys.length ≤ sizeLine) :
  aU X pins σ (bQ H l (.lst ys)) { s with heap:=s.heap.update l (Obj.mapSeq f),toks:=t' }:=by
 have q:=PySem.IsL.update e f;rw [hf] at q;refine I.write (x:=l) (e:=l) (by rw [hH]; exact trivial) (.inl rfl) (fun b' u hb hu=>(Yq s.heap (Obj.mapSeq f) (Ne.symm hb)).trans hu) ⟨_,q⟩ ?_;exact ⟨hz,its',_,hv,q⟩
theorem aU.lnew {its:List Value}{t':Nat}(I:aU X pins σ H s)(hv:bM ys its)(hz:ys.length ≤ sizeLine) :
  aU X pins σ (bQ H s.heap.objs.size (.lst ys)) { s with heap:=s.heap.push { cls:=.type "list",data:=.seq its.toArray },toks:=t' } :=
 I.laid (fun _ _ q=>YB _ q) (YD _) ⟨hz,its,0,hv,YL _ rfl⟩
theorem aU.fresh (I:aU X pins σ H s):H s.heap.objs.size=none:=I.hok.fresh (YD _)
theorem aU.lstM (I:aU X pins σ H s)(hH:H l=some (.lst xs)):xs.length ≤ sizeLine∧∃ (its:List Value) (n:Nat),bM xs its∧xs.length=its.length∧s.heap.get? l=some { cls:=.type "list",data:=.seq its.toArray n }:=by
 obtain ⟨z,its,n,r,e⟩:=I.hok l _ hH;exact ⟨z,its,n,r,r.length,e⟩
end
section
variable {X:Cx}
def Gd:V →List V →Hp →VK →Prop:=fun x vs H Q=>∃ l xs y,x=.ref l∧vs=[y]∧H l=some (.lst xs)∧xs.length<sizeLine∧Q .non (bQ H l (.lst (xs++[y])))
theorem jO:S6 X "list.append" Gd:=by
 intro pins s σ H x vs v us Q I rx rv h;obtain ⟨l,xs,y,rfl,rfl,hH,hz,q⟩:=h;cases rx;obtain ⟨u,rfl,ru⟩:=rv.one;obtain ⟨z,its,n,r,hl,e⟩:=I.lstM hH;refine call_meets F.slot_list_append ⟨_,e,rfl⟩ F.entry_list_append (F.args_list_append_2 _ _) (PySem.list_append l its.toArray n u (by rw [YC]; omega)) ⟨e,?_⟩;refine ⟨.non,_,I.lset (its':=its++[u]) hH e (by simp) (r.append (.cons ru .nil)) ?_,rfl,q⟩;rw [YQ,List.length_singleton];omega
def JV:V →List V →Hp →VK →Prop:=fun x vs H Q=>∃ l xs i k y,x=.ref l∧vs=[.int i]∧H l=some (.lst xs)∧-(2^63) ≤ i∧i<2^63∧seqIndex? i xs.length=some k∧xs[k]? = some y∧Q y (bQ H l (.lst (xs.eraseIdx k)))
theorem FN:S6 X "list.pop" JV:=by
 intro pins s σ H x vs v us Q I rx rv h;obtain ⟨l,xs,i,k,y,rfl,rfl,hH,h1,h2,hk,hy,q⟩:=h;cases rx;obtain ⟨u,rfl,ru⟩:=rv.one;obtain ⟨t,rfl⟩:=ru;obtain ⟨z,its,n,r,hl,e⟩:=I.lstM hH;obtain ⟨w,hw,rw'⟩:=r.get hy;refine call_meets F.slot_list_pop ⟨_,e,rfl⟩ F.entry_list_pop (F.args_list_pop_2 _ _)
  (MeetsSeq.list_pop_at l its.toArray n i t k w (fitsIndex_both h1 h2) (by rw [YC,← hl]; exact hk) (by rw [← ZQ]; exact hw) (by rw [YC]; omega)) ⟨e,?_⟩
 refine ⟨y,_,I.lset (its':=its.eraseIdx k) hH e ?_ (r.eraseIdx k) ?_,rw',q⟩
 ·show its.toArray.eraseIdxIfInBounds k=(its.eraseIdx k).toArray;rw [List.eraseIdxIfInBounds_toArray]
 ·have:=sO xs k;omega
def QL:R2:=fun x y H Q=>∃ l b xs zs,x=.ref l∧y=.ref b∧H l=some (.lst xs)∧H b=some (.lst zs)∧xs.length+zs.length ≤ sizeLine∧∀ p,H p=none →Q (.ref p) (bQ H p (.lst (xs++zs)))
theorem Jh:jV X (binaryOp .Add) QL:=by
 intro pins s σ H x y v u Q I rx ry h;obtain ⟨l,b,xs,zs,rfl,rfl,hH,hB,hz,q⟩:=h;cases rx;cases ry;obtain ⟨z,its,n,r,hl,e⟩:=I.lstM hH;obtain ⟨z2,its2,n2,r2,hl2,e2⟩:=I.lstM hB;refine PySem.P.add_list e e2 ?_ (by rw [YC,YC]; omega);have ea:its.toArray++its2.toArray=(its++its2).toArray:=by simp
 rw [ea];exact ⟨.ref _,_,I.lnew (t':=s.toks) (r.append r2) (by rw [YQ]; omega),rfl,q _ I.fresh⟩
end
end L2
namespace Att
open PySem PySem.W PySem.Calls PyProof.Rows
theorem oW {P:Params}{h:Heap}:∀ (ns:List Int) (vs:List Value),WellAll P h vs (ns.map WData.int) →IntsAre vs ns:=by
 intro ns
 induction ns with
 | nil =>
  intro vs w;rw [List.map_nil] at w;cases w;exact .nil
 | cons n ns ih =>
  intro vs w;rw [Z6] at w;cases w with
  | cons a b =>
   cases a;exact .cons _ _ (ih _ b)
theorem Cd {l:OpenLaw}{n:Nat}(hn:l.most=some n){P:Params}{h:Heap}{args:List WData}{vals:List Value}
  (hpre:l.row.toRowW.claim.pre args=true) (hwl:WellAll P h vals args) :
  ∃ a vs ns,vals=[Value.ref a]∧args=[WData.list (ns.map WData.int)]∧h.get? a=some { cls:=.type "list",data:=.seq vs.toArray }∧IntsAre vs ns∧ns.length ≤ n:=by
 have hsh:WShape.hasAll [] args [.list .int]=true:=(pre_splitW hpre).1;have hc:l.pre.holds [] { args:=args }=true:=(pre_splitW hpre).2;obtain ⟨d,r,rfl,h1,h2⟩:=hasAllW_cons hsh;obtain rfl:=hasAllW_nil h2;obtain ⟨xs,rfl,h3⟩:=hasW_list h1;obtain ⟨ns,rfl⟩:=items_int h3;have hlen:ns.length ≤ n:=by
  unfold OpenLaw.pre at hc;have h4:(WTm.not (.lt (.lit (.int (n:Int))) (.len (.arg 0)))).holds [] { args:=[.list (ns.map .int)] }=true:=by
   have h4:=(holds_andW hc).1;rw [hn] at h4;exact h4
  have h5:=condW_of h4 (w_not (w_lt w_lit (w_len_list (w_arg rfl))));rw [YH] at h5;refine Nat.le_of_not_lt fun q=>?_;have q':(n:Int)<((ns.length:Nat):Int):=by omega
  first
   | (rw [decide_eq_true q'] at h5; exact absurd h5 (by decide))
   | (simp at h5; omega)
 cases hwl with
 | cons w1 w2 =>
  cases w2;cases w1 with
  | list ho hall=>exact ⟨_,_,ns,rfl,rfl,ho,oW ns _ hall,hlen⟩
theorem By (l:OpenLaw)(args:List WData):l.row.toRowW.claim.post args (.bool true) args=true :=
 postW_of (r:=l.row.toRowW) (X:=(true==true))
  (show WShape.has [] (.bool true) .bool=true by first | rfl | decide | simp [WShape.has,WShape.arms,WShape.armsAll])
  (show (WTm.eq .res (.lit (.bool true))).value [] { args:=args,res:=some (.bool true),after:=args }=some (.bool (true==true)) from w_eq_bool (w_res rfl) w_lit) rfl
theorem xC {l:OpenLaw}{n:Nat}{q:Program}{loose:List Str}{XP:(Str →Option Value) →Heap →Prop}{YP:World →Heap →Prop}{d:DefRec}
  (hn:l.most=some n) (hdf:d.params.defaults=[])
  (call:∀ (w:World) (s₀ s₁:Shared) (mg mb:Str →Option Value) (fa:Addr) (o:Obj) (pm cd doc:Value) (a:Addr) (vs:List Value) (ns:List Int),
   Ground q loose [] XP w s₀ mg mb s₁.heap →YP w s₁.heap →
   s₁.heap.get? fa=some o →o.data=.func (docDef d.name d.params d.body d.scope pm cd doc) →s₁.heap.CodeRec cd d.name →mg d.name=some (.ref fa) →
   s₁.heap.get? a=some { cls:=.type "list",data:=.seq vs.toArray } →IntsAre vs ns →ns.length ≤ n →s₁.gens = #[] →
   codeAny (model l.prog w) callerA (.call (.ref fa) ⟨[.ref a],[]⟩) (fun r s'=>r=.ok (.ret (.bool true))∧OldK s₁.heap s'.heap∧s'.os=s₁.os∧AllBare s'.gens) s₁) :
  WalkO q loose XP YP l.row.toRowW d [] (fun f vs=>PySem.call f vs):=by
 intro w s₀ s₁ mg mb G Y fa o pm cd doc dV kV ho hd hcd hD hmg hg args vals as hpre hlay hrd hwl hlo;obtain rfl:dV=.none:=Dflts.none hD hdf;obtain rfl:kV=.none:=Dflts.noKw hD;obtain ⟨a,vs,ns,rfl,rfl,hobj,hints,hlen⟩:=Cd hn hpre hwl;refine enter_call (codeAny_mono (call w s₀ s₁ mg mb fa o pm cd doc a vs ns G Y ho (fd_plain hd) hcd hmg hobj hints hlen hg) fun r s' hq=>?_);obtain ⟨rfl,h2,h3,h4⟩:=hq;exact ⟨.inl ⟨.bool true,.bool true,[],rfl,fun _=>rfl,.bool true,By l _,fun _=>⟨Zx.nil,fun _ hm=>(nomatch hm)⟩⟩,h2,h3,h4⟩
end Att
namespace L2
open PySem PySem.Spec PyProof.Rows
theorem jU:∀ {vs:List Value}{ns:List Int},IntsAre vs ns →bM (ns.map V.int) vs
 | _,_,.nil=>.nil
 | _,_,.cons n t h=>.cons ⟨t,rfl⟩ (jU h)
def Je (H:Hp):Prop:=∀ b,H b=none∨∃ o xs,H b=some (.frz o (.lst xs))
theorem FJ {P:Program}{w:World}{K:PySem.W.Frag}{mg mb:Str →Option Value}{CX:vL}{k:Nat}{fa a:Addr}{fd:FuncData}{x:Str}{sp:Sp}{s₁:Shared}{vs:List Value}{ns:List Int}
  (KX:K.In s₁.heap) (hns:s₁.heap.Ns mainGlobals mg) (hb:s₁.heap.Ns builtinsNs mb) (hbb:∀ x:Str,x≠"__name__" →mb x=bootBuiltins x) (hlim:s₁.heap.NoLimit) (hg:s₁.gens = #[])
  (ha:s₁.heap.get? a=some { cls:=.type "list",data:=.seq vs.toArray }) (hi:IntsAre vs ns) (hl:ns.length ≤ sizeLine) (hr:dM k callerA)
  (F:∀ base:Heap,K.In base →base.Ns mainGlobals mg →bD P w K mg base CX k fa fd [x] sp) (hbind:∀ (s:Shared) (u:Value),BindsTo s fd ⟨[u],[]⟩ [(x,u)])
  (hsp:∀ H:Hp,Je H →bL K H a (ns.map V.int) →sp [.ref a] H (fun v _=>v=.bl true) fun _ _ _=>False)
  (hCX:∀ H e s',CX [] H s₁ (fun _ _ _=>False) e s' →False) :
  codeAny (model P w) callerA (.call (.ref fa) ⟨[.ref a],[]⟩) (fun r s'=>r=.ok (.ret (.bool true))∧OldK s₁.heap s'.heap∧s'.os=s₁.os∧AllBare s'.gens) s₁:=by
 have rv:=jU hi;have lenV:=hi.length;have core:∀ H:Hp,Je H →bL K H a (ns.map V.int) →mQ P w H s₁.heap →(∀ b,H b≠none →b=a) →(H a≠none →K.lookup a=none) →
   codeAny (model P w) callerA (.call (.ref fa) ⟨[.ref a],[]⟩) (fun r s'=>r=.ok (.ret (.bool true))∧OldK s₁.heap s'.heap∧s'.os=s₁.os∧AllBare s'.gens) s₁:=by
  intro H hO hS hok hA hK;have base_of:∀ {b:Addr}{o:Obj},s₁.heap.get? b=some o →H b=none →(uA s₁.heap H).get? b=some o:=fun e n=>DP e n;have noA:∀ {b:Addr}{o:Obj}{es:Array DictEntry}{ep:Nat},s₁.heap.get? b=some o →o.data=.dict es ep →H b=none:=fun {b o es ep} e d=>by
   cases q:H b with
   | none=>rfl
   | some u =>
    have e':b=a:=hA b (by rw [q]; simp);subst e';rw [ha] at e; cases e;have d':Data.seq vs.toArray _=Data.dict es ep:=d;cases d'
  have nsK:∀ {b:Addr}{m:Str →Option Value},s₁.heap.Ns b m →(uA s₁.heap H).Ns b m:=fun {b m} ⟨o,es,ep,e,d,r⟩=>⟨o,es,ep,base_of e (noA e d),d,r⟩
  have hKb:K.In (uA s₁.heap H):=fun b o e=>base_of (KX b o e) (by
   cases q:H b with
   | none=>rfl
   | some u =>
    have e':b=a:=hA b (by rw [q]; simp);subst e';rw [hK (by rw [q]; simp)] at e; cases e)
  have hM:Mod K mg (uA s₁.heap H):=⟨hKb,nsK hns,⟨mb,nsK hb,hbb⟩,let ⟨mc,h1,h2⟩:=hlim; ⟨mc,nsK h1,h2⟩⟩
  have e0:yR P w K mg (uA s₁.heap H) callerA [] s₁ H:=⟨rfl,hM,fun b o e=>Hi e,aAD (CG _ _),trivial,fun b hb=>absurd (show b∈([]:List Addr) from hb) (by simp),hok,.of_eq hg⟩
  refine codeAny_mono ((F _ hKb (nsK hns)).run callerA [] s₁ H ⟨[.ref a],[]⟩ [.ref a] [.ref a] _ _ hr e0 (hbind s₁ (.ref a)) (.cons rfl .nil) (hsp H hO hS)) fun r s' h=>?_;cases r with
  | error e=>exact (hCX H e s' h).elim
  | ok fl =>
   cases fl with
   | next=>exact False.elim h
   | brk=>exact False.elim h
   | cont=>exact False.elim h
   | ret u =>
    obtain ⟨v,H',os,bare,un,hok',r',q⟩:=h;have q':v=.bl true:=q;subst q';obtain rfl:u=Value.bool true:=r';refine ⟨rfl,OldK.of_keep fun b o e=>?_,os,bare⟩;cases q:H b with
    | none=>exact un.keep b o e q (by intro z; exact absurd (show b∈([]:List Addr) from z) (by simp)) (by simp)
    | some u =>
     rcases hO b with z | ⟨ob,xs,z⟩
     ·rw [q] at z; cases z
     ·have z2:=un.frzs b ob _ z;obtain ⟨e1,_⟩:=hok b _ z;obtain ⟨e2,_⟩:=hok' b _ z2;rw [e] at e1; cases e1;exact e2
 cases hk:K.lookup a with
 | some o =>
  have e:=KX a o hk;rw [ha] at e;cases e;refine core (fun _=>none) (fun _=>.inl rfl) (.inr ⟨_,vs.toArray,_,hk,rfl,rfl,rfl,by rw [YC,lenV]; exact hl,by simpa using rv⟩) (fun b u z=>by have z':(none:Option HO)=some u:=z; cases z') (fun b z=>absurd rfl z) fun z=>absurd rfl z
 | none =>
  refine core (fun b=>if b=a then some (.frz { cls:=.type "list",data:=.seq vs.toArray } (.lst (ns.map V.int))) else none) (fun b=>?_) (.inl (.inr ⟨{ cls:=.type "list",data:=.seq vs.toArray },if_pos rfl⟩)) (fun b u z=>?_) (fun b z=>?_) fun _=>hk
  ·by_cases hb:b=a
   ·exact .inr ⟨_,_,if_pos hb⟩
   ·exact .inl (if_neg hb)
  ·by_cases hb:b=a
   ·have z':=(if_pos hb).symm.trans z;cases z';subst hb;exact ⟨ha,by rw [YH]; exact hl,vs,_,rv,ha⟩
   ·have z':=(if_neg hb).symm.trans z;cases z'
  ·by_cases hb:b=a
   ·exact hb
   ·exact absurd (if_neg hb) z
theorem HX {l:PySem.W.OpenLaw}{n k:Nat}{q:Program}{loose:List Str}{XP:(Str →Option Value) →Heap →Prop}{YP:World →Heap →Prop}{d:DefRec}{K:Params →PySem.W.Frag}{CX:World →vL}{sp:World →Sp}{x:Str}
  (hn:l.most=some n) (hn2:n ≤ sizeLine) (hdf:d.params.defaults=[]) (hr:dM k callerA)
  (hY:∀ (w:World) (h:Heap),YP w h →(K w.params).In h)
  (F:∀ (w:World) (mg:Str →Option Value) (fa:Addr) (h:Heap),(K w.params).In h →h.Ns mainGlobals mg →mg d.name=some (.ref fa) →
   ∃ fd:FuncData,(∀ (s:Shared) (u:Value),BindsTo s fd ⟨[u],[]⟩ [(x,u)]) ∧
    ∀ base:Heap,(K w.params).In base →base.Ns mainGlobals mg →bD l.prog w (K w.params) mg base (CX w) k fa fd [x] (sp w))
  (hsp:∀ (w:World) (H:Hp) (a:Addr) (ns:List Int),ns.length ≤ n →Je H →bL (K w.params) H a (ns.map V.int) →sp w [.ref a] H (fun v _=>v=.bl true) fun _ _ _=>False)
  (hCX:∀ (w:World) (H:Hp) (s:Shared) (e:Value) (s':Shared),CX w [] H s (fun _ _ _=>False) e s' →False) :
  PySem.W.WalkO q loose XP YP l.row.toRowW d [] (fun f vs=>PySem.call f vs):=by
 refine Att.xC hn hdf fun w s₀ s₁ mg mb fa o pm cd doc a vs ns G Y ho hd hcd hmg hobj hints hlen hg=>?_;have KX:=hY w _ Y;obtain ⟨fd,hb,hF⟩:=F w mg fa _ KX G.T.g hmg;exact FJ KX G.T.g G.T.b G.T.builtins G.T.nolimit hg hobj hints (Y5 hlen hn2) hr hF hb (fun H hO hS=>hsp w H a ns hlen hO hS) fun H e s'=>hCX w H s₁ e s'
def inClass (s:Stmt)(j:Nat):Stmt:=match s with
 | .ClassDef _ _ _ body _ _ _ _ _ _ _=>body.getD j (.Pass ⟨0,0,0,0⟩)
 | _=>.Pass ⟨0,0,0,0⟩
def fW (s:Stmt):Arguments:=match s with
 | .FunctionDef _ a _ _ _ _ _ _ _ _=>a
 | _=>{ posonlyargs:=[],args:=[],vararg:=none,kwonlyargs:=[],kw_defaults:=[],kwarg:=none,defaults:=[] }
def dO (s:Stmt):List Stmt:=match s with
 | .FunctionDef _ _ b _ _ _ _ _ _ _=>b
 | _=>[]
def aK (s:Stmt):Scope:=match s with
 | .FunctionDef _ _ _ _ _ _ sc _ _ _=>sc
 | _=>{ kind:=.function,names:=[],isGenerator:=false,isCoroutine:=false }
abbrev dW:vL:=fun _ _ _ _ _ _=>False
abbrev E0:XK:=fun _ _ _=>False
theorem qG {X:Cx}:m8 dW X E0:=fun _ _ _ _ _ _ _ h=>h.elim
structure dY (K:PySem.W.Frag)(x qual:Str)(st:Stmt)(f:Addr)(fd:FuncData):Prop where
 ex:∃ (oc:Value) (od:Option Addr) (kV doc pm:Value) (an:Option Addr) (cdv ct:Value) (osl:Array (Option Value)),
  fd=PySem.W.fnOf x qual (fW st) (dO st) (aK st) .none kV doc pm an cdv ct∧K.lookup f=some ⟨oc,od,.func fd,osl⟩∧PySem.W.codeIn K cdv qual=true
 kp:PySem.W.keepIn K (.ref f)=true
section
variable {P:Program}{w:World}{K:PySem.W.Frag}{mg:Str →Option Value}{base:Heap}
theorem dY.ok {x qual:Str}{st:Stmt}{f:Addr}{fd:FuncData}{N ps:List Str}{k:Nat}{sp:Sp}(F:dY K x qual st f fd)(S:aY N ps (aK st))(len:∀ vs H Q E,sp vs H Q E →vs.length=ps.length)
  (hbody:∀ (cdv:Value) (A:Around) (outer:List Env) (s:Shared) (H:Hp) (vs:List V) (Q:VK) (E:XK),dM k (A.deeper (envOfC qual (aK st) s.heap.objs.size f cdv)) →sp vs H Q E →
   ∃ t,vK (oO dW P w K mg base N qual (aK st) f cdv A outer s H E).nox (dO st) t∧t { nx:=fun _ H'=>Q .non H',rt:=Q } (start N vs) H):bD P w K mg base dW (k+1) f fd ps sp:=by
 obtain ⟨oc,od,kV,doc,pm,an,cdv,ct,osl,rfl,lk,hcd⟩:=F.ex;refine Hw lk hcd S len fun A outer s H vs Q E hr hsp=>?_;obtain ⟨t,h,q⟩:=hbody cdv A outer s H vs Q E hr hsp;exact ⟨t,h.nox,q⟩
theorem dY.binds {x qual:Str}{st:Stmt}{f:Addr}{fd:FuncData}{ps:List Str}(F:dY K x qual st f fd)
  (h:∀ (kV doc pm:Value) (an:Option Addr) (cdv ct:Value) (us:List Value),us.length=ps.length →bindArgs (PySem.W.fnOf x qual (fW st) (dO st) (aK st) .none kV doc pm an cdv ct) ⟨us,[]⟩=pure (ps.zip us)):Binds K fd ps []:=by
 obtain ⟨oc,od,kV,doc,pm,an,cdv,ct,osl,rfl,lk,hcd⟩:=F.ex;exact .all (h kV doc pm an cdv ct)
theorem Ez {x qual:Str}{st:Stmt}{f:Addr}{oc:Value}{od an:Option Addr}{osl:Array (Option Value)}{kV doc pm cdv ct:Value}(l:K.lookup f=some ⟨oc,od,.func (PySem.W.fnOf x qual (fW st) (dO st) (aK st) .none kV doc pm an cdv ct),osl⟩)
  (c:PySem.W.codeIn K cdv qual=true) (k:PySem.W.keepIn K (.ref f)=true):dY K x qual st f (PySem.W.fnOf x qual (fW st) (dO st) (aK st) .none kV doc pm an cdv ct):=⟨⟨oc,od,kV,doc,pm,an,cdv,ct,osl,rfl,l,c⟩,k⟩
end
theorem aX {n:Nat}(h:n ≤ 1000):n<sizeLine:=Zi h (by decide)
section
variable {X:Cx}
theorem pv (i:Nat){x:Str}{pos:Pos}(hN:X.N[i]? = some x:=by rfl)(hv:Pg X.env.scope x:=by first | exact Or.inl rfl | exact Or.inr (Or.inl rfl) | exact Or.inr (Or.inr rfl))(hd:(x==("__debug__" : Str))=false:=by decide)
  (hcd:(x==("__classdict__" : Str))=false:=by decide):PE X (.Name x pos) (Kf i):=J4 hN hv hd hcd
end
theorem dC {A B:Prop}(h:B):if false=true then A else B:=by
 rw [if_neg YM];exact h
theorem gG {A B:Prop}(h:A):if true=true then A else B:=by
 rw [if_pos rfl];exact h
theorem o8 {c A B:Prop}[Decidable c](h1:c →A)(h2:¬ c →B):if c then A else B:=by
 by_cases h:c
 ·rw [if_pos h];exact h1 h
 ·rw [if_neg h];exact h2 h
def bB (H H':Hp):Prop:=∀ b o,H b=some o →H' b=some o
theorem bB.refl (H:Hp):bB H H:=fun _ _ h=>h
theorem bB.trans {H H1 H2:Hp}(a:bB H H1)(b:bB H1 H2):bB H H2:=fun c o h=>b c o (a c o h)
theorem bB.free {H H':Hp}(e:bB H H'){l:Addr}(h:H' l=aA7):H l=aA7:=by
 cases q:H l with
 | none=>rfl
 | some o =>
  rw [e l o q] at h;cases h
theorem bB.seq {K:PySem.W.Frag}{H H':Hp}{a:Addr}{xs:List V}(e:bB H H')(h:bL K H a xs):bL K H' a xs:=by
 rcases h with (h | ⟨o,h⟩) | h
 ·exact .inl (.inl (e _ _ h))
 ·exact .inl (.inr ⟨o,e _ _ h⟩)
 ·exact .inr h
abbrev KT (H:Hp):List (List Key×V) →List (List Key×Addr×Value) →Prop:=Paired fun p q=>p.1=q.1∧H q.2.1=some (.tup (p.1.map kV))∧RelV p.2 q.2.2
end L2
namespace PySem
section
variable {prog:Program}{w:World}{A:Around}{E:Value →Shared →Prop}{R:Result →Shared →Prop}{s:Shared}
theorem tV {elt target iter:Expr}{ifs:List Expr}{scope:Scope}{pos:Pos}{it acc:Value}{env:Env}(I:Nat →Shared →Prop)
  (turn:∀ n s,I n s →∀ E':Value →Shared →Prop,wpAny (model prog w) A (pyNext it) (fun r s₁=>match r with
   | none=>R (.ok .next) s₁
   | some v=>wpAny (model prog w) A (letOwnedTupleGo target it v) (fun _ s₁'=>wpAny (model prog w) A (assign target env v) (fun _ s₂ =>
     wpAny (model prog w) A (forIn ifs true fun c r=>if r=true then do let ok ← isTrue c env (eval c env); pure (ForInStep.yield ok) else pure (ForInStep.yield r)) (fun ok s₃ =>
      if ok=true then wpAny (model prog w) A (eval elt env) (fun x s₄ =>
       wpAny (model prog w) A (call (.builtin "list.append") [acc,x]) (fun _ s₅=>∃ m,m<n∧I m s₅) E' s₄) E' s₃
      else ∃ m,m<n∧I m s₃) E' s₂) E' s₁') E' s₁) E' s)
  (n:Nat) (h:I n s) :
  codeAny (model prog w) A (.compLoop (.ListComp elt [⟨target,iter,ifs,0⟩] scope pos) 0 it acc env) R s:=by
 refine codeAny_loop rfl I (fun n s hI=>?_) n h;show wpAny _ A ((compTurn (.ListComp elt [⟨target,iter,ifs,0⟩] scope pos) 0 it acc env).onRaise (fun x=>do noteFrame x env; theTreesLotGoes x)) _ _ s;refine wpAny_noted ?_;rw [compTurn_list];refine wpAny_bind (wpAny_standAt (wpAny_bind (wpAny_mono (turn n s hI _) (fun r s₁ h₁=>?_) fun _ _ h'=>h')));cases r with
 | none=>exact wpAny_pure h₁
 | some v =>
  refine wpAny_bind (wpAny_mono h₁ (fun _ s₁' h₁'=>?_) fun _ _ h'=>h');refine wpAny_bind (wpAny_mono h₁' (fun _ s₂ h₂=>wpAny_bind (wpAny_mono h₂ (fun ok s₃ h₃=>?_) fun _ _ h'=>h')) fun _ _ h'=>h');cases ok with
  | false=>exact wpAny_pure ⟨rfl,h₃⟩
  | true =>
   exact wpAny_bind (wpAny_bind (wpAny_mono h₃ (fun x s₄ h₄=>wpAny_bind (wpAny_mono h₄ (fun _ s₅ h₅=>wpAny_pure (wpAny_pure ⟨rfl,h₅⟩)) fun _ _ h'=>h')) fun _ _ h'=>h'))
end
def fY (env:Env):List (Str×NameKind) →List (Str×Addr) →List (Str×Addr)
 | [],cs=>cs
 | (n,k)::r,cs=>fY env r (if k==.free then (match env.cells.lookup n with | some a=>(n,a)::cs | none=>cs) else cs)
theorem nA {scope:Scope}{env:Env}(h:∀ y∈scope.names,y.2=.free →∃ c,env.cells.lookup y.1=some c):closureFor scope env=pure (fY env scope.names []):=by
 unfold closureFor;have key:∀ (l:List (Str×NameKind)) (cs:List (Str×Addr)),(∀ y∈l,y.2=.free →∃ c,env.cells.lookup y.1=some c) →
   (forIn l cs fun x r=>(match x with
    | (name,kind)=>if (kind==NameKind.free)=true then (do let a ← cellOf env name; pure (ForInStep.yield ((name,a)::r))) else pure (ForInStep.yield r):Sem (ForInStep (List (Str×Addr)))))=(pure (fY env l cs):Sem _):=by
  intro l
  induction l with
  | nil=>intro cs _; rfl
  | cons y r ih =>
   intro cs hy;obtain ⟨n,k⟩:=y;rw [List.forIn_cons]
   by_cases hk:(k==NameKind.free)=true
   ·obtain ⟨c,hc⟩:=hy (n,k) Yg (by simpa using hk);have e:cellOf env n=pure c:=by unfold cellOf; rw [hc]
    simp only [hk,if_true,e,pure_bind];rw [ih _ fun z hz=>hy z (Yb _ hz)];show _=pure (fY env r (if (k==NameKind.free)=true then (match env.cells.lookup n with | some a=>(n,a)::cs | none=>cs) else cs));rw [if_pos hk,hc]
   ·have hk2:(k==NameKind.free)=false:=by simpa using hk
    simp only [hk2,YZ,if_false,pure_bind];rw [ih _ fun z hz=>hy z (Yb _ hz)];show _=pure (fY env r (if (k==NameKind.free)=true then (match env.cells.lookup n with | some a=>(n,a)::cs | none=>cs) else cs));rw [if_neg hk]
 have k2:=key scope.names [] h;simp only [bind_pure]
 first
  | exact k2
  | (rw [← k2]; rfl)
theorem tH {env:Env}:∀ (l:List (Str×NameKind)) (cs:List (Str×Addr)) (p:Str×Addr),p∈fY env l cs →p∈cs∨env.cells.lookup p.1=some p.2
 | [],_,_,h=>.inl h
 | (n,k)::r,cs,p,h=>by
  rcases tH r _ p h with q | q
  ·by_cases hk:(k==NameKind.free)=true
   ·rw [if_pos hk] at q;cases e:env.cells.lookup n with
    | none=>rw [e] at q; exact .inl q
    | some a =>
     rw [e] at q;rcases Ye.mp q with z | z
     ·subst z; exact .inr e
     ·exact .inl z
   ·rw [if_neg hk] at q; exact .inl q
  ·exact .inr q
theorem tO {env:Env}:∀ (l:List (Str×NameKind)) (cs:List (Str×Addr)) (p:Str×Addr),p∈cs →p∈fY env l cs
 | [],_,_,h=>h
 | (n,k)::r,cs,p,h=>by
  refine tO r _ p ?_
  by_cases hk:(k==NameKind.free)=true
  ·rw [if_pos hk];cases e:env.cells.lookup n with
   | none=>exact h
   | some a=>exact Yb _ h
  ·rw [if_neg hk]; exact h
theorem rW {env:Env}{n:Str}{c:Addr}(e:env.cells.lookup n=some c):∀ (l:List (Str×NameKind)) (cs:List (Str×Addr)),(n,NameKind.free)∈l →(n,c)∈fY env l cs
 | [],_,h=>nomatch h
 | (m,k)::r,cs,h=>by
  rcases Ye.mp h with z | z
  ·cases z;refine tO r _ _ ?_;rw [if_pos (by rfl),e];exact Yg
  ·exact rW e r _ z
theorem j4 {β:Type}{n:Str}{c:β}:∀ {l:List (Str×β)},(n,c)∈l →∃ d,l.lookup n=some d
 | [],h=>nomatch h
 | (m,d)::r,h=>by
  cases q:n==m with
  | true=>exact ⟨d,by simp only [ZK,q]⟩
  | false =>
   rcases Ye.mp h with z | z
   ·cases z;simp at q
   ·obtain ⟨d',e⟩:=j4 z;exact ⟨d',by simp only [ZK,q,e]⟩
theorem eG {env:Env}:∀ {names:List (Str×NameKind)}{x:Str}{k:NameKind},
  (names.map fun (n,k)=>if (k==NameKind.free&&env.scope.kind==.function&&env.kindOf n==some .cell) then (n,NameKind.cell) else (n,k)).lookup x=some k →
  ∃ k',names.lookup x=some k'∧(k'=k∨(k'=.free∧k=.cell))
 | [],_,_,h=>by simp at h
 | (n,j)::r,x,k,h=>by
  cases hx:x==n with
  | true =>
   refine ⟨j,by simp only [ZK,hx],?_⟩
   by_cases hc:(j==NameKind.free&&env.scope.kind==.function&&env.kindOf n==some .cell)=true
   ·simp only [Z6,if_pos hc,ZK,hx] at h;cases h;refine .inr ⟨?_,rfl⟩;simp only [Y6,beq_iff_eq] at hc;exact hc.1.1
   ·simp only [Z6,if_neg hc,ZK,hx] at h;cases h;exact .inl rfl
  | false =>
   by_cases hc:(j==NameKind.free&&env.scope.kind==.function&&env.kindOf n==some .cell)=true
   ·simp only [Z6,if_pos hc,ZK,hx] at h;obtain ⟨k',e1,e2⟩:=eG h;exact ⟨k',by simp only [ZK,hx,e1],e2⟩
   ·simp only [Z6,if_neg hc,ZK,hx] at h;obtain ⟨k',e1,e2⟩:=eG h;exact ⟨k',by simp only [ZK,hx,e1],e2⟩
end PySem
namespace L2
open PySem PySem.Spec PyProof.Rows
open Builtin.Int (intBits)
section
variable {X:Cx}
def Ih (i j:Int):Prop:=intBits i+intBits j ≤ 134217728
theorem uG:jV X (binaryOp .Mult) (rI Ih fun i j=>.int (i*j)):=Jq fun _ _ _ _ _ _ _ hc q=>mul_int q (IntMulOk.of_le (YD _) (YD _) hc)
theorem cY {T:String}:cU X (.builtin "isinstance") (fun xs H Q=>∃ x t b,xs=[x,.ty T]∧jW X.K H x t∧PySem.W.kitOne X.K t (.type T)=some b∧Q (.bl b) H):=by
 intro pins s σ H xs us Q I r h;obtain ⟨x,t,b,rfl,ty,e,q⟩:=h;obtain ⟨u,w',rfl,rx,rt⟩:=vals2 r;cases (show w'=Value.type T from rt);exact tM I rx ty e fun tk=>⟨.bl b,H,I.tok _,rfl,q⟩
theorem getD_at {α:Type}{l:List α}{d:α}{i:Nat}(h:i<l.length):l.getD i d=l[i]:=by simp [h]
end
structure cA (sc scope:Scope):Prop where
 kind:scope.kind=.function
 nocell:∀ y∈scope.names,y.2≠.cell
 loc:∀ y∈scope.names,y.2=.local →scope.names.lookup y.1=some .local
 free:∀ y∈scope.names,y.2=.free →sc.names.lookup y.1=some .cell∨sc.names.lookup y.1=some .free
def BV (sc scope:Scope):Bool:=(scope.kind==.function)&&scope.names.all fun y=>(y.2 != .cell)&&((y.2 != .local)||(scope.names.lookup y.1==some .local))&&((y.2 != .free)||(sc.names.lookup y.1==some .cell)||(sc.names.lookup y.1==some .free))
theorem cA.of {sc scope:Scope}(h:BV sc scope=true):cA sc scope:=by
 unfold BV at h;rw [Y6,ZL] at h;obtain ⟨hk,h⟩:=h;refine ⟨eq_of_beq hk,fun y hy=>?_,fun y hy e=>?_,fun y hy e=>?_⟩
 ·have q:=h y hy;simp only [Y6,bne_iff_ne] at q;exact q.1.1
 ·have q:=h y hy;simp only [Y6,Zy,bne_iff_ne,beq_iff_eq] at q;exact q.1.2.resolve_left fun z=>z e
 ·have q:=h y hy;simp only [Y6,Zy,bne_iff_ne,beq_iff_eq] at q;rcases q.2 with (z | z) | z
  ·exact absurd e z
  ·exact .inl z
  ·exact .inr z
structure NL (N M:List Str)(scope:Scope):Prop where
 len:M.length=N.length
 loc:∀ (j:Nat) x,M[j]? = some x →scope.names.lookup x≠some .local
 free:∀ (j:Nat) x,M[j]? = some x →scope.names.lookup x=some .free →N[j]? = some x
def QT (scope:Scope):List Str →List Str →Bool
 | [],[]=>true
 | x::M,y::N=>(scope.names.lookup x != some .local)&&((scope.names.lookup x != some .free)||x==y)&&QT scope M N
 | _,_=>false
theorem NL.of {scope:Scope}:∀ {N M:List Str},QT scope M N=true →NL N M scope
 | [],[],_=>⟨rfl,fun j x h=>by simp at h,fun j x h=>by simp at h⟩
 | [],_::_,h=>by cases h
 | _::_,[],h=>by cases h
 | y::N,x::M,h=>by
  have h':((scope.names.lookup x != some .local)&&((scope.names.lookup x != some .free)||x==y)&&QT scope M N)=true:=h;simp only [Y6,Zy,bne_iff_ne,beq_iff_eq] at h';obtain ⟨⟨h1,h2⟩,h3⟩:=h';have q:=NL.of h3;refine ⟨by simp [q.len],fun j z e=>?_,fun j z e f=>?_⟩
  ·cases j with
   | zero=>simp at e; subst e; exact h1
   | succ j=>exact q.loc j z (by simpa using e)
  ·cases j with
   | zero =>
    simp at e; subst e;rcases h2 with w | w
    ·exact absurd f w
    ·simp [w]
   | succ j=>simpa using q.free j z (by simpa using e) f
def cQ (X:Cx)(ls M:List Str)(scope:Scope)(C:Addr)(fp:List Addr)(s:Shared)(H:Hp):Cx where
 prog:=X.prog
 w:=X.w
 K:=X.K
 mg:=X.mg
 base:=X.base
 A:=X.A
 N:=ls++M
 s₀:=s
 H₀:=H
 env:=compEnvC scope (fY X.env scope.names []) C X.env
 outer:=X.stack
 stack:=X.stack
 ex:=fp
 fn:=fun _=>false
 calm:=X.calm
 pn:=[]
 xe:=fun _ _=>False
def Lr (Y:Cx)(ifs:List Expr)(c:TT):Prop :=
 ∀ (pins:List (Addr×Obj)) (s:Shared) (σ:St) (H:Hp) (Q:Bool →Hp →Prop),aU Y pins σ H s →c σ H Q →
  wpAny (model Y.prog Y.w) Y.A (forIn ifs true fun c r=>if r=true then do let ok ← isTrue c Y.env (eval c Y.env); pure (ForInStep.yield ok) else pure (ForInStep.yield r)) (TP Y pins σ Q) Y.xe s
def Iu:TT:=fun _ H Q=>Q true H
theorem dB {Y:Cx}:Lr Y [] Iu:=fun _ _ _ H _ I h=>wpAny_tests_nil ⟨H,I,h⟩
theorem lL {Y:Cx}{e:Expr}{c:TT}(h:PT Y e c):Lr Y [e] c:=fun pins s σ H Q I hw=>wpAny_tests_one (h pins s σ H Q I hw)
def BP (k:Nat)(J:It)(g:TG)(c:TT)(te:TE)(σ:St)(H1:Hp)(D:Addr)(Q:VK):Prop :=
 ∃ W:Nat →Nat →St →Hp →Prop,(∃ m,W 0 m (ZZ k none++σ) (bQ H1 D (.lst [])))∧∀ i m τ H,W i m τ H →
  (J.stop i H∧Q (.ref D) H)∨(J.go i H∧∀ x H',J.yld i H x H' →g x τ H' fun τ2 H2=>c τ2 H2 fun b H3=>if b=true then te τ2 H3 fun y H4=>∃ ys m',m'<m∧H4 D=some (.lst ys)∧ys.length<sizeLine∧W (i+1) m' τ2 (bQ H4 D (.lst (ys++[y]))) else ∃ m',m'<m∧W (i+1) m' τ2 H3)
def Ib (k:Nat)(wi:TI)(g:TG)(c:TT)(te:TE):TE:=fun σ H Q=>wi σ H fun J H1=>∀ D,H1 D=none →BP k J g c te σ H1 D Q
structure Hk (X:Cx)(pins:List (Addr×Obj))(H:Hp)(C:Addr)(s:Shared):Prop where
 ns:∃ m,s.heap.Ns C m
 none:H C=none
 ne:C≠X.env.locals
 young:X.s₀.heap.objs.size ≤ C
 cells:∀ x c,X.env.cells.lookup x=some c →c≠C
 pins:∀ p∈X.pn++pins,p.1≠C
theorem aU.gone {X:Cx}{pins:List (Addr×Obj)}{σ:St}{H:Hp}{C:Addr}{s:Shared}{h':Heap}(I:aU X pins σ H s)(o:Hk X pins H C s)(hs:Yh C s.heap h'):aU X pins σ H { s with heap:=h' } :=
 I.turned (t':=s.toks) (it:=C) (fun b ob hb e=>(hs.2 b hb).trans e) o.none o.ne (.inr o.young) o.cells o.pins
section
variable {X:Cx}{elt tg iter:Expr}{ifs:List Expr}{scope:Scope}{pos:Pos}{ls M:List Str}{g:TG}{c:TT}{te:TE}
theorem rZ {J:It}{fp:List Addr}{tn:Nat →Heap →Prop}{it:Addr}{pins:List (Addr×Obj)}{σ:St}{H2:Hp}{s2:Shared}{Qe:VK}{RR:Value →Addr →Result →Shared →Prop}{E:Value →Shared →Prop}
  (hc:X.calm=true) (S:cA X.env.scope scope) (nl:NL X.N M scope)
  (hb:∀ C fp s H,PG (cQ X ls M scope C fp s H) tg g∧Lr (cQ X ls M scope C fp s H) ifs c∧PE (cQ X ls M scope C fp s H) elt te)
  (I2:aU X pins σ H2 s2) (T:Turn X.prog X.w X.K tg J fp it tn) (st2:tn 0 s2.heap) (f2:∀ b∈fp,rE X pins H2 b)
  (hW:∀ D,H2 D=none →BP ls.length J g c te σ H2 D Qe)
  (hRR:∀ D C H' s',aU X pins σ H' s' →Hk X pins H' C s' →Qe (.ref D) H' →RR (.ref D) C (.ok .next) s') :
  wpAny (model X.prog X.w) X.A (newList []) (fun acc s₃=>wpAny (model X.prog X.w) X.A (newFunctionEnv scope X.env.globals (fY X.env scope.names []) [] X.env.qual none .none (some X.env)) (fun cenv s₄ =>
   codeAny (model X.prog X.w) X.A (.compStart (.ListComp elt [⟨tg,iter,ifs,0⟩] scope pos) 0 (.ref it) acc { cenv with scope:=relabel scope X.env }) (RR acc cenv.locals) s₄) E s₃) E s2:=by
 refine wpAny_newObj_type (wpAny_newFunctionEnv S.nocell (by intro y hy; simp at hy) (fun h₁ hns₁ hsb₁=>?_) S.kind);dsimp only at hns₁ hsb₁ ⊢;have I3:aU X pins σ (bQ H2 s2.heap.objs.size (.lst [])) { s2 with heap:=s2.heap.push { cls:=.type "list",dict:=none,data:=.seq ([]:List Value).toArray },toks:=s2.toks } :=
  I2.laid (fun _ _ q=>YB _ q) (YD _) ⟨Ym _,[],0,.nil,YL _ rfl⟩
 have hfreshD:H2 s2.heap.objs.size=none:=I2.hok.fresh (YD _);generalize hHH:s2.heap.push { cls:=.type "list",dict:=none,data:=.seq ([]:List Value).toArray }=HH at hns₁ hsb₁ I3 ⊢;have up:∀ b o,s2.heap.get? b=some o →HH.get? b=some o:=fun b o e=>by rw [← hHH]; exact YB _ e
 have old:∀ b o,HH.get? b=some o →h₁.get? b=some o:=fun b o e=>hsb₁.extBut b o (YW (YG e)) (YB _ e);generalize hH3:bQ H2 s2.heap.objs.size (.lst [])=H3 at I3;have f3:∀ b∈fp,rE X pins H3 b:=fun b hb=>by
  obtain ⟨f0,fr⟩:=f2 b hb;refine ⟨?_,fr⟩;obtain ⟨o,e,_⟩:=T.obj 0 _ st2 b hb;rw [← hH3,aP (YW (YG e))];exact f0
 have fplt:∀ b∈fp,b<HH.objs.size:=fun b hb=>by
  obtain ⟨o,e,_⟩:=T.obj 0 _ st2 b hb;exact YG (up b o e)
 have sub:∀ x a,(fY X.env scope.names []).lookup x=some a →X.env.cells.lookup x=some a:=fun x a e=>by
  rcases tH _ _ _ (PySem.mem_of_lookup e) with z | z
  ·exact absurd z (by simp)
  ·exact z
 have kin:∀ x,scope.names.lookup x=some .free →X.env.kindOf x=some .cell∨X.env.kindOf x=some .free:=fun x e=>S.free (x,.free) (PySem.mem_of_lookup e) rfl;have has:∀ x a,scope.names.lookup x=some .free →X.env.cells.lookup x=some a →(fY X.env scope.names []).lookup x=some a:=fun x a e ec=>by
  obtain ⟨d,hd⟩:=j4 (rW ec scope.names [] (PySem.mem_of_lookup e));have:=sub x d hd;rw [ec] at this;cases this;exact hd
 have rel:∀ x k,(relabel scope X.env).names.lookup x=some k →(k=.cell∨k=.free) →scope.names.lookup x=some .free:=fun x k e hk=>by
  obtain ⟨k',e1,e2⟩:=eG (show (scope.names.map fun (n,k)=>if (k==NameKind.free&&X.env.scope.kind==.function&&X.env.kindOf n==some .cell) then (n,NameKind.cell) else (n,k)).lookup x=some k from e);rcases e2 with e2 | ⟨e2,_⟩
  ·subst e2;rcases hk with hk | hk
   ·subst hk; exact absurd rfl (S.nocell _ (PySem.mem_of_lookup e1))
   ·subst hk; exact e1
  ·subst e2; exact e1
 have okY:(cQ X ls M scope HH.objs.size fp { s2 with heap:=HH,toks:=s2.toks } H3).Ok:=by
  refine ⟨I3.ok.mod,S.kind,I3.ok.glob,I3.ok.blt,YD _,fun x y a h1 h2=>I3.ok.inj x y a (sub x a h1) (sub y a h2),fun x hx=>?_,(fun x a h=>nomatch h),I3.ok.hd,I3.ok.frames,.inl rfl,fun b hb'=>⟨YW (fplt b hb'),fun x a e=>(f3 b hb').2.2.2.2.1 x a (sub x a e)⟩,
   I3.bs,Y5 I3.ok.bsz I3.sz,fun b o e hb'=>?_,fun b hb' hs=>?_,I3.stack,I3.stkFree⟩
  ·have hf:scope.names.lookup x=some .free:=by
    rcases hx with hx | hx
    ·exact rel x _ hx (.inl rfl)
    ·exact rel x _ hx (.inr rfl)
   obtain ⟨a,ea⟩:=I3.ok.has x (kin x hf);exact ⟨a,has x a hf ea⟩
  ·rcases (f3 b hb').2.2.2.1 with z | z
   ·exact I3.ok.noex b o e z
   ·exact absurd (YS (YG e) (Y5 I3.ok.bsz z)) (Yz _)
  ·rcases Ye.mp (I3.stkSub b hs) with z | z
   ·exact (f3 b hb').2.1 z
   ·exact (f3 b hb').2.2.1 z
 have IY:aU (cQ X ls M scope HH.objs.size fp { s2 with heap:=HH,toks:=s2.toks } H3) [] (ZZ ls.length none++σ) H3 { s2 with heap:=h₁,toks:=s2.toks+([]:List (Str×Value)).length }:=by
  refine ⟨okY,rfl,I2.bare,Un.kept old,⟨_,hns₁,fun i x v e1 e2 e3=>?_⟩,fun x a e=>?_,I3.hok.fresh (YD _),fun x a e=>I3.freeC x a (sub x a e),fun p hp=>absurd (show p∈([]:List (Addr×Obj)) from hp) (by simp),I3.hok.kept old,?_⟩
  ·have hi:ls.length ≤ i:=by
    by_cases hi:ls.length ≤ i
    ·exact hi
    ·rw [aAt (by simp; omega),aAz] at e2
     split at e2 <;> cases e2
   rw [Zr (by simpa using hi),Zk] at e2;have e0:M[i-ls.length]? = some x:=by
    have z:(ls++M)[i]? = some x:=e1;rw [Zr hi] at z;exact z
   have hnl:=nl.loc _ x e0;have hf:scope.names.lookup x=some .free:=by
    rcases e3 with e3 | e3 | e3
    ·obtain ⟨k',q1,q2⟩:=eG (show (scope.names.map fun (n,k)=>if (k==NameKind.free&&X.env.scope.kind==.function&&X.env.kindOf n==some .cell) then (n,NameKind.cell) else (n,k)).lookup x=some .local from e3);rcases q2 with q2 | ⟨_,q2⟩
     ·subst q2; exact absurd q1 hnl
     ·cases q2
    ·exact rel x _ e3 (.inl rfl)
    ·exact rel x _ e3 (.inr rfl)
   have e1':=nl.free _ x e0 hf;have hk:=kin x hf;obtain ⟨m,hn,hl⟩:=I3.loc;obtain ⟨u,ru,lk⟩:=hl (i-ls.length) x v e1' e2 (hk.elim (fun z=>.inr (.inl z)) fun z=>.inr (.inr z));refine ⟨u,ru,?_⟩;rcases lk with ⟨z,_⟩ | ⟨_,a,ea,hcell⟩
   ·rcases hk with hk | hk <;> (rw [hk] at z; cases z)
   ·obtain ⟨o,eo,hd⟩:=hcell;refine .inr ⟨?_,a,has x a hf ea,⟨o,old a o eo,hd⟩⟩;rcases e3 with e3 | e3 | e3
    ·obtain ⟨k',q1,q2⟩:=eG (show (scope.names.map fun (n,k)=>if (k==NameKind.free&&X.env.scope.kind==.function&&X.env.kindOf n==some .cell) then (n,NameKind.cell) else (n,k)).lookup x=some .local from e3);rcases q2 with q2 | ⟨_,q2⟩
     ·subst q2; exact absurd q1 hnl
     ·cases q2
    ·exact .inl e3
    ·exact .inr e3
  ·obtain ⟨v,o,eo,hd⟩:=I3.cell x a (sub x a e);exact ⟨v,o,old a o eo,hd⟩
  ·show (ZZ ls.length none++σ).length=(ls++M).length;rw [YQ,YQ,Zk,I3.len,nl.len]
 have st1:tn 0 h₁:=T.keep 0 _ _ st2 fun b _ o e=>old b o (up b o e);obtain ⟨hPG,hPT,hPE⟩:=hb HH.objs.size fp { s2 with heap:=HH,toks:=s2.toks } H3;obtain ⟨W,⟨m0,w0⟩,turn⟩:=hW s2.heap.objs.size hfreshD;rw [hH3] at w0;have back:∀ {τ:St}{H':Hp}{s':Shared},aU (cQ X ls M scope HH.objs.size fp { s2 with heap:=HH,toks:=s2.toks } H3) [] τ H' s' →aU X pins σ H' s'∧Hk X pins H' HH.objs.size s':=fun {τ H' s'} J=>by
  refine ⟨I3.call' (ch:=fp) J.os J.base J.hok J.bare fun b hb'=>?_,?_⟩
  ·obtain ⟨_,g1,g2,g3,g4,g5⟩:=f3 b hb';exact ⟨g3,g1,g4,g5⟩
  ·obtain ⟨m,hn,_⟩:=J.loc;refine ⟨⟨m,hn⟩,J.free,Ne.symm (YW I3.lt),I3.sz,fun x a e=>?_,fun p hp=>YW (YG (I3.pin p hp).1)⟩;obtain ⟨v,q⟩:=I3.cell x a e;exact YW q.lt
 have stat:∀ {H':Hp},(∀ b∈fp,H' b=none) →∀ b∈fp,rE (cQ X ls M scope HH.objs.size fp { s2 with heap:=HH,toks:=s2.toks } H3) [] H' b:=fun {H'} hn b hb'=>by
  obtain ⟨_,g1,g2,g3,g4,g5⟩:=f3 b hb';refine ⟨hn b hb',YW (fplt b hb'),fun hs=>?_,.inl hb',fun x a e=>g4 x a (sub x a e),fun p hp=>absurd (show p∈([]:List (Addr×Obj)) from hp) (by simp)⟩;rcases Ye.mp (I3.stkSub b hs) with z | z
  ·exact g1 z
  ·exact g2 z
 have loop:∀ s₃:Shared,s₃ = { s2 with heap:=h₁,toks:=s2.toks+([]:List (Str×Value)).length } →
   codeAny (model X.prog X.w) X.A (.compLoop (.ListComp elt [⟨tg,iter,ifs,0⟩] scope pos) 0 (.ref it) (.ref s2.heap.objs.size) (compEnvC scope (fY X.env scope.names []) HH.objs.size X.env)) (RR (.ref s2.heap.objs.size) HH.objs.size) s₃:=by
  rintro s₃ rfl;refine tV (fun n s'=>∃ i τ H',aU (cQ X ls M scope HH.objs.size fp { s2 with heap:=HH,toks:=s2.toks } H3) [] τ H' s'∧tn i s'.heap∧(∀ b∈fp,H' b=none)∧W i n τ H') ?_ m0 ⟨0,_,H3,IY,st1,fun b hb'=>(f3 b hb').1,w0⟩;rintro n s3 ⟨i,τ,H',I4,st4,fr4,w4⟩ E';rcases turn i n τ H' w4 with ⟨stop,qn⟩ | ⟨go,step⟩
  ·refine cN (T.done (cQ X ls M scope HH.objs.size fp { s2 with heap:=HH,toks:=s2.toks } H3) rfl rfl rfl hc i [] s3 τ H' E' I4 (stat fr4) st4 stop) fun r s4 ⟨hr,I5⟩=>?_;subst hr;obtain ⟨b1,b2⟩:=back I5;exact hRR _ _ H' s4 b1 b2 qn
  ·refine cN (T.item (cQ X ls M scope HH.objs.size fp { s2 with heap:=HH,toks:=s2.toks } H3) rfl rfl rfl hc i [] s3 τ H' E' I4 (stat fr4) st4 go) fun r s4 ⟨u,hr,h4⟩=>?_;subst hr;refine cN h4 fun _ s5 ⟨x,H5,I5,r5,y5,st5,fr5⟩=>?_;have I5':=I5.pinned (stat fr5) (T.obj _ _ st5);refine wpAny_mono (hPG _ s5 τ H5 x u _ I5' r5 (step x H5 y5)) (fun _ s6 ⟨σ6,H6,I6,q6⟩=>?_) fun _ _ z=>z.elim;refine wpAny_mono (hPT _ s6 σ6 H6 _ I6 q6) (fun ok s7 ⟨H7,I7,q7⟩=>?_) fun _ _ z=>z.elim;have again:∀ {σ8:St}{H8:Hp}{s8:Shared}{m':Nat},aU (cQ X ls M scope HH.objs.size fp { s2 with heap:=HH,toks:=s2.toks } H3) ([]++pQ fp s5.heap) σ8 H8 s8 →m'<n →W (i+1) m' σ8 H8 →
     ∃ m,m<n∧∃ i τ H',aU (cQ X ls M scope HH.objs.size fp { s2 with heap:=HH,toks:=s2.toks } H3) [] τ H' s8∧tn i s8.heap∧(∀ b∈fp,H' b=none)∧W i m τ H':=fun {σ8 H8 s8 m'} I8 hm w8=>by
    refine ⟨m',hm,i+1,σ8,H8,I8.unpinned,T.keep _ _ _ st5 fun b hb' o e=>(I8.pin (b,o) (Yl _ (Yl _ (gR hb' e)))).1,fun b hb'=>?_,w8⟩;obtain ⟨o,e,d⟩:=T.obj _ _ st5 b hb';exact (I8.pin (b,o) (Yl _ (Yl _ (gR hb' e)))).2.1
   cases ok with
   | false =>
    rw [if_neg YM] at q7 ⊢;obtain ⟨m',hm,w7⟩:=q7;exact again I7 hm w7
   | true =>
    rw [if_pos rfl] at q7 ⊢;refine wpAny_mono (hPE _ s7 σ6 H7 _ I7 q7) (fun yv s8 ⟨y,H8,I8,r8,ys,m',hm,hD,hz,w8⟩=>?_) fun _ _ z=>z.elim;refine wpAny_mono (jO (X:=(cQ X ls M scope HH.objs.size fp { s2 with heap:=HH,toks:=s2.toks } H3)) _ s8 σ6 H8 (.ref s2.heap.objs.size) [y] (.ref s2.heap.objs.size) [yv] (fun _ H9=>W (i+1) m' σ6 H9) I8 rfl (.cons r8 .nil) ⟨_,ys,y,rfl,rfl,hD,hz,w8⟩) (fun _ s9 ⟨_,H9,I9,_,w9⟩=>?_) fun _ _ z=>z.elim;exact again I9 hm w9
 exact codeAny_compStart_list (loop _ rfl) (T.self _ 0 _ _ _ st1 (loop _ rfl))
theorem El (S:cA X.env.scope scope)(ok:X.Ok):closureFor scope X.env=pure (fY X.env scope.names []) :=
 nA fun y hy e=>ok.has y.1 (S.free y hy e)
theorem eY {wi:TI}(hc:X.calm=true)(S:cA X.env.scope scope)(nl:NL X.N M scope)(hi:PI X tg iter wi)
  (hb:∀ C fp s H,PG (cQ X ls M scope C fp s H) tg g∧Lr (cQ X ls M scope C fp s H) ifs c∧PE (cQ X ls M scope C fp s H) elt te)
  (hs:∀ x,foldedSetIterable iter X.env x=pure x:=by intro _; rfl):PE X (.ListComp elt [⟨tg,iter,ifs,0⟩] scope pos) (Ib ls.length wi g c te):=by
 intro pins s σ H Q I h;rw [eval_ListComp];refine wpAny_comprehension_free (use:=none) rfl hs (El S I.ok) S.kind S.loc (cN (hi pins s σ H _ I h) fun xv s1 h1=>cN h1 fun itv s2 h2=>?_);obtain ⟨it,fp,tn,J,H2,e,I2,T,st2,f2,hW⟩:=h2;subst e;refine rZ (RR:=fun acc C=>compPost (model X.prog X.w) X.A X.xe none (EP X pins σ Q) acc C) (Qe:=Q) hc S nl hb I2 T st2 f2 hW fun D C H' s' I' o q=>?_;exact ⟨o.ns.choose,o.ns.choose_spec,fun h' hs'=>⟨.ref D,H',I'.gone o hs',rfl,q⟩⟩
theorem fB {wi:TI}{i:Nat}{y:Str}{py spos:Pos}(hc:X.calm=true)(S:cA X.env.scope scope)(nl:NL X.N M scope)(hN:X.N.Nodup)(hiy:X.N[i]? = some y)(hy:Loc X.env.scope y)
  (hi:PI X tg iter wi) (hb:∀ C fp s H,PG (cQ X ls M scope C fp s H) tg g∧Lr (cQ X ls M scope C fp s H) ifs c∧PE (cQ X ls M scope C fp s H) elt te)
  (hsw:swapsWith (.ListComp elt [⟨tg,iter,ifs,0⟩] scope pos) (some (.Name y py)) spos.line X.env=pure true:=by rfl)
  (hs:∀ x,foldedSetIterable iter X.env x=pure x:=by intro _; rfl) (hf:X.fn y=true∨X.env.scope.names.lookup y=some .local:=by first | exact .inl rfl | exact .inr rfl) :
  PS X (.Assign [.Name y py] (.ListComp elt [⟨tg,iter,ifs,0⟩] scope pos) spos) (Il (Ib ls.length wi g c te) (rR i)):=by
 intro pins s σ H D I h;rw [exec_Assign_Name_used _ _ _ _ hsw];refine wpAny_bind (wpAny_standAt (wpAny_bind ?_));show wpAny _ X.A (do let _ ← comprehension (.ListComp elt [⟨tg,iter,ifs,0⟩] scope pos) scope X.env _ (newList []) false (eval iter X.env) (some (assign (.Name y py) X.env))) _ _ s;refine wpAny_bind (wpAny_mono (wpAny_comprehension_free (use:=some (assign (.Name y py) X.env)) (Q:=fun _ s'=>SP X pins D .next s') rfl hs (El S I.ok) S.kind S.loc (cN (hi pins s σ H _ I h) fun xv s1 h1=>cN h1 fun itv s2 h2=>?_)) (fun _ s' hq=>wpAny_pure (wpAny_pure hq)) fun _ _ e=>e);obtain ⟨it,fp,tn,J,H2,e,I2,T,st2,f2,hW⟩:=h2;subst e;refine rZ (RR:=fun acc C=>compPost (model X.prog X.w) X.A X.xe (some (assign (.Name y py) X.env)) (fun _ s'=>SP X pins D .next s') acc C) hc S nl hb I2 T st2 f2 hW fun Dl C H' s' I' o q=>?_;show wpAny _ X.A (assign (.Name y py) X.env (.ref Dl)) _ _ _;refine wpAny_assign_Name (jL I' hN hiy hy (v:=.ref Dl) rfl (fun s'' I'' ⟨a,hsa,ha⟩=>?_) hf);have hCa:C≠a:=by
  rcases ha with z | z
  ·rw [z]; exact o.ne
  ·exact Ne.symm (o.cells y a z)
 obtain ⟨m,hm⟩:=o.ns;have o2:Hk X pins H' C s'':=⟨⟨m,hm.sameBut hsa hCa⟩,o.none,o.ne,o.young,o.cells,o.pins⟩
 exact ⟨m,hm.sameBut hsa hCa,fun h' hs'=>⟨_,H',I''.gone o2 hs',q⟩⟩
end
def CW (n:Nat)(Pv:Nat →St →Hp →Prop)(i m:Nat)(τ:St)(H:Hp):Prop:=m=n-i∧i ≤ n∧Pv i τ H
theorem bG {n i m:Nat}{Pv:Nat →St →Hp →Prop}{τ:St}{H4:Hp}{D:Addr}{ys:List V}{y:V}(hm:m=n-i)(hi:i<n)(e1:H4 D=some (.lst ys))(e2:ys.length<sizeLine)(p:Pv (i+1) τ (bQ H4 D (.lst (ys++[y])))) :
  ∃ ys m',m'<m∧H4 D=some (.lst ys)∧ys.length<sizeLine∧CW n Pv (i+1) m' τ (bQ H4 D (.lst (ys++[y]))):=⟨ys,n-(i+1),by omega,e1,e2,rfl,hi,p⟩
theorem fD {n i m:Nat}{Pv:Nat →St →Hp →Prop}{τ:St}{H3:Hp}(hm:m=n-i)(hi:i<n)(p:Pv (i+1) τ H3):∃ m',m'<m∧CW n Pv (i+1) m' τ H3:=⟨n-(i+1),by omega,rfl,hi,p⟩
theorem bT {k:Nat}{lo:Int}{n:Nat}{g:TG}{c:TT}{te:TE}{σ:St}{H1:Hp}{D:Addr}{Q:VK}(Pv:Nat →St →Hp →Prop)(h0:Pv 0 (ZZ k none++σ) (bQ H1 D (.lst [])))
  (hs:∀ i m τ H,m=n-i →i<n →Pv i τ H →g (.int (lo+i)) τ H fun τ2 H2=>c τ2 H2 fun b H3=>if b=true then te τ2 H3 fun y H4=>∃ ys m',m'<m∧H4 D=some (.lst ys)∧ys.length<sizeLine∧CW n Pv (i+1) m' τ2 (bQ H4 D (.lst (ys++[y]))) else ∃ m',m'<m∧CW n Pv (i+1) m' τ2 H3)
  (hd:∀ τ H,Pv n τ H →Q (.ref D) H):BP k (Ir lo n) g c te σ H1 D Q:=by
 refine ⟨CW n Pv,⟨n,rfl,Ym _,h0⟩,?_⟩;rintro i m τ H ⟨hm,hi,p⟩
 by_cases hlt:i<n
 ·refine .inr ⟨hlt,fun x H' y=>?_⟩;obtain ⟨e,y⟩:=y;subst e y;exact hs i m τ _ hm hlt p
 ·have e:i=n:=by omega
  subst e;exact .inl ⟨YD _,hd τ H p⟩
theorem d8 {K:PySem.W.Frag}{a:Addr}{xs:List V}{k:Nat}{g:TG}{c:TT}{te:TE}{σ:St}{H1:Hp}{D:Addr}{Q:VK}(Pv:Nat →St →Hp →Prop)(h0:Pv 0 (ZZ k none++σ) (bQ H1 D (.lst [])))
  (hl:∀ i τ H,i ≤ xs.length →Pv i τ H →bL K H a xs)
  (hs:∀ i m x τ H,m=xs.length-i →i<xs.length →xs[i]? = some x →Pv i τ H →g x τ H fun τ2 H2=>c τ2 H2 fun b H3=>if b=true then te τ2 H3 fun y H4=>∃ ys m',m'<m∧H4 D=some (.lst ys)∧ys.length<sizeLine∧CW xs.length Pv (i+1) m' τ2 (bQ H4 D (.lst (ys++[y]))) else ∃ m',m'<m∧CW xs.length Pv (i+1) m' τ2 H3)
  (hd:∀ τ H,Pv xs.length τ H →Q (.ref D) H):BP k (Jt K a) g c te σ H1 D Q:=by
 refine ⟨CW xs.length Pv,⟨xs.length,rfl,Ym _,h0⟩,?_⟩;rintro i m τ H ⟨hm,hi,p⟩;have q:=hl i τ H hi p
 by_cases hlt:i<xs.length
 ·refine .inr ⟨⟨xs,xs[i],q,by simp [hlt]⟩,fun x H' y=>?_⟩;obtain ⟨e,y⟩:=y;subst e;exact hs i m x τ _ hm hlt (y xs q) p
 ·have e:i=xs.length:=by omega
  subst e;exact .inl ⟨⟨xs,q,YD _⟩,hd τ H p⟩
theorem HD {τ:St}{H:Hp}{A B:Hp →Prop}(h:A H):Iu τ H (fun b H3=>if b=true then A H3 else B H3):=by
 show (if true=true then A H else B H);rw [if_pos rfl];exact h
theorem lB {c:Bool}{A B:Prop}(h:c=true)(a:A):if c=true then A else B:=by
 rw [if_pos h];exact a
theorem eQ {c:Bool}{A B:Prop}(h:c=false)(b:B):if c=true then A else B:=by
 rw [if_neg (by rw [h]; exact YM)];exact b
theorem yD:bootBuiltins "int" = some (.type "int"):=by decide +kernel
theorem BW:bootBuiltins "bool" = some (.type "bool"):=by decide +kernel
theorem Jf:bootBuiltins "str" = some (.type "str"):=by decide +kernel
theorem pB:bootBuiltins "list" = some (.type "list"):=by decide +kernel
theorem fJ:bootBuiltins "tuple" = some (.type "tuple"):=by decide +kernel
theorem dJ:bootBuiltins "len" = some (.builtin "len"):=by decide +kernel
theorem bR:bootBuiltins "isinstance" = some (.builtin "isinstance"):=by decide +kernel
theorem uZ:bootBuiltins "max" = some (.builtin "max"):=by decide +kernel
theorem DR:bootBuiltins "min" = some (.builtin "min"):=by decide +kernel
theorem rJ:bootBuiltins "sorted" = some (.builtin "sorted"):=by decide +kernel
theorem zA:bootBuiltins "all" = some (.builtin "all"):=by decide +kernel
theorem Eg:bootBuiltins "any" = some (.builtin "any"):=by decide +kernel
def xR:List Str →Bool
 | []=>true
 | x::r=>(r.all fun y=>x != y)&&xR r
theorem dU:∀ {l:List Str},xR l=true →l.Nodup
 | [],_=>.nil
 | x::r,h=>by
  have h':((r.all fun y=>x != y)&&xR r)=true:=h;rw [Y6,ZL] at h';refine Z4.mpr ⟨fun z=>?_,dU h'.2⟩;have:=h'.1 x z;simp at this
structure eV (P:Program)(w:World)(K:PySem.W.Frag)(mg:Str →Option Value)(base:Heap)(n:Nat)(x:Str)(ps:List Str)(sp:Sp)(g:Addr)(gd:FuncData):Prop where
 ok:bD P w K mg base dW n g gd ps sp
 bi:Binds K gd ps []
 kp:PySem.W.keepIn K (.ref g)=true
 at_:mg x=some (.ref g)
theorem eV.up {P:Program}{w:World}{K:PySem.W.Frag}{mg:Str →Option Value}{base:Heap}{n m:Nat}{x:Str}{ps:List Str}{sp:Sp}{g:Addr}{gd:FuncData}(c:eV P w K mg base n x ps sp g gd)(h:n ≤ m):eV P w K mg base m x ps sp g gd:=⟨c.ok.mono h,c.bi,c.kp,c.at_⟩
theorem aJ {X:Cx}{n:Nat}{x:Str}{ps:List Str}{sp:Sp}{g:Addr}{gd:FuncData}{p pos:Pos}{e:Expr}{es:List Expr}{t:TA}(c:eV X.prog X.w X.K X.mg X.base n x ps sp g gd)(hr:dM n X.A)(ha:PA X (e::es) t)(hg:Gl X x:=by rfl)
  (hd:(x==("__debug__" : Str))=false:=by decide) (he:starEach (e::es) X.env=(false,eval e X.env)::starEach es X.env:=by rfl) (hpl:(backTo pos (starEach es X.env)).any (·.1)=false:=by rfl) :
  PE X (.Call (.Name x p) (e::es) [] pos) (Hz sp [] E0 t):=Gx c.ok hr hg c.at_ c.kp c.bi .nil qG ha hd he hpl
theorem aH {H:Hp}{p:Addr}(h:H p=none)(o:HO):bB H (bQ H p o):=fun b u q=>by rw [aP (bK q h)]; exact q
theorem bB.upd_new {H H':Hp}{p:Addr}(s:bB H H')(h:H p=none)(o:HO):bB H (bQ H' p o):=fun b u q=>by rw [aP (bK q h)]; exact s b u q
theorem wM {L:List Int}{i:Int}(h0:0 ≤ i)(h1:i<(L.length:Int)):xM (L.map V.int) i=some (.int (L.getD i.toNat 0)):=by
 have hi:i.toNat<L.length:=by omega
 have e:i=((i.toNat:Nat):Int):=by omega
 have q:xM (L.map V.int) ((i.toNat:Nat):Int)=some (.int (L.getD i.toNat 0)):=jR (by rw [Y7,YF hi,getD_at hi] <;> rfl);rw [← e] at q;exact q
end L2
namespace L2
open PySem PySem.W
def ev {α:Type}:List α →List α
 | []=>[]
 | [a]=>[a]
 | a::_::r=>a::ev r
def od {α:Type}:List α →List α
 | []=>[]
 | [_]=>[]
 | _::b::r=>b::od r
def bt:Nat →List Obj →BT
 | 0,_=>.nil
 | _+1,[]=>.nil
 | n+1,o::r=>.node o (bt n (ev r)) (bt n (od r))
def sets (l:List Obj):List (Nat×Obj) →List Obj
 | []=>l
 | p::r=>sets (l.set p.1 p.2) r
noncomputable def xO (T:BT)(n k:Nat)(os:OsState):SharedT:=⟨T,n,{},aAA [],boot_drawn,k,os⟩
theorem uH {tb:String →Option Builtin}{p:Program}{w:World}{m0:Nat}{ann:Option Value}{env:Env}{q:Pos}{n N:Nat}{s s':SharedT}{r:Shared}{l rest:List Stmt}{c:Code}{pos p':Pos}
  (h:segRunT tb p w m0 ann 1 n s (piecesOf l env c pos [topFrame q])=some (.next,s',c,p')) (k:topRun tb p w m0 ann N s'.abs (restOf rest env c p' [topFrame q])=some r):topRun tb p w m0 ann (n+N) s.abs (restOf (l++rest) env c pos [topFrame q])=some r :=
 piece_app (segRun_of h) k
theorem Cu {p q:Program}{loose:List Str}{Xt:Shared →Bool}{α:Type}{Yf:Shared →α}{Ya:World →α}{N:Nat}{Tb Tf:Params →BT}{nb nf ka kf:Nat}{env:Env}{C:Code}{gs:List Stmt}{posA posB qp:Pos}{m0:Nat}{ann:Option Value}{a b c:Nat}
  (e1:opening p=plainProg p.main.scope.names) (h6:Nat.ble 600 N=true) (e2:∀ s,fenceModules? p s=some s)
  (size:∀ w:World,((boot_heap w.params).isNs mainGlobals&&(aAA []:Array GenState).size==0,(boot_heap w.params).objs.size,(boot_heap w.params).nsMap mainGlobals "__annotations__")=(true,m0,ann))
  (pre:∀ (w:World) (os:OsState),topGo treeTable p w m0 ann a ⟨boot_heap w.params,aAA [],boot_drawn,boot_toks,os⟩ (topStub p)=some ((xO (Tb w.params) nb ka os).abs,⟨denote treeTable (.body gs env),C,posA,[topFrame qp]⟩))
  (blk:∀ (w:World) (os:OsState),segRun treeTable p w m0 ann 1 b (xO (Tb w.params) nb ka os).abs (blockOf gs env C posA [topFrame qp])=some (.next,(xO (Tb w.params) nb ka os).abs,C,posB))
  (run:∀ (w:World) (os:OsState),topRun treeTable p w m0 ann c (xO (Tb w.params) nb ka os).abs (restOf gs env C posB [topFrame qp])=some (xO (Tf w.params) nf kf os).abs)
  (le:Nat.ble (a+(b+c)) N=true)
  (looks:∀ w:World,(fun os=>((staticsOk (importedModules p.main.body) (boot_heap w.params) (absHeap (Tf w.params) nf {})&&namesBound p (absHeap (Tf w.params) nf {})&&gensDone ⟨absHeap (Tf w.params) nf {},aAA [],boot_drawn,kf,os⟩&&laidKept (boot_heap w.params) (absHeap (Tf w.params) nf {})),
    openSeen q loose (importedModules p.main.body) Xt true ⟨absHeap (Tf w.params) nf {},aAA [],boot_drawn,kf,os⟩,Yf ⟨absHeap (Tf w.params) nf {},aAA [],boot_drawn,kf,os⟩))=fun _=>(true,openGood q loose,Ya w)):LeftO p q loose Xt Yf Ya N :=
 LeftO.of_pieces (H₁:=fun P=>absHeap (Tf P) nf {}) (boot_open e1 h6 e2) size (fun w os=>go_top (pre w os) (piece_block (blk w os) (run w os))) le looks
end L2
namespace L2
open PySem PySem.Spec PyProof.Rows
inductive DE (K:PySem.W.Frag)(H:Hp):Nat →V →V →Bool →Prop
 | int (n:Nat) (i j:Int):DE K H n (.int i) (.int j) (i==j)
 | bl (n:Nat) (i j:Bool):DE K H n (.bl i) (.bl j) (i==j)
 | str (n:Nat) (i j:Str):DE K H n (.str i) (.str j) (i==j)
 | tup {n:Nat}{a b:Addr}{xs ys:List V} (e:Nat →Bool) (ha:dG K H a xs) (hb:dG K H b ys) (h:∀ (j:Nat) x y,xs[j]? = some x →ys[j]? = some y →DE K H n x y (e j)) :
   DE K H (n+1) (.ref a) (.ref b) ((Zh (min xs.length ys.length)).all e&&xs.length==ys.length)
 | lst {n:Nat}{a b:Addr}{xs ys:List V} (e:Nat →Bool) (ha:bL K H a xs) (hb:bL K H b ys) (hl:xs.length=ys.length) (h:∀ (j:Nat) x y,xs[j]? = some x →ys[j]? = some y →DE K H n x y (e j)) :
   DE K H (n+1) (.ref a) (.ref b) ((Zh xs.length).all e)
 | lstN {n:Nat}{a b:Addr}{xs ys:List V} (ha:bL K H a xs) (hb:bL K H b ys) (hl:xs.length≠ys.length):DE K H (n+1) (.ref a) (.ref b) false
section
variable {X:Cx}{pins:List (Addr×Obj)}{σ:St}{H:Hp}{s:Shared}
theorem DE.self (I:aU X pins σ H s){n:Nat}{x y:V}{k:Bool}(d:DE X.K H n x y k):x=y →k=true:=by
 induction d with
 | int n i j=>intro e; cases e; simp
 | bl n i j=>intro e; cases e; simp
 | str n i j=>intro e; cases e; simp
 | @tup n a b xs ys e ha hb h ih =>
  intro z;cases z;have q:=I.tuple_inj ha hb;subst q;rw [Y6];refine ⟨ZL.mpr fun j hj=>?_,by simp⟩;rw [ZF,Nat.min_self] at hj;exact ih j _ _ (YF hj) (YF hj) rfl
 | @lst n a b xs ys e ha hb hl h ih =>
  intro z;cases z;have q:=I.list_inj ha hb;subst q;refine ZL.mpr fun j hj=>?_;rw [ZF] at hj;exact ih j _ _ (YF hj) (YF hj) rfl
 | @lstN n a b xs ys ha hb hl =>
  intro z;cases z;exact absurd (congrArg aA6 (I.list_inj ha hb)) hl
theorem dH {xs:List V}{its:List Value}(r:bM xs its){j:Nat}(hj:j<its.length):∃ x,xs[j]? = some x∧RelV x its[j]:=by
 have hl:=r.length;obtain ⟨u,hu,ru⟩:=r.get (YF (l:=xs) (i:=j) (by omega));rw [YF hj] at hu;cases hu;exact ⟨_,YF (by omega),ru⟩
theorem in1_units (A:Around):A.in1.units=A.units+1:=rfl
theorem DE.eqAt (I:aU X pins σ H s){n:Nat}{x y:V}{k:Bool}(d:DE X.K H n x y k):∀ (A:Around) (u v:Value),A.units+n<cLine →RelV x u →RelV y v →PySem.SeqAt.EqAt A s u v k:=by
 induction d with
 | int n i j =>
  intro A u v _ ru rv;obtain ⟨t,rfl⟩:=ru;obtain ⟨t',rfl⟩:=rv;exact PySem.SeqAt.EqAt.int_int _ _ _ _
 | bl n i j =>
  intro A u v _ ru rv;cases (show u=Value.bool i from ru);cases (show v=Value.bool j from rv);exact PySem.SeqAt.EqAt.bool_bool _ _
 | str n i j =>
  intro A u v _ ru rv;obtain ⟨t,rfl⟩:=ru;obtain ⟨t',rfl⟩:=rv;exact PySem.SeqAt.EqAt.str_str _ _ _ _
 | @tup n a b xs ys e ha hb h ih =>
  intro A u v hu ru rv;cases (show u=Value.ref a from ru);cases (show v=Value.ref b from rv)
  by_cases hab:a=b
  ·have q:=(DE.tup e ha hb h).self I (by rw [hab]);rw [q];subst hab;exact PySem.SeqAt.EqAt.same _
  ·obtain ⟨its,r1,p1,_⟩:=I.tuple ha;obtain ⟨its2,r2,p2,_⟩:=I.tuple hb;refine PySem.SeqAt.EqAt.of_refs hab ?_;have q:=PySem.SeqAt.RcAt.tuples (A:=A) (e:=e) (show s.heap.IsTuple a its.toArray from p1) (show s.heap.IsTuple b its2.toArray from p2) (by omega) (fun j h1 h2=>by
    obtain ⟨x,ex,rx⟩:=dH r1 (j:=j) (by simpa using h1);obtain ⟨y,ey,ry⟩:=dH r2 (j:=j) (by simpa using h2);rw [Yi,Yi];exact ih j x y ex ey A.in1 _ _ (by rw [in1_units]; omega) rx ry)
   rw [YC,YC,← r1.length,← r2.length] at q;exact q
 | @lst n a b xs ys e ha hb hl h ih =>
  intro A u v hu ru rv;cases (show u=Value.ref a from ru);cases (show v=Value.ref b from rv)
  by_cases hab:a=b
  ·have q:=(DE.lst e ha hb hl h).self I (by rw [hab]);rw [q];subst hab;exact PySem.SeqAt.EqAt.same _
  ·obtain ⟨its,r1,p1,_⟩:=I.list ha;obtain ⟨its2,r2,p2,_⟩:=I.list hb;refine PySem.SeqAt.EqAt.of_refs hab ?_;have q:=PySem.SeqAt.RcAt.lists (A:=A) (e:=e) p1.isList p2.isList (by rw [YC,YC,← r1.length,← r2.length]; exact hl) (by omega) (fun j h1 h2=>by
    obtain ⟨x,ex,rx⟩:=dH r1 (j:=j) (by simpa using h1);obtain ⟨y,ey,ry⟩:=dH r2 (j:=j) (by simpa using h2);rw [Yi,Yi];exact ih j x y ex ey A.in1 _ _ (by rw [in1_units]; omega) rx ry)
   rw [YC,← r1.length] at q;exact q
 | @lstN n a b xs ys ha hb hl =>
  intro A u v hu ru rv;cases (show u=Value.ref a from ru);cases (show v=Value.ref b from rv);have hab:a≠b:=fun z=>by subst z; exact hl (congrArg aA6 (I.list_inj ha hb))
  obtain ⟨its,r1,p1,_⟩:=I.list ha;obtain ⟨its2,r2,p2,_⟩:=I.list hb;refine PySem.SeqAt.EqAt.of_refs hab (PySem.SeqAt.RcAt.lists_lengths p1.isList p2.isList ?_ (by omega));rw [YC,YC,← r1.length,← r2.length]
  simpa using hl
def QV (K:PySem.W.Frag)(n:Nat):R2:=fun x y H Q=>∃ a b k,x=.ref a∧y=.ref b∧DE K H (n+1) x y k∧Q (.bl k) H
def RC (K:PySem.W.Frag)(n:Nat):R2:=fun x y H Q=>∃ a b k,x=.ref a∧y=.ref b∧DE K H (n+1) x y k∧Q (.bl (!k)) H
theorem Fj {n:Nat}(hu:X.A.units+n+1<cLine):jV X (compareOp .Eq) (QV X.K n):=by
 intro pins s σ H x y v u Q I rx ry h;obtain ⟨a,b,k,rfl,rfl,d,q⟩:=h;cases (show v=Value.ref a from rx);cases (show u=Value.ref b from ry);cases d with
 | @tup n a b xs ys e ha hb h =>
  obtain ⟨its,r1,p1,_⟩:=I.tuple ha;obtain ⟨its2,r2,p2,_⟩:=I.tuple hb;refine PySem.SeqAt.eq_tupleAt (e:=e) (show s.heap.IsTuple a its.toArray from p1) (show s.heap.IsTuple b its2.toArray from p2) (by omega) (fun j h1 h2=>by
    obtain ⟨x,ex,rx⟩:=dH r1 (j:=j) (by simpa using h1);obtain ⟨y,ey,ry⟩:=dH r2 (j:=j) (by simpa using h2);rw [Yi,Yi];exact (h j x y ex ey).eqAt I X.A.in1 _ _ (by rw [in1_units]; omega) rx ry) ?_
  rw [YC,YC,← r1.length,← r2.length];exact ⟨.bl _,H,I,rfl,q⟩
 | @lst n a b xs ys e ha hb hl h =>
  obtain ⟨its,r1,p1,_⟩:=I.list ha;obtain ⟨its2,r2,p2,_⟩:=I.list hb;refine PySem.SeqAt.eq_listAt (e:=e) p1.isList p2.isList (by rw [YC,YC,← r1.length,← r2.length]; exact hl) (by omega) (fun j h1 h2=>by
    obtain ⟨x,ex,rx⟩:=dH r1 (j:=j) (by simpa using h1);obtain ⟨y,ey,ry⟩:=dH r2 (j:=j) (by simpa using h2);rw [Yi,Yi];exact (h j x y ex ey).eqAt I X.A.in1 _ _ (by rw [in1_units]; omega) rx ry) ?_
  rw [YC,← r1.length];exact ⟨.bl _,H,I,rfl,q⟩
 | @lstN n a b xs ys ha hb hl =>
  obtain ⟨its,r1,p1,_⟩:=I.list ha;obtain ⟨its2,r2,p2,_⟩:=I.list hb;exact PySem.SeqAt.eq_list_lengthsAt p1.isList p2.isList (by rw [YC,YC,← r1.length,← r2.length]; simpa using hl) (by omega) ⟨.bl _,H,I,rfl,q⟩
theorem Jb {n:Nat}(hu:X.A.units+n+1<cLine):jV X (compareOp .NotEq) (RC X.K n):=by
 intro pins s σ H x y v u Q I rx ry h;obtain ⟨a,b,k,rfl,rfl,d,q⟩:=h;cases (show v=Value.ref a from rx);cases (show u=Value.ref b from ry);cases d with
 | @tup n a b xs ys e ha hb h =>
  obtain ⟨its,r1,p1,_⟩:=I.tuple ha;obtain ⟨its2,r2,p2,_⟩:=I.tuple hb;refine PySem.SeqAt.RcNeAt.tuples (e:=e) (show s.heap.IsTuple a its.toArray from p1) (show s.heap.IsTuple b its2.toArray from p2) (by omega) (fun j h1 h2=>by
    obtain ⟨x,ex,rx⟩:=dH r1 (j:=j) (by simpa using h1);obtain ⟨y,ey,ry⟩:=dH r2 (j:=j) (by simpa using h2);rw [Yi,Yi];exact (h j x y ex ey).eqAt I X.A.in1 _ _ (by rw [in1_units]; omega) rx ry) X.prog X.w _ _ ?_
  rw [YC,YC,← r1.length,← r2.length];exact ⟨.bl _,H,I,rfl,q⟩
 | @lst n a b xs ys e ha hb hl h =>
  obtain ⟨its,r1,p1,_⟩:=I.list ha;obtain ⟨its2,r2,p2,_⟩:=I.list hb;refine PySem.SeqAt.RcNeAt.lists (e:=e) p1.isList p2.isList (by rw [YC,YC,← r1.length,← r2.length]; exact hl) (by omega) (fun j h1 h2=>by
    obtain ⟨x,ex,rx⟩:=dH r1 (j:=j) (by simpa using h1);obtain ⟨y,ey,ry⟩:=dH r2 (j:=j) (by simpa using h2);rw [Yi,Yi];exact (h j x y ex ey).eqAt I X.A.in1 _ _ (by rw [in1_units]; omega) rx ry) X.prog X.w _ _ ?_
  rw [YC,← r1.length];exact ⟨.bl _,H,I,rfl,q⟩
 | @lstN n a b xs ys ha hb hl =>
  obtain ⟨its,r1,p1,_⟩:=I.list ha;obtain ⟨its2,r2,p2,_⟩:=I.list hb;exact PySem.SeqAt.RcNeAt.lists_lengths p1.isList p2.isList (by rw [YC,YC,← r1.length,← r2.length]; simpa using hl) (by omega) X.prog X.w _ _ ⟨.bl _,H,I,rfl,q⟩
end
section
variable {X:Cx}
theorem wD:bootBuiltins "reversed" = some (.type "reversed"):=by decide +kernel
end
theorem Aw {X:Cx}{K:PySem.W.Frag}(h:X.K=K):Nu X (Li K):=by subst h; exact b7
theorem pX {X:Cx}{K:PySem.W.Frag}(h:X.K=K):Nu X (Nf K):=by subst h; exact cF
end L2
namespace Fr
def dv (t b:Int):Int:=if b<0 then -(Int.gcd t b:Int) else (Int.gcd t b:Int)
def sh (t b:Int):Int×Int:=(t.fdiv (dv t b),b.fdiv (dv t b))
structure Rv (t b:Int):Prop where
 pos:0<b
 red:Int.gcd t b=1
end Fr
namespace Tb
structure Rw where
 t:Int
 b:Int
 w:Int
def T (B:Int)(r:Rw):Int:=r.t*(B/r.b)
def mx (x:Int):Int:=if 0<x then x else 0
def S (B l0 l1:Int)(rs:List Rw):Int:=(rs.map fun r=>r.w*mx (T B r*l1-l0*B)).sum
def W (rs:List Rw):Int:=(rs.map (·.w)).sum
def Lt (x y:Rw):Prop:=x.t*y.b<y.t*x.b
end Tb
set_option maxHeartbeats 4000000
namespace TD
open PySem L2
open Builtin.Int (intBits)
structure Row where
 p:Addr
 q:Addr
 t:Int
 b:Int
 w:Int
theorem take_snoc {α:Type}{xs:List α}{i:Nat}{x:α}(h:xs[i]? = some x):xs.take (i+1)=xs.take i++[x]:=by
 rw [aAu,h]
 rfl
theorem Oj:1 ≤ sizeLine:=ZP (aX (by decide))
theorem Fw:2 ≤ sizeLine:=ZP (aX (by decide))
theorem Oe:3 ≤ sizeLine:=ZP (aX (by decide))
theorem tG {m n:Nat}{x y:Int}(hx:intBits x ≤ m)(hy:intBits y ≤ n)(h:m+n ≤ 134217728):Ih x y:=Y5 (Nat.add_le_add hx hy) h
theorem gQ {K:PySem.W.Frag}(T:String):PySem.W.kitOne K (.type T) (.type T)=some true:=by
 unfold PySem.W.kitOne;rw [if_pos (beq_self_eq_true _)]
theorem lU {K:PySem.W.Frag}:PySem.W.kitOne K (.type "int") (.type "bool")=some false:=by rfl
end TD
namespace L2
open PySem PySem.Spec PyProof.Rows
theorem j7 {X:Cx}{K:PySem.W.Frag}(h:X.K=K):cU X (.type "list") (fun xs H Q=>∃ p ys,xs=[.ref p]∧(bL K H p ys∨dG K H p ys)∧∀ l,H l=none →Q (.ref l) (bQ H l (.lst ys))):=by subst h; exact uX
end L2
namespace Sd
inductive Sd where
 | en (v:Int)
 | st (p:Int) (rs:List (Int×Sd))
inductive Ok:Sd →Nat →Nat →Prop
 | en {v:Int}{d m:Nat} (h0:0 ≤ v) (h9:v ≤ 1000000000) (hm:1 ≤ m):Ok (.en v) d m
 | st {p:Int}{rs:List (Int×Sd)}{d m:Nat}{f:Int×Sd →Nat} (h0:0 ≤ p) (h9:p ≤ 1000000000) (ne:rs≠[]) (l4:rs.length ≤ 4) (w:∀ r∈rs,1 ≤ r.1∧r.1 ≤ 1000) (sub:∀ r∈rs,Ok r.2 d (f r)) (hk:(rs.map f).sum ≤ m):Ok (.st p rs) (d+1) m
end Sd
namespace L2
open PySem PySem.Spec PyProof.Rows
theorem range_all (bs:List Bool):(Zh bs.length).all (fun i=>bs.getD i false)=bs.all id:=by
 rw [Z9];simp only [ZL,ZF];constructor
 ·intro h b hb;obtain ⟨i,hi,e⟩:=Ys.mp hb;have q:=h i hi;rw [getD_at hi,e] at q;exact q
 ·intro h i hi;rw [getD_at hi];exact h _ (ZM hi)
theorem range_any (bs:List Bool):(Zh bs.length).any (fun i=>bs.getD i false)=bs.any id:=by
 rw [Z9];simp only [Yt,ZF];constructor
 ·rintro ⟨i,hi,h⟩;rw [getD_at hi] at h;exact ⟨_,ZM hi,h⟩
 ·rintro ⟨b,hb,h⟩;obtain ⟨i,hi,e⟩:=Ys.mp hb;refine ⟨i,hi,?_⟩;rw [getD_at hi,e];exact h
section
variable {X:Cx}{K:PySem.W.Frag}
theorem Dg {us:List Value}{bs:List Bool}(h:bM (bs.map V.bl) us){i:Nat}{v:Value}(e:us[i]? = some v):v=.bool (bs.getD i false):=by
 have hl:=h.length;rw [YH] at hl;have hi:i<us.length:=(Y8.mp e).1;have e2:(bs.map V.bl)[i]? = some (.bl (bs.getD i false)):=by
  rw [Y7,YF (by omega),getD_at (by omega)]
  rfl
 obtain ⟨u,hu,r⟩:=h.get e2;rw [e] at hu;cases hu;exact r
theorem nF (hK:X.K=K)(hc:X.calm=true):cU X (.builtin "all") (fun xs H Q=>∃ (a:Addr) (bs:List Bool),xs=[.ref a]∧bL K H a (bs.map V.bl)∧Q (.bl (bs.all id)) H):=by
 subst hK;intro pins s σ H xs us Q I r h;obtain ⟨a,bs,rfl,hS,q⟩:=h;obtain ⟨u,rfl,ru⟩:=vals1 r;cases (show u=Value.ref a from ru);obtain ⟨its,rv,pl,hz⟩:=I.list hS;have lt:a<s.heap.objs.size:=by obtain ⟨o,e,_⟩:=pl.isList; exact YG e
 have hl:=rv.length;rw [YH] at hl;refine call_all_walk (wpAny_pyIter_list pl.isList ⟨s.heap.objs.size,_,_,_,_,_,fun i=>bs.getD i false,rfl,Walks.list (A:=X.A.in1) (I.ok.hd hc) s.heap.objs.size a (YW lt) its.toArray,⟨⟨_,YL _ rfl,rfl,rfl⟩,pl.isList.push _⟩,?_,fun h' tk hk=>?_⟩)
 ·intro i v s' Q' E' hv hQ;have e:=Dg rv (i:=i) (v:=v) (by simpa using hv);rw [e];exact wpAny_truthy_bool hQ
 ·refine ⟨.bl (bs.all id),H,I.kept (t':=tk) fun b o e=>hk b o (fun z=>?_) (YB _ e),?_,q⟩
  ·rw [YK.mp z] at e;exact absurd (YG e) (Yz _)
  ·show Value.bool _=Value.bool _;rw [YC,← hl,range_all]
theorem sJ (hK:X.K=K)(hc:X.calm=true):cU X (.builtin "any") (fun xs H Q=>∃ (a:Addr) (bs:List Bool),xs=[.ref a]∧bL K H a (bs.map V.bl)∧Q (.bl (bs.any id)) H):=by
 subst hK;intro pins s σ H xs us Q I r h;obtain ⟨a,bs,rfl,hS,q⟩:=h;obtain ⟨u,rfl,ru⟩:=vals1 r;cases (show u=Value.ref a from ru);obtain ⟨its,rv,pl,hz⟩:=I.list hS;have lt:a<s.heap.objs.size:=by obtain ⟨o,e,_⟩:=pl.isList; exact YG e
 have hl:=rv.length;rw [YH] at hl;refine call_any_walk (wpAny_pyIter_list pl.isList ⟨s.heap.objs.size,_,_,_,_,_,fun i=>bs.getD i false,rfl,Walks.list (A:=X.A.in1) (I.ok.hd hc) s.heap.objs.size a (YW lt) its.toArray,⟨⟨_,YL _ rfl,rfl,rfl⟩,pl.isList.push _⟩,?_,fun h' tk hk=>?_⟩)
 ·intro i v s' Q' E' hv hQ;have e:=Dg rv (i:=i) (v:=v) (by simpa using hv);rw [e];exact wpAny_truthy_bool hQ
 ·refine ⟨.bl (bs.any id),H,I.kept (t':=tk) fun b o e=>hk b o (fun z=>?_) (YB _ e),?_,q⟩
  ·rw [YK.mp z] at e;exact absurd (YG e) (Yz _)
  ·show Value.bool _=Value.bool _;rw [YC,← hl,range_any]
end
section
variable {X:Cx}{CX:vL}{C f:Addr}{fd:FuncData}{k:Nat}{x m:Str}{ps:List Str}{ds:List Value}{dvs:List V}{sp:Sp}{E:XK}{e:Expr}{es:List Expr}{t:TA}{p apos pos:Pos}
theorem iC {K:PySem.W.Frag}(hK:X.K=K):cU X (.builtin "isinstance") (fun xs H Q=>∃ (x:V) (C:Addr) (t:Value) (b:Bool),xs=[x,.ref C]∧jW K H x t∧PySem.W.kitOne K t (.ref C)=some b∧Q (.bl b) H):=by
 subst hK;intro pins s σ H xs us Q I r h;obtain ⟨x,C,t,b,rfl,ty,e,q⟩:=h;obtain ⟨u,w',rfl,rx,rt⟩:=vals2 r;cases (show w'=Value.ref C from rt);exact tM I rx ty e fun tk=>⟨.bl b,H,I.tok _,rfl,q⟩
end
end L2
namespace L2
open PySem
def DK (h h':Heap):Prop:=∀ b o,h.get? b=some o →∃ o',h'.get? b=some o'∧o'.dict=o.dict
theorem DK.refl (h:Heap):DK h h:=fun _ o e=>⟨o,e,rfl⟩
theorem DK.trans {h1 h2 h3:Heap}(a:DK h1 h2)(b:DK h2 h3):DK h1 h3:=fun c o e =>
 let ⟨o1,e1,d1⟩:=a c o e
 let ⟨o2,e2,d2⟩:=b c o1 e1
 ⟨o2,e2,d2.trans d1⟩
def Tame {α:Type}(t:Sem α):Prop:=∀ (M:Model) (Γ:Ctx) (Q:α →Pos →Shared →Prop) (E:Value →Pos →Shared →Prop) (p:Pos) (s:Shared),Sem.wp M Γ t Q E p s →Sem.wp M Γ t (fun a p' s'=>Q a p' s'∧DK s.heap s'.heap) E p s
section
variable {α β:Type}
theorem bH (a:α):Tame (pure a:Sem α):=fun M Γ Q E p s h=>⟨h,.refl _⟩
theorem d9 (w:String):Tame (unsupported w:Sem α):=fun M Γ Q E p s h=>h
theorem bA {m:Sem α}{f:α →Sem β}(hm:Tame m)(hf:∀ a,Tame (f a)):Tame (m >>= f):=by
 intro M Γ Q E p s h;rw [Sem.wp_bind'] at h ⊢;refine Sem.wp_mono M Γ m (fun a p' s' z=>?_) (fun _ _ _ z=>z) p s (hm M Γ _ E p s h);exact Sem.wp_mono M Γ (f a) (fun b p2 s2 y=>⟨y.1,z.2.trans y.2⟩) (fun _ _ _ y=>y) p' s' (hf a M Γ _ E p' s' z.1)
theorem mV (a:Addr):Tame (load a):=fun M Γ Q E p s ⟨o,e,h⟩=>⟨o,e,h,.refl _⟩
theorem lJ:Tame stack:=fun M Γ Q E p s h=>⟨h,.refl _⟩
theorem yQ (o:Obj):Tame (alloc o):=fun M Γ Q E p s h=>⟨h,fun b o' e=>⟨o',YB _ e,rfl⟩⟩
theorem nH {a:Addr}{f:Obj →Obj}(hf:∀ o,(f o).dict=o.dict∧(f o).isFreed=o.isFreed):Tame (update a f):=by
 rintro M Γ Q E p s ⟨hi,h⟩;refine ⟨hi,h,fun b o e=>?_⟩
 by_cases z:a=b
 ·subst z;obtain ⟨e1,e2⟩:=Heap.get?_some_iff.mp e;exact ⟨f o,Yd f e ((hf o).2.trans e2),(hf o).1⟩
 ·exact ⟨o,(Yq _ f z).trans e,rfl⟩
theorem dR {c:Prop}[Decidable c]{a b:Sem α}(ha:Tame a)(hb:Tame b):Tame (if c then a else b):=by split <;> assumption
theorem qT (v:Value):Tame (fieldsOf v):=by
 unfold fieldsOf
 split
 ·refine bA (mV _) fun o=>?_
  split
  ·exact bH _
  ·exact d9 _
 ·exact d9 _
theorem gW (v:Value)(i:Nat):Tame (field v i):=by
 unfold field;refine bA (qT v) fun vs=>?_
 split
 ·exact bH _
 ·exact d9 _
theorem oY (g:Array Value →Array Value)(o:Obj):(Obj.mapFields g o).dict=o.dict∧(Obj.mapFields g o).isFreed=o.isFreed:=by
 obtain ⟨c,d,da,sl⟩:=o;cases da <;> exact ⟨rfl,rfl⟩
theorem gA (v:Value)(i:Nat)(x:Value):Tame (setField v i x):=by
 unfold setField
 split
 ·unfold updateField;refine bA (mV _) fun o=>?_
  split
  ·exact dR (nH (oY _)) (d9 _)
  ·exact d9 _
 ·exact d9 _
theorem fP (e:Value)(f:Option Addr):Tame (setFlight e f):=by
 unfold setFlight;exact bA (gW e 1) fun tb=>dR (gA _ _ _) (bH _)
theorem pR:∀ l:List Env,Tame (readyFrames l)
 | []=>bH _
 | env::outer=>by
  unfold readyFrames
  split
  ·refine bA (mV _) fun o=>dR (bH _) (bA ?_ fun b=>bA ?_ fun back=>bA (nH fun o=>⟨rfl,by obtain ⟨_,_,d,_⟩:=o; cases d <;> rfl⟩) fun _=>pR outer)
   ·unfold behindIsImport;refine dR (bH _) (dR (bH _) (bA (gW _ _) fun _=>bH _))
   ·unfold keptBack
    split
    ·refine dR (bH _) (bA ?_ fun b=>bH _);exact bA lJ fun _=>bH _
    ·exact bH _
  ·exact d9 _
theorem vD (env:Env):Tame (frameOf env):=by
 unfold frameOf;refine bA (bA lJ fun _=>bH _) fun l=>bA ?_ fun f=>?_
 ·unfold frameObject
  split
  ·exact bH _
  ·exact bA (pR _) fun _=>bH _
 ·split
  ·exact bH _
  ·exact d9 _
theorem yI (f:Addr)(b:Bool):Tame (entryPlaceOf f b):=by
 unfold entryPlaceOf;refine bA lJ fun acts=>?_
 split
 ·exact bH _
 ·exact bH _
theorem sX (T:String)(d:Data):Tame (newObjAsIs (.type T) d):=bA (yQ _) fun _=>bH _
theorem yL (a b c d e:Value)(pl:List Value):Tame (EntryCells.newEntry a b c d e pl):=by
 unfold EntryCells.newEntry newFields newObj;generalize ([a,b,c,d,e]++if pl.isEmpty=true then ZZ 6 Value.none else pl)=l;exact dR (bA (d9 _) fun _=>sX _ _) (sX _ _)
theorem rK (e:Value)(env:Env):Tame (noteFrame e env):=by
 unfold noteFrame
 split
 ·refine bA (gW e 1) fun head=>?_;have rest:∀ f:Addr,Tame (do setField e 1 (← EntryCells.newEntry head (← frameOf env) .none (rawInt f) .none (← entryPlaceOf f (head != .none)))):=fun f =>
   bA (vD env) fun a=>bA (yI _ _) fun pl=>bA (yL _ _ _ _ _ _) fun b=>gA _ _ _
  refine dR (bA (gW _ _) fun x=>dR (bH _) (bA (gA _ _ _) fun _=>rest _)) (rest _)
 ·exact d9 _
theorem uV (env:Env)(e:Value):Tame (leaving env e):=bA (rK e env) fun _=>fP e none
theorem gZ {t:Sem α}(ht:Tame t){M:Model}{A:Around}{Q:α →Shared →Prop}{E:Value →Shared →Prop}{s:Shared}(h:wpAny M A t Q E s):wpAny M A t (fun a s'=>Q a s'∧DK s.heap s'.heap) E s :=
 fun Γ p hΓ=>ht M Γ _ _ p s (h Γ p hΓ)
end
end L2
namespace L2
open PySem PySem.Spec PyProof.Rows
def dk (od:Option Addr)(a:Addr)(h:Heap):Prop:=∀ d,od=some d →∃ o,h.get? a=some o∧o.dict=some d
theorem dk.step {od:Option Addr}{a:Addr}{h h':Heap}(x:dk od a h)(k:DK h h'):dk od a h':=fun d e =>
 let ⟨o,g,q⟩:=x d e
 let ⟨o',g',q'⟩:=k a o g
 ⟨o',g',q'.trans q⟩
theorem dk.none {a:Addr}{h:Heap}:dk none a h:=fun _ z=>nomatch z
def J3 (P:Program)(w:World):vL:=fun outer H s E e s' =>
 ∃ (a:Addr) (cls a0:Value) (H':Hp) (B:Heap) (od:Option Addr),e=.ref a∧s'.os=s.os∧AllBare s'.gens∧Un (iV outer) [] H H' s.heap s'.heap∧mQ P w H' s'.heap∧aAE B outer a cls a0 s'.heap ∧
  (∀ b o,s.heap.get? b=some o →b∉iV outer →∃ o',B.get? b=some o')∧(∀ b u,H' b=some u →∃ o',B.get? b=some o')∧dk od a s'.heap∧E cls od H'
section
variable {P:Program}{w:World}{H H':Hp}{B h0 h1 h2:Heap}{fs:List Addr}
theorem Av (b1:B.StaysIn h1)(b2:B.StaysIn h2){b:Addr}{o:Obj}(q:h1.get? b=some o)(x:∃ o',B.get? b=some o'):h2.get? b=some o:=by
 obtain ⟨o',e⟩:=x;have:=b1 b o' e;rw [q] at this;cases this;exact b2 b _ e
theorem yP (u:Un fs [] H H' h0 h1)(b1:B.StaysIn h1)(b2:B.StaysIn h2)(up:h1.UpToSlots h2)(nf:∀ b∈fs,∃ o,h1.get? b=some o∧∀ vs,o.data≠.fields vs)
  (hB:∀ b o,h0.get? b=some o →b∉fs →∃ o',B.get? b=some o'):Un fs [] H H' h0 h2:=by
 refine ⟨fun b o q n hb hx=>Av b1 b2 (u.keep b o q n hb hx) (hB b o q hb),fun b o q n hb hx=>?_,u.free,fun b o q hx=>?_,u.tups,u.frzs,u.tbls⟩
 ·obtain ⟨sl,e⟩:=u.slot b o q n hb hx;obtain ⟨o1,e1,d1⟩:=nf b hb;rw [e] at e1;cases e1;obtain ⟨sl2,e2⟩:=up b _ e d1;exact ⟨sl2,e2⟩
 ·by_cases hb:b∈fs
  ·obtain ⟨o1,e1,d1⟩:=nf b hb;obtain ⟨sl2,e2⟩:=up b _ e1 d1;exact ⟨_,e2⟩
  ·obtain ⟨o1,e1⟩:=hB b o q hb;exact ⟨_,b2 b _ e1⟩
theorem uB (x:mQ P w H h1)(b1:B.StaysIn h1)(b2:B.StaysIn h2)(hH:∀ b u,H b=some u →∃ o',B.get? b=some o'):mQ P w H h2:=fun a o e =>
 (x a o e).stay (fun b u hb q=>Av b1 b2 q (by
  rcases hb with rfl | hb
  ·exact hH _ _ e
  ·exact hH _ _ hb)) (fun _ q=>q) fun _ _ q=>q
end
theorem obj_some {P:Program}{w:World}{H:Hp}{h:Heap}{b:Addr}{u:HO}(x:bY P w H h b u)(z:h.get? b=none):False:=by
 cases u with
 | lst xs=>obtain ⟨_,_,_,_,e⟩:=x; rw [z] at e; cases e
 | tup xs=>obtain ⟨_,_,_,_,e,_⟩:=x; rw [z] at e; cases e
 | dK kvs=>obtain ⟨_,_,_,_,o,_,_,e,_⟩:=x; rw [z] at e; cases e
 | dT kvs=>obtain ⟨_,_,_,_,o,_,_,e,_⟩:=x; rw [z] at e; cases e
 | set S n=>obtain ⟨o,_,_,_,e,_⟩:=x; rw [z] at e; cases e
 | ins C dx fs=>obtain ⟨_,_,_,e,_⟩:=x; rw [z] at e; cases e
 | own y=>obtain ⟨_,e⟩:=x; rw [z] at e; cases e
 | xd fs=>obtain ⟨_,⟨_,_,_,e,_⟩,_⟩:=x; rw [z] at e; cases e
 | rng lo hi=>obtain ⟨_,_,_,e⟩:=x; rw [z] at e; cases e
 | frz ob v=>obtain ⟨e,_⟩:=x; rw [z] at e; cases e
 | tbl ps=>have e:=(show h.get? b=some _ from x); rw [z] at e; cases e
 | met f y=>have e:=(show h.get? b=some _ from x); rw [z] at e; cases e
 | ext φ=>obtain ⟨_,⟨_,e⟩,_⟩:=x; rw [z] at e; cases e
theorem tW {env:Env}{outer:List Env}{L b:Addr}(hf:env.frame=some L):b∈iV (env::outer)↔b=L∨b∈iV outer:=by
 unfold iV;rw [Zw,hf];exact Ye
structure Et (K:PySem.W.Frag)(C:Addr):Prop where
 isx:PySem.W.excIn K C ([.type "ValueError",.type "Exception",.type "BaseException",.type "object"]) "ValueError.__new__" = true
section
variable {X:Cx}
def Throws (X:Cx)(E:XK):Prop:=∀ (pins:List (Addr×Obj)) (σ:St) (H:Hp) (s:Shared) (h':Heap) (e:Addr) (cls:Value) (args:List Value),aU X pins σ H s →Z_ s.heap h' e cls args →E cls none H →
 X.xe (.ref e) { s with heap:=h' }
end
section
variable {P:Program}{w:World}{K:PySem.W.Frag}{mg:Str →Option Value}{base:Heap}{N:List Str}{qual:Str}{scope:Scope}{f:Addr}{cd:Value}{A:Around}{outer:List Env}{s:Shared}{H:Hp}{E:XK}
theorem Bt:Throws (oO (J3 P w) P w K mg base N qual scope f cd A outer s H E) E:=by
 intro pins σ H1 s1 h' e cls args I mk hE;have hfr:=I.ok.frames;have hst:=I.stack;have nsz:∀ b o,s.heap.get? b=some o →b≠s.heap.objs.size:=fun b o q z=>absurd (YG q) (by rw [z]; exact Yz _);have hide:∀ b o,s1.heap.get? b=some o →b∉iV (envOfC qual scope s.heap.objs.size f cd::outer) →(PySem.W.hideAll s1.heap (iV (envOfC qual scope s.heap.objs.size f cd::outer))).get? b=some o:=fun b o q hb=>PySem.W.hideAll_get _ q hb;have inS:∀ b o,s.heap.get? b=some o →b∉iV outer →∃ o',(PySem.W.hideAll s1.heap (iV (envOfC qual scope s.heap.objs.size f cd::outer))).get? b=some o':=fun b o q hb=>by
  obtain ⟨o',e'⟩:=I.base.there b o q (by show b∉([]:List Addr); simp);exact ⟨o',hide b o' e' fun z=>((tW rfl).mp z).elim (nsz b o q) hb⟩
 have inH:∀ b u,H1 b=some u →∃ o',(PySem.W.hideAll s1.heap (iV (envOfC qual scope s.heap.objs.size f cd::outer))).get? b=some o':=fun b u q=>by
  have lt:=I.hok.lt q;obtain ⟨o',e'⟩:∃ o',s1.heap.get? b=some o':=by
   have:=I.hok b u q;cases z:s1.heap.get? b with
   | some o'=>exact ⟨o',rfl⟩
   | none=>exact (obj_some this z).elim
  refine ⟨o',hide b o' e' fun z=>?_⟩;have:=I.stkFree b z;rw [q] at this;cases this
 show wpAny (model P w) (A.deeper (envOfC qual scope s.heap.objs.size f cd)) (leaving (envOfC qual scope s.heap.objs.size f cd) (.ref e)) _ _ _;refine wpAny_leaves_madeW (h:=s1.heap) (base:=PySem.W.hideAll s1.heap (iV (envOfC qual scope s.heap.objs.size f cd::outer))) hfr rfl (fun b o q=>PySem.W.of_hideAll _ q)
  (PySem.W.funFrames_hide hst fun env he b hb=>Zz.mpr ⟨env,he,hb⟩) mk fun h'' t fl _ _ up=>?_
 have b1:Heap.StaysIn (PySem.W.hideAll s1.heap (iV (envOfC qual scope s.heap.objs.size f cd::outer))) h':=fun b o q=>mk.keeps _ _ (PySem.W.of_hideAll _ q);refine ⟨e,cls,.ref t,H1,_,none,rfl,I.os,I.bare,?_,uB (I.hok.kept mk.keeps) b1 fl.1 inH,fl,inS,inH,dk.none,hE⟩;have u1:Un (iV outer) [] H H1 s.heap h':=Un.trans (show Un (iV outer) [] H H1 s.heap s1.heap from I.base) (Un.kept mk.keeps);refine yP u1 b1 fl.1 up (fun b hb=>?_) inS;obtain ⟨_,o,ho,hd⟩:=I.funs.mem hb;exact ⟨o,mk.keeps _ _ ho,hd⟩
def Ey (H:Hp)(a:Addr):Hp:=fun b=>if b=a then none else H b
theorem kY {H:Hp}{a b:Addr}(h:b≠a):Ey H a b=H b:=if_neg h
theorem vP {H:Hp}{a b:Addr}{u:HO}(h:Ey H a b=some u):b≠a∧H b=some u:=by
 unfold Ey at h
 split at h
 ·cases h
 ·rename_i n; exact ⟨n,h⟩
def nU (e:Addr)(cls:Value)(od:Option Addr)(h:Heap):Prop:=∃ vs a0,h.get? e=some ⟨cls,od,.fields vs,#[]⟩∧vs[0]? = some a0∧vs[1]? = some .none
def zZ (X:Cx)(E:XK):Prop:=∀ (pins:List (Addr×Obj)) (σ:St) (H:Hp) (s:Shared) (a d:Addr) (cls:Value),aU X pins σ H s →H a=some (.ext (nU a cls (some d))) →X.s₀.heap.get? a=none →E cls (some d) (Ey H a) →X.xe (.ref a) s
theorem yW:zZ (oO (J3 P w) P w K mg base N qual scope f cd A outer s H E) E:=by
 intro pins σ H1 s1 a d cls I ha n0 hE;obtain ⟨⟨vs,a0,hx,h0,h1⟩,_,_⟩:=(show bY P w H1 s1.heap a (.ext (nU a cls (some d))) from I.hok a _ ha)
 have n0:s.heap.get? a=none:=n0;have hfr:=I.ok.frames;have hst:=I.stack;have nsz:∀ b o,s.heap.get? b=some o →b≠s.heap.objs.size:=fun b o q z=>absurd (YG q) (by rw [z]; exact Yz _);have hide:∀ b o,s1.heap.get? b=some o →b≠a →b∉iV (envOfC qual scope s.heap.objs.size f cd::outer) →(PySem.W.hideAll s1.heap (a::iV (envOfC qual scope s.heap.objs.size f cd::outer))).get? b=some o:=fun b o q na hb=>PySem.W.hideAll_get _ q fun z=>(Ye.mp z).elim na hb;have inS:∀ b o,s.heap.get? b=some o →b∉iV outer →∃ o',(PySem.W.hideAll s1.heap (a::iV (envOfC qual scope s.heap.objs.size f cd::outer))).get? b=some o':=fun b o q hb=>by
  obtain ⟨o',e'⟩:=I.base.there b o q (by show b∉([]:List Addr); simp);exact ⟨o',hide b o' e' (fun z=>by rw [z,n0] at q; cases q) fun z=>((tW rfl).mp z).elim (nsz b o q) hb⟩
 have inH:∀ b u,Ey H1 a b=some u →∃ o',(PySem.W.hideAll s1.heap (a::iV (envOfC qual scope s.heap.objs.size f cd::outer))).get? b=some o':=fun b u q=>by
  obtain ⟨na,q⟩:=vP q;obtain ⟨o',e'⟩:∃ o',s1.heap.get? b=some o':=by
   have:=I.hok b u q;cases z:s1.heap.get? b with
   | some o'=>exact ⟨o',rfl⟩
   | none=>exact (obj_some this z).elim
  refine ⟨o',hide b o' e' na fun z=>?_⟩;have:=I.stkFree b z;rw [q] at this;cases this
 have hen:(PySem.W.hideAll s1.heap (a::iV (envOfC qual scope s.heap.objs.size f cd::outer))).get? a=none:=PySem.W.hideAll_none _ Yg;show wpAny (model P w) (A.deeper (envOfC qual scope s.heap.objs.size f cd)) (leaving (envOfC qual scope s.heap.objs.size f cd) (.ref a)) _ _ _;refine wpAny_mono (gZ (uV _ _) (wpAny_leaving_firstW (base:=PySem.W.hideAll s1.heap (a::iV (envOfC qual scope s.heap.objs.size f cd::outer))) (Q:=fun _ s2=>∃ h2,s2 = { s1 with heap:=h2 }∧Heap.LeftW (PySem.W.hideAll s1.heap (a::iV (envOfC qual scope s.heap.objs.size f cd::outer))) (envOfC qual scope s.heap.objs.size f cd::outer) a cls a0 s1.heap h2) hfr
  (PySem.W.funFrames_hide hst fun env he b hb=>Yb _ (Zz.mpr ⟨env,he,hb⟩)) rfl hx (fun b o q=>PySem.W.of_hideAll _ q) hen rfl h1 h0 fun h' hL=>⟨h',rfl,hL⟩)) (fun _ s2 hq=>?_) fun _ _ z=>z
 obtain ⟨⟨h2,rfl,k1,⟨_,_,k2⟩,k3,up⟩,kd⟩:=hq;have b1:Heap.StaysIn (PySem.W.hideAll s1.heap (a::iV (envOfC qual scope s.heap.objs.size f cd::outer))) s1.heap:=fun b o q=>PySem.W.of_hideAll _ q;have ne:∀ {b:Addr}{u:HO},H1 b=some u →(∀ φ,u≠.ext φ) →b≠a:=fun {b u} q n z=>by
  rw [z,ha] at q;cases q;exact n _ rfl
 have hok:mQ P w (Ey H1 a) s1.heap:=fun b u q=>by
  obtain ⟨na,q⟩:=vP q;exact (I.hok b u q).stay (fun _ _ _ r=>r) (fun c r=>(kY (ne r fun φ z=>nomatch z)).trans r) fun c xs r=>(kY (ne r fun φ z=>nomatch z)).trans r
 refine ⟨a,cls,a0,Ey H1 a,_,some d,rfl,I.os,I.bare,?_,uB hok b1 k1 inH,⟨k1,hen,k2,k3⟩,inS,inH,?_,hE⟩
 ·have u1:Un (iV outer) [] H H1 s.heap s1.heap:=I.base;have u2:Un (iV outer) [] H (Ey H1 a) s.heap s1.heap:=⟨u1.keep,u1.slot,fun b o q n x=>by
   unfold Ey
   split
   ·rfl
   ·exact u1.free b o q n x,u1.there,fun b xs q=>(kY (ne (u1.tups b xs q) fun φ z=>nomatch z)).trans (u1.tups b xs q),fun b o u q=>(kY (ne (u1.frzs b o u q) fun φ z=>nomatch z)).trans (u1.frzs b o u q),fun b ps q=>by
    obtain ⟨more,z⟩:=u1.tbls b ps q;exact ⟨more,(kY (ne z fun φ z=>nomatch z)).trans z⟩⟩
  refine yP u2 b1 k1 up (fun b hb=>?_) inS;obtain ⟨_,o,ho,hd⟩:=I.funs.mem hb;exact ⟨o,ho,hd⟩
 ·exact dk.step (fun d' e=>⟨_,hx,e⟩) kd
end
end L2
namespace L2
open PySem PySem.Spec PySem.Calls PyProof.Rows PySem.W Builtin Builtin.ObjectAttr Builtin.Getset_descriptor
def Js (a:Addr)(cls:Value)(h:Heap):Prop:=∃ o,h.get? a=some o∧o.cls=cls
theorem Js.ty {a:Addr}{cls:Value}{h:Heap}{M:Model}(x:Js a cls h):Looks M h (typeOf (.ref a)) cls:=by
 obtain ⟨o,e,rfl⟩:=x;exact (Looks.ld e).andThen .now
structure O1 (K:Frag)(D:Addr):Prop where
 ga:findIn K (.ref D) "__getattribute__" = some (some (.builtin "BaseException.__getattribute__"))
 gt:findIn K (.ref D) "__getattr__" = some none
 mb:mroIn K D (.type "BaseException")=some true
 cl:(clsIn K D).isSome=true
 fi:findIn K (.ref D) "__class__" = some (some (.builtin "object.__class__"))
 sp:specialIn K (.builtin "object.__class__") "__get__" = some (some (.builtin "getset_descriptor.__get__"))
 tk:takesIn K (.builtin "object.__class__")=some true
 mr:mroIn K D (.type "object")=some true
section
variable {prog:Program}{w:World}{A:Around}{E:Value →Shared →Prop}{s:Shared}{K:Frag}{a D:Addr}
theorem Ck {nameV:Value}{Q:Unit →Shared →Prop}{M:Model}(k:K.In s.heap)(i:Js a (.ref D) s.heap)(x:O1 K D)(hq:Q () s):wpAny M A (checkBuiltinCall "BaseException.__getattribute__" ⟨[.ref a,nameV],[]⟩) Q E s:=by
 obtain ⟨hh,gg,dr,tt,os⟩:=s;have ly:=i.ty (M:=M);have lm:=looks_mroIn (M:=M) k x.mb;have hki:builtinKind "BaseException.__getattribute__" = some .slot:=by decide +kernel
 have hsp:splitId "BaseException.__getattribute__" = some ("BaseException","__getattribute__"):=by decide +kernel
 have ha:=PySem.F.args_bexc_ga (.ref a) nameV;simp only [checkBuiltinCall,hki,hsp];unfold isInstance;refine wpAny_bind (wpAny_bind (ly.at (lm.at ?_)))
 repeat (any_goals (first | assumption | wp_step))
end
end L2
namespace L2
open PySem PySem.Spec PyProof.Rows
section
variable {X:Cx}
theorem aU.turnedLaid {pins:List (Addr×Obj)}{σ:St}{H:Hp}{s:Shared}{h':Heap}{t':Nat}{ch:List Addr}{a:Addr}{o:HO}(I:aU X pins σ H s)(hf:∀ b∈ch,rE X pins H b)
  (k:∀ b u,b∉ch →s.heap.get? b=some u →h'.get? b=some u) (hp:s.heap.objs.size ≤ a) (new:bY X.prog X.w (bQ H a o) h' a o):aU X pins σ (bQ H a o) { s with heap:=h',toks:=t' }:=by
 have hn:=I.hok.fresh hp;have nit:∀ b u,H b=some u →b∉ch:=fun b u e z=>by rw [(hf b z).1] at e; cases e
 refine I.step (g':=s.gens) (d':=s.drawn) (ch:=ch) (fun b hb=>?_) (fun b o _ _ hc e _=>k b o hc e) (fun b o _ _ hc e _=>⟨o.slots,k b o hc e⟩) (fun b u hc e n=>?_) (fun b o hc e=>⟨o,k b o hc e⟩)
  (fun b xs e=>by rw [aP (bK e hn)]; exact e) (fun b o u e=>by rw [aP (bK e hn)]; exact e) (fun b ps e=>⟨#[],by rw [aP (bK e hn),e]; simp⟩) (fun m hm=>?_) (fun b u e=>?_) I.bare
 ·obtain ⟨_,f1,f2,f3,f4,f5⟩:=hf b hb;exact ⟨f3,f1,f4,f5⟩
 ·rw [aP (YW (YS (YG e) hp))];exact n
 ·obtain ⟨o,es,ep,ho,r⟩:=hm;exact ⟨o,es,ep,k _ o (fun z=>(hf _ z).2.1 rfl) ho,r⟩
 ·by_cases hb:b=a
  ·subst hb;rw [aD] at e;cases e;exact new
  ·rw [aP hb] at e;refine (I.hok b u e).stay (fun c v hc q=>k c v ?_ q) (fun c q=>by rw [aP (bK q hn)]; exact q) fun c xs q=>by rw [aP (bK q hn)]; exact q
   rcases hc with z | z
   ·rw [z]; exact nit b u e
   ·exact nit c _ z
end
theorem mJ {i:Nat}{v:V}{τ:St}{H:Hp}{A B:St →Hp →Prop}(h:A (τ.set i (some v)) H):rR i v τ H (fun τ2 H2=>Iu τ2 H2 (fun b H3=>if b=true then A τ2 H3 else B τ2 H3)):=HD (τ:=τ.set i (some v)) (A:=A (τ.set i (some v))) (B:=B (τ.set i (some v))) h
end L2
namespace TD
open PySem L2
open Builtin.Int (intBits)
abbrev Is (ns:List Int):List V:=ns.map V.int
theorem aM (ns:List Int):(Is ns).length=ns.length:=YH _
theorem cH (xs:List Int)(y:Int):Is (xs++[y])=Is xs++[V.int y]:=by show (xs++[y]).map V.int=_; rw [Yj]; rfl
theorem gJ {ns:List Int}{i:Nat}{v:V}(h:(Is ns)[i]? = some v):∃ n,ns[i]? = some n∧v=.int n:=by
 rw [Y7] at h;cases e:ns[i]? with
 | none=>rw [e] at h; cases h
 | some n=>rw [e] at h; cases h; exact ⟨n,rfl,rfl⟩
def Eh:Sp:=fun vs H Q _=>∃ i lo hi:Int,vs=[.int i,.int lo,.int hi]∧lo ≤ i∧i ≤ hi∧Q (.bl true) H
def ka:Nat →Nat
 | 0=>30
 | d+1=>ka d+(12*(d+1)+1)*12+1
end TD
namespace Sd
def Uy (a b:Rat):Rat:=if a<b then b else a
def cv (r:Tb.Rw):Rat:=(r.t:Rat)/(r.b:Rat)
def up (l:Rat)(ys:List Tb.Rw):Rat:=(ys.map fun r=>(r.w:Rat)*(Uy l (cv r)-l)).sum
def U5 (l:List Int):Int:=l.foldl max 0
def nS:Nat →Sd →Int
 | 0,_=>0
 | _+1,.en _=>0
 | n+1,.st _ rs=>1+U5 (rs.map fun r=>nS n r.2)
end Sd
namespace TD
open PySem L2
open Builtin.Int (intBits)
structure Cs where
 e:Addr
 s:Addr
def pp:Nat →Nat →Nat
 | 0,_=>2
 | d+1,m=>((Zh 4).map fun i=>if i+1 ≤ m then 2+(i+1)*(1+pp d (m/(i+1))) else 2).foldl max 2
end TD
namespace L2
open PySem PySem.Spec PyProof.Rows
abbrev rH:List Value:=[.type "ValueError",.type "Exception",.type "BaseException",.type "object"]
theorem Et.obj {K:PySem.W.Frag}{h:Heap}{C:Addr}(x:Et K C)(k:K.In h):∃ (bm:List Value) (N:Addr) (nm q:Str) (bs:List Value) (hdct:Bool) (sn:List Str) (sub:List Value) (ab:Bool) (col:Option Bool) (dd:Option Addr) (k0 k1 k2 k3 k5:Option Value) (mN:Str →Option Value),
  h.get? C=some (excClassObj nm q C N bs bm hdct sn sub ab col dd k0 k1 k2 k3 k5 "ValueError.__new__")∧h.Ns N mN∧mN "__init__" = none∧OwnTail h rH bm:=by
 have z:=x.isx;unfold PySem.W.excIn at z
 split at z
 case h_2=>cases z
 case h_1 dd cd sl ho =>
  split at z
  case h_2=>cases z
  case h_1 C' bm k0 k1 k2 k3 n k5 hm hs =>
   simp only [Y6,beq_iff_eq,aA0] at z;obtain ⟨⟨⟨⟨⟨e1,e2⟩,hdel⟩,ht⟩,hok⟩,hni⟩:=z;subst e1;subst e2;obtain ⟨nm,bs,mro,ns,qn,hd,sn,sub,ab,col,del⟩:=cd;dsimp only at hm hdel hok hni;subst hm;subst hdel;obtain ⟨l⟩:=sl;obtain rfl:l=[k0,k1,k2,k3,some (.builtin "ValueError.__new__"),k5]:=hs;have g:=k _ _ ho;have nn:=PySem.W.isNs_of_in k hok;exact ⟨bm,ns,nm,qn,bs,hd,sn,sub,ab,col,dd,k0,k1,k2,k3,k5,_,g,.of_isNs nn,PySem.W.nsMap_none_of_in k hok hni,PySem.W.tail_of_in k ht⟩
theorem Dm {X:Cx}{x:Str}{C:Addr}{E:XK}{np cpos pos:Pos}(T:Throws X E)(hc:X.calm=true)(hg:Gl X x)(hm:X.mg x=some (.ref C))(xc:Et X.K C)(hd:(x==("__debug__" : Str))=false:=by decide) :
  PS X (.Raise (some (.Call (.Name x np) [] [] cpos)) none pos) (fun _ _ H=>E (.ref C) none H):=by
 intro pins s σ H D I h;obtain ⟨bm,N,nm,q,bs,hdct,sn,sub,ab,col,dd,k0,k1,k2,k3,k5,mN,hC,hN,hni,TL⟩:=xc.obj I.kIn;refine wpAny_Raise_call_subT (C:=C) (nm:=nm) (q:=q) (N:=N) (bs:=bs) (bm:=bm) (hdct:=hdct) (sn:=sn) (sub:=sub) (ab:=ab) (col:=col) (dd:=dd) (k0:=k0) (k1:=k1) (k2:=k2) (k3:=k3) (k5:=k5) PySem.F.excBase_ValueError (mN:=mN)
  (TL.hasType PySem.F.excBase_ValueError.hasBase) (I.ok.hd hc) rfl hni (gY I hg hm ⟨rfl,?_⟩ hd)
 exact evalArgs_empty ⟨rfl,Ym _,hC,hN,TL,fun h' e mk=>T pins σ H s h' e _ _ I mk h⟩
section
variable {P:Program}{w:World}{K:PySem.W.Frag}{mg:Str →Option Value}{base:Heap}
theorem dY.okX {x qual:Str}{st:Stmt}{f:Addr}{fd:FuncData}{N ps:List Str}{k:Nat}{sp:Sp}(F:dY K x qual st f fd)(S:aY N ps (aK st))(len:∀ vs H Q E,sp vs H Q E →vs.length=ps.length)
  (hbody:∀ (cdv:Value) (A:Around) (outer:List Env) (s:Shared) (H:Hp) (vs:List V) (Q:VK) (E:XK),dM k (A.deeper (envOfC qual (aK st) s.heap.objs.size f cdv)) →sp vs H Q E →
   ∃ t,vK (oO (J3 P w) P w K mg base N qual (aK st) f cdv A outer s H E) (dO st) t∧t { nx:=fun _ H'=>Q .non H',rt:=Q } (start N vs) H):bD P w K mg base (J3 P w) (k+1) f fd ps sp:=by
 obtain ⟨oc,od,kV,doc,pm,an,cdv,ct,osl,rfl,lk,hcd⟩:=F.ex;exact Hw lk hcd S len fun A outer s H vs Q E hr hsp=>hbody cdv A outer s H vs Q E hr hsp
def Qk (X:Cx)(st:Stmt)(t:TS):Prop :=
 ∀ (s:Shared) (σ:St) (H:Hp) (D:Ends),aU X [] σ H s →t D σ H →wpAny (model X.prog X.w) X.A (exec st X.env) (SP X [] D) X.xe s
def HF (X:Cx)(st:List Stmt)(t:TS):Prop :=
 ∀ (s:Shared) (σ:St) (H:Hp) (D:Ends),aU X [] σ H s →t D σ H →wpAny (model X.prog X.w) X.A (execs st X.env) (SP X [] D) X.xe s
theorem vK.zero {X:Cx}{st:List Stmt}{t:TS}(h:vK X st t):HF X st t:=fun s σ H D I q=>h [] s σ H D I q
theorem PS.zero {X:Cx}{st:Stmt}{t:TS}(h:PS X st t):Qk X st t:=fun s σ H D I q=>h [] s σ H D I q
theorem dY.ok0 {x qual:Str}{st:Stmt}{f:Addr}{fd:FuncData}{N ps:List Str}{k:Nat}{sp:Sp}(F:dY K x qual st f fd)(S:aY N ps (aK st))(len:∀ vs H Q E,sp vs H Q E →vs.length=ps.length)
  (hbody:∀ (cdv:Value) (A:Around) (outer:List Env) (s:Shared) (H:Hp) (vs:List V) (Q:VK) (E:XK),dM k (A.deeper (envOfC qual (aK st) s.heap.objs.size f cdv)) →sp vs H Q E →
   ∃ t,HF (oO dW P w K mg base N qual (aK st) f cdv A outer s H E).nox (dO st) t∧t { nx:=fun _ H'=>Q .non H',rt:=Q } (start N vs) H):bD P w K mg base dW (k+1) f fd ps sp:=by
 obtain ⟨oc,od,kV,doc,pm,an,cdv,ct,osl,rfl,lk,hcd⟩:=F.ex;refine ⟨len,fun A outer s H args us vs Q E hr e0 hb r hsp=>?_⟩;have hl:=len _ _ _ _ hsp;have KX:K.In s.heap:=e0.mod.kin.keeps fun b o e=>(e0.bs b o e).1;have lim:s.heap.NoLimit:=e0.mod.nolimit.keeps fun b o e=>(e0.bs b o e).1;have hkind:∀ y∈ps.zip us,(aK st).names.lookup y.1=some .local∨((aK st).names.lookup y.1=some .cell∧((cellsFrom (s.heap.objs.size+1) (aK st).names []).lookup y.1).isSome=true):=fun ⟨n,v⟩ hy=>by
  rcases S.par n (aAm hy).1 with q | q
  ·exact .inl q
  ·exact .inr ⟨q,PySem.W.cellsFrom_some _ _ _ (.inl q)⟩
 refine codeAny_call_function hr.depth (KX _ _ lk) rfl S.co S.gen rfl (PySem.W.codeRec_of KX hcd) (hb _ _ _ _ ?_);refine wpAny_newFunctionEnv_cells S.kind hkind fun env he s1 x=>?_;subst he;refine ⟨lim.keeps x.toInCall.keep,codeAny_func ?_⟩;obtain ⟨t,ht,hq⟩:=hbody cdv A outer s H vs Q E (hr.deeper _) hsp;have I:aU (oO dW P w K mg base N qual (aK st) f cdv A outer s H E) [] (start N vs) H s1:=tD S hr.hd e0 hl r x;refine wpAny_mono (ht s1 (start N vs) H _ (I.wish _) hq) (fun fl s' hs=>?_) fun e s' hs=>False.elim hs;have hs:=SP.unwish hs;have fin:∀ {σ':St}{H':Hp}{v:V}{u:Value},aU (oO dW P w K mg base N qual (aK st) f cdv A outer s H E) [] σ' H' s' →RelV v u →Q v H' →CE outer P w H s Q u s' :=
  fun {σ' H' v u} J rv q=>⟨v,H',J.os,J.bare,J.base,J.hok,rv,q⟩
 cases fl with
 | ret u =>
  obtain ⟨v,σ',H',J,rv,q⟩:=hs;exact fin J rv q
 | next =>
  obtain ⟨σ',H',J,q⟩:=hs;exact fin (v:=V.non) (u:=Value.none) J rfl q
 | brk =>
  obtain ⟨_,_,_,q⟩:=hs;exact False.elim q
 | cont =>
  obtain ⟨_,_,_,q⟩:=hs;exact False.elim q
end
end L2
namespace L2
open PySem PySem.Spec PySem.Calls PyProof.Rows PySem.W Builtin Builtin.ObjectAttr
def Az:List Value →Bool
 | []=>false
 | .ref _::r=>Az r
 | v::r=>(v::r)==rH
theorem rN (self:Value):∀ l:List Value,Az l=true →refuseLoop self "__setattr__" l=pure ()
 | [],e=>nomatch e
 | v::r,e=>by
  cases v
  case ref C=>rw [refuseLoop_ref]; exact rN self r e
  all_goals
   rw [show (_::r)=rH from eq_of_beq e];exact PySem.F.store_ValueError.passes self
theorem xD:∀ l:List Value,Az l=true →l.contains (.type "object")=true
 | [],e=>nomatch e
 | v::r,e=>by
  cases v
  case ref C=>rw [aAV,xD r e,Bool.or_true]
  all_goals
   rw [show (_::r)=rH from eq_of_beq e]
   decide +kernel
structure Fz (K:Frag)(C:Addr):Prop where
 sa:findIn K (.ref C) "__setattr__" = some (some (.builtin "object.__setattr__"))
 hd:hasDictIn K C=true
 ov:((clsIn K C).any fun cd=>Az cd.mro)=true
def XD (d:Addr)(fs:List (Str×V))(h:Heap):Prop:=∃ mA,h.Ns1 d mA∧(∀ f,mK (fs.lookup f) (mA f))∧PySem.Within mA (fs.map (·.1))
def yN (a:Addr)(cls:Value)(d:Addr)(h:Heap):Prop:=∃ vs sl,h.get? a=some ⟨cls,some d,.fields vs,sl⟩
theorem uK {d:Addr}{fs:List (Str×V)}{h1 h2:Heap}(x:XD d fs h1)(k:∀ o,h1.get? d=some o →h2.get? d=some o):XD d fs h2:=let ⟨mA,n,r,w⟩:=x; ⟨mA,n.at k,r,w⟩
theorem xK {e:Addr}{cls:Value}{od:Option Addr}{h1 h2:Heap}(x:nU e cls od h1)(k:∀ o,h1.get? e=some o →h2.get? e=some o):nU e cls od h2:=let ⟨vs,a0,g,r⟩:=x; ⟨vs,a0,k _ g,r⟩
theorem Bx {e:Addr}{cls:Value}{d:Addr}{h1 h2:Heap}(x:yN e cls d h1)(k:∀ o,h1.get? e=some o →h2.get? e=some o):yN e cls d h2:=let ⟨vs,sl,g⟩:=x; ⟨vs,sl,k _ g⟩
section
variable {prog:Program}{w:World}{A:Around}{s:Shared}{K:Frag}{x C:Addr}
theorem sG {R:Result →Shared →Prop}{ox:Obj}{od:Option Obj}{name:Str}{tk:Tok}{v:Value}(X:K.In s.heap)(I:InstAt s.heap x ox C od)(xf:Fz K C)(n:findIn K (.ref C) name=some none)
  (h:wpAny (model prog w) A.in1 (storeInOwnDict (.ref x) (.ref C) (.str name tk) name v false)
   (fun fin s'=>match fin with | .done f=>R (.ok f) s' | .again c'=>c'.quiet=true∧codeAny (model prog w) A c' R s') (fun e s'=>R (.error e) s') s) :
  codeAny (model prog w) A (.call (.builtin "object.__setattr__") ⟨[.ref x,.str name tk,v],[]⟩) R s:=by
 obtain ⟨cd,hc,ho⟩:=any_some xf.ov;have mne:cd.mro.isEmpty=false:=by
  cases q:cd.mro with
  | nil=>rw [q] at ho; cases ho
  | cons _ _=>rfl
 have T:=I.type (M:=model prog w);have sub:Looks (model prog w) s.heap (isInstance (.ref x) (.type "object")) true:=T.andThen (looks_mroIn X (by unfold mroIn; rw [hc,Option.bind_some,mne,xD _ ho]; rfl));have hm:Looks (model prog w) s.heap (mroOf (.ref C)) cd.mro:=(looks_clsIn X hc).andThen .now;have SF:=PySem.F.store_object;refine codeAny_call_builtin SF.slot.plain SF.entry (check_slot (i:="object.__setattr__") (owner:="object") (n:="__setattr__") (self:=.ref x) (rest:=[.str name tk,v]) (kw:=[]) SF.kind SF.split sub (SF.args (.ref x) (.str name tk) v) ?_);rw [osa_eq,refuse_eq];refine wpAny_bind (wpAny_bind (T.here (wpAny_bind (hm.here ?_))));rw [rN _ _ ho];exact wpAny_pure (wpAny_bind (T.here (wpAny_bind ((looks_findIn X n).here (wpAny_bind (wpAny_pure h))))))
end
section
variable {X:Cx}{pins:List (Addr×Obj)}{σ:St}{H:Hp}{s:Shared}{a C d:Addr}{fs:List (Str×V)}{f:Str}{y:V}{u:Value}{A:Around}{E:Value →Shared →Prop}
theorem Dc {Q:Unit →Shared →Prop}(I:aU X pins σ H s)(e:H a=some (.ext (nU a (.ref C) none)))(xf:Fz X.K C)(n:cX X.K C f)(ry:RelV y u)
  (h:∀ d s',H d=none →aU X pins σ (bQ (bQ H d (.ext (XD d [(f,y)]))) a (.ext (nU a (.ref C) (some d)))) s' →Q () s'):wpAny (model X.prog X.w) A (setAttr (.ref a) f u) Q E s:=by
 obtain ⟨⟨vs,a0,hx,h0,h1⟩,_,_⟩:=(show bY X.prog X.w H s.heap a (.ext (nU a (.ref C) none)) from I.hok a _ e)
 have J:InstAt s.heap a ⟨.ref C,none,.fields vs,#[]⟩ C none:=⟨hx,rfl,rfl,True.intro⟩
 refine PySem.W.set_plain I.kIn J xf.sa (sG (s:={ s with toks:=s.toks+1 }) I.kIn J xf n ?_);obtain ⟨cd,hc,hd'⟩:=any_some xf.hd;unfold storeInOwnDict;refine wpAny_bind (wpAny_pure (wpAny_bind (wpAny_bind (wpAny_loadPart hx (wpAny_bind (PySem.W.Looks.here (s:={ s with toks:=s.toks+1 }) (PySem.W.looks_clsIn I.kIn hc) ?_))))));rw [hd'];have hne:a≠s.heap.objs.size:=YW (YG hx);have hx1:=YB (h:=s.heap) { cls:=.type "dict",data:=.dict #[] } hx;have hd1:(s.heap.push { cls:=.type "dict",data:=.dict #[] }).get? s.heap.objs.size=some { cls:=.type "dict",data:=.dict #[] }:=YL s.heap rfl;have n1:(s.heap.push { cls:=.type "dict",data:=.dict #[] }).Ns1 s.heap.objs.size (fun _=>none):=Heap.Ns1.of_empty ⟨_,#[],_,hd1,rfl,(fun e he=>absurd he (by simp)),fun _=>rfl⟩;have Hd:H s.heap.objs.size=none:=I.hok.fresh (YD _);have I1:aU X pins σ (bQ H s.heap.objs.size (.ext (XD s.heap.objs.size []))) { s with heap:=s.heap.push { cls:=.type "dict",data:=.dict #[] },toks:=s.toks } :=
  I.laid (fun b u q=>YB _ q) (YD _) ⟨⟨_,n1,fun _=>True.intro,PySem.Within.nil⟩,⟨_,hd1⟩,fun _ _ q k=>uK q k⟩
 refine wpAny_bind (wpAny_alloc' (wpAny_bind (wpAny_update' hx1 (wpAny_pure ?_))));have hx2:((s.heap.push { cls:=.type "dict",data:=.dict #[] }).update a fun o=>{ o with dict:=some s.heap.objs.size }).get? a=some ⟨.ref C,some s.heap.objs.size,.fields vs,#[]⟩:=Yd _ hx1 rfl;have kp:∀ b o,b≠a →(s.heap.push { cls:=.type "dict",data:=.dict #[] }).get? b=some o →((s.heap.push { cls:=.type "dict",data:=.dict #[] }).update a fun o=>{ o with dict:=some s.heap.objs.size }).get? b=some o:=fun b o nb q=>(Yq _ _ (Ne.symm nb)).trans q;have n2:=n1.at (h':=(s.heap.push { cls:=.type "dict",data:=.dict #[] }).update a fun o=>{ o with dict:=some s.heap.objs.size }) fun o q=>kp _ o (Ne.symm hne) q;generalize (s.heap.push { cls:=.type "dict",data:=.dict #[] }).update a (fun o=>{ o with dict:=some s.heap.objs.size })=h2 at hx2 kp n2 ⊢;have I2:aU X pins σ (bQ (bQ H s.heap.objs.size (.ext (XD s.heap.objs.size []))) a (.ext (nU a (.ref C) (some s.heap.objs.size)))) { s with heap:=h2,toks:=s.toks } :=
  I1.write (x:=a) (e:=a) (by rw [aP hne,e]; exact True.intro) (.inl rfl) (fun b q hb z=>kp b q hb z) ⟨_,hx2⟩ ⟨⟨vs,a0,hx2,h0,h1⟩,⟨_,hx2⟩,fun _ _ q k=>xK q k⟩
 show wpAny _ _ (storeInDict s.heap.objs.size (.str f s.toks) f u) _ _ _;unfold storeInDict newKeyGuard;refine wpAny_bind (wpAny_pure (wpAny_bind (wpAny_nsSet1 n2 fun h3 n3 s3=>?_)));obtain ⟨oD,esD,epD,hoD,hdD,hcD⟩:=n3.count (PySem.Within.cons f u PySem.Within.nil);refine wpAny_bind (wpAny_lookBehind hoD (by rw [hdD]; exact pastItsLine_dict (Y5 hcD (by rw [Y_,aA9,sizeLine_eq]; omega))) ?_);refine wpAny_pure (h s.heap.objs.size _ Hd ?_);have I3:aU X pins σ (bQ (bQ (bQ H s.heap.objs.size (.ext (XD s.heap.objs.size []))) a (.ext (nU a (.ref C) (some s.heap.objs.size)))) s.heap.objs.size (.ext (XD s.heap.objs.size [(f,y)]))) { s with heap:=h3,toks:=s.toks+2 }:=by
  refine I2.write (x:=s.heap.objs.size) (e:=s.heap.objs.size) (by rw [aP (Ne.symm hne),aD]; exact True.intro) (.inl rfl) (fun b q hb z=>(s3.2 b hb).trans z) ⟨_,hoD⟩ ⟨⟨_,n3,fun g=>?_,fun g hg=>?_⟩,⟨_,hoD⟩,fun _ _ q k=>uK q k⟩
  ·show mK (Zb g [(f,y)]) (if g=f then some u else none)
   by_cases q:g=f
   ·subst q; simp only [Zb,beq_self_eq_true,if_true]; exact ry
   ·have hb:(g==f)=false:=beq_eq_false_iff_ne.mpr q;simp only [Zb,hb,if_neg q];exact True.intro
  ·by_cases q:g=f
   ·rw [q]; exact Yg
   ·exact absurd (if_neg q) hg
 have e3:bQ (bQ H s.heap.objs.size (.ext (XD s.heap.objs.size [(f,y)]))) a (.ext (nU a (.ref C) (some s.heap.objs.size)))=bQ (bQ (bQ H s.heap.objs.size (.ext (XD s.heap.objs.size []))) a (.ext (nU a (.ref C) (some s.heap.objs.size)))) s.heap.objs.size (.ext (XD s.heap.objs.size [(f,y)])):=by
  funext b
  unfold bQ
  by_cases z:b=a
  ·subst z; simp [hne]
  ·by_cases z2:b=s.heap.objs.size
   ·have:=Ne.symm hne;simp [z2,this]
   ·simp [z,z2]
 rw [e3];exact I3
theorem Bo {Q:Unit →Shared →Prop}(I:aU X pins σ H s)(e:H a=some (.ext (nU a (.ref C) (some d))))(ed:H d=some (.ext (XD d fs)))(ne:d≠a)(hl:fs.length<1000)(xf:Fz X.K C)(n:cX X.K C f)(ry:RelV y u)
  (h:∀ s',aU X pins σ (bQ H d (.ext (XD d (iJ f y fs)))) s' →Q () s'):wpAny (model X.prog X.w) A (setAttr (.ref a) f u) Q E s:=by
 obtain ⟨⟨vs,a0,hx,h0,h1⟩,_,_⟩:=(show bY X.prog X.w H s.heap a (.ext (nU a (.ref C) (some d))) from I.hok a _ e)
 obtain ⟨⟨mA,n1,r,wi⟩,⟨oq,hoq⟩,_⟩:=(show bY X.prog X.w H s.heap d (.ext (XD d fs)) from I.hok d _ ed)
 have J:InstAt s.heap a ⟨.ref C,some d,.fields vs,#[]⟩ C (some oq):=⟨hx,rfl,rfl,hoq⟩
 refine PySem.W.set_plain I.kIn J xf.sa (sG (s:={ s with toks:=s.toks+1 }) I.kIn J xf n ?_);obtain ⟨cd,hc,hd'⟩:=any_some xf.hd;unfold storeInOwnDict;refine wpAny_bind (wpAny_pure (wpAny_bind (wpAny_bind (wpAny_loadPart hx (wpAny_bind (PySem.W.Looks.here (s:={ s with toks:=s.toks+1 }) (PySem.W.looks_clsIn I.kIn hc) ?_))))));rw [hd'];refine wpAny_pure (a:=some d) ?_;show wpAny _ _ (storeInDict d (.str f s.toks) f u) _ _ _;unfold storeInDict newKeyGuard;refine wpAny_bind (wpAny_pure (wpAny_bind (wpAny_nsSet1 (s:={ s with toks:=s.toks+1 }) n1 fun h3 n3 s3=>?_)));obtain ⟨oD,esD,epD,hoD,hdD,hcD⟩:=n3.count (PySem.Within.cons f u wi);refine wpAny_bind (wpAny_lookBehind hoD (by rw [hdD]; exact pastItsLine_dict (Y5 hcD (by rw [Y_,YH,sizeLine_eq]; omega))) ?_);refine wpAny_pure (h _ ?_);refine I.write (x:=d) (e:=d) (by rw [ed]; exact True.intro) (.inl rfl) (fun b q hb z=>(s3.2 b hb).trans z) ⟨_,hoD⟩ ⟨⟨_,n3,fun g=>?_,fun g hg=>?_⟩,⟨_,hoD⟩,fun _ _ q k=>uK q k⟩
 ·show mK ((iJ f y fs).lookup g) (if g=f then some u else mA g);rw [jG]
  by_cases q:g=f
  ·rw [if_pos q,if_pos q]; exact ry
  ·rw [if_neg q,if_neg q]; exact r g
 ·by_cases q:g=f
  ·rw [q]; exact (gD f y fs).1
  ·refine (gD f y fs).2 g (wi g fun z=>hg ?_);show (if g=f then some u else mA g)=none;rw [if_neg q]; exact z
theorem Hc {v:V}{b:Bool}{Q:Value →Shared →Prop}(I:aU X pins σ H s)(e:H a=some (.ext (yN a (.ref C) d)))(ed:H d=some (.ext (XD d fs)))(xt:O1 X.K C)(xf:Fz X.K C)(n:cX X.K C f)(l:fs.lookup f=some v)
  (h:∀ u s',aU X pins σ H s' →RelV v u →Q u s'):wpAny (model X.prog X.w) A (getAttr (.ref a) f b) Q E s:=by
 obtain ⟨⟨vs,sl,hx⟩,_,_⟩:=(show bY X.prog X.w H s.heap a (.ext (yN a (.ref C) d)) from I.hok a _ e)
 obtain ⟨⟨mA,n1,r,wi⟩,_,_⟩:=(show bY X.prog X.w H s.heap d (.ext (XD d fs)) from I.hok d _ ed)
 obtain ⟨od,hod,hl⟩:=rM n1;have J:InstAt s.heap a ⟨.ref C,some d,.fields vs,sl⟩ C (some od):=⟨hx,rfl,rfl,hod⟩
 obtain ⟨u,hu,ru⟩:=mK.some_of (v:=v) (o:=mA f) (by rw [← l]; exact r f);have ix:Js a (.ref C) s.heap:=⟨_,hx,rfl⟩
 have K':=I.kIn;have fin:=h u _ (I.tok (s.toks+1)) ru;have lf:=looks_find (M:=model X.prog X.w) K' J (PySem.W.findObj_own xf.hd n rfl (by rw [hl,hu]));obtain ⟨hh,gg,dr,tt,os⟩:=s;have ly:=ix.ty (M:=model X.prog X.w);have lga:=looks_findIn (M:=model X.prog X.w) K' xt.ga;have lgt:=looks_findIn (M:=model X.prog X.w) K' xt.gt;unfold getAttr getAttrBy;refine wpAny_bind (wpAny_mkText (wpAny_holding (wpAny_bind (ly.at (wpAny_bind (lga.at ?_))))));show wpAny _ _ (getAttrByItsOwn _ _ _ _ _ _) _ _ _;unfold getAttrByItsOwn;refine wpAny_bind (lgt.at ?_);refine wpAny_bind (wpAny_attempt (wpAny_holding ?_));have cg:∀ nv:Value,callGetattribute (.ref a) nv (.builtin "BaseException.__getattribute__") b=boundAndCalled (.builtin "BaseException.__getattribute__") (.ref a) nv:=fun nv=>by cases b <;> rfl
 rw [cg];unfold boundAndCalled;rw [PySem.F.attr_ValueError.ga.bind (.ref a)];refine wpAny_bind (wpAny_pure (wpAny_call (codeAny_call_builtin PySem.F.attr_ValueError.ga.plain PySem.F.entry_bexc_ga (Ck (s:=⟨hh,gg,dr,tt+1,os⟩) K' ix xt ?_))));have e1:slotArgs "__getattribute__" 1 ⟨[.ref a,.str f tt],[]⟩=pure (.ref a,[.str f tt]):=rfl;unfold Builtin.«object.__getattribute__»;show wpAny _ _ (slotArgs "__getattribute__" 1 ⟨[.ref a,.str f tt],[]⟩ >>= _) _ _ _;rw [e1];refine wpAny_bind (wpAny_pure ?_);refine wpAny_bind (wpAny_pure (wpAny_bind (ly.at (wpAny_bind (lf.at ?_)))));exact wpAny_pure (handed_on (rO ru) fin)
end
end L2
namespace L2
open PySem PySem.Spec PyProof.Rows
abbrev Cx.marked (X:Cx)(a:Addr):Cx:={ X with A:=X.A.mark (some (.ref a)),calm:=false,xe:=fun _ _=>False }
section
variable {X:Cx}{σ:St}{H:Hp}{s:Shared}{a:Addr}{h':Heap}{B:Heap}
theorem aU.mark (I:aU X [] σ H s)(a:Addr):aU (X.marked a) [] σ H s :=
 ⟨⟨I.ok.mod,I.ok.kind,I.ok.glob,I.ok.blt,I.ok.above,I.ok.inj,I.ok.has,I.ok.cab,fun z=>Bool.noConfusion (show false=true from z),I.ok.frames,I.ok.stk,I.ok.exf,I.ok.bs,I.ok.bsz,I.ok.noex,I.ok.exfs,I.ok.funs,I.ok.frf⟩,I.os,I.bare,I.base,I.loc,I.cell,I.free,I.freeC,I.pin,I.hok,I.len⟩
theorem aU.unmark (ok:X.Ok)(I:aU (X.marked a) [] σ H s):aU X [] σ H s:=⟨ok,I.os,I.bare,I.base,I.loc,I.cell,I.free,I.freeC,I.pin,I.hok,I.len⟩
theorem aU.fly (hex:X.ex=[])(hpn:X.pn=[])(I:aU X [] σ H s)(b1:B.StaysIn s.heap)(b2:B.StaysIn h')(up:s.heap.UpToSlots h')(hB:∀ b o,X.s₀.heap.get? b=some o →b∉X.fs →∃ o',B.get? b=some o')
  (hH:∀ b u,H b=some u →∃ o',B.get? b=some o'):aU X [] σ H { s with heap:=h' }:=by
 have cellK:∀ c v,s.heap.IsCell c v →h'.IsCell c v:=fun c v ⟨o,ho,hd⟩=>by
  obtain ⟨sl,e⟩:=up c o ho (fun vs z=>by rw [hd] at z; cases z);exact ⟨_,e,hd⟩
 refine ⟨I.ok,I.os,I.bare,?_,?_,fun x c e=>let ⟨v,z⟩:=I.cell x c e; ⟨v,cellK c v z⟩,I.free,I.freeC,fun p hp=>?_,uB I.hok b1 b2 hH,I.len⟩
 ·rw [hex];refine yP (by have:=I.base; rw [hex] at this; exact this) b1 b2 up (fun b hb=>?_) hB;obtain ⟨_,o,ho,hd⟩:=I.funs.mem hb;exact ⟨o,ho,hd⟩
 ·obtain ⟨m,hn,hl⟩:=I.loc;refine ⟨m,up.ns hn,fun i x v e1 e2 e3=>?_⟩;obtain ⟨u,r,l⟩:=hl i x v e1 e2 e3;refine ⟨u,r,?_⟩;rcases l with l | ⟨k,c,e,z⟩
  ·exact .inl l
  ·exact .inr ⟨k,c,e,cellK _ _ z⟩
 ·rw [hpn] at hp;exact absurd hp (by simp)
theorem aU.trackX {o:HO}(hex:X.ex=[])(hpn:X.pn=[])(I:aU X [] σ H s)(n:H a=none)(n0:X.s₀.heap.get? a=none)(nL:a≠X.env.locals)(nC:∀ x c,X.env.cells.lookup x=some c →c≠a)(new:bY X.prog X.w (bQ H a o) s.heap a o) :
  aU X [] σ (bQ H a o) s:=by
 have ne:∀ b u,H b=some u →b≠a:=fun b u q z=>by rw [z,n] at q; cases q
 have ne0:∀ b u,X.s₀.heap.get? b=some u →b≠a:=fun b u q z=>by rw [z,n0] at q; cases q
 refine ⟨I.ok,I.os,I.bare,⟨I.base.keep,I.base.slot,fun b u q nb hx=>?_,I.base.there,fun b xs q=>?_,fun b ob u q=>?_,fun b ps q=>?_⟩,I.loc,I.cell,?_,fun x c e=>?_,fun p hp=>?_,fun b u q=>?_,I.len⟩
 ·rw [aP (ne0 b u q)]; exact I.base.free b u q nb hx
 ·have z:=I.base.tups b xs q; rw [aP (ne b _ z)]; exact z
 ·have z:=I.base.frzs b ob u q; rw [aP (ne b _ z)]; exact z
 ·obtain ⟨more,z⟩:=I.base.tbls b ps q; exact ⟨more,by rw [aP (ne b _ z)]; exact z⟩
 ·rw [aP (Ne.symm nL)]; exact I.free
 ·rw [aP (nC x c e)]; exact I.freeC x c e
 ·rw [hpn] at hp;exact absurd hp (by simp)
 ·by_cases z:b=a
  ·subst z; rw [aD] at q; cases q; exact new
  ·rw [aP z] at q;exact (I.hok b u q).stay (fun _ _ _ r=>r) (fun c r=>by rw [aP (ne c _ r)]; exact r) fun c xs r=>by rw [aP (ne c _ r)]; exact r
theorem aU.unbind {i:Nat}{n:Str}{pins:List (Addr×Obj)}{M:Model}{A:Around}{E:Value →Shared →Prop}{pos:Pos}{Q:Unit →Shared →Prop}(I:aU X pins σ H s)(hN:X.N.Nodup)(hi:X.N[i]? = some n)(hk:X.env.scope.names.lookup n=some .local)(hf:X.fn n=true)
  (h:∀ s',aU X pins (σ.set i none) H s' →Q () s'):wpAny M A (do bindName X.env n .none; unbindBehindTheSuite X.env n pos) Q E s:=by
 have hcls:(X.env.scope.kind==.class||(X.env.scope.kind==.module&&X.env.locals != X.env.globals))=false:=by rw [I.ok.kind]; rfl
 refine wpAny_bind (wpAny_bindName (jL (v:=V.non) I hN hi (.inl hk) rfl (fun s1 I1 _=>?_) (.inl hf)));unfold unbindBehindTheSuite;refine wpAny_onRaise ?_;obtain ⟨m,hn,hl⟩:=id I1.loc;have hiσ:i < σ.length:=by rw [I.len]; exact (Y8.mp hi).1
 obtain ⟨u,ru,lk⟩:=hl i n .non hi (by rw [Z5 hiσ]) (.inl hk);have hm:m n=some u:=by
  rcases lk with ⟨_,e⟩ | ⟨k,_⟩
  ·exact e
  ·have hk':X.env.kindOf n=some .local:=hk;rw [hk'] at k;rcases k with k | k <;> cases k
 refine wpAny_unbindName_local hk hn hm hcls fun h2 u2 hn2 hs2=>?_;obtain ⟨oL,_,_,hoL,_⟩:=id hn;have other:∀ b o,s1.heap.get? b=some o →b≠X.env.locals →h2.get? b=some o:=fun b o q nb=>(hs2.2 b nb).trans q;have gt:∀ b o,X.s₀.heap.get? b=some o →b≠X.env.locals:=fun b o q=>YW (YS (YG q) I.ok.above);refine h _ ⟨I1.ok,I1.os,I1.bare,⟨fun b o q nb hb hx=>other b o (I1.base.keep b o q nb hb hx) (gt b o q),fun b o q nb hb hx=>?_,I1.base.free,fun b o q hx=>?_,I1.base.tups,I1.base.frzs,I1.base.tbls⟩,⟨_,hn2,fun j y v e1 e2 e3=>?_⟩,fun y c e=>?_,I1.free,I1.freeC,fun p hp=>?_,fun b ob e=>?_,by simpa using I.len⟩
 ·obtain ⟨sl,e⟩:=I1.base.slot b o q nb hb hx;exact ⟨sl,other b _ e (gt b o q)⟩
 ·obtain ⟨o',e⟩:=I1.base.there b o q hx;exact ⟨o',other b _ e (gt b o q)⟩
 ·have hj:j≠i:=by
   rintro rfl;rw [Z5 hiσ] at e2;cases e2
  rw [Za (Ne.symm hj)] at e2;obtain ⟨u',r',q⟩:=hl j y v e1 (by rw [Za (Ne.symm hj)]; exact e2) e3;refine ⟨u',r',?_⟩;rcases q with ⟨k,e⟩ | ⟨k,c,e,o,ho,hd⟩
  ·refine .inl ⟨k,?_⟩;have:y≠n:=fun e=>hj (pW hN e1 (e ▸ hi));show (if y=n then u2 else m y)=some u';rw [if_neg this];exact e
  ·exact .inr ⟨k,c,e,o,other c o ho (I1.cne y c e),hd⟩
 ·obtain ⟨v,o,ho,hd⟩:=I1.cell y c e;exact ⟨v,o,other c o ho (I1.cne y c e),hd⟩
 ·obtain ⟨e,n',ne,nf,d⟩:=I1.pin p hp;exact ⟨other _ _ e ne,n',ne,nf,d⟩
 ·refine (I1.hok b ob e).stay (fun c w' hc q=>other c w' q ?_) (fun _ q=>q) fun _ _ q=>q;rintro rfl;rcases hc with rfl | hc
  ·rw [I1.free] at e; cases e
  ·rw [I1.free] at hc; cases hc
end
section
variable {X:Cx}
def yF (a:Addr)(cls:Value):Option Addr →Heap →Prop
 | none=>Js a cls
 | some d=>yN a cls d
def Ends.back (D:Ends)(i:Nat):Ends:={ nx:=fun σ' H''=>D.nx (σ'.set i none) H'',rt:=D.rt,bk:=fun σ' H''=>D.bk (σ'.set i none) H'',ct:=fun σ' H''=>D.ct (σ'.set i none) H'' }
def Cw (X:Cx)(φ:Addr →Value →Option Addr →Heap →Prop)(C:Addr)(i:Nat)(ts:Addr →TS)(D:Ends)(e:Value)(s1:Shared):Prop :=
 ∃ (a:Addr) (cls a0:Value) (σ':St) (H':Hp) (B:Heap) (od:Option Addr),e=.ref a∧aU X [] σ' H' s1∧aAE B X.stack a cls a0 s1.heap∧(∀ b o,X.s₀.heap.get? b=some o →b∉X.fs →∃ o',B.get? b=some o') ∧
  (∀ b u,H' b=some u →∃ o',B.get? b=some o')∧dk od a s1.heap∧PySem.W.exmOne X.K cls (.ref C)=some true∧∀ a,H' a=none →ts a (D.back i) (σ'.set i (some (.ref a))) (bQ H' a (.ext (φ a cls od)))
theorem Df {φ:Addr →Value →Option Addr →Heap →Prop}{body suite:List Stmt}{b0:Stmt}{x n:Str}{np hpos pos:Pos}{C:Addr}{i:Nat}{ts:Addr →TS}{s:Shared}{σ:St}{H:Hp}{D:Ends}(hst:X.stack=X.env::X.outer)(hf:X.env.frame=some X.env.locals)(hex:X.ex=[])(hpn:X.pn=[])
  (hN:X.N.Nodup) (hi:X.N[i]? = some n) (hk:X.env.scope.names.lookup n=some .local) (hfn:X.fn n=true) (hg:Gl X x) (hm:X.mg x=some (.ref C))
  (hφ:∀ a od h o vs,h.get? a=some o →o.data=.fields vs →dk od a h →φ a o.cls od h) (hφ2:∀ a cls od (h1 h2:Heap),φ a cls od h1 →(∀ o,h1.get? a=some o →h2.get? a=some o) →φ a cls od h2)
  (I:aU X [] σ H s) (hb:wpAny (model X.prog X.w) X.A (execs body X.env) (SP X [] D) (Cw X φ C i ts D) s) (hs:∀ a,vK (X.marked a) (b0::suite) (ts a)) (hd:(x==("__debug__" : Str))=false:=by decide) :
  wpAny (model X.prog X.w) X.A (exec (.Try body [.ExceptHandler (some (.Name x np)) (some n) (b0::suite) hpos] [] [] pos) X.env) (SP X [] D) X.xe s:=by
 refine wpAny_Try_except (wpAny_mono hb (fun fl s1 hq=>?_) fun e s1 hx=>?_)
 ·cases fl with
  | next =>
   obtain ⟨σ',H',J,q⟩:=hq;exact aQ [] s1 σ' H' D J q
  | brk=>exact hq
  | cont=>exact hq
  | ret u=>exact hq
 ·obtain ⟨a,cls,a0,σ',H',B,od,rfl,J,fl,inB,inH,hdk,hc,hG⟩:=hx;rw [hst] at fl;refine wpAny_mono (gZ (rK _ _) (wpAny_looks_onW (Q:=fun _ s2=>∃ h2,s2 = { s1 with heap:=h2 }∧Heap.HeldW B (X.env::X.outer) a cls a0 X.env.locals h2∧s1.heap.UpToSlots h2) (by rw [J.ok.frames,hst]) hf fl fun h4 held up4=>⟨h4,rfl,held,up4⟩)) (fun _ s2 hq=>?_) fun _ _ z=>z;obtain ⟨⟨h4,rfl,held,up4⟩,kd4⟩:=hq;refine wpAny_mono (gZ (fP _ _) (wpAny_landsW (s:={ s1 with heap:=h4 }) (Q:=fun _ s2=>∃ h2,s2 = { s1 with heap:=h2 }∧aAE B (X.env::X.outer) a cls a0 h2∧h4.UpToSlots h2) held fun h5 fl5 up5'=>⟨h5,rfl,fl5,up5'⟩)) (fun _ s2 hq=>?_) fun _ _ z=>z;obtain ⟨⟨h5,rfl,fl5,up5'⟩,kd5⟩:=hq;have up5:=up4.trans up5';have J5:aU X [] σ' H' { s1 with heap:=h5 }:=J.fly hex hpn fl.1 fl5.1 up5 inB inH;refine wpAny_handleBy_cons (codeAny_handlers_test (gY (X:=X.marked a) (J5.mark a) hg hm ?_ hd)) (by intro q; cases q);have kin:X.K.In h5:=J5.kIn;obtain ⟨ob,hob,hobc⟩:=fl5.there;have isx:Js a cls h5:=⟨ob,hob,hobc⟩
  refine (PySem.W.exm_one kin isx.ty hc).here ?_;refine codeAny_handlers_suite_as ?_;refine wpAny_mono (gZ (fP _ _) (lands_againW (s:={ s1 with heap:=h5 }) (Q:=fun _ s2=>∃ h2,s2 = { s1 with heap:=h2 }∧aAE B (X.env::X.outer) a cls a0 h2∧h5.UpToSlots h2) fl5 fun h6 fl6 up6=>⟨h6,rfl,fl6,up6⟩)) (fun _ s2 hq=>?_) fun _ _ z=>z;obtain ⟨⟨h6,rfl,fl6,up6⟩,kd6⟩:=hq;have J6:aU X [] σ' H' { s1 with heap:=h6 }:=J.fly hex hpn fl.1 fl6.1 (up5.trans up6) inB inH;obtain ⟨oe,ws,hoe,hoec,hoed,_⟩:=fl6.first
  have na:H' a=none:=by
   cases z:H' a with
   | none=>rfl
   | some u =>
    obtain ⟨o',e'⟩:=inH a u z;have:=fl6.2.1;rw [e'] at this;cases this
  have nL:a≠X.env.locals:=fun z=>by
   obtain ⟨m,⟨o,es,ep,ho,hd',_⟩,_⟩:=J6.loc;have ho:h6.get? X.env.locals=some o:=ho;rw [← z,hoe] at ho;cases ho;rw [hoed] at hd';cases hd'
  have n0:X.s₀.heap.get? a=none:=by
   cases z:X.s₀.heap.get? a with
   | none=>rfl
   | some u =>
    by_cases ha:a∈X.fs
    ·obtain ⟨_,o,ho,hd'⟩:=J6.funs.mem ha;have ho:h6.get? a=some o:=ho;rw [hoe] at ho;cases ho;exact absurd hoed (hd' _)
    ·obtain ⟨o',e'⟩:=inB a u z ha;have:=fl6.2.1;rw [e'] at this;cases this
  have nC:∀ x c,X.env.cells.lookup x=some c →c≠a:=fun x c e z=>by
   obtain ⟨v,o,ho,hd'⟩:=J6.cell x c e;have ho:h6.get? c=some o:=ho;rw [z,hoe] at ho;cases ho;rw [hoed] at hd';cases hd'
  have isx6:φ a cls od h6:=by
   have:=hφ a od h6 oe ws hoe hoed (((hdk.step kd4).step kd5).step kd6);rw [hoec] at this;exact this
  have J7:aU X [] σ' (bQ H' a (.ext (φ a cls od))) { s1 with heap:=h6 }:=J6.trackX hex hpn na n0 nL nC ⟨isx6,⟨oe,hoe⟩,hφ2 a cls od⟩;refine jL (X:=X.marked a) (v:=V.ref a) (J7.mark a) hN hi (.inl hk) rfl (fun s9 J9 _=>?_) (.inl hfn);refine wpAny_mono (hs a [] s9 _ _ _ J9 (hG a na)) (fun fl' Gp hq=>?_) fun _ _ z=>False.elim z;show wpAny _ X.A (do bindName X.env n .none; unbindBehindTheSuite X.env n hpos) _ _ Gp;cases fl' with
  | next =>
   obtain ⟨σ2,H2,K2,q⟩:=hq;exact (K2.unmark I.ok).unbind hN hi hk hfn fun s' K3=>⟨_,H2,K3,q⟩
  | brk =>
   obtain ⟨σ2,H2,K2,q⟩:=hq;exact (K2.unmark I.ok).unbind hN hi hk hfn fun s' K3=>⟨_,H2,K3,q⟩
  | cont =>
   obtain ⟨σ2,H2,K2,q⟩:=hq;exact (K2.unmark I.ok).unbind hN hi hk hfn fun s' K3=>⟨_,H2,K3,q⟩
  | ret u =>
   obtain ⟨v,σ2,H2,K2,r,q⟩:=hq;exact (K2.unmark I.ok).unbind hN hi hk hfn fun s' K3=>⟨v,_,H2,K3,r,q⟩
end
structure uO (P:Program)(w:World)(K:PySem.W.Frag)(mg:Str →Option Value)(base:Heap)(n:Nat)(x:Str)(ps:List Str)(sp:Sp)(g:Addr)(gd:FuncData):Prop where
 ok:bD P w K mg base (J3 P w) n g gd ps sp
 bi:Binds K gd ps []
 kp:PySem.W.keepIn K (.ref g)=true
 at_:mg x=some (.ref g)
theorem uO.up {P:Program}{w:World}{K:PySem.W.Frag}{mg:Str →Option Value}{base:Heap}{n m:Nat}{x:Str}{ps:List Str}{sp:Sp}{g:Addr}{gd:FuncData}(c:uO P w K mg base n x ps sp g gd)(h:n ≤ m):uO P w K mg base m x ps sp g gd:=⟨c.ok.mono h,c.bi,c.kp,c.at_⟩
theorem PS.nox {X:Cx}{st:Stmt}{t:TS}(h:PS X.nox st t):PS X st t:=fun pins s σ H D I hw =>
 wpAny_mono (h pins s σ H D (I.wish _) hw) (fun _ _ q=>q.unwish) fun _ _ z=>False.elim z
theorem gH {X:Cx}{st:Stmt}{rest:List Stmt}{t u:TS}(hs:Qk X st t)(hr:HF X rest u):HF X (st::rest) (NB t u):=by
 intro s σ H D I h;refine wpAny_execs_cons (cN (hs s σ H _ I h) fun fl s1 hq=>?_);cases fl with
 | next =>
  obtain ⟨σ',H',J,q⟩:=hq;exact hr s1 σ' H' D J q
 | brk=>exact hq
 | cont=>exact hq
 | ret u=>exact hq
end L2
namespace TD
open PySem L2
open Builtin.Int (intBits)
def VR (H:Hp)(T:String)(v:V):Prop:=∀ K:PySem.W.Frag,∃ t,jW K H v t∧PySem.W.kitOne K t (.type T)=some false
theorem uI {K:PySem.W.Frag}:PySem.W.kitOne K (.type "bool") (.type "int")=some true:=by rfl
inductive Om (H:Hp)(lo hi:Int):V →Bool →Prop where
 | no {v:V} (h:VR H "int" v):Om H lo hi v false
 | bl (c:Bool):Om H lo hi (.bl c) false
 | int (i:Int):Om H lo hi (.int i) (decide (lo ≤ i)&&decide (i ≤ hi))
def DW:Sp:=fun vs H Q _=>∃ (v:V) (lo hi:Int) (b:Bool),vs=[v,.int lo,.int hi]∧Om H lo hi v b∧Q (.bl b) H
structure Ca where
 dx:Addr
 tp:Addr
 tl:Addr
 th:Addr
 td:Addr
 ys:List Addr
 ss:List (Sd.Sd×Nat×Nat)
 ls:List V
 bs:List Bool
 sp:Int
 ds:List Addr
def KX (x:Addr)(H H':Hp):Prop:=∀ b o,b≠x →H b=some o →H' b=some o
def dN:Nat →Int
 | 0=>2
 | n+1=>4+4*(2+dN n)
end TD
namespace Tb
def lo (l0 l1:Int)(ps:List Rw):List Rw:=ps.filter fun r=>decide (r.t*l1<l0*r.b)
end Tb
namespace TD
open PySem L2
open Builtin.Int (intBits)
structure SS where
 la:Addr
 ca:Addr
 ka:Addr
 da:Addr
 ts:List Addr
 ls:List V
 ks:List Int
 pd:Int
 ds:List Addr
end TD
namespace L2
open PySem PySem.Spec PyProof.Rows
section
variable {X:Cx}
def vH (ns:List Int):List Int:=ns.foldl step_dedup []
theorem oJ (ns:List Int):firstMet (fun i=>ns.getD i 0) ns.length=vH ns:=by
 unfold firstMet vH
 congr 1
 apply aAB
 ·simp
 ·intro i h1 h2;simp [h2]
theorem Bp (hc:X.calm=true):cU X (.type "set") (fun xs H Q=>∃ (a:Addr) (ns:List Int),xs=[.ref a]∧bL X.K H a (ns.map V.int)∧ns.length+1<scanBound ∧
  ∀ r,H r=none →Q (.ref r) (bQ H r (.set (fun k=>(vH ns).any (·==k)) (vH ns).length))):=by
 intro pins s σ H xs us Q I r h;obtain ⟨a,ns,rfl,hS,hb,q⟩:=h;obtain ⟨u,rfl,ru⟩:=vals1 r;cases (show u=Value.ref a from ru);obtain ⟨its,rv,p,hz⟩:=I.list hS;have hi:=intsAre_of rv;have hl:its.toArray.size=ns.length:=by
  have h:=rv.length;rw [YH] at h
  simpa using h.symm
 refine call_set_list (items:=its.toArray) (ns:=ns) (I.ok.hd hc) p.isList hi (by rw [hl]; exact hb) fun h' tk hSO kp=>?_;rw [hl,oJ] at hSO;refine ⟨.ref s.heap.objs.size,_,I.laid (t':=tk) (fun b o e=>kp b o (YG e) e) (YD _) (show bY X.prog X.w _ h' _ (.set _ _) from hSO),rfl,q _ (I.hok.fresh (YD _))⟩
theorem qP:cU X (.builtin "len") (fun xs H Q=>∃ (a:Addr) (S:Int →Bool) (n:Nat),xs=[.ref a]∧H a=some (.set S n)∧Q (.int n) H):=by
 intro pins s σ H xs us Q I r h;obtain ⟨a,S,n,rfl,ha,q⟩:=h;obtain ⟨u,rfl,ru⟩:=vals1 r;cases (show u=Value.ref a from ru);obtain ⟨o,es,ep,t,ho,hex,hd,_,_,hsb,hf,hn⟩:=(show bY X.prog X.w H s.heap a (.set S n) from I.hok a _ ha)
 subst hn;refine call_len_set ho hex hd hf ?_ ⟨.int es.size,H,I.kept (h':=s.heap) (fun _ _ e=>e),⟨_,rfl⟩,q⟩;have:(es.size:Int)<4096:=by unfold scanBound at hsb; omega
 exact aAo this (by decide)
end
section
variable {prog:Program}{w:World}{A:Around}{E:Value →Shared →Prop}{s:Shared}{a₀:Array PyProof.Rows.Keyed}
theorem wL {l:Addr}{o:Obj}{T:String}{vs:List Value}{n:Nat}{Q:List Value →Shared →Prop}(hT:T = "list"∨T = "tuple")(ho:s.heap.get? l=some o)(hc:o.cls=.type T)(hd:o.data=.seq vs.toArray n)(hz:vs.length ≤ sizeLine)
  (h:∀ h',(∀ b u,s.heap.get? b=some u →h'.get? b=some u) →Q vs { s with heap:=h' }):wpAny (model prog w) A (collect (.ref l)) Q E s:=by
 unfold collect;refine wpAny_bind (wpAny_runValue (codeAny_builtin entry_proto_collect' ?_));show wpAny _ _ (do again (.builtin "list.__iadd__" ⟨[← newList [],.ref l],[]⟩)) _ _ s;refine wpAny_bind (wpAny_newList (wpAny_pure ⟨Code.quiet_builtin _ (by decide +kernel),codeAny_builtin entry_list_iadd' ?_⟩));show wpAny _ _ (Builtin.List.listExtendWith (.ref s.heap.objs.size) (.ref l) (.ref s.heap.objs.size)) _ _ { s with heap:=s.heap.push (seqObj "list" #[] 0) };unfold Builtin.List.listExtendWith;have ho':(s.heap.push (seqObj "list" #[] 0)).get? l=some o:=YB _ ho;refine wpAny_bind (wpAny_typeOf (T:=T) ⟨o,ho',hc⟩ ?_);rw [if_pos (by rcases hT with e | e <;> subst e <;> simp)];refine wpAny_bind (listItems_at ho' hd (wpAny_bind (listItems_at (xs:=#[]) (n:=0) (YL _ rfl) rfl ?_)));rw [if_neg (by simp)];refine wpAny_bind (listUpdate_at (xs:=#[]) (n:=0) (YL _ rfl) rfl ?_ (Ym _) (by show (#[]++vs.toArray).size ≤ sizeLine+1; simp only [Array.size_append,YC,aA9]; omega));refine wpAny_pure ?_;show wpAny (model prog w) A (do
   let o ← load s.heap.objs.size
   match o.data with
   | .seq xs _=>pure xs.toList
   | _=>unsupported "internal:collect") Q E { s with heap:=(s.heap.push (seqObj "list" #[] 0)).update s.heap.objs.size (Obj.mapSeq (·++vs.toArray)) }
 refine wpAny_bind (wpAny_load (get?_update_seq (YL _ rfl) _) ?_);show wpAny _ _ (pure ((#[]:Array Value)++vs.toArray).toList) Q E _;rw [show ((#[]:Array Value)++vs.toArray).toList=vs by simp];refine wpAny_pure (h _ fun b u e=>?_);rw [Heap.get?_update_ne _ _ _ _ (YW (YG e))];exact YB _ e
end
section
variable {X:Cx}
def KR (ns:List Int):Prop:=ns.length<64∨(ns.length=64∧ns.Pairwise (· ≤ ·))
def JF:V →List V →Hp →VK →Prop:=fun x vs H Q=>∃ (l:Addr) (ns:List Int) (k:Int),x=.ref l∧vs=[.int k]∧H l=some (.lst (ns.map V.int))∧Q (.int (ns.count k:Nat)) H
theorem tQ {k:Int}:∀ {us:List Value}{ns:List Int},IntsAre us ns →us.countP (fun y=>numOf y==k)=ns.count k
 | _,_,.nil=>rfl
 | _,_,.cons n t h=>by
  rw [List.countP_cons,List.count_cons,tQ h]
  rfl
theorem Ek:S6 X "list.count" JF:=by
 intro pins s σ H x vs v us Q I rx rv h;obtain ⟨l,ns,k,rfl,rfl,hH,q⟩:=h;cases rx;obtain ⟨u,rfl,ru⟩:=rv.one;obtain ⟨t,rfl⟩:=ru;obtain ⟨z,its,n,r,hl,e⟩:=I.lstM hH;have hi:=intsAre_of r;refine call_meets F.slot_list_count ⟨_,e,rfl⟩ F.entry_list_count (F.args_list_count_2 _ _) (SeqAt.list_countAt l its.toArray n none #[] (.int k t) fun y=>numOf y==k) ⟨e,fun y hy=>?_,?_⟩
 ·obtain ⟨m,t',rfl⟩:=hi.all y (by simpa using hy);exact SeqAt.EqAt.int_int m t' k t
 ·refine ⟨.int (ns.count k:Nat),H,I.kept (h':=s.heap) (fun _ _ e=>e),⟨s.toks,?_⟩,q⟩;rw [show its.toArray.toList=its from rfl,tQ hi]
theorem JX {e:Expr}{a b c:TE}(h1:PE X e a)(h2:PE X e b)(h3:PE X e c):PE X e (fun σ H Q=>a σ H Q∨b σ H Q∨c σ H Q):=fun pins s σ H Q I h=>by
 rcases h with h | h | h
 ·exact h1 pins s σ H Q I h
 ·exact h2 pins s σ H Q I h
 ·exact h3 pins s σ H Q I h
end
theorem Gq {ns:List Int}(nd:ns.Nodup):vH ns=ns:=by
 have go:∀ (ms ds:List Int),(ds++ms).Nodup →ms.foldl PyProof.Rows.step_dedup ds=ds++ms:=by
  intro ms
  induction ms with
  | nil=>intro ds _; simp
  | cons m ms ih =>
   intro ds h;have hm:ds.any (·==m)=false:=by
    rw [aAY];intro x hx z;have hxm:x=m:=by simpa using z
    have:=(aAv.mp h).2.2 x hx m Yg;exact this hxm
   show ms.foldl PyProof.Rows.step_dedup (PyProof.Rows.step_dedup ds m)=_;have e:PyProof.Rows.step_dedup ds m=ds++[m]:=by unfold PyProof.Rows.step_dedup; rw [if_neg (by rw [hm]; exact YM)]
   rw [e,ih (ds++[m]) (by rw [YX]; exact h),YX]
   rfl
 exact go ns [] (by simpa using nd)
theorem zH {X:Cx}{K:PySem.W.Frag}(hK:X.K=K)(hc:X.calm=true):cU X (.type "set") (fun xs H Q=>∃ (a:Addr) (ns:List Int),xs=[.ref a]∧bL K H a (ns.map V.int)∧ns.length+1<scanBound ∧
  ∀ r,H r=none →Q (.ref r) (bQ H r (.set (fun k=>(vH ns).any (·==k)) (vH ns).length))):=by subst hK; exact Bp hc
theorem JR:bootBuiltins "set" = some (.type "set"):=by decide +kernel
section
variable {X:Cx}{K:PySem.W.Frag}{o e:Expr}{es:List Expr}{ta to:TE}{t:TA}{f name:Str}{pos apos cpos:Pos}{T id:String}{r:V →List V →Hp →VK →Prop}
theorem tZ (hK:X.K=K)(he:PE X e ta)(hb:attributeBase e f X.env (eval e X.env)=eval e X.env):PE X (.Attribute e f pos) (Jv K ta f):=by subst hK; exact zU he hb
theorem JH (hK:X.K=K)(pa:PlainAttrs T)(slot:Slot T name id)(hty:typeOf (.builtin id)=pure (.type "method_descriptor"))(hm:TV X id r)(ho:PE X o to)(ha:PA X (e::es) t)
  (hbase:attributeBase o name X.env (eval o X.env)=eval o X.env:=by rfl)
  (hfew:((backTo cpos (starEach (e::es) X.env)).all (fun x=>!x.1)&&(backToKw cpos (keywordEach [] X.env)).all (fun x=>x.1.isSome)
  &&decide ((e::es).length+([]:List Keyword).length+(if ([]:List Keyword).isEmpty then 0 else 1)<30))=true:=by rfl)
  (hline:(apos.endLine==cpos.line)=true:=by rfl) (hs:starEach (e::es) X.env=(false,eval e X.env)::starEach es X.env:=by rfl) (hplain:(backTo cpos (starEach es X.env)).any (·.1)=false:=by rfl) :
  PE X (.Call (.Attribute o name apos) (e::es) [] cpos) (TY K T r to t):=by subst hK; exact vV pa slot hty hm ho ha hbase hfew hline hs hplain
end
end L2
namespace TP
open PySem L2 TD
open Builtin.Int (intBits)
def hb (k b:Int):Bool:=decide (V.int (Builtin.bitAnd (k/2^b.toNat) 1)=V.int 1)
def six (n:Nat):List Int:=(Zh n).map fun (i:Nat)=>(0:Int)+(i:Int)
def dD (k:Int):List Int:=(six 6).filter (hb k)
theorem fQ (n:Nat):six (n+1)=six n++[0+(n:Int)]:=by unfold six; rw [List.range_succ,Yj]; rfl
theorem uY {n:Nat}{b:Int}(h:b∈six n):0 ≤ b∧b<n:=by
 obtain ⟨i,hi,rfl⟩:=ZG.mp h;have:=ZF.mp hi;omega
theorem pA (k:Int):(dD k).length ≤ 6:=Y5 (Z8 _ _) (by unfold six; rw [YH,Z2]; exact YD _)
theorem fX {k b:Int}(h:b∈dD k):0 ≤ b∧b<6:=uY (Yu.mp h).1
def DQ:Sp:=fun vs H Q _=>∃ k b:Int,vs=[.int k,.int b]∧0 ≤ b∧Q (.bl (hb k b)) H
def qL:Sp:=fun vs H Q _=>∃ k:Int,vs=[.int k]∧∀ r H',bB H H' →H r=none →H' r=some (.lst (Is (dD k))) →Q (.ref r) H'
def Jj:Sp:=fun vs H Q _=>∃ k:Int,vs=[.int k]∧∀ H',bB H H' →Q (.int ((dD k).length:Nat)) H'
def zQ:Sp:=fun vs H Q _=>∃ (a:Addr) (ns:List Int) (lo hi g:Int),vs=[.ref a,.int lo,.int hi,.int g]∧H a=some (.lst (Is ns))∧lo ≤ (ns.length:Int)∧(ns.length:Int) ≤ hi∧ns.length ≤ 64∧(∀ n∈ns,0 ≤ n∧n ≤ g)∧∀ H',bB H H' →Q (.bl true) H'
inductive Sk where
 | few (c:Int)
 | groups (gs ms:List Int)
 | listed (ks:List Int)
structure Hs (gs ms:List Int):Prop where
 l1:1 ≤ gs.length
 l6:gs.length ≤ 6
 g:∀ g∈gs,0 ≤ g∧g ≤ 5
 m6:ms.length=6
 m:∀ m∈ms,0 ≤ m∧m ≤ 6
structure O8 (ks:List Int):Prop where
 l1:1 ≤ ks.length
 few:KR ks
 nd:ks.Nodup
 k:∀ k∈ks,0 ≤ k∧k ≤ 63
theorem O8.l64 {ks:List Int}(g:O8 ks):ks.length ≤ 64:=by rcases g.few with h | h <;> omega
def sY:Sk →Prop
 | .few c=>0 ≤ c∧c ≤ 6
 | .groups gs ms=>Hs gs ms
 | .listed ks=>O8 ks
def qF (gs ms:List Int)(k:Int):Bool:=(dD k).all (fun b=>decide (b<(gs.length:Int)))&&((dD k).map fun b=>gs.getD b.toNat 0).all fun g=>decide ((((dD k).map fun b=>gs.getD b.toNat 0).count g:Nat) ≤ ms.getD g.toNat 0)
def eZ:Sk →Int →Bool
 | .few c,k=>decide (((dD k).length:Nat) ≤ c)
 | .groups gs ms,k=>qF gs ms k
 | .listed ks,k=>oX (.int k) (Is ks)
def zR (H:Hp)(p:Addr):Sk →Prop
 | .few c=>H p=some (.tup [.str "few",.int c])
 | .groups gs ms=>∃ g m,H p=some (.tup [.str "groups",.ref g,.ref m])∧H g=some (.tup (Is gs))∧H m=some (.tup (Is ms))
 | .listed ks=>∃ k,H p=some (.tup [.str "listed",.ref k])∧H k=some (.tup (Is ks))
theorem zR.same {H H':Hp}{p:Addr}{S:Sk}(s:bB H H')(h:zR H p S):zR H' p S:=by
 cases S with
 | few c=>exact s _ _ h
 | groups gs ms=>obtain ⟨g,m,a,b,c⟩:=h; exact ⟨g,m,s _ _ a,s _ _ b,s _ _ c⟩
 | listed ks=>obtain ⟨k,a,b⟩:=h; exact ⟨k,s _ _ a,s _ _ b⟩
structure vM where
 f:Addr
 g:Addr
 l:Addr
def oK (C:Addr)(H:Hp)(x:Addr)(c:Int):Prop:=∃ dx,H x=some (.ins C dx [("limit",.int c)])
def vU (C:Addr)(H:Hp)(x:Addr)(gs ms:List Int):Prop:=∃ dx g m,H x=some (.ins C dx [("groups",.ref g),("most",.ref m)])∧H g=some (.tup (Is gs))∧H m=some (.tup (Is ms))
def yM (C:Addr)(H:Hp)(x:Addr)(ks:List Int):Prop:=∃ dx k,H x=some (.ins C dx [("sets",.ref k)])∧H k=some (.tup (Is ks))
theorem oK.same {C:Addr}{H H':Hp}{x:Addr}{c:Int}(s:bB H H')(h:oK C H x c):oK C H' x c:=by obtain ⟨dx,a⟩:=h; exact ⟨dx,s _ _ a⟩
theorem vU.same {C:Addr}{H H':Hp}{x:Addr}{gs ms:List Int}(s:bB H H')(h:vU C H x gs ms):vU C H' x gs ms:=by obtain ⟨dx,g,m,a,b,c⟩:=h; exact ⟨dx,g,m,s _ _ a,s _ _ b,s _ _ c⟩
theorem yM.same {C:Addr}{H H':Hp}{x:Addr}{ks:List Int}(s:bB H H')(h:yM C H x ks):yM C H' x ks:=by obtain ⟨dx,k,a,b⟩:=h; exact ⟨dx,k,s _ _ a,s _ _ b⟩
def IK (C:Addr):Sp:=fun vs H Q _=>∃ (x dx:Addr) (c:Int),vs=[.ref x,.int c]∧H x=some (.ins C dx [])∧0 ≤ c∧c ≤ 6∧Q .non (bQ H x (.ins C dx [("limit",.int c)]))
def zP (C:Addr):Sp:=fun vs H Q _=>∃ (x:Addr) (c k:Int),vs=[.ref x,.int k]∧oK C H x c∧∀ H',bB H H' →Q (.bl (eZ (.few c) k)) H'
def Ii (C:Addr):Sp:=fun vs H Q _=>∃ (x dx a b:Addr) (gs ms:List Int),vs=[.ref x,.ref a,.ref b]∧H x=some (.ins C dx [])∧H a=some (.lst (Is gs))∧H b=some (.lst (Is ms))∧Hs gs ms ∧
 ∀ g m H',(∀ b o,b≠x →H b=some o →H' b=some o) →H' g=some (.tup (Is gs)) →H' m=some (.tup (Is ms)) →H' x=some (.ins C dx [("groups",.ref g),("most",.ref m)]) →Q .non H'
def yX (C:Addr):Sp:=fun vs H Q _=>∃ (x:Addr) (gs ms:List Int) (k:Int),vs=[.ref x,.int k]∧vU C H x gs ms∧Hs gs ms∧∀ H',bB H H' →Q (.bl (qF gs ms k)) H'
def zF (C:Addr):Sp:=fun vs H Q _=>∃ (x:Addr) (ks:List Int) (k:Int),vs=[.ref x,.int k]∧yM C H x ks∧Q (.bl (oX (.int k) (Is ks))) H
theorem dI (ns:List Int):(Is ns).all lO=true:=by
 rw [ZL];intro v hv;obtain ⟨n,_,rfl⟩:=ZG.mp hv
 rfl
theorem oE {ns:List Int}{k:Int}(h0:0 ≤ k)(h:k<(ns.length:Int)):xM (Is ns) k=some (.int (ns.getD k.toNat 0)):=by
 have hk:k.toNat<ns.length:=by omega
 have e:=jR (xs:=Is ns) (j:=k.toNat) (v:=.int (ns.getD k.toNat 0)) (by rw [Y7,YF hk]; simp [hk]);rw [show ((k.toNat:Nat):Int)=k by omega] at e;exact e
theorem Iz:∀ (k:Fin 64) (b:Fin 6),Builtin.bitAnd (((k.val:Nat):Int)/2^b.val) 1=0∨Builtin.bitAnd (((k.val:Nat):Int)/2^b.val) 1=1:=by decide +kernel
theorem Hv {k:Int}{b:Nat}(h0:0 ≤ k)(h1:k<64)(hb6:b<6):Builtin.bitAnd (k/2^((0:Int)+(b:Int)).toNat) 1=if hb k (0+(b:Int))=true then 1 else 0:=by
 have e:=Iz ⟨k.toNat,by omega⟩ ⟨b,hb6⟩;have ek:((k.toNat:Nat):Int)=k:=by omega
 simp only [ek] at e;have eb:((0:Int)+(b:Int)).toNat=b:=by omega
 unfold hb;rw [eb];rcases e with e | e
 ·rw [e,if_neg (by decide)]
 ·rw [e,if_pos (by decide)]
def z9:Sp:=fun vs H Q _=>∃ k:Int,vs=[.int k]∧0 ≤ k∧k<64∧Q (.int ((dD k).length:Nat)) H
def Ij:Sp:=fun vs H Q _=>∃ (p:Addr) (k:Int) (S:Sk),vs=[.ref p,.int k]∧zR H p S∧sY S∧0 ≤ k∧k<64∧∀ H',bB H H' →Q (.bl (eZ S k)) H'
def Dn (K:PySem.W.Frag):Sp:=fun vs H Q _=>∃ (a:Addr) (ns:List Int) (k:Int),vs=[.ref a,.int k]∧bL K H a (ns.map V.int)∧0 ≤ k∧k ≤ 1000∧∀ j,0 ≤ j →j<2147483629 →Q (.int j) H
def Lp (K:PySem.W.Frag):Sp:=fun vs H Q _=>∃ (a:Addr) (ns:List Int) (f m:Int),vs=[.ref a,.int f,.int m]∧bL K H a (ns.map V.int)∧1 ≤ f∧f ≤ 1000∧0 ≤ m∧∀ j,0 ≤ j →j ≤ m →Q (.int j) H
def Dd (K:PySem.W.Frag):Sp:=fun vs H Q _=>∃ (a:Addr) (ns:List Int) (k:Int),vs=[.ref a,.int k]∧bL K H a (ns.map V.int)∧0 ≤ k∧∀ r H' ks,bB H H' →H r=none →H' r=some (.lst (Is ks)) →O8 ks →Q (.ref r) H'
def lK (cs:vM)(H:Hp)(x:Addr):Sk →Prop
 | .few c=>oK cs.f H x c
 | .groups gs ms=>vU cs.g H x gs ms
 | .listed ks=>∃ ms,ms.Perm ks∧ms.Pairwise (· ≤ ·)∧yM cs.l H x ms
theorem lK.same {cs:vM}{H H':Hp}{x:Addr}{S:Sk}(s:bB H H')(h:lK cs H x S):lK cs H' x S:=by
 cases S with
 | few c=>exact oK.same s h
 | groups gs ms=>exact vU.same s h
 | listed ks=>obtain ⟨ms,a,b,c⟩:=h; exact ⟨ms,a,b,c.same s⟩
def u9 (K:PySem.W.Frag):Sp:=fun vs H Q _=>∃ (a:Addr) (ns:List Int),vs=[.ref a]∧bL K H a (ns.map V.int)∧ns.length ≤ 63∧∀ H',Q (.bl true) H'
end TP
namespace TP
open PySem L2 TD
def Br (gs:List Int)(k:Int)(i:Nat):List Int:=((six i).filter (hb k)).map fun b=>gs.getD b.toNat 0
theorem rY (k:Int)(i:Nat):((six (i+1)).filter (hb k))=(six i).filter (hb k)++(if hb k (0+(i:Int))=true then [0+(i:Int)] else []):=by
 rw [fQ,ZR]
 congr 1
 rw [Z7]
 split <;> rfl
theorem getD_mem {ns:List Int}{i:Nat}(h:i<ns.length):ns.getD i 0∈ns:=by
 rw [show ns.getD i 0=ns[i] by simp [h]];exact ZM h
theorem Lk {gs ms:List Int}{k:Int}(g:Hs gs ms)(hin:∀ b∈dD k,b<(gs.length:Int)):∀ z∈Br gs k 6,0 ≤ z∧z ≤ 5:=fun z hz=>by
 obtain ⟨b,hb1,rfl⟩:=ZG.mp hz;have e:=hin b hb1;have e0:=(fX hb1).1;exact g.g _ (getD_mem (by omega))
theorem JB {gs ms:List Int}{k:Int}(g:Hs gs ms)(hin:∀ b∈dD k,b<(gs.length:Int))(hc:∀ z:Nat,z<6 →(((Br gs k 6).count (z:Int):Nat):Int) ≤ ms.getD z 0):qF gs ms k=true:=by
 unfold qF;rw [Y6];refine ⟨ZL.mpr fun b hb=>decide_eq_true (hin b hb),ZL.mpr fun z hz=>decide_eq_true ?_⟩;have r:=Lk g hin z hz;have h:=hc z.toNat (by omega);rw [show ((z.toNat:Nat):Int)=z by omega] at h;exact h
theorem GR {gs ms:List Int}{k b:Int}(hb1:b∈dD k)(h:¬ b<(gs.length:Int)):qF gs ms k=false:=by
 unfold qF;rw [aAJ];exact .inl (aA1.mpr ⟨b,hb1,by rw [decide_eq_false h]; exact YM⟩)
theorem HN {gs ms:List Int}{k:Int}{z:Nat}(g:Hs gs ms)(hz:z<6)(h:ms.getD z 0<(((Br gs k 6).count (z:Int):Nat):Int)):qF gs ms k=false:=by
 have h0:=(g.m _ (getD_mem (ns:=ms) (i:=z) (by rw [g.m6]; exact hz))).1;have hin:(z:Int)∈Br gs k 6:=List.count_pos_iff.mp (by omega);unfold qF;rw [aAJ];refine .inr (aA1.mpr ⟨(z:Int),hin,?_⟩);rw [decide_eq_false (by show ¬ ((((Br gs k 6).count (z:Int):Nat):Int) ≤ ms.getD (z:Int).toNat 0); rw [show ((z:Int)).toNat=z by omega]; omega)];exact YM
theorem JP (cs:List Int)(j:Nat)(c:Int):(Is cs).set j (.int c)=Is (cs.set j c):=by
 show (cs.map V.int).set j (V.int c)=(cs.set j c).map V.int;rw [List.map_set]
theorem Ef {cs:List Int}{j g:Nat}{c:Int}(hj:j<cs.length):(cs.set j c).getD g 0=if g=j then c else cs.getD g 0:=by
 by_cases e:g=j
 ·subst e;rw [if_pos rfl];simp [hj]
 ·rw [if_neg e];simp only [Yk];rw [Za (Ne.symm e)]
theorem Gz (x y:Int):Fx (.int x) (.int y)=(x==y):=rfl
theorem pN {x:Int}:∀ {ks:List Int},oX (.int x) (Is ks)=true↔x∈ks
 | []=>⟨fun h=>(nomatch h),fun h=>(nomatch h)⟩
 | k::ks=>by
  have e:oX (.int x) (Is (k::ks))=(Fx (.int k) (.int x)||oX (.int x) (Is ks)):=rfl;rw [e,Gz,Zy,pN,Ye,beq_iff_eq];exact ⟨fun h=>h.imp Eq.symm id,fun h=>h.imp Eq.symm id⟩
theorem lW {ks:List Int}(h1:1 ≤ ks.length)(h64:ks.length ≤ 64)(lt:ks.Pairwise (· < ·))(hk:∀ x∈ks,0 ≤ x∧x ≤ 63):O8 ks:=by
 refine ⟨h1,?_,lt.imp fun h=>Int.ne_of_lt h,hk⟩
 by_cases e:ks.length=64
 ·exact .inr ⟨e,lt.imp fun h=>Yw h⟩
 ·exact .inl (by omega)
theorem Uj (n:Int):∃ z:Int,xM [V.int 0,V.int 1,V.int 1,V.int 1,V.int 2,V.int 2,V.int 3,V.int 6] (n%8)=some (.int z)∧0 ≤ z∧z ≤ 6:=by
 have a1:=Y4 n (show (8:Int)≠0 by decide);have a2:=YT n (show (0:Int)<8 by decide);rcases (by omega:n%8=0∨n%8=1∨n%8=2∨n%8=3∨n%8=4∨n%8=5∨n%8=6∨n%8=7) with e | e | e | e | e | e | e | e <;> rw [e]
 ·exact ⟨0,rfl,by decide,by decide⟩
 ·exact ⟨1,rfl,by decide,by decide⟩
 ·exact ⟨1,rfl,by decide,by decide⟩
 ·exact ⟨1,rfl,by decide,by decide⟩
 ·exact ⟨2,rfl,by decide,by decide⟩
 ·exact ⟨2,rfl,by decide,by decide⟩
 ·exact ⟨3,rfl,by decide,by decide⟩
 ·exact ⟨6,rfl,by decide,by decide⟩
def Dp:Sp:=fun vs H Q _=>∃ k b:Int,vs=[.int k,.int b]∧0 ≤ b∧b<100∧Q (.int (Builtin.bitOr k (1*2^b.toNat))) H
abbrev Bs (bs:List Bool):List V:=bs.map V.bl
theorem wA {bs:List Bool}{k:Int}(h0:0 ≤ k)(h:k<(bs.length:Int)):xM (Bs bs) k=some (.bl (bs.getD k.toNat false)):=by
 have hk:k.toNat<bs.length:=by omega
 have e:=jR (xs:=Bs bs) (j:=k.toNat) (v:=.bl (bs.getD k.toNat false)) (by rw [Y7,YF hk]; simp [hk]);rw [show ((k.toNat:Nat):Int)=k by omega] at e;exact e
theorem gK (bs:List Bool):(Bs bs).length=bs.length:=YH _
theorem Hf:∀ (k:Fin 64) (b:Fin 6),hb ((k.val:Nat):Int) ((b.val:Nat):Int)=true →(2:Int)^b.val ≤ ((k.val:Nat):Int):=by decide +kernel
theorem low {k b:Int}(h0:0 ≤ k)(h1:k<64)(hb1:b∈dD k):0 ≤ k-1*2^b.toNat∧k-1*2^b.toNat<k:=by
 have r:=fX hb1;have e:=Hf ⟨k.toNat,by omega⟩ ⟨b.toNat,by omega⟩;simp only [show ((k.toNat:Nat):Int)=k by omega,show ((b.toNat:Nat):Int)=b by omega] at e;have h2:=e (Yu.mp hb1).2;have h3:(0:Int)<2^b.toNat:=Int.pow_pos (by decide);omega
theorem J8:∀ (m:Fin 7) (k:Fin 64) (b:Fin 6),k.val<2^m.val →hb ((k.val:Nat):Int) ((b.val:Nat):Int)=true →b.val<m.val:=by decide +kernel
theorem LQ:∀ (m:Fin 7) (k:Fin 64) (b:Fin 6),k.val<2^m.val →b.val<m.val →0 ≤ Builtin.bitOr ((k.val:Nat):Int) (2^b.val)∧Builtin.bitOr ((k.val:Nat):Int) (2^b.val)<2^m.val:=by decide +kernel
theorem u5 {m:Nat}{o e b:Int}(hm:m ≤ 6)(o0:0 ≤ o)(o1:o<2^m)(e0:0 ≤ e)(e1:e<2^m)(h:b∈dD o):0 ≤ Builtin.bitOr e (1*2^b.toNat)∧Builtin.bitOr e (1*2^b.toNat)<2^m:=by
 have r:=fX h;have p6:(2:Int)^m ≤ 64:=by
  have:m=0∨m=1∨m=2∨m=3∨m=4∨m=5∨m=6:=by omega
  rcases this with z | z | z | z | z | z | z <;> subst z <;> decide
 have pn:((2^m:Nat):Int)=(2:Int)^m:=by push_cast; rfl
 have ko:o.toNat<2^m:=by omega
 have ke:e.toNat<2^m:=by omega
 have x:=J8 ⟨m,by omega⟩ ⟨o.toNat,by omega⟩ ⟨b.toNat,by omega⟩ ko;simp only [show ((o.toNat:Nat):Int)=o by omega,show ((b.toNat:Nat):Int)=b by omega] at x;have y:=LQ ⟨m,by omega⟩ ⟨e.toNat,by omega⟩ ⟨b.toNat,by omega⟩ ke (x (Yu.mp h).2);simp only [show ((e.toNat:Nat):Int)=e by omega] at y;rw [aAw];exact y
def qI (bs:List Bool)(o e:Int):List Bool:=((dD o).filter fun b=>!hb e b).map fun b=>bs.getD (Builtin.bitOr e (1*2^b.toNat)).toNat false
def De:Sp:=fun vs H Q _=>∃ (a:Addr) (bs:List Bool) (m:Nat) (o e:Int),vs=[.ref a,.int o,.int e]∧H a=some (.lst (Bs bs))∧bs.length=2^m∧m ≤ 6∧0 ≤ o∧o<(bs.length:Int)∧0 ≤ e∧e<(bs.length:Int)∧∀ H',bB H H' →Q (.bl ((qI bs o e).any id)) H'
def pick (bs:List Bool)(s:Nat)(k:Int):Bool:=bs.getD k.toNat false&&((dD k).length==s)
def dX (bs:List Bool)(i s:Nat):List Int:=(six i).filter (pick bs s)
theorem DN (bs:List Bool)(i s:Nat):(dX bs i s).length ≤ i:=Y5 (Z8 _ _) (by unfold six; rw [YH,Z2]; exact YD _)
theorem m9 (bs:List Bool)(i s:Nat):dX bs (i+1) s=dX bs i s++(if pick bs s (0+(i:Int))=true then [0+(i:Int)] else []):=by
 unfold dX;rw [fQ,ZR]
 congr 1
 rw [Z7]
 split <;> rfl
structure MN (H:Hp)(D:Addr)(ls:List Addr)(bs:List Bool)(i:Nat):Prop where
 lst:H D=some (.lst (ls.map V.ref))
 len:ls.length=7
 nd:ls.Nodup
 ne:∀ l∈ls,l≠D
 each:∀ (s:Nat) l,ls[s]? = some l →H l=some (.lst (Is (dX bs i s)))
def Ec:Sp:=fun vs H Q _=>∃ (a:Addr) (bs:List Bool),vs=[.ref a]∧H a=some (.lst (Bs bs))∧bs.length ≤ 64∧∀ r H' ls,bB H H' →MN H' r ls bs bs.length →Q (.ref r) H'
theorem lZ {bs:List Bool}{i s:Nat}{x:Int}(h:x∈dX bs i s):0 ≤ x∧x<(i:Int)∧bs.getD x.toNat false=true∧(dD x).length=s:=by
 obtain ⟨h1,h2⟩:=Yu.mp h;have r:=uY h1;unfold pick at h2;rw [Y6,beq_iff_eq] at h2;exact ⟨r.1,r.2,h2.1,h2.2⟩
theorem Te {xs:List V}{i:Nat}{v:V}(h:xs[i]? = some v):xM xs (0+(i:Int))=some v:=by rw [Int.zero_add]; exact jR h
theorem Uo {xs:List V}{i:Nat}{v:V}(h:xs[i+1]? = some v):xM xs (0+(i:Int)+1)=some v:=by
 have:=jR h;rw [show ((i+1:Nat):Int)=0+(i:Int)+1 by omega] at this;exact this
end TP
namespace L2
open PySem
theorem rB {X:Cx}{K:PySem.W.Frag}(h:X.K=K):cU X (.builtin "len") (fun xs H Q=>∃ p ys,xs=[.ref p]∧(bL K H p ys∨dG K H p ys)∧Q (.int ys.length) H):=by subst h; exact bF
end L2
namespace TP
open PySem L2 TD
structure Mr (K:PySem.W.Frag)(p:vM):Prop where
 hn:PySem.W.specialIn K (.builtin "object.__class__") "__get__" = some (some (.builtin "getset_descriptor.__get__"))
 htk:PySem.W.takesIn K (.builtin "object.__class__")=some true
 cf:tY K p.f
 cg:tY K p.g
 cl:tY K p.l
 fa:PySem.W.findIn K (.ref p.f) "__class__" = some (some (.builtin "object.__class__"))
 fm:PySem.W.mroIn K p.f (.type "object")=some true
 ga:PySem.W.findIn K (.ref p.g) "__class__" = some (some (.builtin "object.__class__"))
 gm:PySem.W.mroIn K p.g (.type "object")=some true
 la:PySem.W.findIn K (.ref p.l) "__class__" = some (some (.builtin "object.__class__"))
 lm:PySem.W.mroIn K p.l (.type "object")=some true
 ff:PySem.W.kitOne K (.ref p.f) (.ref p.f)=some true
 gf:PySem.W.kitOne K (.ref p.g) (.ref p.f)=some false
 gg:PySem.W.kitOne K (.ref p.g) (.ref p.g)=some true
 lf:PySem.W.kitOne K (.ref p.l) (.ref p.f)=some false
 lg:PySem.W.kitOne K (.ref p.l) (.ref p.g)=some false
 ll:PySem.W.kitOne K (.ref p.l) (.ref p.l)=some true
def bZ (S:Sk)(n:Nat):List Bool:=(six n).map (eZ S)
theorem fH (S:Sk)(n:Nat):(bZ S n).length=n:=by unfold bZ six; rw [YH,YH,Z2]
theorem cW {S:Sk}{n:Nat}{k:Int}(h0:0 ≤ k)(h:k<(n:Int)):(bZ S n).getD k.toNat false=eZ S k:=by
 have hk:k.toNat<n:=by omega
 unfold bZ six;rw [Yk,Y7,Y7,List.getElem?_range hk];show eZ S (0+(k.toNat:Int))=_;rw [show (0:Int)+(k.toNat:Int)=k by omega]
theorem QG {p:vM}{ta tb:TE}{σ:St}{H:Hp}{Q:VK}{x:Addr}{S:Sk}{k:Int}(hX:lK p H x S)(hG:sY S)(hta:∀ Q':VK,Q' (.ref x) H →ta σ H Q')(htb:∀ Q':VK,(∀ H1,bB H H1 →Q' (.int k) H1) →tb σ H Q')(K:∀ H2,bB H H2 →Q (.bl (eZ S k)) H2) :
  Ac p.f "may" (zP p.f) [] E0 ta (Aq tb Gm) σ H Q∨Ac p.g "may" (yX p.g) [] E0 ta (Aq tb Gm) σ H Q∨Ac p.l "may" (zF p.l) [] E0 ta (Aq tb Gm) σ H Q:=by
 cases S with
 | few cc =>
  obtain ⟨dx,hx⟩:=(show oK p.f H x cc from hX)
  exact .inl (hta _ ⟨x,dx,_,rfl,hx,rfl,htb _ fun H1 s1=>⟨x,cc,k,rfl,⟨dx,s1 _ _ hx⟩,fun H2 s2=>K H2 (s1.trans s2)⟩⟩)
 | groups gs ms =>
  obtain ⟨dx,g,m0,hx,hg,hm0⟩:=(show vU p.g H x gs ms from hX)
  exact .inr (.inl (hta _ ⟨x,dx,_,rfl,hx,rfl,htb _ fun H1 s1=>⟨x,gs,ms,k,rfl,⟨dx,g,m0,s1 _ _ hx,s1 _ _ hg,s1 _ _ hm0⟩,hG,fun H2 s2=>K H2 (s1.trans s2)⟩⟩))
 | listed ks =>
  obtain ⟨ms,pm,so,dx,t,hx,ht⟩:=(show ∃ ms,ms.Perm ks∧ms.Pairwise (· ≤ ·)∧yM p.l H x ms from hX)
  have ei:oX (.int k) (Is ms)=eZ (.listed ks) k:=by
   show _=oX _ _;rw [Z9,pN,pN];exact pm.mem_iff
  exact .inr (.inr (hta _ ⟨x,dx,_,rfl,hx,rfl,htb _ fun H1 s1=>⟨x,ms,k,rfl,⟨dx,t,s1 _ _ hx,s1 _ _ ht⟩,by rw [ei]; exact K H1 s1⟩⟩))
end TP
namespace L2
open PySem PySem.Spec PyProof.Rows
theorem cL {X:Cx}{K:PySem.W.Frag}(h:X.K=K):cU X (.type "tuple") (fun xs H Q=>∃ p ys,xs=[.ref p]∧((bL K H p ys∧∀ l,H l=none →Q (.ref l) (bQ H l (.tup ys)))∨(dG K H p ys∧Q (.ref p) H))):=by subst h; exact qN
end L2
namespace L2
open PySem PySem.Spec PySem.Calls PyProof.Rows PySem.W
structure yG (K:Frag)(C fI:Addr):Prop where
 isx:(match K.lookup C with
  | some ⟨.type "type",_,.cls cd,sl⟩=>(match cd.mro,sl.toList with
   | .ref C'::bm,[_,_,_,_,some (.builtin n),_]=>C'==C&&n=="ValueError.__new__"&&!cd.hasDel&&tailIn K rH bm&&nsOkIn K cd.ns&&nsIn K cd.ns "__init__"==some (some (.ref fI))
   | _,_=>false)
  | _=>false)=true
 fn:typeIn K (.ref fI)=some (.type "function")
 kp:keepIn K (.ref C)=true
theorem JM {K:Frag}{h:Heap}{N:Addr}{m:Str →Option Value}{n:Str}{v:Value}(k:K.In h)(G:h.Ns N m)(e:nsIn K N n=some (some v)):m n=some v:=by
 obtain ⟨o,es,ep,ho,hd,_,hf⟩:=G;unfold nsIn at e
 split at e
 case h_2=>cases e
 case h_1 q =>
  have z:=k _ _ q;rw [ho] at z;cases z;cases hd
  split at e
  case h_1 he =>
   cases e;rw [← hf];unfold nsFind findBy;rw [← aAU,he]
   rfl
  case h_2=>split at e <;> cases e
theorem yG.obj {K:Frag}{h:Heap}{C fI:Addr}(x:yG K C fI)(k:K.In h):∃ (bm:List Value) (N:Addr) (nm q:Str) (bs:List Value) (hdct:Bool) (sn:List Str) (sub:List Value) (ab:Bool) (col:Option Bool) (dd:Option Addr) (k0 k1 k2 k3 k5:Option Value) (mN:Str →Option Value),
  h.get? C=some (excClassObj nm q C N bs bm hdct sn sub ab col dd k0 k1 k2 k3 k5 "ValueError.__new__")∧h.Ns N mN∧mN "__init__" = some (.ref fI)∧OwnTail h rH bm:=by
 have z:=x.isx
 split at z
 case h_2=>cases z
 case h_1 dd cd sl ho =>
  split at z
  case h_2=>cases z
  case h_1 C' bm k0 k1 k2 k3 n k5 hm hs =>
   simp only [Y6,beq_iff_eq,aA0] at z;obtain ⟨⟨⟨⟨⟨e1,e2⟩,hdel⟩,ht⟩,hok⟩,hni⟩:=z;subst e1;subst e2;obtain ⟨nm,bs,mro,ns,qn,hd,sn,sub,ab,col,del⟩:=cd;dsimp only at hm hdel hok hni;subst hm;subst hdel;obtain ⟨l⟩:=sl;obtain rfl:l=[k0,k1,k2,k3,some (.builtin "ValueError.__new__"),k5]:=hs;have g:=k _ _ ho;have nn:=isNs_of_in k hok;exact ⟨bm,ns,nm,qn,bs,hd,sn,sub,ab,col,dd,k0,k1,k2,k3,k5,_,g,.of_isNs nn,JM k (.of_isNs nn) hni,tail_of_in k ht⟩
section
variable {prog:Program}{w:World}{A:Around}{E:Value →Shared →Prop}{h:Heap}{g:Array GenState}{d:Drawn}{t:Nat}{os:OsState}{K:Frag}{C fI:Addr}
theorem Bk {us:List Value}{Q:Value →Shared →Prop}(k:K.In h)(x:yG K C fI)(hl:us.length ≤ sizeLine)
  (hq:∀ h' e,Z_ h h' e (.ref C) us →h.objs.size ≤ e →wpAny (model prog w) (A.under (.builtin "type.__call__" ⟨.ref C::us,[]⟩)) (call (.ref fI) (.ref e::us)) (fun r s'=>r=.none∧Q (.ref e) s') E ⟨h',g,d,t,os⟩) :
  wpAny (model prog w) A (call (.ref C) us) Q E ⟨h,g,d,t,os⟩:=by
 obtain ⟨bm,N,nm,q,bs,hdct,sn,sub,ab,col,dd,k0,k1,k2,k3,k5,mN,hC,hN,hi,TL⟩:=x.obj k;have FB:=PySem.F.excBase_ValueError;have f1:=tc_lookup;have f2:=tc_bind (.ref C);have hT:(⟨h,g,d,t,os⟩:Shared).TypeIs (.ref C) "type":=⟨_,hC,rfl⟩
 refine wpAny_call (codeAny_of_tree ?_);show wpAny _ _ (callAny (.ref C) _) _ _ _
 repeat (any_goals (first | assumption | with_reducible refine wpAny_loadPart_at hC ?_ | wp_step))
 refine ⟨rfl,codeAny_call_builtin_at (Code.quiet_builtin _ (by decide +kernel)) entry_typeCall (wpAny_check_type_call_sub hC ?_)⟩
 repeat (first | with_reducible refine wpAny_loadPart_at hC ?_ | with_reducible refine wpAny_madeBy_exc hC ?_ | wp_step)
 refine codeAny_call_builtin_code (Code.quiet_builtin _ FB.quiet) (wpAny_check_new_subU FB FB.hasB TL hC (codeAny_exc_new_subU FB FB.hasB FB TL hC ?_ hl));show wpAny _ _ _ _ _ ⟨(h.push { cls:=.type "tuple",data:=.seq us.toArray }).push { cls:=.ref C,data:=.fields #[.ref h.objs.size,.none,.none,.none,.bool false,.none] },g,d,t,os⟩;have kp:∀ b o,h.get? b=some o →((h.push { cls:=.type "tuple",data:=.seq us.toArray }).push { cls:=.ref C,data:=.fields #[.ref h.objs.size,.none,.none,.none,.bool false,.none] }).get? b=some o:=fun b o z=>YB _ (YB _ z);have ge:((h.push { cls:=.type "tuple",data:=.seq us.toArray }).push { cls:=.ref C,data:=.fields #[.ref h.objs.size,.none,.none,.none,.bool false,.none] }).get? (h.objs.size+1)=some { cls:=.ref C,data:=.fields #[.ref h.objs.size,.none,.none,.none,.bool false,.none] }:=by heap_get
 have gt:((h.push { cls:=.type "tuple",data:=.seq us.toArray }).push { cls:=.ref C,data:=.fields #[.ref h.objs.size,.none,.none,.none,.bool false,.none] }).get? h.objs.size=some { cls:=.type "tuple",data:=.seq us.toArray }:=YB _ (YL h rfl);have mk:Z_ h ((h.push { cls:=.type "tuple",data:=.seq us.toArray }).push { cls:=.ref C,data:=.fields #[.ref h.objs.size,.none,.none,.none,.bool false,.none] }) (h.objs.size+1) (.ref C) us:=⟨kp,aAi (Zq _),h.objs.size,ge,aAi (YD _),gt⟩
 generalize (h.push { cls:=.type "tuple",data:=.seq us.toArray }).push { cls:=.ref C,data:=.fields #[.ref h.objs.size,.none,.none,.none,.bool false,.none] }=h2 at kp ge gt mk ⊢;have k2:K.In h2:=k.keeps kp;have hC2:=kp _ _ hC;have hN2:h2.Ns N mN:=let ⟨o,es,ep,e,r⟩:=hN; ⟨o,es,ep,kp _ _ e,r⟩;have hcC:(Value.ref C::bm).contains (.ref C)=true:=by simp
 unfold isInstance
 repeat (first | with_reducible refine wpAny_loadPart_at ge ?_ | (with_reducible refine wpAny_isSubtype_exc hC2 ?_; rw [hcC]) | wp_step)
 show wpAny _ _ (typeLookup (.ref C) _) _ _ _;refine wpAny_typeLookup_tail hC2 hN2 (TL.keeps kp) FB.mroIs FB.init.lookup ?_;rw [hi];refine wpAny_holding (wpAny_bind ((bind_fn k2 _ x.fn).here (s:=⟨h2,g,d,t,os⟩) (wpAny_bind (wpAny_mono (hq h2 _ mk (Zq _)) (fun r s' hr=>?_) fun _ _ z=>z))));obtain ⟨rfl,hQ⟩:=hr
 wp_walk
 exact hQ
end
section
variable {X:Cx}{pins:List (Addr×Obj)}{σ:St}{H:Hp}{s:Shared}
theorem Ex {h h':Heap}{e:Addr}{cls:Value}{us:List Value}(mk:Z_ h h' e cls us):nU e cls none h':=let ⟨t,a,_,_⟩:=mk.there; ⟨_,.ref t,a,rfl,rfl⟩
theorem aU.madeX {h':Heap}{e:Addr}{cls:Value}{us:List Value}(I:aU X pins σ H s)(mk:Z_ s.heap h' e cls us)(ge:s.heap.objs.size ≤ e):aU X pins σ (bQ H e (.ext (nU e cls none))) { s with heap:=h' }:=by
 obtain ⟨t,a,_,_⟩:=mk.there;exact I.laid (t':=s.toks) mk.keeps ge ⟨Ex mk,⟨_,a⟩,fun _ _ q k=>xK q k⟩
theorem Fp {K:Frag}{prog:Program}{w:World}{A:Around}{E:Value →Shared →Prop}{env:Env}{x:Sem Value}{Q:Flow →Shared →Prop}{C fI:Addr}(hh:A.handled=none)(xi:yG K C fI)
  (h:wpAny (model prog w) A x (fun v s1=>∃ a d,v=.ref a∧K.In s1.heap∧nU a (.ref C) (some d) s1.heap∧E (.ref a) s1) E s):wpAny (model prog w) A (raiseStmt env (some x) none) Q E s:=by
 unfold raiseStmt;refine wpAny_bind (wpAny_mono h (fun v s1 hq=>?_) fun _ _ z=>z);obtain ⟨a,d,rfl,k,⟨vs,a0,he,h0,h1⟩,hE⟩:=hq;obtain ⟨bm,N,nm,q,bs,hdct,sn,sub,ab,col,dd,k0,k1,k2,k3,k5,mN,hC,hN,hi,TL⟩:=xi.obj k;have FB:=PySem.F.excBase_ValueError;have hcB:(Value.ref C::bm).contains (.type "BaseException")=true:=by rw [aAV,TL.hasType FB.hasBase,Bool.or_true]
 obtain ⟨hp,g,dr,tk,os⟩:=s1
 repeat (first | with_reducible refine wpAny_loadPart_at he ?_ | with_reducible refine wpAny_loadPart_at hC ?_ | (with_reducible refine wpAny_isSubtype_exc hC ?_; rw [hcB]) | wp_step)
 rw [h1];refine wpAny_pure ?_;rw [if_neg (by decide)];exact wpAny_pure (wpAny_raiseNew_none hh hE)
def Gb (C:Addr)(sp:Sp)(E:XK)(t:TA):TS:=fun _ σ H=>t σ H fun vs H1=>∀ a,H1 a=none →sp (.ref a::vs) (bQ H1 a (.ext (nU a (.ref C) none))) (fun v H2=>v=.non∧∃ d,H2 a=some (.ext (nU a (.ref C) (some d)))∧E (.ref C) (some d) (Ey H2 a)) E0
theorem Cj {x:Str}{C fI:Addr}{E:XK}{k:Nat}{fd:FuncData}{ps:List Str}{sp:Sp}{np cpos pos:Pos}{e:Expr}{es:List Expr}{t:TA}(T:zZ X E)(hc:X.calm=true)(hg:Gl X x)(hm:X.mg x=some (.ref C))(xi:yG X.K C fI)(F:bD X.prog X.w X.K X.mg X.base dW k fI fd ps sp)
  (hr:dM (k+1) X.A) (hb:Binds X.K fd ps []) (ha:PA X (e::es) t) (hps:ps.length ≤ 100:=by decide) (hd:(x==("__debug__" : Str))=false:=by decide) (he:starEach (e::es) X.env=(false,eval e X.env)::starEach es X.env:=by rfl) (hpl:(backTo cpos (starEach es X.env)).any (·.1)=false:=by rfl) :
  PS X (.Raise (some (.Call (.Name x np) (e::es) [] cpos)) none pos) (Gb C sp E t):=by
 intro pins s σ H D I h;rw [arm_exec_Raise];refine wpAny_bind (wpAny_standAt (Fp (I.ok.hd hc) xi (wpAny_bind (wpAny_mono (Q:=fun v s1=>∃ a d,v=.ref a∧X.K.In s1.heap∧nU a (.ref C) (some d) s1.heap∧X.xe (.ref a) s1) (wpAny_Call_Name_kw (gY I hg hm ?_ hd)) (fun v s3 h3=>wpAny_bind (wpAny_standAt (wpAny_pure h3))) fun _ _ z=>z))));refine PySem.W.callWith_K (h₀:=X.base) I.ok.mod.kin xi.kp (cN (ha cpos pins s σ H _ I h) fun us s1 ⟨vs,H1,I1,r,q⟩=>⟨I1.kIn,?_⟩) he hpl;have hl:(vs.length+1)=ps.length:=by
  have z:=F.len _ _ _ _ (q s1.heap.objs.size (I1.hok.fresh (YD _)));exact z
 have hu:=r.length;obtain ⟨hh,g,dr,tk,os⟩:=s1;refine Bk I1.kIn xi (by show us.length ≤ _; rw [sizeLine_eq]; omega) fun h' a mk ge=>?_;have I2:=I1.madeX mk ge;have na:X.s₀.heap.get? a=none:=by
  cases z:X.s₀.heap.get? a with
  | none=>rfl
  | some o =>
   obtain ⟨m,⟨oL,_,_,hoL,_⟩,_⟩:=id I1.loc;have z1:=YG z;have z2:=YG hoL;have z3:=I1.ok.above;have ge:hh.objs.size ≤ a:=ge;exact absurd (YS (YS z1 z3) (Y5 (ZP z2) ge)) (Yz _)
 have r2:bM (V.ref a::vs) (Value.ref a::us):=.cons rfl r;have hq:=q a (I1.hok.fresh ge);refine wpAny_call (codeAny_mono (F.run _ X.stack _ _ ⟨Value.ref a::us,[]⟩ (Value.ref a::us) _ _ E0 (hr.make C us []) (I2.env0.make C us []) (by have:=hb ⟨h',g,dr,tk,os⟩ (Value.ref a::us) I2.kIn (by rw [Yy,Y_]; omega); rw [Yy] at this; exact this) r2 hq) fun rr s' hq'=>?_);cases rr with
 | error e=>exact False.elim hq'
 | ok fl =>
  cases fl with
  | ret u =>
   obtain ⟨v,H',I3,rv,ev,d,hd',hE⟩:=I2.after hq';subst ev;exact ⟨rv,a,d,rfl,I3.kIn,(show bY X.prog X.w H' s'.heap a (.ext (nU a (.ref C) (some d))) from I3.hok a _ hd').1,T pins σ H' s' a d _ I3 hd' na hE⟩
  | next=>exact False.elim hq'
  | brk=>exact False.elim hq'
  | cont=>exact False.elim hq'
variable {o e value:Expr}{f:Str}{pos pos':Pos}{ta tv:TE}
def QM (K:Frag)(ta tv:TE)(f:Str):TS:=fun D σ H=>tv σ H fun y H1=>ta σ H1 fun x H2=>∃ a C,x=.ref a∧H2 a=some (.ext (nU a (.ref C) none))∧Fz K C∧cX K C f∧∀ d,H2 d=none →D.nx σ (bQ (bQ H2 d (.ext (XD d [(f,y)]))) a (.ext (nU a (.ref C) (some d))))
def Pj (K:Frag)(ta tv:TE)(f:Str):TS:=fun D σ H=>tv σ H fun y H1=>ta σ H1 fun x H2=>∃ a C d fs,x=.ref a∧H2 a=some (.ext (nU a (.ref C) (some d)))∧H2 d=some (.ext (XD d fs))∧d≠a∧fs.length<1000∧Fz K C∧cX K C f∧D.nx σ (bQ H2 d (.ext (XD d (iJ f y fs))))
theorem JG (ha:PE X o ta)(hv:PE X value tv)(hs:swapsWith value (some (.Attribute o f pos')) pos.line X.env=pure false):PS X (.Assign [.Attribute o f pos'] value pos) (QM X.K ta tv f):=by
 intro pins s σ H D I h;refine plainObj_wpAny_Assign_Attribute (cN (hv pins s σ H _ I h) fun u s1 ⟨y,H1,I1,ry,q⟩=>cN (ha pins s1 σ H1 _ I1 q) fun ov s2 ⟨x,H2,I2,rx,a,C,ex,ea,xf,n,q2⟩=>?_) hs;subst ex;obtain rfl:ov=Value.ref a:=rx;exact Dc I2 ea xf n ry fun d s3 hd I3=>⟨σ,_,I3,q2 d hd⟩
theorem JN (ha:PE X o ta)(hv:PE X value tv)(hs:swapsWith value (some (.Attribute o f pos')) pos.line X.env=pure false):PS X (.Assign [.Attribute o f pos'] value pos) (Pj X.K ta tv f):=by
 intro pins s σ H D I h;refine plainObj_wpAny_Assign_Attribute (cN (hv pins s σ H _ I h) fun u s1 ⟨y,H1,I1,ry,q⟩=>cN (ha pins s1 σ H1 _ I1 q) fun ov s2 ⟨x,H2,I2,rx,a,C,d,fs,ex,ea,ed,ne,l,xf,n,q2⟩=>?_) hs;subst ex;obtain rfl:ov=Value.ref a:=rx;exact Bo I2 ea ed ne l xf n ry fun s3 I3=>⟨σ,_,I3,q2⟩
def Uq (K:Frag)(ta:TE)(f:Str):TE:=fun σ H Q=>ta σ H fun x H1=>∃ a C d fs v,x=.ref a∧H1 a=some (.ext (yN a (.ref C) d))∧H1 d=some (.ext (XD d fs))∧O1 K C∧Fz K C∧cX K C f∧fs.lookup f=some v∧Q v H1
theorem Ho (he:PE X e ta)(hb:attributeBase e f X.env (eval e X.env)=eval e X.env):PE X (.Attribute e f pos) (Uq X.K ta f):=by
 intro pins s σ H Q I h;refine Af hb (cN (he pins s σ H _ I h) fun u s1 ⟨x,H1,I1,rx,a,C,d,fs,v,ex,ea,ed,xt,xf,n,l,q⟩=>?_);subst ex;obtain rfl:u=Value.ref a:=rx;exact Hc I1 ea ed xt xf n l fun u' s2 I2 ru=>⟨v,H1,I2,ru,q⟩
end
end L2
namespace TP
open PySem L2 TD
open Builtin.Int (intBits)
def fM {α:Type}(f:Nat →Option α):Nat →Option α
 | 0=>none
 | i+1=>match fM f i with
  | some x=>some x
  | none=>f i
theorem fG {α:Type}{f:Nat →Option α}{i:Nat}(h:fM f i=none)(e:f i=none):fM f (i+1)=none:=by
 show (match fM f i with | some x=>some x | none=>f i)=none;rw [h];exact e
theorem fC {α:Type}{f:Nat →Option α}{x:α}{i:Nat}(h:fM f i=none)(e:f i=some x):∀ n,i<n →fM f n=some x
 | 0,l=>absurd l (aAH _)
 | n+1,l=>by
  show (match fM f n with | some x=>some x | none=>f n)=some x
  by_cases z:n=i
  ·subst z;rw [h];exact e
  ·rw [fC h e n (by omega)]
theorem gM {α:Type}{f:Nat →Option α}:∀ n,fM f n=none →∀ i,i<n →f i=none
 | 0,_,i,l=>absurd l (aAH _)
 | n+1,h,i,l=>by
  have h:(match fM f n with | some x=>some x | none=>f n)=none:=h;cases e:fM f n with
  | some x=>rw [e] at h; cases h
  | none =>
   rw [e] at h
   by_cases z:i=n
   ·subst z; exact h
   ·exact gM n e i (by omega)
theorem jT {α:Type}{f:Nat →Option α}{x:α}:∀ n,fM f n=some x →∃ i,i<n∧f i=some x
 | 0,h=>nomatch h
 | n+1,h=>by
  have h:(match fM f n with | some x=>some x | none=>f n)=some x:=h;cases e:fM f n with
  | some y =>
   rw [e] at h;cases h;obtain ⟨i,l,q⟩:=jT n e;exact ⟨i,by omega,q⟩
  | none=>rw [e] at h; exact ⟨n,by omega,h⟩
def oG (bs:List Bool)(o j:Nat):Option (Int×Int):=if bs.getD (0+(o:Int)).toNat false=true∧bs.getD (0+(o:Int)-1*2^((dD (0+(o:Int))).getD j 0).toNat).toNat false=false then some (0+(o:Int),0+(o:Int)-1*2^((dD (0+(o:Int))).getD j 0).toNat) else none
def Dj (bs:List Bool)(o:Nat):Option (Int×Int):=fM (oG bs o) (dD (0+(o:Int))).length
def kO (bs:List Bool):Option (Int×Int):=fM (Dj bs) bs.length
def Ab:Sp:=fun vs H Q _=>∃ (a:Addr) (bs:List Bool),vs=[.ref a]∧H a=some (.lst (Bs bs))∧bs.length ≤ 64∧(kO bs=none →∀ H',bB H H' →Q .non H') ∧
 ∀ o e,kO bs=some (o,e) →∀ (r:Addr) (H':Hp),bB H H' →H' r=some (.tup [.str "less",.int o,.int e]) →Q (.ref r) H'
def oN (bs:List Bool)(s j l:Nat):Option (Int×Int):=if (qI bs ((dX bs bs.length (s+1)).getD l 0) ((dX bs bs.length s).getD j 0)).any id=false then some ((dX bs bs.length (s+1)).getD l 0,(dX bs bs.length s).getD j 0) else none
def Fi (bs:List Bool)(s j:Nat):Option (Int×Int):=fM (oN bs s j) (dX bs bs.length (s+1)).length
def DY (bs:List Bool)(s:Nat):Option (Int×Int):=fM (Fi bs s) (dX bs bs.length s).length
def oH (bs:List Bool):Option (Int×Int):=fM (DY bs) 6
def Ag:Sp:=fun vs H Q _=>∃ (a:Addr) (bs:List Bool) (m:Nat),vs=[.ref a]∧H a=some (.lst (Bs bs))∧bs.length=2^m∧m ≤ 6∧(oH bs=none →∀ H',bB H H' →Q .non H') ∧
 ∀ o e,oH bs=some (o,e) →∀ (r:Addr) (H':Hp),bB H H' →H' r=some (.tup [.str "more",.int o,.int e]) →Q (.ref r) H'
def sS (bs:List Bool):Option (Str×Int×Int):=if bs.getD 0 false=false then some ("empty",0,0) else match kO bs with
 | some p=>some ("less",p)
 | none=>(oH bs).map fun p=>("more",p)
def jB (S:Sk)(m:Nat):Option (Str×Int×Int):=sS (bZ S (2^m))
section
variable (p:vM)
def uU:Sp:=fun vs H Q _=>∃ (x:Addr) (S:Sk) (m:Nat),vs=[.ref x,.int (m:Int)]∧lK p H x S∧sY S∧1 ≤ m∧m ≤ 6∧(jB S m=none →∀ H',bB H H' →Q .non H') ∧
 ∀ st o e,jB S m=some (st,o,e) →∀ (r:Addr) (H':Hp),bB H H' →H' r=some (.tup [.str st,.int o,.int e]) →Q (.ref r) H'
end
end TP
namespace TP
open PySem L2 TD
structure Jr (K:PySem.W.Frag)(p:vM):Prop where
 all:∀ T∈["NoneType","int","str","list","tuple","bool"],PySem.W.kitOne K (.type T) (.ref p.f)=some false∧PySem.W.kitOne K (.type T) (.ref p.g)=some false∧PySem.W.kitOne K (.type T) (.ref p.l)=some false
inductive Gv (p:vM)(K:PySem.W.Frag)(H:Hp):V →Bool →Prop where
 | yes {x:Addr}{S:Sk} (h:lK p H x S):Gv p K H (.ref x) true
 | no {v:V}{T:String} (h:jW K H v (.type T)) (ht:T∈["NoneType","int","str","list","tuple","bool"]):Gv p K H v false
section
variable (p:vM)(K:PySem.W.Frag)(N NP:Addr)
def Dh:Sp:=fun vs H Q _=>∃ (v:V) (b:Bool),vs=[v]∧Gv p K H v b∧Q (.bl b) H
def Nb (H:Hp)(d:Addr)(o e:Int):Prop:=H d=some (.ext (XD d [("one",.int o),("other",.int e)]))
def Mz:Sp:=fun vs H Q E=>∃ (v:V) (m:Nat),vs=[v,.int (m:Int)]∧((Gv p K H v false∧E (.ref N) none H)∨∃ (x:Addr) (S:Sk),v=.ref x∧lK p H x S∧sY S∧1 ≤ m∧m ≤ 6∧(jB S m=none →∀ H',bB H H' →Q .non H') ∧
 ∀ st o e,jB S m=some (st,o,e) →∀ (d:Addr) (H':Hp),bB H H' →Nb H' d o e →E (.ref NP) (some d) H')
def Hr:Sp:=fun vs H Q _=>∃ (a:Addr) (o e:Int),vs=[.ref a,.int o,.int e]∧H a=some (.ext (nU a (.ref NP) none))∧∀ d H',H d=none →d≠a →(∀ b u,b≠a →H b=some u →H' b=some u) →H' a=some (.ext (nU a (.ref NP) (some d))) →Nb H' d o e →Q .non H'
end
theorem Jr.of {K:PySem.W.Frag}{p:vM}(h:(["NoneType","int","str","list","tuple","bool"].map fun T=>(PySem.W.kitOne K (.type T) (.ref p.f),PySem.W.kitOne K (.type T) (.ref p.g),PySem.W.kitOne K (.type T) (.ref p.l)))=["NoneType","int","str","list","tuple","bool"].map fun _=>(some false,some false,some false)):Jr K p:=⟨fun T hT=>by
 obtain ⟨i,hi⟩:=List.getElem?_of_mem hT;have z:(["NoneType","int","str","list","tuple","bool"].map fun T=>(PySem.W.kitOne K (.type T) (.ref p.f),PySem.W.kitOne K (.type T) (.ref p.g),PySem.W.kitOne K (.type T) (.ref p.l)))[i]? = (["NoneType","int","str","list","tuple","bool"].map fun (_:String)=>((some false:Option Bool),(some false:Option Bool),(some false:Option Bool)))[i]?:=by rw [h]
 rw [Y7,Y7,hi] at z
 simpa using z⟩
end TP
namespace L2
open PySem PySem.Spec PyProof.Rows
section
variable {prog:Program}{w:World}{A:Around}{E:Value →Shared →Prop}{s:Shared}{a₀:Array PyProof.Rows.Keyed}
theorem Cy {st:SortSt}{m:Nat}{Q:Option Nat →SortSt →Prop}(h0:IntKeys a₀)(hn:m ≤ a₀.size)(h2:2 ≤ m)(hB:SBase a₀ st)(hs:∀ i j,i<j →j<m →K (arrOf st) j<K (arrOf st) i)(h:∀ st',SBase a₀ st' →SortedTo (arrOf st') m →Q (some m) st') :
  wpS (model prog w) A E s (countRun' 0 m) Q st:=by
 rw [countRun0_eq];refine wpS_bind (wpS_ascLoop h0 hn (YD 1) (by omega) hB (fun i j hij hj=>by have:i=j:=(by omega); subst this; exact Z0 _) fun n n1 n2 hsn _=>?_);have e:n=1:=by
  by_cases z:2 ≤ n
  ·have a:=hsn 0 1 (by omega) (by omega);have b:=hs 0 1 (by omega) (by omega);omega
  ·omega
 subst e;dsimp only;rw [if_neg (by simp; omega),if_neg (by omega)];unfold descPart;refine wpS_bind (wpS_lift (wpAny_rule ⟨rfl,?_⟩));have loop:wpS (model prog w) A E s (descLoop (1+1) m) (fun c st'=>c=(none,m,0)∧st'=st) st:=by
  unfold descLoop;refine wpS_forRange (I:=fun x c st'=>c=(none,x,0)∧st'=st) ?step ?fin ⟨rfl,rfl⟩
  case fin =>
   rintro c st' ⟨rfl,rfl⟩;rw [show max (1+1) m=m by omega];exact ⟨rfl,rfl⟩
  case step =>
   rintro x c st' hax hxn ⟨rfl,rfl⟩;dsimp only;refine wpS_bind (wpS_ltK hB h0 (by omega) (by omega) ?_);have hless:=hs (x-1) x (by omega) hxn;simp only [hless,decide_true,if_true];rw [if_neg (by omega)];exact wpS_pure ⟨rfl,rfl⟩
 refine wpS_bind (wpS_mono loop ?_);rintro c st' ⟨rfl,rfl⟩;dsimp only;rw [if_neg (by omega)];unfold tail3;have hsz:m ≤ (arrOf st').size:=by rw [hB.size]; omega
 refine wpS_bind (wpS_reverse ?_);have hB':SBase a₀ (setArr st' (mirror (arrOf st') 0 m ((m-0)/2))):=hB.setArr (mirror_perm _ _ _ _);have so:SortedTo (arrOf (setArr st' (mirror (arrOf st') 0 m ((m-0)/2)))) m:=by
  intro i j hij hj;show K (mirror (arrOf st') 0 m ((m-0)/2)) i ≤ K (mirror (arrOf st') 0 m ((m-0)/2)) j;rw [K_mirror hsz,K_mirror hsz,if_pos (by omega),if_pos (by omega)]
  by_cases e:i=j
  ·subst e; exact Z0 _
  ·exact Yw (hs _ _ (by omega) (by omega))
 refine wpS_bind (wpS_ascLoop h0 hn (by omega) (YD m) hB' so fun k k1 k2 _ _=>?_);obtain rfl:k=m:=by omega
 exact wpS_pure (h _ hB' so)
theorem Hb {st:SortSt}{Q:Unit →SortSt →Prop}(h0:IntKeys a₀)(hB:SBase a₀ st)(h64:a₀.size=64)(hs:∀ i j,i<j →j<a₀.size →K (arrOf st) j<K (arrOf st) i)
  (h:∀ st',(arrOf st').Perm a₀ →failedOf st'=none →SortedTo (arrOf st') a₀.size →Q () st'):wpS (model prog w) A E s sortRuns' Q st:=by
 rw [sortRuns'_eq];refine wpS_bind (wpS_get ?_);have hm:minRun' 64 64 0=32:=by decide
 simp only [hB.size,h64,hm];rw [h64] at hs;refine wpS_bind (wpS_mono (wpS_forRange (I:=fun x c st'=>(x=0∧c=(none,0)∧st'=st)∨(1 ≤ x∧c=(none,64)∧∃ s2,SBase a₀ s2∧SortedTo (arrOf s2) 64∧st'=setPending s2 ((pendingOf s2).push (0,64,0)))) (Q:=fun c st'=>c=(none,64)∧∃ s2,SBase a₀ s2∧SortedTo (arrOf s2) 64∧st'=setPending s2 ((pendingOf s2).push (0,64,0))) ?step ?fin (.inl ⟨rfl,rfl,rfl⟩)) ?post)
 case fin =>
  rintro c st' (⟨hx,_,_⟩ | ⟨_,hc,hD⟩)
  ·omega
  ·exact ⟨hc,hD⟩
 case step =>
  rintro x c st' _ hx (⟨rfl,rfl,rfl⟩ | ⟨hx1,rfl,hD⟩)
  ·dsimp only;rw [if_neg (by omega)];simp only [Nat.sub_zero,aAp];refine wpS_bind (Cy h0 (by omega) (by decide) hB hs fun s2 hB2 hs2=>?_);dsimp only;rw [if_neg (by decide)];refine wpS_bind (wpS_get ?_);rw [show (pendingOf s2).back? = none by rw [hB2.pend]; rfl];dsimp only;exact wpS_bind (wpS_modify (wpS_pure (.inr ⟨by omega,rfl,s2,hB2,hs2,rfl⟩)))
  ·dsimp only;rw [if_pos (YD _)];exact wpS_pure ⟨rfl,hD⟩
 case post =>
  rintro c st' ⟨rfl,s2,hB2,hs2,rfl⟩;dsimp only;refine wpS_bind (wpS_mono (wpS_forRange (I:=fun _ c st''=>st''=setPending s2 ((pendingOf s2).push (0,64,0))∧c=(none,())) (Q:=fun c st''=>st''=setPending s2 ((pendingOf s2).push (0,64,0))∧c=(none,())) ?_ (fun _ _ hh=>hh) ⟨rfl,rfl⟩) ?_)
  ·rintro x c st'' _ _ ⟨rfl,rfl⟩;refine wpS_bind (wpS_get ?_);rw [if_pos (by show ((pendingOf s2).push (0,64,0)).size ≤ 1; rw [hB2.pend]; exact YD 1)];exact wpS_pure ⟨rfl,rfl⟩
  ·rintro c st'' ⟨rfl,rfl⟩;exact wpS_pure (h _ hB2.perm hB2.failed (by rw [h64]; exact hs2))
theorem qW {vs:List Value}{ns:List Int}(hI:IntsAre vs ns)(hs:ns.Pairwise (· > ·)):∀ i j,i<j →j<(pairsOf vs).size →K (pairsOf vs) j<K (pairsOf vs) i:=by
 intro i j hij hj;have hi:i<(pairsOf vs).size:=by omega
 have hn:=hI.nums;have kk:∀ (k:Nat) (hk:k<(pairsOf vs).size),K (pairsOf vs) k=ns[k]'(by rw [← hn,YH]; rw [pairsOf_size] at hk; exact hk):=fun k hk=>by
  rw [K_eq hk];simp only [pairsOf,Array.getElem_zip,Yi];have e:ns[k]'(by rw [← hn,YH]; rw [pairsOf_size] at hk; exact hk)=(vs.map numOf)[k]'(by rw [YH]; rw [pairsOf_size] at hk; exact hk):=by simp only [hn]
  rw [e,List.getElem_map]
 rw [kk i hi,kk j hj];exact Yn.mp hs i j _ _ hij
theorem GJ {a:Addr}{vs:List Value}{ns:List Int}{n:Nat}{P:PySem.Fin →Shared →Prop}(ho:s.heap.get? a=some (seqObj "list" vs.toArray n))(hI:IntsAre vs ns)(h64:vs.length=64)(hs:ns.Pairwise (· > ·))
  (h:∀ (out:Array Value) (ns':List Int),IntsAre out.toList ns' →ns'.Perm ns →ns'.Pairwise (· ≤ ·) →P (.done (.ret .none)) { s with heap:=sortedHeap s.heap a vs out }) :
  wpAny (model prog w) A (Builtin.«list.sort» ⟨[.ref a],[]⟩) P E s:=by
 rw [list_sort_plain];have ha:a<s.heap.objs.size:=YG ho;have hl:vs.toArray.size=64:=by simpa using h64
 refine wpAny_bind (listItems_at ho rfl (wpAny_bind (listUpdate_at ho rfl ?_ (by rw [hl,sizeLine_eq]; decide) (Ym _))));obtain ⟨e1,ho1⟩:∃ e1,(s.heap.update a (Obj.mapSeq fun _=>#[])).get? a=some (seqObj "list" #[] e1):=⟨_,get?_update_seq ho (fun _=>#[])⟩
 refine wpAny_bind (seqEpoch_at ho1 rfl (wpAny_bind (wpAny_newTuple (wpAny_bind (wpAny_newList (wpAny_holding ?_))) (by rw [show vs.toArray.toList=vs from rfl,h64,sizeLine_eq]; decide))));have ho6:(((s.heap.update a (Obj.mapSeq fun _=>#[])).push (seqObj "tuple" vs.toArray 0)).push (seqObj "list" #[] 0)).get? a=some (seqObj "list" #[] e1):=YB _ (YB _ ho1);show wpAny (model prog w) A _ P E { s with heap:=((s.heap.update a (Obj.mapSeq fun _=>#[])).push (seqObj "tuple" vs.toArray 0)).push (seqObj "list" #[] 0) };dsimp only;rw [if_neg (by rw [hl]; decide),if_neg (by rw [hl]; decide)];obtain ⟨v1,v2,rest,rfl⟩:∃ v1 v2 rest,vs=v1::v2::rest:=by
  match vs,h64 with
  | v1::v2::rest,_=>exact ⟨v1,v2,rest,rfl⟩
 rw [keyKind_ints hI];refine wpAny_bind (wpAny_pure ?_);refine wpAny_bind (wpAny_mono (Hb (a₀:=pairsOf (v1::v2::rest)) (st:=SortSt.mk' oneType' ((v1::v2::rest).toArray.zip (v1::v2::rest).toArray) #[] 7 none)
  (Q:=fun _ st'=>(arrOf st').Perm (pairsOf (v1::v2::rest))∧failedOf st'=none∧SortedTo (arrOf st') (pairsOf (v1::v2::rest)).size)
  hI.intKeys ⟨Array.Perm.refl _,rfl,rfl,rfl⟩ (by rw [pairsOf_size]; exact h64) (qW hI hs) fun st' a1 a2 a3=>⟨a1,a2,a3⟩) ?_ fun _ _ e=>e)
 rintro ⟨⟨⟩,st'⟩ s' ⟨rfl,hp,hf,hso⟩;dsimp only;refine wpAny_bind (seqEpoch_at ho6 rfl (wpAny_bind (listUpdate_at ho6 rfl ?_ (Ym _) (Y5 (aAD ((Array.size_map ..).trans (hp.size_eq.trans ((pairsOf_size _).trans h64)))) (by rw [sizeLine_eq]; decide)))));rw [hf];simp only [bne_self_eq_false,YZ,if_false];obtain ⟨ns',b1,b2,b3⟩:=sorted_out hI hp hso;exact wpAny_pure (h _ ns' b1 b2 b3)
end
section
variable {X:Cx}
def xT (ns:List Int):Prop:=ns.length<64∨(ns.length=64∧ns.Pairwise (· > ·))
theorem rG:cU X (.builtin "sorted") (fun xs H Q=>∃ (p:Addr) (ns:List Int),xs=[.ref p]∧(bL X.K H p (ns.map V.int)∨dG X.K H p (ns.map V.int))∧xT ns ∧
  ∀ (l:Addr) (ms:List Int),H l=none →ms.Perm ns →ms.Pairwise (· ≤ ·) →Q (.ref l) (bQ H l (.lst (ms.map V.int)))):=by
 intro pins s σ H xs us Q I r h;obtain ⟨p,ns,rfl,hq,h64,q⟩:=h;obtain ⟨u,rfl,ru⟩:=vals1 r;cases (show u=Value.ref p from ru);obtain ⟨T,hT,o,its,n,ho,hc,hd,rv,hz⟩:∃ T,(T = "list"∨T = "tuple")∧∃ (o:Obj) (its:List Value) (n:Nat),s.heap.get? p=some o∧o.cls=.type T∧o.data=.seq its.toArray n∧bM (ns.map V.int) its∧(ns.map V.int).length ≤ sizeLine:=by
  rcases hq with hq | hq
  ·obtain ⟨its,rv,pl,hz⟩:=I.list hq;obtain ⟨o,ho,hc,n,hd⟩:=pl.isList;exact ⟨"list",.inl rfl,o,its,n,ho,hc,hd,rv,hz⟩
  ·obtain ⟨its,rv,pl,hz⟩:=I.tuple hq;obtain ⟨o,ho,hc,n,hd⟩:=pl;exact ⟨"tuple",.inr rfl,o,its,n,ho,hc,hd,rv,hz⟩
 have hlen:=rv.length;have hi:=intsAre_of rv;have hln:its.length=ns.length:=hi.length;refine Calls.call_function_entry kind_sorted plain_sorted entry_sorted (args_sorted1 _) ?_;unfold Builtin.«sorted»;refine wpAny_bind (m:=checkCount "sorted" 1 1 _) (wpAny_pure ?_);refine wpAny_bind (wL hT ho hc hd (by omega) fun h' kp=>?_);refine wpAny_bind (wpAny_newList ?_ (by omega));have hoL:(h'.push (seqObj "list" its.toArray 0)).get? h'.objs.size=some (seqObj "list" its.toArray 0):=YL _ rfl;have fin:∀ (out:Array Value) (ns':List Int),IntsAre out.toList ns' →ns'.Perm ns →ns'.Pairwise (· ≤ ·) →EP X pins σ Q (.ref h'.objs.size) { s with heap:=sortedHeap (h'.push (seqObj "list" its.toArray 0)) h'.objs.size its out }:=fun out ns' a1 a2 a3=>by
  have I1:aU X pins σ H { s with heap:=h' }:=I.kept (t':=s.toks) kp;obtain ⟨ep2,eo⟩:=sortedHeap_at (out:=out) hoL;have hlo:out.toList.length=ns'.length:=a1.length;have hl2:ns'.length=ns.length:=a2.length_eq;refine ⟨.ref h'.objs.size,bQ H h'.objs.size (.lst (ns'.map V.int)),I1.laid (t':=s.toks) (fun b u q=>?_) (YD _) ⟨by rw [YH]; omega,out.toList,ep2,jU a1,by rw [aAk]; exact eo⟩,rfl,q _ _ (I1.hok.fresh (YD _)) a2 a3⟩;rw [sortedHeap_old (YW (YG q)) (by rw [ZX]; exact aAa (YG q))];exact YB _ q
 rcases h64 with h64 | ⟨h64,hs⟩
 ·refine wpAny_bind (wpAny_holding (wpAny_call_entry slot_list_sort ⟨_,hoL,rfl⟩ entry_list_sort (list_sort_tree hoL hi (by omega) fun out ns' a1 a2 a3=>⟨_,rfl,?_⟩) (args_list_sort _)));exact wpAny_pure ⟨_,rfl,fin out ns' a1 a2 a3⟩
 ·refine wpAny_bind (wpAny_holding (wpAny_call_entry slot_list_sort ⟨_,hoL,rfl⟩ entry_list_sort (GJ hoL hi (by omega) hs fun out ns' a1 a2 a3=>⟨_,rfl,?_⟩) (args_list_sort _)));exact wpAny_pure ⟨_,rfl,fin out ns' a1 a2 a3⟩
end
end L2
namespace L2
open PySem
theorem p7 {X:Cx}{K:PySem.W.Frag}(hK:X.K=K):cU X (.builtin "sorted") (fun xs H Q=>∃ (p:Addr) (ns:List Int),xs=[.ref p]∧(bL K H p (ns.map V.int)∨dG K H p (ns.map V.int))∧xT ns ∧
  ∀ (l:Addr) (ms:List Int),H l=none →ms.Perm ns →ms.Pairwise (· ≤ ·) →Q (.ref l) (bQ H l (.lst (ms.map V.int)))):=by subst hK; exact rG
end L2
namespace TP
open PySem L2 TD
structure HR (ks:List Int):Prop where
 l1:1 ≤ ks.length
 few:xT ks
 nd:ks.Nodup
 k:∀ k∈ks,0 ≤ k∧k ≤ 63
theorem HR.l64 {ks:List Int}(g:HR ks):ks.length ≤ 64:=by rcases g.few with h | h <;> omega
def Er (C:Addr):Sp:=fun vs H Q _=>∃ (x dx a:Addr) (ks:List Int),vs=[.ref x,.ref a]∧H x=some (.ins C dx [])∧H a=some (.lst (Is ks))∧HR ks ∧
 ∀ k ms H',bB H H' →ms.Perm ks →ms.Pairwise (· ≤ ·) →H' k=some (.tup (Is ms)) →Q .non (bQ H' x (.ins C dx [("sets",.ref k)]))
end TP
namespace Mg
open PySem PyProof.Rows
def c7:Bool →Keyed →Array Keyed →Nat →Nat →Nat →StateT SortSt Sem (Option Nat):=sortPriv% PySem.Builtin.gallop
def lQ:Array Keyed →Array Keyed →StateT SortSt Sem (Array Keyed):=sortPriv% PySem.Builtin.mergeLo
def mG:Array Keyed →Array Keyed →StateT SortSt Sem (Array Keyed):=sortPriv% PySem.Builtin.mergeHi
def iB (left:Bool)(key:Keyed)(arr:Array Keyed)(base i:Nat):StateT SortSt Sem (Option Bool):=do
  let x ← elem' arr (base+i)
  if left then lt' x key else return (← lt' key x).map (!·)
def Gf (left:Bool)(key:Keyed)(arr:Array Keyed)(base n lo0 hi0:Nat):StateT SortSt Sem (Option Nat):=do
 let mut lo:=lo0
 let mut hi:=hi0
 for _ in [0:n] do
  if lo ≥ hi then break
  let m:=lo+(hi-lo)/2
  let some more ← iB left key arr base m | return none
  if more then lo:=m+1 else hi:=m
 return some hi
theorem yU (left:Bool)(key:Keyed)(arr:Array Keyed)(base n hint:Nat):c7 left key arr base n hint=(do
 let mut lastofs:=0
 let mut ofs:=1
 let some right ← iB left key arr base hint | return none
 if right then
  let maxofs:=n-hint
  for _ in [0:n] do
   if ofs ≥ maxofs then break
   let some more ← iB left key arr base (hint+ofs) | return none
   if !more then break
   lastofs:=ofs
   ofs:=2*ofs+1
  Gf left key arr base n (hint+lastofs+1) (hint+min ofs maxofs)
 else
  let maxofs:=hint+1
  for _ in [0:n] do
   if ofs ≥ maxofs then break
   let some found ← iB left key arr base (hint-ofs) | return none
   if found then break
   lastofs:=ofs
   ofs:=2*ofs+1
  Gf left key arr base n (hint+1-min ofs maxofs) (hint-lastofs)):=rfl
def ky (p:Keyed):Int:=numOf p.1
def Cr (p:Keyed):Prop:=∃ n t,p.1=.int n t
section
variable {prog:Program}{w:World}{A:Around}{E:Value →Shared →Prop}{s:Shared}
theorem uJ {st:SortSt}{p q:Keyed}{Q:Option Bool →SortSt →Prop}(hk:kindOf st=oneType')(hp:Cr p)(hq:Cr q)(h:Q (some (decide (ky p<ky q))) st):wpS (model prog w) A E s (lt' p q) Q st:=by
 obtain ⟨a,t,ea⟩:=hp;obtain ⟨b,u,eb⟩:=hq;have e1:ky p=a:=by unfold ky; rw [ea]; rfl
 have e2:ky q=b:=by unfold ky; rw [eb]; rfl
 rw [e1,e2] at h;rw [lt'_eq];refine wpS_bind (wpS_get ?_);rw [hk,keyLt'_oneType,ea,eb];refine wpS_bind (wpS_lift (wpAny_attempt (oneLt_int ⟨rfl,?_⟩)));exact wpS_pure h
theorem bO {st:SortSt}{xs:Array Keyed}{i:Nat}{Q:Keyed →SortSt →Prop}(hi:i<xs.size)(h:Q xs[i] st):wpS (model prog w) A E s (elem' xs i) Q st:=by
 rw [elem'_eq,getElem?_pos xs i hi];exact wpS_pure h
def Ce (left:Bool)(k:Int)(x:Int):Bool:=if left then decide (x<k) else decide (x ≤ k)
theorem zJ {st:SortSt}{left:Bool}{key:Keyed}{xs:Array Keyed}{base i:Nat}{Q:Option Bool →SortSt →Prop}(hk:kindOf st=oneType')(hp:Cr key)(hx:∀ p∈xs,Cr p)(hi:base+i<xs.size)
  (h:Q (some (Ce left (ky key) (ky xs[base+i]))) st):wpS (model prog w) A E s (iB left key xs base i) Q st:=by
 unfold iB;refine wpS_bind (bO hi ?_);have hI:=hx _ (Yv hi);unfold Ce at h;cases left with
 | true =>
  rw [if_pos rfl] at h ⊢;exact uJ hk hI hp h
 | false =>
  simp only [YZ,if_false] at h ⊢;refine wpS_bind (uJ hk hp hI ?_);refine wpS_pure ?_;have e:Option.map (fun x=>!x) (some (decide (ky key<ky xs[base+i])))=some (decide (ky xs[base+i] ≤ ky key)):=by
   simp only [Option.map_some]
   congr 1
   by_cases z:ky key<ky xs[base+i]
   ·rw [decide_eq_true z,decide_eq_false (by omega)]; rfl
   ·rw [decide_eq_false z,decide_eq_true (by omega)]; rfl
  rw [e];exact h
theorem zL {st:SortSt}{left:Bool}{key:Keyed}{xs:Array Keyed}{base n hint:Nat}{Q:Option Nat →SortSt →Prop}(hk:kindOf st=oneType')(hp:Cr key)(hx:∀ p∈xs,Cr p)(hn:base+n ≤ xs.size)(hh:hint<n)
  (f:Nat →Bool) (hf:∀ i (hi:base+i<xs.size),i<n →f i=Ce left (ky key) (ky xs[base+i])) (dn:∀ i j,i ≤ j →j<n →f j=true →f i=true)
  (h:∀ k,k ≤ n →(∀ i,i<k →f i=true) →(∀ i,k ≤ i →i<n →f i=false) →Q (some k) st):wpS (model prog w) A E s (c7 left key xs base n hint) Q st:=by
 have by_:∀ {i:Nat}{R:Option Bool →SortSt →Prop},i<n →R (some (f i)) st →wpS (model prog w) A E s (iB left key xs base i) R st:=fun {i R} hi hr =>
  zJ hk hp hx (by omega) (by rw [← hf i (by omega) hi]; exact hr)
 have up:∀ i j,i ≤ j →j<n →f i=false →f j=false:=fun i j h1 h2 h3=>by
  cases z:f j with
  | false=>rfl
  | true=>rw [dn i j h1 h2 z] at h3; cases h3
 have fin:∀ lo hi:Nat,lo ≤ hi →hi ≤ n →(∀ i,i<lo →f i=true) →(∀ i,hi ≤ i →i<n →f i=false) →
   wpS (model prog w) A E s (Gf left key xs base n lo hi) Q st:=by
  intro lo hi h1 h2 h3 h4;unfold Gf;refine wpS_bind (wpS_mono (wpS_forRange (I:=fun x c st'=>st'=st∧∃ lo hi,c=(none,lo,hi)∧lo ≤ hi∧hi ≤ n∧hi-lo ≤ n-x∧(∀ i,i<lo →f i=true)∧(∀ i,hi ≤ i →i<n →f i=false))
   (Q:=fun c st'=>st'=st∧∃ k lo,c=(none,lo,k)∧k ≤ n∧(∀ i,i<k →f i=true)∧(∀ i,k ≤ i →i<n →f i=false)) ?step ?fin ⟨rfl,lo,hi,rfl,h1,h2,by omega,h3,h4⟩) ?post)
  case post =>
   rintro c st' ⟨rfl,k,lo,rfl,a1,a2,a3⟩;exact wpS_pure (h k a1 a2 a3)
  case fin =>
   rintro c st' ⟨rfl,lo,hi,rfl,a1,a2,a3,a4,a5⟩;have e:lo=hi:=by omega
   subst e;exact ⟨rfl,lo,lo,rfl,a2,a4,a5⟩
  case step =>
   rintro x c st' _ hx ⟨rfl,lo,hi,rfl,a1,a2,a3,a4,a5⟩;dsimp only
   by_cases z:lo ≥ hi
   ·rw [if_pos z];have e:lo=hi:=by omega
    subst e;exact wpS_pure ⟨rfl,lo,lo,rfl,a2,a4,a5⟩
   ·rw [if_neg z];refine wpS_bind (by_ (by omega) ?_);dsimp only;cases q:f (lo+(hi-lo)/2) with
    | true =>
     rw [if_pos rfl];exact wpS_pure ⟨rfl,_,_,rfl,by omega,a2,by omega,fun i hi'=>dn i _ (by omega) (by omega) q,a5⟩
    | false =>
     simp only [YZ,if_false];exact wpS_pure ⟨rfl,_,_,rfl,by omega,by omega,by omega,a4,fun i h5 h6=>up _ i h5 h6 q⟩
 rw [yU];refine wpS_bind (by_ hh ?_);dsimp only;cases q:f hint with
 | true =>
  rw [if_pos rfl];refine wpS_bind (wpS_mono (wpS_forRange (I:=fun x c st'=>st'=st∧∃ la of,c=(none,la,of)∧x+1 ≤ of∧la<of∧hint+la<n∧f (hint+la)=true)
   (Q:=fun c st'=>st'=st∧∃ la of,c=(none,la,of)∧la<of∧hint+la<n∧f (hint+la)=true∧(n-hint ≤ of∨(of<n-hint∧f (hint+of)=false))) ?step ?fin ⟨rfl,0,1,rfl,by omega,by omega,by omega,q⟩) ?post)
  case post =>
   rintro c st' ⟨rfl,la,of,rfl,a1,a2,a3,a4⟩;dsimp only;refine fin (hint+la+1) (hint+min of (n-hint)) (by omega) (by omega) (fun i hi=>dn i _ (by omega) a2 a3) fun i h1 h2=>?_;rcases a4 with a4 | ⟨a4,a5⟩
   ·omega
   ·exact up _ i (by omega) h2 a5
  case fin =>
   rintro c st' ⟨rfl,la,of,rfl,a1,a2,a3,a4⟩;exact ⟨rfl,la,of,rfl,a2,a3,a4,.inl (by omega)⟩
  case step =>
   rintro x c st' _ hx' ⟨rfl,la,of,rfl,a1,a2,a3,a4⟩;dsimp only
   by_cases z:of ≥ n-hint
   ·rw [if_pos z];exact wpS_pure ⟨rfl,la,of,rfl,a2,a3,a4,.inl z⟩
   ·rw [if_neg z];refine wpS_bind (by_ (by omega) ?_);dsimp only;cases q2:f (hint+of) with
    | true =>
     simp only [aAx,YZ,if_false];exact wpS_pure ⟨rfl,of,2*of+1,rfl,by omega,by omega,by omega,q2⟩
    | false =>
     simp only [Bool.not_false,if_true];exact wpS_pure ⟨rfl,la,of,rfl,a2,a3,a4,.inr ⟨by omega,q2⟩⟩
 | false =>
  simp only [YZ,if_false];refine wpS_bind (wpS_mono (wpS_forRange (I:=fun x c st'=>st'=st∧∃ la of,c=(none,la,of)∧x+1 ≤ of∧la<of∧la ≤ hint∧f (hint-la)=false)
   (Q:=fun c st'=>st'=st∧∃ la of,c=(none,la,of)∧la<of∧la ≤ hint∧f (hint-la)=false∧(hint+1 ≤ of∨(of<hint+1∧f (hint-of)=true))) ?step ?fin ⟨rfl,0,1,rfl,by omega,by omega,by omega,q⟩) ?post)
  case post =>
   rintro c st' ⟨rfl,la,of,rfl,a1,a2,a3,a4⟩;dsimp only;refine fin (hint+1-min of (hint+1)) (hint-la) (by omega) (by omega) (fun i hi=>?_) fun i h1 h2=>up _ i h1 h2 a3;rcases a4 with a4 | ⟨a4,a5⟩
   ·omega
   ·exact dn i _ (by omega) (by omega) a5
  case fin =>
   rintro c st' ⟨rfl,la,of,rfl,a1,a2,a3,a4⟩;exact ⟨rfl,la,of,rfl,a2,a3,a4,.inl (by omega)⟩
  case step =>
   rintro x c st' _ hx' ⟨rfl,la,of,rfl,a1,a2,a3,a4⟩;dsimp only
   by_cases z:of ≥ hint+1
   ·rw [if_pos z];exact wpS_pure ⟨rfl,la,of,rfl,a2,a3,a4,.inl z⟩
   ·rw [if_neg z];refine wpS_bind (by_ (by omega) ?_);dsimp only;cases q2:f (hint-of) with
    | false =>
     simp only [YZ,if_false];exact wpS_pure ⟨rfl,of,2*of+1,rfl,by omega,by omega,by omega,q2⟩
    | true =>
     rw [if_pos rfl];exact wpS_pure ⟨rfl,la,of,rfl,a2,a3,a4,.inr ⟨by omega,q2⟩⟩
end
def SL (l:List Keyed):Prop:=l.Pairwise fun p q=>ky p ≤ ky q
theorem nG {l m:List Keyed}:SL (l++m)↔SL l∧SL m∧∀ x∈l,∀ y∈m,ky x ≤ ky y:=Zc
theorem uL {ol xs r l:List Keyed}(h1:SL (ol++(xs++r)))(h2:SL (ol++l))(h:∀ x∈xs,∀ y∈l,ky x ≤ ky y):SL ((ol++xs)++l):=by
 rw [← YX,nG] at h1;rw [nG] at h2 ⊢;refine ⟨h1.1,h2.2.1,fun x hx y hy=>?_⟩;rcases Y9.mp hx with z | z
 ·exact h2.2.2 x z y hy
 ·exact h x z y hy
theorem vI {rl xs r l:List Keyed}(h1:SL ((r++xs)++rl))(h2:SL (l++rl))(h:∀ y∈l,∀ x∈xs,ky y ≤ ky x):SL (l++(xs++rl)):=by
 rw [YX,nG] at h1;rw [nG] at h2 ⊢;refine ⟨h2.1,h1.2.1,fun y hy x hx=>?_⟩;rcases Y9.mp hx with z | z
 ·exact h y hy x z
 ·exact h2.2.2 y hy x z
theorem eE {α:Type}(xs:Array α)(i j:Nat):(xs.extract i j).toList=(xs.toList.drop i).take (j-i):=by simp [List.extract]
theorem fV {xs:Array Keyed}{i:Nat}{x:Keyed}(h:x∈xs.toList.drop i):∃ j,∃ hj:j<xs.size,i ≤ j∧x=xs[j]:=by
 obtain ⟨k,hk,e⟩:=Ys.mp h;rw [Ze] at hk;refine ⟨i+k,?_,Nat.le_add_right _ _,?_⟩
 ·rw [YJ] at hk; omega
 ·rw [← e,Zo,Yx]
theorem m5 {xs:Array Keyed}{i k:Nat}{x:Keyed}(h:x∈(xs.toList.drop i).take k):∃ j,∃ hj:j<xs.size,i ≤ j∧j<i+k∧x=xs[j]:=by
 obtain ⟨m,hm,e⟩:=Ys.mp h;rw [ZJ,Ze,YJ] at hm;refine ⟨i+m,by omega,by omega,by omega,?_⟩;rw [← e,aAb,Zo,Yx]
theorem lH {xs:Array Keyed}{k:Nat}{x:Keyed}(h:x∈xs.toList.take k):∃ j,∃ hj:j<xs.size,j<k∧x=xs[j]:=by
 obtain ⟨m,hm,e⟩:=Ys.mp h;rw [ZJ,YJ] at hm;exact ⟨m,by omega,by omega,by rw [← e,aAb,Yx]⟩
theorem eH {xs:Array Keyed}(h:SL xs.toList){i j:Nat}(hj:j<xs.size)(hij:i ≤ j):ky (xs[i]'(by omega)) ≤ ky xs[j]:=by
 by_cases e:i=j
 ·subst e; exact Z0 _
 ·exact Yn.mp h i j (by rw [YJ]; omega) (by rw [YJ]; omega) (by omega)
structure ML (a b out:Array Keyed)(ia ib:Nat):Prop where
 pa:SL (out.toList++a.toList.drop ia)
 pb:SL (out.toList++b.toList.drop ib)
 pm:(out.toList++(a.toList.drop ia++b.toList.drop ib)).Perm (a.toList++b.toList)
def Ax (a b r:Array Keyed):Prop:=SL r.toList∧r.toList.Perm (a.toList++b.toList)
section
variable {a b out out':Array Keyed}{ia ib k:Nat}
theorem ML.mvB {ib':Nat}{xs:List Keyed}(m:ML a b out ia ib)(e:b.toList.drop ib=xs++b.toList.drop ib')(o:out'.toList=out.toList++xs)(h:∀ x∈xs,∀ y∈a.toList.drop ia,ky x ≤ ky y):ML a b out' ia ib':=by
 obtain ⟨pa,pb,pm⟩:=m;rw [e] at pb pm;refine ⟨by rw [o]; exact uL pb pa h,by rw [o,YX]; exact pb,?_⟩;rw [o];refine ZD.trans ?_ pm;rw [YX];refine ZD.append_left _ ?_;rw [← YX,← YX];exact ZD.append_right _ Zm
theorem ML.mvA {ia':Nat}{xs:List Keyed}(m:ML a b out ia ib)(e:a.toList.drop ia=xs++a.toList.drop ia')(o:out'.toList=out.toList++xs)(h:∀ x∈xs,∀ y∈b.toList.drop ib,ky x ≤ ky y):ML a b out' ia' ib:=by
 obtain ⟨pa,pb,pm⟩:=m;rw [e] at pa pm;refine ⟨by rw [o,YX]; exact pa,by rw [o]; exact uL pa pb h,?_⟩;rw [o];refine ZD.trans ?_ pm;rw [YX,YX]
theorem wY {xs:Array Keyed}{i:Nat}(h:i<xs.size):xs.toList.drop i=[xs[i]]++xs.toList.drop (i+1):=by
 rw [List.drop_eq_getElem_cons (by rw [YJ]; exact h),Yx]; rfl
theorem rQ {xs:Array Keyed}{i k:Nat}:xs.toList.drop i=(xs.toList.drop i).take k++xs.toList.drop (i+k):=by
 conv=>lhs; rw [← Zn k (xs.toList.drop i)]
 rw [aAM]
theorem ML.pushB (m:ML a b out ia ib)(hb:ib<b.size)(h:∀ j (hj:j<a.size),ia ≤ j →ky b[ib] ≤ ky a[j]):ML a b (out.push b[ib]) ia (ib+1) :=
 m.mvB (wY hb) (by simp) fun x hx y hy=>by
  rw [YK.mp hx];obtain ⟨j,hj,h1,rfl⟩:=fV hy;exact h j hj h1
theorem ML.pushA (m:ML a b out ia ib)(ha:ia<a.size)(h:∀ j (hj:j<b.size),ib ≤ j →ky a[ia] ≤ ky b[j]):ML a b (out.push a[ia]) (ia+1) ib :=
 m.mvA (wY ha) (by simp) fun x hx y hy=>by
  rw [YK.mp hx];obtain ⟨j,hj,h1,rfl⟩:=fV hy;exact h j hj h1
theorem ML.bulkB (m:ML a b out ia ib)(h:∀ i (hi:i<b.size) j (hj:j<a.size),ib ≤ i →i<ib+k →ia ≤ j →ky b[i] ≤ ky a[j]):ML a b (out++b.extract ib (ib+k)) ia (ib+k) :=
 m.mvB (rQ (k:=k)) (by rw [Yp,eE,show ib+k-ib=k by omega]) fun x hx y hy=>by
  obtain ⟨j,hj,h1,rfl⟩:=fV hy;obtain ⟨i,hi,h2,h3,rfl⟩:=m5 hx;exact h i hi j hj h2 h3 h1
theorem ML.bulkA (m:ML a b out ia ib)(h:∀ i (hi:i<a.size) j (hj:j<b.size),ia ≤ i →i<ia+k →ib ≤ j →ky a[i] ≤ ky b[j]):ML a b (out++a.extract ia (ia+k)) (ia+k) ib :=
 m.mvA (rQ (k:=k)) (by rw [Yp,eE,show ia+k-ia=k by omega]) fun x hx y hy=>by
  obtain ⟨j,hj,h1,rfl⟩:=fV hy;obtain ⟨i,hi,h2,h3,rfl⟩:=m5 hx;exact h i hi j hj h2 h3 h1
theorem vA {xs:Array Keyed}{i:Nat}:(xs.extract i xs.size).toList=xs.toList.drop i:=by
 rw [eE,aAc];rw [Ze,YJ]; exact YD _
theorem ML.done (m:ML a b out ia ib)(h:ia=a.size∨ib=b.size):Ax a b (out++a.extract ia a.size++b.extract ib b.size):=by
 unfold Ax;rw [Yp,Yp,vA,vA,YX];refine ⟨?_,m.pm⟩;rcases h with h | h
 ·rw [aAF (by rw [YJ]; omega),aAI]; exact m.pb
 ·rw [aAF (as:=b.toList) (by rw [YJ]; omega),Yy]; exact m.pa
theorem ML.lastA (m:ML a b out ia ib)(h:∀ i (hi:i<a.size) j (hj:j<b.size),ia ≤ i →ky b[j] ≤ ky a[i]):Ax a b (out++b.extract ib b.size++a.extract ia a.size):=by
 unfold Ax;rw [Yp,Yp,vA,vA];refine ⟨uL (r:=[]) (by rw [Yy]; exact m.pb) m.pa fun x hx y hy=>?_,?_⟩
 ·obtain ⟨j,hj,h1,rfl⟩:=fV hx;obtain ⟨i,hi,h2,rfl⟩:=fV hy;exact h i hi j hj h2
 ·refine ZD.trans ?_ m.pm;rw [YX];exact ZD.append_left _ Zm
theorem ML.start (sa:SL a.toList)(sb:SL b.toList)(hb:0<b.size)(h:∀ j (hj:j<a.size),ky b[0] ≤ ky a[j]):ML a b #[b[0]] 0 1 :=
 ML.pushB (out:=#[]) (ia:=0) (ib:=0) ⟨by simpa using sa,by simpa using sb,by simp⟩ hb fun j hj _=>h j hj
structure MH (a b out:Array Keyed)(na nb:Nat):Prop where
 pa:SL (a.toList.take na++out.toList.reverse)
 pb:SL (b.toList.take nb++out.toList.reverse)
 pm:((a.toList.take na++b.toList.take nb)++out.toList.reverse).Perm (a.toList++b.toList)
variable {na nb:Nat}
theorem MH.mvB {nb':Nat}{xs:List Keyed}(m:MH a b out na nb)(e:b.toList.take nb=b.toList.take nb'++xs)(o:out'.toList.reverse=xs++out.toList.reverse)(h:∀ y∈a.toList.take na,∀ x∈xs,ky y ≤ ky x):MH a b out' na nb':=by
 obtain ⟨pa,pb,pm⟩:=m;rw [e] at pb pm;refine ⟨by rw [o]; exact vI pb pa h,by rw [o,← YX]; exact pb,?_⟩;rw [o];refine ZD.trans ?_ pm;simp only [YX];exact .refl _
theorem MH.mvA {na':Nat}{xs:List Keyed}(m:MH a b out na nb)(e:a.toList.take na=a.toList.take na'++xs)(o:out'.toList.reverse=xs++out.toList.reverse)(h:∀ y∈b.toList.take nb,∀ x∈xs,ky y ≤ ky x):MH a b out' na' nb:=by
 obtain ⟨pa,pb,pm⟩:=m;rw [e] at pa pm;refine ⟨by rw [o,← YX]; exact pa,by rw [o]; exact vI pa pb h,?_⟩;rw [o];refine ZD.trans ?_ pm;simp only [YX];refine ZD.append_left _ ?_;rw [← YX,← YX];exact ZD.append_right _ Zm
theorem xE {xs:Array Keyed}{i:Nat}(h:i<xs.size):xs.toList.take (i+1)=xs.toList.take i++[xs[i]]:=by
 rw [aAu,YF (by rw [YJ]; exact h),Yx]; rfl
theorem rP {xs:Array Keyed}{i n:Nat}(h:i ≤ n):xs.toList.take n=xs.toList.take i++(xs.toList.drop i).take (n-i):=by
 obtain ⟨k,rfl⟩:=Nat.exists_eq_add_of_le h;rw [List.take_add,show i+k-i=k by omega]
theorem MH.pushB (m:MH a b out na (nb+1))(hb:nb<b.size)(h:∀ j (hj:j<a.size),j<na →ky a[j] ≤ ky b[nb]):MH a b (out.push b[nb]) na nb :=
 m.mvB (xE hb) (by simp) fun y hy x hx=>by
  rw [YK.mp hx];obtain ⟨j,hj,h1,rfl⟩:=lH hy;exact h j hj h1
theorem MH.pushA (m:MH a b out (na+1) nb)(ha:na<a.size)(h:∀ j (hj:j<b.size),j<nb →ky b[j] ≤ ky a[na]):MH a b (out.push a[na]) na nb :=
 m.mvA (xE ha) (by simp) fun y hy x hx=>by
  rw [YK.mp hx];obtain ⟨j,hj,h1,rfl⟩:=lH hy;exact h j hj h1
theorem MH.bulkB (m:MH a b out na nb)(hk:k ≤ nb)(h:∀ i (hi:i<b.size) j (hj:j<a.size),k ≤ i →i<nb →j<na →ky a[j] ≤ ky b[i]):MH a b (out++(b.extract k nb).reverse) na k :=
 m.mvB (rP hk) (by rw [Yp,Zt,eE,aAQ,aAN]) fun y hy x hx=>by
  obtain ⟨j,hj,h1,rfl⟩:=lH hy;obtain ⟨i,hi,h2,h3,rfl⟩:=m5 hx;exact h i hi j hj h2 (by omega) h1
theorem MH.bulkA (m:MH a b out na nb)(hk:k ≤ na)(h:∀ i (hi:i<a.size) j (hj:j<b.size),k ≤ i →i<na →j<nb →ky b[j] ≤ ky a[i]):MH a b (out++(a.extract k na).reverse) k nb :=
 m.mvA (rP hk) (by rw [Yp,Zt,eE,aAQ,aAN]) fun y hy x hx=>by
  obtain ⟨j,hj,h1,rfl⟩:=lH hy;obtain ⟨i,hi,h2,h3,rfl⟩:=m5 hx;exact h i hi j hj h2 (by omega) h1
theorem Gw {xs:Array Keyed}{n:Nat}:(xs.extract 0 n).toList=xs.toList.take n:=by rw [eE,List.drop_zero,Nat.sub_zero]
theorem MH.done (m:MH a b out na nb)(h:na=0∨nb=0):Ax a b (a.extract 0 na++b.extract 0 nb++out.reverse):=by
 unfold Ax;rw [Yp,Yp,Gw,Gw,Zt];refine ⟨?_,m.pm⟩;rcases h with h | h
 ·rw [h,List.take_zero,aAI]; exact m.pb
 ·rw [h,List.take_zero,Yy]; exact m.pa
theorem MH.firstB (m:MH a b out na nb)(h:∀ i (hi:i<b.size) j (hj:j<a.size),i<nb →ky b[i] ≤ ky a[j]):Ax a b (b.extract 0 nb++a.extract 0 na++out.reverse):=by
 unfold Ax;rw [Yp,Yp,Gw,Gw,Zt];refine ⟨?_,?_⟩
 ·rw [YX];refine vI (r:=[]) (by rw [aAI]; exact m.pa) m.pb fun y hy x hx=>?_;obtain ⟨i,hi,h1,rfl⟩:=lH hy;obtain ⟨j,hj,h2,rfl⟩:=lH hx;exact h i hi j hj h1
 ·refine ZD.trans ?_ m.pm;exact ZD.append_right _ Zm
theorem MH.start (sa:SL a.toList)(sb:SL b.toList)(ha:0<a.size)(h:∀ j (hj:j<b.size),ky b[j] ≤ ky (a[a.size-1]'(by omega))):MH a b #[a[a.size-1]'(by omega)] (a.size-1) b.size:=by
 refine MH.pushA (out:=#[]) (na:=a.size-1) (nb:=b.size) ?_ (by omega) fun j hj _=>h j hj;have e1:a.toList.take (a.size-1+1)=a.toList:=aAc (by rw [YJ]; omega);have e2:b.toList.take b.size=b.toList:=aAc (by rw [YJ]; omega);exact ⟨by rw [e1]; simpa using sa,by rw [e2]; simpa using sb,by rw [e1,e2]; simp⟩
end
def iK (g:Nat):StateT SortSt Sem Unit:=modify fun s=>SortSt.mk' (kindOf s) (arrOf s) (pendingOf s) g (failedOf s)
abbrev S0:=Option (Array Keyed)×Array Keyed×Nat×Nat×Nat
abbrev S1:=Option (Array Keyed)×Array Keyed×Nat×Nat×Nat×Nat
abbrev S2:=Option (Array Keyed)×Array Keyed×Nat×Nat×Nat×Nat×Nat
abbrev SM:=StateT SortSt Sem
theorem wK (a b:Array Keyed):lQ a b=(do
 rule "list.sort.merge-lo"
 let total:=a.size+b.size
 let done (out:Array Keyed) (ia ib:Nat):=out++a.extract ia a.size++b.extract ib b.size
 let lastOfA (out:Array Keyed) (ia ib:Nat):=out++b.extract ib b.size++a.extract ia a.size
 let mut out:Array Keyed:=#[← elem' b 0]
 let mut ia:=0
 let mut ib:=1
 if ib==b.size then return done out ia ib
 if ia+1==a.size then return lastOfA out ia ib
 let mut minGallop:=gallopOf (← get)
 for _ in [0:total] do
  let mut acount:=0
  let mut bcount:=0
  for _ in [0:total] do
   let some bWins ← lt' (← elem' b ib) (← elem' a ia) | return done out ia ib
   if bWins then
    out:=out.push (← elem' b ib); ib:=ib+1; bcount:=bcount+1; acount:=0
    if ib==b.size then return done out ia ib
    if bcount ≥ minGallop then break
   else
    out:=out.push (← elem' a ia); ia:=ia+1; acount:=acount+1; bcount:=0
    if ia+1==a.size then return lastOfA out ia ib
    if acount ≥ minGallop then break
  rule "list.sort.gallop"
  minGallop:=minGallop+1
  for _ in [0:total] do
   if minGallop > 1 then minGallop:=minGallop-1
   iK minGallop
   let some k ← c7 false (← elem' b ib) a ia (a.size-ia) 0 | return done out ia ib
   acount:=k
   if k > 0 then
    out:=out++a.extract ia (ia+k); ia:=ia+k
    if ia+1==a.size then return lastOfA out ia ib
    if ia==a.size then return done out ia ib
   out:=out.push (← elem' b ib); ib:=ib+1
   if ib==b.size then return done out ia ib
   let some k ← c7 true (← elem' a ia) b ib (b.size-ib) 0 | return done out ia ib
   bcount:=k
   if k > 0 then
    out:=out++b.extract ib (ib+k); ib:=ib+k
    if ib==b.size then return done out ia ib
   out:=out.push (← elem' a ia); ia:=ia+1
   if ia+1==a.size then return lastOfA out ia ib
   if acount<7&&bcount<7 then break
  minGallop:=minGallop+1
  iK minGallop
 unsupported "internal:list.sort.merge-bound"):=rfl
section
variable (a b:Array Keyed)
def Ig (out:Array Keyed)(ia ib:Nat):Array Keyed:=out++a.extract ia a.size++b.extract ib b.size
def Nx (out:Array Keyed)(ia ib:Nat):Array Keyed:=out++b.extract ib b.size++a.extract ia a.size
def Gk (mg:Nat)(out:Array Keyed)(ia ib ac bc:Nat):SM (ForInStep S1):=do
 let x ← elem' b ib
 let y ← elem' a ia
 let r ← lt' x y
 match r with
 | some bWins =>
  if bWins=true then do
   let x ← elem' b ib
   if (ib+1==b.size)=true then pure (.done (some (Ig a b (out.push x) ia (ib+1)),out.push x,ia,ib+1,0,bc+1))
   else if bc+1 ≥ mg then pure (.done (none,out.push x,ia,ib+1,0,bc+1)) else pure (.yield (none,out.push x,ia,ib+1,0,bc+1))
  else do
   let x ← elem' a ia
   if (ia+1+1==a.size)=true then pure (.done (some (Nx a b (out.push x) (ia+1) ib),out.push x,ia+1,ib,ac+1,0))
   else if ac+1 ≥ mg then pure (.done (none,out.push x,ia+1,ib,ac+1,0)) else pure (.yield (none,out.push x,ia+1,ib,ac+1,0))
 | _=>pure (.done (some (Ig a b out ia ib),out,ia,ib,ac,bc))
def Og (mg:Nat)(out:Array Keyed)(ia ib ac bc:Nat):SM (ForInStep S2):=do
 let x ← elem' a ia
 if (ia+1+1==a.size)=true then pure (.done (some (Nx a b (out.push x) (ia+1) ib),out.push x,ia+1,ib,mg,ac,bc))
 else if (decide (ac<7)&&decide (bc<7))=true then pure (.done (none,out.push x,ia+1,ib,mg,ac,bc))
 else pure (.yield (none,out.push x,ia+1,ib,mg,ac,bc))
def Ma (mg:Nat)(out:Array Keyed)(ia ib ac bc:Nat):SM (ForInStep S2):=do
 let x ← elem' b ib
 if (ib+1==b.size)=true then pure (.done (some (Ig a b (out.push x) ia (ib+1)),out.push x,ia,ib+1,mg,ac,bc))
 else do
  let y ← elem' a ia
  let r ← c7 true y b (ib+1) (b.size-(ib+1)) 0
  match r with
  | some k =>
   if k > 0 then
    if (ib+1+k==b.size)=true then pure (.done (some (Ig a b (out.push x++b.extract (ib+1) (ib+1+k)) ia (ib+1+k)),out.push x++b.extract (ib+1) (ib+1+k),ia,ib+1+k,mg,ac,k))
    else Og a b mg (out.push x++b.extract (ib+1) (ib+1+k)) ia (ib+1+k) ac k
   else Og a b mg (out.push x) ia (ib+1) ac k
  | _=>pure (.done (some (Ig a b (out.push x) ia (ib+1)),out.push x,ia,ib+1,mg,ac,bc))
def Kl (mg:Nat)(out:Array Keyed)(ia ib ac bc:Nat):SM (ForInStep S2):=do
 iK mg
 let y ← elem' b ib
 let r ← c7 false y a ia (a.size-ia) 0
 match r with
 | some k =>
  if k > 0 then
   if (ia+k+1==a.size)=true then pure (.done (some (Nx a b (out++a.extract ia (ia+k)) (ia+k) ib),out++a.extract ia (ia+k),ia+k,ib,mg,k,bc))
   else if (ia+k==a.size)=true then pure (.done (some (Ig a b (out++a.extract ia (ia+k)) (ia+k) ib),out++a.extract ia (ia+k),ia+k,ib,mg,k,bc))
   else Ma a b mg (out++a.extract ia (ia+k)) (ia+k) ib k bc
  else Ma a b mg out ia ib k bc
 | _=>pure (.done (some (Ig a b out ia ib),out,ia,ib,mg,ac,bc))
def Ha (out:Array Keyed)(ia ib mg:Nat):SM (ForInStep S0):=do
 let s ← (forIn [0:a.size+b.size] ((none,out,ia,ib,0,0):S1) fun _ s=>Gk a b mg s.2.1 s.2.2.1 s.2.2.2.1 s.2.2.2.2.1 s.2.2.2.2.2)
 match s.1 with
 | some r=>pure (.done (some r,s.2.1,s.2.2.1,s.2.2.2.1,mg))
 | none=>do
  liftM (rule "list.sort.gallop")
  let t ← (forIn [0:a.size+b.size] ((none,s.2.1,s.2.2.1,s.2.2.2.1,mg+1,s.2.2.2.2.1,s.2.2.2.2.2):S2) fun _ t =>
   if t.2.2.2.2.1 > 1 then Kl a b (t.2.2.2.2.1-1) t.2.1 t.2.2.1 t.2.2.2.1 t.2.2.2.2.2.1 t.2.2.2.2.2.2 else Kl a b t.2.2.2.2.1 t.2.1 t.2.2.1 t.2.2.2.1 t.2.2.2.2.2.1 t.2.2.2.2.2.2)
  match t.1 with
  | some r=>pure (.done (some r,t.2.1,t.2.2.1,t.2.2.2.1,t.2.2.2.2.1))
  | none=>do
   iK (t.2.2.2.2.1+1)
   pure (.yield (none,t.2.1,t.2.2.1,t.2.2.2.1,t.2.2.2.2.1+1))
def Rn:SM (Array Keyed):=do
 liftM (rule "list.sort.merge-lo")
 let x ← elem' b 0
 if (1==b.size)=true then pure (Ig a b #[x] 0 1)
 else if (0+1==a.size)=true then pure (Nx a b #[x] 0 1)
 else do
  let g ← get
  let s ← (forIn [0:a.size+b.size] ((none,#[x],0,1,gallopOf g):S0) fun _ s=>Ha a b s.2.1 s.2.2.1 s.2.2.2.1 s.2.2.2.2)
  match s.1 with
  | some r=>pure r
  | none=>liftM (unsupported "internal:list.sort.merge-bound" : Sem (Array Keyed))
theorem aL {α β:Type}{m m':SM α}{f g:α →SM β}(h0:m=m')(h:∀ x,f x=g x):(m >>= f)=(m' >>= g):=by subst h0; exact congrArg _ (funext h)
theorem bW {α:Type}{c:Prop}[Decidable c]{x y x' y':SM α}(h1:x=x')(h2:y=y'):(if c then x else y)=(if c then x' else y'):=by subst h1; subst h2; rfl
theorem jQ {β:Type}{n:Nat}{i:β}{f g:Nat →β →SM (ForInStep β)}(h:∀ x c,f x c=g x c):(forIn [0:n] i f)=(forIn [0:n] i g):=by
 have e:f=g:=funext fun x=>funext fun c=>h x c;rw [e]
theorem wU:lQ a b=Rn a b:=by
 rw [wK];unfold Rn;refine aL rfl fun _=>aL rfl fun x=>bW rfl (bW rfl (aL rfl fun g=>aL (jQ fun _ s=>?_) fun s=>?_))
 ·unfold Ha;refine aL (jQ fun _ s=>?_) fun s=>?_
  ·unfold Gk;refine aL rfl fun x=>aL rfl fun y=>aL rfl fun r=>?_;cases r <;> rfl
  ·obtain ⟨r,o,i,j,ac,bc⟩:=s;cases r with
   | some r=>rfl
   | none =>
    refine aL rfl fun _=>aL (jQ fun _ s=>?_) fun s=>?_
    ·refine bW ?_ ?_ <;> unfold Kl <;> refine aL rfl fun _=>aL rfl fun y=>aL rfl fun r=>?_
     all_goals
      cases r with
      | none=>rfl
      | some k =>
       refine bW (bW rfl (bW rfl ?_)) ?_ <;> unfold Ma <;> refine aL rfl fun _=>bW rfl (aL rfl fun y=>aL rfl fun r=>?_)
       all_goals cases r <;> rfl
    ·obtain ⟨r,o,i,j,ac,bc⟩:=s;cases r <;> rfl
 ·obtain ⟨r,o,i,j,ac⟩:=s;cases r <;> rfl
end
def SG (st st':SortSt):Prop:=∃ g,st'=SortSt.mk' (kindOf st) (arrOf st) (pendingOf st) g (failedOf st)
theorem SG.refl (st:SortSt):SG st st:=⟨gallopOf st,rfl⟩
theorem SG.trans {x y z:SortSt}(h:SG x y)(k:SG y z):SG x z:=by
 obtain ⟨g,rfl⟩:=h; obtain ⟨g',rfl⟩:=k; exact ⟨g',rfl⟩
theorem SG.kind {x y:SortSt}(h:SG x y):kindOf y=kindOf x:=by obtain ⟨g,rfl⟩:=h; rfl
structure jD (a b:Array Keyed):Prop where
 ia:∀ p∈a,Cr p
 ib:∀ p∈b,Cr p
 sa:SL a.toList
 sb:SL b.toList
 la:∀ j (hj:j<b.size) i (hi:i<a.size),i+1=a.size →ky b[j] ≤ ky a[i]
 fb:∀ j (hj:j<a.size) (h:0<b.size),ky b[0] ≤ ky a[j]
def GL (a b out:Array Keyed)(ia ib:Nat):Prop:=ML a b out ia ib∧ia+1<a.size∧ib<b.size
def GC (a b:Array Keyed)(o:Option (Array Keyed)):Prop:=∃ r,o=some r∧Ax a b r
section
variable {prog:Program}{w:World}{A:Around}{E:Value →Shared →Prop}{s:Shared}{a b out:Array Keyed}{ia ib ac bc mg n:Nat}{st:SortSt}
theorem jD.last (H:jD a b)(m:ML a b out ia ib)(e:ia+1=a.size):Ax a b (Nx a b out ia ib) :=
 m.lastA fun i hi j hj h=>H.la j hj i hi (by omega)
def R1 (a b:Array Keyed)(n:Nat)(c:S1):Prop:=GC a b c.1∨∃ o i j ac bc,c=(none,o,i,j,ac,bc)∧GL a b o i j∧n ≤ i+j
def R2 (a b:Array Keyed)(n:Nat)(c:S2):Prop:=GC a b c.1∨∃ o i j mg ac bc,c=(none,o,i,j,mg,ac,bc)∧GL a b o i j∧n ≤ i+j
theorem Fb {Q:ForInStep S1 →SortSt →Prop}(H:jD a b)(hk:kindOf st=oneType')(g:GL a b out ia ib)(hn:n ≤ ia+ib)
  (h:∀ r,(∀ c,r=.done c →R1 a b (n+1) c) →(∀ c,r=.yield c →∃ o i j ac bc,c=(none,o,i,j,ac,bc)∧GL a b o i j∧n+1 ≤ i+j) →Q r st):wpS (model prog w) A E s (Gk a b mg out ia ib ac bc) Q st:=by
 obtain ⟨m,h1,h2⟩:=g;have h3:ia<a.size:=by omega
 unfold Gk;refine wpS_bind (bO h2 (wpS_bind (bO h3 (wpS_bind (uJ hk (H.ib _ (Yv h2)) (H.ia _ (Yv h3)) ?_)))));dsimp only
 by_cases z:ky b[ib]<ky a[ia]
 ·rw [if_pos (decide_eq_true z)];refine wpS_bind (bO h2 ?_);have m':ML a b (out.push b[ib]) ia (ib+1):=m.pushB h2 fun j hj hij=>Yr (Yw z) (eH H.sa hj hij)
  by_cases e:ib+1=b.size
  ·rw [if_pos (by simpa using e)];exact wpS_pure (h _ (fun c hc=>by cases hc; exact .inl ⟨_,rfl,m'.done (.inr e)⟩) fun c hc=>nomatch hc)
  ·rw [if_neg (by simpa using e)];have g':GL a b (out.push b[ib]) ia (ib+1):=⟨m',h1,by omega⟩
   split
   ·exact wpS_pure (h _ (fun c hc=>by cases hc; exact .inr ⟨_,_,_,_,_,rfl,g',by omega⟩) fun c hc=>nomatch hc)
   ·exact wpS_pure (h _ (fun c hc=>nomatch hc) fun c hc=>by cases hc; exact ⟨_,_,_,_,_,rfl,g',by omega⟩)
 ·rw [if_neg (by simpa using z)];refine wpS_bind (bO h3 ?_);have m':ML a b (out.push a[ia]) (ia+1) ib:=m.pushA h3 fun j hj hij=>Yr (aAW.mp z) (eH H.sb hj hij)
  by_cases e:ia+1+1=a.size
  ·rw [if_pos (by simpa using e)];exact wpS_pure (h _ (fun c hc=>by cases hc; exact .inl ⟨_,rfl,H.last m' e⟩) fun c hc=>nomatch hc)
  ·rw [if_neg (by simpa using e)];have g':GL a b (out.push a[ia]) (ia+1) ib:=⟨m',by omega,h2⟩
   split
   ·exact wpS_pure (h _ (fun c hc=>by cases hc; exact .inr ⟨_,_,_,_,_,rfl,g',by omega⟩) fun c hc=>nomatch hc)
   ·exact wpS_pure (h _ (fun c hc=>nomatch hc) fun c hc=>by cases hc; exact ⟨_,_,_,_,_,rfl,g',by omega⟩)
abbrev O2 (a b:Array Keyed)(n:Nat)(Q:ForInStep S2 →SortSt →Prop)(st:SortSt):Prop:=∀ r st',SG st st' →(∀ c,r=.done c →R2 a b n c) →(∀ c,r=.yield c →∃ o i j mg ac bc,c=(none,o,i,j,mg,ac,bc)∧GL a b o i j∧n ≤ i+j) →Q r st'
theorem BZ {Q:ForInStep S2 →SortSt →Prop}(H:jD a b)(g:GL a b out ia ib)(z:ky (a[ia]'(by have:=g.2.1; omega)) ≤ ky (b[ib]'g.2.2))(hn:n ≤ ia+ib)(h:O2 a b n Q st):wpS (model prog w) A E s (Og a b mg out ia ib ac bc) Q st:=by
 obtain ⟨m,h1,h2⟩:=g;have h3:ia<a.size:=by omega
 unfold Og;refine wpS_bind (bO h3 ?_);have m':ML a b (out.push a[ia]) (ia+1) ib:=m.pushA h3 fun j hj hij=>Yr z (eH H.sb hj hij)
 by_cases e:ia+1+1=a.size
 ·rw [if_pos (by simpa using e)];exact wpS_pure (h _ _ (SG.refl _) (fun c hc=>by cases hc; exact .inl ⟨_,rfl,H.last m' e⟩) fun c hc=>nomatch hc)
 ·rw [if_neg (by simpa using e)];have g':GL a b (out.push a[ia]) (ia+1) ib:=⟨m',by omega,h2⟩
  split
  ·exact wpS_pure (h _ _ (SG.refl _) (fun c hc=>by cases hc; exact .inr ⟨_,_,_,_,_,_,rfl,g',by omega⟩) fun c hc=>nomatch hc)
  ·exact wpS_pure (h _ _ (SG.refl _) (fun c hc=>nomatch hc) fun c hc=>by cases hc; exact ⟨_,_,_,_,_,_,rfl,g',by omega⟩)
theorem gP {left:Bool}{key:Keyed}{xs:Array Keyed}{base n hint:Nat}{Q:Option Nat →SortSt →Prop}(hk:kindOf st=oneType')(hp:Cr key)(hx:∀ p∈xs,Cr p)(hs:∀ i j (hj:j<xs.size) (hij:i ≤ j),base ≤ i →j<base+n →ky (xs[i]'(by omega)) ≤ ky xs[j])(hn:base+n ≤ xs.size)(hh:hint<n)
  (h:∀ k,k ≤ n →(∀ i (hi:i<xs.size),base ≤ i →i<base+k →Ce left (ky key) (ky xs[i])=true) →(∀ i (hi:i<xs.size),base+k ≤ i →i<base+n →Ce left (ky key) (ky xs[i])=false) →Q (some k) st):wpS (model prog w) A E s (c7 left key xs base n hint) Q st:=by
 refine zL hk hp hx hn hh (fun i=>if hi:base+i<xs.size then Ce left (ky key) (ky xs[base+i]) else false) (fun i hi _=>by rw [dif_pos hi]) (fun i j hij hj hf=>?_) fun k h1 h2 h3=>h k h1 (fun i hi h4 h5=>?_) fun i hi h4 h5=>?_
 ·have e1:base+i<xs.size:=by omega
  have e2:base+j<xs.size:=by omega
  rw [dif_pos e2] at hf;rw [dif_pos e1];have:=hs (base+i) (base+j) e2 (by omega) (by omega) (by omega);unfold Ce at hf ⊢;cases left with
  | true=>simp only [if_true,decide_eq_true_eq] at hf ⊢; omega
  | false=>simp only [YZ,if_false,decide_eq_true_eq] at hf ⊢; omega
 ·have q:=h2 (i-base) (by omega);rw [dif_pos (by omega)] at q;have e:base+(i-base)=i:=by omega
  simp only [e] at q;exact q
 ·have q:=h3 (i-base) (by omega) (by omega);rw [dif_pos (by omega)] at q;have e:base+(i-base)=i:=by omega
  simp only [e] at q;exact q
theorem oM {x k:Int}:(Ce true k x=true↔x<k)∧(Ce true k x=false↔k ≤ x):=by
 unfold Ce; simp only [if_true,decide_eq_true_eq,decide_eq_false_iff_not]; exact ⟨trivial,by omega⟩
theorem mC {x k:Int}:(Ce false k x=true↔x ≤ k)∧(Ce false k x=false↔k<x):=by
 unfold Ce; simp only [YZ,if_false,decide_eq_true_eq,decide_eq_false_iff_not]; exact ⟨trivial,by omega⟩
theorem Ay {Q:ForInStep S2 →SortSt →Prop}(H:jD a b)(hk:kindOf st=oneType')(g:GL a b out ia ib)(z:ky (b[ib]'g.2.2) ≤ ky (a[ia]'(by have:=g.2.1; omega)))(hn:n ≤ ia+ib)(h:O2 a b n Q st):wpS (model prog w) A E s (Ma a b mg out ia ib ac bc) Q st:=by
 obtain ⟨m,h1,h2⟩:=g;have h3:ia<a.size:=by omega
 unfold Ma;refine wpS_bind (bO h2 ?_);have m':ML a b (out.push b[ib]) ia (ib+1):=m.pushB h2 fun j hj hij=>Yr z (eH H.sa hj hij)
 by_cases e:ib+1=b.size
 ·rw [if_pos (by simpa using e)];exact wpS_pure (h _ _ (SG.refl _) (fun c hc=>by cases hc; exact .inl ⟨_,rfl,m'.done (.inr e)⟩) fun c hc=>nomatch hc)
 ·rw [if_neg (by simpa using e)];refine wpS_bind (bO h3 (wpS_bind (gP hk (H.ia _ (Yv h3)) H.ib (fun i j hj hij _ _=>eH H.sb hj hij) (by omega) (by omega) fun k k1 k2 k3=>?_)));dsimp only;have m2:ML a b (out.push b[ib]++b.extract (ib+1) (ib+1+k)) ia (ib+1+k):=m'.bulkB fun i hi j hj i1 i2 i3=>Yr (Yw (oM.1.mp (k2 i hi i1 i2))) (eH H.sa hj i3)
  by_cases e2:ib+1+k=b.size
  ·have k0:k > 0:=by omega
   rw [if_pos k0,if_pos (by simpa using e2)];exact wpS_pure (h _ _ (SG.refl _) (fun c hc=>by cases hc; exact .inl ⟨_,rfl,m2.done (.inr e2)⟩) fun c hc=>nomatch hc)
  ·have zz:ky a[ia] ≤ ky (b[ib+1+k]'(by omega)):=oM.2.mp (k3 (ib+1+k) (by omega) (by omega) (by omega))
   by_cases k0:k > 0
   ·rw [if_pos k0,if_neg (by simpa using e2)];exact BZ H ⟨m2,h1,by omega⟩ zz (by omega) h
   ·rw [if_neg k0];have e3:k=0:=by omega
    subst e3;exact BZ H ⟨m',h1,by omega⟩ zz (by omega) h
theorem Gn {Q:ForInStep S2 →SortSt →Prop}(H:jD a b)(hk:kindOf st=oneType')(g:GL a b out ia ib)(hn:n ≤ ia+ib)(h:O2 a b n Q st):wpS (model prog w) A E s (Kl a b mg out ia ib ac bc) Q st:=by
 obtain ⟨m,h1,h2⟩:=g;have h3:ia<a.size:=by omega
 unfold Kl iK;refine wpS_bind (wpS_modify ?_);have sg:SG st (SortSt.mk' (kindOf st) (arrOf st) (pendingOf st) mg (failedOf st)):=⟨mg,rfl⟩
 generalize SortSt.mk' (kindOf st) (arrOf st) (pendingOf st) mg (failedOf st)=st1 at sg ⊢;have hk1:kindOf st1=oneType':=sg.kind.trans hk;have h':O2 a b n Q st1:=fun r st' s1=>h r st' (sg.trans s1);refine wpS_bind (bO h2 (wpS_bind (gP hk1 (H.ib _ (Yv h2)) H.ia (fun i j hj hij _ _=>eH H.sa hj hij) (by omega) (by omega) fun k k1 k2 k3=>?_)));dsimp only;have m2:ML a b (out++a.extract ia (ia+k)) (ia+k) ib:=m.bulkA fun i hi j hj i1 i2 i3=>Yr (mC.1.mp (k2 i hi i1 i2)) (eH H.sb hj i3)
 by_cases k0:k > 0
 ·rw [if_pos k0]
  by_cases e1:ia+k+1=a.size
  ·rw [if_pos (by simpa using e1)];exact wpS_pure (h' _ _ (SG.refl _) (fun c hc=>by cases hc; exact .inl ⟨_,rfl,H.last m2 e1⟩) fun c hc=>nomatch hc)
  ·rw [if_neg (by simpa using e1)]
   by_cases e2:ia+k=a.size
   ·rw [if_pos (by simpa using e2)];exact wpS_pure (h' _ _ (SG.refl _) (fun c hc=>by cases hc; exact .inl ⟨_,rfl,m2.done (.inl e2)⟩) fun c hc=>nomatch hc)
   ·rw [if_neg (by simpa using e2)];exact Ay H hk1 ⟨m2,by omega,h2⟩ (Yw (mC.2.mp (k3 (ia+k) (by omega) (by omega) (by omega)))) (by omega) h'
 ·rw [if_neg k0];have e3:k=0:=by omega
  subst e3;exact Ay H hk1 ⟨m,h1,h2⟩ (Yw (mC.2.mp (k3 ia (by omega) (by omega) (by omega)))) hn h'
theorem Ew {Q:ForInStep S0 →SortSt →Prop}(H:jD a b)(hk:kindOf st=oneType')(g:GL a b out ia ib)(hn:n ≤ ia+ib)
  (h:∀ r st',SG st st' →(∀ c,r=.done c →GC a b c.1) →(∀ c,r=.yield c →∃ o i j mg,c=(none,o,i,j,mg)∧GL a b o i j∧n+1 ≤ i+j) →Q r st'):wpS (model prog w) A E s (Ha a b out ia ib mg) Q st:=by
 unfold Ha;refine wpS_bind (wpS_mono (wpS_forRange (I:=fun x c st'=>st'=st∧∃ o i j ac bc,c=(none,o,i,j,ac,bc)∧GL a b o i j∧n+x ≤ i+j) (Q:=fun c st'=>st'=st∧R1 a b (n+1) c) ?step ?fin ⟨rfl,_,_,_,_,_,rfl,g,hn⟩) ?post)
 case fin =>
  rintro c st' ⟨rfl,o,i,j,ac,bc,rfl,g',hh⟩;refine ⟨rfl,.inr ⟨o,i,j,ac,bc,rfl,g',?_⟩⟩;have:=g'.2.1;omega
 case step =>
  rintro x c st' _ hx ⟨rfl,o,i,j,ac,bc,rfl,g',hh⟩;refine Fb H hk g' hh fun r h1 h2=>?_;cases r with
  | done c =>
   refine ⟨rfl,?_⟩;rcases h1 c rfl with z | ⟨o,i,j,ac,bc,e,g2,hh2⟩
   ·exact .inl z
   ·exact .inr ⟨o,i,j,ac,bc,e,g2,by omega⟩
  | yield c=>exact ⟨rfl,h2 c rfl⟩
 case post =>
  rintro c st' ⟨rfl,z | ⟨o,i,j,ac,bc,rfl,g',hh⟩⟩
  ·obtain ⟨r,e,hr⟩:=z;obtain ⟨c1,c2⟩:=c;obtain rfl:c1=some r:=e;exact wpS_pure (h _ _ (SG.refl _) (fun c hc=>by cases hc; exact ⟨r,rfl,hr⟩) fun c hc=>nomatch hc)
  ·dsimp only;refine wpS_bind (wpS_lift (wpAny_rule ⟨rfl,?_⟩));refine wpS_bind (wpS_mono (wpS_forRange (I:=fun x c st2=>SG st' st2∧∃ o i j mg ac bc,c=(none,o,i,j,mg,ac,bc)∧GL a b o i j∧n+1 ≤ i+j) (Q:=fun c st2=>SG st' st2∧R2 a b (n+1) c) ?step ?fin ⟨SG.refl _,_,_,_,_,_,_,rfl,g',hh⟩) ?post)
   case fin =>
    rintro c st2 ⟨sg,o,i,j,mg,ac,bc,rfl,g2,hh2⟩;exact ⟨sg,.inr ⟨_,_,_,_,_,_,rfl,g2,hh2⟩⟩
   case step =>
    rintro x c st2 _ hx ⟨sg,o,i,j,mg,ac,bc,rfl,g2,hh2⟩;have hk2:=sg.kind.trans hk;dsimp only
    split
    all_goals
     refine Gn H hk2 g2 hh2 fun r st3 s1 h1 h2=>?_;cases r with
     | done c=>exact ⟨sg.trans s1,h1 c rfl⟩
     | yield c=>exact ⟨sg.trans s1,h2 c rfl⟩
   case post =>
    rintro c st2 ⟨sg,z | ⟨o,i,j,mg,ac,bc,rfl,g2,hh2⟩⟩
    ·obtain ⟨r,e,hr⟩:=z;obtain ⟨c1,c2⟩:=c;obtain rfl:c1=some r:=e;exact wpS_pure (h _ _ sg (fun c hc=>by cases hc; exact ⟨r,rfl,hr⟩) fun c hc=>nomatch hc)
    ·dsimp only;unfold iK;refine wpS_bind (wpS_modify (wpS_pure (h _ _ (sg.trans ⟨_,rfl⟩) (fun c hc=>nomatch hc) fun c hc=>by cases hc; exact ⟨_,_,_,_,rfl,g2,hh2⟩)))
theorem wZ {Q:Array Keyed →SortSt →Prop}(H:jD a b)(hk:kindOf st=oneType')(ha:0<a.size)(hb:0<b.size)(h:∀ r st',SG st st' →Ax a b r →Q r st'):wpS (model prog w) A E s (lQ a b) Q st:=by
 rw [wU];unfold Rn;refine wpS_bind (wpS_lift (wpAny_rule ⟨rfl,?_⟩));refine wpS_bind (bO hb ?_);have m:=ML.start H.sa H.sb hb fun j hj=>H.fb j hj hb
 by_cases e:1=b.size
 ·rw [if_pos (by simpa using e)];exact wpS_pure (h _ _ (SG.refl _) (m.done (.inr e)))
 ·rw [if_neg (by simpa using e)]
  by_cases e2:0+1=a.size
  ·rw [if_pos (by simpa using e2)];exact wpS_pure (h _ _ (SG.refl _) (H.last m e2))
  ·rw [if_neg (by simpa using e2)];refine wpS_bind (wpS_get ?_);refine wpS_bind (wpS_mono (wpS_forRange (I:=fun x c st'=>SG st st'∧∃ o i j mg,c=(none,o,i,j,mg)∧GL a b o i j∧x+1 ≤ i+j) (Q:=fun c st'=>SG st st'∧GC a b c.1) ?step ?fin ⟨SG.refl _,_,_,_,_,rfl,⟨m,by omega,by omega⟩,by omega⟩) ?post)
   case fin =>
    rintro c st' ⟨sg,o,i,j,mg,rfl,g,hh⟩;have:=g.2;omega
   case step =>
    rintro x c st' _ hx ⟨sg,o,i,j,mg,rfl,g,hh⟩;refine Ew H (sg.kind.trans hk) g hh fun r st2 s1 h1 h2=>?_;cases r with
    | done c=>exact ⟨sg.trans s1,h1 c rfl⟩
    | yield c=>exact ⟨sg.trans s1,h2 c rfl⟩
   case post =>
    rintro ⟨c1,c2⟩ st' ⟨sg,r,e,hr⟩;obtain rfl:c1=some r:=e;exact wpS_pure (h _ _ sg hr)
end
theorem vN (a b:Array Keyed):mG a b=(do
 rule "list.sort.merge-hi"
 let total:=a.size+b.size
 let done (out:Array Keyed) (na nb:Nat):=a.extract 0 na++b.extract 0 nb++out.reverse
 let firstOfB (out:Array Keyed) (na nb:Nat):=b.extract 0 nb++a.extract 0 na++out.reverse
 let mut na:=a.size-1
 let mut nb:=b.size
 let mut out:Array Keyed:=#[← elem' a na]
 if na==0 then return done out na nb
 if nb==1 then return firstOfB out na nb
 let mut minGallop:=gallopOf (← get)
 for _ in [0:total] do
  let mut acount:=0
  let mut bcount:=0
  for _ in [0:total] do
   let some aWins ← lt' (← elem' b (nb-1)) (← elem' a (na-1)) | return done out na nb
   if aWins then
    na:=na-1; out:=out.push (← elem' a na); acount:=acount+1; bcount:=0
    if na==0 then return done out na nb
    if acount ≥ minGallop then break
   else
    nb:=nb-1; out:=out.push (← elem' b nb); bcount:=bcount+1; acount:=0
    if nb==1 then return firstOfB out na nb
    if bcount ≥ minGallop then break
  rule "list.sort.gallop"
  minGallop:=minGallop+1
  for _ in [0:total] do
   if minGallop > 1 then minGallop:=minGallop-1
   iK minGallop
   let some at_ ← c7 false (← elem' b (nb-1)) a 0 na (na-1) | return done out na nb
   let k:=na-at_
   acount:=k
   if k > 0 then
    out:=out++(a.extract at_ na).reverse; na:=at_
    if na==0 then return done out na nb
   nb:=nb-1; out:=out.push (← elem' b nb)
   if nb==1 then return firstOfB out na nb
   let some at_ ← c7 true (← elem' a (na-1)) b 0 nb (nb-1) | return done out na nb
   let k:=nb-at_
   bcount:=k
   if k > 0 then
    out:=out++(b.extract at_ nb).reverse; nb:=at_
    if nb==1 then return firstOfB out na nb
    if nb==0 then return done out na nb
   na:=na-1; out:=out.push (← elem' a na)
   if na==0 then return done out na nb
   if acount<7&&bcount<7 then break
  minGallop:=minGallop+1
  iK minGallop
 unsupported "internal:list.sort.merge-bound"):=rfl
abbrev H0:=Option (Array Keyed)×Nat×Nat×Array Keyed×Nat
abbrev H1:=Option (Array Keyed)×Nat×Nat×Array Keyed×Nat×Nat
abbrev H2:=Option (Array Keyed)×Nat×Nat×Array Keyed×Nat×Nat×Nat
section
variable (a b:Array Keyed)
def IW (out:Array Keyed)(na nb:Nat):Array Keyed:=a.extract 0 na++b.extract 0 nb++out.reverse
def Ko (out:Array Keyed)(na nb:Nat):Array Keyed:=b.extract 0 nb++a.extract 0 na++out.reverse
def GP (mg:Nat)(out:Array Keyed)(na nb ac bc:Nat):SM (ForInStep H1):=do
 let x ← elem' b (nb-1)
 let y ← elem' a (na-1)
 let r ← lt' x y
 match r with
 | some aWins =>
  if aWins=true then do
   let x ← elem' a (na-1)
   if (na-1==0)=true then pure (.done (some (IW a b (out.push x) (na-1) nb),na-1,nb,out.push x,ac+1,0))
   else if ac+1 ≥ mg then pure (.done (none,na-1,nb,out.push x,ac+1,0)) else pure (.yield (none,na-1,nb,out.push x,ac+1,0))
  else do
   let x ← elem' b (nb-1)
   if (nb-1==1)=true then pure (.done (some (Ko a b (out.push x) na (nb-1)),na,nb-1,out.push x,0,bc+1))
   else if bc+1 ≥ mg then pure (.done (none,na,nb-1,out.push x,0,bc+1)) else pure (.yield (none,na,nb-1,out.push x,0,bc+1))
 | _=>pure (.done (some (IW a b out na nb),na,nb,out,ac,bc))
def Ol (mg:Nat)(out:Array Keyed)(na nb ac bc:Nat):SM (ForInStep H2):=do
 let x ← elem' a (na-1)
 if (na-1==0)=true then pure (.done (some (IW a b (out.push x) (na-1) nb),na-1,nb,out.push x,mg,ac,bc))
 else if (decide (ac<7)&&decide (bc<7))=true then pure (.done (none,na-1,nb,out.push x,mg,ac,bc))
 else pure (.yield (none,na-1,nb,out.push x,mg,ac,bc))
def O4 (mg:Nat)(out:Array Keyed)(na nb ac bc:Nat):SM (ForInStep H2):=do
 let x ← elem' b (nb-1)
 if (nb-1==1)=true then pure (.done (some (Ko a b (out.push x) na (nb-1)),na,nb-1,out.push x,mg,ac,bc))
 else do
  let y ← elem' a (na-1)
  let r ← c7 true y b 0 (nb-1) (nb-1-1)
  match r with
  | some k =>
   if nb-1-k > 0 then
    if (k==1)=true then pure (.done (some (Ko a b (out.push x++(b.extract k (nb-1)).reverse) na k),na,k,out.push x++(b.extract k (nb-1)).reverse,mg,ac,nb-1-k))
    else if (k==0)=true then pure (.done (some (IW a b (out.push x++(b.extract k (nb-1)).reverse) na k),na,k,out.push x++(b.extract k (nb-1)).reverse,mg,ac,nb-1-k))
    else Ol a b mg (out.push x++(b.extract k (nb-1)).reverse) na k ac (nb-1-k)
   else Ol a b mg (out.push x) na (nb-1) ac (nb-1-k)
  | _=>pure (.done (some (IW a b (out.push x) na (nb-1)),na,nb-1,out.push x,mg,ac,bc))
def N8 (mg:Nat)(out:Array Keyed)(na nb ac bc:Nat):SM (ForInStep H2):=do
 iK mg
 let y ← elem' b (nb-1)
 let r ← c7 false y a 0 na (na-1)
 match r with
 | some k =>
  if na-k > 0 then
   if (k==0)=true then pure (.done (some (IW a b (out++(a.extract k na).reverse) k nb),k,nb,out++(a.extract k na).reverse,mg,na-k,bc))
   else O4 a b mg (out++(a.extract k na).reverse) k nb (na-k) bc
  else O4 a b mg out na nb (na-k) bc
 | _=>pure (.done (some (IW a b out na nb),na,nb,out,mg,ac,bc))
def Hn (out:Array Keyed)(na nb mg:Nat):SM (ForInStep H0):=do
 let s ← (forIn [0:a.size+b.size] ((none,na,nb,out,0,0):H1) fun _ s=>GP a b mg s.2.2.2.1 s.2.1 s.2.2.1 s.2.2.2.2.1 s.2.2.2.2.2)
 match s.1 with
 | some r=>pure (.done (some r,s.2.1,s.2.2.1,s.2.2.2.1,mg))
 | none=>do
  liftM (rule "list.sort.gallop")
  let t ← (forIn [0:a.size+b.size] ((none,s.2.1,s.2.2.1,s.2.2.2.1,mg+1,s.2.2.2.2.1,s.2.2.2.2.2):H2) fun _ t =>
   if t.2.2.2.2.1 > 1 then N8 a b (t.2.2.2.2.1-1) t.2.2.2.1 t.2.1 t.2.2.1 t.2.2.2.2.2.1 t.2.2.2.2.2.2 else N8 a b t.2.2.2.2.1 t.2.2.2.1 t.2.1 t.2.2.1 t.2.2.2.2.2.1 t.2.2.2.2.2.2)
  match t.1 with
  | some r=>pure (.done (some r,t.2.1,t.2.2.1,t.2.2.2.1,t.2.2.2.2.1))
  | none=>do
   iK (t.2.2.2.2.1+1)
   pure (.yield (none,t.2.1,t.2.2.1,t.2.2.2.1,t.2.2.2.2.1+1))
def Qd:SM (Array Keyed):=do
 liftM (rule "list.sort.merge-hi")
 let x ← elem' a (a.size-1)
 if (a.size-1==0)=true then pure (IW a b #[x] (a.size-1) b.size)
 else if (b.size==1)=true then pure (Ko a b #[x] (a.size-1) b.size)
 else do
  let g ← get
  let s ← (forIn [0:a.size+b.size] ((none,a.size-1,b.size,#[x],gallopOf g):H0) fun _ s=>Hn a b s.2.2.2.1 s.2.1 s.2.2.1 s.2.2.2.2)
  match s.1 with
  | some r=>pure r
  | none=>liftM (unsupported "internal:list.sort.merge-bound" : Sem (Array Keyed))
theorem vW:mG a b=Qd a b:=by
 rw [vN];unfold Qd;refine aL rfl fun _=>aL rfl fun x=>bW rfl (bW rfl (aL rfl fun g=>aL (jQ fun _ s=>?_) fun s=>?_))
 ·unfold Hn;refine aL (jQ fun _ s=>?_) fun s=>?_
  ·unfold GP;refine aL rfl fun x=>aL rfl fun y=>aL rfl fun r=>?_;cases r <;> rfl
  ·obtain ⟨r,o,i,j,ac,bc⟩:=s;cases r with
   | some r=>rfl
   | none =>
    refine aL rfl fun _=>aL (jQ fun _ s=>?_) fun s=>?_
    ·refine bW ?_ ?_ <;> unfold N8 <;> refine aL rfl fun _=>aL rfl fun y=>aL rfl fun r=>?_
     all_goals
      cases r with
      | none=>rfl
      | some k =>
       refine bW (bW rfl ?_) ?_ <;> unfold O4 <;> refine aL rfl fun _=>bW rfl (aL rfl fun y=>aL rfl fun r=>?_)
       all_goals cases r <;> rfl
    ·obtain ⟨r,o,i,j,ac,bc⟩:=s;cases r <;> rfl
 ·obtain ⟨r,o,i,j,ac⟩:=s;cases r <;> rfl
end
def GH (a b out:Array Keyed)(na nb:Nat):Prop:=MH a b out na nb∧0<na∧1<nb∧na ≤ a.size∧nb ≤ b.size
section
variable {prog:Program}{w:World}{A:Around}{E:Value →Shared →Prop}{s:Shared}{a b out:Array Keyed}{na nb ac bc mg n:Nat}{st:SortSt}
theorem jD.first (H:jD a b)(m:MH a b out na nb)(e:nb=1):Ax a b (Ko a b out na nb) :=
 m.firstB fun i hi j hj h=>by
  have z:i=0:=by omega
  subst z;exact H.fb j hj hi
def Y0 (a b:Array Keyed)(n:Nat)(c:H0):Prop:=∃ i j o mg,c=(none,i,j,o,mg)∧GH a b o i j∧i+j+n ≤ a.size+b.size
def Y1 (a b:Array Keyed)(n:Nat)(c:H1):Prop:=∃ i j o ac bc,c=(none,i,j,o,ac,bc)∧GH a b o i j∧i+j+n ≤ a.size+b.size
def Y2 (a b:Array Keyed)(n:Nat)(c:H2):Prop:=∃ i j o mg ac bc,c=(none,i,j,o,mg,ac,bc)∧GH a b o i j∧i+j+n ≤ a.size+b.size
theorem MH.pushB' (m:MH a b out na nb)(h0:0<nb)(hb:nb ≤ b.size)(h:∀ j (hj:j<a.size),j<na →ky a[j] ≤ ky (b[nb-1]'(by omega))):MH a b (out.push (b[nb-1]'(by omega))) na (nb-1):=by
 obtain ⟨k,rfl⟩:∃ k,nb=k+1:=⟨nb-1,by omega⟩
 exact m.pushB (by omega) h
theorem MH.pushA' (m:MH a b out na nb)(h0:0<na)(ha:na ≤ a.size)(h:∀ j (hj:j<b.size),j<nb →ky b[j] ≤ ky (a[na-1]'(by omega))):MH a b (out.push (a[na-1]'(by omega))) (na-1) nb:=by
 obtain ⟨k,rfl⟩:∃ k,na=k+1:=⟨na-1,by omega⟩
 exact m.pushA (by omega) h
theorem Dt {Q:ForInStep H1 →SortSt →Prop}(H:jD a b)(hk:kindOf st=oneType')(g:GH a b out na nb)(hn:na+nb+n ≤ a.size+b.size)
  (h:∀ r,(∀ c,r=.done c →GC a b c.1∨Y1 a b (n+1) c) →(∀ c,r=.yield c →Y1 a b (n+1) c) →Q r st):wpS (model prog w) A E s (GP a b mg out na nb ac bc) Q st:=by
 obtain ⟨m,h1,h2,h4,h5⟩:=g;have h3:na-1<a.size:=by omega
 have h6:nb-1<b.size:=by omega
 unfold GP;refine wpS_bind (bO h6 (wpS_bind (bO h3 (wpS_bind (uJ hk (H.ib _ (Yv h6)) (H.ia _ (Yv h3)) ?_)))));dsimp only
 by_cases z:ky b[nb-1]<ky a[na-1]
 ·rw [if_pos (decide_eq_true z)];refine wpS_bind (bO h3 ?_);have m':MH a b (out.push a[na-1]) (na-1) nb:=m.pushA' h1 h4 fun j hj hij=>Yr (eH H.sb h6 (by omega)) (Yw z)
  by_cases e:na-1=0
  ·rw [if_pos (by simpa using e)];exact wpS_pure (h _ (fun c hc=>by cases hc; exact .inl ⟨_,rfl,m'.done (.inl e)⟩) fun c hc=>nomatch hc)
  ·rw [if_neg (by simpa using e)];have g':GH a b (out.push a[na-1]) (na-1) nb:=⟨m',by omega,h2,by omega,h5⟩
   split
   ·exact wpS_pure (h _ (fun c hc=>by cases hc; exact .inr ⟨_,_,_,_,_,rfl,g',by omega⟩) fun c hc=>nomatch hc)
   ·exact wpS_pure (h _ (fun c hc=>nomatch hc) fun c hc=>by cases hc; exact ⟨_,_,_,_,_,rfl,g',by omega⟩)
 ·rw [if_neg (by simpa using z)];refine wpS_bind (bO h6 ?_);have m':MH a b (out.push b[nb-1]) na (nb-1):=m.pushB' (by omega) h5 fun j hj hij=>Yr (eH H.sa h3 (by omega)) (aAW.mp z)
  by_cases e:nb-1=1
  ·rw [if_pos (by simpa using e)];exact wpS_pure (h _ (fun c hc=>by cases hc; exact .inl ⟨_,rfl,H.first m' e⟩) fun c hc=>nomatch hc)
  ·rw [if_neg (by simpa using e)];have g':GH a b (out.push b[nb-1]) na (nb-1):=⟨m',h1,by omega,h4,by omega⟩
   split
   ·exact wpS_pure (h _ (fun c hc=>by cases hc; exact .inr ⟨_,_,_,_,_,rfl,g',by omega⟩) fun c hc=>nomatch hc)
   ·exact wpS_pure (h _ (fun c hc=>nomatch hc) fun c hc=>by cases hc; exact ⟨_,_,_,_,_,rfl,g',by omega⟩)
abbrev P2 (a b:Array Keyed)(n:Nat)(Q:ForInStep H2 →SortSt →Prop)(st:SortSt):Prop:=∀ r st',SG st st' →(∀ c,r=.done c →GC a b c.1∨Y2 a b n c) →(∀ c,r=.yield c →Y2 a b n c) →Q r st'
theorem Ak {Q:ForInStep H2 →SortSt →Prop}(H:jD a b)(m:MH a b out na nb)(h1:0<na)(h2:1<nb)(h4:na ≤ a.size)(h5:nb ≤ b.size)(z:ky (b[nb-1]'(by omega)) ≤ ky (a[na-1]'(by omega)))(hn:na+nb+n ≤ a.size+b.size)(h:P2 a b n Q st):wpS (model prog w) A E s (Ol a b mg out na nb ac bc) Q st:=by
 have h3:na-1<a.size:=by omega
 have h6:nb-1<b.size:=by omega
 unfold Ol;refine wpS_bind (bO h3 ?_);have m':MH a b (out.push a[na-1]) (na-1) nb:=m.pushA' h1 h4 fun j hj hij=>Yr (eH H.sb h6 (by omega)) z
 by_cases e:na-1=0
 ·rw [if_pos (by simpa using e)];exact wpS_pure (h _ _ (SG.refl _) (fun c hc=>by cases hc; exact .inl ⟨_,rfl,m'.done (.inl e)⟩) fun c hc=>nomatch hc)
 ·rw [if_neg (by simpa using e)];have g':GH a b (out.push a[na-1]) (na-1) nb:=⟨m',by omega,h2,by omega,h5⟩
  split
  ·exact wpS_pure (h _ _ (SG.refl _) (fun c hc=>by cases hc; exact .inr ⟨_,_,_,_,_,_,rfl,g',by omega⟩) fun c hc=>nomatch hc)
  ·exact wpS_pure (h _ _ (SG.refl _) (fun c hc=>nomatch hc) fun c hc=>by cases hc; exact ⟨_,_,_,_,_,_,rfl,g',by omega⟩)
theorem Ai {Q:ForInStep H2 →SortSt →Prop}(H:jD a b)(hk:kindOf st=oneType')(m:MH a b out na nb)(h1:0<na)(h2:1<nb)(h4:na ≤ a.size)(h5:nb ≤ b.size)(z:ky (a[na-1]'(by omega)) ≤ ky (b[nb-1]'(by omega)))(hn:na+nb+n ≤ a.size+b.size)(h:P2 a b n Q st):wpS (model prog w) A E s (O4 a b mg out na nb ac bc) Q st:=by
 have h3:na-1<a.size:=by omega
 have h6:nb-1<b.size:=by omega
 unfold O4;refine wpS_bind (bO h6 ?_);have m':MH a b (out.push b[nb-1]) na (nb-1):=m.pushB' (by omega) h5 fun j hj hij=>Yr (eH H.sa h3 (by omega)) z
 by_cases e:nb-1=1
 ·rw [if_pos (by simpa using e)];exact wpS_pure (h _ _ (SG.refl _) (fun c hc=>by cases hc; exact .inl ⟨_,rfl,H.first m' e⟩) fun c hc=>nomatch hc)
 ·rw [if_neg (by simpa using e)];refine wpS_bind (bO h3 (wpS_bind (gP hk (H.ia _ (Yv h3)) H.ib (fun i j hj hij _ _=>eH H.sb hj hij) (by omega) (by omega) fun k k1 k2 k3=>?_)));dsimp only;have m2:MH a b (out.push b[nb-1]++(b.extract k (nb-1)).reverse) na k:=m'.bulkB k1 fun i hi j hj i1 i2 i3=>Yr (eH H.sa h3 (by omega)) (oM.2.mp (k3 i hi (by omega) (by omega)))
  by_cases k0:nb-1-k > 0
  ·rw [if_pos k0]
   by_cases e1:k=1
   ·rw [if_pos (by simpa using e1)];exact wpS_pure (h _ _ (SG.refl _) (fun c hc=>by cases hc; exact .inl ⟨_,rfl,H.first m2 e1⟩) fun c hc=>nomatch hc)
   ·rw [if_neg (by simpa using e1)]
    by_cases e2:k=0
    ·rw [if_pos (by simpa using e2)];exact wpS_pure (h _ _ (SG.refl _) (fun c hc=>by cases hc; exact .inl ⟨_,rfl,m2.done (.inr e2)⟩) fun c hc=>nomatch hc)
    ·rw [if_neg (by simpa using e2)];exact Ak H m2 h1 (by omega) h4 (by omega) (Yw (oM.1.mp (k2 (k-1) (by omega) (by omega) (by omega)))) (by omega) h
  ·rw [if_neg k0];exact Ak H m' h1 (by omega) h4 (by omega) (Yw (oM.1.mp (k2 (nb-1-1) (by omega) (by omega) (by omega)))) (by omega) h
theorem GK {Q:ForInStep H2 →SortSt →Prop}(H:jD a b)(hk:kindOf st=oneType')(g:GH a b out na nb)(hn:na+nb+n ≤ a.size+b.size)(h:P2 a b n Q st):wpS (model prog w) A E s (N8 a b mg out na nb ac bc) Q st:=by
 obtain ⟨m,h1,h2,h4,h5⟩:=g;have h3:na-1<a.size:=by omega
 have h6:nb-1<b.size:=by omega
 unfold N8 iK;refine wpS_bind (wpS_modify ?_);have sg:SG st (SortSt.mk' (kindOf st) (arrOf st) (pendingOf st) mg (failedOf st)):=⟨mg,rfl⟩
 generalize SortSt.mk' (kindOf st) (arrOf st) (pendingOf st) mg (failedOf st)=st1 at sg ⊢;have hk1:kindOf st1=oneType':=sg.kind.trans hk;have h':P2 a b n Q st1:=fun r st' s1=>h r st' (sg.trans s1);refine wpS_bind (bO h6 (wpS_bind (gP hk1 (H.ib _ (Yv h6)) H.ia (fun i j hj hij _ _=>eH H.sa hj hij) (by omega) (by omega) fun k k1 k2 k3=>?_)));dsimp only;have m2:MH a b (out++(a.extract k na).reverse) k nb:=m.bulkA k1 fun i hi j hj i1 i2 i3=>Yr (eH H.sb h6 (by omega)) (Yw (mC.2.mp (k3 i hi (by omega) (by omega))))
 by_cases k0:na-k > 0
 ·rw [if_pos k0]
  by_cases e1:k=0
  ·rw [if_pos (by simpa using e1)];exact wpS_pure (h' _ _ (SG.refl _) (fun c hc=>by cases hc; exact .inl ⟨_,rfl,m2.done (.inl e1)⟩) fun c hc=>nomatch hc)
  ·rw [if_neg (by simpa using e1)];exact Ai H hk1 m2 (by omega) h2 (by omega) h5 (mC.1.mp (k2 (k-1) (by omega) (by omega) (by omega))) (by omega) h'
 ·rw [if_neg k0];exact Ai H hk1 m h1 h2 h4 h5 (mC.1.mp (k2 (na-1) (by omega) (by omega) (by omega))) hn h'
theorem Eb {Q:ForInStep H0 →SortSt →Prop}(H:jD a b)(hk:kindOf st=oneType')(g:GH a b out na nb)(hn:na+nb+n ≤ a.size+b.size)
  (h:∀ r st',SG st st' →(∀ c,r=.done c →GC a b c.1) →(∀ c,r=.yield c →Y0 a b (n+1) c) →Q r st'):wpS (model prog w) A E s (Hn a b out na nb mg) Q st:=by
 unfold Hn;refine wpS_bind (wpS_mono (wpS_forRange (I:=fun x c st'=>st'=st∧Y1 a b (n+x) c) (Q:=fun c st'=>st'=st∧(GC a b c.1∨Y1 a b (n+1) c)) ?step ?fin ⟨rfl,_,_,_,_,_,rfl,g,hn⟩) ?post)
 case fin =>
  rintro c st' ⟨rfl,o,i,j,ac,bc,rfl,g',hh⟩;have:=g'.2;exact ⟨rfl,.inr ⟨o,i,j,ac,bc,rfl,g',by omega⟩⟩
 case step =>
  rintro x c st' _ hx ⟨rfl,i,j,o,ac,bc,rfl,g',hh⟩;refine Dt H hk g' hh fun r h1 h2=>?_;cases r with
  | done c =>
   refine ⟨rfl,?_⟩;rcases h1 c rfl with z | ⟨o,i,j,ac,bc,e,g2,hh2⟩
   ·exact .inl z
   ·exact .inr ⟨o,i,j,ac,bc,e,g2,by omega⟩
  | yield c=>exact ⟨rfl,h2 c rfl⟩
 case post =>
  rintro c st' ⟨rfl,z | ⟨i,j,o,ac,bc,rfl,g',hh⟩⟩
  ·obtain ⟨r,e,hr⟩:=z;obtain ⟨c1,c2⟩:=c;obtain rfl:c1=some r:=e;exact wpS_pure (h _ _ (SG.refl _) (fun c hc=>by cases hc; exact ⟨r,rfl,hr⟩) fun c hc=>nomatch hc)
  ·dsimp only;refine wpS_bind (wpS_lift (wpAny_rule ⟨rfl,?_⟩));refine wpS_bind (wpS_mono (wpS_forRange (I:=fun x c st2=>SG st' st2∧Y2 a b (n+1) c) (Q:=fun c st2=>SG st' st2∧(GC a b c.1∨Y2 a b (n+1) c)) ?step ?fin ⟨SG.refl _,_,_,_,_,_,_,rfl,g',hh⟩) ?post)
   case fin =>
    rintro c st2 ⟨sg,z⟩;exact ⟨sg,.inr z⟩
   case step =>
    rintro x c st2 _ hx ⟨sg,i,j,o,mg,ac,bc,rfl,g2,hh2⟩;have hk2:=sg.kind.trans hk;dsimp only
    split
    all_goals
     refine GK H hk2 g2 hh2 fun r st3 s1 h1 h2=>?_;cases r with
     | done c=>exact ⟨sg.trans s1,h1 c rfl⟩
     | yield c=>exact ⟨sg.trans s1,h2 c rfl⟩
   case post =>
    rintro c st2 ⟨sg,z | ⟨i,j,o,mg,ac,bc,rfl,g2,hh2⟩⟩
    ·obtain ⟨r,e,hr⟩:=z;obtain ⟨c1,c2⟩:=c;obtain rfl:c1=some r:=e;exact wpS_pure (h _ _ sg (fun c hc=>by cases hc; exact ⟨r,rfl,hr⟩) fun c hc=>nomatch hc)
    ·dsimp only;unfold iK;refine wpS_bind (wpS_modify (wpS_pure (h _ _ (sg.trans ⟨_,rfl⟩) (fun c hc=>nomatch hc) fun c hc=>by cases hc; exact ⟨_,_,_,_,rfl,g2,hh2⟩)))
theorem wQ {Q:Array Keyed →SortSt →Prop}(H:jD a b)(hk:kindOf st=oneType')(ha:0<a.size)(hb:0<b.size)(h:∀ r st',SG st st' →Ax a b r →Q r st'):wpS (model prog w) A E s (mG a b) Q st:=by
 rw [vW];unfold Qd;refine wpS_bind (wpS_lift (wpAny_rule ⟨rfl,?_⟩));refine wpS_bind (bO (show a.size-1<a.size by omega) ?_);have m:=MH.start H.sa H.sb ha fun j hj=>H.la j hj (a.size-1) (by omega) (by omega)
 by_cases e:a.size-1=0
 ·rw [if_pos (by simpa using e)];exact wpS_pure (h _ _ (SG.refl _) (m.done (.inl e)))
 ·rw [if_neg (by simpa using e)]
  by_cases e2:b.size=1
  ·rw [if_pos (by simpa using e2)];exact wpS_pure (h _ _ (SG.refl _) (H.first m e2))
  ·rw [if_neg (by simpa using e2)];refine wpS_bind (wpS_get ?_);refine wpS_bind (wpS_mono (wpS_forRange (I:=fun x c st'=>SG st st'∧Y0 a b (x+1) c) (Q:=fun c st'=>SG st st'∧GC a b c.1) ?step ?fin ⟨SG.refl _,_,_,_,_,rfl,⟨m,by omega,by omega,by omega,by omega⟩,by omega⟩) ?post)
   case fin =>
    rintro c st' ⟨sg,o,i,j,mg,rfl,g,hh⟩;have:=g.2;omega
   case step =>
    rintro x c st' _ hx ⟨sg,i,j,o,mg,rfl,g,hh⟩;refine Eb H (sg.kind.trans hk) g hh fun r st2 s1 h1 h2=>?_;cases r with
    | done c=>exact ⟨sg.trans s1,h1 c rfl⟩
    | yield c=>exact ⟨sg.trans s1,h2 c rfl⟩
   case post =>
    rintro ⟨c1,c2⟩ st' ⟨sg,r,e,hr⟩;obtain rfl:c1=some r:=e;exact wpS_pure (h _ _ sg hr)
end
theorem rU:∀ (l:List Keyed) (n at_:Nat) (xs:Array Keyed),at_+n+l.length ≤ xs.size →
  ((l.zipIdx n).foldl (fun a (p,j)=>a.setIfInBounds (at_+j) p) xs).toList=xs.toList.take (at_+n)++(l++xs.toList.drop (at_+n+l.length))
 | [],n,at_,xs,h=>by simp
 | p::l,n,at_,xs,h=>by
  rw [List.zipIdx_cons,aBa];have hl:(p::l).length=l.length+1:=rfl;rw [rU l (n+1) at_ _ (by rw [Array.size_setIfInBounds]; rw [hl] at h; omega)];rw [Array.toList_setIfInBounds];have e1:(xs.toList.set (at_+n) p).take (at_+(n+1))=xs.toList.take (at_+n)++[p]:=by
   rw [show at_+(n+1)=at_+n+1 by omega,aAu,List.take_set_of_le (YD _),Z5 (by rw [YJ]; rw [hl] at h; omega)]
   rfl
  have e2:(xs.toList.set (at_+n) p).drop (at_+(n+1)+l.length)=xs.toList.drop (at_+n+(p::l).length):=by
   rw [List.drop_set_of_lt (by omega)]
   congr 1
   rw [hl]; omega
  rw [e1,e2,YX]
  rfl
theorem CQ {xs:Array Keyed}{i:Nat}(h:i<xs.size):K xs i=ky xs[i]:=by
 unfold K ky;rw [getElem?_pos xs i h]
theorem Kc {xs:Array Keyed}(h:SL xs.toList):SortedTo xs xs.size:=fun i j hij hj=>by
 rw [CQ hj,CQ (show i<xs.size by omega)];exact eH h hj hij
section
variable {prog:Program}{w:World}{A:Around}{E:Value →Shared →Prop}{s:Shared}{st:SortSt}
theorem wW (i:Nat):mergeAt' i=(do
 let s ← get
 let (some (sa,na,power),some (sb,nb,_)):=((pendingOf s)[i]?,(pendingOf s)[i+1]?) | unsupported "internal:list.sort.pending"
 set (setPending s (((pendingOf s).setIfInBounds i (sa,na+nb,power)).eraseIdxIfInBounds (i+1)))
 let some k ← c7 false (← elem' (arrOf s) sb) (arrOf s) sa na 0 | return false
 let (sa,na):=(sa+k,na-k)
 if na==0 then return true
 let some nb ← c7 true (← elem' (arrOf s) (sa+na-1)) (arrOf s) sb nb (nb-1) | return false
 if nb==0 then return true
 let x:=(arrOf s).extract sa sb
 let y:=(arrOf s).extract sb (sb+nb)
 let merged ← if na ≤ nb then lQ x y else mG x y
 modify fun s=>setArr s (merged.toList.zipIdx.foldl (fun a (p,j)=>a.setIfInBounds (sa+j) p) (arrOf s))
 return (failedOf (← get)).isNone):=rfl
theorem HB {Q:PUnit →SortSt →Prop}{x:SortSt}(h:Q ⟨⟩ x):wpS (model prog w) A E s (set x:SM PUnit) Q st:=by
 unfold wpS; rw [StateT.run_set]; exact wpAny_pure ⟨rfl,h⟩
theorem n6 {xs:Array Keyed}{i j k:Nat}(h:k<(xs.extract i j).size):(xs.extract i j)[k]=xs[i+k]'(by rw [aAr] at h; omega):=by rw [Array.getElem_extract]
theorem wC {n1 n2 p q:Nat}{xs:Array Keyed}{Q:Bool →SortSt →Prop}(hxs:arrOf st=xs)(hk:kindOf st=oneType')(hI:∀ p∈xs,Cr p)(hp:pendingOf st = #[(0,n1,p),(n1,n2,q)])(hsz:xs.size=n1+n2)(h1:1 ≤ n1)(h2:1 ≤ n2)
  (s1:∀ i j (hj:j<xs.size) (hij:i ≤ j),j<n1 →ky (xs[i]'(by omega)) ≤ ky xs[j]) (s2:∀ i j (hj:j<xs.size) (hij:i ≤ j),n1 ≤ i →ky (xs[i]'(by omega)) ≤ ky xs[j]) (hf:failedOf st=none)
  (h:∀ st',(arrOf st').toList.Perm xs.toList →kindOf st'=oneType' →failedOf st'=none →pendingOf st' = #[(0,n1+n2,p)] →SL (arrOf st').toList →Q true st'):wpS (model prog w) A E s (mergeAt' 0) Q st:=by
 rw [wW];refine wpS_bind (wpS_get ?_);rw [hp,hxs];dsimp only [aAe,List.getElem?_cons_zero,List.getElem?_cons_succ];refine wpS_bind (HB ?_);have ep:((#[(0,n1,p),(n1,n2,q)]:Array (Nat×Nat×Nat)).setIfInBounds 0 (0,n1+n2,p)).eraseIdxIfInBounds (0+1) = #[(0,n1+n2,p)]:=by simp [Array.eraseIdxIfInBounds]
 rw [ep];generalize hst:setPending st #[(0,n1+n2,p)]=st1;have a1:arrOf st1=xs:=by rw [← hst]; exact hxs
 have k1:kindOf st1=oneType':=by rw [← hst]; exact hk
 have f1:failedOf st1=none:=by rw [← hst]; exact hf
 have p1:pendingOf st1 = #[(0,n1+n2,p)]:=by rw [← hst]
 have fin:SL xs.toList →Q true st1:=fun sl=>h st1 (by rw [a1]) k1 f1 p1 (by rw [a1]; exact sl);have lt1:n1<xs.size:=by omega
 refine wpS_bind (bO lt1 (wpS_bind (gP k1 (hI _ (Yv lt1)) hI (fun i j hj hij _ hj2=>s1 i j hj hij (by omega)) (by omega) (by omega) fun k c1 c2 c3=>?_)));dsimp only;have whole:(∀ i (hi:i<xs.size),i<n1 →ky xs[i] ≤ ky xs[n1]) →SL xs.toList:=fun hh=>by
  refine Yn.mpr fun i j hi hj hij=>?_;rw [YJ] at hi hj;simp only [Yx]
  by_cases z:j<n1
  ·exact s1 i j hj (by omega) z
  ·by_cases z2:i<n1
   ·exact Yr (hh i hi z2) (s2 n1 j hj (by omega) (YD _))
   ·exact s2 i j hj (by omega) (by omega)
 by_cases e1:n1-k=0
 ·rw [if_pos (by simpa using e1)];exact wpS_pure (fin (whole fun i hi hl=>mC.1.mp (c2 i hi (by omega) (by omega))))
 ·rw [if_neg (by simpa using e1)];have el:0+k+(n1-k)-1=n1-1:=by omega
  have lt2:n1-1<xs.size:=by omega
  simp only [el];refine wpS_bind (bO lt2 (wpS_bind (gP k1 (hI _ (Yv lt2)) hI (fun i j hj hij hi _=>s2 i j hj hij hi) (by omega) (by omega) fun m d1 d2 d3=>?_)));dsimp only
  by_cases e2:m=0
  ·rw [if_pos (by simpa using e2)];refine wpS_pure (fin (whole fun i hi hl=>?_));exact Yr (s1 i (n1-1) lt2 (by omega) (by omega)) (oM.2.mp (d3 n1 lt1 (by omega) (by omega)))
  ·rw [if_neg (by simpa using e2)];have hx:(xs.extract (0+k) n1).size=n1-k:=by rw [aAr]; omega
   have hy:(xs.extract n1 (n1+m)).size=m:=by rw [aAr]; omega
   have H:jD (xs.extract (0+k) n1) (xs.extract n1 (n1+m)):=by
    refine ⟨fun p hp=>?_,fun p hp=>?_,?_,?_,fun j hj i hi e=>?_,fun j hj h0=>?_⟩
    ·obtain ⟨i,hi,rfl⟩:=aAK.mp hp;rw [n6]; exact hI _ (Yv _)
    ·obtain ⟨i,hi,rfl⟩:=aAK.mp hp;rw [n6]; exact hI _ (Yv _)
    ·refine Yn.mpr fun i j hi hj hij=>?_;simp only [Yx,n6];rw [YJ,hx] at hj;exact s1 _ _ (by omega) (by omega) (by omega)
    ·refine Yn.mpr fun i j hi hj hij=>?_;simp only [Yx,n6];rw [YJ,hy] at hj;exact s2 _ _ (by omega) (by omega) (by omega)
    ·rw [n6,n6];rw [hx] at e hi;rw [hy] at hj;have ee:0+k+i=n1-1:=by omega
     simp only [ee];exact Yw (oM.1.mp (d2 (n1+j) (by omega) (by omega) (by omega)))
    ·rw [n6,n6];rw [hx] at hj;simp only [Nat.add_zero];exact Yw (mC.2.mp (c3 (0+k+j) (by omega) (by omega) (by omega)))
   have key:∀ r st',SG st1 st' →Ax (xs.extract (0+k) n1) (xs.extract n1 (n1+m)) r →
     wpS (model prog w) A E s (do
      modify fun s=>setArr s (r.toList.zipIdx.foldl (fun a (p,j)=>a.setIfInBounds (0+k+j) p) (arrOf s))
      let __do_lift ← get
      pure (failedOf __do_lift).isNone) Q st':=by
    rintro r st' ⟨g,rfl⟩ ⟨m1,m2⟩;refine wpS_bind (wpS_modify (wpS_bind (wpS_get (wpS_pure ?_))));have hr:r.toList.length=n1-k+m:=by rw [m2.length_eq,YQ,YJ,YJ,hx,hy]
    have el:=rU r.toList 0 (0+k) xs (by rw [hr]; omega);simp only [Nat.add_zero,hr] at el;have es:xs.toList=xs.toList.take (0+k)++(((xs.extract (0+k) n1).toList++(xs.extract n1 (n1+m)).toList)++xs.toList.drop (0+k+(n1-k+m))):=by
     rw [eE,eE,YX]
     conv=>lhs; rw [← Zn (0+k) xs.toList,← Zn (n1-(0+k)) (xs.toList.drop (0+k)),aAM,← Zn (n1+m-n1) (xs.toList.drop (0+k+(n1-(0+k)))),aAM]
     rw [show 0+k+(n1-(0+k))=n1 by omega,show n1+(n1+m-n1)=0+k+(n1-k+m) by omega]
    have e0:(failedOf st1).isNone=true:=by rw [f1]; rfl
    show Q (failedOf st1).isNone _;rw [e0];have ea:arrOf (SortSt.mk' (kindOf st1) (arrOf st1) (pendingOf st1) g (failedOf st1))=xs:=a1;refine h _ ?_ k1 f1 p1 ?_
    ·show (r.toList.zipIdx.foldl (fun a (p,j)=>a.setIfInBounds (0+k+j) p) (arrOf (SortSt.mk' (kindOf st1) (arrOf st1) (pendingOf st1) g (failedOf st1)))).toList.Perm xs.toList;rw [ea,el]
     conv=>rhs; rw [es]
     exact ZD.append_left _ (ZD.append_right _ m2)
    ·show SL (r.toList.zipIdx.foldl (fun a (p,j)=>a.setIfInBounds (0+k+j) p) (arrOf (SortSt.mk' (kindOf st1) (arrOf st1) (pendingOf st1) g (failedOf st1)))).toList;rw [ea,el];have inR:∀ x∈r.toList,(∃ i,∃ hi:i<xs.size,k ≤ i∧i<n1∧x=xs[i])∨(∃ i,∃ hi:i<xs.size,n1 ≤ i∧i<n1+m∧x=xs[i]):=fun x hx=>by
      rcases Y9.mp (m2.mem_iff.mp hx) with z | z
      ·rw [eE] at z;obtain ⟨j,hj,b1,b2,rfl⟩:=m5 z;exact .inl ⟨j,hj,by omega,by omega,rfl⟩
      ·rw [eE] at z;obtain ⟨j,hj,b1,b2,rfl⟩:=m5 z;exact .inr ⟨j,hj,by omega,by omega,rfl⟩
     have tk:∀ x∈xs.toList.take (0+k),∃ i,∃ hi:i<xs.size,i<k∧x=xs[i]:=fun x hx=>by
      obtain ⟨j,hj,b1,rfl⟩:=lH hx;exact ⟨j,hj,by omega,rfl⟩
     have dr:∀ x∈xs.toList.drop (0+k+(n1-k+m)),∃ i,∃ hi:i<xs.size,n1+m ≤ i∧x=xs[i]:=fun x hx=>by
      obtain ⟨j,hj,b1,rfl⟩:=fV hx;exact ⟨j,hj,by omega,rfl⟩
     have pw:∀ l:List Keyed,(∃ n,l=xs.toList.take n∧n ≤ n1)∨(∃ n,l=xs.toList.drop n∧n1 ≤ n) →SL l:=fun l hl=>by
      rcases hl with ⟨n,rfl,hn⟩ | ⟨n,rfl,hn⟩
      ·refine Yn.mpr fun i j hi hj hij=>?_;rw [ZJ,YJ] at hj;simp only [aAb,Yx];exact s1 i j (by omega) (by omega) (by omega)
      ·refine Yn.mpr fun i j hi hj hij=>?_;rw [Ze,YJ] at hj;simp only [Zo,Yx];exact s2 _ _ (by omega) (by omega) (by omega)
     have lowk:∀ i (hi:i<xs.size),i<k →ky xs[i] ≤ ky xs[n1]:=fun i hi hik=>mC.1.mp (c2 i hi (by omega) (by omega));rw [nG];refine ⟨pw _ (.inl ⟨_,rfl,by omega⟩),nG.mpr ⟨m1,pw _ (.inr ⟨_,rfl,by omega⟩),fun x hx y hy=>?_⟩,fun x hx y hy=>?_⟩
     ·obtain ⟨j,hj,b1,rfl⟩:=dr y hy;rcases inR x hx with ⟨i,hi,b2,b3,rfl⟩ | ⟨i,hi,b2,b3,rfl⟩
      ·exact Yr (s1 i (n1-1) lt2 (by omega) (by omega)) (oM.2.mp (d3 j hj (by omega) (by omega)))
      ·exact s2 i j hj (by omega) b2
     ·obtain ⟨i,hi,b1,rfl⟩:=tk x hx;rcases Y9.mp hy with z | z
      ·rcases inR y z with ⟨j,hj,b2,b3,rfl⟩ | ⟨j,hj,b2,b3,rfl⟩
       ·exact s1 i j hj (by omega) (by omega)
       ·exact Yr (lowk i hi b1) (s2 n1 j hj (by omega) (YD _))
      ·obtain ⟨j,hj,b2,rfl⟩:=dr y z;exact Yr (lowk i hi b1) (s2 n1 j hj (by omega) (YD _))
   split
   ·exact wpS_bind (wZ H k1 (by rw [hx]; omega) (by rw [hy]; omega) key)
   ·exact wpS_bind (wQ H k1 (by rw [hx]; omega) (by rw [hy]; omega) key)
end
structure SC (a₀ pre:Array Keyed)(lo:Nat)(pn:Array (Nat×Nat×Nat))(st:SortSt):Prop where
 perm:(arrOf st).Perm a₀
 kind:kindOf st=oneType'
 failed:failedOf st=none
 pend:pendingOf st=pn
 keep:∀ i,i<lo →(arrOf st)[i]? = pre[i]?
def xN (xs:Array Keyed)(lo n:Nat):Prop:=∀ i j,lo ≤ i →i ≤ j →j<lo+n →K xs i ≤ K xs j
def Jo (xs:Array Keyed)(lo n:Nat):Prop:=∀ i j,lo ≤ i →i ≤ j →j<lo+n →K xs j ≤ K xs i
section
variable {a₀ pre:Array Keyed}{lo:Nat}{pn:Array (Nat×Nat×Nat)}{st:SortSt}
theorem SC.size (h:SC a₀ pre lo pn st):(arrOf st).size=a₀.size:=h.perm.size_eq
theorem SC.mir (h:SC a₀ pre lo pn st){i j:Nat}(hi:lo ≤ i)(hj:j ≤ a₀.size):SC a₀ pre lo pn (setArr st (mirror (arrOf st) i j ((j-i)/2))) :=
 ⟨(mirror_perm _ _ _ _).trans h.perm,h.kind,h.failed,h.pend,fun k hk=>by
  show (mirror (arrOf st) i j ((j-i)/2))[k]? = _;rw [getElem?_mirror_all (by rw [h.size]; exact hj),if_neg (by omega)];exact h.keep k hk⟩
theorem SC.bub (h:SC a₀ pre lo pn st){src d:Nat}(hs:src<a₀.size)(hd:lo+d ≤ src):SC a₀ pre lo pn (setArr st (bubble (arrOf st) src d)) :=
 ⟨(bubble_perm _ _ _).trans h.perm,h.kind,h.failed,h.pend,fun k hk=>by
  show (bubble (arrOf st) src d)[k]? = _;rw [getElem?_bubble (by rw [h.size]; exact hs) d (by omega),if_neg (by omega),if_neg (by omega)];exact h.keep k hk⟩
theorem SC.at_ (h:SC a₀ pre lo pn st)(h0:IntKeys a₀){i:Nat}(hi:i<a₀.size):∃ t q,(arrOf st)[i]? = some (.int (K (arrOf st) i) t,q) :=
 SBase.at (st:=setPending st #[]) ⟨h.perm,h.kind,h.failed,rfl⟩ h0 hi
end
section
variable {prog:Program}{w:World}{A:Around}{E:Value →Shared →Prop}{s:Shared}{a₀ pre:Array Keyed}{lo:Nat}{pn:Array (Nat×Nat×Nat)}{st:SortSt}
theorem mF {i j:Nat}{Q:Option Bool →SortSt →Prop}(hB:SC a₀ pre lo pn st)(h0:IntKeys a₀)(hi:i<a₀.size)(hj:j<a₀.size)
  (h:Q (some (decide (K (arrOf st) i<K (arrOf st) j))) st):wpS (model prog w) A E s (ltAt' i j) Q st:=by
 obtain ⟨t,p,e1⟩:=hB.at_ h0 hi;obtain ⟨u,q,e2⟩:=hB.at_ h0 hj;exact wpS_ltAt hB.kind e1 e2 h
theorem vO {n ok:Nat}{Q:Bool →SortSt →Prop}(h0:IntKeys a₀)(hn:lo+n ≤ a₀.size)(hok:ok ≤ n)(hB:SC a₀ pre lo pn st)(hs:xN (arrOf st) lo ok)
  (h:∀ st',SC a₀ pre lo pn st' →xN (arrOf st') lo n →Q true st'):wpS (model prog w) A E s (binarySort' lo n ok) Q st:=by
 rw [binarySort'_eq];refine wpS_bind (wpS_mono (wpS_forRange (I:=fun k c st'=>c=(none,())∧SC a₀ pre lo pn st'∧xN (arrOf st') lo (min k n))
  (Q:=fun c st'=>c=(none,())∧SC a₀ pre lo pn st'∧xN (arrOf st') lo n) ?step ?fin ?init) ?post)
 case post =>
  rintro c st' ⟨rfl,hB',hs'⟩;exact wpS_pure (h st' hB' hs')
 case init =>
  refine ⟨rfl,hB,fun i j hi hij hj=>?_⟩
  by_cases h1:ok=0
  ·have:i=j:=by omega
   subst this; exact Z0 _
  ·exact hs i j hi hij (by omega)
 case fin =>
  rintro c st' ⟨hc,hB',hs'⟩;refine ⟨hc,hB',?_⟩
  rwa [show min (max (max ok 1) n) n=n by omega] at hs'
 case step =>
  rintro k c st' hak hkn ⟨rfl,hB',hs'⟩;rw [show min k n=k by omega] at hs';have hk:lo+k<a₀.size:=by omega
  refine wpS_bind (wpS_mono (wpS_forRange (I:=fun x c st''=>st''=st'∧∃ l r,c=(none,l,r)∧l ≤ r∧r ≤ k∧r-l ≤ k-x ∧
    (∀ i,lo ≤ i →i<lo+l →K (arrOf st') i ≤ K (arrOf st') (lo+k))∧(∀ i,lo+r ≤ i →i<lo+k →K (arrOf st') (lo+k)<K (arrOf st') i))
   (Q:=fun c st''=>st''=st'∧∃ l r,c=(none,l,r)∧l ≤ k ∧
    (∀ i,lo ≤ i →i<lo+l →K (arrOf st') i ≤ K (arrOf st') (lo+k))∧(∀ i,lo+l ≤ i →i<lo+k →K (arrOf st') (lo+k)<K (arrOf st') i)) ?istep ?ifin ?iinit) ?ipost)
  case iinit=>exact ⟨rfl,0,k,rfl,by omega,by omega,by omega,fun i hi=>by omega,fun i h1 h2=>by omega⟩
  case ifin =>
   rintro c st'' ⟨rfl,l,r,rfl,hlr,hrk,hm,hlo,hhi⟩;have:l=r:=by omega
   subst this;exact ⟨rfl,l,l,rfl,hrk,hlo,hhi⟩
  case istep =>
   rintro x c st'' _ hxk ⟨rfl,l,r,rfl,hlr,hrk,hm,hlo,hhi⟩;dsimp only
   by_cases hge:l ≥ r
   ·rw [if_pos hge];have:l=r:=by omega
    subst this;exact wpS_pure ⟨rfl,l,l,rfl,hrk,hlo,hhi⟩
   ·rw [if_neg hge];refine wpS_bind (mF hB' h0 hk (by omega) ?_)
    by_cases hless:K (arrOf st'') (lo+k)<K (arrOf st'') (lo+(l+r)/2)
    ·simp only [hless,decide_true,if_true];refine wpS_pure ⟨rfl,l,(l+r)/2,rfl,by omega,by omega,by omega,hlo,fun i h1 h2=>?_⟩;exact Int.lt_of_lt_of_le hless (hs' _ _ (by omega) h1 (by omega))
    ·simp only [hless,decide_false,YZ,if_false];refine wpS_pure ⟨rfl,(l+r)/2+1,r,rfl,by omega,by omega,by omega,fun i h1 h2=>?_,hhi⟩;exact Yr (hs' i (lo+(l+r)/2) h1 (by omega) (by omega)) (aAW.mp hless)
  case ipost =>
   rintro c st'' ⟨rfl,l,r,rfl,hlk,hlo,hhi⟩;show wpS _ _ _ _ (do moveDown' (lo+k) (lo+l); pure (ForInStep.yield (none,()))) _ _;rw [moveDown'_eq];refine wpS_bind (wpS_modify (wpS_pure ⟨rfl,hB'.bub hk (by omega),?_⟩));rw [show min (k+1) n=k+1 by omega];have hks:lo+k<(arrOf st'').size:=by rw [hB'.size]; exact hk
   intro i j hi hij hj;show K (bubble (arrOf st'') (lo+k) (lo+k-(lo+l))) i ≤ K (bubble (arrOf st'') (lo+k) (lo+k-(lo+l))) j;rw [K_bubble hks (by omega),K_bubble hks (by omega),show lo+k-(lo+k-(lo+l))=lo+l by omega]
   repeat' split
   all_goals first
    | (exfalso; omega)
    | exact Z0 _
    | exact hlo _ (by omega) (by omega)
    | exact Yw (hhi _ (by omega) (by omega))
    | exact hs' _ _ (by omega) (by omega) (by omega)
def zB (lo a nrem:Nat):SM AscSt :=
 forIn [a:nrem] ((none,a):AscSt) fun _ __s=>do
  let __x ← ltAt' (lo+__s.snd) (lo+__s.snd-1)
  match __x with
  | some smaller=>if smaller=true then pure (ForInStep.done (none,__s.snd)) else pure (ForInStep.yield (none,__s.snd+1))
  | _=>pure (ForInStep.done (some none,__s.snd))
def sE (lo n nrem:Nat):SM (Option Nat):=do
 reverseSlice' lo (lo+n)
 let __s ← zB lo n nrem
 match __s.fst with
 | some r=>pure r
 | none=>pure (some __s.snd)
def xA (lo n nrem:Nat):SM DescSt :=
 forIn [n:nrem] ((none,n,0):DescSt) fun _ __s=>do
  let __x ← ltAt' (lo+__s.snd.fst) (lo+__s.snd.fst-1)
  match __x with
  | some smaller =>
   if smaller=true then
    if __s.snd.snd > 0 then do
     reverseSlice' (lo+__s.snd.fst-(__s.snd.snd+1)) (lo+__s.snd.fst)
     pure (ForInStep.yield (none,__s.snd.fst+1,0))
    else pure (ForInStep.yield (none,__s.snd.fst+1,0))
   else do
    let __x ← ltAt' (lo+__s.snd.fst-1) (lo+__s.snd.fst)
    match __x with
    | some larger =>
     if larger=true then pure (ForInStep.done (none,__s.snd.fst,__s.snd.snd))
     else pure (ForInStep.yield (none,__s.snd.fst+1,__s.snd.snd+1))
    | _=>pure (ForInStep.done (some none,__s.snd.fst,__s.snd.snd))
  | _=>pure (ForInStep.done (some none,__s.snd.fst,__s.snd.snd))
def Ju (lo n nrem:Nat):SM (Option Nat):=do
 liftM (rule "list.sort.descending-run")
 let __s ← xA lo (n+1) nrem
 match __s.fst with
 | some r=>pure r
 | none =>
  if __s.snd.snd > 0 then do
   reverseSlice' (lo+__s.snd.fst-(__s.snd.snd+1)) (lo+__s.snd.fst)
   sE lo __s.snd.fst nrem
  else sE lo __s.snd.fst nrem
theorem jC {β:Type}{m n:Nat}{i:β}{f g:Nat →β →SM (ForInStep β)}(h:∀ x c,f x c=g x c):(forIn [m:n] i f)=(forIn [m:n] i g):=by
 have e:f=g:=funext fun x=>funext fun c=>h x c;rw [e]
theorem CN (lo nrem:Nat):countRun' lo nrem=(do
  let __s ← zB lo 1 nrem
  match __s.fst with
  | some r=>pure r
  | none =>
   if (__s.snd==nrem)=true then pure (some __s.snd)
   else if __s.snd > 1 then do
    let __x ← ltAt' lo (lo+__s.snd-1)
    match __x with
    | some rose=>if rose=true then pure (some __s.snd) else do
      reverseSlice' lo (lo+__s.snd)
      Ju lo __s.snd nrem
    | _=>pure none
   else Ju lo __s.snd nrem):=by
 rw [countRun'_eq];refine aL ?_ fun __s=>?_
 ·unfold zB;refine jC fun _ c=>aL rfl fun x=>?_;cases x <;> rfl
 ·obtain ⟨r,n⟩:=__s;cases r with
  | some r=>rfl
  | none =>
   refine bW rfl (bW (aL rfl fun x=>?_) ?_)
   ·cases x with
    | none=>rfl
    | some rose =>
     refine bW rfl (aL rfl fun _=>?_);unfold Ju xA;refine aL rfl fun _=>aL (jC fun _ c=>aL rfl fun x=>?_) fun c=>?_
     ·cases x with
      | none=>rfl
      | some b=>refine bW rfl (aL rfl fun y=>by cases y <;> rfl)
     ·obtain ⟨r,m,q⟩:=c;cases r with
      | some r=>rfl
      | none =>
       refine bW (aL rfl fun _=>?_) ?_
       all_goals
        unfold sE zB;refine aL rfl fun _=>aL (jC fun _ c=>aL rfl fun x=>by cases x <;> rfl) fun c=>?_;obtain ⟨r,m⟩:=c;cases r <;> rfl
   ·unfold Ju xA;refine aL rfl fun _=>aL (jC fun _ c=>aL rfl fun x=>?_) fun c=>?_
    ·cases x with
     | none=>rfl
     | some b=>refine bW rfl (aL rfl fun y=>by cases y <;> rfl)
    ·obtain ⟨r,m,q⟩:=c;cases r with
     | some r=>rfl
     | none =>
      refine bW (aL rfl fun _=>?_) ?_
      all_goals
       unfold sE zB;refine aL rfl fun _=>aL (jC fun _ c=>aL rfl fun x=>by cases x <;> rfl) fun c=>?_;obtain ⟨r,m⟩:=c;cases r <;> rfl
theorem xH {a nrem:Nat}{Q:AscSt →SortSt →Prop}(h0:IntKeys a₀)(hn:lo+nrem ≤ a₀.size)(ha:1 ≤ a)(han:a ≤ nrem)(hB:SC a₀ pre lo pn st)(hs:xN (arrOf st) lo a)
  (h:∀ n,a ≤ n →n ≤ nrem →xN (arrOf st) lo n →(n=nrem∨K (arrOf st) (lo+n)<K (arrOf st) (lo+n-1)) →Q (none,n) st):wpS (model prog w) A E s (zB lo a nrem) Q st:=by
 unfold zB;refine wpS_forRange (I:=fun x c st'=>st'=st∧c=(none,x)∧xN (arrOf st) lo x) ?step ?fin ⟨rfl,rfl,hs⟩
 case fin =>
  rintro c st' ⟨rfl,rfl,hs'⟩;rw [show max a nrem=nrem by omega] at hs' ⊢;exact h nrem han (YD _) hs' (.inl rfl)
 case step =>
  rintro x c st' hax hxn ⟨rfl,rfl,hs'⟩;dsimp only;refine wpS_bind (mF hB h0 (by omega) (by omega) ?_)
  by_cases hless:K (arrOf st') (lo+x)<K (arrOf st') (lo+x-1)
  ·simp only [hless,decide_true,if_true];exact wpS_pure (h x hax (by omega) hs' (.inr hless))
  ·simp only [hless,decide_false,YZ,if_false];refine wpS_pure ⟨rfl,rfl,fun i j hi hij hj=>?_⟩
   by_cases hjx:j<lo+x
   ·exact hs' i j hi hij hjx
   ·have hj':j=lo+x:=by omega
    subst hj'
    by_cases hi':i=lo+x
    ·subst hi'; exact Z0 _
    ·exact Yr (hs' i (lo+x-1) hi (by omega) (by omega)) (aAW.mp hless)
theorem sI {n nrem:Nat}{Q:Option Nat →SortSt →Prop}(h0:IntKeys a₀)(hn:lo+nrem ≤ a₀.size)(h1:1 ≤ n)(hnn:n ≤ nrem)(hB:SC a₀ pre lo pn st)
  (hs:Jo (arrOf st) lo n) (h:∀ m st',SC a₀ pre lo pn st' →1 ≤ m →m ≤ nrem →xN (arrOf st') lo m →Q (some m) st'):wpS (model prog w) A E s (sE lo n nrem) Q st:=by
 unfold sE;have hsz:lo+n ≤ (arrOf st).size:=by rw [hB.size]; omega
 refine wpS_bind (wpS_reverse ?_);have hB':=hB.mir (i:=lo) (j:=lo+n) (YD _) (by omega);refine wpS_bind (xH h0 hn h1 hnn hB' ?_ fun m hm1 hm2 hsm _=>wpS_pure (h m _ hB' (by omega) hm2 hsm));intro i j hi hij hj;show K (mirror (arrOf st) lo (lo+n) ((lo+n-lo)/2)) i ≤ K (mirror (arrOf st) lo (lo+n) ((lo+n-lo)/2)) j;rw [K_mirror hsz,K_mirror hsz,if_pos (by omega),if_pos (by omega)];exact hs _ _ (by omega) (by omega) (by omega)
theorem Be {n nrem:Nat}{Q:DescSt →SortSt →Prop}(h0:IntKeys a₀)(hn:lo+nrem ≤ a₀.size)(h1:1 ≤ n)(hnn:n ≤ nrem)(hB:SC a₀ pre lo pn st)(hs:Jo (arrOf st) lo n)
  (h:∀ m neq st',SC a₀ pre lo pn st' →n ≤ m →m ≤ nrem →Jo (arrOf st') lo m →neq+1 ≤ m →(∀ i,lo+m-(neq+1) ≤ i →i<lo+m →K (arrOf st') i=K (arrOf st') (lo+m-1)) →Q (none,m,neq) st') :
  wpS (model prog w) A E s (xA lo n nrem) Q st:=by
 unfold xA;refine wpS_forRange (I:=fun x c st'=>∃ neq,c=(none,x,neq)∧SC a₀ pre lo pn st'∧Jo (arrOf st') lo x∧neq+1 ≤ x ∧
   (∀ i,lo+x-(neq+1) ≤ i →i<lo+x →K (arrOf st') i=K (arrOf st') (lo+x-1))) ?step ?fin ⟨0,rfl,hB,hs,by omega,fun i h1 h2=>by congr 1; omega⟩
 case fin =>
  rintro c st' ⟨neq,rfl,hB',hs',hq,he⟩;rw [show max n nrem=nrem by omega] at hs' hq he ⊢;exact h nrem neq st' hB' hnn (YD _) hs' hq he
 case step =>
  rintro x c st' hax hxn ⟨neq,rfl,hB',hs',hq,he⟩;dsimp only;have hsz:lo+x ≤ (arrOf st').size:=by rw [hB'.size]; omega
  refine wpS_bind (mF hB' h0 (by omega) (by omega) ?_)
  by_cases hless:K (arrOf st') (lo+x)<K (arrOf st') (lo+x-1)
  ·simp only [hless,decide_true,if_true];have step1:∀ xs:Array Keyed,(∀ k,K xs k=K (arrOf st') k) →Jo xs lo (x+1):=by
    intro xs hk i j hi hij hj;rw [hk,hk]
    by_cases hjx:j<lo+x
    ·exact hs' i j hi hij hjx
    ·have hj':j=lo+x:=by omega
     subst hj'
     by_cases hi':i=lo+x
     ·subst hi'; exact Z0 _
     ·exact Yr (Yw hless) (hs' i (lo+x-1) hi (by omega) (by omega))
   by_cases hneq:neq > 0
   ·rw [if_pos hneq];refine wpS_bind (wpS_reverse (wpS_pure ⟨0,rfl,hB'.mir (by omega) (by omega),step1 _ (K_mirror_equal hsz he),by omega,fun i h1 h2=>by congr 1; omega⟩))
   ·rw [if_neg hneq];exact wpS_pure ⟨0,rfl,hB',step1 _ (fun _=>rfl),by omega,fun i h1 h2=>by congr 1; omega⟩
  ·simp only [hless,decide_false,YZ,if_false];refine wpS_bind (mF hB' h0 (by omega) (by omega) ?_)
   by_cases hlarger:K (arrOf st') (lo+x-1)<K (arrOf st') (lo+x)
   ·simp only [hlarger,decide_true,if_true];exact wpS_pure (h x neq st' hB' hax (by omega) hs' hq he)
   ·simp only [hlarger,decide_false,YZ,if_false];have heqx:K (arrOf st') (lo+x)=K (arrOf st') (lo+x-1):=by omega
    refine wpS_pure ⟨neq+1,rfl,hB',fun i j hi hij hj=>?_,by omega,fun i h1 h2=>?_⟩
    ·by_cases hjx:j<lo+x
     ·exact hs' i j hi hij hjx
     ·have hj':j=lo+x:=by omega
      subst hj'
      by_cases hi':i=lo+x
      ·subst hi'; exact Z0 _
      ·rw [heqx]; exact hs' i (lo+x-1) hi (by omega) (by omega)
    ·rw [show lo+(x+1)-1=lo+x by omega]
     by_cases hix:i=lo+x
     ·subst hix; rfl
     ·rw [heqx]; exact he i (by omega) (by omega)
theorem zX {n nrem:Nat}{Q:Option Nat →SortSt →Prop}(h0:IntKeys a₀)(hn:lo+nrem ≤ a₀.size)(hnn:n+1 ≤ nrem)(hB:SC a₀ pre lo pn st)
  (hs:Jo (arrOf st) lo (n+1)) (h:∀ m st',SC a₀ pre lo pn st' →1 ≤ m →m ≤ nrem →xN (arrOf st') lo m →Q (some m) st'):wpS (model prog w) A E s (Ju lo n nrem) Q st:=by
 unfold Ju;refine wpS_bind (wpS_lift (wpAny_rule ⟨rfl,?_⟩));refine wpS_bind (Be h0 hn (by omega) hnn hB hs fun m neq st' hB' hm1 hm2 hs' hq he=>?_);dsimp only;have hsz:lo+m ≤ (arrOf st').size:=by rw [hB'.size]; omega
 by_cases hneq:neq > 0
 ·rw [if_pos hneq];refine wpS_bind (wpS_reverse (sI h0 hn (by omega) hm2 (hB'.mir (by omega) (by omega)) ?_ h));intro i j hi hij hj;show K (mirror (arrOf st') _ _ _) j ≤ K (mirror (arrOf st') _ _ _) i;rw [K_mirror_equal hsz he,K_mirror_equal hsz he];exact hs' i j hi hij hj
 ·rw [if_neg hneq];exact sI h0 hn (by omega) hm2 hB' hs' h
theorem pL {nrem:Nat}{Q:Option Nat →SortSt →Prop}(h0:IntKeys a₀)(hn:lo+nrem ≤ a₀.size)(h1:1 ≤ nrem)(hB:SC a₀ pre lo pn st)
  (h:∀ m st',SC a₀ pre lo pn st' →1 ≤ m →m ≤ nrem →xN (arrOf st') lo m →Q (some m) st'):wpS (model prog w) A E s (countRun' lo nrem) Q st:=by
 rw [CN];refine wpS_bind (xH h0 hn (YD 1) h1 hB (fun i j hi hij hj=>by have:i=j:=(by omega);subst this;exact Z0 _) fun n hn1 hn2 hsn hor=>?_)
 dsimp only
 by_cases hnn:n=nrem
 ·rw [if_pos (by simpa using hnn)];exact wpS_pure (h n st hB hn1 hn2 hsn)
 ·rw [if_neg (by simpa using hnn)];have hlt:K (arrOf st) (lo+n)<K (arrOf st) (lo+n-1):=hor.resolve_left hnn
  by_cases hgt:n > 1
  ·rw [if_pos hgt];refine wpS_bind (mF hB h0 (by omega) (by omega) ?_)
   by_cases hrose:K (arrOf st) lo<K (arrOf st) (lo+n-1)
   ·simp only [hrose,decide_true,if_true];exact wpS_pure (h n st hB hn1 hn2 hsn)
   ·simp only [hrose,decide_false,YZ,if_false];have hsz:lo+n ≤ (arrOf st).size:=by rw [hB.size]; omega
    have hall:∀ k,lo ≤ k →k<lo+n →K (arrOf st) k=K (arrOf st) (lo+n-1):=by
     intro k hlk hk;have a1:=hsn lo k (YD _) hlk hk;have a2:=hsn k (lo+n-1) hlk (by omega) (by omega);omega
    refine wpS_bind (wpS_reverse (zX h0 hn (by omega) (hB.mir (YD _) (by omega)) ?_ h));intro i j hi hij hj;show K (mirror (arrOf st) _ _ _) j ≤ K (mirror (arrOf st) _ _ _) i;rw [K_mirror_equal hsz hall,K_mirror_equal hsz hall]
    by_cases hjn:j<lo+n
    ·rw [hall i hi (by omega),hall j (by omega) hjn]; exact Z0 _
    ·have hj':j=lo+n:=by omega
     subst hj'
     by_cases hi':i=lo+n
     ·subst hi'; exact Z0 _
     ·rw [hall i hi (by omega)]; exact Yw hlt
  ·rw [if_neg hgt];have hn1':n=1:=by omega
   subst hn1';refine zX h0 hn (by omega) hB ?_ h;intro i j hi hij hj
   by_cases hi':i=j
   ·subst hi'; exact Z0 _
   ·have hi0:i=lo:=by omega
    have hj1:j=lo+1:=by omega
    subst hi0; subst hj1;exact Yw hlt
end
section
variable {prog:Program}{w:World}{A:Around}{E:Value →Shared →Prop}{s:Shared}{a₀:Array Keyed}
structure SE (a₀:Array Keyed)(st:SortSt):Prop where
 perm:(arrOf st).Perm a₀
 kind:kindOf st=oneType'
 failed:failedOf st=none
def JC (a₀:Array Keyed)(r:Nat)(st:SortSt):Prop:=SE a₀ st∧(∃ p,pendingOf st = #[(0,r,p)])∧xN (arrOf st) 0 r
def Jp (a₀:Array Keyed)(st:SortSt):Prop:=SE a₀ st∧∃ r p,1 ≤ r∧r<a₀.size∧pendingOf st = #[(0,r,p),(r,a₀.size-r,0)]∧xN (arrOf st) 0 r∧xN (arrOf st) r (a₀.size-r)
theorem Qv {xs:Array Keyed}(h0:IntKeys a₀)(hp:xs.Perm a₀):∀ p∈xs,Cr p:=fun p hm=>h0 p ((aAs.mp hp).mem_iff.mp (by simpa using hm))
theorem Bl {st:SortSt}{Q:Unit →SortSt →Prop}(h0:IntKeys a₀)(hB:SBase a₀ st)(h64:64 ≤ a₀.size)(h128:a₀.size<128)
  (h:∀ st',(arrOf st').Perm a₀ →failedOf st'=none →SortedTo (arrOf st') a₀.size →Q () st'):wpS (model prog w) A E s sortRuns' Q st:=by
 rw [sortRuns'_eq];refine wpS_bind (wpS_get ?_);dsimp only;obtain ⟨mr,hmr,hm2,hm3⟩:∃ mr,minRun' a₀.size a₀.size 0=mr∧a₀.size ≤ 2*mr∧mr<a₀.size:=by
  refine ⟨a₀.size/2+max 0 (a₀.size%2),?_,by omega,by omega⟩;obtain ⟨f,hf⟩:∃ f,a₀.size=f+2:=⟨a₀.size-2,by omega⟩
  have:minRun' (f+1+1) a₀.size 0=a₀.size/2+max 0 (a₀.size%2):=by rw [minRun'_succ,if_neg (by omega),minRun'_succ,if_pos (by omega)]
  rwa [show f+1+1=a₀.size by omega] at this
 simp only [hB.size,hmr];refine wpS_bind (wpS_mono (wpS_forRange
  (I:=fun x c st'=>(x=0∧c=(none,0)∧SBase a₀ st')∨(x=1∧∃ r,c=(none,r)∧mr ≤ r∧r<a₀.size∧JC a₀ r st')∨(1 ≤ x∧c=(none,a₀.size)∧(JC a₀ a₀.size st'∨Jp a₀ st')))
  (Q:=fun c st'=>c=(none,a₀.size)∧(JC a₀ a₀.size st'∨Jp a₀ st')) ?step ?fin (.inl ⟨rfl,rfl,hB⟩)) ?post)
 case fin =>
  rintro c st' (⟨hx,_,_⟩ | ⟨hx,_⟩ | ⟨_,hc,hD⟩)
  ·omega
  ·omega
  ·exact ⟨hc,hD⟩
 case step =>
  rintro x c st' _ hx (⟨rfl,rfl,hB'⟩ | ⟨rfl,r,rfl,hr1,hr2,hD⟩ | ⟨hx1,rfl,hD⟩)
  ·dsimp only;rw [if_neg (by omega)];have hC:SC a₀ a₀ 0 #[] st':=⟨hB'.perm,hB'.kind,hB'.failed,hB'.pend,fun i hi=>by omega⟩
   have fin1:∀ (n:Nat) (st3:SortSt),SC a₀ a₀ 0 #[] st3 →xN (arrOf st3) 0 n →JC a₀ n (setPending st3 ((pendingOf st3).push (0,n,0))):=fun n st3 hC3 hs=>⟨⟨hC3.perm,hC3.kind,hC3.failed⟩,⟨0,by show (pendingOf st3).push _=_; rw [hC3.pend]; rfl⟩,hs⟩
   refine wpS_bind (pL h0 (by omega) (by omega) hC fun m st2 hC2 m1 m2 hs2=>?_);dsimp only
   by_cases hlt:m<mr
   ·rw [if_pos hlt];refine wpS_bind (wpS_lift (wpAny_rule ⟨rfl,?_⟩));refine wpS_bind (vO h0 (by omega) (by omega) hC2 hs2 fun st3 hC3 hs3=>?_);simp only [aAx,YZ,if_false];refine wpS_bind (wpS_get ?_);have hb:(pendingOf st3).back? = none:=by rw [hC3.pend]; rfl
    rw [hb];dsimp only;refine wpS_bind (wpS_modify (wpS_pure ?_));have one:=fin1 _ _ hC3 hs3;generalize hn:min (a₀.size-0) mr=n at one ⊢
    by_cases e:n=a₀.size
    ·subst e;exact .inr (.inr ⟨by omega,by rw [aAp],.inl one⟩)
    ·exact .inr (.inl ⟨by first | rfl | trivial,n,by rw [aAp],by omega,by omega,one⟩)
   ·rw [if_neg hlt];refine wpS_bind (wpS_get ?_);have hb:(pendingOf st2).back? = none:=by rw [hC2.pend]; rfl
    rw [hb];dsimp only;refine wpS_bind (wpS_modify (wpS_pure ?_));have one:=fin1 _ _ hC2 hs2;generalize hn:m=n at one ⊢
    by_cases e:n=a₀.size
    ·subst e;exact .inr (.inr ⟨by omega,by rw [aAp],.inl one⟩)
    ·exact .inr (.inl ⟨by first | rfl | trivial,n,by rw [aAp],by omega,by omega,one⟩)
  ·dsimp only;rw [if_neg (by omega)];obtain ⟨⟨o1,o2,o3⟩,⟨p0,o4⟩,o5⟩:=hD;have hC:SC a₀ (arrOf st') r #[(0,r,p0)] st':=⟨o1,o2,o3,o4,fun i hi=>rfl⟩
   have tail:∀ (n:Nat) (st3:SortSt),SC a₀ (arrOf st') r #[(0,r,p0)] st3 →n=a₀.size-r →xN (arrOf st3) r n →∀ (pw:Nat) (T:Option Unit×Nat →SortSt →Prop),(∀ st4,Jp a₀ st4 →T (none,r+n) st4) →
     T (none,r+n) (setPending (setPending st3 ((pendingOf st3).modify ((pendingOf st3).size-1) fun (st,len,_)=>(st,len,pw))) ((pendingOf (setPending st3 ((pendingOf st3).modify ((pendingOf st3).size-1) fun (st,len,_)=>(st,len,pw)))).push (r,n,0))):=fun n st3 hC3 hn hs pw T hT=>by
    refine hT _ ⟨⟨hC3.perm,hC3.kind,hC3.failed⟩,r,pw,by omega,hr2,?_,?_,by rw [← hn]; exact hs⟩
    ·show ((pendingOf st3).modify ((pendingOf st3).size-1) fun (st,len,_)=>(st,len,pw)).push (r,n,0)=_;rw [hC3.pend,hn]; rfl
    ·intro i j hi hij hj;show K (arrOf st3) i ≤ K (arrOf st3) j;rw [K_congr (hC3.keep i (by omega)),K_congr (hC3.keep j (by omega))];exact o5 i j hi hij hj
   refine wpS_bind (pL h0 (by omega) (by omega) hC fun m st2 hC2 m1 m2 hs2=>?_);dsimp only;have go:∀ (n:Nat) (st3:SortSt),SC a₀ (arrOf st') r #[(0,r,p0)] st3 →n=a₀.size-r →xN (arrOf st3) r n →∀ (pw:Nat),Jp a₀ (setPending (setPending st3 ((pendingOf st3).modify ((pendingOf st3).size-1) fun (st,len,_)=>(st,len,pw))) ((pendingOf (setPending st3 ((pendingOf st3).modify ((pendingOf st3).size-1) fun (st,len,_)=>(st,len,pw)))).push (r,n,0))):=fun n st3 hC3 hn hs pw=>tail n st3 hC3 hn hs pw (fun _ st=>Jp a₀ st) fun _ z=>z
   by_cases hlt:m<mr
   ·rw [if_pos hlt];refine wpS_bind (wpS_lift (wpAny_rule ⟨rfl,?_⟩));refine wpS_bind (vO h0 (by omega) (by omega) hC2 hs2 fun st3 hC3 hs3=>?_);simp only [aAx,YZ,if_false];refine wpS_bind (wpS_get ?_);have hb:(pendingOf st3).back? = some (0,r,p0):=by rw [hC3.pend]; rfl
    rw [hb];dsimp only;refine wpS_bind (wpS_mono (wpS_forRange (I:=fun _ c st''=>st''=st3∧c=(none,())) (Q:=fun c st''=>st''=st3∧c=(none,())) ?_ (fun _ _ hh=>hh) ⟨rfl,rfl⟩) ?_)
    ·rintro x c st'' _ _ ⟨rfl,rfl⟩;refine wpS_bind (wpS_get ?_);have e:(if (pendingOf st'').size > 1 then (pendingOf st'')[(pendingOf st'').size-2]? else none)=none:=by rw [hC3.pend]; rfl
     rw [e];exact wpS_pure ⟨rfl,rfl⟩
    ·rintro c st'' ⟨rfl,rfl⟩;dsimp only;have em:min (a₀.size-r) mr=a₀.size-r:=by omega
     refine wpS_bind (wpS_modify (wpS_bind (wpS_modify (wpS_pure (.inr (.inr ⟨by omega,?_,.inr ?_⟩))))))
     ·rw [em,show r+(a₀.size-r)=a₀.size by omega]
     ·exact go _ _ hC3 em hs3 _
   ·rw [if_neg hlt];refine wpS_bind (wpS_get ?_);have hb:(pendingOf st2).back? = some (0,r,p0):=by rw [hC2.pend]; rfl
    rw [hb];dsimp only;have em:m=a₀.size-r:=by omega
    refine wpS_bind (wpS_mono (wpS_forRange (I:=fun _ c st''=>st''=st2∧c=(none,())) (Q:=fun c st''=>st''=st2∧c=(none,())) ?_ (fun _ _ hh=>hh) ⟨rfl,rfl⟩) ?_)
    ·rintro x c st'' _ _ ⟨rfl,rfl⟩;refine wpS_bind (wpS_get ?_);have e:(if (pendingOf st'').size > 1 then (pendingOf st'')[(pendingOf st'').size-2]? else none)=none:=by rw [hC2.pend]; rfl
     rw [e];exact wpS_pure ⟨rfl,rfl⟩
    ·rintro c st'' ⟨rfl,rfl⟩;dsimp only;refine wpS_bind (wpS_modify (wpS_bind (wpS_modify (wpS_pure (.inr (.inr ⟨by omega,?_,.inr ?_⟩))))))
     ·rw [em,show r+(a₀.size-r)=a₀.size by omega]
     ·exact go _ _ hC2 em hs2 _
  ·dsimp only;rw [if_pos (YD _)];exact wpS_pure ⟨rfl,hD⟩
 case post =>
  rintro c st' ⟨rfl,hD⟩;dsimp only;have fin1:∀ st2,JC a₀ a₀.size st2 →Q () st2:=fun st2 ⟨⟨o1,o2,o3⟩,o4,o5⟩=>h st2 o1 o3 fun i j hij hj=>o5 i j (by omega) hij (by omega);refine wpS_bind (wpS_mono (wpS_forRange (I:=fun x c st''=>c=(none,())∧(JC a₀ a₀.size st''∨(x=0∧Jp a₀ st''))) (Q:=fun c st''=>c=(none,())∧JC a₀ a₀.size st'') ?_ ?_ ⟨rfl,hD.imp id fun z=>⟨rfl,z⟩⟩) ?_)
  ·rintro x c st'' _ _ ⟨rfl,hO | ⟨rfl,⟨⟨o1,o2,o3⟩,r,p,r1,r2,o4,o5,o6⟩⟩⟩
   ·refine wpS_bind (wpS_get ?_);obtain ⟨p,hp⟩:=hO.2.1;rw [if_pos (by rw [hp]; exact YD 1)];exact wpS_pure ⟨rfl,hO⟩
   ·refine wpS_bind (wpS_get ?_);rw [o4];have sz:(arrOf st'').size=r+(a₀.size-r):=by rw [o1.size_eq]; omega
    refine wpS_bind (wC (n1:=r) (n2:=a₀.size-r) rfl o2 (Qv h0 o1) o4 sz r1 (by omega) (fun i j hj hij hl=>?_) (fun i j hj hij hl=>?_) o3 fun st3 c1 c2 c3 c4 c5=>?_)
    ·rw [← CQ hj,← CQ (show i<(arrOf st'').size by omega)];exact o5 i j (by omega) hij (by omega)
    ·rw [← CQ hj,← CQ (show i<(arrOf st'').size by omega)];exact o6 i j hl hij (by omega)
    ·have pm:(arrOf st3).Perm (arrOf st''):=aAs.mpr c1;simp only [aAx,YZ,if_false];have es:(arrOf st3).size=a₀.size:=(pm.trans o1).size_eq;refine wpS_pure ⟨rfl,.inl ⟨⟨pm.trans o1,c2,c3⟩,⟨p,by rw [c4,show r+(a₀.size-r)=a₀.size by omega]⟩,fun i j hi hij hj=>?_⟩⟩;exact Kc c5 i j hij (by omega)
  ·rintro c st'' ⟨rfl,hO | ⟨hx,_⟩⟩
   ·exact ⟨rfl,hO⟩
   ·omega
  ·rintro c st'' ⟨rfl,hO⟩;exact wpS_pure (fin1 _ hO)
end
end Mg
set_option maxHeartbeats 3200000
namespace L2
open PySem PySem.Spec PyProof.Rows
theorem HJ (t:SetTable)(es:Array (Int×Value))(h:Int)(x:Value):(layNew t es h x).2.1.led=t.led:=by
 unfold layNew
 split
 ·simp only [SetTable.put,SetTable.orStandIn,SetTable.standIn]
  split <;> split <;> rfl
 ·rfl
theorem Bf (t:SetTable)(es:Array (Int×Value))(m:Nat):(relayAll t es m).2.1.led=t.led:=by
 unfold relayAll
 split
 ·rename_i t' order hr;have e:t'.led=t.led:=by
   unfold SetTable.relaid SetTable.laid at hr;cases hc:SetTable.layClean (SetTable.sizeAbove m-1) (es.map (·.1)) with
   | none=>rw [hc] at hr; cases hr
   | some ow =>
    rw [hc] at hr;injection hr with hr
    injection hr with h1 h2
    rw [← h1]
  dsimp only
  split
  ·exact e
  ·rfl
 ·rfl
def mR (P:Program)(w:World)(G:SetTable →Prop)(h:Heap)(a:Addr)(S:Int →Bool)(n:Nat):Prop :=
 ∃ o es ep t,h.get? a=some o∧o.ExactSet∧o.data=.set es ep t∧ElemsOf (intKind P w) es.toList∧(∀ k,S k=true↔∃ e∈es.toList,(intKind P w).is k e.2=true)∧es.size<scanBound∧t.fits es.size=true∧es.size=n∧G t
structure xF (G:SetTable →Prop):Prop where
 lay:∀ t es h x,G t →t.fits es.size=true →G (layNew t es h x).2.1
 rel:∀ t es m,G t →t.fits es.size=true →G (relayAll t es m).2.1
section
variable {P:Program}{w:World}{A:Around}{E:Value →Shared →Prop}{s:Shared}{G:SetTable →Prop}
theorem DG {h:Heap}{a:Addr}{o:Obj}{es es':Array (Int×Value)}{ep:Nat}{t t':SetTable}{S':Int →Bool}(ho:h.get? a=some o)(hx:o.ExactSet)(hd:o.data=.set es ep t)(he:ElemsOf (intKind P w) es'.toList)
  (hm:∀ k,S' k=true↔∃ e∈es'.toList,(intKind P w).is k e.2=true) (hb:es'.size<scanBound) (hf:t'.fits es'.size=true) (g:G t') :
  (h.update a (Obj.putSet es' t')).get? a=some { o with data:=.set es' (ep+1) t' }∧mR P w G (h.update a (Obj.putSet es' t')) a S' es'.size:=by
 obtain ⟨e1,_⟩:=SetOf_store (knd:=intKind P w) ho hx hd he hm hb hf;exact ⟨e1,_,es',ep+1,t',e1,hx,rfl,he,hm,hb,hf,rfl,g⟩
theorem wV (KT:xF G){gw:Bool →Sem Unit}(hgw:∀ (b:Bool) (s1:Shared) (Q1:Unit →Shared →Prop),Q1 () s1 →wpAny (model P w) A (gw b) Q1 E s1){a:Addr}{o:Obj}{es es1:Array (Int×Value)}{ep:Nat}{t t2:SetTable}{S':Int →Bool}{wd:Bool}{R:Option Bool →Shared →Prop}
  (ho:s.heap.get? a=some o) (hx:o.ExactSet) (hd:o.data=.set es ep t) (he:ElemsOf (intKind P w) es1.toList) (hm:∀ k,S' k=true↔∃ e∈es1.toList,(intKind P w).is k e.2=true) (hb:es1.size<scanBound) (hf:t2.fits es1.size=true) (g:G t2)
  (h:∀ h',Yh a s.heap h' →mR P w G h' a S' es1.size →R (some true) { s with heap:=h' }) :
  wpAny (model P w) A (do
   storeSet a es1 t2
   if (!wd&&t2.tooFull)=true then do
    gw (relayAll t2 es1 (SetTable.grown es1.size)).2.2
    storeSet a (relayAll t2 es1 (SetTable.grown es1.size)).1 (relayAll t2 es1 (SetTable.grown es1.size)).2.1
    pure (some true)
   else pure (some true)) R E s:=by
 obtain ⟨o1,g1⟩:=DG (G:=G) ho hx hd he hm hb hf g;refine wpAny_bind (wpAny_storeSet_of ho hd ?_ (fits_of_scanBound hb))
 split
 ·have p:=relayAll_perm t2 es1 (SetTable.grown es1.size);have f:=relayAll_fits t2 es1 (SetTable.grown es1.size);have r:=KT.rel t2 es1 (SetTable.grown es1.size) g hf;generalize relayAll t2 es1 (SetTable.grown es1.size)=Z at p f r ⊢;obtain ⟨es2,t3,b2⟩:=Z;dsimp only at p f r ⊢;have z:es2.size=es1.size:=by rw [← YJ,p.length_eq,YJ]
  have m2:∀ k,S' k=true↔∃ e∈es2.toList,(intKind P w).is k e.2=true:=fun k=>by rw [hm k]; exact ⟨fun ⟨e,x,y⟩=>⟨e,p.mem_iff.mpr x,y⟩,fun ⟨e,x,y⟩=>⟨e,p.mem_iff.mp x,y⟩⟩
  obtain ⟨_,g2⟩:=DG (G:=G) o1 hx rfl (he.perm p) m2 (by omega) f r;refine wpAny_bind (hgw _ _ _ (wpAny_bind (wpAny_storeSet_of o1 rfl (wpAny_pure (h _ ?_ (z ▸ g2))) (fits_of_scanBound (by omega)))));exact (Yh.update s.heap a (Obj.putSet es1 t2)).trans (Yh.update _ a _)
 ·exact wpAny_pure (h _ (Yh.update s.heap a (Obj.putSet es1 t2)) g1)
theorem RQ (KT:xF G){a:Addr}{S:Int →Bool}{n:Nat}{k:Int}{tk:Nat}{Q:Bool →Shared →Prop}(hS:mR P w G s.heap a S n)(hn:n+1<scanBound)
  (h:∀ h',Yh a s.heap h' →mR P w G h' a (fun j=>S j||decide (j=k)) (if S k then n else n+1) →Q (!S k) { s with heap:=h' }) :
  wpAny (model P w) A (setAddHashed a (.int k tk) ((intKind P w).hash k)) Q E s:=by
 have ky:(intKind P w).is k (.int k tk)=true:=intKind_is _ _ _ _;obtain ⟨o,es,ep,t,ho,hx,hd,he,hm,hb,hf,hz,g⟩:=hS;unfold setAddHashed setAddHashedIn;refine wpAny_holding (wpAny_bind (wpAny_setState_of ho hd hf ?_));dsimp only;rw [byScan_of (x:=Value.int k tk) rfl hb he];simp only [↓reduceIte];unfold setAddByScan;refine wpAny_bind (wpAny_bind (wpAny_rule (wpAny_bind (wpAny_setScan_of ky ho hd hf he ?_))));cases hr:List.findIdx? (fun e=>(intKind P w).is k e.2) es.toList with
 | some j =>
  obtain ⟨j1,j2,_⟩:=List.findIdx?_eq_some_iff_getElem.mp hr;have hk:S k=true:=(hm k).mpr ⟨_,ZM j1,j2⟩;have q:=h s.heap (Yh.refl a s.heap) ⟨o,es,ep,t,ho,hx,hd,he,fun k'=>by
   rw [Zy,decide_eq_true_eq,← hm k'];exact ⟨fun z=>z.elim id fun e=>e ▸ hk,.inl⟩,hb,hf,(by rw [hk]; exact hz),g⟩
  rw [hk] at q;exact wpAny_pure (wpAny_pure q)
 | none =>
  have hk:S k=false:=by
   rw [← Bool.not_eq_true,hm k];rintro ⟨e,x,y⟩;have z:=List.findIdx?_eq_none_iff.mp hr e x;rw [y] at z;cases z
  have p:=layNew_perm t es ((intKind P w).hash k) (.int k tk);have f:=layNew_fits t es ((intKind P w).hash k) (.int k tk);have r:=KT.lay t es ((intKind P w).hash k) (.int k tk) g hf;generalize layNew t es ((intKind P w).hash k) (.int k tk)=Z at p f r ⊢;obtain ⟨es1,t1,wd,gv⟩:=Z;dsimp only at p f r ⊢;rw [aA2] at p;have z1:es1.size=n+1:=by rw [← YJ,p.length_eq,YQ,YJ,hz]; rfl
  have e1:=(he.push ky (x:=.int k tk) rfl).perm p;have m1:=mem_push_iff ky hm p;have fin:∀ h',Yh a s.heap h' →mR P w G h' a (fun j=>S j||decide (j=k)) es1.size →Q true { s with heap:=h' }:=fun h' sb g'=>by
   have q:=h h' sb;rw [hk] at q;exact q (z1 ▸ g')
  have gw:∀ (b:Bool) (s1:Shared) (Q1:Unit →Shared →Prop),Q1 () s1 →wpAny (model P w) A (match b with | true=>rule "set.scan.the-table-gave-way" | false=>pure ()) Q1 E s1:=fun b s1 Q1 q=>by
   cases b
   ·exact wpAny_pure q
   ·exact wpAny_rule q
  refine wpAny_bind (gw _ _ _ ?_)
  split
  ·rw [hashByValue_scannable 8 (x:=Value.int k tk) rfl];refine wpAny_bind (wpAny_pure ?_);exact wV KT gw ho hx hd e1 m1 (by omega) f r fun h' sb g'=>wpAny_pure (fin h' sb g')
  ·refine wpAny_bind (wpAny_pure ?_);exact wV KT gw ho hx hd e1 m1 (by omega) f r fun h' sb g'=>wpAny_pure (fin h' sb g')
theorem Ml (KT:xF G){I:Addr}{fp wr:List Addr}{Gs:Array GenState →Array GenState →Prop}{n:Nat}{Pv:Nat →Value →Prop}{St:Nat →Shared →Prop}{R:Result →Shared →Prop}(W:WalksS P w A.in1 I fp wr Gs n Pv St){a:Addr}(na:a∉fp){val:Nat →Int}
  (hv:∀ i v,Pv i v →∃ t,v=.int (val i) t) (hn:n+1<scanBound):∀ (d i:Nat) (s:Shared),n-i=d →i ≤ n →St i s →mR P w G s.heap a (fun j=>(firstMet val i).any (·==j)) (firstMet val i).length →
   (∀ s',Moved (a::wr) Gs s s' →mR P w G s'.heap a (fun j=>(firstMet val n).any (·==j)) (firstMet val n).length →R (.ok (.ret .none)) s') →codeAny (model P w) A (.builtin "set.update.loop" ⟨[.ref a,.ref I],[]⟩) R s:=by
 have nw:a∉wr:=fun z=>na (W.sub _ z);have wk:∀ {s s':Shared}{S:Int →Bool}{m:Nat},Moved wr Gs s s' →mR P w G s.heap a S m →mR P w G s'.heap a S m:=fun hm ⟨o,es,ep,t,e,r⟩=>⟨o,es,ep,t,hm.heap a _ nw e,r⟩
 have up:∀ b∈wr,b∈a::wr:=fun b hb=>Yb _ hb;intro d
 induction d with
 | zero =>
  intro i s hd hi st g hR;obtain rfl:i=n:=by omega
  refine codeAny_builtin PyProof.Rows.F.entry_set_update_loop ?_;rw [Around.under_plainId PyProof.Rows.F.plain_set_update_loop _];show wpAny _ A.in1 (pyNext (.ref I) >>= _) _ _ s;exact wpAny_bind (W.done s _ _ st fun s' hm=>wpAny_pure (hR s' (hm.mono up) (wk hm g)))
 | succ d ih =>
  intro i s hd hi st g hR;refine codeAny_builtin PyProof.Rows.F.entry_set_update_loop ?_;rw [Around.under_plainId PyProof.Rows.F.plain_set_update_loop _];show wpAny _ A.in1 (pyNext (.ref I) >>= _) _ _ s;refine wpAny_bind (W.item i s _ _ (by omega) st fun v s' pv st' hm=>?_);obtain ⟨t,rfl⟩:=hv i v pv;show wpAny _ A.in1 (holding [Value.int (val i) t] (setAdd a (.int (val i) t)) >>= _) _ _ s';refine wpAny_bind (wpAny_holding ?_);unfold setAdd;refine wpAny_holding (wpAny_bind ((intKind P w).pyHash (k:=val i) (intKind_is _ _ _ _) ?_));have hl:=firstMet_length_le val i;have gk:=wk hm g;refine RQ (s:={ s' with toks:=s'.toks+1 }) KT gk (by omega) fun h' sb g2=>?_;have g3:mR P w G h' a (fun j=>(firstMet val (i+1)).any (·==j)) (firstMet val (i+1)).length:=by
   have e1:(fun j=>(firstMet val (i+1)).any (·==j))=fun j=>((firstMet val i).any (·==j)||decide (j=val i)):=funext fun j=>by rw [firstMet_succ,step_any]
   rw [e1,firstMet_succ,step_length];exact g2
  refine wpAny_pure ⟨plainId_quiet PyProof.Rows.F.plain_set_update_loop _,ih (i+1) _ (by omega) (by omega) (W.frame _ s' _ _ st' (Zq _) fun b hb o e=>?_) g3 fun s2 hm2 g4=>?_⟩
  ·exact (sb.2 b fun z:b=a=>na (z ▸ hb)).trans e
  ·exact hR s2 (Moved.trans W.gtrans ((hm.mono up).then_heap (Zq _) fun b o hb e=>(sb.2 b fun z:b=a=>hb (z ▸ Yg)).trans e) hm2) g4
theorem RZ (v:Value){Q:Value →Shared →Prop}(h:Q (.ref s.heap.objs.size) { s with heap:=s.heap.push { cls:=.type "set",dict:=none,data:=.set #[] 0 (.fresh 0 0 (!w.params.followText "set-order")) } }) :
  codeAny (model P w) A (.call (.builtin "set.__new__") ⟨[.type "set",v],[]⟩) (wants Q E) s:=by
 refine codeAny_of_tree ?_;show wpAny _ A.in1 (do checkBuiltinCall "set.__new__" ⟨[.type "set",v],[]⟩; again (.builtin "set.__new__" ⟨[.type "set",v],[]⟩)) _ _ s;refine wpAny_bind (wpAny_of_eq (PySem.F.newCall_set_1 v) (wpAny_pure ⟨plainId_quiet PySem.F.plain_set_new _,codeAny_builtin PySem.F.entry_set_new ?_⟩));rw [Around.under_plainId PySem.F.plain_set_new _];unfold Builtin.«set.__new__» Builtin.Frozenset.newClass;have sb:=sub_set_self;cases s;dsimp only
 wp_walk
 refine wpAny_askSetting (wpAny_pure ?_);dsimp only;simp only [newObj];exact wpAny_bind (wpAny_alloc (wpAny_pure (wpAny_pure h)))
theorem CV (KT:xF G){l:Addr}{its:Array Value}{ns:List Int}{Q:Value →Shared →Prop}(hh:A.handled=none)(hl:s.heap.IsList l its)(hi:IntsAre its.toList ns)(hb:its.size+1<scanBound)(g0:G (.fresh 0 0 (!w.params.followText "set-order")))
  (h:∀ (h':Heap) (tk:Nat),mR P w G h' s.heap.objs.size (fun j=>(firstMet (fun i=>ns.getD i 0) its.size).any (·==j)) (firstMet (fun i=>ns.getD i 0) its.size).length →(∀ b o,b<s.heap.objs.size →s.heap.get? b=some o →h'.get? b=some o) →Q (.ref s.heap.objs.size) { s with heap:=h',toks:=tk }) :
  wpAny (model P w) A (call (.type "set") [.ref l]) Q E s:=by
 obtain ⟨c0,tl0,hm0⟩:=PySem.F.called_set.mro;have t1:=PySem.F.called_set.made; have t2:=PySem.F.called_set.sub;refine wpAny_call (codeAny_of_tree (show wpAny _ _ (callAny (.type "set") _) _ _ _ from ?_));refine wpAny_pure ⟨Code.quiet_builtin _ (by decide +kernel),codeAny_builtin PySem.F.entry_type_call ?_⟩;rw [Around.under_plain (weight_type_call_type "set" [.ref l] []) rfl];have t3:=PySem.F.called_set.notType; have t4:=PySem.F.called_set.canCreate;have t5:=PySem.F.typeCall_set_1 (.ref l); (repeat (any_goals (first | assumption | wp_step)));generalize hO:({ cls:=.type "set",dict:=none,data:=.set #[] 0 (.fresh 0 0 (!w.params.followText "set-order")) }:Obj)=ob;refine codeAny_mono (RZ (.ref l) (E:=E) (Q:=fun v s1=>v=.ref s.heap.objs.size∧s1 = { s with heap:=s.heap.push ob }) (by rw [hO]; exact ⟨rfl,rfl⟩)) fun r s1 hr=>?_;have hfr:ob.isFreed=false:=by rw [← hO]; rfl
 cases r with
 | error e=>exact hr
 | ok fl =>
  cases fl with
  | next=>exact hr.elim
  | brk=>exact hr.elim
  | cont=>exact hr.elim
  | ret v =>
   obtain ⟨rfl,rfl⟩:=hr;have eS:(s.heap.push ob).get? s.heap.objs.size=some ob:=YL _ hfr;have tS:Shared.TypeIs { s with heap:=s.heap.push ob } (.ref s.heap.objs.size) "set":=⟨_,eS,by rw [← hO]⟩
   have t6:=PySem.F.called_set.init.lookup;have t7:=PySem.F.called_set.init.bind (.ref s.heap.objs.size); (repeat (any_goals (first | assumption | wp_step)));refine codeAny_mono (codeAny_call_builtin (R:=wants (fun r s2=>r=.none∧∃ h' tk,s2 = { s with heap:=h',toks:=tk }∧mR P w G h' s.heap.objs.size (fun j=>(firstMet (fun i=>ns.getD i 0) its.size).any (·==j)) (firstMet (fun i=>ns.getD i 0) its.size).length ∧
    (∀ b o,b<s.heap.objs.size →s.heap.get? b=some o →h'.get? b=some o)) E) PySem.F.called_set.init.plain PySem.F.entry_set_init (check_set_init_1 tS ?_)) fun r2 s2 hr2=>?_
   ·subst hO;obtain ⟨⟨c1,d1,a1,l1⟩,hol,hc1,n1,hd1⟩:=hl;simp only at hc1 hd1;subst hc1 hd1;have hol1:(s.heap.push { cls:=.type "set",dict:=none,data:=.set #[] 0 (.fresh 0 0 (!w.params.followText "set-order")) }).get? l=some { cls:=.type "list",dict:=d1,data:=.seq its n1,slots:=l1 }:=YB _ hol;have u1:=PySem.F.sub_list_set; have u2:=PySem.F.sub_list_frozenset;have u3:(Value.type "list"==Value.type "dict")=false:=by decide
    have L1:(s.heap.push { cls:=.type "set",dict:=none,data:=.set #[] 0 (.fresh 0 0 (!w.params.followText "set-order")) }).IsList l its:=⟨_,hol1,rfl,n1,rfl⟩
    have ll:l<s.heap.objs.size:=YG hol;unfold Builtin.«set.__init__» noKeywords Builtin.Frozenset.updateFrom;generalize hIt:pyIter=It
    wp_walk
    subst hIt;refine wpAny_pyIter_list L1 ?_;refine wpAny_bind (m:=runValue _) (wpAny_runValue ?_);have sz:(s.heap.push { cls:=.type "set",dict:=none,data:=.set #[] 0 (.fresh 0 0 (!w.params.followText "set-order")) }).objs.size=s.heap.objs.size+1:=ZX _ _;have nI:l≠(s.heap.push { cls:=.type "set",dict:=none,data:=.set #[] 0 (.fresh 0 0 (!w.params.followText "set-order")) }).objs.size:=by rw [sz]; exact YW (aAa ll)
    refine Ml KT ((Walks.list (show A.in1.in1.in1.handled=none by simp [hh]) _ l nI its).toS) (a:=s.heap.objs.size) (by rw [sz]; simp only [Ye,Zf,or_false,not_or]; exact ⟨YW (Zv _),ZV ll⟩)
     (val:=fun i=>ns.getD i 0) (fun i v hv=>IntsAre.int_at hi i v (by rw [ZQ]; exact hv)) hb (its.size-0) 0 _ (by omega) (Ym _) ⟨⟨_,YL _ rfl,rfl,rfl⟩,L1.push _⟩ ?_ ?_
    ·refine ⟨_,#[],0,.fresh 0 0 (!w.params.followText "set-order"),YB _ eS,⟨rfl,rfl,rfl⟩,rfl,(fun e he=>by simp at he),fun k=>?_,by decide,rfl,rfl,g0⟩;simp [firstMet]
    ·intro s3 hm g3;obtain ⟨h3,gs3,d3,k3,o3⟩:=s3;have e1:gs3=s.gens:=hm.gens;have e2:d3=s.drawn:=hm.drawn;have e3:o3=s.os:=hm.os;subst e1 e2 e3;show wpAny _ _ _ _ _ _;refine wpAny_pure (show wpAny _ _ (ret Value.none) _ _ _ from wpAny_pure ⟨rfl,h3,k3,rfl,g3,fun b o hb e=>?_⟩);exact hm.heap b o (by simp only [Ye,Zf,or_false,not_or]; exact ⟨YW hb,by rw [sz]; exact YW (aAa hb)⟩) (YB _ (YB _ e))
   ·cases r2 with
    | error e=>exact hr2
    | ok fl2 =>
     cases fl2 with
     | next=>exact hr2.elim
     | brk=>exact hr2.elim
     | cont=>exact hr2.elim
     | ret r =>
      obtain ⟨rfl,h2,k2,rfl,g2,kp⟩:=hr2; (repeat (any_goals (first | assumption | wp_step)));exact h _ _ g2 kp
end
theorem cI:Slot "set_iterator" "__next__" "set_iterator.__next__" :=
 .of (owner:="set_iterator") (n:="__next__") (by rw [typeLookup_type,builtinLookup_eq_fast]; kernel_rfl) (by decide +kernel) (by decide +kernel) (by decide +kernel) (by first | exact .inl (by decide +kernel) | exact .inr (by decide +kernel)) (by rw [isSubtype_type]; kernel_rfl)
theorem iW:entryFor table "set_iterator.__next__" = some Builtin.«set_iterator.__next__»:=entryFor_of_tree (by kernel_rfl)
theorem kI (v:Value):argsOk "set_iterator.__next__" ⟨[v],[]⟩:=by unfold argsOk; kernel_rfl
theorem j8:Slot "set_iterator" "__iter__" "set_iterator.__iter__" :=
 .of (owner:="set_iterator") (n:="__iter__") (by rw [typeLookup_type,builtinLookup_eq_fast]; kernel_rfl) (by decide +kernel) (by decide +kernel) (by decide +kernel) (by first | exact .inl (by decide +kernel) | exact .inr (by decide +kernel)) (by rw [isSubtype_type]; kernel_rfl)
theorem pH:entryFor table "set_iterator.__iter__" = some Builtin.«dict_keyiterator.__iter__»:=entryFor_alias (id':="dict_keyiterator.__iter__") (by kernel_rfl) rfl (by decide +kernel) (by kernel_rfl)
theorem qM (v:Value):argsOk "set_iterator.__iter__" ⟨[v],[]⟩:=by unfold argsOk; kernel_rfl
theorem oU:entryFor table "set.__iter__" = some Builtin.«frozenset.__iter__»:=entryFor_alias (id':="frozenset.__iter__") (by kernel_rfl) rfl (by decide +kernel) (by kernel_rfl)
section
variable {P:Program}{w:World}{A:Around}{E:Value →Shared →Prop}{s:Shared}{a it:Addr}{o:Obj}{e:Int×Value}{ep:Nat}{t:SetTable}
theorem EY {r:Addr}(hT:s.TypeIs (.ref r) "set"){Q:Bool →Shared →Prop}(h:Q false s):wpAny (model P w) A (Builtin.List.listLengthHint (.ref r)) Q E s:=by
 unfold Builtin.List.listLengthHint;refine wpAny_bind (wpAny_specialOf hT F.slot_set_len.lookup ?_);generalize hid:("set.__len__" : String)=id0
 wp_delta
 rw [show splitId id0=some ("set","__len__") from by subst hid; decide +kernel];subst hid;refine wpAny_bind (wpAny_isInstance (T:="set") (b:=true) hT (by rw [isSubtype_type]; kernel_rfl) ?_);refine wpAny_ite_split (fun z=>absurd z (by decide)) (fun _=>wpAny_ite_split (fun _=>wpAny_bind (wpAny_typeOf hT (wpAny_pure h))) (fun z=>absurd (by decide +kernel) z))
end
theorem isInt_shape {k:Int}{v:Value}(h:Value.isInt k v=true):∃ tk,v=.int k tk:=by
 unfold Value.isInt at h
 split at h
 ·rename_i i tk;obtain rfl:i=k:=by simpa using h
  exact ⟨tk,rfl⟩
 ·cases h
theorem HQ:bootBuiltins "set" = some (.type "set"):=by decide +kernel
def uP (xs:Array Nat):Prop:=xs.toList.Pairwise (· < ·)
theorem uP.lt {xs:Array Nat}(h:uP xs){i j:Nat}(hij:i<j)(hj:j<xs.size):xs[i]'(by omega)<xs[j]:=by
 have:=Yn.mp h i j (by simpa using (by omega:i<xs.size)) (by simpa using hj) hij
 simpa using this
theorem qD {xs:Array Nat}(h:uP xs)(j:Nat):∀ (fuel lo hi:Nat),lo ≤ hi →hi ≤ xs.size →hi-lo ≤ fuel →(∀ i (hi:i<xs.size),i<lo →xs[i]<j) →(∀ i (hx:i<xs.size),hi ≤ i →j ≤ xs[i]) →
  SetTable.below.go xs j fuel lo hi ≤ xs.size∧(∀ i (hx:i<xs.size),i<SetTable.below.go xs j fuel lo hi →xs[i]<j)∧∀ i (hx:i<xs.size),SetTable.below.go xs j fuel lo hi ≤ i →j ≤ xs[i]
 | 0,lo,hi,h1,h2,h3,a,b=>by
  have e:SetTable.below.go xs j 0 lo hi=lo:=by unfold SetTable.below.go; rfl
  rw [e];exact ⟨by omega,a,fun i hx z=>b i hx (by omega)⟩
 | fuel+1,lo,hi,h1,h2,h3,a,b=>by
  by_cases hl:lo<hi
  ·have hm:(lo+hi)/2<xs.size:=by omega
   have e:SetTable.below.go xs j (fuel+1) lo hi=if xs[(lo+hi)/2]<j then SetTable.below.go xs j fuel ((lo+hi)/2+1) hi else SetTable.below.go xs j fuel lo ((lo+hi)/2):=by
    conv=>lhs; unfold SetTable.below.go
    rw [if_pos hl];simp [aBc,hm]
   rw [e]
   by_cases hc:xs[(lo+hi)/2]<j
   ·rw [if_pos hc];refine qD h j fuel _ _ (by omega) h2 (by omega) (fun i hx z=>?_) b
    by_cases z2:i=(lo+hi)/2
    ·subst z2; exact hc
    ·exact aA3 (h.lt (by omega) hm) hc
   ·rw [if_neg hc];refine qD h j fuel _ _ (by omega) (by omega) (by omega) a fun i hx z=>?_
    by_cases z2:i=(lo+hi)/2
    ·subst z2; omega
    ·exact ZP (Zi (by omega:j ≤ xs[(lo+hi)/2]) (h.lt (by omega) hx))
  ·have e:SetTable.below.go xs j (fuel+1) lo hi=lo:=by unfold SetTable.below.go; rw [if_neg hl]
   rw [e];exact ⟨by omega,a,fun i hx z=>b i hx (by omega)⟩
theorem p8 {xs:Array Nat}(h:uP xs)(j:Nat):SetTable.below xs j ≤ xs.size∧(∀ i (hx:i<xs.size),i<SetTable.below xs j →xs[i]<j)∧∀ i (hx:i<xs.size),SetTable.below xs j ≤ i →j ≤ xs[i] :=
 qD h j xs.size 0 xs.size (Ym _) (YD _) (by omega) (fun _ _ z=>by omega) fun i hx z=>by omega
theorem below_at {xs:Array Nat}(h:uP xs){i:Nat}(hi:i<xs.size):SetTable.below xs (xs[i]+1)=i+1:=by
 obtain ⟨a,b,c⟩:=p8 h (xs[i]+1);have h1:¬ SetTable.below xs (xs[i]+1) ≤ i:=fun z=>by have:=c i hi z; omega
 by_cases h2:i+1<SetTable.below xs (xs[i]+1)
 ·have:=b (i+1) (by omega) h2;have:=h.lt (show i<i+1 by omega) (by omega:i+1<xs.size);omega
 ·omega
theorem zM {xs:Array Nat}(h:uP xs):SetTable.below xs 0=0:=by
 obtain ⟨a,b,c⟩:=p8 h 0
 by_cases z:0<SetTable.below xs 0
 ·have:=b 0 (by omega) z;omega
 ·omega
theorem yZ {xs:Array Nat}(h:uP xs){j:Nat}(hn:xs[SetTable.below xs j]?≠some j):uP (SetTable.insertAt xs (SetTable.below xs j) j):=by
 obtain ⟨a,b,c⟩:=p8 h j;unfold uP;rw [SetTable.toList_insertAt];generalize SetTable.below xs j=p at a b c hn;have gt:∀ i (hx:i<xs.size),p ≤ i →j<xs[i]:=fun i hx z=>by
  have:=c i hx z
  by_cases e:xs[i]=j
  ·exfalso
   by_cases ip:i=p
   ·subst ip;exact hn (by rw [Yo hx,e])
   ·have:=c p (by omega) (YD _);have:=h.lt (show p<i by omega) hx;omega
  ·omega
 refine Zc.mpr ⟨Zx.sublist (aAZ _ _) h,aAX.mpr ⟨fun y hy=>?_,Zx.sublist (List.drop_sublist _ _) h⟩,fun x hx y hy=>?_⟩
 ·obtain ⟨i,hi,rfl⟩:=Ys.mp hy;rw [Zo];have hs:p+i<xs.size:=by rw [Ze,YJ] at hi; omega
  have:=gt (p+i) hs (by omega)
  simpa using this
 ·obtain ⟨i,hi,rfl⟩:=Ys.mp hx;rw [aAb];have hi2:i<p∧i<xs.size:=by rw [ZJ,YJ] at hi; omega
  have lt1:xs[i]'hi2.2<j:=b i hi2.2 hi2.1;rcases Ye.mp hy with e | e
  ·subst e; simpa using lt1
  ·obtain ⟨k,hk,rfl⟩:=Ys.mp e;rw [Zo];have hs:p+k<xs.size:=by rw [Ze,YJ] at hk; omega
   have:=gt (p+k) hs (by omega);have:xs[i]'hi2.2<xs[p+k]:=by omega
   simpa using this
theorem jM (n:Nat):uP (Array.range n):=by
 unfold uP;rw [Array.toList_range];exact aAG
def HY (t:SetTable)(j:Nat):Prop:=t.place[SetTable.below t.place j]?≠some j
theorem tL {t:SetTable}{j:Nat}(h:t.slot j=.empty∨t.slot j=.dummy):HY t j:=by
 intro z;unfold SetTable.slot at h;simp only [z,beq_self_eq_true,if_true] at h;rcases h with h | h <;> cases h
theorem lA {t:SetTable}{f:Nat →Int}{h:Int}:∀ (fuel:Nat) (p:SetTable.Probe) (j:Nat) (d:Option Nat),(∀ x,p.dummy=some x →HY t x) →SetTable.probe.go t f h fuel p=some (.empty j d) →HY t (d.getD j)
 | 0,p,j,d,_,e=>by unfold SetTable.probe.go at e; cases e
 | fuel+1,p,j,d,hp,e=>by
  unfold SetTable.probe.go at e
  split at e
  ·rename_i hs;injection e with e
   injection e with e1 e2
   subst e1 e2;cases hd:p.dummy with
   | none=>exact tL (.inl hs)
   | some x=>exact hp x hd
  ·rename_i hs;refine lA fuel _ j d (fun x hx=>?_) e;have:(t.advance { p with dummy:=some p.j }).dummy=some p.j:=by unfold SetTable.advance; split <;> rfl
   rw [this] at hx;cases hx;exact tL (.inr hs)
  ·split at e
   ·injection e with e; cases e
   ·refine lA fuel _ j d (fun x hx=>?_) e;have:(t.advance p).dummy=p.dummy:=by unfold SetTable.advance; split <;> rfl
    rw [this] at hx;exact hp x hx
theorem qR {t:SetTable}{h:Int}{s:Nat}{wd:Bool}(e:t.freeSlot h=some (s,wd)):HY t s:=by
 unfold SetTable.freeSlot at e
 split at e
 ·rename_i j d hp;injection e with e
  injection e with e1 e2
  subst e1;exact lA _ _ _ _ (fun x hx=>by unfold SetTable.probeStart at hx; cases hx) hp
 ·cases e
theorem HW {t:SetTable}(es:Array (Int×Value))(h:Int)(x:Value)(hr:uP t.place):uP (layNew t es h x).2.1.place:=by
 unfold layNew
 split
 ·rename_i s wd hs;have z:=yZ hr (qR hs);dsimp only [SetTable.put,SetTable.orStandIn]
  split <;> split <;> first | exact z | exact jM _
 ·exact jM _
theorem Ds {mask fg mv:Nat}{led pl:Bool}{hs:Array Int}{t':SetTable}{o:Array Nat}(e:SetTable.laid mask fg mv led pl hs=some (t',o)):uP t'.place:=by
 unfold SetTable.laid at e;cases hc:SetTable.layClean mask hs with
 | none=>rw [hc] at e; cases e
 | some ow =>
  rw [hc] at e;injection e with e
  injection e with e1 e2
  rw [← e1];unfold uP;show ((List.filterMap _ _).map _).Pairwise _;rw [List.pairwise_map,List.pairwise_filterMap];refine aAG.imp fun {a b} hab c hc d hd=>?_;cases h1:ow.getD a none with
  | none=>rw [h1] at hc; cases hc
  | some u =>
   cases h2:ow.getD b none with
   | none=>rw [h2] at hd; cases hd
   | some v =>
    rw [h1] at hc;rw [h2] at hd;cases hc;cases hd;exact hab
theorem Cp {t:SetTable}(es:Array (Int×Value))(m:Nat)(hr:uP t.place):uP (relayAll t es m).2.1.place:=by
 unfold relayAll
 split
 ·rename_i t' order he;dsimp only
  split
  ·exact Ds he
  ·exact jM _
 ·exact jM _
def Hl (w:World)(t:SetTable):Prop:=t.led=(!w.params.followText "set-order")∧uP t.place
theorem Dw (w:World):xF (Hl w):=⟨fun t es h x g _=>⟨(HJ t es h x).trans g.1,HW es h x g.2⟩,fun t es m g _=>⟨(Bf t es m).trans g.1,Cp es m g.2⟩⟩
theorem lD {α:Type}:∀ (l:List α) (i:Nat) (h:i<l.length),(l[i]::l.eraseIdx i).Perm l
 | [],i,h=>by simp at h
 | x::l,0,h=>ZD.refl _
 | x::l,i+1,h=>(ZD.swap x (l[i]'(by simpa using h)) (l.eraseIdx i)).trans ((lD l i (by simpa using h)).cons x)
theorem Aj {α:Type}(f:Nat →Nat):∀ (n k:Nat) (left:List α) (out:Array α),left.length=n →(pickOrder.go f n k left out).toList.Perm (out.toList++left)
 | 0,k,left,out,h=>by
  obtain rfl:=Zg h;unfold pickOrder.go;simp
 | n+1,k,left,out,h=>by
  have hl:f k%left.length<left.length:=Nat.mod_lt _ (by omega);unfold pickOrder.go;rw [YF hl];dsimp only;refine (Aj f n (k+1) _ _ (by rw [Zu hl]; omega)).trans ?_;rw [aA2,YX];exact ZD.append_left _ (lD _ _ hl)
theorem CJ {α:Type}(f:Nat →Nat)(xs:Array α):(pickOrder f xs).toList.Perm xs.toList:=by
 have:=Aj f xs.size 0 xs.toList #[] (by simp)
 simpa [pickOrder] using this
section
variable {P:Program}{w:World}{A:Around}{E:Value →Shared →Prop}{s:Shared}{a it T:Addr}{o:Obj}{es:Array (Int×Value)}{ep:Nat}{t:SetTable}
theorem wp_choose {src:Source}{n:Nat}{Q:Nat →Shared →Prop}(hn:n≠0)(h:∀ i d',i<n →Q i { s with drawn:=d' }):wpAny (model P w) A (choose src n) Q E s:=fun _ _ _=>⟨hn,h _ _ (Nat.mod_lt _ (by omega))⟩
theorem BK {α:Type}:∀ (n:Nat) (xs:List α) (s:Shared) (Q:List α →Shared →Prop),xs.length=n →(∀ ys d',ys.Perm xs →Q ys { s with drawn:=d' }) →wpAny (model P w) A (drawOrder n xs) Q E s
 | 0,xs,s,Q,h,q=>by
  obtain rfl:=Zg h;unfold drawOrder;exact wpAny_pure (q [] s.drawn (ZD.refl _))
 | n+1,[],s,Q,h,q=>by simp at h
 | n+1,x::xs,s,Q,h,q=>by
  unfold drawOrder;refine wpAny_bind (wp_choose (by simp) fun i d' hi=>?_);rw [YF hi];refine wpAny_bind (BK n ((x::xs).eraseIdx i) _ _ (by rw [Zu hi]; omega) fun ys d2 p=>?_);exact wpAny_pure (q _ d2 ((p.cons _).trans (lD _ _ hi)))
def v9 (h:Heap)(it a:Addr)(fst:Value)(i n ep:Nat):Prop:=∃ o,h.get? it=some o∧o.cls=.type "set_iterator"∧o.data=.fields #[fst,.int i 0,.ref a,.int n 0,.int ep 0]
theorem v9.typeIs {fst:Value}{i n:Nat}(h:v9 s.heap it a fst i n ep):s.TypeIs (.ref it) "set_iterator":=let ⟨o,e,c,_⟩:=h; ⟨o,e,c⟩
inductive Kd (w:World)(es:Array (Int×Value))(ep:Nat)(t:SetTable)(a T:Addr)(vals:List Value)(h:Heap):Value →Nat →Prop
 | text {i:Nat} (hw:w.params.followText "set-order" = true) (e:vals=(pickOrder (w.params.setOrder a ep) es).toList.map (·.2)):Kd w es ep t a T vals h (.int 0 0) i
 | place {slot i:Nat} (hw:¬ w.params.followText "set-order" = true) (hp:¬ (!t.plain&&decide (es.size > 1))=true) (e:vals=es.toList.map (·.2)) (hs:SetTable.below t.place slot=i):Kd w es ep t a T vals h (.int slot 0) i
 | draw {i:Nat}{os:List Nat} (hT:h.get? T=some { cls:=.type "tuple",data:=.seq (os.map fun (i:Nat)=>rawInt (i:Int)).toArray }) (ho:∀ j∈os,j<es.size) (e:vals=os.map fun j=>(es.getD j (0,.none)).2):Kd w es ep t a T vals h (.ref T) i
theorem qC {vals:List Value}{slot i:Nat}{h0:Heap}(ho:s.heap.get? a=some o)(hd:o.data=.set es ep t)(hf:t.fits es.size=true)(g:Hl w t)(k:Kd w es ep t a T vals h0 (.int slot 0) i)(hi:i ≤ es.size){Q:Option (Value×Nat) →Shared →Prop}
  (h:∀ nx:Nat,(∀ h1,i<es.size →Kd w es ep t a T vals h1 (.int nx 0) (i+1)) →Q ((vals[i]?).map fun v=>(v,nx)) s):wpAny (model P w) A (setNext a slot i ep) Q E s:=by
 unfold setNext setsByText;refine wpAny_bind (wpAny_setState_of ho hd hf ?_);dsimp only;refine wpAny_bind (wpAny_bind (wpAny_askSetting (wpAny_pure ?_)));cases k with
 | text hw e =>
  refine wpAny_ite_split (fun _=>?_) (fun z=>absurd hw z);rw [if_neg (by simp)];unfold setWalk setsByText;refine wpAny_bind (wpAny_bind (wpAny_setState_of ho hd hf ?_));refine wpAny_bind (wpAny_bind (wpAny_askSetting (wpAny_pure ?_)));refine wpAny_ite_split (fun _=>?_) (fun z=>absurd hw z);refine wpAny_bind (wpAny_askSetting (wpAny_pure (wpAny_pure ?_)));have q:=h 0 fun h1 _=>.text hw e;rw [e,Y7,ZQ] at q;rw [Option.map_map] at q;exact q
 | place hw hp e hs =>
  refine wpAny_ite_split (fun z=>absurd z hw) (fun _=>?_);refine wpAny_ite_split (fun z=>absurd z hp) (fun _=>?_);have hl1:t.led=true:=by rw [g.1]; simpa using hw
  refine wpAny_bind (wpAny_ite_split (fun z=>absurd (show (!t.led&&!es.isEmpty)=true from z) (by rw [hl1]; simp)) (fun _=>wpAny_pure ?_));have hz:t.place.size=es.size:=by
   simp only [SetTable.fits,Y6,beq_iff_eq] at hf;exact hf.1
  rw [hs];refine wpAny_pure ?_
  by_cases hlt:i<es.size
  ·have q:=h (t.place[i]'(by omega)+1) fun h1 _=>.place hw hp e (below_at g.2 (by omega));rw [e,Y7,ZQ,Yo hlt] at q;rw [Yo hlt,Yo (show i<t.place.size by omega)];exact q
  ·have q:=h 0 fun h1 z=>absurd z hlt;rw [e,Y7,ZQ,Zj (by omega)] at q;rw [Zj (show es.size ≤ i by omega)];exact q
theorem Ba {vals:List Value}{fst:Value}{i:Nat}{v:Value}(hit:v9 s.heap it a fst i es.size ep)(hTi:T≠it)(ho:s.heap.get? a=some o)(hd:o.data=.set es ep t)(hf:t.fits es.size=true)(g:Hl w t)(k:Kd w es ep t a T vals s.heap fst i)(hi:i<es.size)(hv:vals[i]? = some v){Q:Option Value →Shared →Prop}
  (hQ:∀ h' f',v9 h' it a f' (i+1) es.size ep →Kd w es ep t a T vals h' f' (i+1) →Yh it s.heap h' →Q (some v) { s with heap:=h' }):wpAny (model P w) A (pyNext (.ref it)) Q E s:=by
 obtain ⟨oi,hoi,hci,hdi⟩:=id hit;unfold pyNext;refine wpAny_bind (wpAny_attempt (wpAny_callSpecial?_slot (name:=Str.ofString "__next__") hit.typeIs cI (wpAny_call_entry cI hit.typeIs iW ?_ (kI _))));unfold Builtin.«set_iterator.__next__»;refine wpAny_bind (m:=slotArgs "__next__" 0 _) (wpAny_pure ?_);refine wpAny_bind (wpAny_fieldsOf hoi hdi ?_);show wpAny _ _ (setEntries a >>= _) _ _ s;refine wpAny_bind (wpAny_setEntries_of ho hd hf ?_);refine wpAny_ite_split (fun z=>absurd z (by simp)) (fun _=>?_);have int:∀ {slot:Nat}{E':Value →Shared →Prop},fst=.int slot 0 →wpAny (model P w) A.in1 (do
   match ← setNext a slot i ep with
   | some (x,next) =>
    setField (.ref it) 0 (rawInt next)
    setField (.ref it) 1 (rawInt ((i:Int)+1))
    ret x
   | none=>do setField (.ref it) 2 .none; raiseNew (← newExc (.type "StopIteration") [])) (fun fin s'=>∃ v,fin=.done (.ret v)∧Q (some v) s') E' s:=fun {slot}{E'} e=>by
  subst e;refine wpAny_bind (qC ho hd hf g k (by omega) fun nx kn=>?_);rw [hv];show wpAny _ _ (setField (.ref it) 0 (rawInt nx) >>= _) _ _ s;refine wpAny_bind (wpAny_setField hoi hdi (by simp) ?_);have g1:(s.heap.update it (Obj.mapFields (·.setIfInBounds 0 (rawInt nx)))).get? it=some (Obj.mapFields (·.setIfInBounds 0 (rawInt nx)) oi):=Yd _ hoi (Obj.isFreed_of_fields (Obj.data_mapFields hdi _));have d1:=Obj.data_mapFields hdi (·.setIfInBounds 0 (rawInt nx));refine wpAny_bind (wpAny_setField g1 d1 (by simp) ?_);refine wpAny_pure ⟨_,rfl,hQ _ (.int nx 0) ⟨_,Yd _ g1 (Obj.isFreed_of_fields (Obj.data_mapFields d1 _)),(Obj.cls_mapFields ..).trans ((Obj.cls_mapFields ..).trans hci),?_⟩ (kn _ hi) ((Yh.update ..).trans (Yh.update ..))⟩;rw [Obj.data_mapFields d1];simp [rawInt]
 cases k with
 | text hw e =>
  refine wpAny_mono (int (slot:=0) rfl) (fun fin s' h=>?_) fun _ _ h=>h;obtain ⟨u,e1,e2⟩:=h;exact ⟨u,e1,wpAny_pure e2⟩
 | @place slot _ hw hp e hs =>
  refine wpAny_mono (int (slot:=slot) rfl) (fun fin s' h=>?_) fun _ _ h=>h;obtain ⟨u,e1,e2⟩:=h;exact ⟨u,e1,wpAny_pure e2⟩
 | @draw _ os hT hos e =>
  show wpAny _ _ (seqItems? (.ref T) >>= _) _ _ s;refine wpAny_bind (wpAny_seqItems hT rfl ?_);have hio:i<os.length:=by
   have:=(Y8.mp hv).1;rw [e,YH] at this;exact this
  have hj:=hos os[i] (ZM hio);have ev:v=(es[os[i]]'hj).2:=by
   rw [e,Y7,YF hio] at hv;have:=(ZW.inj hv).symm;rw [this];simp [aBc,hj]
  have ep1:(os.map fun (i:Nat)=>rawInt (i:Int)).toArray[((i:Int)).toNat]? = some (rawInt (os[i]:Int)):=by
   show (os.map fun (i:Nat)=>rawInt (i:Int)).toArray[i]? = _;rw [aAe,Y7,YF hio]
   rfl
  dsimp only;rw [ep1];show wpAny _ _ (setNextDrawn a os[i] ep >>= _) _ _ s;unfold setNextDrawn;refine wpAny_bind (wpAny_bind (wpAny_setState_of ho hd hf ?_));refine wpAny_ite_split (fun z=>absurd z (by simp)) (fun _=>?_);rw [Yo hj];refine wpAny_pure ?_;refine wpAny_bind (wpAny_setField hoi hdi (by simp) ?_);refine wpAny_pure ⟨_,rfl,wpAny_pure ?_⟩;show Q (some (es[os[i]]'hj).2) _;rw [← ev];refine hQ _ (.ref T) ⟨_,Yd _ hoi (Obj.isFreed_of_fields (Obj.data_mapFields hdi _)),(Obj.cls_mapFields ..).trans hci,?_⟩ (.draw ?_ hos e) (Yh.update ..)
  ·rw [Obj.data_mapFields hdi];simp [rawInt]
  ·exact (Yq _ _ (Ne.symm hTi)).trans hT
theorem Eo {vals:List Value}{fst:Value}(hh:A.handled=none)(hit:v9 s.heap it a fst es.size es.size ep)(ho:s.heap.get? a=some o)(hd:o.data=.set es ep t)(hf:t.fits es.size=true)(g:Hl w t)(k:Kd w es ep t a T vals s.heap fst es.size)(hv:vals.length=es.size){Q:Option Value →Shared →Prop}
  (hQ:∀ h',Heap.ExtBut it s.heap h' →Q none { s with heap:=h' }):wpAny (model P w) A (pyNext (.ref it)) Q E s:=by
 obtain ⟨oi,hoi,hci,hdi⟩:=id hit;have fin:∀ {h1:Heap}{Q1:Fin →Shared →Prop}{E1:Value →Shared →Prop},Yh it s.heap h1 →(∀ e s',wpAny (model P w) A (do if ← isInstance e (.type "StopIteration") then pure none else throw e) Q E s' →E1 e s') →
   wpAny (model P w) A.in1 (do raiseNew (← newExc (.type "StopIteration") [])) Q1 E1 { s with heap:=h1 }:=fun {h1 Q1 E1} sb hE=>by
  apply wpAny_bind;simp only [newExc,newTuple];refine wpAny_bind (wpAny_newObj_type (wpAny_bind (m:=firstArgMember _ _) (wpAny_of_eq (a:=Value.none) (by first | rfl | (simp only [firstArgMember]; rfl)) (wpAny_newObj_type ?_ (by size_fits)))) (by size_fits));simp only [raiseNew];refine wpAny_bind (wpAny_handled ?_);rw [show A.in1.handled=aA7 from hh];refine wpAny_bind (wpAny_pure (wpAny_throw (hE _ _ ?_)));apply wpAny_bind;refine wpAny_isInstance (T:="StopIteration") (b:=true) ⟨_,YL _ rfl,rfl⟩ isSubtype_stop ?_;exact wpAny_pure (hQ _ ((sb.extBut.push _).push _))
 unfold pyNext;refine wpAny_bind (wpAny_attempt (wpAny_callSpecial?_slot (name:=Str.ofString "__next__") hit.typeIs cI (wpAny_call_entry cI hit.typeIs iW ?_ (kI _))));unfold Builtin.«set_iterator.__next__»;refine wpAny_bind (m:=slotArgs "__next__" 0 _) (wpAny_pure ?_);refine wpAny_bind (wpAny_fieldsOf hoi hdi ?_);show wpAny _ _ (setEntries a >>= _) _ _ s;refine wpAny_bind (wpAny_setEntries_of ho hd hf ?_);refine wpAny_ite_split (fun z=>absurd z (by simp)) (fun _=>?_);have hn:vals[es.size]? = none:=aAf (by omega);cases k with
 | text hw e =>
  show wpAny _ _ (setNext a 0 es.size ep >>= _) _ _ s;refine wpAny_bind (qC (slot:=0) (T:=T) (h0:=s.heap) ho hd hf g (.text hw e) (YD _) fun nx _=>?_);rw [hn];show wpAny _ _ (setField (.ref it) 2 .none >>= _) _ _ s;refine wpAny_bind (wpAny_setField hoi hdi (by simp) ?_);exact fin (Yh.update ..) fun e s' h=>h
 | @place slot _ hw hp e hs =>
  show wpAny _ _ (setNext a slot es.size ep >>= _) _ _ s;refine wpAny_bind (qC (slot:=slot) (T:=T) (h0:=s.heap) ho hd hf g (.place hw hp e hs) (YD _) fun nx _=>?_);rw [hn];show wpAny _ _ (setField (.ref it) 2 .none >>= _) _ _ s;refine wpAny_bind (wpAny_setField hoi hdi (by simp) ?_);exact fin (Yh.update ..) fun e s' h=>h
 | @draw _ os hT hos e =>
  show wpAny _ _ (seqItems? (.ref T) >>= _) _ _ s;refine wpAny_bind (wpAny_seqItems hT rfl ?_);have hlo:os.length=es.size:=by rw [e,YH] at hv; exact hv
  have ep1:(os.map fun (i:Nat)=>rawInt (i:Int)).toArray[((es.size:Int)).toNat]? = none:=by
   show (os.map fun (i:Nat)=>rawInt (i:Int)).toArray[es.size]? = _;rw [aAe];exact aAf (by rw [YH]; omega)
  dsimp only;rw [ep1];show wpAny _ _ (setField (.ref it) 0 (rawInt 0) >>= _) _ _ s;refine wpAny_bind (wpAny_setField hoi hdi (by simp) ?_);have g1:(s.heap.update it (Obj.mapFields (·.setIfInBounds 0 (rawInt 0)))).get? it=some (Obj.mapFields (·.setIfInBounds 0 (rawInt 0)) oi):=Yd _ hoi (Obj.isFreed_of_fields (Obj.data_mapFields hdi _));refine wpAny_bind (wpAny_setField g1 (Obj.data_mapFields hdi _) (by simp) ?_);exact fin ((Yh.update ..).trans (Yh.update ..)) fun e s' h=>h
theorem CP {fst:Value}{i n:Nat}(hit:v9 s.heap it a fst i n ep){Q:Value →Shared →Prop}(h:Q (.ref it) s):wpAny (model P w) A (pyIter (.ref it)) Q E s:=by
 refine wpAny_pyIter_slot hit.typeIs j8 (wpAny_call_entry j8 hit.typeIs pH ?_ (qM _));show wpAny _ _ (ret (.ref it)) _ _ s;exact wpAny_pure ⟨_,rfl,"set_iterator",_,hit.typeIs,cI.lookup,h⟩
theorem Bg (ho:s.heap.get? a=some o)(hx:o.ExactSet)(hd:o.data=.set es ep t)(hf:t.fits es.size=true)(g:Hl w t)(hz:es.size ≤ sizeLine){Q:Value →Shared →Prop}
  (h:∀ (it T:Addr) (vals:List Value) (fst:Value) (h':Heap) (d':Drawn),s.heap.objs.size ≤ it →T≠it →(T=a∨s.heap.objs.size ≤ T) →vals.Perm (es.toList.map (·.2)) →(∀ b o,s.heap.get? b=some o →h'.get? b=some o) →v9 h' it a fst 0 es.size ep →Kd w es ep t a T vals h' fst 0 →Q (.ref it) { s with heap:=h',drawn:=d' }) :
  wpAny (model P w) A (pyIter (.ref a)) Q E s:=by
 have ty:s.TypeIs (.ref a) "set":=⟨o,ho,hx.1⟩
 have ha:=YG ho;refine wpAny_pyIter_slot ty F.slot_set_iter (wpAny_call_entry F.slot_set_iter ty oU ?_ (F.args_set_iter_1 _));unfold Builtin.«frozenset.__iter__»;refine wpAny_bind (m:=Builtin.Frozenset.slot0 "__iter__" _) (wpAny_pure ?_);unfold Builtin.Frozenset.sizeOf;refine wpAny_bind (wpAny_bind (wpAny_setEntries_of ho hd hf (wpAny_pure ?_)));unfold setDrawn setsByText;refine wpAny_bind (wpAny_bind (wpAny_setState_of ho hd hf ?_));refine wpAny_bind (wpAny_bind (wpAny_askSetting (wpAny_pure ?_)));refine wpAny_pure ?_;refine wpAny_ite_split (fun z=>?_) (fun z=>?_)
 ·refine wpAny_bind (BK es.size (Zh es.size) s _ (by simp) fun os d' p=>?_);have hlo:os.length=es.size:=by rw [p.length_eq,Z2]
  refine wpAny_bind (wpAny_newTuple ?_ (by rw [YH]; omega));have ho2:(s.heap.push { cls:=.type "tuple",data:=.seq (os.map fun (i:Nat)=>rawInt (i:Int)).toArray }).get? a=some o:=YB _ ho;refine wpAny_bind (wpAny_setEpoch_of ho2 hd hf ?_);refine wpAny_bind (wpAny_newObj_type (wpAny_pure ⟨_,rfl,"set_iterator",_,⟨_,YL _ rfl,rfl⟩,cI.lookup,?_⟩));refine h _ s.heap.objs.size (os.map fun j=>(es.getD j (0,.none)).2) (.ref s.heap.objs.size) _ d' (by rw [ZX]; exact Zq _) (by rw [ZX]; exact YW (Zv _)) (.inr (YD _)) ?_ (fun b u e=>YB _ (YB _ e)) ⟨_,YL _ rfl,rfl,rfl⟩ (.draw (YB _ (YL _ rfl)) (fun j hj=>ZF.mp (p.mem_iff.mp hj)) rfl);refine (p.map _).trans ?_;have e:(Zh es.size).map (fun j=>(es.getD j (0,.none)).2)=es.toList.map (·.2):=by
   apply aAB
   ·simp
   ·intro i h1 h2;simp at h1;simp [aBc,h1]
  rw [e]
 ·refine wpAny_bind (wpAny_pure ?_);refine wpAny_bind (wpAny_setEpoch_of ho hd hf ?_);refine wpAny_bind (wpAny_newObj_type (wpAny_pure ⟨_,rfl,"set_iterator",_,⟨_,YL _ rfl,rfl⟩,cI.lookup,?_⟩));have fin:∀ vals:List Value,vals.Perm (es.toList.map (·.2)) →(∀ h',Kd w es ep t a a vals h' (.int 0 0) 0) →Q (.ref s.heap.objs.size) { s with heap:=s.heap.push { cls:=.type "set_iterator",data:=.fields #[.int 0 0,.int 0 0,.ref a,.int es.size 0,.int ep 0] } }:=fun vals p k =>
   h _ a vals (.int 0 0) _ s.drawn (YD _) (YW ha) (.inl rfl) p (fun b u e=>YB _ e) ⟨_,YL _ rfl,rfl,rfl⟩ (k _)
  by_cases hw:w.params.followText "set-order" = true
  ·exact fin _ ((CJ (w.params.setOrder a ep) es).map _) fun h'=>.text hw rfl
  ·refine fin _ (ZD.refl _) fun h'=>.place hw (fun y=>z ?_) rfl (zM g.2);have hw2:(!w.params.followText "set-order")=true:=by simpa using hw
   exact (Y6 _ _).mpr ⟨hw2,y⟩
theorem Bd {vals:List Value}(hh:A.handled=none)(hne:it≠a)(hTi:T≠it)(hd:o.data=.set es ep t)(hf:t.fits es.size=true)(g:Hl w t)(hl:vals.length=es.size) :
  Walks P w A it [it,a,T] [it] es.size (fun i v=>vals[i]? = some v) (fun i h=>∃ fst,v9 h it a fst i es.size ep∧Kd w es ep t a T vals h fst i∧h.get? a=some o) where
 sub:=fun b hb=>by rw [YK.mp hb]; exact .head _
 frame:=fun i h h' st k=>by
  obtain ⟨fst,⟨oi,e1,c1,d1⟩,kd,e2⟩:=st;refine ⟨fst,⟨oi,k it (.head _) _ e1,c1,d1⟩,?_,k a (.tail _ (.head _)) _ e2⟩;cases kd with
  | text hw e=>exact .text hw e
  | place hw hp e hs=>exact .place hw hp e hs
  | draw hT hos e=>exact .draw (k T (.tail _ (.tail _ (.head _))) _ hT) hos e
 item:=fun i s Q E hi st hQ=>by
  obtain ⟨fst,si,kd,e2⟩:=st;have hv:=YF (show i<vals.length by omega);refine Ba si hTi e2 hd hf g kd hi hv fun h' f' si' kd' sb=>?_;exact hQ _ h' s.toks hv ⟨f',si',kd',(sb.2 a (Ne.symm hne)).trans e2⟩ fun b o hb e=>(sb.2 b (fun z=>hb (by rw [z]; exact .head _))).trans e
 done:=fun s Q E st hQ=>by
  obtain ⟨fst,si,kd,e2⟩:=st;refine Eo hh si e2 hd hf g kd hl fun h' eb=>?_;exact hQ h' s.toks fun b o hb e=>eb b o (fun z=>hb (by rw [z]; exact .head _)) e
 self:=fun i s Q E st hQ=>let ⟨_,si,_,_⟩:=st; CP si hQ
theorem uR {R:List Value →Shared →Prop}(hh:A.handled=none)(ho:s.heap.get? a=some o)(hx:o.ExactSet)(hd:o.data=.set es ep t)(hf:t.fits es.size=true)(g:Hl w t)(hz:es.size ≤ sizeLine)
  (h:∀ (h':Heap) (tk:Nat) (d':Drawn) (acc:List Value),(∀ b o,s.heap.get? b=some o →h'.get? b=some o) →acc.Perm (es.toList.map (·.2)) →R acc { s with heap:=h',toks:=tk,drawn:=d' }):wpAny (model P w) A (collect (.ref a)) R E s:=by
 have ha:=YG ho;unfold collect;refine wpAny_bind (wpAny_runValue (codeAny_builtin entry_proto_collect' ?_));rw [Around.under_plainId PySem.F.plain_proto_collect _];show wpAny _ A.in1 (newList [] >>= fun l=>again (.builtin "list.__iadd__" ⟨[l,.ref a],[]⟩)) _ _ s;refine wpAny_bind (wpAny_newObj_type (wpAny_pure ⟨plainId_quiet PySem.F.plain_list_iadd _,codeAny_builtin entry_list_iadd' ?_⟩));rw [Around.under_plainId PySem.F.plain_list_iadd _];have e0:(s.heap.push { cls:=.type "list",data:=.seq ([]:List Value).toArray }).get? s.heap.objs.size=some { cls:=.type "list",data:=.seq #[] }:=YL _ rfl;have e1:(s.heap.push { cls:=.type "list",data:=.seq ([]:List Value).toArray }).get? a=some o:=YB _ ho;generalize hH:s.heap.push { cls:=.type "list",data:=.seq ([]:List Value).toArray }=h1 at e0 e1;have z1:h1.objs.size=s.heap.objs.size+1:=by rw [← hH]; exact ZX _ _
 have k1:∀ b u,s.heap.get? b=some u →h1.get? b=some u:=fun b u e=>by rw [← hH]; exact YB _ e
 show wpAny _ A.in1 (Builtin.List.listExtendWith (.ref s.heap.objs.size) (.ref a) (.ref s.heap.objs.size)) _ _ { s with heap:=h1 };unfold Builtin.List.listExtendWith;refine wpAny_bind (wpAny_typeOf (T:="set") ⟨o,e1,hx.1⟩ ?_);have n1:Builtin.List.listSameRef (.ref s.heap.objs.size) (.ref a)=false:=by simp [Builtin.List.listSameRef]; exact ZV ha
 have n2:(Value.type "set"==Value.type "list")=false:=by decide
 have n3:(Value.type "set"==Value.type "tuple")=false:=by decide
 simp only [n1,n2,n3,Bool.or_false,YZ,if_false];refine wpAny_bind (Bg e1 hx hd hf g hz fun it T vals fst h2 d' hit hTi hT p k2 si kd=>?_);have e2:=k2 _ _ e0;have ea:=k2 _ _ e1;have z2:s.heap.objs.size<h1.objs.size:=by rw [z1]; exact Zv _
 have ni:s.heap.objs.size≠it:=YW (YS z2 hit);have na:s.heap.objs.size≠a:=ZV ha;have nT:s.heap.objs.size≠T:=by
  rcases hT with e | e
  ·rw [e]; exact na
  ·exact YW (YS z2 e)
 have nS:s.heap.objs.size∉[it,a,T]:=by
  simp only [Ye,Zf,or_false,not_or];exact ⟨ni,na,nT⟩
 have hl:vals.length=es.size:=by rw [p.length_eq,YH,YJ]
 refine wpAny_bind (wpAny_holding (EY ⟨o,ea,hx.1⟩ ?_));have nia:it≠a:=fun z=>by rw [z] at hit; exact absurd (YS (aA3 ha z2) hit) (Yz _)
 have W:=(Bd (P:=P) (A:=A.in1) (show A.in1.handled=none by simp [hh]) nia hTi hd hf g hl)
 refine wpAny_ite_split (fun _=>?_) (fun z=>absurd (by decide) z);refine wpAny_bind (wpAny_rule (wpAny_bind (show wpAny _ _ (updateSeq s.heap.objs.size (·.push .none) >>= fun _=>updateSeq s.heap.objs.size (·.pop)) _ _ _ from ?_)));refine wpAny_bind (wpAny_updateSeq e2 rfl ?_);have e3:=Yd (Obj.mapSeq (·.push Value.none)) e2 rfl;refine wpAny_updateSeq (hz:=by seq_fits) e3 rfl ?_;have e4:=Yd (Obj.mapSeq (·.pop)) e3 rfl;have kb:∀ b u,b≠s.heap.objs.size →h2.get? b=some u →((h2.update s.heap.objs.size (Obj.mapSeq (·.push Value.none))).update s.heap.objs.size (Obj.mapSeq (·.pop))).get? b=some u:=fun b u n e =>
  (Yq _ _ (Ne.symm n)).trans ((Yq _ _ (Ne.symm n)).trans e)
 refine wpAny_pure ⟨plainId_quiet PySem.F.plain_extend_loop _,?_⟩;refine codeAny_extend_loopS W.toS hz s.heap.objs.size nS _ es.size 0 _ #[] ?c rfl (Ym _) ?st ?e4 (ItemsOf.nil _) fun s' acc c hm hS hacc=>?fin
 case st=>exact W.frame 0 _ _ ⟨fst,si,kd,ea⟩ fun b hb u e=>kb b u (fun z=>nS (z ▸ hb)) e
 case e4=>exact e4
 case fin =>
 obtain ⟨h3,gs3,d3,k3,o3⟩:=s';have f1:gs3=s.gens:=hm.gens;have f2:d3=d':=hm.drawn;have f3:o3=s.os:=hm.os;subst f1 f2 f3;show wpAny _ A (load s.heap.objs.size >>= _) _ _ _;refine wpAny_bind (wpAny_load hS (wpAny_pure (h h3 k3 d3 acc.toList (fun b u e=>?_) ?_)))
 ·have hb:=YG e;refine hm.heap b u ?_ (kb b u (YW hb) (k2 _ _ (k1 b u e)));simp only [Ye,Zf,or_false,not_or];exact ⟨YW hb,YW (YS (aA3 hb z2) hit)⟩
 ·have e:acc.toList=vals:=by
   apply aAB
   ·rw [YJ,hacc.1,hl]
   ·intro i x1 x2;have hia:i<acc.size:=by simpa using x1
    have this:vals[i]? = some acc[i]:=hacc.2 i acc[i] (Yo hia);rw [YF x2] at this
    simpa using (ZW.inj this).symm
  rw [e];exact p
end
section
variable {X:Cx}
theorem ints_map:∀ l:List Value,(∀ v∈l,∃ n t,v=Value.int n t) →IntsAre l (l.map numOf)
 | [],_=>.nil
 | v::l,h=>by
  obtain ⟨n,t,rfl⟩:=h v Yg;exact .cons n t (ints_map l fun u hu=>h u (Yb _ hu))
theorem sV:∀ {l:List Value}{ns:List Int},IntsAre l ns →∀ v∈l,∃ n t,v=Value.int n t
 | _,_,.nil,_,h=>nomatch h
 | _,_,.cons n t r,v,h=>by
  rcases Ye.mp h with e | e
  ·exact ⟨n,t,e⟩
  ·exact sV r v e
def xB (w:World)(a:Addr)(ns:List Int)(h:Heap):Prop:=∃ o es ep t,h.get? a=some o∧o.ExactSet∧o.data=.set es ep t∧t.fits es.size=true∧Hl w t∧es.size<scanBound∧∃ ms,IntsAre (es.toList.map (·.2)) ms∧ms.Perm ns
theorem aU.drawn {pins:List (Addr×Obj)}{σ:St}{H:Hp}{s:Shared}(I:aU X pins σ H s){h':Heap}{tk:Nat}{d':Drawn}(k:∀ b o,s.heap.get? b=some o →h'.get? b=some o):aU X pins σ H { s with heap:=h',toks:=tk,drawn:=d' }:=by
 have J:aU X pins σ H { s with heap:=h',toks:=tk }:=I.kept (t':=tk) k;exact J.step (s:={ s with heap:=h',toks:=tk }) (h':=h') (g':=s.gens) (t':=tk) (d':=d') (ch:=[]) (fun _ z=>nomatch z) (fun _ _ _ _ _ e _=>e) (fun b o _ _ _ e _=>⟨o.slots,e⟩) (fun _ _ _ _ n=>n) (fun _ o _ e=>⟨o,e⟩) (fun _ _ e=>e) (fun _ _ _ e=>e) (fun _ ps e=>⟨#[],by simpa using e⟩) (fun _ n=>n) J.hok J.bare
theorem nP {α:Type}[DecidableEq α]:∀ {l m:List α},l.Nodup →(∀ x∈l,x∈m) →m.length ≤ l.length →m.Perm l
 | [],m,_,_,h=>by
  obtain rfl:=Zg (show m.length=0 by simpa using h);exact ZD.refl _
 | x::l,m,nd,sub,h=>by
  have hx:=sub x Yg;obtain ⟨n1,n2⟩:=Z4.mp nd;have hm:=aAy hx;have pos:0<m.length:=aAd hx;refine (List.perm_cons_erase hx).trans ((nP n2 (fun y hy=>?_) (by rw [hm]; rw [Y_] at h; omega)).cons x);have ne:y≠x:=fun e=>n1 (by rw [← e]; exact hy);exact (aAO ne).mpr (sub y (Yb _ hy))
theorem Ga {P:Program}{w:World}{h:Heap}{a:Addr}{ns:List Int}(nd:ns.Nodup)(x:mR P w (Hl w) h a (fun j=>ns.any (·==j)) ns.length):xB w a ns h:=by
 obtain ⟨o,es,ep,t,e1,ex,hd,he,hm,hb,hf,hz,hl⟩:=x;have each:∀ v∈es.toList.map (·.2),∃ n t,v=Value.int n t:=fun v hv=>by
  obtain ⟨e,he2,rfl⟩:=ZG.mp hv;obtain ⟨⟨k,hk,_⟩,_⟩:=he e he2;obtain ⟨tk,hv⟩:=isInt_shape hk;exact ⟨k,tk,hv⟩
 refine ⟨o,es,ep,t,e1,ex,hd,hf,hl,hb,_,ints_map _ each,nP nd (fun k hk=>?_) (by simp; omega)⟩;obtain ⟨e,h1,h2⟩:=(hm k).mp (Yt.mpr ⟨k,hk,by simp⟩);obtain ⟨tk,hv⟩:=isInt_shape h2;exact ZG.mpr ⟨e.2,ZG.mpr ⟨e,h1,rfl⟩,by rw [hv]; rfl⟩
end
section
variable {prog:Program}{w:World}{A:Around}{E:Value →Shared →Prop}{s:Shared}
theorem Gy {a:Addr}{vs:List Value}{ns:List Int}{n:Nat}{P:PySem.Fin →Shared →Prop}(ho:s.heap.get? a=some (seqObj "list" vs.toArray n))(hI:IntsAre vs ns)(h128:vs.length<128)
  (h:∀ (out:Array Value) (ns':List Int),IntsAre out.toList ns' →ns'.Perm ns →ns'.Pairwise (· ≤ ·) →P (.done (.ret .none)) { s with heap:=sortedHeap s.heap a vs out }) :
  wpAny (model prog w) A (Builtin.«list.sort» ⟨[.ref a],[]⟩) P E s:=by
 by_cases h64:vs.length<64
 ·exact list_sort_tree ho hI h64 h
 rw [list_sort_plain];have ha:a<s.heap.objs.size:=YG ho;have hl:vs.toArray.size=vs.length:=by simp
 refine wpAny_bind (listItems_at ho rfl (wpAny_bind (listUpdate_at ho rfl ?_ (by rw [hl,sizeLine_eq]; omega) (Ym _))));obtain ⟨e1,ho1⟩:∃ e1,(s.heap.update a (Obj.mapSeq fun _=>#[])).get? a=some (seqObj "list" #[] e1):=⟨_,get?_update_seq ho (fun _=>#[])⟩
 refine wpAny_bind (seqEpoch_at ho1 rfl (wpAny_bind (wpAny_newTuple (wpAny_bind (wpAny_newList (wpAny_holding ?_))) (by rw [show vs.toArray.toList=vs from rfl,sizeLine_eq]; omega))));have ho6:(((s.heap.update a (Obj.mapSeq fun _=>#[])).push (seqObj "tuple" vs.toArray 0)).push (seqObj "list" #[] 0)).get? a=some (seqObj "list" #[] e1):=YB _ (YB _ ho1);show wpAny (model prog w) A _ P E { s with heap:=((s.heap.update a (Obj.mapSeq fun _=>#[])).push (seqObj "tuple" vs.toArray 0)).push (seqObj "list" #[] 0) };dsimp only;rw [if_neg (by rw [hl]; omega),if_neg (by rw [hl]; omega)];obtain ⟨v1,v2,rest,rfl⟩:∃ v1 v2 rest,vs=v1::v2::rest:=by
  match vs,h64 with
  | v1::v2::rest,_=>exact ⟨v1,v2,rest,rfl⟩
  | [],h=>exact absurd (by decide) h
  | [v],h=>exact absurd (by show 1<64; decide) h
 rw [keyKind_ints hI];refine wpAny_bind (wpAny_pure ?_);refine wpAny_bind (wpAny_mono (Mg.Bl (a₀:=pairsOf (v1::v2::rest)) (st:=SortSt.mk' oneType' ((v1::v2::rest).toArray.zip (v1::v2::rest).toArray) #[] 7 none)
  (Q:=fun _ st'=>(arrOf st').Perm (pairsOf (v1::v2::rest))∧failedOf st'=none∧SortedTo (arrOf st') (pairsOf (v1::v2::rest)).size)
  hI.intKeys ⟨Array.Perm.refl _,rfl,rfl,rfl⟩ (by rw [pairsOf_size]; omega) (by rw [pairsOf_size]; exact h128) fun st' a1 a2 a3=>⟨a1,a2,a3⟩) ?_ fun _ _ e=>e)
 rintro ⟨⟨⟩,st'⟩ s' ⟨rfl,hp,hf,hso⟩;dsimp only;refine wpAny_bind (seqEpoch_at ho6 rfl (wpAny_bind (listUpdate_at ho6 rfl ?_ (Ym _) (Y5 (aAD ((Array.size_map ..).trans (hp.size_eq.trans (pairsOf_size _)))) (by rw [sizeLine_eq]; omega)))));rw [hf];simp only [bne_self_eq_false,YZ,if_false];obtain ⟨ns',b1,b2,b3⟩:=sorted_out hI hp hso;exact wpAny_pure (h _ ns' b1 b2 b3)
end
section
variable {X:Cx}
theorem tU (hc:X.calm=true):cU X (.builtin "sorted") (fun xs H Q=>∃ (r:Addr) (ns:List Int),xs=[.ref r]∧H r=some (.ext (xB X.w r ns))∧ns.length<128∧∀ (l:Addr) (ms:List Int),H l=none →ms.Perm ns →ms.Pairwise (· ≤ ·) →Q (.ref l) (bQ H l (.lst (ms.map V.int)))):=by
 intro pins s σ H xs us Q I r h;obtain ⟨a,ns,rfl,hS,h64,q⟩:=h;obtain ⟨u,rfl,ru⟩:=vals1 r;cases (show u=Value.ref a from ru);obtain ⟨⟨o,es,ep,t,e,ex,hd,hf,g,hb,ms,im,pm⟩,_,_⟩:=(show bY X.prog X.w H s.heap a (.ext (xB X.w a ns)) from I.hok a _ hS)
 have hme:es.toList.length=ns.length:=by
  have h1:=im.length;rw [YH] at h1;rw [h1,pm.length_eq]
 have hz:es.size ≤ sizeLine:=by rw [← YJ,hme,sizeLine_eq]; omega
 refine Calls.call_function_entry kind_sorted plain_sorted entry_sorted (args_sorted1 _) ?_;unfold Builtin.«sorted»;refine wpAny_bind (m:=checkCount "sorted" 1 1 _) (wpAny_pure ?_);refine wpAny_bind (uR (by first | exact I.ok.hd hc | (rw [show X.A.in1.handled=X.A.handled from rfl]; exact I.ok.hd hc)) e ex hd hf g hz fun h' tk d' acc hk pa=>?_);obtain ⟨ks,ia,pk⟩:∃ ks,IntsAre acc ks∧ks.Perm ms:=by
  refine ⟨acc.map numOf,ints_map acc fun v hv=>sV im v (pa.mem_iff.mp hv),?_⟩;rw [← im.nums];exact pa.map _
 have hla:acc.length=ns.length:=by rw [ia.length,pk.length_eq,pm.length_eq]
 refine wpAny_bind (wpAny_newList ?_ (by rw [hla,sizeLine_eq]; omega));have hoL:(h'.push (seqObj "list" acc.toArray 0)).get? h'.objs.size=some (seqObj "list" acc.toArray 0):=YL _ rfl;refine wpAny_bind (wpAny_holding (wpAny_call_entry slot_list_sort ⟨_,hoL,rfl⟩ entry_list_sort (Gy hoL ia (by omega) fun out ns' a1 a2 a3=>⟨_,rfl,?_⟩) (args_list_sort _)));refine wpAny_pure ⟨_,rfl,?_⟩;have I1:aU X pins σ H { s with heap:=h',toks:=tk,drawn:=d' }:=I.drawn hk;have fr:H h'.objs.size=none:=I1.hok.fresh (YD _);obtain ⟨ep2,eo⟩:=sortedHeap_at (out:=out) hoL;have pp:ns'.Perm ns:=a2.trans (pk.trans pm);refine ⟨.ref h'.objs.size,bQ H h'.objs.size (.lst (ns'.map V.int)),I1.laid (t':=tk) (fun b u q=>?_) (YD _) ⟨by rw [YH,pp.length_eq,sizeLine_eq]; omega,out.toList,ep2,jU a1,by rw [aAk]; exact eo⟩,rfl,q _ _ fr pp a3⟩;rw [sortedHeap_old (YW (YG q)) (by rw [ZX]; exact aAa (YG q))];exact YB _ q
theorem o9:∀ (ns acc:List Int),acc.Nodup →(ns.foldl step_dedup acc).Nodup∧∀ k,k∈ns.foldl step_dedup acc↔(k∈acc∨k∈ns)
 | [],acc,h=>⟨h,fun k=>by simp⟩
 | n::ns,acc,h=>by
  rw [aBa]
  by_cases hn:acc.any (·==n)=true
  ·have e:step_dedup acc n=acc:=by unfold step_dedup; rw [if_pos hn]
   have hm:n∈acc:=by
    obtain ⟨x,hx,z⟩:=Yt.mp hn;have:x=n:=by simpa using z
    rw [← this]; exact hx
   rw [e];obtain ⟨a1,a2⟩:=o9 ns acc h;refine ⟨a1,fun k=>(a2 k).trans ?_⟩;rw [Ye];exact ⟨fun z=>z.elim .inl fun z=>.inr (.inr z),fun z=>z.elim .inl fun z=>z.elim (fun e=>.inl (by rw [e]; exact hm)) .inr⟩
  ·have e:step_dedup acc n=acc++[n]:=by unfold step_dedup; rw [if_neg hn]
   have hm:n∉acc:=fun z=>hn (Yt.mpr ⟨n,z,by simp⟩);rw [e];obtain ⟨a1,a2⟩:=o9 ns (acc++[n]) (aAv.mpr ⟨h,by simp,fun x hx y hy z=>by rw [YK.mp hy] at z; exact hm (by rw [← z]; exact hx)⟩);refine ⟨a1,fun k=>(a2 k).trans ?_⟩;rw [Y9,YK,Ye,or_assoc]
theorem mX (ns:List Int):(vH ns).Nodup:=(o9 ns [] (by simp)).1
theorem uE (ns:List Int)(k:Int):k∈vH ns↔k∈ns:=((o9 ns [] (by simp)).2 k).trans (by simp)
theorem Ci (hc:X.calm=true):cU X (.type "set") (fun xs H Q=>∃ (a:Addr) (ns:List Int),xs=[.ref a]∧bL X.K H a (ns.map V.int)∧ns.length+1<scanBound∧∀ r,H r=none →Q (.ref r) (bQ H r (.ext (xB X.w r (vH ns))))):=by
 intro pins s σ H xs us Q I r h;obtain ⟨a,ns,rfl,hS,hb,q⟩:=h;obtain ⟨u,rfl,ru⟩:=vals1 r;cases (show u=Value.ref a from ru);obtain ⟨its,rv,p,hz⟩:=I.list hS;have hi:IntsAre its ns:=intsAre_of rv;have hl:its.toArray.size=ns.length:=by
  have h:=rv.length;rw [YH] at h
  simpa using h.symm
 refine CV (Dw X.w) (I.ok.hd hc) p.isList hi (by rw [hl]; exact hb) ⟨rfl,by unfold uP SetTable.fresh; exact .nil⟩ fun h' tk hG kp=>?_;rw [hl,oJ] at hG;have one:xB X.w s.heap.objs.size (vH ns) h':=Ga (mX ns) hG;have hk2:∃ o,h'.get? s.heap.objs.size=some o:=let ⟨o,_,_,_,e,_⟩:=one; ⟨o,e⟩;refine ⟨.ref s.heap.objs.size,_,I.laid (t':=tk) (fun b o e=>kp b o (YG e) e) (YD _) (show bY X.prog X.w _ h' _ (.ext _) from ⟨one,hk2,fun h1 h2 x k=>let ⟨o,a1,a2,a3,e,r⟩:=x; ⟨o,a1,a2,a3,k o e,r⟩⟩),rfl,q _ (I.hok.fresh (YD _))⟩
theorem yS {K:PySem.W.Frag}{w:World}(hK:X.K=K)(hw:X.w=w)(hc:X.calm=true):cU X (.type "set") (fun xs H Q=>∃ (a:Addr) (ns:List Int),xs=[.ref a]∧bL K H a (ns.map V.int)∧ns.length+1<scanBound∧∀ r,H r=none →Q (.ref r) (bQ H r (.ext (xB w r (vH ns))))):=by subst hK; subst hw; exact Ci hc
theorem qU {w:World}(hw:X.w=w)(hc:X.calm=true):cU X (.builtin "sorted") (fun xs H Q=>∃ (r:Addr) (ns:List Int),xs=[.ref r]∧H r=some (.ext (xB w r ns))∧ns.length<128∧∀ (l:Addr) (ms:List Int),H l=none →ms.Perm ns →ms.Pairwise (· ≤ ·) →Q (.ref l) (bQ H l (.lst (ms.map V.int)))):=by subst hw; exact tU hc
def Lg (K:PySem.W.Frag)(C:Addr)(i:Nat)(sp:Sp)(t:TA)(ts:Addr →TS):TS:=fun D σ H =>
 t σ H fun vs H1=>sp (vs++[]) H1 (fun _ H2=>D.nx σ H2) (fun cls od H'=>PySem.W.exmOne K cls (.ref C)=some true∧∀ a,H' a=none →ts a (D.back i) (σ.set i (some (.ref a))) (bQ H' a (.ext (yF a cls od))))
theorem Dy {suite:List Stmt}{b0:Stmt}{x n y:Str}{np hpos pos cpos cp epos:Pos}{C:Addr}{i k:Nat}{t:TA}{ts:Addr →TS}{ps:List Str}{sp:Sp}{g:Addr}{gd:FuncData}{e:Expr}{es:List Expr}
  (hst:X.stack=X.env::X.outer) (hf:X.env.frame=some X.env.locals) (hex:X.ex=[]) (hpn:X.pn=[]) (hN:X.N.Nodup) (hi:X.N[i]? = some n) (hk:X.env.scope.names.lookup n=some .local) (hfn:X.fn n=true) (hg:Gl X x) (hm:X.mg x=some (.ref C))
  (c:uO X.prog X.w X.K X.mg X.base k y ps sp g gd) (hr:dM k X.A) (hy:Gl X y) (ha:∀ G,PA (X.wish G) (e::es) t) (hs:∀ a,vK (X.marked a) (b0::suite) (ts a)) (hd:(x==("__debug__" : Str))=false:=by decide)
  (hdy:(y==("__debug__" : Str))=false:=by decide) (he:starEach (e::es) X.env=(false,eval e X.env)::starEach es X.env:=by rfl) (hpl:(backTo cpos (starEach es X.env)).any (·.1)=false:=by rfl)
  (hsw:swapsWith (.Call (.Name y cp) (e::es) [] cpos) none epos.line X.env=pure false:=by rfl) :
  Qk X (.Try [.Expr (.Call (.Name y cp) (e::es) [] cpos) epos] [.ExceptHandler (some (.Name x np)) (some n) (b0::suite) hpos] [] [] pos) (Lg X.K C i sp t ts):=by
 intro s σ H D I h;refine Df (φ:=yF) (ts:=ts) hst hf hex hpn hN hi hk hfn hg hm (fun a od h o vs g e k=>?_) (fun a cls od h1 h2 q k=>?_) I ?_ hs hd
 ·cases od with
  | none=>exact ⟨o,g,rfl⟩
  | some d =>
   obtain ⟨o',g',q⟩:=k d rfl;rw [g] at g';cases g';obtain ⟨c,dd,da,sl⟩:=o;subst q;subst e;exact ⟨vs,sl,g⟩
 ·cases od with
  | none=>obtain ⟨o,g,c⟩:=q; exact ⟨o,k o g,c⟩
  | some d=>exact Bx q k
 have Iw:=I.wish (Cw X yF C i ts D);refine wpAny_execs_cons (wpAny_mono (Q:=SP X [] D) (wpAny_Expr_any (wpAny_Call_Name_kw (gY I hy c.at_ ?_ hdy)) I.quiet hsw) (fun f s1 q=>?_) fun _ _ z=>z)
 ·refine PySem.W.callWith_K (h₀:=X.base) I.ok.mod.kin c.kp (wpAny_mono (ha (Cw X yF C i ts D) cpos [] s σ H _ Iw h) (fun us s1 hq=>?_) fun _ _ z=>z) he hpl;obtain ⟨vs,H1,I1,r,q⟩:=hq;have I1:=I1.unwish;refine ⟨I1.kIn,?_⟩;have r2:bM (vs++[]) (us++[]):=r.append .nil;have hl:(us++[]).length=ps.length:=by rw [← r2.length]; exact c.ok.len _ _ _ _ q
  refine wpAny_call (codeAny_mono (c.ok.run X.A X.stack s1 H1 ⟨us,[]⟩ (us++[]) (vs++[]) _ _ hr I1.env0 (c.bi s1 us I1.kIn hl) r2 q) fun rr s' hq=>?_);cases rr with
  | error ev =>
   obtain ⟨a,cls,a0,H',B,od,rfl,hos,hgn,un,hok,fl,inB,inH,hdk,hE⟩:=hq;have J:=I1.call' (s':=s') (H':=H') (ch:=[]) hos un hok hgn (fun b z=>absurd z (by simp));refine ⟨a,cls,a0,σ,H',B,od,rfl,J,fl,fun b o q hb=>?_,inH,hdk,hE.1,hE.2⟩;obtain ⟨o',e'⟩:=I1.base.there b o q (by show b∉X.ex; rw [hex]; simp);refine inB b o' e' fun z=>?_;have z':b∈iV X.stack:=z;rw [hst] at z';rcases (tW hf).mp z' with z' | z'
   ·exact absurd z' (YW (YS (YG q) I.ok.above))
   ·exact hb z'
  | ok fl =>
   cases fl with
   | ret u =>
    obtain ⟨v,H2,J,rv,q2⟩:=I1.after hq;exact ⟨σ,H2,J,q2⟩
   | next=>exact False.elim hq
   | brk=>exact False.elim hq
   | cont=>exact False.elim hq
 ·cases f with
  | next=>exact wpAny_execs_nil q
  | ret v=>exact q
  | brk=>exact q
  | cont=>exact q
end
theorem zG:Manifest.owners.lookup (String.ofList ['d','e','s','r','e','v','e','r'].reverse)=some Manifest.sig_reversed:=by kernel_rfl
theorem eO:Slot "reversed" "__next__" "reversed.__next__" :=
 .of (owner:="reversed") (n:="__next__") (by rw [typeLookup_type,builtinLookup_eq_fast]; kernel_rfl) (by decide +kernel) (by decide +kernel) (by decide +kernel) (by first | exact .inl (by decide +kernel) | exact .inr (by decide +kernel)) (by rw [isSubtype_type]; kernel_rfl)
theorem nZ:entryFor table "reversed.__next__" = some Builtin.«reversed.__next__»:=entryFor_of_tree (by kernel_rfl)
theorem nM (a:Value):argsOk "reversed.__next__" ⟨[a],[]⟩:=by
 unfold argsOk; rw [signature?_of (id:="reversed.__next__") (n:=['_','_','t','x','e','n','_','_']) (o:=['d','e','s','r','e','v','e','r']) (by kernel_rfl) zG]; kernel_rfl
theorem nW:Slot "reversed" "__iter__" "reversed.__iter__" :=
 .of (owner:="reversed") (n:="__iter__") (by rw [typeLookup_type,builtinLookup_eq_fast]; kernel_rfl) (by decide +kernel) (by decide +kernel) (by decide +kernel) (by first | exact .inl (by decide +kernel) | exact .inr (by decide +kernel)) (by rw [isSubtype_type]; kernel_rfl)
theorem vY (a:Value):argsOk "reversed.__iter__" ⟨[a],[]⟩:=by
 unfold argsOk; rw [signature?_of (id:="reversed.__iter__") (n:=['_','_','r','e','t','i','_','_']) (o:=['d','e','s','r','e','v','e','r']) (by kernel_rfl) zG]; kernel_rfl
theorem wB:entryFor table "reversed.__iter__" = some Builtin.«dict_keyiterator.__iter__» :=
 entryFor_alias (id':="dict_keyiterator.__iter__") (by kernel_rfl) (by first | rfl | decide +kernel | (unfold String.splitOn; simp +decide [String.splitOnAux])) (by decide +kernel) (by kernel_rfl)
theorem wI:Slot "reversed" "__init__" "object.__init__" :=
 .of (owner:="object") (n:="__init__") (by rw [typeLookup_type,builtinLookup_eq_fast]; kernel_rfl) (by decide +kernel) (by decide +kernel) (by decide +kernel) (by first | exact .inl (by decide +kernel) | exact .inr (by decide +kernel)) (by rw [isSubtype_type]; kernel_rfl)
theorem Ik:TypeCalled "reversed" "reversed.__new__" "object.__init__":=⟨by decide +kernel,F.create_reversed,⟨_,_,F.mro_reversed⟩,F.made_reversed,F.plain_reversed_new,F.sub_reversed_self,wI⟩
theorem xX:typeLookup (.type "tuple") "__reversed__" = pure none:=by rw [typeLookup_type,builtinLookup_eq_fast]; kernel_rfl
theorem uN:isSubtype (.type "tuple") (.type "dict")=pure false:=by rw [isSubtype_type]; kernel_rfl
def yV (t:Addr)(i:Int):Obj:={ cls:=.type "reversed",data:=.fields #[.ref t,.int i 0] }
theorem FP (t:Addr)(xs:Array Value)(hz:(xs.size:Int)<2^63) :
  Meets (Builtin.«reversed.__new__» ⟨[.type "reversed",.ref t],[]⟩) (fun _ R s=>IsTup s.heap t xs∧R (.ok (.ret (.ref s.heap.objs.size))) { s with heap:=s.heap.push (yV t ((xs.size:Int)-1)),toks:=s.toks+2 }) :=
 .of_wp fun prog w A R s h=>by
  obtain ⟨ht,h⟩:=h;unfold Builtin.«reversed.__new__»;refine wpAny_bind (wpAny_of_eq (newClass_reversed _) ?_);refine wpAny_bind (m:=Builtin.SmallTypes.refuseKeywords _ _ _) (wpAny_pure ?_);refine wpAny_bind (m:=checkCount _ _ _ _) (wpAny_pure ?_);refine wpAny_bind (wpAny_specialOf ht.typeIs xX ?_);refine wpAny_bind (wpAny_bind (wpAny_isInstance ht.typeIs uN ?_));simp only [YZ,if_false];refine wpAny_bind (wpAny_specialOf ht.typeIs slot_tuple_getitem.lookup ?_);refine wpAny_pure (a:=true) ?_;refine wpAny_bind (len_tuple ht hz ?_);refine wpAny_bind (m:=asInt? _) (wpAny_pure ?_);show wpAny _ _ (newObj (.type "reversed") (.fields #[.ref t,rawInt ((xs.size:Int)-1)]) >>= _) _ _ _;exact wpAny_bind (wpAny_newObj_type (wpAny_pure ⟨_,rfl,h⟩))
def qH (h:Heap)(r t:Addr)(i:Int):Prop:=∃ o,h.get? r=some o∧o.cls=.type "reversed"∧o.data=.fields #[.ref t,.int i 0]
section
variable {prog:Program}{w:World}{A:Around}{E:Value →Shared →Prop}{s:Shared}{r t:Addr}{xs:Array Value}
theorem GX {i:Nat}{x:Value}{Q:Option Value →Shared →Prop}(hr:qH s.heap r t i)(ht:IsTup s.heap t xs)(hx:xs[i]? = some x)(hz:(xs.size:Int)<2^63)
  (k:∀ h',qH h' r t ((i:Int)-1) →Yh r s.heap h' →Q (some x) { s with heap:=h',toks:=s.toks+1 }):wpAny (model prog w) A (pyNext (.ref r)) Q E s:=by
 obtain ⟨o,ho,hc,hd⟩:=id hr;have il:i<xs.size:=by
  rcases Nat.lt_or_ge i xs.size with z | z
  ·exact z
  ·rw [Zj z] at hx; cases hx
 have ty:s.TypeIs (.ref r) "reversed":=⟨o,ho,hc⟩
 unfold pyNext;refine wpAny_bind (wpAny_attempt (wpAny_callSpecial?_slot (name:=Str.ofString "__next__") ty eO (wpAny_call_entry eO ty nZ ?_ (nM _))));show wpAny _ _ (field (.ref r) 0 >>= _) _ _ s;refine wpAny_bind (wpAny_field ho hd (x:=.ref t) rfl ?_);show wpAny _ _ (field (.ref r) 1 >>= _) _ _ s;refine wpAny_bind (wpAny_field ho hd (x:=.int i 0) rfl ?_);dsimp only;rw [if_neg (show ¬ (i:Int)<0 by omega)];refine wpAny_bind (wpAny_specialOf ht.typeIs slot_tuple_getitem.lookup ?_);simp only [Option.isNone_some,YZ,if_false];refine wpAny_bind (wpAny_mkInt ?_);refine wpAny_bind (wpAny_attempt (getItem_tuple (s:={ s with toks:=s.toks+1 }) ht (by omega) (by omega) (j:=i) ?_ hx ?_))
 ·have e:GD xs.size (i:Int)=some i:=by
   unfold GD;rw [if_pos (aAT i),if_pos (by omega),ZC]
  exact (vJ e).1
 dsimp only;refine wpAny_bind (wpAny_field (s:={ s with toks:=s.toks+1 }) ho hd (x:=.int i 0) rfl ?_);dsimp only;refine wpAny_bind (wpAny_setField (s:={ s with toks:=s.toks+1 }) ho hd (by simp) (wpAny_pure ⟨x,rfl,wpAny_pure (k _ ?_ (Yh.update ..))⟩));exact ⟨_,Yd _ ho (Obj.isFreed_of_fields (Obj.data_mapFields hd _)),(Obj.cls_mapFields ..).trans hc,by rw [Obj.data_mapFields hd]; simp [rawInt]⟩
theorem JQ {i:Int}{Q:Option Value →Shared →Prop}(hh:A.handled=none)(hr:qH s.heap r t i)(hi:i<0)(k:∀ h',Heap.ExtBut r s.heap h' →Q none { s with heap:=h' }):wpAny (model prog w) A (pyNext (.ref r)) Q E s:=by
 obtain ⟨o,ho,hc,hd⟩:=id hr;have ty:s.TypeIs (.ref r) "reversed":=⟨o,ho,hc⟩
 unfold pyNext;refine wpAny_bind (wpAny_attempt (wpAny_callSpecial?_slot (name:=Str.ofString "__next__") ty eO (wpAny_call_entry eO ty nZ ?_ (nM _))));show wpAny _ _ (field (.ref r) 0 >>= _) _ _ s;refine wpAny_bind (wpAny_field ho hd (x:=.ref t) rfl ?_);show wpAny _ _ (field (.ref r) 1 >>= _) _ _ s;refine wpAny_bind (wpAny_field ho hd (x:=.int i 0) rfl ?_);dsimp only;rw [if_pos hi];refine wpAny_bind (wpAny_rule (wpAny_bind ?_));show wpAny _ _ (setField (.ref r) 1 (rawInt (-1)) >>= _) _ _ _;refine wpAny_bind (wpAny_setField ho hd (by simp) ?_);have ho2:=Yd (Obj.mapFields (fun a=>a.setIfInBounds 1 (rawInt (-1)))) ho (Obj.isFreed_of_fields (Obj.data_mapFields hd _));have hd2:=Obj.data_mapFields hd (fun a=>a.setIfInBounds 1 (rawInt (-1)));refine wpAny_setField (s:={ s with heap:=s.heap.update r (Obj.mapFields (fun a=>a.setIfInBounds 1 (rawInt (-1)))) }) ho2 hd2 (by simp) ?_;refine wpAny_bind ?_;unfold Builtin.SmallTypes.stopIteration;refine wpAny_bind ?_;simp only [newExc,newTuple];refine wpAny_bind (wpAny_newObj_type ?_ (by size_fits));refine wpAny_bind (m:=firstArgMember _ _) (wpAny_of_eq (a:=Value.none) (by first | rfl | (simp only [firstArgMember]; rfl)) ?_);refine wpAny_newObj_type ?_ (by size_fits);simp only [raiseNew];refine wpAny_bind (wpAny_handled ?_)
 first | rw [show A.in1.handled=none from hh] | rw [hh]
 refine wpAny_bind (wpAny_pure (wpAny_throw ?_));refine wpAny_bind (wpAny_isInstance (T:="StopIteration") (b:=true) ⟨_,YL _ rfl,rfl⟩ isSubtype_stop ?_);refine wpAny_pure (k _ fun b o' n e=>?_);exact YB _ (YB _ ((Yh.update ..).extBut _ _ n ((Yh.update ..).extBut _ _ n e)))
theorem Ad {i:Int}{Q:Value →Shared →Prop}(hr:qH s.heap r t i)(h:Q (.ref r) s):wpAny (model prog w) A (pyIter (.ref r)) Q E s:=by
 obtain ⟨o,ho,hc,hd⟩:=hr;have ty:s.TypeIs (.ref r) "reversed":=⟨o,ho,hc⟩
 refine wpAny_pyIter_slot ty nW (wpAny_call_entry nW ty wB ?_ (vY _));show wpAny _ _ (ret (.ref r)) _ _ s;exact wpAny_pure ⟨_,rfl,"reversed",_,ty,eO.lookup,h⟩
theorem Gh {Q:Value →Shared →Prop}(ht:IsTup s.heap t xs)(hz:(xs.size:Int)<2^63)(h:Q (.ref s.heap.objs.size) { s with heap:=s.heap.push (yV t ((xs.size:Int)-1)),toks:=s.toks+2 }):wpAny (model prog w) A (call (.type "reversed") [.ref t]) Q E s:=by
 refine callType_new Ik (by decide) (F.typeCall_reversed_1 _) (F.newCall_reversed_1 _) (fun obj=>F.args_object_init_2 obj _) F.entry_reversed_new (FP t xs hz) ⟨ht,?_⟩;exact ⟨⟨_,YL _ rfl,rfl⟩,h⟩
end
theorem q8:typeLookup (.type "reversed") "__len__" = pure none:=by rw [typeLookup_type,builtinLookup_eq_fast]; kernel_rfl
theorem vG:typeLookup (.type "reversed") "__length_hint__" = pure (some (.builtin "reversed.__length_hint__")):=by rw [typeLookup_type,builtinLookup_eq_fast]; kernel_rfl
theorem wN:Slot "reversed" "__length_hint__" "reversed.__length_hint__" :=
 .of (owner:="reversed") (n:="__length_hint__") (by rw [typeLookup_type,builtinLookup_eq_fast]; kernel_rfl) (by decide +kernel) (by decide +kernel) (by decide +kernel) (by first | exact .inl (by decide +kernel) | exact .inr (by decide +kernel)) (by rw [isSubtype_type]; kernel_rfl)
theorem vR:entryFor table "reversed.__length_hint__" = some Builtin.«reversed.__length_hint__»:=entryFor_of_tree (by kernel_rfl)
theorem vX (a:Value):argsOk "reversed.__length_hint__" ⟨[a],[]⟩:=by
 unfold argsOk; rw [signature?_of (id:="reversed.__length_hint__") (n:=['_','_','t','n','i','h','_','h','t','g','n','e','l','_','_']) (o:=['d','e','s','r','e','v','e','r']) (by kernel_rfl) zG]; kernel_rfl
theorem v8:typeOf (.builtin "reversed.__length_hint__")=pure (.type "method_descriptor"):=by show builtinType _=_; rw [builtinType_eq_fast]; kernel_rfl
theorem Do {prog:Program}{w:World}{A:Around}{E:Value →Shared →Prop}{s:Shared}{r t:Addr}{xs:Array Value}{Q:Bool →Shared →Prop}(hr:qH s.heap r t ((xs.size:Int)-1))(ht:IsTup s.heap t xs)(h1:1 ≤ xs.size)(hs:xs.size ≤ sizeLine)(hz:(xs.size:Int)<2^63)(h:∀ k,Q true { s with toks:=k }):wpAny (model prog w) A (Builtin.List.listLengthHint (.ref r)) Q E s:=by
 obtain ⟨o,ho,hc,hd⟩:=id hr;have ty:s.TypeIs (.ref r) "reversed":=⟨o,ho,hc⟩
 unfold Builtin.List.listLengthHint;refine wpAny_bind (wpAny_specialOf ty q8 ?_);show wpAny _ A (specialOf (Value.ref r) (Str.ofString "__length_hint__") >>= _) _ _ _;refine wpAny_bind (wpAny_specialOf ty vG ?_);have sp:splitId "reversed.__length_hint__" = some ("reversed","__length_hint__"):=by decide +kernel
 generalize he:("reversed.__length_hint__" : String)=e0 at sp
 wp_delta
 rw [sp];subst he;refine wpAny_bind (wpAny_isInstance (b:=true) ty (by rw [isSubtype_type]; kernel_rfl) ?_);rw [if_neg (by decide)];dsimp only;rw [if_neg (by decide +kernel)];refine wpAny_bind (wpAny_rule ?_);unfold bindSpecial;refine wpAny_bind (wpAny_bind (wpAny_of_eq v8 ?_));refine wpAny_pure ?_;dsimp only;refine wpAny_bind (wpAny_attempt (wpAny_call_entry wN ty vR ?_ (vX _)));show wpAny _ _ (field (.ref r) 0 >>= _) _ _ s;refine wpAny_bind (wpAny_field ho hd (x:=.ref t) rfl ?_);dsimp only;refine wpAny_bind (len_tuple ht hz ?_);refine wpAny_bind (m:=asInt? _) (wpAny_pure ?_);dsimp only;refine wpAny_bind (wpAny_field (s:={ s with toks:=s.toks+1+1 }) ho hd (x:=.int ((xs.size:Int)-1) 0) rfl ?_);dsimp only;rw [if_neg (by omega)];unfold retInt;refine wpAny_bind (wpAny_mkInt (wpAny_pure ⟨_,rfl,?_⟩));dsimp only;refine wpAny_bind (m:=asInt? _) (wpAny_pure ?_);dsimp only;have f:Builtin.List.listFitsIndex ((xs.size:Int)-1+1)=true:=by
  unfold Builtin.List.listFitsIndex;rw [Y6];exact ⟨decide_eq_true (by omega),decide_eq_true (by omega)⟩
 rw [if_neg (by rw [f]; decide),if_neg (by omega),if_neg (by unfold Builtin.List.listTooLong; rw [show ((xs.size:Int)-1+1).toNat=xs.size by omega]; simp; exact hs)];have e:((xs.size:Int)-1+1 != 0)=true:=by
  rw [bne_iff_ne];omega
 rw [e];exact wpAny_pure (h _)
theorem FZ {h h':Heap}{it l:Addr}{i:Int}(r:qH h it l i)(k:∀ o,h.get? it=some o →h'.get? it=some o):qH h' it l i:=by
 obtain ⟨o,e,c,d⟩:=r;exact ⟨o,k o e,c,d⟩
theorem qK {h h':Heap}{l:Addr}{xs:Array Value}(r:IsTup h l xs)(k:∀ o,h.get? l=some o →h'.get? l=some o):IsTup h' l xs:=by
 obtain ⟨o,e,c,d⟩:=r;exact ⟨o,k o e,c,d⟩
theorem Bu {prog:Program}{w:World}{A:Around}(hh:A.handled=none)(it l:Addr)(ne:it≠l)(xs:Array Value)(hz:(xs.size:Int)<2^63) :
  Walks prog w A it [it,l] [it] xs.size (fun i v=>xs[xs.size-1-i]? = some v) (fun i h=>i ≤ xs.size∧qH h it l ((xs.size:Int)-1-(i:Int))∧IsTup h l xs) where
 sub:=fun b hb=>by rw [YK.mp hb]; exact .head _
 frame:=fun i h h' st k=>⟨st.1,FZ st.2.1 fun o e=>k it (.head _) o e,qK st.2.2 fun o e=>k l (.tail _ (.head _)) o e⟩
 item:=fun i s Q E hi st hQ=>by
  have ei:(xs.size:Int)-1-(i:Int)=((xs.size-1-i:Nat):Int):=by omega
  have ej:(xs.size:Int)-1-((i+1:Nat):Int)=((xs.size-1-i:Nat):Int)-1:=by omega
  have st1:=st.2.1;rw [ei] at st1;have hx:xs[xs.size-1-i]? = some xs[xs.size-1-i]:=Yo (by omega);refine GX st1 st.2.2 hx hz fun h' st' sb=>?_;exact hQ _ h' (s.toks+1) hx ⟨hi,by rw [ej]; exact st',qK st.2.2 fun o e=>(sb.2 l (Ne.symm ne)).trans e⟩ fun b o hb e=>(sb.2 b (fun z=>hb (by rw [z]; exact .head _))).trans e
 done:=fun s Q E st hQ=>by
  have ei:(xs.size:Int)-1-(xs.size:Int) = -1:=by omega
  have st1:=st.2.1;rw [ei] at st1;refine JQ hh st1 (by decide) fun h' eb=>?_;exact hQ h' s.toks fun b o hb e=>eb b o (fun z=>hb (by rw [z]; exact .head _)) e
 self:=fun i s Q E st hQ=>Ad st.2.1 hQ
theorem wH {prog:Program}{w:World}{A:Around}{E:Value →Shared →Prop}{s:Shared}{it l:Addr}{xs:Array Value}{Q:Value →Shared →Prop}(hh:A.handled=none)(ne:it≠l)(hit:qH s.heap it l ((xs.size:Int)-1))(hl:IsTup s.heap l xs)(h1:1 ≤ xs.size)(hn:xs.size ≤ sizeLine)(hz:(xs.size:Int)<2^63)
  (hQ:∀ h' tk acc c,(∀ b o,b≠it →s.heap.get? b=some o →h'.get? b=some o) →h'.get? s.heap.objs.size=some { cls:=.type "list",dict:=none,data:=.seq acc c,slots:=#[] } →ItemsOf (fun i v=>xs[xs.size-1-i]? = some v) acc xs.size →Q (.ref s.heap.objs.size) { s with heap:=h',toks:=tk }) :
  wpAny (model prog w) A (call (.type "list") [.ref it]) Q E s:=by
 have ilt:it<s.heap.objs.size:=by obtain ⟨o,e,_⟩:=hit; exact YG e
 have llt:l<s.heap.objs.size:=by obtain ⟨o,e,_⟩:=hl; exact YG e
 refine callType_codes (Q₁:=fun obj s₁=>obj=.ref s.heap.objs.size∧s₁ = { s with heap:=s.heap.push { cls:=.type "list",data:=.seq #[] } }) F.called_list (F.typeCall_list_1 _) F.entry_list_init (code_list_new _ ⟨rfl,rfl⟩) fun obj s₁ z=>?_;obtain ⟨rfl,rfl⟩:=z;have hS:(s.heap.push { cls:=.type "list",data:=.seq #[] }).get? s.heap.objs.size=some { cls:=.type "list",data:=.seq #[] }:=YL _ rfl;refine ⟨⟨_,hS,rfl⟩,F.args_list_init_2 _ _,?_⟩;show wpAny _ _ (do let old ← Builtin.List.listItems (.ref s.heap.objs.size); Builtin.List.listUpdate (.ref s.heap.objs.size) (fun _=>#[]); letGo old.toList.reverse; Builtin.List.listExtendWith (.ref s.heap.objs.size) (.ref it) .none) _ _ _;unfold Builtin.List.listItems;refine wpAny_bind (wpAny_bind (wpAny_seqItems hS rfl (wpAny_pure ?_)));refine wpAny_bind (wpAny_updateSeq hS rfl (wpAny_bind (wpAny_letGo ?_)));have hS2:=Yd (Obj.mapSeq (fun _=>(#[]:Array Value))) hS rfl;have old:∀ b o,s.heap.get? b=some o →((s.heap.push { cls:=.type "list",data:=.seq #[] }).update s.heap.objs.size (Obj.mapSeq (fun _=>(#[]:Array Value)))).get? b=some o:=fun b o e =>
  (Yq _ _ (ZV (YG e))).trans (YB _ e)
 generalize (s.heap.push { cls:=.type "list",data:=.seq #[] }).update s.heap.objs.size (Obj.mapSeq (fun _=>(#[]:Array Value)))=h2 at hS2 old ⊢;have hit2:qH h2 it l ((xs.size:Int)-1-((0:Nat):Int)):=by
  rw [show (xs.size:Int)-1-((0:Nat):Int)=(xs.size:Int)-1 by omega];exact FZ hit fun o e=>old it o e
 have hl2:IsTup h2 l xs:=qK hl fun o e=>old l o e;have ty:({ s with heap:=h2 }:Shared).TypeIs (.ref it) "reversed":=by obtain ⟨o,e,c,_⟩:=hit2; exact ⟨o,e,c⟩
 have Sf:s.heap.objs.size∉[it,l]:=by
  simp only [Ye,Zf,or_false,not_or];exact ⟨ZV ilt,ZV llt⟩
 unfold Builtin.List.listExtendWith;refine wpAny_bind (wpAny_typeOf ty ?_);have r1:Builtin.List.listSameRef (.ref s.heap.objs.size) (.ref it)=false:=by simp [Builtin.List.listSameRef,ZV ilt]
 rw [if_neg (by rw [r1]; decide)];refine wpAny_bind (Ad (s:={ s with heap:=h2 }) hit2 ?_);refine wpAny_bind (wpAny_holding (Do (s:={ s with heap:=h2 }) (by rw [show (xs.size:Int)-1-((0:Nat):Int)=(xs.size:Int)-1 by omega] at hit2; exact hit2) hl2 h1 hn hz fun tk0=>?_));rw [if_pos (by rfl)];refine wpAny_bind (wpAny_rule (wpAny_bind ?_));unfold Builtin.List.listTouch Builtin.List.listUpdate;dsimp only;refine wpAny_bind (wpAny_updateSeq (s:={ s with heap:=h2,toks:=tk0 }) hS2 rfl ?_);have hS3:=Yd (Obj.mapSeq (fun x:Array Value=>x.push Value.none)) hS2 rfl;refine wpAny_updateSeq (s:={ s with heap:=h2.update s.heap.objs.size (Obj.mapSeq (fun x:Array Value=>x.push Value.none)),toks:=tk0 }) hS3 rfl ?_;have hS4:=Yd (Obj.mapSeq (fun x:Array Value=>x.pop)) hS3 rfl;have old4:∀ b o,s.heap.get? b=some o →((h2.update s.heap.objs.size (Obj.mapSeq (fun x:Array Value=>x.push Value.none))).update s.heap.objs.size (Obj.mapSeq (fun x:Array Value=>x.pop))).get? b=some o:=fun b o e =>
  (Yq _ _ (ZV (YG e))).trans ((Yq _ _ (ZV (YG e))).trans (old b o e))
 generalize (h2.update s.heap.objs.size (Obj.mapSeq (fun x:Array Value=>x.push Value.none))).update s.heap.objs.size (Obj.mapSeq (fun x:Array Value=>x.pop))=h4 at hS4 old4 ⊢;have hit4:qH h4 it l ((xs.size:Int)-1-((0:Nat):Int)):=by
  rw [show (xs.size:Int)-1-((0:Nat):Int)=(xs.size:Int)-1 by omega];exact FZ hit fun o e=>old4 it o e
 have hl4:IsTup h4 l xs:=qK hl fun o e=>old4 l o e;refine wpAny_pure ⟨plainId_quiet F.plain_extend_loop _,codeAny_extend_loopS (Bu (A:=A.in1.in1) hh it l ne xs hz).toS hn _ Sf _ xs.size 0 _ _ _ rfl (Ym _) ⟨Ym _,hit4,hl4⟩ hS4 (ItemsOf.nil _) fun s' acc' c' hm hS' hacc=>?_⟩;rw [Moved.eq_with hm];refine ⟨rfl,hQ s'.heap s'.toks acc' c' (fun b o hb e=>hm.heap b o (fun z=>?_) (old4 b o e)) hS' hacc⟩;rcases Ye.mp z with z | z
 ·exact absurd (YG e) (by rw [z]; exact Yz _)
 ·exact hb (YK.mp z)
section
variable {X:Cx}
def Bc (K:PySem.W.Frag)(ta:TA):TE:=fun σ H Q=>ta σ H fun vs H1=>∃ a xs,vs=[.ref a]∧dG K H1 a xs∧1 ≤ xs.length∧∀ l,H1 l=none →Q (.ref l) (bQ H1 l (.lst xs.reverse))
theorem w6 {a:Expr}{ta:TA}{p p2 pos pos2:Pos}(hc:X.calm=true)(hg:Gl X "list")(hm:X.mg "list" = none)(hg2:Gl X "reversed")(hm2:X.mg "reversed" = none)(ha:PA X [a] ta)(hs:starEach [a] X.env=[(false,eval a X.env)]:=by rfl)
  (hs2:starEach [.Call (.Name "reversed" p2) [a] [] pos2] X.env=[(false,eval (.Call (.Name "reversed" p2) [a] [] pos2) X.env)]:=by rfl) :
  PE X (.Call (.Name "list" p) [.Call (.Name "reversed" p2) [a] [] pos2] [] pos) (Bc X.K ta):=by
 intro pins s σ H Q I h;refine wpAny_Call_Name_kw (mU I hg hm pB ?_);refine PyProof.Rows.callWith_type1 ?_ hs2 rfl;rw [hs2];show wpAny _ _ (spliced [(false,eval (.Call (.Name "reversed" p2) [a] [] pos2) X.env)]) _ _ _;refine Calls.spliced_cons ?_;refine Call_ (mU I hg2 hm2 wD (PyProof.Rows.callWith_type1 (cN (ha pos2 pins s σ H _ I h) fun us s1 ⟨vs,H1,I1,r1,q1⟩=>?_) hs rfl));obtain ⟨b,xs,e,hS,hx1,q⟩:=q1;subst e;obtain ⟨u,rfl,ru⟩:=vals1 r1;cases (show u=Value.ref b from ru);obtain ⟨its,rv,pl,hz⟩:=I1.tuple hS;have hlen:=rv.length;have z63:(its.toArray.size:Int)<2^63:=by
  have z2:sizeLine<2^62:=by decide
  rw [YC];omega
 refine Gh pl z63 (Calls.spliced_nil ?_);have I2:aU X pins σ H1 { s1 with heap:=s1.heap.push (yV b (((its.toArray.size:Nat):Int)-1)) }:=I1.kept (t':=s1.toks) fun b o e=>YB _ e;have lt:b<s1.heap.objs.size:=by obtain ⟨o,e,_⟩:=pl; exact YG e
 obtain ⟨its2,rv2,pl2,_⟩:=I2.tuple hS;have f:=I1.fpOk (H':=H1) (b:=s1.heap.objs.size) (YD _) (I1.hok.fresh (YD _));have hl2:IsTup (s1.heap.push (yV b (((its.toArray.size:Nat):Int)-1))) b its.toArray:=qK pl fun o e=>YB _ e;refine wH (it:=s1.heap.objs.size) (l:=b) (xs:=its.toArray) (I1.ok.hd hc) (ZV lt) ⟨_,YL _ rfl,rfl,rfl⟩ hl2 (by rw [YC]; omega) (by rw [YC]; omega) z63 fun h' tk acc c hk hD hacc=>?_;have nsz:(s1.heap.push (yV b (((its.toArray.size:Nat):Int)-1))).objs.size=s1.heap.objs.size+1:=ZX ..;have ac:acc.toList=its.reverse:=by
  refine List.ext_getElem? fun i=>?_;rw [ZQ]
  by_cases hi:i<its.length
  ·have ha:i<acc.size:=by rw [hacc.1,YC]; exact hi
   have z:=hacc.2 i _ (Yo ha);rw [Yo ha,List.getElem?_reverse hi,← z,YC];simp
  ·rw [Zj (by rw [hacc.1,YC]; omega),aAf (by rw [Zd]; omega)]
 have rr:∀ {us:List V}{ws:List Value},bM us ws →bM us.reverse ws.reverse:=by
  intro us ws r
  induction r with
  | nil=>exact .nil
  | cons h t ih=>rw [aA4,aA4]; exact ih.append (.cons h .nil)
 have D0:H1 (s1.heap.objs.size+1)=none:=I1.hok.fresh (Zq _);rw [nsz] at hD;refine ⟨.ref (s1.heap.push (yV b (((its.toArray.size:Nat):Int)-1))).objs.size,bQ H1 (s1.heap.push (yV b (((its.toArray.size:Nat):Int)-1))).objs.size (.lst xs.reverse),?_,rfl,q _ (by rw [nsz]; exact D0)⟩;refine I2.turnedLaid (t':=tk) (ch:=[s1.heap.objs.size]) (fun c hc=>by rw [YK.mp hc]; exact f) (fun c o hc e=>hk c o (fun z=>hc (by rw [z]; exact .head _)) e) (YD _) ⟨by rw [Zd]; exact hz,its.reverse,c,rr rv,?_⟩;rw [nsz,← ac,aAk];exact hD
end
end L2
set_option maxHeartbeats 4000000
namespace TP
open PySem L2 TD
def Fv (H:Hp)(a:Addr)(qs:List Addr):Prop:=H a=some (.lst (qs.map V.ref))∧∀ q∈qs,∃ x y:Int,H q=some (.tup [.int x,.int y])∧0 ≤ x∧x<4∧0 ≤ y∧y<4
theorem Fv.same {H H':Hp}{a:Addr}{qs:List Addr}(s:bB H H')(h:Fv H a qs):Fv H' a qs:=⟨s _ _ h.1,fun q hq=>by
 obtain ⟨x,y,e,r⟩:=h.2 q hq;exact ⟨x,y,s _ _ e,r⟩⟩
def vZ:Sp:=fun vs H Q _=>∃ (a:Addr) (qs:List Addr) (k:Int),vs=[.ref a,.int k]∧Fv H a qs∧qs.length ≤ 6∧∀ b H',bB H H' →(k=0 →b=true) →Q (.bl b) H'
theorem K5 (b:Int):hb 0 b=false:=by
 unfold hb;rw [Int.zero_ediv]
 rfl
def uF (ss:List Int)(k:Int):Bool:=(ss.map fun o=>decide (V.int (Builtin.bitAnd k o)=V.int k)).any id
theorem UV {ss:List Int}(h:ss≠[])(hp:∀ s∈ss,Builtin.bitAnd 0 s=0):uF ss (0+((0:Nat):Int))=true:=by
 cases ss with
 | nil=>exact absurd rfl h
 | cons s ss =>
  have e:=hp s Yg;unfold uF;rw [Z6,aAg];show (decide (V.int (Builtin.bitAnd 0 s)=V.int 0)||_)=true;rw [e]
  rfl
theorem Cv:∀ (s:Fin 64),Builtin.bitAnd 0 ((s.val:Nat):Int)=0:=by decide +kernel
theorem QB {s:Int}(h0:0 ≤ s)(h1:s<64):Builtin.bitAnd 0 s=0:=by
 have:=Cv ⟨s.toNat,by omega⟩;simp only [show ((s.toNat:Nat):Int)=s by omega] at this;exact this
structure Part (i:Nat)(ks:List Int):Prop where
 lt:ks.Pairwise (· < ·)
 r:∀ x∈ks,0 ≤ x∧x<(i:Int)
 l:ks.length ≤ i
 z:0<i →(0:Int)∈ks
theorem Part.nil:Part 0 []:=⟨Zx.nil,(fun _ h=>nomatch h),YD _,fun h=>absurd h (Yz _)⟩
theorem Part.skip {i:Nat}{ks:List Int}(p:Part i ks)(h:i≠0):Part (i+1) ks:=⟨p.lt,fun x hx=>by have:=p.r x hx; omega,Nat.le_succ_of_le p.l,fun _=>p.z (by omega)⟩
theorem Part.snoc {i:Nat}{ks:List Int}(p:Part i ks):Part (i+1) (ks++[0+(i:Int)]):=by
 refine ⟨Zc.mpr ⟨p.lt,Z3 _ _,fun x hx y hy=>?_⟩,fun x hx=>?_,by rw [YQ]; exact aA5 p.l,fun _=>?_⟩
 ·rw [YK.mp hy];have:=p.r x hx;omega
 ·rcases Y9.mp hx with u | u
  ·have:=p.r x u;omega
  ·rw [YK.mp u];omega
 ·by_cases e:i=0
  ·subst e;exact Yl _ Yg
  ·exact aAj _ (p.z (by omega))
def z7:Sp:=fun vs H Q _=>∃ (a:Addr) (ss:List Int) (m:Nat),vs=[.ref a,.int (m:Int)]∧H a=some (.lst (Is ss))∧ss≠[]∧ss.length ≤ 100∧(∀ s∈ss,0 ≤ s∧s<64)∧m ≤ 6∧∀ r H' ks,bB H H' →H r=none →H' r=some (.lst (Is ks)) →Part (2^m) ks →Q (.ref r) H'
structure Rk (ks:List Int):Prop where
 l1:1 ≤ ks.length
 l2:ks.length ≤ 100
 k:∀ k∈ks,0 ≤ k∧k ≤ 63
def BX (K:PySem.W.Frag):Sp:=fun vs H Q _=>∃ (a:Addr) (ns:List Int) (w:Int) (m:Nat),vs=[.ref a,.int w,.int (m:Int)]∧bL K H a (ns.map V.int)∧1 ≤ m∧m ≤ 6∧∀ r H' ks,bB H H' →H' r=some (.lst (Is ks)) →Rk ks →Q (.ref r) H'
inductive J2:Sk →Prop where
 | few {c:Int} (h0:0 ≤ c) (h6:c ≤ 6):J2 (.few c)
 | groups {gs ms:List Int} (g:Hs gs ms):J2 (.groups gs ms)
 | listed {ks:List Int} (lt:ks.Pairwise (· < ·)) (l1:1 ≤ ks.length) (l64:ks.length ≤ 64) (hk:∀ x∈ks,0 ≤ x∧x ≤ 63):J2 (.listed ks)
theorem J2.good {S:Sk}(h:J2 S):sY S:=by
 cases h with
 | few h0 h6=>exact ⟨h0,h6⟩
 | groups g=>exact g
 | listed lt l1 l64 hk=>exact lW l1 l64 lt hk
def Ao (K:PySem.W.Frag):Sp:=fun vs H Q _=>∃ (a:Addr) (ns:List Int) (m:Nat),vs=[.ref a,.int (m:Int)]∧bL K H a (ns.map V.int)∧1 ≤ m∧m ≤ 6∧∀ r H' S,bB H H' →zR H' r S →J2 S →Q (.ref r) H'
section
variable (p:vM)
def BR:Sp:=fun vs H Q _=>∃ (r:Addr) (S:Sk),vs=[.ref r]∧zR H r S∧J2 S∧∀ x H',bB H H' →lK p H' x S →Q (.ref x) H'
def wX:Sp:=fun vs H Q _=>∃ (x r:Addr) (S:Sk) (m:Nat),vs=[.ref x,.ref r,.int (m:Int)]∧lK p H x S∧zR H r S∧sY S∧1 ≤ m∧m ≤ 6∧∀ H',bB H H' →Q (.bl true) H'
end
theorem Gr {ms:List Int}(so:ms.Pairwise (· ≤ ·))(nd:ms.Nodup):ms.Pairwise (· < ·):=by
 have h:=so.and nd;exact h.imp fun z=>by have:=z.1; have:=z.2; omega
theorem Ge {ks:List Int}(lt:ks.Pairwise (· < ·))(hk:∀ x∈ks,0 ≤ x∧x ≤ 63):ks.length ≤ 64:=by
 have go:∀ (ks:List Int) (lo:Nat),ks.Pairwise (· < ·) →(∀ x∈ks,(lo:Int) ≤ x∧x ≤ 63) →ks.length+lo ≤ 64∨ks=[]:=by
  intro ks
  induction ks with
  | nil=>intro lo _ _; exact .inr rfl
  | cons k ks ih =>
   intro lo lt hk;obtain ⟨h1,h2⟩:=aAX.mp lt;have hk0:=hk k Yg;have:=ih (k.toNat+1) h2 fun x hx=>by have:=h1 x hx; have:=hk x (Yb _ hx); omega
   refine .inl ?_;rw [Y_];rcases this with z | z
   ·omega
   ·subst z;show 0+1+lo ≤ 64;omega
 rcases go ks 0 lt (fun x hx=>by have:=hk x hx; omega) with z | z
 ·omega
 ·rw [z]; exact Ym _
theorem Bj {xs ys:List Int}(p:xs.Perm ys)(sx:xs.Pairwise (· ≤ ·))(sy:ys.Pairwise (· < ·)):xs=ys :=
 p.eq_of_pairwise (le:=fun a b:Int=>a ≤ b) (fun a b _ _ h1 h2=>Int.le_antisymm h1 h2) sx (sy.imp fun h=>Yw h)
def gF (ss:List Int)(o e b:Int):Bool:=hb o b&&(!hb e b&&oX (.int (Builtin.bitOr e (1*2^b.toNat))) (Is ss))
def qZ (ss:List Int)(o e:Int):Bool:=(six 6).any (gF ss o e)
def lF (ss:List Int)(o b:Int):Bool:=hb o b&&!oX (.int (o-1*2^b.toNat)) (Is ss)
def Ti (ss:List Int)(o:Int):Bool:=(six 6).any (lF ss o)
def xP (ss:List Int):Bool:=ss.any (Ti ss)
def sF (ss:List Int)(o e:Int):Bool:=decide (V.int (((dD o).length:Nat):Int)=V.int ((((dD e).length:Nat):Int)+1))&&!qZ ss o e
def K7 (ss:List Int)(o:Int):Bool:=ss.any (sF ss o)
def CZ (ss:List Int):Bool:=ss.any (K7 ss)
structure Nk (ss:List Int):Prop where
 len:ss.length ≤ 64
 r:∀ x∈ss,0 ≤ x∧x<64
theorem pO {f:Int →Bool}{i:Nat}(no:(six i).any f=false)(h:f (0+(i:Int))=false):(six (i+1)).any f=false:=by
 rw [fQ,aBb,no,aAg,h]
 rfl
theorem zY {f:Int →Bool}{i n:Nat}(hi:i<n)(h:f (0+(i:Int))=true):(six n).any f=true :=
 Yt.mpr ⟨_,ZG.mpr ⟨i,ZF.mpr hi,rfl⟩,h⟩
theorem Ah {ss:List Int}{f:Int →Bool}{i:Nat}{x:Int}(no:(ss.take i).any f=false)(e:ss[i]? = some x)(h:f x=false):(ss.take (i+1)).any f=false:=by
 rw [take_snoc e,aBb,no,aAg,h]
 rfl
theorem yH {ss:List Int}{f:Int →Bool}{i:Nat}{x:Int}(e:ss[i]? = some x)(h:f x=true):ss.any f=true:=Yt.mpr ⟨x,Yc e,h⟩
def Ep:Sp:=fun vs H Q _=>∃ n:Int,vs=[.int n]∧Q (.bl true) H
def Es:Sp:=fun vs H Q _=>∃ (a:Addr) (ss:List Int) (o e:Int),vs=[.ref a,.int o,.int e]∧H a=some (.lst (Is ss))∧0 ≤ e∧e<64∧Q (.bl (qZ ss o e)) H
def Fd:Sp:=fun vs H Q _=>∃ (a:Addr) (ss:List Int),vs=[.ref a]∧H a=some (.lst (Is ss))∧Q (.bl (xP ss)) H
def Hx:Sp:=fun vs H Q _=>∃ (a:Addr) (ss:List Int),vs=[.ref a]∧H a=some (.lst (Is ss))∧Nk ss∧Q (.bl (CZ ss)) H
inductive J1 (ss:List Int):Str →Int →Int →Prop where
 | empty (h:oX (.int 0) (Is ss)=false):J1 ss "empty" 0 0
 | less {o e:Int} (h0:oX (.int 0) (Is ss)=true) (ho:oX (.int o) (Is ss)=true) (he:oX (.int e) (Is ss)=false) (ba:Builtin.bitAnd e o=e) (o0:0 ≤ o) (o1:o<64) (e0:0 ≤ e) (e1:e<64) (sz:(dD o).length=(dD e).length+1):J1 ss "less" o e
 | more {o e:Int} (h0:oX (.int 0) (Is ss)=true) (ho:oX (.int o) (Is ss)=true) (ls:xP ss=false) (he:oX (.int e) (Is ss)=true) (o0:0 ≤ o) (o1:o<64) (e0:0 ≤ e) (e1:e<64) (sz:(dD o).length=(dD e).length+1) (gr:qZ ss o e=false):J1 ss "more" o e
def IV:Sp:=fun vs H Q _=>∃ (a r:Addr) (ss:List Int) (st:Str) (o e:Int),vs=[.ref a,.ref r]∧H a=some (.lst (Is ss))∧H r=some (.tup [.str st,.int o,.int e])∧J1 ss st o e∧Q (.bl true) H
def eU (S:Sk)(n:Nat):List Int:=(six n).filter (eZ S)
theorem iH {S:Sk}{n:Nat}{k:Int}:oX (.int k) (Is (eU S n))=true↔(0 ≤ k∧k<(n:Int))∧eZ S k=true:=by
 rw [pN];unfold eU;rw [Yu];refine ⟨fun h=>⟨uY h.1,h.2⟩,fun h=>⟨?_,h.2⟩⟩;unfold six;exact ZG.mpr ⟨k.toNat,ZF.mpr (by omega),by omega⟩
theorem Cz {S:Sk}{n:Nat}{k:Int}(h0:0 ≤ k)(h1:k<(n:Int))(h:eZ S k=false):oX (.int k) (Is (eU S n))=false:=by
 cases e:oX (.int k) (Is (eU S n)) with
 | false=>rfl
 | true=>rw [(iH.mp e).2] at h; cases h
theorem pD {S:Sk}{n:Nat}{k:Int}(h:k∈eU S n):(0 ≤ k∧k<(n:Int))∧eZ S k=true:=iH.mp (pN.mpr h)
theorem Fq {S:Sk}{n:Nat}(h:n ≤ 64):Nk (eU S n):=⟨Y5 (Z8 _ _) (by unfold six; rw [YH,Z2]; exact h),fun x hx=>by have:=(pD hx).1; omega⟩
theorem Dq {o b:Int}(hb6:b∈six 6)(h:hb o b=true):b∈dD o:=Yu.mpr ⟨hb6,h⟩
theorem Ed:∀ (k:Fin 64) (b:Fin 6),hb ((k.val:Nat):Int) ((b.val:Nat):Int)=true →Builtin.bitAnd (((k.val:Nat):Int)-1*2^b.val) ((k.val:Nat):Int)=((k.val:Nat):Int)-1*2^b.val∧(dD ((k.val:Nat):Int)).length=(dD (((k.val:Nat):Int)-1*2^b.val)).length+1:=by decide +kernel
theorem HS {k b:Int}(h0:0 ≤ k)(h1:k<64)(h:b∈dD k):Builtin.bitAnd (k-1*2^b.toNat) k=k-1*2^b.toNat∧(dD k).length=(dD (k-1*2^b.toNat)).length+1:=by
 have r:=fX h;have e:=Ed ⟨k.toNat,by omega⟩ ⟨b.toNat,by omega⟩;simp only [show ((k.toNat:Nat):Int)=k by omega,show ((b.toNat:Nat):Int)=b by omega] at e;exact e (Yu.mp h).2
section
variable {S:Sk}{m:Nat}
theorem GF (m6:m ≤ 6):2^m ≤ 64:=Y5 (Z1 (by decide) m6) (by decide)
theorem An:(bZ S (2^m)).getD 0 false=eZ S 0:=cW (k:=0) (by decide) (by exact_mod_cast aAl (n:=m) (by decide:0<2))
theorem pF:oX (.int 0) (Is (eU S (2^m)))=eZ S 0:=by
 have hp:(0:Int)<((2^m:Nat):Int):=by exact_mod_cast aAl (n:=m) (by decide:0<2)
 cases e:eZ S 0 with
 | false=>exact Cz (by decide) hp e
 | true=>exact iH.mpr ⟨⟨by decide,hp⟩,e⟩
theorem less_none (m6:m ≤ 6)(h:kO (bZ S (2^m))=none):xP (eU S (2^m))=false:=by
 have hp:=GF m6;cases e:xP (eU S (2^m)) with
 | false=>rfl
 | true =>
  obtain ⟨o,ho,h1⟩:=Yt.mp e;obtain ⟨b,hb1,h2⟩:=Yt.mp h1;unfold lF at h2;rw [Y6] at h2;obtain ⟨⟨o0,o1⟩,om⟩:=pD ho;have bm:=Dq hb1 h2.1;have lo:=low o0 (by omega) bm;have eN:=gM _ h o.toNat (by rw [fH]; omega);obtain ⟨j,jl,je⟩:=Ys.mp bm;have eo:(0:Int)+((o.toNat:Nat):Int)=o:=by omega
  unfold Dj at eN;rw [eo] at eN;have eB:=gM _ eN j jl;unfold oG at eB;rw [eo,show (dD o).getD j 0=b by rw [Yk,YF jl,je]; rfl] at eB;rw [cW o0 o1,cW lo.1 (by omega)] at eB;have z:¬ (eZ S (o-1*2^b.toNat)=false):=fun z=>by rw [if_pos ⟨om,z⟩] at eB; cases eB
  have z':eZ S (o-1*2^b.toNat)=true:=by cases q:eZ S (o-1*2^b.toNat) with | true=>rfl | false=>exact absurd q z
  have z2:=iH (S:=S) (n:=2^m).mpr ⟨⟨lo.1,by omega⟩,z'⟩;rw [z2] at h2;exact absurd h2.2 (by decide)
theorem Bb {o e:Int}(m6:m ≤ 6)(z0:eZ S 0=true)(h:kO (bZ S (2^m))=some (o,e)):J1 (eU S (2^m)) "less" o e:=by
 have hp:=GF m6;obtain ⟨i,hi,h1⟩:=jT _ h;rw [fH] at hi;obtain ⟨j,hj,h2⟩:=jT _ h1;unfold oG at h2;have bm:(dD (0+(i:Int))).getD j 0∈dD (0+(i:Int)):=by rw [Yk,YF hj]; exact ZM hj
 generalize (dD (0+(i:Int))).getD j 0=b at h2 bm;have i0:(0:Int) ≤ 0+(i:Int):=by omega
 have i1:(0:Int)+(i:Int)<((2^m:Nat):Int):=by omega
 generalize (0:Int)+(i:Int)=k at h2 bm i0 i1;have lo:=low i0 (by omega) bm
 split at h2
 ·rename_i c;cases h2;rw [cW i0 i1,cW lo.1 (by omega)] at c;have lf:=HS i0 (by omega) bm;exact .less (pF.trans z0) (iH.mpr ⟨⟨i0,i1⟩,c.1⟩) (Cz lo.1 (by omega) c.2) lf.1 i0 (by omega) lo.1 (by omega) lf.2
 ·cases h2
theorem Al (m6:m ≤ 6){o e:Int}(o0:0 ≤ o)(o1:o<((2^m:Nat):Int))(e0:0 ≤ e)(e1:e<((2^m:Nat):Int)):(qI (bZ S (2^m)) o e).any id=qZ (eU S (2^m)) o e:=by
 have pn:((2^m:Nat):Int)=(2:Int)^m:=by push_cast; rfl
 cases a:qZ (eU S (2^m)) o e with
 | true =>
  obtain ⟨b,hb1,h1⟩:=Yt.mp a;unfold gF at h1;rw [Y6,Y6] at h1;have bm:=Dq hb1 h1.1;have gi:=u5 m6 o0 (by rw [← pn]; exact o1) e0 (by rw [← pn]; exact e1) bm;refine Yt.mpr ⟨true,ZG.mpr ⟨b,Yu.mpr ⟨bm,h1.2.1⟩,?_⟩,rfl⟩;rw [cW gi.1 (by rw [pn]; exact gi.2)];exact (iH.mp h1.2.2).2
 | false =>
  cases c:(qI (bZ S (2^m)) o e).any id with
  | false=>rfl
  | true =>
   obtain ⟨x,hx,h1⟩:=Yt.mp c;obtain ⟨b,hb1,h2⟩:=ZG.mp hx;obtain ⟨bm,nb⟩:=Yu.mp hb1;have gi:=u5 m6 o0 (by rw [← pn]; exact o1) e0 (by rw [← pn]; exact e1) bm;rw [cW gi.1 (by rw [pn]; exact gi.2)] at h2;have hx1:x=true:=h1;have:qZ (eU S (2^m)) o e=true:=Yt.mpr ⟨b,(Yu.mp bm).1,by
    unfold gF;rw [(Yu.mp bm).2,iH.mpr ⟨⟨gi.1,by rw [pn]; exact gi.2⟩,by rw [h2,hx1]⟩,aAh,Bool.and_true];exact nb⟩
   rw [this] at a;cases a
theorem z8 {i s:Nat}{x:Int}(x0:0 ≤ x)(x1:x<(i:Int))(h:(bZ S i).getD x.toNat false=true)(hs:(dD x).length=s):x∈dX (bZ S i) i s:=by
 unfold dX;refine Yu.mpr ⟨?_,?_⟩
 ·unfold six;exact ZG.mpr ⟨x.toNat,ZF.mpr (by omega),by omega⟩
 ·unfold pick;rw [h,hs,aAh,beq_self_eq_true]
theorem Bv (m6:m ≤ 6)(h:oH (bZ S (2^m))=none):CZ (eU S (2^m))=false:=by
 have hp:=GF m6;cases a:CZ (eU S (2^m)) with
 | false=>rfl
 | true =>
  obtain ⟨o,ho,h1⟩:=Yt.mp a;obtain ⟨e,he,h2⟩:=Yt.mp h1;unfold sF at h2;rw [Y6,decide_eq_true_eq] at h2;obtain ⟨⟨o0,o1⟩,om⟩:=pD ho;obtain ⟨⟨e0,e1⟩,em⟩:=pD he;have sz:(dD o).length=(dD e).length+1:=by
   have:=h2.1;injection this with z
   omega
  have ol:=pA o;have io:=z8 (s:=(dD e).length+1) o0 o1 (by rw [cW o0 o1]; exact om) sz;have ie:=z8 (s:=(dD e).length) e0 e1 (by rw [cW e0 e1]; exact em) rfl;have hl:(bZ S (2^m)).length=2^m:=fH _ _;have a1:=gM _ h (dD e).length (by omega);unfold DY at a1;rw [hl] at a1;obtain ⟨j,jl,je⟩:=Ys.mp ie;obtain ⟨l,ll,le⟩:=Ys.mp io;have a2:=gM _ a1 j jl;unfold Fi at a2;rw [hl] at a2;have a3:=gM _ a2 l ll;unfold oN at a3;rw [hl,show (dX (bZ S (2^m)) (2^m) ((dD e).length+1)).getD l 0=o by rw [Yk,YF ll,le]; rfl,show (dX (bZ S (2^m)) (2^m) (dD e).length).getD j 0=e by rw [Yk,YF jl,je]; rfl,Al m6 o0 o1 e0 e1] at a3;have g:=h2.2;cases gg:qZ (eU S (2^m)) o e with
  | true=>rw [gg] at g; exact absurd g (by decide)
  | false=>rw [gg,if_pos rfl] at a3; cases a3
theorem Cm {o e:Int}(m6:m ≤ 6)(z0:eZ S 0=true)(ls:kO (bZ S (2^m))=none)(h:oH (bZ S (2^m))=some (o,e)):J1 (eU S (2^m)) "more" o e:=by
 have hp:=GF m6;have hl:(bZ S (2^m)).length=2^m:=fH _ _;obtain ⟨s,hs,h1⟩:=jT _ h;obtain ⟨j,hj,h2⟩:=jT _ h1;obtain ⟨l,ll,h3⟩:=jT _ h2;unfold oN at h3;rw [hl] at h3 hj ll;have eo:(dX (bZ S (2^m)) (2^m) (s+1)).getD l 0∈dX (bZ S (2^m)) (2^m) (s+1):=by rw [Yk,YF ll]; exact ZM ll
 have ee:(dX (bZ S (2^m)) (2^m) s).getD j 0∈dX (bZ S (2^m)) (2^m) s:=by rw [Yk,YF hj]; exact ZM hj
 generalize (dX (bZ S (2^m)) (2^m) (s+1)).getD l 0=x at h3 eo;generalize (dX (bZ S (2^m)) (2^m) s).getD j 0=y at h3 ee;obtain ⟨x0,x1,xm,xs⟩:=lZ eo;obtain ⟨y0,y1,ym,ys⟩:=lZ ee;rw [Al m6 x0 x1 y0 y1] at h3;rw [cW x0 x1] at xm;rw [cW y0 y1] at ym
 split at h3
 ·rename_i c;cases h3;exact .more (pF.trans z0) (iH.mpr ⟨⟨x0,x1⟩,xm⟩) (less_none m6 ls) (iH.mpr ⟨⟨y0,y1⟩,ym⟩) x0 (by omega) y0 (by omega) (by omega) c
 ·cases h3
theorem Bm (m6:m ≤ 6)(h:jB S m=none):oX (.int 0) (Is (eU S (2^m)))=true∧xP (eU S (2^m))=false∧CZ (eU S (2^m))=false:=by
 unfold jB sS at h;rw [An] at h;cases z:eZ S 0 with
 | false=>rw [z,if_pos rfl] at h; cases h
 | true =>
  rw [z,if_neg (by decide)] at h;cases l:kO (bZ S (2^m)) with
  | some p=>rw [l] at h; cases h
  | none =>
   rw [l] at h;cases mm:oH (bZ S (2^m)) with
   | some p=>rw [mm] at h; cases h
   | none=>exact ⟨pF.trans z,less_none m6 l,Bv m6 mm⟩
theorem CT {st:Str}{o e:Int}(m6:m ≤ 6)(h:jB S m=some (st,o,e)):J1 (eU S (2^m)) st o e:=by
 unfold jB sS at h;rw [An] at h;cases z:eZ S 0 with
 | false =>
  rw [z,if_pos rfl] at h;cases h;exact .empty (pF.trans z)
 | true =>
  rw [z,if_neg (by decide)] at h;cases l:kO (bZ S (2^m)) with
  | some p =>
   rw [l] at h;cases h;exact Bb m6 z l
  | none =>
   rw [l] at h;cases mm:oH (bZ S (2^m)) with
   | none=>rw [mm] at h; cases h
   | some p =>
    rw [mm] at h;cases h;exact Cm m6 z l mm
end
end TP
namespace K32
open PySem L2 TD
def top (i:Nat):Stmt:=PySem.Challenge.pw_lidprice_k32_flaws_shown.main.body.getD i (.Pass ⟨0,0,0,0⟩)
theorem nJ:aY ["thing","least","most"] ["thing","least","most"] (aK (top 6)):=⟨rfl,rfl,rfl,by decide +kernel,rfl,by decide +kernel,by decide +kernel⟩
theorem pM:aY ["kept","box"] ["kept","box"] (aK (top 10)):=⟨rfl,rfl,rfl,by decide +kernel,rfl,by decide +kernel,by decide +kernel⟩
theorem n8:aY ["kept"] ["kept"] (aK (top 11)):=⟨rfl,rfl,rfl,by decide +kernel,rfl,by decide +kernel,by decide +kernel⟩
theorem pI:aY ["kept"] ["kept"] (aK (top 12)):=⟨rfl,rfl,rfl,by decide +kernel,rfl,by decide +kernel,by decide +kernel⟩
theorem oF:aY ["kept","box"] ["kept","box"] (aK (top 13)):=⟨rfl,rfl,rfl,by decide +kernel,rfl,by decide +kernel,by decide +kernel⟩
theorem j5:aY ["things","fewest","most","greatest_number"] ["things","fewest","most","greatest_number"] (aK (top 14)):=⟨rfl,rfl,rfl,by decide +kernel,rfl,by decide +kernel,by decide +kernel⟩
theorem j6:aY ["thing"] ["thing"] (aK (top 19)):=⟨rfl,rfl,rfl,by decide +kernel,rfl,by decide +kernel,by decide +kernel⟩
theorem mL:aY ["lets","one","box","other"] ["lets"] (aK (top 20)):=⟨rfl,rfl,rfl,by decide +kernel,rfl,by decide +kernel,by decide +kernel⟩
theorem oA:aY ["lets","one","other"] ["lets","one","other"] (aK (top 21)):=⟨rfl,rfl,rfl,by decide +kernel,rfl,by decide +kernel,by decide +kernel⟩
theorem iR:aY ["lets","by_size","kept"] ["lets"] (aK (top 22)):=⟨rfl,rfl,rfl,by decide +kernel,rfl,by decide +kernel,by decide +kernel⟩
theorem lM:aY ["lets","by_size","size","other","one"] ["lets"] (aK (top 23)):=⟨rfl,rfl,rfl,by decide +kernel,rfl,by decide +kernel,by decide +kernel⟩
theorem BL:aY ["pattern","many","lets","less"] ["pattern","many"] (aK (top 24)):=⟨rfl,rfl,rfl,by decide +kernel,rfl,by decide +kernel,by decide +kernel⟩
theorem iM:aY ["pattern","many","found"] ["pattern","many"] (aK (top 25)):=⟨rfl,rfl,rfl,by decide +kernel,rfl,by decide +kernel,by decide +kernel⟩
theorem iQ:aY ["_law_script","_law_k","_law_number_here"] ["_law_script","_law_k"] (aK (top 27)):=⟨rfl,rfl,rfl,by decide +kernel,rfl,by decide +kernel,by decide +kernel⟩
theorem mD:aY ["_law_script","_law_first","_law_most","_law_drawn"] ["_law_script","_law_first","_law_most"] (aK (top 28)):=⟨rfl,rfl,rfl,by decide +kernel,rfl,by decide +kernel,by decide +kernel⟩
theorem jA:aY ["_law_found"] ["_law_found"] (aK (top 29)):=⟨rfl,rfl,rfl,by decide +kernel,rfl,by decide +kernel,by decide +kernel⟩
theorem mH:aY ["_law_kept","_law_size_here","_law_box"] ["_law_kept"] (aK (top 30)):=⟨rfl,rfl,rfl,by decide +kernel,rfl,by decide +kernel,by decide +kernel⟩
theorem nQ:aY ["_law_spec_here","_law_kept","_law_many_here","_law_box","_law_group"] ["_law_spec_here","_law_kept"] (aK (top 31)):=⟨rfl,rfl,rfl,by decide +kernel,rfl,by decide +kernel,by decide +kernel⟩
theorem jK:aY ["_law_pairs","_law_kept","_law_roots","_law_box","_law_one","_law_other"] ["_law_pairs","_law_kept"] (aK (top 32)):=⟨rfl,rfl,rfl,by decide +kernel,rfl,by decide +kernel,by decide +kernel⟩
theorem jX:aY ["_law_some","_law_many_here","_law_found","_law_kept"] ["_law_some","_law_many_here"] (aK (top 33)):=⟨rfl,rfl,rfl,by decide +kernel,rfl,by decide +kernel,by decide +kernel⟩
theorem lY:aY ["_law_script","_law_k","_law_number_here","_law_some"] ["_law_script","_law_k"] (aK (top 34)):=⟨rfl,rfl,rfl,by decide +kernel,rfl,by decide +kernel,by decide +kernel⟩
theorem iZ:aY ["_law_script","_law_way","_law_many_here","_law_some","_law_pairs","_law_found"] ["_law_script","_law_way","_law_many_here"] (aK (top 35)):=⟨rfl,rfl,rfl,by decide +kernel,rfl,by decide +kernel,by decide +kernel⟩
theorem lX:aY ["_law_script","_law_many_here","_law_way","_law_groups","_law_most"] ["_law_script","_law_many_here"] (aK (top 36)):=⟨rfl,rfl,rfl,by decide +kernel,rfl,by decide +kernel,by decide +kernel⟩
theorem mO:aY ["_law_spec_here"] ["_law_spec_here"] (aK (top 37)):=⟨rfl,rfl,rfl,by decide +kernel,rfl,by decide +kernel,by decide +kernel⟩
theorem jZ:aY ["_law_sets","_law_one","_law_other","_law_box"] ["_law_sets","_law_one","_law_other"] (aK (top 38)):=⟨rfl,rfl,rfl,by decide +kernel,rfl,by decide +kernel,by decide +kernel⟩
theorem gC:aY ["_law_sets","_law_one","_law_box"] ["_law_sets"] (aK (top 39)):=⟨rfl,rfl,rfl,by decide +kernel,rfl,by decide +kernel,by decide +kernel⟩
theorem kE:aY ["_law_sets","_law_one","_law_other"] ["_law_sets"] (aK (top 40)):=⟨rfl,rfl,rfl,by decide +kernel,rfl,by decide +kernel,by decide +kernel⟩
theorem kW:aY ["_law_sets","_law_found","_law_word","_law_one","_law_other"] ["_law_sets","_law_found"] (aK (top 41)):=⟨rfl,rfl,rfl,by decide +kernel,rfl,by decide +kernel,by decide +kernel⟩
theorem j9:aY ["_law_pattern","_law_spec_here","_law_many_here","_law_sets","_law_found","_law_told","e"] ["_law_pattern","_law_spec_here","_law_many_here"] (aK (top 42)):=⟨rfl,rfl,rfl,by decide +kernel,rfl,by decide +kernel,by decide +kernel⟩
theorem FW:aY ["_law_script","_law_many_here","_law_spec_here","_law_pattern","_law_other","_law_number_here"] ["_law_script"] (aK (top 43)):=⟨rfl,rfl,rfl,by decide +kernel,rfl,by decide +kernel,by decide +kernel⟩
theorem dZ:aY ["self","one","other"] ["self","one","other"] (aK (inClass (top 4) 0)):=⟨rfl,rfl,rfl,by decide +kernel,rfl,by decide +kernel,by decide +kernel⟩
theorem iT:aY ["self","count"] ["self","count"] (aK (inClass (top 16) 0)):=⟨rfl,rfl,rfl,by decide +kernel,rfl,by decide +kernel,by decide +kernel⟩
theorem pJ:aY ["self","kept"] ["self","kept"] (aK (inClass (top 16) 1)):=⟨rfl,rfl,rfl,by decide +kernel,rfl,by decide +kernel,by decide +kernel⟩
theorem fO:aY ["self","groups","most"] ["self","groups","most"] (aK (inClass (top 17) 0)):=⟨rfl,rfl,rfl,by decide +kernel,rfl,by decide +kernel,by decide +kernel⟩
theorem jY:aY ["self","kept","boxes","groups"] ["self","kept"] (aK (inClass (top 17) 1)):=⟨rfl,rfl,rfl,by decide +kernel,rfl,by decide +kernel,by decide +kernel⟩
theorem fU:aY ["self","sets"] ["self","sets"] (aK (inClass (top 18) 0)):=⟨rfl,rfl,rfl,by decide +kernel,rfl,by decide +kernel,by decide +kernel⟩
theorem kJ:aY ["self","kept"] ["self","kept"] (aK (inClass (top 18) 1)):=⟨rfl,rfl,rfl,by decide +kernel,rfl,by decide +kernel,by decide +kernel⟩
end K32
namespace K32
open PySem L2 TD
open Builtin.Int (intBits)
section
variable {P:Program}{w:World}{K:PySem.W.Frag}{mg:Str →Option Value}{base:Heap}{Pt:Addr}
theorem wJ {n:Nat}{f:Addr}{fd:FuncData}(F:dY K "is_whole" "is_whole" (top 6) f fd)(d_:mg "isinstance" = none)(Vb:mg "bool" = none)(V9:mg "int" = none):bD P w K mg base dW (n+1) f fd ["thing","least","most"] DW:=by
 refine F.ok nJ (fun vs H Q E h=>?_) (fun cdv A outer s H vs Q E hr h=>?_)
 ·obtain ⟨v,lo,hi,b,rfl,_⟩:=h
  rfl
 obtain ⟨v,lo,hi,b,rfl,h,q⟩:=h;have nd:=nJ.nd;refine ⟨_,(aF (aO (lE (aR (cY (T:="int")) rfl d_ bR (aA (pv 0) (aA (gU (v:=.ty "int") rfl V9 yD rfl) aB))) (lE (xW (aR (cY (T:="bool")) rfl d_ bR (aA (pv 0) (aA (gU (v:=.ty "bool") rfl Vb BW rfl) aB)))) (m7 (Fe pK pK (pv 1) (pv 0) (pv 2))))))),?_⟩;cases h with
 | no h =>
  obtain ⟨t,ht,hk⟩:=h K;refine ⟨_,rfl,_,_,_,rfl,ht,hk,_,rfl,?_⟩;exact dC q
 | bl c =>
  refine ⟨_,rfl,_,_,_,rfl,.bl c,uI,_,rfl,?_⟩;refine gG ?_;refine ⟨_,rfl,_,_,_,rfl,.bl c,gQ _,_,rfl,?_⟩;refine ⟨_,rfl,?_⟩;exact dC q
 | int i =>
  refine ⟨_,rfl,_,_,_,rfl,.int i,gQ _,_,rfl,?_⟩;refine gG ?_;refine ⟨_,rfl,_,_,_,rfl,.int i,lU,_,rfl,?_⟩;refine ⟨_,rfl,?_⟩;refine gG ?_;refine ⟨_,rfl,_,rfl,_,_,rfl,rfl,_,rfl,?_⟩
  by_cases h1:lo ≤ i
  ·refine lB (decide_eq_true h1) ?_;refine ⟨_,rfl,_,_,rfl,rfl,?_⟩;rw [decide_eq_true h1] at q;exact q
  ·refine eQ (decide_eq_false h1) ?_;rw [decide_eq_false h1] at q;exact q
end
end K32
namespace K32
open PySem L2 TD TP
open Builtin.Int (intBits)
section
variable {P:Program}{w:World}{K:PySem.W.Frag}{mg:Str →Option Value}{base:Heap}{Pt:Addr}
theorem xU {n:Nat}{f:Addr}{fd:FuncData}(F:dY K "has_box" "has_box" (top 10) f fd):bD P w K mg base dW (n+1) f fd ["kept","box"] DQ:=by
 refine F.ok pM (fun vs H Q E h=>?_) (fun cdv A outer s H vs Q E hr h=>?_)
 ·obtain ⟨k,b,rfl,_⟩:=h
  rfl
 obtain ⟨k,b,rfl,K5,q⟩:=h;have nd:=pM.nd;refine ⟨_,(aF (aO (b8 cG (aN gB (aN iY (pv 0) (pv 1)) aC) aC (aW _)))),?_⟩;exact ⟨_,rfl,_,rfl,_,_,rfl,rfl,K5,_,_,rfl,rfl,rfl,q⟩
theorem wF {n:Nat}{f:Addr}{fd:FuncData}(F:dY K "boxes_of" "boxes_of" (top 11) f fd){Vc:Addr}{R_:FuncData}(Vd:eV P w K mg base n "has_box" ["kept","box"] DQ Vc R_)(b_:mg "range" = none){g_:Value}(e_:mg "MOST_BOXES" = some g_)(gV:RelV (.int 6) g_):bD P w K mg base dW (n+1) f fd ["kept"] qL:=by
 refine F.ok n8 (fun vs H Q E h=>?_) (fun cdv A outer s H vs Q E hr h=>?_)
 ·obtain ⟨k,rfl,_⟩:=h
  rfl
 obtain ⟨k,rfl,q⟩:=h;have nd:=n8.nd;refine ⟨_,(aF (aO (eY (ls:=["box"]) (M:=["kept"]) rfl (cA.of (by rfl)) (NL.of (by rfl)) (bC rfl b_ (aA (cV (v:=.int 6) rfl e_ gV) aB)) (fun _ _ _ _=>⟨(aZ (i:=0) (dU (by rfl)) rfl (Or.inl rfl)),(lL (bV (aJ Vd hr (aA (pv 1) (aA (pv 0) aB))))),(pv 0)⟩)))),?_⟩;refine ⟨6,rfl,by decide,by decide,fun D hD=>?_⟩;refine bT (n:=(6:Int).toNat) (fun i τ H'=>∃ v0,τ = [v0,some (.int k)]∧bB H H'∧H' D=some (.lst (Is ((six i).filter (hb k))))) ⟨none,rfl,aH hD _,aD⟩ ?turn ?done
 case turn =>
  rintro i m τ H' hm hi ⟨v0,rfl,hs,hD'⟩;refine ⟨_,rfl,_,rfl,k,0+(i:Int),rfl,by omega,?_⟩;cases eb:hb k (0+(i:Int)) with
  | false =>
   refine ⟨_,rfl,?_⟩;refine eQ rfl ?_;refine fD hm hi ⟨_,rfl,hs,?_⟩;rw [fQ,ZR,show [0+(i:Int)].filter (hb k)=[] by rw [Z7,eb]; rfl,Yy];exact hD'
  | true =>
   refine ⟨_,rfl,?_⟩;refine lB rfl ?_;refine ⟨_,rfl,?_⟩;refine bG hm hi hD' (by rw [aM]; exact aX (Y5 (Z8 _ _) (by unfold six; rw [YH,Z2]; have:i<6:=hi; omega))) ⟨_,rfl,hs.upd_new hD _,?_⟩;rw [aD,fQ,ZR,show [0+(i:Int)].filter (hb k)=[0+(i:Int)] by rw [Z7,eb]; rfl,cH]
 case done =>
  rintro τ H' ⟨v0,rfl,hs,hD'⟩;exact q D H' hs hD hD'
theorem xY {n:Nat}{f:Addr}{fd:FuncData}(F:dY K "size_of" "size_of" (top 12) f fd){n_:Addr}{m_:FuncData}(o_:eV P w K mg base n "boxes_of" ["kept"] qL n_ m_)(h_:mg "len" = none):bD P w K mg base dW (n+1) f fd ["kept"] Jj:=by
 refine F.ok pI (fun vs H Q E h=>?_) (fun cdv A outer s H vs Q E hr h=>?_)
 ·obtain ⟨k,rfl,_⟩:=h
  rfl
 obtain ⟨k,rfl,q⟩:=h;have nd:=pI.nd;refine ⟨_,(aF (aO (aR bF rfl h_ dJ (aA (aJ o_ hr (aA (pv 0) aB)) aB)))),?_⟩;refine ⟨_,rfl,k,rfl,fun r H1 s1 _ hr1=>?_⟩;refine ⟨r,_,rfl,.inl (bL.of hr1),?_⟩;rw [aM];exact q H1 s1
theorem qX {n:Nat}{f:Addr}{fd:FuncData}(F:dY K "is_numbers" "is_numbers" (top 14) f fd){S_:Addr}{L_:FuncData}(T_:eV P w K mg base n "is_whole" ["thing","least","most"] Eh S_ L_)(Vk:mg "all" = none)(h_:mg "len" = none)(d_:mg "isinstance" = none)(M_:mg "list" = none):bD P w K mg base dW (n+1) f fd ["things","fewest","most","greatest_number"] zQ:=by
 refine F.ok j5 (fun vs H Q E h=>?_) (fun cdv A outer s H vs Q E hr h=>?_)
 ·obtain ⟨a,ns,lo,hi,g,rfl,_⟩:=h
  rfl
 obtain ⟨a,ns,lo,hi,g,rfl,ha,h1,h2,h64,hg,q⟩:=h;have nd:=j5.nd;refine ⟨_,(aG (bI (PW.pt (gO (cP (bV (aR (cY (T:="list")) rfl d_ bR (aA (pv 0) (aA (gU (v:=.ty "list") rfl M_ pB rfl) aB))))) (iD (cP (Fl pK pK (pv 1) (aR bF rfl h_ dJ (aA (pv 0) aB)) (pv 2)))))) (aF (aO dF)) aQ) (aF (aO (aR (nF rfl rfl) rfl Vk zA (aA (eY (ls:=["thing"]) (M:=["things","fewest","most","greatest_number"]) rfl (cA.of (by rfl)) (NL.of (by rfl)) (cT (pv 0)) (fun _ _ _ _=>⟨(aZ (i:=0) (dU (by rfl)) rfl (Or.inl rfl)),dB,(aJ T_ hr (aA (pv 0) (aA aC (aA (pv 4) aB))))⟩)) aB))))),?_⟩;have hlr:=aM ns;refine ⟨_,rfl,_,_,_,rfl,.lst ha,gQ _,_,rfl,?_⟩;refine dC ?_;refine ⟨_,rfl,_,rfl,a,_,rfl,.inl (bL.of ha),_,_,rfl,rfl,_,rfl,?_⟩;refine lB (decide_eq_true (show lo ≤ _ by rw [hlr]; exact h1)) ?_;refine ⟨_,rfl,_,_,rfl,rfl,_,rfl,?_⟩;refine eQ (by rw [decide_eq_true (show (_:Int) ≤ hi by rw [hlr]; exact h2)]; rfl) ?_;refine ⟨_,rfl,a,rfl,⟨_,bL.of ha⟩,fun D hD=>?_⟩;refine d8 (xs:=Is ns) (fun i τ H'=>∃ v0,τ = [v0,some (.ref a),some (.int lo),some (.int hi),some (.int g)]∧bB H H'∧H' D=some (.lst ((ZZ i true).map V.bl))) ⟨none,rfl,aH hD _,aD⟩ ?keep ?turn ?done
 case keep =>
  rintro i τ H' hi ⟨v0,rfl,hs,_⟩;exact bL.of (hs _ _ ha)
 case turn =>
  rintro i m v τ H' hm hi hv ⟨v0,rfl,hs,hD'⟩;obtain ⟨x,hx,rfl⟩:=gJ hv;have hmem:=Yc hx;refine mJ ?_;refine ⟨_,rfl,_,rfl,x,0,g,rfl,(hg x hmem).1,(hg x hmem).2,?_⟩;refine bG hm hi hD' (by rw [YH,Zk]; exact aX (by rw [hlr] at hi; omega)) ⟨_,rfl,hs.upd_new hD _,?_⟩;rw [aD,List.replicate_succ',Yj]
  rfl
 case done =>
  rintro τ H' ⟨v0,rfl,hs,hD'⟩;refine ⟨D,_,rfl,bL.of hD',?_⟩;have e:(ZZ (Is ns).length true).all id=true:=by simp
  rw [e];exact q H' hs
theorem oV {n:Nat}{f:Addr}{fd:FuncData}(F:dY K "__init__" "Few.__init__" (inClass (top 16) 0) f fd){C:Addr}(cf:tY K C)(Vl:PySem.W.findIn K (.ref C) "limit" = some none){S_:Addr}{L_:FuncData}(T_:eV P w K mg base n "is_whole" ["thing","least","most"] Eh S_ L_){g_:Value}(e_:mg "MOST_BOXES" = some g_)(gV:RelV (.int 6) g_):bD P w K mg base dW (n+1) f fd ["self","count"] (IK C):=by
 refine F.ok iT (fun vs H Q E h=>?_) (fun cdv A outer s H vs Q E hr h=>?_)
 ·obtain ⟨x,dx,c,rfl,_⟩:=h
  rfl
 obtain ⟨x,dx,c,rfl,hx,h1,h2,q⟩:=h;have nd:=iT.nd;refine ⟨_,(aG (bI (cP (bV (aJ T_ hr (aA (pv 1) (aA aC (aA (cV (v:=.int 6) rfl e_ gV) aB)))))) (aF lR) aQ) (aF (uD (pv 0) (pv 1) rfl))),?_⟩;refine ⟨_,rfl,c,0,6,rfl,h1,h2,?_⟩;refine ⟨_,rfl,?_⟩;refine dC ?_;exact ⟨_,rfl,_,rfl,x,C,dx,[],rfl,hx,cf,Vl,(by show 0<1000; decide),q⟩
theorem kZ {n:Nat}{f:Addr}{fd:FuncData}(F:dY K "__init__" "Groups.__init__" (inClass (top 17) 0) f fd){C:Addr}(cf:tY K C)(N_:PySem.W.findIn K (.ref C) "groups" = some none)(WW:PySem.W.findIn K (.ref C) "most" = some none){I_:Addr}{D_:FuncData}(A_:eV P w K mg base n "is_numbers" ["things","fewest","most","greatest_number"] zQ I_ D_)(l_:mg "tuple" = none){g_:Value}(e_:mg "MOST_BOXES" = some g_)(gV:RelV (.int 6) g_):bD P w K mg base dW (n+1) f fd ["self","groups","most"] (Ii C):=by
 refine F.ok fO (fun vs H Q E h=>?_) (fun cdv A outer s H vs Q E hr h=>?_)
 ·obtain ⟨x,dx,a,b,gs,ms,rfl,_⟩:=h
  rfl
 obtain ⟨x,dx,a,b,gs,ms,rfl,hx,ha,hb,g,q⟩:=h;have nd:=fO.nd;refine ⟨_,(aG (bI (cP (bV (aJ A_ hr (aA (pv 1) (aA aC (aA (cV (v:=.int 6) rfl e_ gV) (aA (aN jE (cV (v:=.int 6) rfl e_ gV) aC) aB))))))) (aF lR) aQ) (aG (bI (cP (bV (aJ A_ hr (aA (pv 2) (aA (cV (v:=.int 6) rfl e_ gV) (aA (cV (v:=.int 6) rfl e_ gV) (aA (cV (v:=.int 6) rfl e_ gV) aB))))))) (aF lR) aQ) (aG (uD (pv 0) (cM (cL (K:=K) rfl) rfl l_ fJ (aA (pv 1) aB)) rfl) (aF (uD (pv 0) (cM (cL (K:=K) rfl) rfl l_ fJ (aA (pv 2) aB)) rfl))))),?_⟩;have g1:=g.l1;have g6:=g.l6;have gm:=g.m6;refine ⟨_,rfl,_,_,rfl,rfl,a,gs,1,6,5,rfl,ha,by omega,by omega,by omega,g.g,fun H1 s1=>?_⟩;refine ⟨_,rfl,?_⟩;refine dC ?_;refine ⟨_,rfl,b,ms,6,6,6,rfl,s1 _ _ hb,by omega,by omega,by omega,g.m,fun H2 s2=>?_⟩;refine ⟨_,rfl,?_⟩;refine dC ?_;have mW:=s1.trans s2;refine ⟨_,rfl,a,_,rfl,.inl ⟨bL.of (mW _ _ ha),fun t ht=>?_⟩⟩;have n1:=aH ht (.tup (Is gs));have hx1:=(mW.trans n1) _ _ hx;refine ⟨_,rfl,x,C,dx,[],rfl,hx1,cf,N_,(by show 0<1000; decide),?_⟩;have nbx:b≠x:=Fg hb hx fun z=>nomatch z
 have ntx:t≠x:=Ne.symm (bK (mW _ _ hx) ht);have kx:∀ c o,c≠x →H c=some o →bQ (bQ H2 t (.tup (Is gs))) x (.ins C dx [("groups",.ref t)]) c=some o:=fun c o nc e=>by rw [aP nc]; exact (mW.trans n1) _ _ e
 have ht3:bQ (bQ H2 t (.tup (Is gs))) x (.ins C dx [("groups",.ref t)]) t=some (.tup (Is gs)):=by rw [aP ntx]; exact aD
 have hx3:bQ (bQ H2 t (.tup (Is gs))) x (.ins C dx [("groups",.ref t)]) x=some (.ins C dx [("groups",.ref t)]):=aD;refine ⟨_,rfl,b,_,rfl,.inl ⟨bL.of (kx _ _ nbx hb),fun u hu=>?_⟩⟩;have n4:=aH hu (.tup (Is ms));have nux:u≠x:=Ne.symm (bK hx3 hu);refine ⟨_,rfl,x,C,dx,[("groups",.ref t)],rfl,n4 _ _ hx3,cf,WW,(by show 1<1000; decide),?_⟩;refine q t u _ (fun c o nc e=>?_) ?_ ?_ aD
 ·rw [aP nc];exact n4 _ _ (kx c o nc e)
 ·rw [aP ntx];exact n4 _ _ ht3
 ·rw [aP nux];exact aD
theorem lG {n:Nat}{f:Addr}{fd:FuncData}(F:dY K "__init__" "Listed.__init__" (inClass (top 18) 0) f fd){C:Addr}(cf:tY K C)(WX:PySem.W.findIn K (.ref C) "sets" = some none){I_:Addr}{D_:FuncData}(A_:eV P w K mg base n "is_numbers" ["things","fewest","most","greatest_number"] zQ I_ D_)(l_:mg "tuple" = none)(F_:mg "sorted" = none)(h_:mg "len" = none)(WP:mg "set" = none){Vg:Value}(B_:mg "MOST_SETS" = some Vg)(C_:RelV (.int 64) Vg):bD P w K mg base dW (n+1) f fd ["self","sets"] (Er C):=by
 refine F.ok fU (fun vs H Q E h=>?_) (fun cdv A outer s H vs Q E hr h=>?_)
 ·obtain ⟨x,dx,a,ks,rfl,_⟩:=h
  rfl
 obtain ⟨x,dx,a,ks,rfl,hx,ha,g,q⟩:=h;have nd:=fU.nd;refine ⟨_,(aG (bI (PW.pt (gO (cP (bV (aJ A_ hr (aA (pv 1) (aA aC (aA (cV (v:=.int 64) rfl B_ C_) (aA (aN jE (cV (v:=.int 64) rfl B_ C_) aC) aB))))))) (iD (aV tE (aR qP rfl h_ dJ (aA (cM (zH (K:=K) rfl rfl) rfl WP JR (aA (pv 1) aB)) aB)) (aR bF rfl h_ dJ (aA (pv 1) aB)) (aW _))))) (aF lR) aQ) (aF (uD (pv 0) (cM (cL (K:=K) rfl) rfl l_ fJ (aA (aR (p7 (K:=K) rfl) rfl F_ rJ (aA (pv 1) aB)) aB)) rfl))),?_⟩;have g1:=g.l1;have g64:=g.l64;refine ⟨_,rfl,_,_,rfl,rfl,a,ks,1,64,63,rfl,ha,by omega,by omega,g64,g.k,fun H1 s1=>?_⟩;refine ⟨_,rfl,?_⟩;refine dC ?_;refine ⟨_,rfl,a,ks,rfl,bL.of (s1 _ _ ha),(by show ks.length+1<4096; omega),fun r hr0=>?_⟩;have n1:=aH hr0 (.set (fun k=>(vH ks).any (·==k)) (vH ks).length);refine ⟨r,_,_,rfl,aD,_,rfl,a,_,rfl,.inl (bL.of ((s1.trans n1) _ _ ha)),rfl,_,rfl,?_⟩;refine eQ (by rw [Gq g.nd,aM]; simp) ?_;have s2:=s1.trans n1;generalize bQ H1 r (.set (fun k=>(vH ks).any (·==k)) (vH ks).length)=H2 at s2 ⊢;refine ⟨_,rfl,a,ks,rfl,.inl (bL.of (s2 _ _ ha)),g.few,fun l ms hl pm so=>?_⟩;have n3:=aH hl (.lst (Is ms));refine ⟨l,_,rfl,.inl ⟨bL.of aD,fun t ht=>?_⟩⟩;have n4:=aH ht (.tup (Is ms));have s4:=s2.trans (n3.trans n4);exact ⟨_,rfl,x,C,dx,[],rfl,s4 _ _ hx,cf,WX,(by show 0<1000; decide),q t ms _ s4 pm so aD⟩
theorem zT {n:Nat}{f:Addr}{fd:FuncData}(F:dY K "may" "Few.may" (inClass (top 16) 1) f fd){C:Addr}(cf:tY K C)(Vl:PySem.W.findIn K (.ref C) "limit" = some none){Ve:Addr}{U_:FuncData}(Vf:eV P w K mg base n "size_of" ["kept"] Jj Ve U_):bD P w K mg base dW (n+1) f fd ["self","kept"] (zP C):=by
 refine F.ok pJ (fun vs H Q E h=>?_) (fun cdv A outer s H vs Q E hr h=>?_)
 ·obtain ⟨x,c,k,rfl,_⟩:=h
  rfl
 obtain ⟨x,c,k,rfl,hF,q⟩:=h;have nd:=pJ.nd;refine ⟨_,(aF (aO (b8 pK (aJ Vf hr (aA (pv 1) aB)) (zU (pv 0) rfl) (aW _)))),?_⟩;obtain ⟨dx,hx⟩:=hF;refine ⟨_,rfl,k,rfl,fun H1 s1=>?_⟩;exact ⟨_,rfl,x,C,dx,_,_,rfl,s1 _ _ hx,cf,Vl,rfl,_,_,rfl,rfl,q H1 s1⟩
theorem qQ {n:Nat}{f:Addr}{fd:FuncData}(F:dY K "may" "Listed.may" (inClass (top 18) 1) f fd){C:Addr}(cf:tY K C)(WX:PySem.W.findIn K (.ref C) "sets" = some none):bD P w K mg base dW (n+1) f fd ["self","kept"] (zF C):=by
 refine F.ok kJ (fun vs H Q E h=>?_) (fun cdv A outer s H vs Q E hr h=>?_)
 ·obtain ⟨x,ks,k,rfl,_⟩:=h
  rfl
 obtain ⟨x,ks,k,rfl,hF,q⟩:=h;have nd:=kJ.nd;refine ⟨_,(aF (aO (b8 mZ (pv 1) (zU (pv 0) rfl) rfl))),?_⟩;obtain ⟨dx,t,hx,ht⟩:=hF;exact ⟨_,rfl,_,rfl,x,C,dx,_,_,rfl,hx,cf,WX,rfl,t,_,rfl,.inr (dG.of ht),rfl,dI ks,q⟩
theorem q9 {n:Nat}{f:Addr}{fd:FuncData}(F:dY K "may" "Groups.may" (inClass (top 17) 1) f fd){C:Addr}(cf:tY K C)(N_:PySem.W.findIn K (.ref C) "groups" = some none)(WW:PySem.W.findIn K (.ref C) "most" = some none){n_:Addr}{m_:FuncData}(o_:eV P w K mg base n "boxes_of" ["kept"] qL n_ m_)(Vk:mg "all" = none)(h_:mg "len" = none):bD P w K mg base dW (n+1) f fd ["self","kept"] (yX C):=by
 refine F.ok jY (fun vs H Q E h=>?_) (fun cdv A outer s H vs Q E hr h=>?_)
 ·obtain ⟨x,gs,ms,k,rfl,_⟩:=h
  rfl
 obtain ⟨x,gs,ms,k,rfl,hF,gg,q⟩:=h;have nd:=jY.nd;refine ⟨_,(aG (bU (i:=2) nd rfl (Or.inl rfl) (aJ o_ hr (aA (pv 1) aB))) (aG (bI (cP (bV (aR (nF rfl rfl) rfl Vk zA (aA (eY (ls:=["box"]) (M:=["self","kept","boxes","groups"]) rfl (cA.of (by rfl)) (NL.of (by rfl)) (cT (pv 2)) (fun _ _ _ _=>⟨(aZ (i:=0) (dU (by rfl)) rfl (Or.inl rfl)),dB,(b8 Dr (pv 0) (aR (rB (K:=K) rfl) rfl h_ dJ (aA (tZ (K:=K) rfl (pv 1) rfl) aB)) (aW _))⟩)) aB)))) (aF (aO dF)) aQ) (aG (bU (i:=3) nd rfl (Or.inr rfl) (eY (ls:=["box"]) (M:=["self","kept","boxes","groups"]) rfl (cA.of (by rfl)) (NL.of (by rfl)) (cT (pv 2)) (fun _ _ _ _=>⟨(aZ (i:=0) (dU (by rfl)) rfl (Or.inl rfl)),dB,(bJ (Aw (K:=K) rfl) (tZ (K:=K) rfl (pv 1) rfl) (pv 0) (fun _ _=>rfl))⟩))) (aF (aO (aR (nF rfl rfl) rfl Vk zA (aA (eY (ls:=["group"]) (M:=["self","kept","boxes","groups"]) rfl (cA.of (by rfl)) (NL.of (by rfl)) (cT (pv 3)) (fun _ _ _ _=>⟨(aZ (i:=0) (dU (by rfl)) rfl (Or.inl rfl)),dB,(b8 pK (JH (K:=K) rfl PySem.F.plainAttrs_list PySem.F.slot_list_count PySem.F.type_list_count Ek (pv 4) (aA (pv 0) aB)) (bJ (Aw (K:=K) rfl) (tZ (K:=K) rfl (pv 1) rfl) (pv 0) (fun _ _=>rfl)) (aW _))⟩)) aB))))))),?_⟩;obtain ⟨dx,g,m,hx,hg,hm⟩:=hF;have bl:=pA k;have hlr:=aM (dD k);refine ⟨_,rfl,k,rfl,fun B H1 s1 hBn hB=>?_⟩;refine ⟨_,rfl,B,rfl,⟨_,bL.of hB⟩,fun D hD=>?_⟩;refine d8 (xs:=Is (dD k)) (fun i τ H'=>∃ v0,τ = [v0,some (.ref x),some (.int k),some (.ref B),none]∧bB H1 H'∧H' D=some (.lst ((((dD k).take i).map fun b=>decide (b<(gs.length:Int))).map V.bl))) ⟨none,rfl,aH hD _,aD⟩ ?keep ?turn ?done
 case keep =>
  rintro i τ H' hi ⟨v0,rfl,hs,_⟩;exact bL.of (hs _ _ hB)
 case turn =>
  rintro i j v τ H' hm' hi hv ⟨v0,rfl,hs,hD'⟩;obtain ⟨b,hb1,rfl⟩:=gJ hv;have ss:=s1.trans hs;refine mJ ?_;refine ⟨_,rfl,_,rfl,x,C,dx,_,_,rfl,ss _ _ hx,cf,N_,rfl,g,_,rfl,.inr (dG.of (ss _ _ hg)),_,_,rfl,rfl,?_⟩;refine bG hm' hi hD' (by rw [YH,YH,ZJ]; exact aX (by omega)) ⟨_,rfl,hs.upd_new hD _,?_⟩;rw [aD,take_snoc hb1,Yj,Yj,aM]
  rfl
 case done =>
 rintro τ H2 ⟨v0,rfl,s2,hD2⟩;rw [hlr,ZS] at hD2;have mW:=s1.trans s2;refine ⟨D,_,rfl,bL.of hD2,?_⟩;refine ⟨_,rfl,?_⟩;have ea:((dD k).map fun b=>decide (b<(gs.length:Int))).all id=(dD k).all (fun b=>decide (b<(gs.length:Int))):=by rw [List.all_map]; rfl
 rw [ea];cases hall:(dD k).all (fun b=>decide (b<(gs.length:Int))) with
 | false =>
  refine gG ?_;have h:=q H2 mW;unfold qF at h;rw [hall] at h;exact h
 | true =>
 refine dC ?_;have hin:∀ b∈dD k,b<(gs.length:Int):=fun b hb=>of_decide_eq_true (ZL.mp hall b hb);refine ⟨_,rfl,B,rfl,⟨_,bL.of (s2 _ _ hB)⟩,fun D2 hD2n=>?_⟩;refine d8 (xs:=Is (dD k)) (fun i τ H'=>∃ v0,τ = [v0,some (.ref x),some (.int k),some (.ref B),none]∧bB H2 H'∧H' D2=some (.lst (Is (((dD k).take i).map fun b=>gs.getD b.toNat 0)))) ⟨none,rfl,aH hD2n _,aD⟩ ?keep2 ?turn2 ?done2
 case keep2 =>
  rintro i τ H' hi ⟨v0,rfl,hs,_⟩;exact bL.of ((s2.trans hs) _ _ hB)
 case turn2 =>
  rintro i j v τ H' hm' hi hv ⟨v0,rfl,hs,hD'⟩;obtain ⟨b,hb1,rfl⟩:=gJ hv;have hbm:=Yc hb1;have ss:=mW.trans hs;refine mJ ?_;refine ⟨_,rfl,x,C,dx,_,_,rfl,ss _ _ hx,cf,N_,rfl,_,rfl,g,_,_,_,rfl,rfl,dG.of (ss _ _ hg),oE (fX hbm).1 (hin b hbm),?_⟩;refine bG hm' hi hD' (by rw [aM,YH,ZJ]; exact aX (by omega)) ⟨_,rfl,hs.upd_new hD2n _,?_⟩;rw [aD,take_snoc hb1,Yj];show _=some (HO.lst (Is (_++[gs.getD b.toNat 0])));rw [cH]
 case done2 =>
 rintro τ H3 ⟨v1,rfl,s3,hD3⟩;rw [hlr,ZS] at hD3;have Di:=mW.trans s3;generalize hgl:((dD k).map fun b=>gs.getD b.toNat 0)=gl at hD3;have gll:gl.length ≤ 6:=by rw [← hgl,YH]; exact bl
 have gin:∀ z∈gl,0 ≤ z∧z<(ms.length:Int):=fun z hz=>by
  rw [← hgl] at hz;obtain ⟨b,hb1,rfl⟩:=ZG.mp hz;have e:=hin b hb1;have e0:=(fX hb1).1;have hbn:b.toNat<gs.length:=by omega
  have e2:=gg.g (gs.getD b.toNat 0) (by rw [show gs.getD b.toNat 0=gs[b.toNat] by simp [hbn]]; exact ZM hbn);have:=gg.m6;omega
 refine ⟨_,rfl,D2,rfl,⟨_,bL.of hD3⟩,fun D4 hD4n=>?_⟩;refine d8 (xs:=Is gl) (fun i τ H'=>∃ v0,τ = [v0,some (.ref x),some (.int k),some (.ref B),some (.ref D2)]∧bB H3 H'∧H' D4=some (.lst (((gl.take i).map fun z=>decide ((gl.count z:Nat) ≤ ms.getD z.toNat 0)).map V.bl))) ⟨none,rfl,aH hD4n _,aD⟩ ?keep4 ?turn4 ?done4
 case keep4 =>
  rintro i τ H' hi ⟨v0,rfl,hs,_⟩;exact bL.of (hs _ _ hD3)
 case turn4 =>
  rintro i j v τ H' hm' hi hv ⟨v0,rfl,hs,hD'⟩;obtain ⟨z,hz1,rfl⟩:=gJ hv;have hzm:=Yc hz1;have ss:=Di.trans hs;refine mJ ?_;refine ⟨_,rfl,.inl ⟨rfl,_,bL.of (hs _ _ hD3)⟩,_,rfl,D2,gl,z,rfl,rfl,hs _ _ hD3,_,rfl,x,C,dx,_,_,rfl,ss _ _ hx,cf,WW,rfl,_,rfl,m,_,_,_,rfl,rfl,dG.of (ss _ _ hm),oE (gin z hzm).1 (gin z hzm).2,_,_,rfl,rfl,?_⟩;refine bG hm' hi hD' (by rw [YH,YH,ZJ]; exact aX (by omega)) ⟨_,rfl,hs.upd_new hD4n _,?_⟩;rw [aD,take_snoc hz1,Yj,Yj]
  rfl
 case done4 =>
  rintro τ H5 ⟨v2,rfl,s5,hD5⟩;rw [aM,ZS] at hD5;refine ⟨D4,_,rfl,bL.of hD5,?_⟩;have h:=q H5 (Di.trans s5);unfold qF at h;rw [hall,hgl,aAh] at h;rw [List.all_map];exact h
theorem xJ {n:Nat}{f:Addr}{fd:FuncData}(F:dY K "with_box" "with_box" (top 13) f fd):bD P w K mg base dW (n+1) f fd ["kept","box"] Dp:=by
 refine F.ok oF (fun vs H Q E h=>?_) (fun cdv A outer s H vs Q E hr h=>?_)
 ·obtain ⟨k,b,rfl,_⟩:=h
  rfl
 obtain ⟨k,b,rfl,K5,hb1,q⟩:=h;have nd:=oF.nd;refine ⟨_,(aF (aO (aN Ht (pv 0) (aN fK aC (pv 1))))),?_⟩;exact ⟨_,rfl,_,rfl,_,_,rfl,rfl,⟨K5,by omega,by decide⟩,_,_,rfl,rfl,q⟩
theorem wO {n:Nat}{f:Addr}{fd:FuncData}(F:dY K "can_grow" "can_grow" (top 21) f fd){n_:Addr}{m_:FuncData}(o_:eV P w K mg base n "boxes_of" ["kept"] qL n_ m_){Vc:Addr}{R_:FuncData}(Vd:eV P w K mg base n "has_box" ["kept","box"] DQ Vc R_){Wy:Addr}{Wj:FuncData}(Wz:eV P w K mg base n "with_box" ["kept","box"] Dp Wy Wj)(WQ:mg "any" = none):bD P w K mg base dW (n+1) f fd ["lets","one","other"] De:=by
 refine F.ok oA (fun vs H Q E h=>?_) (fun cdv A outer s H vs Q E hr h=>?_)
 ·obtain ⟨a,bs,m,o,e,rfl,_⟩:=h
  rfl
 obtain ⟨a,bs,m,o,e,rfl,ha,hl,hm,o0,o1,e0,e1,q⟩:=h;have nd:=oA.nd;refine ⟨_,(aF (aO (aR (sJ rfl rfl) rfl WQ Eg (aA (eY (ls:=["box"]) (M:=["lets","one","other"]) rfl (cA.of (by rfl)) (NL.of (by rfl)) (cT (aJ o_ hr (aA (pv 1) aB))) (fun _ _ _ _=>⟨(aZ (i:=0) (dU (by rfl)) rfl (Or.inl rfl)),(lL (cP (bV (aJ Vd hr (aA (pv 3) (aA (pv 0) aB)))))),(bJ (pX (K:=K) rfl) (pv 1) (aJ Wz hr (aA (pv 3) (aA (pv 0) aB))) (fun _ _=>rfl))⟩)) aB)))),?_⟩;have bl:=pA o;have pl:(bs.length:Int)=2^m:=by rw [hl]; push_cast; rfl
 refine ⟨_,rfl,o,rfl,fun B H1 s1 hBn hB=>?_⟩;refine ⟨B,rfl,⟨_,bL.of hB⟩,fun D hD=>?_⟩;refine d8 (xs:=Is (dD o)) (fun i τ H'=>∃ v0,τ = [v0,some (.ref a),some (.int o),some (.int e)]∧bB H1 H'∧H' D=some (.lst (Bs ((((dD o).take i).filter fun b=>!hb e b).map fun b=>bs.getD (Builtin.bitOr e (1*2^b.toNat)).toNat false)))) ⟨none,rfl,aH hD _,aD⟩ ?keep ?turn ?done
 case keep =>
  rintro i τ H' hi ⟨v0,rfl,hs,_⟩;exact bL.of (hs _ _ hB)
 case turn =>
  rintro i j v τ H' hm' hi hv ⟨v0,rfl,hs,hD'⟩;obtain ⟨b,hb1,rfl⟩:=gJ hv;have hbm:=Yc hb1;have r:=fX hbm;have gi:=u5 hm o0 (by omega) e0 (by omega) hbm;refine ⟨_,rfl,_,rfl,e,b,rfl,r.1,?_⟩;refine ⟨_,rfl,?_⟩;cases eb:hb e b with
  | true =>
   refine eQ rfl ?_;refine fD hm' hi ⟨_,rfl,hs,?_⟩;rw [take_snoc hb1,ZR,show [b].filter (fun b=>!hb e b)=[] by rw [Z7,eb]; rfl,Yy];exact hD'
  | false =>
   refine lB rfl ?_;refine ⟨_,rfl,_,rfl,_,rfl,e,b,rfl,r.1,by omega,a,_,_,_,rfl,rfl,bL.of ((s1.trans hs) _ _ ha),wA gi.1 (by omega),?_⟩;refine bG hm' hi hD' (by rw [gK,YH]; exact aX (Y5 (Z8 _ _) (by rw [ZJ]; omega))) ⟨_,rfl,hs.upd_new hD _,?_⟩;rw [aD,take_snoc hb1,ZR,show [b].filter (fun b=>!hb e b)=[b] by rw [Z7,eb]; rfl,Yj];show _=some (HO.lst (List.map V.bl (_++[bs.getD (Builtin.bitOr e (1*2^b.toNat)).toNat false])));rw [Yj]
   rfl
 case done =>
  rintro τ H' ⟨v0,rfl,hs,hD'⟩;rw [aM,ZS] at hD';exact ⟨D,_,rfl,bL.of hD',q H' (s1.trans hs)⟩
theorem oR {n:Nat}{f:Addr}{fd:FuncData}(F:dY K "sets_by_size" "sets_by_size" (top 22) f fd){Ve:Addr}{U_:FuncData}(Vf:eV P w K mg base n "size_of" ["kept"] Jj Ve U_)(b_:mg "range" = none)(h_:mg "len" = none){g_:Value}(e_:mg "MOST_BOXES" = some g_)(gV:RelV (.int 6) g_):bD P w K mg base dW (n+1) f fd ["lets"] Ec:=by
 refine F.ok iR (fun vs H Q E h=>?_) (fun cdv A outer s H vs Q E hr h=>?_)
 ·obtain ⟨a,bs,rfl,_⟩:=h
  rfl
 obtain ⟨a,bs,rfl,ha,h64,q⟩:=h;have nd:=iR.nd;refine ⟨_,(aG (fB (i:=1) (ls:=["size"]) (M:=["lets","by_size","kept"]) rfl (cA.of (by rfl)) (NL.of (by rfl)) nd rfl (Or.inl rfl) (bC rfl b_ (aA (aN cB (cV (v:=.int 6) rfl e_ gV) aC) aB)) (fun _ _ _ _=>⟨(aZ (i:=0) (dU (by rfl)) rfl (Or.inl rfl)),dB,(eX aB)⟩)) (aG (cZ PassesOwn.never rfl (bC rfl b_ (aA (aR bF rfl h_ dJ (aA (pv 0) aB)) aB)) (aZ (i:=2) nd rfl (Or.inl rfl)) (aF (bI (bV (bJ cF (pv 0) (pv 2) (fun _ _=>rfl))) (aF (pG (vV PySem.F.plainAttrs_list PySem.F.slot_list_append PySem.F.type_list_append jO (bJ cF (pv 1) (aJ Vf hr (aA (pv 2) aB)) (fun _ _=>rfl)) (aA (pv 2) aB)))) aQ))) (aF (aO (pv 1))))),?_⟩;refine ⟨_,_,rfl,rfl,7,rfl,by decide,by decide,fun D hD=>?_⟩;refine bT (n:=(7:Int).toNat) (fun i τ H'=>∃ v0 ls,τ = [v0,some (.ref a),none,none]∧bB H H'∧H' D=some (.lst (ls.map V.ref))∧ls.length=i∧ls.Nodup∧∀ l∈ls,H' l=some (.lst [])∧l≠D∧H l=none) ⟨none,[],rfl,aH hD _,aD,rfl,List.nodup_nil,fun _ h=>nomatch h⟩ ?turn ?done
 case turn =>
  rintro i m τ H' hm hi ⟨v0,ls,rfl,hs,hD',ll,nd',hl⟩;have hi7:i<7:=hi;refine mJ ?_;refine ⟨Ym _,fun l hl0=>?_⟩;have n1:=aH hl0 (.lst []);have nD:l≠D:=fun e=>by rw [e,hD'] at hl0; cases hl0
  have hD2:=n1 _ _ hD';refine bG hm hi hD2 (by rw [YH]; exact aX (by omega)) ⟨_,ls++[l],rfl,(hs.trans n1).upd_new hD _,?_,by rw [YQ,ll]; rfl,?_,fun y hy=>?_⟩
  ·rw [aD,Yj]
   rfl
  ·exact aAv.mpr ⟨nd',Z4.mpr ⟨Zf,List.nodup_nil⟩,fun u hu v hv=>by rw [YK.mp hv]; rintro rfl; have:=(hl _ hu).1; rw [this] at hl0; cases hl0⟩
  ·rcases Y9.mp hy with u | u
   ·obtain ⟨x1,x2,x3⟩:=hl y u;exact ⟨by rw [aP x2]; exact n1 _ _ x1,x2,x3⟩
   ·rw [YK.mp u];exact ⟨by rw [aP nD]; exact aD,nD,hs.free hl0⟩
 case done =>
 rintro τ H1 ⟨v0,ls,rfl,s1,hD1,ll,nd1,hl1⟩;have ll:ls.length=7:=ll;refine ⟨_,rfl,a,_,rfl,.inl (bL.of (s1 _ _ ha)),(bs.length:Int),by rw [gK],by omega,by omega,?_⟩;refine cR (n:=(bs.length:Int).toNat) (fun i σ H'=>∃ v2,σ = [some (.ref a),some (.ref D),v2]∧bB H H'∧MN H' D ls bs i) ⟨none,rfl,s1,⟨hD1,ll,nd1,fun l hl=>(hl1 l hl).2.1,fun s l hl=>(hl1 l (Yc hl)).1⟩⟩ ?turn2 ?done2
 case turn2 =>
  rintro i σ H' hi ⟨v2,rfl,hs,by1⟩;have hil:i<bs.length:=by omega
  refine ⟨_,rfl,_,rfl,a,_,_,_,rfl,rfl,bL.of (hs _ _ ha),wA (k:=0+(i:Int)) (by omega) (by omega),_,rfl,?_⟩;cases e1:bs.getD (0+(i:Int)).toNat false with
  | false =>
   refine eQ rfl ?_;refine ⟨_,rfl,hs,by1.lst,by1.len,by1.nd,by1.ne,fun s l hl=>?_⟩;have h:=by1.each s l hl;rw [m9,if_neg (by unfold pick; rw [e1,Bool.false_and]; exact YM),Yy];exact h
  | true =>
   refine lB rfl ?_;have bl:=pA (0+(i:Int));obtain ⟨l,hl⟩:∃ l,ls[(dD (0+(i:Int))).length]? = some l:=⟨_,YF (by omega)⟩
   refine ⟨_,rfl,_,rfl,0+(i:Int),rfl,fun H2 s2=>?_⟩;have h2:=s2 _ _ (by1.each _ l hl);refine ⟨D,_,_,_,rfl,rfl,bL.of (s2 _ _ by1.lst),jR (v:=V.ref l) (by rw [Y7,hl]; rfl),Or.inl ⟨rfl,_,bL.of h2⟩,_,rfl,l,_,_,rfl,rfl,h2,by rw [aM]; exact aX (Y5 (DN _ _ _) (by omega)),?_⟩;have nD:=by1.ne l (Yc hl);refine ⟨_,rfl,(hs.trans s2).upd_new (hl1 l (Yc hl)).2.2 _,by rw [aP (Ne.symm nD)]; exact s2 _ _ by1.lst,by1.len,by1.nd,by1.ne,fun s y hy=>?_⟩
   by_cases es:s=(dD (0+(i:Int))).length
   ·subst es;rw [hl] at hy;cases hy;rw [aD,m9,if_pos (by unfold pick; rw [e1,aAh,beq_self_eq_true]),cH]
   ·have ny:y≠l:=fun z=>by
     subst z;have a1:=(Y8.mp hy)
     have a2:=(Y8.mp hl)
     have pw:=Yn.mp by1.nd;rcases Nat.lt_or_gt_of_ne es with u | u
     ·exact pw _ _ a1.1 a2.1 u (a1.2.trans a2.2.symm)
     ·exact pw _ _ a2.1 a1.1 u (a2.2.trans a1.2.symm)
    rw [aP ny,m9,if_neg (by unfold pick; rw [e1,aAh]; intro z; exact es (beq_iff_eq.mp z).symm),Yy];exact s2 _ _ (by1.each s y hy)
 case done2 =>
  rintro σ H' ⟨v2,rfl,hs,by1⟩;rw [show (bs.length:Int).toNat=bs.length by omega] at by1;exact ⟨_,rfl,q D H' ls hs by1⟩
theorem getD_at {l:List Int}{i:Nat}{x:Int}(h:l[i]? = some x):l.getD i 0=x:=by rw [Yk,h]; rfl
theorem Ie {bs:List Bool}{o j:Nat}{b:Int}(hb:(dD (0+(o:Int)))[j]? = some b)(h:¬ (bs.getD (0+(o:Int)).toNat false=true∧bs.getD (0+(o:Int)-1*2^b.toNat).toNat false=false)):oG bs o j=none:=by
 unfold oG;rw [getD_at hb,if_neg h]
theorem Im {bs:List Bool}{o j:Nat}{b:Int}(hb:(dD (0+(o:Int)))[j]? = some b)(h:bs.getD (0+(o:Int)).toNat false=true∧bs.getD (0+(o:Int)-1*2^b.toNat).toNat false=false):oG bs o j=some (0+(o:Int),0+(o:Int)-1*2^b.toNat):=by
 unfold oG;rw [getD_at hb,if_pos h]
theorem uC {n:Nat}{f:Addr}{fd:FuncData}(F:dY K "less_flaw" "less_flaw" (top 20) f fd){n_:Addr}{m_:FuncData}(o_:eV P w K mg base n "boxes_of" ["kept"] qL n_ m_)(b_:mg "range" = none)(h_:mg "len" = none):bD P w K mg base dW (n+1) f fd ["lets"] Ab:=by
 refine F.ok mL (fun vs H Q E h=>?_) (fun cdv A outer s H vs Q E hr h=>?_)
 ·obtain ⟨a,bs,rfl,_⟩:=h
  rfl
 obtain ⟨a,bs,rfl,ha,h64,qn,ql⟩:=h;have nd:=mL.nd;refine ⟨_,(aG (cZ PassesOwn.never rfl (bC rfl b_ (aA (aR bF rfl h_ dJ (aA (pv 0) aB)) aB)) (aZ (i:=1) nd rfl (Or.inl rfl)) (aF (cZ PassesOwn.never rfl (cT (aJ o_ hr (aA (pv 1) aB))) (aZ (i:=2) nd rfl (Or.inl rfl)) (aG (bU (i:=3) nd rfl (Or.inl rfl) (aN jE (pv 1) (aN fK aC (pv 2)))) (aF (bI (PW.pt (lC (bV (bJ cF (pv 0) (pv 1) (fun _ _=>rfl))) (jN (cP (bV (bJ cF (pv 0) (pv 3) (fun _ _=>rfl))))))) (aF (aO (fZ (aA d7 (aA (pv 1) (aA (pv 3) aB)))))) aQ)))))) (aF (aO iI))),?_⟩;refine ⟨_,rfl,a,_,rfl,.inl (bL.of ha),(bs.length:Int),by rw [gK],by omega,by omega,?_⟩;refine cR (n:=(bs.length:Int).toNat) (fun i σ H'=>∃ v1 v2 v3,σ = [some (.ref a),v1,v2,v3]∧bB H H'∧fM (Dj bs) i=none) ⟨none,none,none,rfl,bB.refl _,rfl⟩ ?turn ?done
 case turn =>
  rintro i σ H' hi ⟨v1,v2,v3,rfl,hs,dn⟩;have hil:i<bs.length:=by omega
  refine ⟨_,rfl,0+(i:Int),rfl,fun B H1 s1 hBn hB=>?_⟩;have ss:=hs.trans s1;refine ⟨B,rfl,⟨_,bL.of hB⟩,?_⟩;refine fL (xs:=Is (dD (0+(i:Int)))) (fun j σ H2=>∃ v2 v3,σ = [some (.ref a),some (.int (0+(i:Int))),v2,v3]∧H2=H1∧fM (oG bs i) j=none) ⟨v2,v3,rfl,rfl,rfl⟩ ?keep2 ?turn2 ?done2
  case keep2 =>
   rintro j σ H2 hj ⟨v2,v3,rfl,rfl,_⟩;exact bL.of hB
  case turn2 =>
   rintro j v σ H2 hv ⟨v2,v3,rfl,rfl,hd⟩;obtain ⟨b,hb1,rfl⟩:=gJ hv;have hbm:=Yc hb1;have jl:=(Y8.mp hb1).1;have r:=fX hbm;have lo:=low (k:=0+(i:Int)) (by omega) (by omega) hbm;refine ⟨_,rfl,_,rfl,_,_,rfl,rfl,⟨r.1,by omega,by decide⟩,_,_,rfl,rfl,?_⟩;refine ⟨_,rfl,_,rfl,a,_,_,_,rfl,rfl,bL.of (ss _ _ ha),wA (k:=0+(i:Int)) (by omega) (by omega),_,rfl,?_⟩;cases e1:bs.getD (0+(i:Int)).toNat false with
   | false =>
    refine eQ rfl ?_;exact ⟨_,_,rfl,rfl,fG hd (Ie hb1 fun z=>by rw [e1] at z; exact nomatch z.1)⟩
   | true =>
    refine lB rfl ?_;refine ⟨_,rfl,_,rfl,a,_,_,_,rfl,rfl,bL.of (ss _ _ ha),wA (k:=0+(i:Int)-1*2^b.toNat) lo.1 (by omega),_,rfl,?_⟩;cases e2:bs.getD (0+(i:Int)-1*2^b.toNat).toNat false with
    | true =>
     refine dC ?_;exact ⟨_,_,rfl,rfl,fG hd (Ie hb1 fun z=>by rw [e2] at z; exact nomatch z.2)⟩
    | false =>
     refine gG ?_;refine ⟨_,rfl,_,rfl,Oe,fun r hr0=>?_⟩;exact ql _ _ (fC dn (fC hd (Im hb1 ⟨e1,e2⟩) _ jl) _ hil) r _ (ss.trans (aH hr0 _)) aD
  case done2 =>
   rintro σ H2 ⟨v2,v3,rfl,rfl,hd⟩;rw [aM] at hd;exact ⟨_,_,_,rfl,ss,fG dn hd⟩
 case done =>
  rintro σ H' ⟨v1,v2,v3,rfl,hs,dn⟩;rw [show (bs.length:Int).toNat=bs.length by omega] at dn;exact qn dn H' hs
theorem Nm {bs:List Bool}{s j l:Nat}{o e:Int}(ho:(dX bs bs.length (s+1))[l]? = some o)(he:(dX bs bs.length s)[j]? = some e)(h:(qI bs o e).any id=true):oN bs s j l=none:=by
 unfold oN;rw [getD_at ho,getD_at he,if_neg (by rw [h]; decide)]
theorem JW {bs:List Bool}{s j l:Nat}{o e:Int}(ho:(dX bs bs.length (s+1))[l]? = some o)(he:(dX bs bs.length s)[j]? = some e)(h:(qI bs o e).any id=false):oN bs s j l=some (o,e):=by
 unfold oN;rw [getD_at ho,getD_at he,if_pos h]
theorem t8 {n:Nat}{f:Addr}{fd:FuncData}(F:dY K "more_flaw" "more_flaw" (top 23) f fd){W_:Addr}{Wk:FuncData}(XC:eV P w K mg base n "can_grow" ["lets","one","other"] De W_ Wk){Vm:Addr}{Vi:FuncData}(Vn:eV P w K mg base n "sets_by_size" ["lets"] Ec Vm Vi)(b_:mg "range" = none){g_:Value}(e_:mg "MOST_BOXES" = some g_)(gV:RelV (.int 6) g_):bD P w K mg base dW (n+1) f fd ["lets"] Ag:=by
 refine F.ok lM (fun vs H Q E h=>?_) (fun cdv A outer s H vs Q E hr h=>?_)
 ·obtain ⟨a,bs,m,rfl,_⟩:=h
  rfl
 obtain ⟨a,bs,m,rfl,ha,hl,hm,qn,qm⟩:=h;have nd:=lM.nd;refine ⟨_,(aG (bU (i:=1) nd rfl (Or.inl rfl) (aJ Vn hr (aA (pv 0) aB))) (aG (cZ PassesOwn.never rfl (bC rfl b_ (aA (cV (v:=.int 6) rfl e_ gV) aB)) (aZ (i:=2) nd rfl (Or.inl rfl)) (aF (cZ PassesOwn.never rfl (cT (bJ cF (pv 1) (pv 2) (fun _ _=>rfl))) (aZ (i:=3) nd rfl (Or.inl rfl)) (aF (cZ PassesOwn.never rfl (cT (bJ cF (pv 1) (aN cB (pv 2) aC) (fun _ _=>rfl))) (aZ (i:=4) nd rfl (Or.inl rfl)) (aF (bI (cP (bV (aJ XC hr (aA (pv 0) (aA (pv 4) (aA (pv 3) aB)))))) (aF (aO (fZ (aA d7 (aA (pv 4) (aA (pv 3) aB)))))) aQ))))))) (aF (aO iI)))),?_⟩;have h64:bs.length ≤ 64:=by rw [hl]; exact Y5 (Z1 (by decide) hm) (by decide)
 refine ⟨_,rfl,a,bs,rfl,ha,h64,fun D H1 ls s1 by1=>?_⟩;refine ⟨6,rfl,by decide,by decide,?_⟩;have len:=by1.len;refine cR (n:=(6:Int).toNat) (fun i σ H'=>∃ v2 v3 v4,σ = [some (.ref a),some (.ref D),v2,v3,v4]∧bB H1 H'∧fM (DY bs) i=none) ⟨none,none,none,rfl,bB.refl _,rfl⟩ ?turn ?done
 case done =>
  rintro σ H' ⟨v2,v3,v4,rfl,hs,dn⟩;exact qn dn H' (s1.trans hs)
 case turn =>
  rintro i σ H' hi ⟨v2,v3,v4,rfl,hs,dn⟩;have hi6:i<6:=hi;obtain ⟨l1,hl1⟩:∃ l,ls[i]? = some l:=⟨_,YF (by omega)⟩
  obtain ⟨l2,hl2⟩:∃ l,ls[i+1]? = some l:=⟨_,YF (by omega)⟩
  have k1:=by1.each i l1 hl1;have k2:=by1.each (i+1) l2 hl2;refine ⟨_,rfl,_,rfl,D,_,_,_,rfl,rfl,bL.of (hs _ _ by1.lst),Te (v:=V.ref l1) (by rw [Y7,hl1]; rfl),l1,rfl,⟨_,bL.of (hs _ _ k1)⟩,?_⟩;refine fL (xs:=Is (dX bs bs.length i)) (fun j σ H2=>∃ v3 v4,σ = [some (.ref a),some (.ref D),some (.int (0+(i:Int))),v3,v4]∧bB H1 H2∧fM (Fi bs i) j=none) ⟨v3,v4,rfl,hs,rfl⟩ ?keep2 ?turn2 ?done2
  case keep2 =>
   rintro j σ H2 hj ⟨v3,v4,rfl,hs2,_⟩;exact bL.of (hs2 _ _ k1)
  case done2 =>
   rintro σ H2 ⟨v3,v4,rfl,hs2,hd⟩;rw [aM] at hd;exact ⟨_,_,_,rfl,hs2,fG dn hd⟩
  case turn2 =>
   rintro j v σ H2 hv ⟨v3,v4,rfl,hs2,hd⟩;obtain ⟨e,he,rfl⟩:=gJ hv;have jl:=(Y8.mp he).1;have me:=lZ (Yc he);refine ⟨_,rfl,_,rfl,_,_,rfl,rfl,D,_,_,_,rfl,rfl,bL.of (hs2 _ _ by1.lst),Uo (v:=V.ref l2) (by rw [Y7,hl2]; rfl),l2,rfl,⟨_,bL.of (hs2 _ _ k2)⟩,?_⟩;refine fL (xs:=Is (dX bs bs.length (i+1))) (fun l σ H3=>∃ v4,σ = [some (.ref a),some (.ref D),some (.int (0+(i:Int))),some (.int e),v4]∧bB H1 H3∧fM (oN bs i j) l=none) ⟨v4,rfl,hs2,rfl⟩ ?keep3 ?turn3 ?done3
   case keep3 =>
    rintro l σ H3 hj ⟨v4,rfl,hs3,_⟩;exact bL.of (hs3 _ _ k2)
   case done3 =>
    rintro σ H3 ⟨v4,rfl,hs3,hd3⟩;rw [aM] at hd3;exact ⟨_,_,rfl,hs3,fG hd hd3⟩
   case turn3 =>
    rintro l v σ H3 hv ⟨v4,rfl,hs3,hd3⟩;obtain ⟨o,ho,rfl⟩:=gJ hv;have ll:=(Y8.mp ho).1;have mo:=lZ (Yc ho);refine ⟨_,rfl,_,rfl,_,rfl,a,bs,m,o,e,rfl,(s1.trans hs3) _ _ ha,hl,hm,mo.1,mo.2.1,me.1,me.2.1,fun H4 s4=>?_⟩;refine ⟨_,rfl,?_⟩;cases eg:(qI bs o e).any id with
    | true =>
     refine dC ?_;exact ⟨_,rfl,hs3.trans s4,fG hd3 (Nm ho he eg)⟩
    | false =>
     refine gG ?_;refine ⟨_,rfl,_,rfl,Oe,fun r hr0=>?_⟩;exact qm o e (fC dn (fC hd (fC hd3 (JW ho he eg) _ ll) _ jl) _ hi6) r _ (((s1.trans hs3).trans s4).trans (aH hr0 _)) aD
theorem Hg {n:Nat}{f:Addr}{fd:FuncData}(F:dY K "flaw" "flaw" (top 24) f fd){p:vM}(pt:Mr K p){Xh:Addr}{Xc:FuncData}(Xo:yK K p.f "may" Xh)(Xp:bD P w K mg base dW n Xh Xc ["self","kept"] (zP p.f))(Xq:Binds K Xc ["self","kept"] []){Xi:Addr}{Xd:FuncData}(Xr:yK K p.g "may" Xi)(Xu:bD P w K mg base dW n Xi Xd ["self","kept"] (yX p.g))(Xv:Binds K Xd ["self","kept"] []){Xj:Addr}{Xe:FuncData}(Xw:yK K p.l "may" Xj)(Xx:bD P w K mg base dW n Xj Xe ["self","kept"] (zF p.l))(Xy:Binds K Xe ["self","kept"] []){Wl:Addr}{WY:FuncData}(Wm:eV P w K mg base n "more_flaw" ["lets"] Ag Wl WY){Wn:Addr}{W0:FuncData}(Wo:eV P w K mg base n "less_flaw" ["lets"] Ab Wn W0)(b_:mg "range" = none):bD P w K mg base dW (n+1) f fd ["pattern","many"] (uU p):=by
 refine F.ok BL (fun vs H Q E h=>?_) (fun cdv A outer s H vs Q E hr h=>?_)
 ·obtain ⟨x,S,m,rfl,_⟩:=h
  rfl
 obtain ⟨x,S,m,rfl,hO,hG,m1,m6,qn,qf⟩:=h;have nd:=BL.nd;refine ⟨_,(aG (fB (i:=2) (ls:=["kept"]) (M:=["pattern","many","lets","less"]) rfl (cA.of (by rfl)) (NL.of (by rfl)) nd rfl (Or.inl rfl) (bC rfl b_ (aA (aN fK aC (pv 1)) aB)) (fun _ _ _ _=>⟨(aZ (i:=0) (dU (by rfl)) rfl (Or.inl rfl)),dB,(JX (uQ (pv 1) pt.cf Xo Xp hr Xq .nil qG (aA (pv 0) aB)) (uQ (pv 1) pt.cg Xr Xu hr Xv .nil qG (aA (pv 0) aB)) (uQ (pv 1) pt.cl Xw Xx hr Xy .nil qG (aA (pv 0) aB)))⟩)) (aG (bI (cP (bV (bJ cF (pv 2) aC (fun _ _=>rfl)))) (aF (aO (fZ (aA d7 (aA aC (aA aC aB)))))) aQ) (aG (bU (i:=3) nd rfl (Or.inl rfl) (aJ Wo hr (aA (pv 2) aB))) (aF (aO (FQ (aV pU (pv 3) iI (aW _)) (aJ Wm hr (aA (pv 2) aB)) (pv 3))))))),?_⟩;have GF:2^m ≤ 64:=Y5 (Z1 (by decide) m6) (by decide);obtain ⟨N,hN⟩:∃ N:Nat,N=2^m:=⟨_,rfl⟩
 have pe:(1:Int)*2^((m:Int)).toNat=(N:Int):=by rw [aAw,ZC,hN]; push_cast; rfl
 rw [← hN] at GF;refine ⟨_,rfl,_,_,rfl,rfl,⟨by omega,by omega,by decide⟩,(N:Int),congrArg (fun v=>[V.int v]) pe,by omega,by omega,fun D hD=>?_⟩;refine bT (n:=(N:Int).toNat) (fun i τ H'=>∃ v0,τ = [v0,some (.ref x),some (.int (m:Int)),none,none]∧bB H H'∧H' D=some (.lst (Bs (bZ S i)))) ⟨none,rfl,aH hD _,aD⟩ ?turn ?done
 case turn =>
  rintro i j τ H' hm hi ⟨v0,rfl,hs,hD'⟩;refine mJ ?_;have hX:=hO.same hs;refine QG hX hG (fun Q' h=>⟨_,rfl,h⟩) (fun Q' h=>⟨_,rfl,h H' (bB.refl _)⟩) fun H2 s2=>?_;refine bG hm hi (s2 _ _ hD') (by rw [gK,fH]; exact aX (by omega)) ⟨_,rfl,(hs.trans s2).upd_new hD _,?_⟩;rw [aD];unfold bZ;rw [fQ,Yj];show _=some (HO.lst (List.map V.bl (_++[eZ S (0+(i:Int))])));rw [Yj]
  rfl
 case done =>
 rintro τ H1 ⟨v0,rfl,s1,hD1⟩;rw [ZC,hN] at hD1;rw [hN] at GF;have ll:=fH S (2^m);have lp:0<(bZ S (2^m)).length:=by rw [ll]; exact aAl (by decide)
 refine ⟨_,rfl,D,_,_,_,rfl,rfl,bL.of hD1,wA (k:=0) (by decide) (by omega),_,rfl,?_⟩;have eF:jB S m=sS (bZ S (2^m)):=rfl;generalize bZ S (2^m)=bs at hD1 ll lp eF ⊢;have e0:bs.getD (0:Int).toNat false=bs.getD 0 false:=rfl;rw [e0];cases z:bs.getD 0 false with
 | false =>
  refine gG ?_;refine ⟨Oe,fun r hr0=>?_⟩;exact qf "empty" 0 0 (by rw [eF]; unfold sS; rw [if_pos z]) r _ (s1.trans (aH hr0 _)) aD
 | true =>
 refine dC ?_;have eF2:jB S m=match kO bs with | some p=>some ("less",p) | none=>(oH bs).map fun p=>("more",p):=by rw [eF]; unfold sS; first | (rw [if_neg (by rw [z]; decide)]; done) | (rw [if_neg (by rw [z]; decide)]; cases kO bs <;> rfl)
 refine ⟨_,rfl,D,bs,rfl,hD1,by omega,fun en H2 s2=>?_,fun o e en r H2 s2 hr2=>?_⟩
 ·rw [en] at eF2;refine ⟨_,rfl,rfl,_,rfl,?_⟩;refine gG ?_;refine ⟨_,rfl,D,bs,m,rfl,s2 _ _ hD1,ll,m6,fun em H3 s3=>?_,fun o e em r H3 s3 hr3=>?_⟩
  ·exact qn (by rw [eF2,em]; rfl) H3 ((s1.trans s2).trans s3)
  ·exact qf "more" o e (by rw [eF2,em]; rfl) r H3 ((s1.trans s2).trans s3) hr3
 ·rw [en] at eF2;refine ⟨_,rfl,rfl,_,rfl,?_⟩;refine dC ?_;exact ⟨_,rfl,qf "less" o e eF2 r H2 (s1.trans s2) hr2⟩
theorem qY {n:Nat}{f:Addr}{fd:FuncData}(F:dY K "is_pattern" "is_pattern" (top 19) f fd){p:vM}(pt:Mr K p)(cp:Jr K p)(WR:mg "Few" = some (.ref p.f))(G_:mg "Groups" = some (.ref p.g))(H_:mg "Listed" = some (.ref p.l))(d_:mg "isinstance" = none):bD P w K mg base dW (n+1) f fd ["thing"] (Dh p K):=by
 refine F.ok j6 (fun vs H Q E h=>?_) (fun cdv A outer s H vs Q E hr h=>?_)
 ·obtain ⟨v,b,rfl,_⟩:=h
  rfl
 obtain ⟨v,b,rfl,h,q⟩:=h;have nd:=j6.nd;refine ⟨_,(aF (aO (Ff (aR (iC (K:=K) rfl) rfl d_ bR (aA (pv 0) (aA (cV (v:=.ref p.f) rfl WR rfl) aB))) (Ff (aR (iC (K:=K) rfl) rfl d_ bR (aA (pv 0) (aA (cV (v:=.ref p.g) rfl G_ rfl) aB))) (m7 (aR (iC (K:=K) rfl) rfl d_ bR (aA (pv 0) (aA (cV (v:=.ref p.l) rfl H_ rfl) aB)))))))),?_⟩;cases h with
 | @yes x S h =>
  cases S with
  | few cc =>
   obtain ⟨dx,hx⟩:=(show oK p.f H x cc from h)
   refine ⟨_,rfl,_,p.f,.ref p.f,true,rfl,.ins hx pt.cf pt.fa pt.hn pt.htk pt.fm,pt.ff,?_⟩;refine ⟨_,rfl,?_⟩;refine gG ?_;exact q
  | groups gs ms =>
   obtain ⟨dx,g,m0,hx,hg,hm0⟩:=(show vU p.g H x gs ms from h)
   refine ⟨_,rfl,_,p.f,.ref p.g,false,rfl,.ins hx pt.cg pt.ga pt.hn pt.htk pt.gm,pt.gf,?_⟩;refine ⟨_,rfl,?_⟩;refine dC ?_;refine ⟨_,rfl,_,p.g,.ref p.g,true,rfl,.ins hx pt.cg pt.ga pt.hn pt.htk pt.gm,pt.gg,?_⟩;refine ⟨_,rfl,?_⟩;refine gG ?_;exact q
  | listed ks =>
   obtain ⟨ms,pm,so,dx,t,hx,ht⟩:=(show ∃ ms,ms.Perm ks∧ms.Pairwise (· ≤ ·)∧yM p.l H x ms from h)
   refine ⟨_,rfl,_,p.f,.ref p.l,false,rfl,.ins hx pt.cl pt.la pt.hn pt.htk pt.lm,pt.lf,?_⟩;refine ⟨_,rfl,?_⟩;refine dC ?_;refine ⟨_,rfl,_,p.g,.ref p.l,false,rfl,.ins hx pt.cl pt.la pt.hn pt.htk pt.lm,pt.lg,?_⟩;refine ⟨_,rfl,?_⟩;refine dC ?_;exact ⟨_,rfl,_,p.l,.ref p.l,true,rfl,.ins hx pt.cl pt.la pt.hn pt.htk pt.lm,pt.ll,q⟩
 | no h ht =>
  obtain ⟨z1,z2,z3⟩:=cp.all _ ht;refine ⟨_,rfl,_,p.f,_,false,rfl,h,z1,?_⟩;refine ⟨_,rfl,?_⟩;refine dC ?_;refine ⟨_,rfl,_,p.g,_,false,rfl,h,z2,?_⟩;refine ⟨_,rfl,?_⟩;refine dC ?_;exact ⟨_,rfl,_,p.l,_,false,rfl,h,z3,q⟩
theorem iU {n:Nat}{f:Addr}{fd:FuncData}(F:dY K "__init__" "NoPattern.__init__" (inClass (top 4) 0) f fd){a_:Addr}(xf:Fz K a_)(XF:PySem.W.findIn K (.ref a_) "one" = some none)(Vo:PySem.W.findIn K (.ref a_) "other" = some none):bD P w K mg base dW (n+1) f fd ["self","one","other"] (Hr a_):=by
 refine F.ok dZ (fun vs H Q E h=>?_) (fun cdv A outer s H vs Q E hr h=>?_)
 ·obtain ⟨a,o,e,rfl,_⟩:=h
  rfl
 obtain ⟨a,o,e,rfl,ha,q⟩:=h;have nd:=dZ.nd;refine ⟨_,(aG (JG (pv 0) (pv 1) rfl) (aF (JN (pv 0) (pv 2) rfl))),?_⟩;refine ⟨_,rfl,_,rfl,a,a_,rfl,ha,xf,XF,fun d hd=>?_⟩;have ne:d≠a:=fun z=>by rw [z,ha] at hd; cases hd
 have hd1:bQ (bQ H d (.ext (XD d [("one",.int o)]))) a (.ext (nU a (.ref a_) (some d))) d=some (.ext (XD d [("one",.int o)])):=by rw [aP ne]; exact aD
 refine ⟨_,rfl,_,rfl,a,a_,d,_,rfl,aD,hd1,ne,(by show 1<1000; decide),xf,Vo,?_⟩;refine q d _ hd ne (fun b u nb e'=>?_) ?_ aD
 ·have nd':b≠d:=fun z=>by rw [z,hd] at e'; cases e'
  rw [aP nd',aP nb,aP nd'];exact e'
 ·rw [aP (Ne.symm ne)];exact aD
theorem o7 {n:Nat}{f:Addr}{fd:FuncData}(F:dY K "need_pattern" "need_pattern" (top 25) f fd){p:vM}{u_:Addr}(Vp:mg "NoSets" = some (.ref u_))(X3:Et K u_){a_ iN:Addr}{dN:FuncData}{kN:Nat}(p_:mg "NoPattern" = some (.ref a_))(xi:yG K a_ iN)(Xz:bD P w K mg base dW kN iN dN ["self","one","other"] (Hr a_))(X_:Binds K dN ["self","one","other"] [])(Xk:kN+1 ≤ n){XH:Addr}{W2:FuncData}(Vq:eV P w K mg base n "flaw" ["pattern","many"] (uU p) XH W2){W3:Addr}{Vw:FuncData}(W4:eV P w K mg base n "is_pattern" ["thing"] (Dh p K) W3 Vw):bD P w K mg base (J3 P w) (n+1) f fd ["pattern","many"] (Mz p K u_ a_):=by
 refine F.okX iM (fun vs H Q E h=>?_) (fun cdv A outer s H vs Q E hr h=>?_)
 ·obtain ⟨v,m,rfl,_⟩:=h
  rfl
 obtain ⟨v,m,rfl,h⟩:=h;have nd:=iM.nd;refine ⟨_,(aG (bI (PT.nox (cP (bV (aJ W4 hr (aA (pv 0) aB))))) (aF (Dm Bt rfl rfl Vp X3)) aQ) (aG (PS.nox (bU (i:=2) nd rfl (Or.inl rfl) (aJ Vq hr (aA (pv 0) (aA (pv 1) aB))))) (aF (bI (aV GZ (pv 2) iI (aW _)) (aF (Cj yW rfl rfl p_ xi Xz (hr.mono Xk) X_ (aA (bJ b7 (pv 2) aC (fun _ _=>rfl)) (aA (bJ b7 (pv 2) aC (fun _ _=>rfl)) aB)))) aQ)))),?_⟩;rcases h with ⟨h,q⟩ | ⟨x,S,rfl,hX,hG,m1,m6,qn,qf⟩
 ·refine ⟨_,rfl,v,false,rfl,h,?_⟩;refine ⟨_,rfl,?_⟩;exact gG q
 refine ⟨_,rfl,.ref x,true,rfl,.yes hX,?_⟩;refine ⟨_,rfl,?_⟩;refine dC ?_;refine ⟨_,rfl,_,rfl,x,S,m,rfl,hX,hG,m1,m6,fun en H1 s1=>?_,fun st o e en r H1 s1 hr1=>?_⟩
 ·refine ⟨_,rfl,rfl,_,rfl,?_⟩;refine eQ rfl ?_;exact qn en H1 s1
 ·refine ⟨_,rfl,rfl,_,rfl,?_⟩;refine lB rfl ?_;refine ⟨_,rfl,r,_,_,_,rfl,rfl,dG.of hr1,rfl,_,rfl,r,_,_,_,rfl,rfl,dG.of hr1,rfl,?_⟩;intro a ha;refine ⟨a,o,e,rfl,aD,fun d H2 hd ne kp ha2 np=>⟨rfl,d,ha2,?_⟩⟩;have hd1:H1 d=none:=by rw [aP ne] at hd; exact hd
  refine qf st o e en d _ (s1.trans fun b u z=>?_) ?_
  ·have nb:b≠a:=bK z ha;rw [kY nb];exact kp b u nb (by rw [aP nb]; exact z)
  ·show Ey H2 a d=_;rw [kY ne];exact np
end
section
variable {P:Program}{w:World}{K:PySem.W.Frag}{mg:Str →Option Value}{base:Heap}
theorem oZ {n:Nat}{f:Addr}{fd:FuncData}(F:dY K "_law_cell_at" "_law_cell_at" (top 27) f fd)(h_:mg "len" = none):bD P w K mg base dW (n+1) f fd ["_law_script","_law_k"] (Dn K):=by
 refine F.ok iQ (fun vs H Q E h=>?_) (fun cdv A outer s H vs Q E hr h=>?_)
 ·obtain ⟨a,ns,k,rfl,_⟩:=h
  rfl
 obtain ⟨a,ns,k,rfl,hS,h0,hk,q⟩:=h;have nd:=iQ.nd;refine ⟨_,(aG (bU (i:=2) nd rfl (Or.inl rfl) (aN cB (aN zK aC (pv 1)) aC)) (aG (bI (aV Dr (pv 1) (aR bF rfl h_ dJ (aA (pv 0) aB)) (aW _)) (aF (bU (i:=2) nd rfl (Or.inl rfl) (bJ cF (pv 0) (pv 1) (fun _ _=>rfl)))) aQ) (aG (bU (i:=2) nd rfl (Or.inl rfl) (aN cJ (aN cB (aN cB (aN uG (aN cJ (pv 2) aC) aC) (aN zK aC (pv 1))) aC) aC)) (aG (bU (i:=2) nd rfl (Or.inl rfl) (aN cJ (aN uG (pv 2) (pv 2)) aC)) (aF (aO (aN cJ (aN cB (aN cB (aN uG (pv 2) (pv 2)) (aN zK aC (pv 2))) (pv 1)) aC))))))),?_⟩;have b1:∀ x:Int,0 ≤ x →x<2147483648 →intBits x ≤ 64:=fun x h1 h2=>PySem.intBits_le_64 (by omega) (by omega);have hl:(ns.map V.int).length=ns.length:=YH _;refine ⟨_,rfl,_,_,rfl,rfl,.inl ⟨by decide,by decide⟩,_,_,rfl,rfl,?_⟩;refine ⟨_,rfl,_,rfl,a,_,rfl,.inl hS,_,_,rfl,rfl,_,rfl,?_⟩;refine o8 (fun c=>?_) (fun c=>?_)
 ·have c':k<(((ns.map V.int).length:Nat):Int):=of_decide_eq_true c;rw [hl] at c';refine ⟨_,rfl,_,rfl,a,_,_,_,rfl,rfl,hS,wM h0 c',?_⟩;have m1:=Y4 (ns.getD k.toNat 0) (show (2147483647:Int)≠0 by decide);have m2:=YT (ns.getD k.toNat 0) (show (0:Int)<2147483647 by decide);refine ⟨_,rfl,_,_,rfl,rfl,(by show (0:Int)<2147483647; decide),_,_,rfl,rfl,tG (b1 _ m1 (by omega)) (b1 48271 (by decide) (by decide)) (by decide),_,rfl,_,_,rfl,rfl,.inl ⟨by decide,by decide⟩,_,_,rfl,rfl,_,_,rfl,rfl,_,_,rfl,rfl,(by show (0:Int)<2147483647; decide),?_⟩;have n1:=Y4 ((ns.getD k.toNat 0)%2147483647*48271+7919*k+1) (show (2147483647:Int)≠0 by decide);have n2:=YT ((ns.getD k.toNat 0)%2147483647*48271+7919*k+1) (show (0:Int)<2147483647 by decide);have nb:=b1 _ n1 (aAo n2 (by decide));refine ⟨_,rfl,_,rfl,_,_,rfl,rfl,tG nb nb (by decide),_,_,rfl,rfl,(by show (0:Int)<2147483647; decide),?_⟩;have k1:=Y4 (((ns.getD k.toNat 0)%2147483647*48271+7919*k+1)%2147483647*(((ns.getD k.toNat 0)%2147483647*48271+7919*k+1)%2147483647)) (show (2147483647:Int)≠0 by decide);have k2:=YT (((ns.getD k.toNat 0)%2147483647*48271+7919*k+1)%2147483647*(((ns.getD k.toNat 0)%2147483647*48271+7919*k+1)%2147483647)) (show (0:Int)<2147483647 by decide);have kb:=b1 _ k1 (aAo k2 (by decide));refine ⟨_,rfl,_,rfl,_,_,rfl,rfl,tG kb kb (by decide),_,rfl,_,_,rfl,rfl,.inl ⟨by decide,by decide⟩,_,_,rfl,rfl,_,rfl,_,_,rfl,rfl,_,_,rfl,rfl,(by show (0:Int)<2147483629; decide),?_⟩;exact q _ (Y4 _ (by decide)) (YT _ (by decide))
 ·skip
  have m1:=Y4 (104729*k+7) (show (2147483647:Int)≠0 by decide);have m2:=YT (104729*k+7) (show (0:Int)<2147483647 by decide);refine ⟨_,rfl,_,_,rfl,rfl,(by show (0:Int)<2147483647; decide),_,_,rfl,rfl,tG (b1 _ m1 (by omega)) (b1 48271 (by decide) (by decide)) (by decide),_,rfl,_,_,rfl,rfl,.inl ⟨by decide,by decide⟩,_,_,rfl,rfl,_,_,rfl,rfl,_,_,rfl,rfl,(by show (0:Int)<2147483647; decide),?_⟩;have n1:=Y4 ((104729*k+7)%2147483647*48271+7919*k+1) (show (2147483647:Int)≠0 by decide);have n2:=YT ((104729*k+7)%2147483647*48271+7919*k+1) (show (0:Int)<2147483647 by decide);have nb:=b1 _ n1 (aAo n2 (by decide));refine ⟨_,rfl,_,rfl,_,_,rfl,rfl,tG nb nb (by decide),_,_,rfl,rfl,(by show (0:Int)<2147483647; decide),?_⟩;have k1:=Y4 (((104729*k+7)%2147483647*48271+7919*k+1)%2147483647*(((104729*k+7)%2147483647*48271+7919*k+1)%2147483647)) (show (2147483647:Int)≠0 by decide);have k2:=YT (((104729*k+7)%2147483647*48271+7919*k+1)%2147483647*(((104729*k+7)%2147483647*48271+7919*k+1)%2147483647)) (show (0:Int)<2147483647 by decide);have kb:=b1 _ k1 (aAo k2 (by decide));refine ⟨_,rfl,_,rfl,_,_,rfl,rfl,tG kb kb (by decide),_,rfl,_,_,rfl,rfl,.inl ⟨by decide,by decide⟩,_,_,rfl,rfl,_,rfl,_,_,rfl,rfl,_,_,rfl,rfl,(by show (0:Int)<2147483629; decide),?_⟩;exact q _ (Y4 _ (by decide)) (YT _ (by decide))
theorem uW {n:Nat}{f:Addr}{fd:FuncData}(F:dY K "_law_many" "_law_many" (top 28) f fd){j_:Addr}{i_:FuncData}(cC:eV P w K mg base n "_law_cell_at" ["_law_script","_law_k"] (Dn K) j_ i_)(WT:mg "min" = none)(O_:mg "max" = none)(h_:mg "len" = none):bD P w K mg base dW (n+1) f fd ["_law_script","_law_first","_law_most"] (Lp K):=by
 refine F.ok mD (fun vs H Q E h=>?_) (fun cdv A outer s H vs Q E hr h=>?_)
 ·obtain ⟨a,ns,f,m,rfl,_⟩:=h
  rfl
 obtain ⟨a,ns,f,m,rfl,hS,h1,h2,hm,q⟩:=h;have nd:=mD.nd;refine ⟨_,(aG (bU (i:=3) nd rfl (Or.inl rfl) (aN cJ (aN lN (aJ cC hr (aA (pv 0) (aA (aN jE (pv 1) aC) aB))) aC) (aN cB (pv 2) aC))) (aF (aO (aR (sW rfl) rfl WT DR (aA (pv 2) (aA (aR (jP rfl) rfl O_ uZ (aA (pv 3) (aA (aN jE (aR bF rfl h_ dJ (aA (pv 0) aB)) (pv 1)) aB))) aB)))))),?_⟩;refine ⟨_,rfl,_,rfl,_,_,rfl,rfl,a,ns,f-1,rfl,hS,by omega,by omega,fun j j0 j1=>?_⟩;have e1:=Y4 (j/7) (show m+1≠0 by omega);have e2:=YT (j/7) (show 0<m+1 by omega);refine ⟨_,_,rfl,rfl,⟨by decide,by decide⟩,_,rfl,_,_,rfl,rfl,_,_,rfl,rfl,(by show 0<m+1; omega),?_⟩;refine ⟨_,rfl,_,rfl,_,rfl,a,_,rfl,.inl hS,_,rfl,_,_,rfl,rfl,_,_,rfl,_,_,rfl,?_⟩;refine q _ ?_ ?_
 ·(repeat' split) <;> omega
 ·(repeat' split) <;> omega
theorem tR {n:Nat}{f:Addr}{fd:FuncData}(F:dY K "_law_size" "_law_size" (top 30) f fd)(b_:mg "range" = none):bD P w K mg base dW (n+1) f fd ["_law_kept"] z9:=by
 refine F.ok mH (fun vs H Q E h=>?_) (fun cdv A outer s H vs Q E hr h=>?_)
 ·obtain ⟨k,rfl,_⟩:=h
  rfl
 obtain ⟨k,rfl,k0,k1,q⟩:=h;have nd:=mH.nd;refine ⟨_,(aG (bU (i:=1) nd rfl (Or.inl rfl) aC) (aG (cZ PassesOwn.never rfl (bC rfl b_ (aA aC aB)) (aZ (i:=2) nd rfl (Or.inl rfl)) (aF (bU (i:=1) nd rfl (Or.inl rfl) (aN cB (pv 1) (aN gB (aN iY (pv 0) (pv 2)) aC))))) (aF (aO (pv 1))))),?_⟩;refine ⟨6,rfl,by decide,by decide,?_⟩;refine cR (n:=(6:Int).toNat) (fun i σ H'=>∃ v2,σ = [some (.int k),some (.int (((six i).filter (hb k)).length:Nat)),v2]∧H'=H) ⟨none,rfl,rfl⟩ ?_ ?_
 ·rintro i σ H' hi ⟨v2,rfl,rfl⟩;refine ⟨_,rfl,_,rfl,_,rfl,_,_,rfl,rfl,(by show (0:Int) ≤ 0+(i:Int); omega),_,_,rfl,rfl,_,_,rfl,rfl,?_⟩;refine ⟨some (.int (0+(i:Int))),?_,rfl⟩;have e:=Hv k0 k1 (show i<6 from hi);rw [rY,YQ];show [_,some (V.int (_+Builtin.bitAnd (k/2^((0:Int)+(i:Int)).toNat) 1)),_]=_;rw [e]
  split <;> rfl
 ·rintro σ H' ⟨v2,rfl,rfl⟩;exact ⟨_,rfl,q⟩
theorem v7 {n:Nat}{f:Addr}{fd:FuncData}(F:dY K "_law_may" "_law_may" (top 31) f fd){v_:Addr}{q_:FuncData}(k_:eV P w K mg base n "_law_size" ["_law_kept"] z9 v_ q_)(b_:mg "range" = none)(h_:mg "len" = none):bD P w K mg base dW (n+1) f fd ["_law_spec_here","_law_kept"] Ij:=by
 refine F.ok nQ (fun vs H Q E h=>?_) (fun cdv A outer s H vs Q E hr h=>?_)
 ·obtain ⟨p,k,S,rfl,_⟩:=h
  rfl
 obtain ⟨p,k,S,rfl,hP,hG,k0,k1,q⟩:=h;have nd:=nQ.nd;refine ⟨_,(aG (bI (aV cG (bJ b7 (pv 0) aC (fun _ _=>rfl)) d7 (aW _)) (aF (aO (b8 pK (aJ k_ hr (aA (pv 1) aB)) (bJ b7 (pv 0) aC (fun _ _=>rfl)) (aW _)))) aQ) (aG (bI (aV cG (bJ b7 (pv 0) aC (fun _ _=>rfl)) d7 (aW _)) (aF (aO (b8 mZ (pv 1) (bJ b7 (pv 0) aC (fun _ _=>rfl)) rfl))) aQ) (aG (bU (i:=2) nd rfl (Or.inl rfl) (eX (aA aC (aA aC (aA aC (aA aC (aA aC (aA aC aB)))))))) (aG (cZ PassesOwn.never rfl (bC rfl b_ (aA aC aB)) (aZ (i:=3) nd rfl (Or.inl rfl)) (aF (bI (aV cG (aN gB (aN iY (pv 1) (pv 3)) aC) aC (aW _)) (aG (bI (aV LC (pv 3) (aR bF rfl h_ dJ (aA (bJ b7 (pv 0) aC (fun _ _=>rfl)) aB)) (aW _)) (aF (aO dF)) aQ) (aF (zN (aN cB (bJ cF (pv 2) (bJ b7 (bJ b7 (pv 0) aC (fun _ _=>rfl)) (pv 3) (fun _ _=>rfl)) (fun _ _=>rfl)) aC) (JK (pv 2) (bJ b7 (bJ b7 (pv 0) aC (fun _ _=>rfl)) (pv 3) (fun _ _=>rfl)) set_list)))) aQ))) (aG (cZ PassesOwn.never rfl (bC rfl b_ (aA aC aB)) (aZ (i:=4) nd rfl (Or.inl rfl)) (aF (bI (aV Du (bJ cF (pv 2) (pv 4) (fun _ _=>rfl)) (bJ b7 (bJ b7 (pv 0) aC (fun _ _=>rfl)) (pv 4) (fun _ _=>rfl)) (aW _)) (aF (aO dF)) aQ))) (aF (aO dF))))))),?_⟩;cases S with
 | few c =>
  have hP:H p=some (.tup [.str "few",.int c]):=hP;refine ⟨_,rfl,p,_,_,_,rfl,rfl,dG.of hP,rfl,rfl,_,rfl,?_⟩;refine gG ?_;exact ⟨_,rfl,k,rfl,k0,k1,_,rfl,p,_,_,_,rfl,rfl,dG.of hP,rfl,_,_,rfl,rfl,q H (bB.refl _)⟩
 | listed ks =>
  obtain ⟨t,hP,ht⟩:=hP;refine ⟨_,rfl,p,_,_,_,rfl,rfl,dG.of hP,rfl,rfl,_,rfl,?_⟩;refine dC ?_;refine ⟨_,rfl,p,_,_,_,rfl,rfl,dG.of hP,rfl,rfl,_,rfl,?_⟩;refine gG ?_;exact ⟨_,rfl,_,rfl,p,_,_,_,rfl,rfl,dG.of hP,rfl,t,_,rfl,.inr (dG.of ht),rfl,dI ks,q H (bB.refl _)⟩
 | groups gs ms =>
 obtain ⟨g,m,hP,hg,hm⟩:=hP;have gg:Hs gs ms:=hG;have q:∀ H',bB H H' →Q (.bl (qF gs ms k)) H':=q;refine ⟨_,rfl,p,_,_,_,rfl,rfl,dG.of hP,rfl,rfl,_,rfl,?_⟩;refine dC ?_;refine ⟨_,rfl,p,_,_,_,rfl,rfl,dG.of hP,rfl,rfl,_,rfl,?_⟩;refine dC ?_;refine ⟨ZP (aX (show 6 ≤ 1000 by decide)),fun M hM=>?_⟩;refine ⟨6,rfl,by decide,by decide,?_⟩;refine cR (n:=(6:Int).toNat) (fun i σ H'=>∃ v3 v4 cs,σ = [some (.ref p),some (.int k),some (.ref M),v3,v4]∧bB H H'∧H' M=some (.lst (Is cs))∧cs.length=6∧(∀ z:Nat,z<6 →cs.getD z 0=(((Br gs k i).count (z:Int):Nat):Int))∧∀ b∈(six i).filter (hb k),b<(gs.length:Int)) ⟨none,none,[0,0,0,0,0,0],rfl,aH hM _,aD,rfl,(fun z hz=>?z0),fun _ h=>nomatch h⟩ ?turn ?done
 case z0 =>
  have e:(Br gs k 0).count (z:Int)=0:=rfl;rw [e]
  match z,hz with
  | 0,_=>rfl
  | 1,_=>rfl
  | 2,_=>rfl
  | 3,_=>rfl
  | 4,_=>rfl
  | 5,_=>rfl
 case turn =>
  rintro i σ H' hi ⟨v3,v4,cs,rfl,hs,hM',hl,hc,hin⟩;have hi6:i<6:=hi;refine ⟨_,rfl,_,rfl,_,_,rfl,rfl,(by show (0:Int) ≤ 0+(i:Int); omega),_,_,rfl,rfl,rfl,_,rfl,?_⟩;have fs:=rY k i;cases eb:hb k (0+(i:Int)) with
  | false =>
   refine eQ eb ?_;rw [eb,if_neg YM,Yy] at fs;refine ⟨_,v4,cs,rfl,hs,hM',hl,fun z hz=>?_,fun b hb1=>?_⟩
   ·rw [hc z hz];unfold Br;rw [fs]
   ·rw [fs] at hb1;exact hin b hb1
  | true =>
   refine lB eb ?_;rw [eb,if_pos rfl] at fs;refine ⟨_,rfl,_,rfl,p,_,_,_,rfl,rfl,dG.of (hs _ _ hP),rfl,g,_,rfl,.inr (dG.of (hs _ _ hg)),_,_,rfl,rfl,_,rfl,?_⟩
   by_cases hge:(0+(i:Int))<(gs.length:Int)
   ·refine eQ (decide_eq_false (by show ¬ (0+(i:Int)) ≥ (((Is gs).length:Nat):Int); rw [aM]; omega)) ?_;have hgi:=gg.g (gs.getD (0+(i:Int)).toNat 0) (TP.getD_mem (by omega));have a1:=oE (ns:=gs) (k:=0+(i:Int)) (by omega) hge;generalize hzz:gs.getD (0+(i:Int)).toNat 0=z at hgi a1;have a2:=oE (ns:=cs) (k:=z) hgi.1 (by omega);have cz:=hc z.toNat (by omega);refine ⟨_,rfl,_,rfl,p,_,_,_,rfl,rfl,dG.of (hs _ _ hP),rfl,_,rfl,g,_,_,_,rfl,rfl,dG.of (hs _ _ hg),a1,M,_,_,_,rfl,rfl,bL.of hM',a2,_,_,rfl,rfl,?_⟩;refine ⟨_,rfl,_,rfl,p,_,_,_,rfl,rfl,dG.of (hs _ _ hP),rfl,_,rfl,g,_,_,_,rfl,rfl,dG.of (hs _ _ hg),a1,M,_,z,z.toNat,rfl,rfl,hM',(by unfold GD; rw [if_pos hgi.1,aM,hl,if_pos (by omega)]),?_⟩;refine ⟨_,v4,cs.set z.toNat (cs.getD z.toNat 0+1),rfl,hs.upd_new hM _,?_,by rw [aA8]; exact hl,fun y hy=>?_,fun b hb1=>?_⟩
    ·rw [aD];exact congrArg (fun l=>some (HO.lst l)) (JP _ _ _)
    ·have eg:Br gs k (i+1)=Br gs k i++[z]:=by
      unfold Br;rw [fs,Yj,← hzz]
      rfl
     rw [eg,List.count_append,Ef (by omega)]
     by_cases e:y=z.toNat
     ·rw [if_pos e,← e,hc y hy];have:([z].count (y:Int))=1:=by rw [show z=(y:Int) by omega]; simp
      rw [this]
      rfl
     ·rw [if_neg e,hc y hy];have:([z].count (y:Int))=0:=by
       rw [List.count_eq_zero];intro h;have:=YK.mp h;omega
      rw [this]
      rfl
    ·rw [fs] at hb1;rcases Y9.mp hb1 with u | u
     ·exact hin b u
     ·rw [YK.mp u];exact hge
   ·refine lB (decide_eq_true (by show (0+(i:Int)) ≥ (((Is gs).length:Nat):Int); rw [aM]; omega)) ?_;have h:=q H' hs;rw [GR (b:=0+(i:Int)) (Yu.mpr ⟨ZG.mpr ⟨i,ZF.mpr hi6,rfl⟩,eb⟩) hge] at h;exact h
 case done =>
 rintro σ H1 ⟨v3,v4,cs,rfl,s1,hM1,hl,hc,hin⟩;have hin:∀ b∈dD k,b<(gs.length:Int):=hin;refine ⟨6,rfl,by decide,by decide,?_⟩;refine cR (n:=(6:Int).toNat) (fun i σ H'=>∃ v4,σ = [some (.ref p),some (.int k),some (.ref M),v3,v4]∧H'=H1∧∀ z:Nat,z<i →(((Br gs k 6).count (z:Int):Nat):Int) ≤ ms.getD z 0) ⟨v4,rfl,rfl,fun z h=>absurd h (aAH _)⟩ ?turn2 ?done2
 case turn2 =>
  rintro i σ H' hi ⟨v4,rfl,rfl,hle⟩;have hi6:i<6:=hi;have ci:=hc i hi6;refine ⟨_,rfl,_,rfl,M,_,_,_,rfl,rfl,bL.of hM1,oE (ns:=cs) (k:=0+(i:Int)) (by omega) (by omega),_,rfl,p,_,_,_,rfl,rfl,dG.of (s1 _ _ hP),rfl,_,rfl,m,_,_,_,rfl,rfl,dG.of (s1 _ _ hm),oE (ns:=ms) (k:=0+(i:Int)) (by omega) (by rw [gg.m6]; omega),_,_,rfl,rfl,_,rfl,?_⟩;have e0:(0+(i:Int)).toNat=i:=by omega
  rw [e0,ci]
  by_cases hgt:ms.getD i 0<(((Br gs k 6).count (i:Int):Nat):Int)
  ·refine lB (decide_eq_true hgt) ?_;have h:=q H' s1;rw [HN gg hi6 hgt] at h;exact h
  ·refine eQ (decide_eq_false hgt) ?_;refine ⟨_,rfl,rfl,fun z hz=>?_⟩
   by_cases e:z=i
   ·rw [e]; omega
   ·exact hle z (by omega)
 case done2 =>
  rintro σ H' ⟨v4,rfl,rfl,hle⟩;have h:=q H' s1;rw [JB gg hin hle] at h;exact h
theorem vB {n:Nat}{f:Addr}{fd:FuncData}(F:dY K "_law_bits" "_law_bits" (top 34) f fd)(b_:mg "range" = none)(h_:mg "len" = none):bD P w K mg base dW (n+1) f fd ["_law_script","_law_k"] (Dd K):=by
 refine F.ok lY (fun vs H Q E h=>?_) (fun cdv A outer s H vs Q E hr h=>?_)
 ·obtain ⟨a,ns,k,rfl,_⟩:=h
  rfl
 obtain ⟨a,ns,k,rfl,hS,h0,q⟩:=h;have nd:=lY.nd;have hu1:_+0+1<cLine:=Zi (aAR (by decide:1 ≤ 64) _) (dM.units hr);refine ⟨_,(aG (bU (i:=2) nd rfl (Or.inr rfl) aC) (aG (bI (aV Dr (pv 1) (aR bF rfl h_ dJ (aA (pv 0) aB)) (aW _)) (aF (bU (i:=2) nd rfl (Or.inr rfl) (aN cJ (bJ cF (pv 0) (pv 1) (fun _ _=>rfl)) (aN fK aC aC)))) aQ) (aG (fB (i:=3) (ls:=["_law_kept"]) (M:=["_law_script","_law_k","_law_number_here","_law_some"]) rfl (cA.of (by rfl)) (NL.of (by rfl)) nd rfl (Or.inl rfl) (bC rfl b_ (aA aC aB)) (fun _ _ _ _=>⟨(aZ (i:=0) (dU (by rfl)) rfl (Or.inl rfl)),(lL (aV cG (aN gB (aN iY (pv 3) (pv 0)) aC) aC (aW _))),(pv 0)⟩)) (aG (bI (aV (Fj (n:=0) hu1) (pv 3) (eX aB) (aW _)) (aF (aO (eX (aA aC aB)))) aQ) (aF (aO (pv 3))))))),?_⟩;have hl:(ns.map V.int).length=ns.length:=YH _;refine ⟨_,rfl,_,rfl,a,_,rfl,.inl hS,_,_,rfl,rfl,_,rfl,?_⟩;refine o8 (fun c=>?_) (fun c=>?_)
 ·have c':k<(((ns.map V.int).length:Nat):Int):=of_decide_eq_true c;rw [hl] at c';refine ⟨_,rfl,_,rfl,a,_,_,_,rfl,rfl,hS,wM h0 c',_,_,rfl,rfl,⟨by decide,by decide,by decide⟩,_,_,rfl,rfl,(by show (0:Int)<1*2^(64:Int).toNat; decide),?_⟩;refine ⟨64,rfl,by decide,by decide,fun D hD=>?_⟩;refine bT (n:=(64:Int).toNat) (fun i τ H'=>∃ v0 ks,τ = [v0,some (.ref a),some (.int k),some (.int (ns.getD k.toNat 0%(1*2^(64:Int).toNat))),none]∧bB H H'∧H' D=some (.lst (Is ks))∧ks.Pairwise (· < ·)∧(∀ x∈ks,0 ≤ x∧x<(i:Int))∧ks.length ≤ i) ⟨none,[],rfl,aH hD _,aD,Zx.nil,(fun _ h=>nomatch h),YD _⟩ ?turn1 ?done1
  case turn1 =>
   rintro i m τ H' hm hi ⟨v0,ks,rfl,hs,hD',lt,kr,kl⟩;have hi6:i<64:=hi;refine ⟨_,rfl,_,rfl,_,_,rfl,rfl,(by show (0:Int) ≤ 0+(i:Int); omega),_,_,rfl,rfl,rfl,_,rfl,?_⟩;refine o8 (fun e=>?_) (fun e=>?_)
   ·refine ⟨_,rfl,?_⟩;refine bG hm hi hD' (by rw [aM]; exact aX (by omega)) ⟨_,ks++[0+(i:Int)],rfl,hs.upd_new hD _,by rw [aD,cH],?_,?_,by rw [YQ]; show ks.length+1 ≤ _; omega⟩
    ·refine Zc.mpr ⟨lt,Z3 _ _,fun x hx y hy=>?_⟩;rw [YK.mp hy];have:=kr x hx;omega
    ·intro x hx;rcases Y9.mp hx with z | z
     ·have:=kr x z;omega
     ·rw [YK.mp z];omega
   ·refine fD hm hi ⟨_,ks,rfl,hs,hD',lt,(fun x hx=>?_),by omega⟩;have:=kr x hx;omega
  case done1 =>
  rintro τ H1 ⟨v0,ks,rfl,s1,hD1,lt,kr,kl⟩;have kr:∀ x∈ks,0 ≤ x∧x<64:=kr;have kl:ks.length ≤ 64:=kl;refine ⟨_,rfl,Ym _,fun Z hZ=>?_⟩;have n2:=aH hZ (.lst [])
  by_cases hn:ks=[]
  ·subst hn;have d:=DE.lst (K:=K) (n:=0) (fun _=>true) (bL.of (n2 _ _ hD1)) (bL.of (aD (H:=H1) (a:=Z) (o:=.lst []))) rfl (fun j x y hx=>by simp at hx);refine ⟨D,Z,true,rfl,rfl,d,_,rfl,?_⟩;refine gG ?_;refine ⟨Oj,fun r hr0=>?_⟩;have n3:=aH hr0 (.lst [V.int 0]);exact q r _ [0] ((s1.trans n2).trans n3) ((s1.trans n2).free hr0) aD (lW (by decide) (by decide) (Z3 _ _) fun x hx=>by rw [YK.mp hx]; decide)
  ·have d:=DE.lstN (K:=K) (n:=0) (bL.of (n2 _ _ hD1)) (bL.of (aD (H:=H1) (a:=Z) (o:=.lst []))) (by rw [aM]; intro z; exact hn (aAC.mp z));refine ⟨D,Z,false,rfl,rfl,d,_,rfl,?_⟩;refine dC ?_;exact ⟨_,rfl,q D _ ks (s1.trans n2) hD (n2 _ _ hD1) (lW (aAn.mpr hn) kl lt fun x hx=>by have:=kr x hx; omega)⟩
 ·skip
  refine ⟨64,rfl,by decide,by decide,fun D hD=>?_⟩;refine bT (n:=(64:Int).toNat) (fun i τ H'=>∃ v0 ks,τ = [v0,some (.ref a),some (.int k),some (.int 1),none]∧bB H H'∧H' D=some (.lst (Is ks))∧ks.Pairwise (· < ·)∧(∀ x∈ks,0 ≤ x∧x<(i:Int))∧ks.length ≤ i) ⟨none,[],rfl,aH hD _,aD,Zx.nil,(fun _ h=>nomatch h),YD _⟩ ?turn2 ?done2
  case turn2 =>
   rintro i m τ H' hm hi ⟨v0,ks,rfl,hs,hD',lt,kr,kl⟩;have hi6:i<64:=hi;refine ⟨_,rfl,_,rfl,_,_,rfl,rfl,(by show (0:Int) ≤ 0+(i:Int); omega),_,_,rfl,rfl,rfl,_,rfl,?_⟩;refine o8 (fun e=>?_) (fun e=>?_)
   ·refine ⟨_,rfl,?_⟩;refine bG hm hi hD' (by rw [aM]; exact aX (by omega)) ⟨_,ks++[0+(i:Int)],rfl,hs.upd_new hD _,by rw [aD,cH],?_,?_,by rw [YQ]; show ks.length+1 ≤ _; omega⟩
    ·refine Zc.mpr ⟨lt,Z3 _ _,fun x hx y hy=>?_⟩;rw [YK.mp hy];have:=kr x hx;omega
    ·intro x hx;rcases Y9.mp hx with z | z
     ·have:=kr x z;omega
     ·rw [YK.mp z];omega
   ·refine fD hm hi ⟨_,ks,rfl,hs,hD',lt,(fun x hx=>?_),by omega⟩;have:=kr x hx;omega
  case done2 =>
  rintro τ H1 ⟨v0,ks,rfl,s1,hD1,lt,kr,kl⟩;have kr:∀ x∈ks,0 ≤ x∧x<64:=kr;have kl:ks.length ≤ 64:=kl;refine ⟨_,rfl,Ym _,fun Z hZ=>?_⟩;have n2:=aH hZ (.lst [])
  by_cases hn:ks=[]
  ·subst hn;have d:=DE.lst (K:=K) (n:=0) (fun _=>true) (bL.of (n2 _ _ hD1)) (bL.of (aD (H:=H1) (a:=Z) (o:=.lst []))) rfl (fun j x y hx=>by simp at hx);refine ⟨D,Z,true,rfl,rfl,d,_,rfl,?_⟩;refine gG ?_;refine ⟨Oj,fun r hr0=>?_⟩;have n3:=aH hr0 (.lst [V.int 0]);exact q r _ [0] ((s1.trans n2).trans n3) ((s1.trans n2).free hr0) aD (lW (by decide) (by decide) (Z3 _ _) fun x hx=>by rw [YK.mp hx]; decide)
  ·have d:=DE.lstN (K:=K) (n:=0) (bL.of (n2 _ _ hD1)) (bL.of (aD (H:=H1) (a:=Z) (o:=.lst []))) (by rw [aM]; intro z; exact hn (aAC.mp z));refine ⟨D,Z,false,rfl,rfl,d,_,rfl,?_⟩;refine dC ?_;exact ⟨_,rfl,q D _ ks (s1.trans n2) hD (n2 _ _ hD1) (lW (aAn.mpr hn) kl lt fun x hx=>by have:=kr x hx; omega)⟩
theorem pP {n:Nat}{f:Addr}{fd:FuncData}(F:dY K "_law_forest" "_law_forest" (top 32) f fd)(b_:mg "range" = none)(h_:mg "len" = none)(V9:mg "int" = none):bD P w K mg base dW (n+1) f fd ["_law_pairs","_law_kept"] vZ:=by
 refine F.ok jK (fun vs H Q E h=>?_) (fun cdv A outer s H vs Q E hr h=>?_)
 ·obtain ⟨a,qs,k,rfl,_⟩:=h
  rfl
 obtain ⟨a,qs,k,rfl,hP,l6,q⟩:=h;have nd:=jK.nd;refine ⟨_,(aG (bU (i:=2) nd rfl (Or.inl rfl) (eX (aA aC (aA aC (aA aC (aA aC aB)))))) (aG (cZ PassesOwn.never rfl (bC rfl b_ (aA (aR bF rfl h_ dJ (aA (pv 0) aB)) aB)) (aZ (i:=3) nd rfl (Or.inl rfl)) (aF (bI (aV cG (aN gB (aN iY (pv 1) (pv 3)) aC) aC (aW _)) (aG (zN (fZ (aA (bJ cF (pv 2) (bJ b7 (bJ cF (pv 0) (pv 3) (fun _ _=>rfl)) aC (fun _ _=>rfl)) (fun _ _=>rfl)) (aA (bJ cF (pv 2) (bJ b7 (bJ cF (pv 0) (pv 3) (fun _ _=>rfl)) aC (fun _ _=>rfl)) (fun _ _=>rfl)) aB))) (Dv rfl (jF (aZ (i:=4) nd rfl (Or.inr rfl)) (jF (aZ (i:=5) nd rfl (Or.inr rfl)) zV)))) (aG (bI (aV cG (pv 4) (pv 5) (aW _)) (aF (aO dF)) aQ) (aF (fB (i:=2) (ls:=["_law_root"]) (M:=["_law_pairs","_law_kept","_law_roots","_law_box","_law_one","_law_other"]) rfl (cA.of (by rfl)) (NL.of (by rfl)) nd rfl (Or.inl rfl) (cT (pv 2)) (fun _ _ _ _=>⟨(aZ (i:=0) (dU (by rfl)) rfl (Or.inl rfl)),dB,(bJ (pX (K:=K) rfl) (eX (aA (pv 0) (aA (pv 5) aB))) (cM Bw rfl V9 yD (aA (b8 cG (pv 0) (pv 6) (aW _)) aB)) (fun _ _=>rfl))⟩))))) aQ))) (aF (aO dF)))),?_⟩;have lq:(qs.map V.ref).length=qs.length:=YH _;refine ⟨ZP (aX (show 4 ≤ 1000 by decide)),fun R hR=>?_⟩;have nR:=aH hR (.lst [V.int 0,V.int 1,V.int 2,V.int 3]);refine ⟨_,rfl,a,_,rfl,.inl (bL.of (nR _ _ hP.1)),(qs.length:Int),by rw [lq],by omega,by omega,?_⟩;refine cR (n:=(qs.length:Int).toNat) (fun i σ H'=>∃ R rs v3 v4 v5,σ = [some (.ref a),some (.int k),some (.ref R),v3,v4,v5]∧bB H H'∧H' R=some (.lst (Is rs))∧rs.length=4) ⟨R,[0,1,2,3],none,none,none,rfl,nR,aD,rfl⟩ ?turn ?done
 case done =>
  rintro σ H' ⟨R,rs,v3,v4,v5,rfl,hs,_,_⟩;exact q true H' hs fun _=>rfl
 case turn =>
  rintro i σ H' hi ⟨R,rs,v3,v4,v5,rfl,hs,hR',rl⟩;have hiq:i<qs.length:=by omega
  refine ⟨_,rfl,_,rfl,_,_,rfl,rfl,(by show (0:Int) ≤ 0+(i:Int); omega),_,_,rfl,rfl,rfl,_,rfl,?_⟩;cases b1:hb k (0+(i:Int)) with
  | false =>
   refine eQ b1 ?_;exact ⟨R,rs,_,_,_,rfl,hs,hR',rl⟩
  | true =>
  refine lB b1 ?_;have k0:k≠0:=fun z=>by rw [z,K5] at b1; cases b1
  obtain ⟨q1,hq1⟩:∃ q1,qs[i]? = some q1:=⟨_,YF hiq⟩
  obtain ⟨x,y,hxy,x0,x4,y0,y4⟩:=hP.2 q1 (Yc hq1);have hq':=hs _ _ hxy;have ha':=hs _ _ hP.1;have aq:xM (qs.map V.ref) (0+(i:Int))=some (.ref q1):=Te (by rw [Y7,hq1]; rfl);refine ⟨_,rfl,_,rfl,_,rfl,a,_,_,_,rfl,rfl,bL.of ha',aq,q1,_,_,_,rfl,rfl,dG.of hq',rfl,R,_,_,_,rfl,rfl,bL.of hR',oE x0 (by omega),_,rfl,_,rfl,_,rfl,a,_,_,_,rfl,rfl,bL.of ha',aq,q1,_,_,_,rfl,rfl,dG.of hq',rfl,R,_,_,_,rfl,rfl,bL.of hR',oE y0 (by omega),Fw,fun p hp=>?_⟩;have n1:=aH hp (.tup [V.int (rs.getD x.toNat 0),V.int (rs.getD y.toNat 0)]);refine ⟨p,_,rfl,dG.of aD,rfl,_,_,rfl,_,_,rfl,rfl,?_⟩;refine ⟨_,rfl,_,rfl,rfl,_,rfl,?_⟩;refine o8 (fun c=>?_) (fun c=>?_)
  ·exact q false _ (hs.trans n1) fun z=>absurd z k0
  refine ⟨_,rfl,R,rfl,⟨_,bL.of (n1 _ _ hR')⟩,fun D hD=>?_⟩;have hDn:=n1.free hD;refine d8 (xs:=Is rs) (fun j τ H2=>∃ v0 ts,τ = [v0,some (.ref a),some (.int k),some (.ref R),some (.int (0+(i:Int))),some (.int (rs.getD x.toNat 0)),some (.int (rs.getD y.toNat 0))]∧bB H' H2∧H2 D=some (.lst (Is ts))∧ts.length=j) ⟨none,[],rfl,n1.trans (aH hD _),aD,rfl⟩ ?keep2 ?turn2 ?done2
  case keep2 =>
   rintro j τ H2 hj ⟨v0,ts,rfl,hs2,_⟩;exact bL.of (hs2 _ _ hR')
  case turn2 =>
   rintro j m v τ H2 hm hj hv ⟨v0,ts,rfl,hs2,hD2,tl⟩;obtain ⟨z,hz,rfl⟩:=gJ hv;have hj4:j<4:=by rw [aM] at hj; omega
   refine mJ ?_;refine ⟨_,rfl,_,rfl,Fw,fun l hl=>?_⟩;have nl:=aH hl (.lst [V.int z,V.int (rs.getD x.toNat 0)]);refine ⟨_,rfl,_,rfl,rfl,.inr ⟨_,rfl,?_⟩⟩;obtain ⟨u,hu⟩:∃ u:Int,xM [V.int z,V.int (rs.getD x.toNat 0)] (if decide (V.int z=V.int (rs.getD y.toNat 0))=true then 1 else 0)=some (.int u):=by cases decide (V.int z=V.int (rs.getD y.toNat 0)) <;> exact ⟨_,rfl⟩
   refine ⟨l,_,_,_,rfl,rfl,bL.of aD,hu,?_⟩;refine bG hm hj (nl _ _ hD2) (by rw [aM]; exact aX (by omega)) ⟨_,ts++[u],rfl,(hs2.trans nl).upd_new hDn _,by rw [aD,cH],by rw [YQ,tl]; rfl⟩
  case done2 =>
   rintro τ H2 ⟨v0,ts,rfl,hs2,hD2,tl⟩;exact ⟨D,ts,_,_,_,rfl,hs.trans hs2,hD2,by rw [tl,aM,rl]⟩
theorem rF {n:Nat}{f:Addr}{fd:FuncData}(F:dY K "_law_under" "_law_under" (top 33) f fd)(b_:mg "range" = none)(WQ:mg "any" = none):bD P w K mg base dW (n+1) f fd ["_law_some","_law_many_here"] z7:=by
 refine F.ok jX (fun vs H Q E h=>?_) (fun cdv A outer s H vs Q E hr h=>?_)
 ·obtain ⟨a,ss,m,rfl,_⟩:=h
  rfl
 obtain ⟨a,ss,m,rfl,ha,hne,hl,hr0,m6,q⟩:=h;have nd:=jX.nd;refine ⟨_,(aG (bU (i:=2) nd rfl (Or.inl rfl) (eX aB)) (aG (cZ PassesOwn.never rfl (bC rfl b_ (aA (aN fK aC (pv 1)) aB)) (aZ (i:=3) nd rfl (Or.inr rfl)) (aF (bI (bV (aR (sJ rfl rfl) rfl WQ Eg (aA (eY (ls:=["_law_one"]) (M:=["_law_some","_law_many_here","_law_found","_law_kept"]) rfl (cA.of (by rfl)) (NL.of (by rfl)) (cT (pv 0)) (fun _ _ _ _=>⟨(aZ (i:=0) (dU (by rfl)) rfl (Or.inl rfl)),dB,(b8 cG (aN gB (pv 4) (pv 0)) (pv 4) (aW _))⟩)) aB))) (aF (pG (vV PySem.F.plainAttrs_list PySem.F.slot_list_append PySem.F.type_list_append jO (pv 2) (aA (pv 3) aB)))) aQ))) (aF (aO (pv 2))))),?_⟩;obtain ⟨N,hN⟩:∃ N:Nat,N=2^m:=⟨_,rfl⟩
 have GF:N ≤ 64:=by rw [hN]; exact Y5 (Z1 (by decide) m6) (by decide)
 have pp:0<N:=by rw [hN]; exact aAl (by decide)
 have pe:(1:Int)*2^((m:Int)).toNat=(N:Int):=by rw [aAw,ZC,hN]; push_cast; rfl
 refine ⟨Ym _,fun R hR=>?_⟩;have nR:=aH hR (.lst []);refine ⟨_,rfl,_,_,rfl,rfl,⟨by omega,by omega,by decide⟩,(N:Int),congrArg (fun v=>[V.int v]) pe,by omega,by omega,?_⟩;refine cR (n:=(N:Int).toNat) (fun i σ H'=>∃ v3 ks,σ = [some (.ref a),some (.int (m:Int)),some (.ref R),v3]∧bB H H'∧H' R=some (.lst (Is ks))∧Part i ks) ⟨none,[],rfl,nR,aD,Part.nil⟩ ?turn ?done
 case done =>
  rintro σ H' ⟨v3,ks,rfl,hs,hR',pt⟩;rw [ZC,hN] at pt;exact ⟨_,rfl,q R H' ks hs hR hR' pt⟩
 case turn =>
  rintro i σ H' hi ⟨v3,ks,rfl,hs,hR',pt⟩;have ha':=hs _ _ ha;refine ⟨_,rfl,a,rfl,⟨_,bL.of ha'⟩,fun D hD=>?_⟩;refine d8 (xs:=Is ss) (fun j τ H2=>∃ v0,τ = [v0,some (.ref a),some (.int (m:Int)),some (.ref R),some (.int (0+(i:Int)))]∧bB H' H2∧H2 D=some (.lst (Bs ((ss.take j).map fun o=>decide (V.int (Builtin.bitAnd (0+(i:Int)) o)=V.int (0+(i:Int))))))) ⟨none,rfl,aH hD _,aD⟩ ?keep2 ?turn2 ?done2
  case keep2 =>
   rintro j τ H2 hj ⟨v0,rfl,hs2,_⟩;exact bL.of (hs2 _ _ ha')
  case turn2 =>
   rintro j m' v τ H2 hm hj hv ⟨v0,rfl,hs2,hD2⟩;obtain ⟨z,hz,rfl⟩:=gJ hv;refine mJ ?_;refine ⟨_,rfl,_,rfl,_,_,rfl,rfl,_,rfl,rfl,?_⟩;refine bG hm hj hD2 (by rw [gK,YH]; exact aX (Y5 (List.length_take_le _ _) (by rw [aM] at hj; omega))) ⟨_,rfl,hs2.upd_new hD _,?_⟩;rw [aD,take_snoc hz,Yj];show _=some (HO.lst (List.map V.bl (_++[decide (V.int (Builtin.bitAnd (0+(i:Int)) z)=V.int (0+(i:Int)))])));rw [Yj]
   rfl
  case done2 =>
   rintro τ H2 ⟨v0,rfl,hs2,hD2⟩;rw [aM,ZS] at hD2;refine ⟨D,_,rfl,bL.of hD2,_,rfl,?_⟩;cases eu:uF ss (0+(i:Int)) with
   | true =>
    refine lB (show uF ss (0+(i:Int))=true from eu) ?_;refine ⟨_,rfl,.inl ⟨rfl,_,bL.of (hs2 _ _ hR')⟩,_,rfl,R,_,_,rfl,rfl,hs2 _ _ hR',by rw [aM]; exact aX (Y5 pt.l (by omega)),?_⟩;exact ⟨_,ks++[0+(i:Int)],rfl,(hs.trans hs2).upd_new hR _,by rw [aD,cH],pt.snoc⟩
   | false =>
    refine eQ (show uF ss (0+(i:Int))=false from eu) ?_;have i0:i≠0:=fun z=>by
     subst z;rw [UV hne fun s hs=>QB (hr0 s hs).1 (hr0 s hs).2] at eu;cases eu
    exact ⟨_,ks,rfl,hs.trans hs2,hs2 _ _ hR',pt.skip i0⟩
end
section
variable {P:Program}{w:World}{K:PySem.W.Frag}{mg:Str →Option Value}{base:Heap}{Pt:Addr}
theorem pZ {n:Nat}{f:Addr}{fd:FuncData}(F:dY K "_law_number" "_law_number" (top 29) f fd)(d_:mg "isinstance" = none)(Vb:mg "bool" = none)(V9:mg "int" = none):bD P w K mg base dW (n+1) f fd ["_law_found"] Ep:=by
 refine F.ok jA (fun vs H Q E h=>?_) (fun cdv A outer s H vs Q E hr h=>?_)
 ·obtain ⟨i,rfl,_⟩:=h
  rfl
 obtain ⟨i,rfl,q⟩:=h;have nd:=jA.nd;refine ⟨_,(aF (aO (lE (aR (cY (T:="int")) rfl d_ bR (aA (pv 0) (aA (gU (v:=.ty "int") rfl V9 yD rfl) aB))) (m7 (xW (aR (cY (T:="bool")) rfl d_ bR (aA (pv 0) (aA (gU (v:=.ty "bool") rfl Vb BW rfl) aB)))))))),?_⟩;refine ⟨_,rfl,_,_,_,rfl,.int i,gQ _,_,rfl,?_⟩;refine gG ?_;refine ⟨_,rfl,_,_,_,rfl,.int i,lU,_,rfl,?_⟩;exact q
theorem PJ {k:Int}{b:Nat}(h0:0 ≤ k)(h1:k<64)(hb6:b<6):decide (V.int (Builtin.bitAnd (k/2^((0:Int)+(b:Int)).toNat) 1)=V.int 0) = !hb k (0+(b:Int)):=by
 rw [Hv h0 h1 hb6];cases hb k (0+(b:Int)) <;> rfl
theorem rD {n:Nat}{f:Addr}{fd:FuncData}(F:dY K "_law_grown" "_law_grown" (top 38) f fd)(b_:mg "range" = none):bD P w K mg base dW (n+1) f fd ["_law_sets","_law_one","_law_other"] Es:=by
 refine F.ok jZ (fun vs H Q E h=>?_) (fun cdv A outer s H vs Q E hr h=>?_)
 ·obtain ⟨a,ss,o,e,rfl,_⟩:=h
  rfl
 obtain ⟨a,ss,o,e,rfl,ha,e0,e1,q⟩:=h;have nd:=jZ.nd;refine ⟨_,(aG (cZ PassesOwn.never rfl (bC rfl b_ (aA aC aB)) (aZ (i:=3) nd rfl (Or.inl rfl)) (aF (bI (PW.pt (lC (aV cG (aN gB (aN iY (pv 1) (pv 3)) aC) aC (aW _)) (lC (aV cG (aN gB (aN iY (pv 2) (pv 3)) aC) aC (aW _)) (jN (aV mZ (aN Ht (pv 2) (aN fK aC (pv 3))) (pv 0) rfl))))) (aF (aO dF)) aQ))) (aF (aO dF))),?_⟩;refine ⟨6,rfl,by decide,by decide,?_⟩;refine cR (n:=(6:Int).toNat) (fun i σ H'=>∃ v3,σ = [some (.ref a),some (.int o),some (.int e),v3]∧H'=H∧(six i).any (gF ss o e)=false) ⟨none,rfl,rfl,rfl⟩ ?turn ?done
 case turn =>
  rintro i σ H' hi ⟨v3,rfl,rfl,no⟩;have hi6:i<6:=hi;refine ⟨_,rfl,_,rfl,_,_,rfl,rfl,(by show (0:Int) ≤ 0+(i:Int); omega),_,_,rfl,rfl,rfl,_,rfl,?_⟩;cases b1:hb o (0+(i:Int)) with
  | false =>
   refine eQ b1 ?_;refine eQ rfl ?_;exact ⟨_,rfl,rfl,pO no (by unfold gF; rw [b1]; rfl)⟩
  | true =>
   refine lB b1 ?_;refine ⟨_,rfl,_,rfl,_,_,rfl,rfl,(by show (0:Int) ≤ 0+(i:Int); omega),_,_,rfl,rfl,rfl,_,rfl,?_⟩;rw [PJ e0 e1 hi6];cases b2:hb e (0+(i:Int)) with
   | true =>
    refine eQ rfl ?_;refine eQ rfl ?_;exact ⟨_,rfl,rfl,pO no (by unfold gF; rw [b1,b2]; rfl)⟩
   | false =>
    refine lB rfl ?_;refine ⟨_,rfl,_,rfl,_,_,rfl,rfl,⟨by omega,by omega,by decide⟩,_,_,rfl,rfl,_,rfl,a,_,rfl,.inl (bL.of ha),rfl,dI _,_,rfl,?_⟩;cases b3:oX (.int (Builtin.bitOr e (1*2^((0:Int)+(i:Int)).toNat))) (Is ss) with
    | false =>
     refine eQ rfl ?_;exact ⟨_,rfl,rfl,pO no (by unfold gF; rw [b1,b2,b3]; rfl)⟩
    | true =>
     refine lB rfl ?_;have t:qZ ss o e=true:=zY hi6 (by unfold gF; rw [b1,b2,b3]; rfl);rw [t] at q;exact q
 case done =>
  rintro σ H' ⟨v3,rfl,rfl,no⟩;have t:qZ ss o e=false:=no;rw [t] at q;exact q
theorem mY {n:Nat}{f:Addr}{fd:FuncData}(F:dY K "_law_lessened" "_law_lessened" (top 39) f fd)(b_:mg "range" = none):bD P w K mg base dW (n+1) f fd ["_law_sets"] Fd:=by
 refine F.ok gC (fun vs H Q E h=>?_) (fun cdv A outer s H vs Q E hr h=>?_)
 ·obtain ⟨a,ss,rfl,_⟩:=h
  rfl
 obtain ⟨a,ss,rfl,ha,q⟩:=h;have nd:=gC.nd;refine ⟨_,(aG (cZ PassesOwn.never rfl (cT (pv 0)) (aZ (i:=1) nd rfl (Or.inl rfl)) (aF (cZ PassesOwn.never rfl (bC rfl b_ (aA aC aB)) (aZ (i:=2) nd rfl (Or.inl rfl)) (aF (bI (PW.pt (lC (aV cG (aN gB (aN iY (pv 1) (pv 2)) aC) aC (aW _)) (jN (aV cO (aN jE (pv 1) (aN fK aC (pv 2))) (pv 0) rfl)))) (aF (aO dF)) aQ))))) (aF (aO dF))),?_⟩;refine ⟨_,rfl,a,rfl,⟨_,bL.of ha⟩,?_⟩;refine fL (xs:=Is ss) (fun j σ H'=>∃ v1 v2,σ = [some (.ref a),v1,v2]∧H'=H∧(ss.take j).any (Ti ss)=false) ⟨none,none,rfl,rfl,rfl⟩ ?keep ?turn ?done
 case keep =>
  rintro j σ H' hj ⟨v1,v2,rfl,rfl,_⟩;exact bL.of ha
 case turn =>
  rintro j v σ H' hv ⟨v1,v2,rfl,rfl,no⟩;obtain ⟨o,ho,rfl⟩:=gJ hv;refine ⟨6,rfl,by decide,by decide,?_⟩;refine cR (n:=(6:Int).toNat) (fun i σ H1=>∃ v2,σ = [some (.ref a),some (.int o),v2]∧H1=H'∧(six i).any (lF ss o)=false) ⟨v2,rfl,rfl,rfl⟩ ?turn2 ?done2
  case done2 =>
   rintro σ H1 ⟨v2,rfl,rfl,no2⟩;exact ⟨_,_,rfl,rfl,Ah no ho no2⟩
  case turn2 =>
   rintro i σ H1 hi ⟨v2,rfl,rfl,no2⟩;have hi6:i<6:=hi;refine ⟨_,rfl,_,rfl,_,_,rfl,rfl,(by show (0:Int) ≤ 0+(i:Int); omega),_,_,rfl,rfl,rfl,_,rfl,?_⟩;cases b1:hb o (0+(i:Int)) with
   | false =>
    refine eQ b1 ?_;refine eQ rfl ?_;exact ⟨_,rfl,rfl,pO no2 (by unfold lF; rw [b1]; rfl)⟩
   | true =>
    refine lB b1 ?_;refine ⟨_,rfl,_,rfl,_,_,rfl,rfl,⟨by omega,by omega,by decide⟩,_,_,rfl,rfl,_,rfl,a,_,rfl,.inl (bL.of ha),rfl,dI _,_,rfl,?_⟩;cases b3:oX (.int (o-1*2^((0:Int)+(i:Int)).toNat)) (Is ss) with
    | true =>
     refine eQ rfl ?_;exact ⟨_,rfl,rfl,pO no2 (by unfold lF; rw [b1,b3]; rfl)⟩
    | false =>
     refine lB rfl ?_;have t:xP ss=true:=yH ho (zY hi6 (by unfold lF; rw [b1,b3]; rfl));rw [t] at q;exact q
 case done =>
  rintro σ H' ⟨v1,v2,rfl,rfl,no⟩;rw [aM,ZS] at no;have t:xP ss=false:=no;rw [t] at q;exact q
theorem rA {n:Nat}{f:Addr}{fd:FuncData}(F:dY K "_law_stuck" "_law_stuck" (top 40) f fd){J_:Addr}{E_:FuncData}(K_:eV P w K mg base n "_law_grown" ["_law_sets","_law_one","_law_other"] Es J_ E_){v_:Addr}{q_:FuncData}(k_:eV P w K mg base n "_law_size" ["_law_kept"] z9 v_ q_):bD P w K mg base dW (n+1) f fd ["_law_sets"] Hx:=by
 refine F.ok kE (fun vs H Q E h=>?_) (fun cdv A outer s H vs Q E hr h=>?_)
 ·obtain ⟨a,ss,rfl,_⟩:=h
  rfl
 obtain ⟨a,ss,rfl,ha,ok,q⟩:=h;have nd:=kE.nd;refine ⟨_,(aG (cZ PassesOwn.never rfl (cT (pv 0)) (aZ (i:=1) nd rfl (Or.inl rfl)) (aF (cZ PassesOwn.never rfl (cT (pv 0)) (aZ (i:=2) nd rfl (Or.inl rfl)) (aF (bI (PW.pt (lC (aV cG (aJ k_ hr (aA (pv 1) aB)) (aN cB (aJ k_ hr (aA (pv 2) aB)) aC) (aW _)) (jN (cP (bV (aJ K_ hr (aA (pv 0) (aA (pv 1) (aA (pv 2) aB))))))))) (aF (aO dF)) aQ))))) (aF (aO dF))),?_⟩;refine ⟨_,rfl,a,rfl,⟨_,bL.of ha⟩,?_⟩;refine fL (xs:=Is ss) (fun j σ H'=>∃ v1 v2,σ = [some (.ref a),v1,v2]∧H'=H∧(ss.take j).any (K7 ss)=false) ⟨none,none,rfl,rfl,rfl⟩ ?keep ?turn ?done
 case keep =>
  rintro j σ H' hj ⟨v1,v2,rfl,rfl,_⟩;exact bL.of ha
 case turn =>
  rintro j v σ H' hv ⟨v1,v2,rfl,rfl,no⟩;obtain ⟨o,ho,rfl⟩:=gJ hv;have ro:=ok.r o (Yc ho);refine ⟨_,rfl,a,rfl,⟨_,bL.of ha⟩,?_⟩;refine fL (xs:=Is ss) (fun l σ H1=>∃ v2,σ = [some (.ref a),some (.int o),v2]∧H1=H'∧(ss.take l).any (sF ss o)=false) ⟨v2,rfl,rfl,rfl⟩ ?keep2 ?turn2 ?done2
  case keep2 =>
   rintro l σ H1 hj ⟨v2,rfl,rfl,_⟩;exact bL.of ha
  case done2 =>
   rintro σ H1 ⟨v2,rfl,rfl,no2⟩;rw [aM,ZS] at no2;exact ⟨_,_,rfl,rfl,Ah no ho no2⟩
  case turn2 =>
   rintro l v σ H1 hv2 ⟨v2,rfl,rfl,no2⟩;obtain ⟨e,he,rfl⟩:=gJ hv2;have re:=ok.r e (Yc he);refine ⟨_,rfl,o,rfl,ro.1,ro.2,_,rfl,e,rfl,re.1,re.2,_,_,rfl,rfl,rfl,_,rfl,?_⟩;cases b1:decide (V.int (((dD o).length:Nat):Int)=V.int ((((dD e).length:Nat):Int)+1)) with
   | false =>
    refine eQ rfl ?_;refine eQ rfl ?_;exact ⟨_,rfl,rfl,Ah no2 he (by unfold sF; rw [b1]; rfl)⟩
   | true =>
    refine lB rfl ?_;refine ⟨_,rfl,_,rfl,_,rfl,a,ss,o,e,rfl,ha,re.1,re.2,?_⟩;refine ⟨_,rfl,?_⟩;cases b2:qZ ss o e with
    | true =>
     refine eQ rfl ?_;exact ⟨_,rfl,rfl,Ah no2 he (by unfold sF; rw [b1,b2]; rfl)⟩
    | false =>
     refine lB rfl ?_;have t:CZ ss=true:=yH ho (yH he (by unfold sF; rw [b1,b2]; rfl));rw [t] at q;exact q
 case done =>
  rintro σ H' ⟨v1,v2,rfl,rfl,no⟩;rw [aM,ZS] at no;have t:CZ ss=false:=no;rw [t] at q;exact q
theorem rC {n:Nat}{f:Addr}{fd:FuncData}(F:dY K "_law_shown" "_law_shown" (top 41) f fd){J_:Addr}{E_:FuncData}(K_:eV P w K mg base n "_law_grown" ["_law_sets","_law_one","_law_other"] Es J_ E_){v_:Addr}{q_:FuncData}(k_:eV P w K mg base n "_law_size" ["_law_kept"] z9 v_ q_){x_:Addr}{t_:FuncData}(z_:eV P w K mg base n "_law_lessened" ["_law_sets"] Fd x_ t_){Vx:Addr}{Vr:FuncData}(P_:eV P w K mg base n "_law_number" ["_law_found"] Ep Vx Vr)(d_:mg "isinstance" = none)(X4:mg "str" = none)(h_:mg "len" = none)(l_:mg "tuple" = none):bD P w K mg base dW (n+1) f fd ["_law_sets","_law_found"] IV:=by
 refine F.ok kW (fun vs H Q E h=>?_) (fun cdv A outer s H vs Q E hr h=>?_)
 ·obtain ⟨a,r,ss,st,o,e,rfl,_⟩:=h
  rfl
 obtain ⟨a,r,ss,st,o,e,rfl,ha,hr1,sh,q⟩:=h;have nd:=kW.nd;refine ⟨_,(aG (bI (PW.pt (gO (cP (bV (aR (cY (T:="tuple")) rfl d_ bR (aA (pv 1) (aA (gU (v:=.ty "tuple") rfl l_ fJ rfl) aB))))) (gO (aV tE (aR bF rfl h_ dJ (aA (pv 1) aB)) aC (aW _)) (iD (cP (bV (aR (cY (T:="str")) rfl d_ bR (aA (bJ b7 (pv 1) aC (fun _ _=>rfl)) (aA (gU (v:=.ty "str") rfl X4 Jf rfl) aB))))))))) (aF (aO dF)) aQ) (aG (zN (pv 1) (Dv rfl (jF (aZ (i:=2) nd rfl (Or.inl rfl)) (jF (aZ (i:=3) nd rfl (Or.inl rfl)) (jF (aZ (i:=4) nd rfl (Or.inl rfl)) zV))))) (aG (bI (PW.pt (gO (cP (bV (aJ P_ hr (aA (pv 3) aB)))) (iD (cP (bV (aJ P_ hr (aA (pv 4) aB))))))) (aF (aO dF)) aQ) (aG (bI (aV cG (pv 2) d7 (aW _)) (aF (aO (lE (b8 cO aC (pv 0) rfl) (lE (b8 cG (pv 3) aC (aW _)) (m7 (b8 cG (pv 4) aC (aW _))))))) aQ) (aG (bI (PW.pt (gO (aV cO aC (pv 0) rfl) (iD (aV cO (pv 3) (pv 0) rfl)))) (aF (aO dF)) aQ) (aG (bI (aV cG (pv 2) d7 (aW _)) (aF (aO (lE (b8 cO (pv 4) (pv 0) rfl) (lE (b8 cG (aN gB (pv 4) (pv 3)) (pv 4) (aW _)) (m7 (b8 cG (aJ k_ hr (aA (pv 3) aB)) (aN cB (aJ k_ hr (aA (pv 4) aB)) aC) (aW _))))))) aQ) (aG (bI (PW.pt (gO (aV tE (pv 2) d7 (aW _)) (gO (bV (aJ z_ hr (aA (pv 0) aB))) (gO (aV cO (pv 4) (pv 0) rfl) (iD (aV tE (aJ k_ hr (aA (pv 3) aB)) (aN cB (aJ k_ hr (aA (pv 4) aB)) aC) (aW _))))))) (aF (aO dF)) aQ) (aF (aO (xW (aJ K_ hr (aA (pv 0) (aA (pv 3) (aA (pv 4) aB)))))))))))))),?_⟩;refine ⟨_,rfl,_,_,_,rfl,.tup hr1,gQ _,_,rfl,?_⟩;refine dC ?_;refine ⟨_,rfl,r,_,rfl,.inr (dG.of hr1),rfl,_,rfl,?_⟩;refine dC ?_;refine ⟨_,rfl,r,_,_,_,rfl,rfl,dG.of hr1,rfl,_,_,_,rfl,.str st,gQ _,_,rfl,?_⟩;refine dC ?_;refine ⟨_,rfl,r,_,rfl,dG.of hr1,rfl,_,_,rfl,_,_,rfl,_,_,rfl,rfl,?_⟩;refine ⟨_,rfl,o,rfl,_,rfl,?_⟩;refine dC ?_;refine ⟨_,rfl,e,rfl,_,rfl,?_⟩;refine dC ?_;cases sh with
 | empty h =>
  refine ⟨_,rfl,rfl,_,rfl,?_⟩;refine lB rfl ?_;refine ⟨_,rfl,a,_,rfl,.inl (bL.of ha),rfl,dI _,?_⟩;rw [h];refine ⟨_,rfl,?_⟩;refine gG ?_;refine ⟨_,rfl,rfl,_,rfl,?_⟩;refine gG ?_;exact ⟨_,rfl,rfl,q⟩
 | less h0 ho he ba o0 o1 e0 e1 sz =>
  refine ⟨_,rfl,rfl,_,rfl,?_⟩;refine eQ rfl ?_;refine ⟨_,rfl,a,_,rfl,.inl (bL.of ha),rfl,dI _,_,rfl,?_⟩;refine eQ (by rw [h0]; rfl) ?_;refine ⟨_,rfl,_,rfl,a,_,rfl,.inl (bL.of ha),rfl,dI _,_,rfl,?_⟩;refine eQ (by rw [ho]; rfl) ?_;refine ⟨_,rfl,rfl,_,rfl,?_⟩;refine lB rfl ?_;refine ⟨_,rfl,_,rfl,a,_,rfl,.inl (bL.of ha),rfl,dI _,?_⟩;rw [he];refine ⟨_,rfl,?_⟩;refine gG ?_;refine ⟨_,rfl,_,rfl,_,_,rfl,rfl,_,rfl,rfl,_,rfl,?_⟩;refine lB (decide_eq_true (congrArg V.int ba)) ?_;refine ⟨_,rfl,o,rfl,o0,o1,_,rfl,e,rfl,e0,e1,_,_,rfl,rfl,rfl,?_⟩;have t:decide (V.int (((dD o).length:Nat):Int)=V.int ((((dD e).length:Nat):Int)+1))=true:=decide_eq_true (by rw [sz]; push_cast; rfl);rw [t];exact q
 | more h0 ho ls he o0 o1 e0 e1 sz gr =>
  have t:(!decide (V.int (((dD o).length:Nat):Int)=V.int ((((dD e).length:Nat):Int)+1)))=false:=by rw [decide_eq_true (by rw [sz]; push_cast; rfl)]; rfl
  refine ⟨_,rfl,rfl,_,rfl,?_⟩;refine eQ rfl ?_;refine ⟨_,rfl,a,_,rfl,.inl (bL.of ha),rfl,dI _,_,rfl,?_⟩;refine eQ (by rw [h0]; rfl) ?_;refine ⟨_,rfl,_,rfl,a,_,rfl,.inl (bL.of ha),rfl,dI _,_,rfl,?_⟩;refine eQ (by rw [ho]; rfl) ?_;refine ⟨_,rfl,rfl,_,rfl,?_⟩;refine eQ rfl ?_;refine ⟨_,rfl,rfl,_,rfl,?_⟩;refine eQ rfl ?_;refine ⟨_,rfl,a,ss,rfl,ha,?_⟩;rw [ls];refine ⟨_,rfl,?_⟩;refine dC ?_;refine ⟨_,rfl,_,rfl,a,_,rfl,.inl (bL.of ha),rfl,dI _,_,rfl,?_⟩;refine eQ (by rw [he]; rfl) ?_;refine ⟨_,rfl,o,rfl,o0,o1,_,rfl,e,rfl,e0,e1,_,_,rfl,rfl,rfl,_,rfl,?_⟩;refine eQ t ?_;refine ⟨_,rfl,_,rfl,_,rfl,a,ss,o,e,rfl,ha,e0,e1,?_⟩;rw [gr];exact ⟨_,rfl,q⟩
theorem Tu {n:Nat}(h:n ≤ 1000):n ≤ sizeLine:=ZP (aX h)
theorem Ej:∀ (ks:List Int) (i:Nat),(ks.map V.int).eraseIdx i=(ks.eraseIdx i).map V.int
 | [],_=>rfl
 | _::_,0=>rfl
 | k::ks,i+1=>by show V.int k::(ks.map V.int).eraseIdx i=V.int k::(ks.eraseIdx i).map V.int; rw [Ej ks i]
theorem QJ {ks:List Int}{i:Nat}{x:V}(h:i<ks.length):(Is ks)[i]? = some (V.int (ks.getD i 0)):=by rw [Y7,YF h]; simp [h]
theorem pY {n:Nat}{f:Addr}{fd:FuncData}(F:dY K "_law_listed" "_law_listed" (top 35) f fd){j_:Addr}{i_:FuncData}(cC:eV P w K mg base n "_law_cell_at" ["_law_script","_law_k"] (Dn K) j_ i_){Vy:Addr}{Vs:FuncData}(Vz:eV P w K mg base n "_law_forest" ["_law_pairs","_law_kept"] vZ Vy Vs){W5:Addr}{V_:FuncData}(W6:eV P w K mg base n "_law_under" ["_law_some","_law_many_here"] z7 W5 V_){Wq:Addr}{W7:FuncData}(Vh:eV P w K mg base n "_law_many" ["_law_script","_law_first","_law_most"] (Lp K) Wq W7){Wr:Addr}{W8:FuncData}(Ws:eV P w K mg base n "_law_bits" ["_law_script","_law_k"] (Dd K) Wr W8)(h_:mg "len" = none)(b_:mg "range" = none)(O_:mg "max" = none):bD P w K mg base dW (n+1) f fd ["_law_script","_law_way","_law_many_here"] (BX K):=by
 refine F.ok iZ (fun vs H Q E h=>?_) (fun cdv A outer s H vs Q E hr h=>?_)
 ·obtain ⟨a,ns,w,m,rfl,_⟩:=h
  rfl
 obtain ⟨a,ns,w,m,rfl,hS,m1,m6,q⟩:=h;have nd:=iZ.nd;refine ⟨_,(aG (bI (PW.pt (lC (aV cG (pv 1) aC (aW _)) (jN (aV Du (aN cJ (aJ cC hr (aA (pv 0) (aA aC aB))) aC) aC (aW _))))) (aF (aO (aJ Ws hr (aA (pv 0) (aA aC aB))))) aQ) (aG (bI (aV cG (pv 1) aC (aW _)) (aF (aO (eY (ls:=["_law_k"]) (M:=["_law_script","_law_way","_law_many_here","_law_some","_law_pairs","_law_found"]) rfl (cA.of (by rfl)) (NL.of (by rfl)) (bC rfl b_ (aA (aR (jP rfl) rfl O_ uZ (aA aC (aA (aJ Vh hr (aA (pv 0) (aA aC (aA aC aB)))) aB))) aB)) (fun _ _ _ _=>⟨(aZ (i:=0) (dU (by rfl)) rfl (Or.inl rfl)),dB,(aN cJ (aJ cC hr (aA (pv 1) (aA (aN cB aC (pv 0)) aB))) aC)⟩)))) aQ) (aG (bI (PW.pt (gO (aV cG (pv 1) aC (aW _)) (iD (aV cG (pv 1) aC (aW _))))) (aG (fB (i:=3) (ls:=["_law_k"]) (M:=["_law_script","_law_way","_law_many_here","_law_some","_law_pairs","_law_found"]) rfl (cA.of (by rfl)) (NL.of (by rfl)) nd rfl (Or.inl rfl) (bC rfl b_ (aA (aR (jP rfl) rfl O_ uZ (aA aC (aA (aJ Vh hr (aA (pv 0) (aA aC (aA aC aB)))) aB))) aB)) (fun _ _ _ _=>⟨(aZ (i:=0) (dU (by rfl)) rfl (Or.inl rfl)),dB,(aN cJ (aJ cC hr (aA (pv 1) (aA (aN cB aC (pv 0)) aB))) (aN fK aC (pv 3)))⟩)) (aF (aO (aN Jh (aJ W6 hr (aA (pv 3) (aA (pv 2) aB))) (eX (aA (aN jE aC (aN fK aC (pv 2))) aB)))))) aQ) (aG (bU (i:=4) nd rfl (Or.inr rfl) (eY (ls:=["_law_k"]) (M:=["_law_script","_law_way","_law_many_here","_law_some","_law_pairs","_law_found"]) rfl (cA.of (by rfl)) (NL.of (by rfl)) (bC rfl b_ (aA (pv 2) aB)) (fun _ _ _ _=>⟨(aZ (i:=0) (dU (by rfl)) rfl (Or.inl rfl)),dB,(fZ (aA (aN cJ (aJ cC hr (aA (pv 1) (aA (aN cB aC (pv 0)) aB))) aC) (aA (aN cJ (aJ cC hr (aA (pv 1) (aA (aN cB aC (pv 0)) aB))) aC) aB)))⟩))) (aG (fB (i:=5) (ls:=["_law_kept"]) (M:=["_law_script","_law_way","_law_many_here","_law_some","_law_pairs","_law_found"]) rfl (cA.of (by rfl)) (NL.of (by rfl)) nd rfl (Or.inl rfl) (bC rfl b_ (aA (aN fK aC (pv 2)) aB)) (fun _ _ _ _=>⟨(aZ (i:=0) (dU (by rfl)) rfl (Or.inl rfl)),(lL (bV (aJ Vz hr (aA (pv 5) (aA (pv 0) aB))))),(pv 0)⟩)) (aG (bI (aV cG (pv 1) aC (aW _)) (aF (pG (vV PySem.F.plainAttrs_list PySem.F.slot_list_append PySem.F.type_list_append jO (pv 5) (aA (aN jE aC (aN cJ (aN lN (aJ cC hr (aA (pv 0) (aA aC aB))) aC) aC)) aB)))) aQ) (aG (bI (PW.pt (lC (aV cG (pv 1) aC (aW _)) (jN (aV Du (aR bF rfl h_ dJ (aA (pv 5) aB)) aC (aW _))))) (aF (pG (vV PySem.F.plainAttrs_list PySem.F.slot_list_pop PySem.F.type_list_pop FN (pv 5) (aA (aN cJ (aN lN (aJ cC hr (aA (pv 0) (aA aC aB))) aC) (aR bF rfl h_ dJ (aA (pv 5) aB))) aB)))) aQ) (aF (aO (pv 5)))))))))),?_⟩;obtain ⟨N,hN⟩:∃ N:Nat,N=2^m:=⟨_,rfl⟩
 have GF:N ≤ 64:=by rw [hN]; exact Y5 (Z1 (by decide) m6) (by decide)
 have pp:0<N:=by rw [hN]; exact aAl (by decide)
 have pe:(1:Int)*2^((m:Int)).toNat=(N:Int):=by rw [aAw,ZC,hN]; push_cast; rfl
 refine ⟨_,rfl,rfl,_,rfl,?_⟩
 by_cases z2:w=2
 ·refine lB (decide_eq_true (congrArg V.int z2)) ?_;refine ⟨_,rfl,a,ns,2,rfl,hS,by decide,by decide,fun j j0 j1=>?_⟩;refine ⟨_,_,rfl,rfl,(by show (0:Int)<3; decide),_,_,rfl,rfl,_,rfl,?_⟩;refine o8 (fun _=>?_) (fun _=>?_)
  ·exact ⟨_,rfl,a,ns,3,rfl,hS,by decide,fun r H1 ks s1 hrn hr1 g=>q r H1 ks s1 hr1 ⟨g.l1,by have:=g.l64; omega,g.k⟩⟩
  refine ⟨_,rfl,rfl,_,rfl,?_⟩;refine lB (decide_eq_true (congrArg V.int z2)) ?_;refine ⟨_,rfl,a,ns,3,12,rfl,hS,by decide,by decide,by decide,fun y y0 y1=>?_⟩;refine ⟨1,y,rfl,?_⟩;obtain ⟨M,eM,hM1,hM2⟩:∃ M:Int,(if y > 1 then y else 1)=M∧1 ≤ M∧M ≤ 12:=⟨_,rfl,by split <;> omega,by split <;> omega⟩
  refine ⟨M,congrArg (fun v=>[V.int v]) eM,by omega,by omega,fun D hD=>?_⟩;refine bT (n:=M.toNat) (fun i τ H'=>∃ v0 ss,τ = [v0,some (.ref a),some (.int w),some (.int (m:Int)),none,none,none]∧bB H H'∧H' D=some (.lst (Is ss))∧(∀ s∈ss,0 ≤ s∧s<64)∧ss.length=i) ⟨none,[],rfl,aH hD _,aD,(fun _ h=>nomatch h),rfl⟩ ?turn1 ?done1
  case turn1 =>
   rintro i j τ H' hm hi ⟨v0,ss,rfl,hs,hD',sr,sl⟩;refine mJ ?_;refine ⟨_,rfl,_,rfl,_,_,rfl,rfl,a,ns,3+(0+(i:Int)),rfl,hs.seq hS,by omega,by omega,fun z z0 z1=>?_⟩;have y1:=Y4 z (show (64:Int)≠0 by decide);have y2:=YT z (show (0:Int)<64 by decide);refine ⟨_,_,rfl,rfl,(by show (0:Int)<64; decide),?_⟩;refine bG hm hi hD' (by rw [aM]; exact aX (by omega)) ⟨_,ss++[z%64],rfl,hs.upd_new hD _,by rw [aD,cH],?_,by rw [YQ,sl]; rfl⟩;intro x hx;rcases Y9.mp hx with u | u
   ·exact sr x u
   ·rw [YK.mp u];omega
  case done1 =>
  rintro τ H1 ⟨v0,ss,rfl,s1,hD1,sr,sl⟩;exact q D H1 ss s1 hD1 ⟨by omega,by omega,fun x hx=>by have:=sr x hx; omega⟩
 refine eQ (decide_eq_false fun z=>z2 (by injection z)) ?_;refine eQ rfl ?_;refine ⟨_,rfl,rfl,_,rfl,?_⟩;refine eQ (decide_eq_false fun z=>z2 (by injection z)) ?_;refine ⟨_,rfl,rfl,_,rfl,?_⟩;refine o8 (fun _=>?_) (fun _=>?_)
 ·refine lB rfl ?_;refine ⟨_,rfl,a,ns,3,8,rfl,hS,by decide,by decide,by decide,fun y y0 y1=>?_⟩;refine ⟨1,y,rfl,?_⟩;obtain ⟨M,eM,hM1,hM2⟩:∃ M:Int,(if y > 1 then y else 1)=M∧1 ≤ M∧M ≤ 8:=⟨_,rfl,by split <;> omega,by split <;> omega⟩
  refine ⟨M,congrArg (fun v=>[V.int v]) eM,by omega,by omega,fun D hD=>?_⟩;refine bT (n:=M.toNat) (fun i τ H'=>∃ v0 ss,τ = [v0,some (.ref a),some (.int w),some (.int (m:Int)),none,none,none]∧bB H H'∧H' D=some (.lst (Is ss))∧(∀ s∈ss,0 ≤ s∧s<64)∧ss.length=i) ⟨none,[],rfl,aH hD _,aD,(fun _ h=>nomatch h),rfl⟩ ?turn3 ?done3
  case turn3 =>
   rintro i j τ H' hm hi ⟨v0,ss,rfl,hs,hD',sr,sl⟩;refine mJ ?_;refine ⟨_,rfl,_,rfl,_,_,rfl,rfl,a,ns,3+(0+(i:Int)),rfl,hs.seq hS,by omega,by omega,fun z z0 z1=>?_⟩;have y1:=Y4 z (show (N:Int)≠0 by omega);have y2:=YT z (show (0:Int)<(N:Int) by omega);refine ⟨_,rfl,_,_,rfl,rfl,⟨by omega,by omega,by decide⟩,_,_,rfl,rfl,(by show (0:Int)<1*2^((m:Int)).toNat; rw [pe]; omega),?_⟩;refine bG hm hi hD' (by rw [aM]; exact aX (by omega)) ⟨_,ss++[z%(1*2^((m:Int)).toNat)],rfl,hs.upd_new hD _,by rw [aD,cH],?_,by rw [YQ,sl]; rfl⟩;intro x hx;rcases Y9.mp hx with u | u
   ·exact sr x u
   ·rw [YK.mp u,pe];omega
  case done3 =>
  rintro τ H1 ⟨v0,ss,rfl,s1,hD1,sr,sl⟩;refine ⟨_,rfl,_,rfl,D,ss,m,rfl,hD1,(fun z=>by rw [z] at sl; have:0=M.toNat:=sl; omega),by omega,sr,m6,fun r H2 ks s2 _ hr2 pt=>?_⟩;rw [← hN] at pt;have kl:=pt.l;refine ⟨_,rfl,_,_,rfl,rfl,⟨by omega,by omega,by decide⟩,_,_,rfl,rfl,Oj,fun l hl=>?_⟩;have n3:=aH hl (.lst [V.int (64-1*2^((m:Int)).toNat)]);refine ⟨r,l,_,_,rfl,rfl,n3 _ _ hr2,aD,by rw [aM]; exact Tu (show ks.length+1 ≤ 1000 by omega),fun t ht=>?_⟩;have n4:=aH ht (.lst (Is ks++[V.int (64-1*2^((m:Int)).toNat)]));refine q t _ (ks++[64-1*2^((m:Int)).toNat]) ((s1.trans s2).trans (n3.trans n4)) (by rw [aD,cH]) ⟨by rw [YQ]; show 1 ≤ ks.length+1; omega,by rw [YQ]; show ks.length+1 ≤ 100; omega,fun x hx=>?_⟩;rcases Y9.mp hx with u | u
  ·have:=pt.r x u;omega
  ·rw [YK.mp u,pe];omega
 refine ⟨_,rfl,rfl,_,rfl,?_⟩;refine o8 (fun _=>?_) (fun _=>?_)
 ·skip
  refine ⟨_,rfl,a,ns,3,8,rfl,hS,by decide,by decide,by decide,fun y y0 y1=>?_⟩;refine ⟨1,y,rfl,?_⟩;obtain ⟨M,eM,hM1,hM2⟩:∃ M:Int,(if y > 1 then y else 1)=M∧1 ≤ M∧M ≤ 8:=⟨_,rfl,by split <;> omega,by split <;> omega⟩
  refine ⟨M,congrArg (fun v=>[V.int v]) eM,by omega,by omega,fun D hD=>?_⟩;refine bT (n:=M.toNat) (fun i τ H'=>∃ v0 ss,τ = [v0,some (.ref a),some (.int w),some (.int (m:Int)),none,none,none]∧bB H H'∧H' D=some (.lst (Is ss))∧(∀ s∈ss,0 ≤ s∧s<64)∧ss.length=i) ⟨none,[],rfl,aH hD _,aD,(fun _ h=>nomatch h),rfl⟩ ?turn4 ?done4
  case turn4 =>
   rintro i j τ H' hm hi ⟨v0,ss,rfl,hs,hD',sr,sl⟩;refine mJ ?_;refine ⟨_,rfl,_,rfl,_,_,rfl,rfl,a,ns,3+(0+(i:Int)),rfl,hs.seq hS,by omega,by omega,fun z z0 z1=>?_⟩;have y1:=Y4 z (show (N:Int)≠0 by omega);have y2:=YT z (show (0:Int)<(N:Int) by omega);refine ⟨_,rfl,_,_,rfl,rfl,⟨by omega,by omega,by decide⟩,_,_,rfl,rfl,(by show (0:Int)<1*2^((m:Int)).toNat; rw [pe]; omega),?_⟩;refine bG hm hi hD' (by rw [aM]; exact aX (by omega)) ⟨_,ss++[z%(1*2^((m:Int)).toNat)],rfl,hs.upd_new hD _,by rw [aD,cH],?_,by rw [YQ,sl]; rfl⟩;intro x hx;rcases Y9.mp hx with u | u
   ·exact sr x u
   ·rw [YK.mp u,pe];omega
  case done4 =>
  rintro τ H1 ⟨v0,ss,rfl,s1,hD1,sr,sl⟩;refine ⟨_,rfl,_,rfl,D,ss,m,rfl,hD1,(fun z=>by rw [z] at sl; have:0=M.toNat:=sl; omega),by omega,sr,m6,fun r H2 ks s2 _ hr2 pt=>?_⟩;rw [← hN] at pt;have kl:=pt.l;refine ⟨_,rfl,_,_,rfl,rfl,⟨by omega,by omega,by decide⟩,_,_,rfl,rfl,Oj,fun l hl=>?_⟩;have n3:=aH hl (.lst [V.int (64-1*2^((m:Int)).toNat)]);refine ⟨r,l,_,_,rfl,rfl,n3 _ _ hr2,aD,by rw [aM]; exact Tu (show ks.length+1 ≤ 1000 by omega),fun t ht=>?_⟩;have n4:=aH ht (.lst (Is ks++[V.int (64-1*2^((m:Int)).toNat)]));refine q t _ (ks++[64-1*2^((m:Int)).toNat]) ((s1.trans s2).trans (n3.trans n4)) (by rw [aD,cH]) ⟨by rw [YQ]; show 1 ≤ ks.length+1; omega,by rw [YQ]; show ks.length+1 ≤ 100; omega,fun x hx=>?_⟩;rcases Y9.mp hx with u | u
  ·have:=pt.r x u;omega
  ·rw [YK.mp u,pe];omega
 refine ⟨_,rfl,(m:Int),rfl,by omega,by omega,fun D hD=>?_⟩;refine bT (n:=(m:Int).toNat) (fun i τ H'=>∃ v0 qs,τ = [v0,some (.ref a),some (.int w),some (.int (m:Int)),none,none,none]∧bB H H'∧Fv H' D qs∧qs.length=i) ⟨none,[],rfl,aH hD _,⟨aD,fun _ h=>nomatch h⟩,rfl⟩ ?turn5 ?done5
 case turn5 =>
  rintro i j τ H' hm hi ⟨v0,qs,rfl,hs,pr,ql⟩;refine mJ ?_;refine ⟨_,rfl,_,rfl,_,_,rfl,rfl,a,ns,3+(0+(i:Int)),rfl,hs.seq hS,by omega,by omega,fun z z0 z1=>?_⟩;have y1:=Y4 z (show (4:Int)≠0 by decide);have y2:=YT z (show (0:Int)<4 by decide);refine ⟨_,_,rfl,rfl,(by show (0:Int)<4; decide),?_⟩;refine ⟨_,rfl,_,rfl,_,_,rfl,rfl,a,ns,9+(0+(i:Int)),rfl,hs.seq hS,by omega,by omega,fun u u0 u1=>?_⟩;have x1:=Y4 u (show (4:Int)≠0 by decide);have x2:=YT u (show (0:Int)<4 by decide);refine ⟨_,_,rfl,rfl,(by show (0:Int)<4; decide),Fw,fun p hp=>?_⟩;have n1:=aH hp (.tup [V.int (z%4),V.int (u%4)]);have pr1:=pr.same n1;refine bG hm hi pr1.1 (by rw [YH]; exact aX (by omega)) ⟨_,qs++[p],rfl,(hs.trans n1).upd_new hD _,⟨?_,fun q1 hq1=>?_⟩,by rw [YQ,ql]; rfl⟩
  ·rw [aD,Yj]
   rfl
  ·rcases Y9.mp hq1 with t | t
   ·obtain ⟨c,d,e1,e2⟩:=pr1.2 q1 t;exact ⟨c,d,by rw [aP (Fg e1 pr1.1 fun z=>nomatch z)]; exact e1,e2⟩
   ·rw [YK.mp t];exact ⟨z%4,u%4,by rw [aP (Fg aD pr1.1 fun z=>nomatch z)]; exact aD,y1,y2,x1,x2⟩
 case done5 =>
 rintro τ H1 ⟨v0,qs,rfl,s1,pr,ql⟩;rw [ZC] at ql;refine ⟨_,rfl,_,_,rfl,rfl,⟨by omega,by omega,by decide⟩,(N:Int),congrArg (fun v=>[V.int v]) pe,by omega,by omega,fun F hF=>?_⟩;refine bT (n:=(N:Int).toNat) (fun i τ H'=>∃ v0 ks,τ = [v0,some (.ref a),some (.int w),some (.int (m:Int)),none,some (.ref D),none]∧bB H1 H'∧H' F=some (.lst (Is ks))∧Part i ks) ⟨none,[],rfl,aH hF _,aD,Part.nil⟩ ?turn6 ?done6
 case turn6 =>
  rintro i j τ H' hm hi ⟨v0,ks,rfl,hs,hF',pt⟩;refine ⟨_,rfl,_,rfl,D,qs,0+(i:Int),rfl,pr.same hs,by omega,fun b H2 s2 hb0'=>?_⟩;refine ⟨_,rfl,?_⟩;have hF2:=s2 _ _ hF';cases b with
  | false =>
   refine eQ rfl ?_;exact fD hm hi ⟨_,ks,rfl,hs.trans s2,hF2,pt.skip fun z=>by have h:=hb0' (by rw [z]; rfl); cases h⟩
  | true =>
   refine lB rfl ?_;refine ⟨_,rfl,?_⟩;exact bG hm hi hF2 (by rw [aM]; exact aX (Y5 pt.l (by omega))) ⟨_,ks++[0+(i:Int)],rfl,(hs.trans s2).upd_new hF _,by rw [aD,cH],pt.snoc⟩
 case done6 =>
 rintro τ H2 ⟨v1,ks,rfl,s2,hF2,pt⟩;rw [ZC] at pt;have kr:∀ x∈ks,0 ≤ x∧x ≤ 63:=fun x hx=>by have:=pt.r x hx; omega
 have kl:=pt.l;have k1:1 ≤ ks.length:=aAn.mpr (List.ne_nil_of_mem (pt.z pp));have mW:=s1.trans s2;have Fn:=s1.free hF;refine ⟨_,rfl,rfl,_,rfl,?_⟩;refine o8 (fun c5=>?_) (fun c5=>?_)
 ·refine ⟨_,rfl,.inl ⟨rfl,_,bL.of hF2⟩,_,rfl,a,ns,2,rfl,mW.seq hS,by decide,by decide,fun z z0 z1=>?_⟩;have y1:=Y4 (z/7) (show (5:Int)≠0 by decide);have y2:=YT (z/7) (show (0:Int)<5 by decide);refine ⟨_,_,rfl,rfl,⟨by decide,by decide⟩,_,_,rfl,rfl,(by show (0:Int)<5; decide),_,_,rfl,rfl,F,_,_,rfl,rfl,hF2,by rw [aM]; exact aX (by omega),?_⟩;have hF3:bQ H2 F (.lst (Is ks++[V.int (63-z/7%5)])) F=some (.lst (Is (ks++[63-z/7%5]))):=by rw [aD,cH]
  have s3:bB H (bQ H2 F (.lst (Is ks++[V.int (63-z/7%5)]))):=mW.upd_new Fn _;have w5:w=5:=by have:=of_decide_eq_true c5; injection this
  refine ⟨_,rfl,rfl,_,rfl,?_⟩;refine eQ (decide_eq_false fun z=>by injection z; omega) ?_;refine eQ rfl ?_;refine ⟨_,rfl,?_⟩;refine q F _ _ s3 hF3 ⟨by rw [YQ]; omega,by rw [YQ]; show ks.length+1 ≤ 100; omega,fun x hx=>?_⟩;rcases Y9.mp hx with u | u
  ·exact kr x u
  ·rw [YK.mp u];omega
 refine ⟨_,rfl,rfl,_,rfl,?_⟩
 by_cases z6:w=6
 ·refine lB (decide_eq_true (congrArg V.int z6)) ?_;refine ⟨_,rfl,F,_,rfl,.inl (bL.of hF2),_,_,rfl,rfl,_,rfl,?_⟩;have kl2:=aM ks;refine o8 (fun c=>?_) (fun _=>?_)
  ·have c':(1:Int)<(((Is ks).length:Nat):Int):=of_decide_eq_true c;refine ⟨_,rfl,.inl ⟨rfl,_,bL.of hF2⟩,_,rfl,a,ns,2,rfl,mW.seq hS,by decide,by decide,fun z z0 z1=>?_⟩;refine ⟨_,_,rfl,rfl,⟨by decide,by decide⟩,_,rfl,F,_,rfl,.inl (bL.of hF2),_,_,rfl,rfl,(by show (0:Int)<(((Is ks).length:Nat):Int); omega),?_⟩;have g1:=Y4 (z/7) (show (((Is ks).length:Nat):Int)≠0 by omega);have g2:=YT (z/7) (show (0:Int)<(((Is ks).length:Nat):Int) by omega);generalize hg:z/7%(((Is ks).length:Nat):Int)=g at g1 g2;refine ⟨F,_,g,g.toNat,V.int (ks.getD g.toNat 0),rfl,congrArg (fun v=>[V.int v]) hg,hF2,by omega,by omega,?_,QJ (x:=V.non) (by omega),?_⟩
   ·unfold seqIndex?;have g3:g<(ks.length:Int):=by omega
    simp [show ¬ g<0 by omega,show 0 ≤ g by omega,g3]
   ·have er:(Is ks).eraseIdx g.toNat=Is (ks.eraseIdx g.toNat):=by
     show (ks.map V.int).eraseIdx _=(ks.eraseIdx _).map V.int;exact Ej _ _
    have el:(ks.eraseIdx g.toNat).length=ks.length-1:=Zu (by omega);refine ⟨_,rfl,?_⟩;refine q F _ (ks.eraseIdx g.toNat) (mW.upd_new Fn _) (by rw [aD,er]) ⟨by omega,by omega,fun x hx=>kr x ((List.eraseIdx_sublist ks g.toNat).subset hx)⟩
  ·exact ⟨_,rfl,q F _ ks mW hF2 ⟨k1,by omega,kr⟩⟩
 refine eQ (decide_eq_false fun z=>z6 (by injection z)) ?_;refine eQ rfl ?_;exact ⟨_,rfl,q F _ ks mW hF2 ⟨k1,by omega,kr⟩⟩
theorem Dz:∀ {l m:List Int},l.Nodup →(∀ x∈l,x∈m) →l.length ≤ m.length
 | [],_,_,_=>Ym _
 | x::l,m,nd,sub=>by
  obtain ⟨n1,n2⟩:=Z4.mp nd;have hx:=sub x Yg;have hm:=aAy hx;have pos:0<m.length:=aAd hx;have:=Dz (m:=m.erase x) n2 fun y hy=>(aAO fun e=>n1 (by rw [← e]; exact hy)).mpr (sub y (Yb _ hy));rw [Y_];omega
theorem Hh {ks:List Int}(nd:ks.Nodup)(hk:∀ x∈ks,0 ≤ x∧x ≤ 63):ks.length ≤ 64:=by
 have sub:∀ x∈ks,x∈six 64:=fun x hx=>by
  have:=hk x hx;unfold six;exact ZG.mpr ⟨x.toNat,ZF.mpr (by omega),by omega⟩
 have e:(six 64).length=64:=by unfold six; rw [YH,Z2]
 by_cases h:ks.length ≤ 64
 ·exact h
 ·exact absurd (Dz nd sub) (by omega)
theorem vC {n:Nat}{f:Addr}{fd:FuncData}(F:dY K "_law_spec" "_law_spec" (top 36) f fd){j_:Addr}{i_:FuncData}(cC:eV P w K mg base n "_law_cell_at" ["_law_script","_law_k"] (Dn K) j_ i_){WD:Addr}{Vt:FuncData}(WF:eV P w K mg base n "_law_listed" ["_law_script","_law_way","_law_many_here"] (BX K) WD Vt)(l_:mg "tuple" = none)(b_:mg "range" = none)(F_:mg "sorted" = none)(WP:mg "set" = none):bD P w K mg base dW (n+1) f fd ["_law_script","_law_many_here"] (Ao K):=by
 refine F.ok lX (fun vs H Q E h=>?_) (fun cdv A outer s H vs Q E hr h=>?_)
 ·obtain ⟨a,ns,m,rfl,_⟩:=h
  rfl
 obtain ⟨a,ns,m,rfl,hS,m1,m6,q⟩:=h;have nd:=lX.nd;refine ⟨_,(aG (bU (i:=2) nd rfl (Or.inl rfl) (aN cJ (aJ cC hr (aA (pv 0) (aA aC aB))) aC)) (aG (bI (aV cG (pv 2) aC (aW _)) (aF (aO (fZ (aA d7 (aA (aN cJ (aJ cC hr (aA (pv 0) (aA aC aB))) aC) aB))))) aQ) (aG (bI (aV cG (pv 2) aC (aW _)) (aG (fB (i:=3) (ls:=["_law_k"]) (M:=["_law_script","_law_many_here","_law_way","_law_groups","_law_most"]) rfl (cA.of (by rfl)) (NL.of (by rfl)) nd rfl (Or.inl rfl) (bC rfl b_ (aA (aN cB aC (aN cJ (aJ cC hr (aA (pv 0) (aA aC aB))) aC)) aB)) (fun _ _ _ _=>⟨(aZ (i:=0) (dU (by rfl)) rfl (Or.inl rfl)),dB,(aN cJ (aJ cC hr (aA (pv 1) (aA (aN cB aC (pv 0)) aB))) aC)⟩)) (aG (fB (i:=4) (ls:=["_law_k"]) (M:=["_law_script","_law_many_here","_law_way","_law_groups","_law_most"]) rfl (cA.of (by rfl)) (NL.of (by rfl)) nd rfl (Or.inl rfl) (bC rfl b_ (aA aC aB)) (fun _ _ _ _=>⟨(aZ (i:=0) (dU (by rfl)) rfl (Or.inl rfl)),dB,(bJ (pX (K:=K) rfl) (eX (aA aC (aA aC (aA aC (aA aC (aA aC (aA aC (aA aC (aA aC aB))))))))) (aN cJ (aJ cC hr (aA (pv 1) (aA (aN cB aC (pv 0)) aB))) aC) (fun _ _=>rfl))⟩)) (aF (aO (fZ (aA d7 (aA (cM (cL (K:=K) rfl) rfl l_ fJ (aA (pv 3) aB)) (aA (cM (cL (K:=K) rfl) rfl l_ fJ (aA (pv 4) aB)) aB)))))))) aQ) (aF (aO (fZ (aA d7 (aA (cM (cL (K:=K) rfl) rfl l_ fJ (aA (aR (qU (w:=w) rfl rfl) rfl F_ rJ (aA (cM (yS (K:=K) (w:=w) rfl rfl rfl) rfl WP HQ (aA (aJ WF hr (aA (pv 0) (aA (pv 2) (aA (pv 1) aB)))) aB)) aB)) aB)) aB)))))))),?_⟩;refine ⟨_,rfl,a,ns,0,rfl,hS,by decide,by decide,fun w0 w1 w2=>?_⟩;have e1:=Y4 w0 (show (8:Int)≠0 by decide);have e2:=YT w0 (show (0:Int)<8 by decide);refine ⟨_,_,rfl,rfl,(by show (0:Int)<8; decide),?_⟩;refine ⟨_,rfl,rfl,_,rfl,?_⟩;refine o8 (fun _=>?_) (fun c0=>?_)
 ·refine ⟨_,rfl,a,ns,2,rfl,hS,by decide,by decide,fun j j0 j1=>?_⟩;have f1:=Y4 j (show (7:Int)≠0 by decide);have f2:=YT j (show (0:Int)<7 by decide);refine ⟨_,_,rfl,rfl,(by show (0:Int)<7; decide),Fw,fun r hr0=>?_⟩;exact q r _ (.few (j%7)) (aH hr0 _) aD (.few f1 (by omega))
 refine ⟨_,rfl,rfl,_,rfl,?_⟩;refine o8 (fun _=>?_) (fun c1=>?_)
 ·refine ⟨_,rfl,a,ns,2,rfl,hS,by decide,by decide,fun j j0 j1=>?_⟩;have f1:=Y4 j (show (6:Int)≠0 by decide);have f2:=YT j (show (0:Int)<6 by decide);refine ⟨_,_,rfl,rfl,(by show (0:Int)<6; decide),_,_,rfl,rfl,1+j%6,rfl,by omega,by omega,fun D hD=>?_⟩;refine bT (n:=(1+j%6).toNat) (fun i τ H'=>∃ v0 gs,τ = [v0,some (.ref a),some (.int (m:Int)),some (.int (w0%8)),none,none]∧bB H H'∧H' D=some (.lst (Is gs))∧(∀ x∈gs,0 ≤ x∧x ≤ 5)∧gs.length=i) ⟨none,[],rfl,aH hD _,aD,(fun _ h=>nomatch h),rfl⟩ ?turn1 ?done1
  case turn1 =>
   rintro i m' τ H' hm hi ⟨v0,gs,rfl,hs,hD',gr,gl⟩;refine mJ ?_;refine ⟨_,rfl,_,rfl,_,_,rfl,rfl,a,ns,3+(0+(i:Int)),rfl,hs.seq hS,by omega,by omega,fun z z0 z1=>?_⟩;have y1:=Y4 z (show (3:Int)≠0 by decide);have y2:=YT z (show (0:Int)<3 by decide);refine ⟨_,_,rfl,rfl,(by show (0:Int)<3; decide),?_⟩;refine bG hm hi hD' (by rw [aM]; exact aX (by omega)) ⟨_,gs++[z%3],rfl,hs.upd_new hD _,by rw [aD,cH],?_,by rw [YQ,gl]; rfl⟩;intro x hx;rcases Y9.mp hx with u | u
   ·exact gr x u
   ·rw [YK.mp u];omega
  case done1 =>
  rintro τ H1 ⟨v0,gs,rfl,s1,hD1,gr,gl⟩;refine ⟨6,rfl,by decide,by decide,fun D2 hD2=>?_⟩;refine bT (n:=(6:Int).toNat) (fun i τ H'=>∃ v0 ms,τ = [v0,some (.ref a),some (.int (m:Int)),some (.int (w0%8)),some (.ref D),none]∧bB H1 H'∧H' D2=some (.lst (Is ms))∧(∀ x∈ms,0 ≤ x∧x ≤ 6)∧ms.length=i) ⟨none,[],rfl,aH hD2 _,aD,(fun _ h=>nomatch h),rfl⟩ ?turn2 ?done2
  case turn2 =>
   rintro i m' τ H' hm hi ⟨v0,ms,rfl,hs,hD',gr2,gl2⟩;have hi6:i<6:=hi;refine mJ ?_;refine ⟨ZP (aX (show 8 ≤ 1000 by decide)),fun l hl=>?_⟩;have nl:=aH hl (.lst [V.int 0,V.int 1,V.int 1,V.int 1,V.int 2,V.int 2,V.int 3,V.int 6]);refine ⟨_,rfl,_,rfl,_,_,rfl,rfl,a,ns,9+(0+(i:Int)),rfl,((s1.trans hs).trans nl).seq hS,by omega,by omega,fun z z0 z1=>?_⟩;obtain ⟨y,hy,y1,y2⟩:=Uj z;refine ⟨_,_,rfl,rfl,(by show (0:Int)<8; decide),l,_,_,_,rfl,rfl,bL.of aD,hy,?_⟩;have hD3:=nl _ _ hD';refine bG hm hi hD3 (by rw [aM]; exact aX (by omega)) ⟨_,ms++[y],rfl,(hs.trans nl).upd_new hD2 _,by rw [aD,cH],?_,by rw [YQ,gl2]; rfl⟩;intro x hx;rcases Y9.mp hx with u | u
   ·exact gr2 x u
   ·rw [YK.mp u];exact ⟨y1,y2⟩
  case done2 =>
  rintro τ H2 ⟨v1,ms,rfl,s2,hD2',mr,ml⟩;have ml:ms.length=6:=ml;refine ⟨_,rfl,D,_,rfl,.inl ⟨bL.of (s2 _ _ hD1),fun g hg=>?_⟩⟩;have n3:=aH hg (.tup (Is gs));refine ⟨_,rfl,D2,_,rfl,.inl ⟨bL.of (n3 _ _ hD2'),fun m hm=>?_⟩⟩;have n4:=aH hm (.tup (Is ms));refine ⟨Oe,fun r hr0=>?_⟩;have n5:=aH hr0 (.tup [.str "groups",.ref g,.ref m]);exact q r _ (.groups gs ms) ((s1.trans s2).trans (n3.trans (n4.trans n5))) ⟨g,m,aD,(n4.trans n5) _ _ aD,n5 _ _ aD⟩ (.groups ⟨by omega,by omega,gr,ml,mr⟩)
 refine ⟨_,rfl,_,rfl,_,rfl,a,ns,w0%8,m,rfl,hS,m1,m6,fun r H1 ks s1 hr1 g=>?_⟩;refine ⟨r,ks,rfl,bL.of hr1,Zi (show ks.length+1 ≤ 101 by have:=g.l2; omega) (by decide),fun S hS1=>?_⟩;have n2:=aH hS1 (.ext (xB w S (vH ks)));have dl:(vH ks).length ≤ 64:=by
  refine Hh (mX ks) fun x hx=>g.k x ((uE ks x).mp hx)
 refine ⟨S,vH ks,rfl,aD,by omega,fun l ms hl pm so=>?_⟩;have n3:=aH hl (.lst (Is ms));refine ⟨l,_,rfl,.inl ⟨bL.of aD,fun t ht=>?_⟩⟩;have n4:=aH ht (.tup (Is ms));refine ⟨Fw,fun p hp=>?_⟩;have n5:=aH hp (.tup [.str "listed",.ref t]);have nd2:ms.Nodup:=pm.nodup_iff.mpr (mX ks);have mk:∀ x∈ms,0 ≤ x∧x ≤ 63:=fun x hx=>g.k x ((uE ks x).mp (pm.mem_iff.mp hx));have lt:=Gr so nd2;have m1':1 ≤ ms.length:=by
  have k1:=g.l1;obtain ⟨x,hx⟩:=List.exists_mem_of_length_pos (show 0<ks.length by omega);exact aAd (pm.mem_iff.mpr ((uE ks x).mpr hx))
 exact q p _ (.listed ms) (s1.trans (n2.trans (n3.trans (n4.trans n5)))) ⟨t,aD,n5 _ _ aD⟩ (.listed lt m1' (Ge lt mk) mk)
theorem uT {n:Nat}{f:Addr}{fd:FuncData}(F:dY K "_law_made" "_law_made" (top 37) f fd){p:vM}{iF:Addr}{iDF:FuncData}{kOF:Nat}(Xl:Mk K p.f iF)(Xm:bD P w K mg base dW kOF iF iDF ["self","count"] (IK p.f))(Xn:Binds K iDF ["self","count"] [])(WR:mg "Few" = some (.ref p.f))(Xf:kOF+1 ≤ n){iG:Addr}{iDG:FuncData}{kOG:Nat}(X5:Mk K p.g iG)(X6:bD P w K mg base dW kOG iG iDG ["self","groups","most"] (Ii p.g))(X7:Binds K iDG ["self","groups","most"] [])(G_:mg "Groups" = some (.ref p.g))(XN:kOG+1 ≤ n){iL:Addr}{iDL:FuncData}{kOL:Nat}(X8:Mk K p.l iL)(Xa:bD P w K mg base dW kOL iL iDL ["self","sets"] (Er p.l))(Xb:Binds K iDL ["self","sets"] [])(H_:mg "Listed" = some (.ref p.l))(XQ:kOL+1 ≤ n)(M_:mg "list" = none)(V8:mg "reversed" = none):bD P w K mg base dW (n+1) f fd ["_law_spec_here"] (BR p):=by
 refine F.ok mO (fun vs H Q E h=>?_) (fun cdv A outer s H vs Q E hr h=>?_)
 ·obtain ⟨r,S,rfl,_⟩:=h
  rfl
 obtain ⟨r,S,rfl,hS,ok,q⟩:=h;have nd:=mO.nd;refine ⟨_,(aG (bI (aV cG (bJ b7 (pv 0) aC (fun _ _=>rfl)) d7 (aW _)) (aF (aO (tX Xl Xm (hr.mono Xf) rfl WR Xn .nil qG (aA (bJ b7 (pv 0) aC (fun _ _=>rfl)) aB)))) aQ) (aG (bI (aV cG (bJ b7 (pv 0) aC (fun _ _=>rfl)) d7 (aW _)) (aF (aO (tX X5 X6 (hr.mono XN) rfl G_ X7 .nil qG (aA (cM (j7 (K:=K) rfl) rfl M_ pB (aA (bJ b7 (pv 0) aC (fun _ _=>rfl)) aB)) (aA (cM (j7 (K:=K) rfl) rfl M_ pB (aA (bJ b7 (pv 0) aC (fun _ _=>rfl)) aB)) aB))))) aQ) (aF (aO (tX X8 Xa (hr.mono XQ) rfl H_ Xb .nil qG (aA (w6 rfl rfl M_ rfl V8 (aA (bJ b7 (pv 0) aC (fun _ _=>rfl)) aB)) aB)))))),?_⟩;cases ok with
 | @few c h0 h6 =>
  have hr1:H r=some (.tup [.str "few",.int c]):=hS;refine ⟨_,rfl,r,_,_,_,rfl,rfl,dG.of hr1,rfl,rfl,_,rfl,lB rfl ?_⟩;refine ⟨_,rfl,r,_,_,_,rfl,rfl,dG.of hr1,rfl,?_⟩;intro y dy hy hdy ndy;have nO:bB H (bQ (bQ H dy (.own y)) y (.ins p.f dy [])):=(aH hdy (.own y)).trans (aH (by rw [aP (Ne.symm ndy)]; exact hy) _);refine ⟨y,dy,c,rfl,aD,h0,h6,rfl,?_⟩;exact q y _ (nO.upd_new hy _) ⟨dy,aD⟩
 | @groups gs ms g =>
  obtain ⟨ga,ma,hr1,hg,hm⟩:=hS;refine ⟨_,rfl,r,_,_,_,rfl,rfl,dG.of hr1,rfl,rfl,_,rfl,eQ rfl ?_⟩;refine ⟨_,rfl,r,_,_,_,rfl,rfl,dG.of hr1,rfl,rfl,_,rfl,lB rfl ?_⟩;refine ⟨_,rfl,r,_,_,_,rfl,rfl,dG.of hr1,rfl,ga,_,rfl,.inr (dG.of hg),fun l1 hl1=>?_⟩;have n1:=aH hl1 (.lst (Is gs));refine ⟨_,rfl,r,_,_,_,rfl,rfl,dG.of (n1 _ _ hr1),rfl,ma,_,rfl,.inr (dG.of (n1 _ _ hm)),fun l2 hl2=>?_⟩;have n2:=aH hl2 (.lst (Is ms));have g1:=n2 _ _ (aD (H:=H) (a:=l1) (o:=.lst (Is gs)));have g2:bQ (bQ H l1 (.lst (Is gs))) l2 (.lst (Is ms)) l2=some (.lst (Is ms)):=aD;have n12:=n1.trans n2;generalize bQ (bQ H l1 (.lst (Is gs))) l2 (.lst (Is ms))=H2 at n12 g1 g2 ⊢;intro y dy hy hdy ndy;have nO:bB H2 (bQ (bQ H2 dy (.own y)) y (.ins p.g dy [])):=(aH hdy (.own y)).trans (aH (by rw [aP (Ne.symm ndy)]; exact hy) _);refine ⟨y,dy,l1,l2,gs,ms,rfl,aD,nO _ _ g1,nO _ _ g2,g,fun gt mt H3 kp h1 h2 h3=>⟨rfl,?_⟩⟩;have s3:bB H2 H3:=fun a o e=>kp a o (bK e hy) (nO _ _ e);exact q y H3 (n12.trans s3) ⟨dy,gt,mt,h3,h1,h2⟩
 | @listed ks lt k1 l64 hk =>
  obtain ⟨ka,hr1,hkk⟩:=hS;have kl:(Is ks).length=ks.length:=aM ks;refine ⟨_,rfl,r,_,_,_,rfl,rfl,dG.of hr1,rfl,rfl,_,rfl,eQ rfl ?_⟩;refine ⟨_,rfl,r,_,_,_,rfl,rfl,dG.of hr1,rfl,rfl,_,rfl,eQ rfl ?_⟩;refine ⟨_,rfl,r,_,_,_,rfl,rfl,dG.of hr1,rfl,ka,_,rfl,dG.of hkk,by omega,fun l1 hl1=>?_⟩;have er:(Is ks).reverse=Is ks.reverse:=by unfold Is; rw [List.map_reverse]
  rw [er];have n1:=aH hl1 (.lst (Is ks.reverse));have g1:bQ H l1 (.lst (Is ks.reverse)) l1=some (.lst (Is ks.reverse)):=aD;generalize bQ H l1 (.lst (Is ks.reverse))=H2 at n1 g1 ⊢;intro y dy hy hdy ndy;have nO:bB H2 (bQ (bQ H2 dy (.own y)) y (.ins p.l dy [])):=(aH hdy (.own y)).trans (aH (by rw [aP (Ne.symm ndy)]; exact hy) _);have gd:HR ks.reverse:=by
   refine ⟨by rw [Zd]; exact k1,?_,aAL.mpr (lt.imp fun h=>(Int.ne_of_lt h).symm),fun x hx=>hk x (List.mem_reverse.mp hx)⟩
   by_cases z:ks.length<64
   ·exact .inl (by rw [Zd]; exact z)
   ·exact .inr ⟨by rw [Zd]; omega,aAL.mpr lt⟩
  refine ⟨y,dy,l1,ks.reverse,rfl,aD,nO _ _ g1,gd,fun kt ms H3 s3 pm so h3=>⟨rfl,?_⟩⟩;have e:ms=ks:=Bj (pm.trans (List.reverse_perm ks)) so lt;subst e;have hy3:=s3 _ _ (aD (H:=bQ H2 dy (.own y)) (a:=y) (o:=.ins p.l dy []));have nk:kt≠y:=fun z=>by rw [z,hy3] at h3; cases h3
  exact q y _ ((n1.trans (nO.trans s3)).upd_new (n1.free hy) _) ⟨_,ZD.refl _,lt.imp fun h=>Yw h,dy,kt,aD,by rw [aP nk]; exact h3⟩
theorem Bh {X:Cx}{e:Expr}{t u:TT}(h1:PT X e t)(h2:PT X e u):PT X e (fun σ H Q=>t σ H Q∨u σ H Q):=fun pins s σ H Q I h=>h.elim (h1 pins s σ H Q I) (h2 pins s σ H Q I)
theorem Gi {K:PySem.W.Frag}{H:Hp}{a b:Addr}{st:Str}{o e:Int}(h1:H a=some (.tup [.str st,.int o,.int e]))(h2:H b=some (.tup [.str st,.int o,.int e])):DE K H (0+1) (.ref a) (.ref b) true:=by
 have d:=DE.tup (K:=K) (n:=0) (fun _=>true) (dG.of h1) (dG.of h2) fun j x y hx hy=>by
  rcases j with _ | _ | _ | j
  ·cases hx; cases hy; have:=DE.str (K:=K) (H:=H) 0 st st; rwa [beq_self_eq_true] at this
  ·cases hx; cases hy; have:=DE.int (K:=K) (H:=H) 0 o o; rwa [beq_self_eq_true] at this
  ·cases hx; cases hy; have:=DE.int (K:=K) (H:=H) 0 e e; rwa [beq_self_eq_true] at this
  ·exact absurd hx (by simp)
 exact d
theorem J0 {K:PySem.W.Frag}{H:Hp}{a b:Addr}{o e:Int}(h1:H a=some (.tup [.int o,.int e]))(h2:H b=some (.tup [.int o,.int e])):DE K H (0+1) (.ref a) (.ref b) true:=by
 have d:=DE.tup (K:=K) (n:=0) (fun _=>true) (dG.of h1) (dG.of h2) fun j x y hx hy=>by
  rcases j with _ | _ | j
  ·cases hx; cases hy; have:=DE.int (K:=K) (H:=H) 0 o o; rwa [beq_self_eq_true] at this
  ·cases hx; cases hy; have:=DE.int (K:=K) (H:=H) 0 e e; rwa [beq_self_eq_true] at this
  ·exact absurd hx (by simp)
 exact d
theorem qO {n:Nat}{f:Addr}{fd:FuncData}(F:dY K "_law_right" "_law_right" (top 42) f fd){p:vM}(pt:Mr K p){u_ a_:Addr}{Vu:Addr}{Vj:FuncData}(Vv:uO P w K mg base n "need_pattern" ["pattern","many"] (Mz p K u_ a_) Vu Vj)(p_:mg "NoPattern" = some (.ref a_))(xt:O1 K a_)(xf:Fz K a_)(XF:PySem.W.findIn K (.ref a_) "one" = some none)(Vo:PySem.W.findIn K (.ref a_) "other" = some none)(exP:PySem.W.exmOne K (.ref a_) (.ref a_)=some true){XH:Addr}{W2:FuncData}(Vq:eV P w K mg base n "flaw" ["pattern","many"] (uU p) XH W2){W9:Addr}{WK:FuncData}(Wa:eV P w K mg base n "_law_stuck" ["_law_sets"] Hx W9 WK){x_:Addr}{t_:FuncData}(z_:eV P w K mg base n "_law_lessened" ["_law_sets"] Fd x_ t_){Wb:Addr}{WL:FuncData}(Wc:eV P w K mg base n "_law_shown" ["_law_sets","_law_found"] IV Wb WL){XJ:Addr}{Wt:FuncData}(XM:eV P w K mg base n "_law_may" ["_law_spec_here","_law_kept"] Ij XJ Wt)(b_:mg "range" = none):bD P w K mg base dW (n+1) f fd ["_law_pattern","_law_spec_here","_law_many_here"] (wX p):=by
 refine F.ok0 j9 (fun vs H Q E h=>?_) (fun cdv A outer s H vs Q E hr h=>?_)
 ·obtain ⟨x,r,S,m,rfl,_⟩:=h
  rfl
 obtain ⟨x,r,S,m,rfl,hX,hr1,hG,m1,m6,q⟩:=h;have nd:=j9.nd;have hu1:_+0+1<cLine:=Zi (aAR (by decide:1 ≤ 64) _) (dM.units hr);refine ⟨_,(gH (PS.zero (fB (i:=3) (ls:=["_law_kept"]) (M:=["_law_pattern","_law_spec_here","_law_many_here","_law_sets","_law_found","_law_told","e"]) rfl (cA.of (by rfl)) (NL.of (by rfl)) nd rfl (Or.inl rfl) (bC rfl b_ (aA (aN fK aC (pv 2)) aB)) (fun _ _ _ _=>⟨(aZ (i:=0) (dU (by rfl)) rfl (Or.inl rfl)),(lL (bV (aJ XM hr (aA (pv 2) (aA (pv 0) aB))))),(pv 0)⟩))) (gH (PS.zero (bU (i:=4) nd rfl (Or.inl rfl) (aJ Vq hr (aA (pv 0) (aA (pv 2) aB))))) (gH (PS.zero (bI (aV pU (pv 4) iI (aW _)) (aF (bI (PW.pt (gO (aV cO aC (pv 3) rfl) (gO (bV (aJ z_ hr (aA (pv 3) aB))) (iD (bV (aJ Wa hr (aA (pv 3) aB))))))) (aF (aO dF)) aQ)) (aF (bI (cP (bV (aJ Wc hr (aA (pv 3) (aA (pv 4) aB))))) (aF (aO dF)) aQ)))) (gH (PS.zero (bU (i:=5) nd rfl (Or.inl rfl) iI)) (gH (Dy (i:=6) rfl rfl rfl rfl nd rfl rfl rfl rfl p_ Vv hr rfl (fun _=>(aA (pv 0) (aA (pv 2) aB))) (fun a=>(aF (bU (i:=5) nd rfl (Or.inl rfl) (fZ (aA (Ho (pv 6) rfl) (aA (Ho (pv 6) rfl) aB))))))) (vK.zero (aG (bI (PW.pt (gO (Bh (aV tE (aJ Vq hr (aA (pv 0) (aA (pv 2) aB))) (pv 4) (aW _)) (aV (Jb (n:=0) hu1) (aJ Vq hr (aA (pv 0) (aA (pv 2) aB))) (pv 4) (aW _))) (iD (aV tE (b8 pU (pv 5) iI (aW _)) (b8 pU (pv 4) iI (aW _)) (aW _))))) (aF (aO dF)) aQ) (aF (aO (Ff (b8 pU (pv 4) iI (aW _)) (m7 (b8 (Fj (n:=0) hu1) (pv 5) (fZ (aA (bJ b7 (pv 4) aC (fun _ _=>rfl)) (aA (bJ b7 (pv 4) aC (fun _ _=>rfl)) aB))) (aW _))))))))))))),?_⟩;obtain ⟨N,hN⟩:∃ N:Nat,N=2^m:=⟨_,rfl⟩
 have GF:N ≤ 64:=by rw [hN]; exact Y5 (Z1 (by decide) m6) (by decide)
 have pp:0<N:=by rw [hN]; exact aAl (by decide)
 have pe:(1:Int)*2^((m:Int)).toNat=(N:Int):=by rw [aAw,ZC,hN]; push_cast; rfl
 refine ⟨_,rfl,_,_,rfl,rfl,⟨by omega,by omega,by decide⟩,(N:Int),congrArg (fun v=>[V.int v]) pe,by omega,by omega,fun D hD=>?_⟩;refine bT (n:=(N:Int).toNat) (fun i τ H'=>∃ v0,τ = [v0,some (.ref x),some (.ref r),some (.int (m:Int)),none,none,none,none]∧bB H H'∧H' D=some (.lst (Is (eU S i)))) ⟨none,rfl,aH hD _,aD⟩ ?turn ?done
 case turn =>
  rintro i j τ H' hm hi ⟨v0,rfl,hs,hD'⟩;have hi2:i<N:=by omega
  refine ⟨_,rfl,_,rfl,r,0+(i:Int),S,rfl,hr1.same hs,hG,by omega,by omega,fun H2 s2=>?_⟩;refine ⟨_,rfl,?_⟩;have hD2:=s2 _ _ hD';have es:eU S (i+1)=eU S i++(if eZ S (0+(i:Int))=true then [0+(i:Int)] else []):=by
   unfold eU;rw [fQ,ZR]
   congr 1
   rw [Z7]
   split <;> rfl
  cases b:eZ S (0+(i:Int)) with
  | false =>
   refine eQ rfl ?_;refine fD hm hi ⟨_,rfl,hs.trans s2,?_⟩;rw [es,b,if_neg (by decide),Yy];exact hD2
  | true =>
   refine lB rfl ?_;refine ⟨_,rfl,?_⟩;refine bG hm hi hD2 (by rw [aM]; exact aX (Y5 (Fq (by omega)).len (by decide))) ⟨_,rfl,(hs.trans s2).upd_new hD _,?_⟩;rw [aD,es,b,if_pos rfl,cH]
 case done =>
 rintro τ H1 ⟨v0,rfl,s1,hD1⟩;rw [ZC,hN] at hD1;have ok:=Fq (S:=S) (n:=2^m) (by omega);have hX1:=hX.same s1;cases fl:jB S m with
 | none =>
  obtain ⟨i0,ls,sk⟩:=Bm m6 fl;refine ⟨_,rfl,_,rfl,x,S,m,rfl,hX1,hG,m1,m6,fun _ H2 s2=>?_,fun st o e en=>by rw [fl] at en; cases en⟩;have hD2:=s2 _ _ hD1;refine ⟨_,rfl,rfl,_,rfl,?_⟩;refine lB rfl ?_;refine ⟨_,rfl,D,_,rfl,.inl (bL.of hD2),rfl,dI _,_,rfl,?_⟩;refine eQ (by rw [i0]; rfl) ?_;refine ⟨_,rfl,D,_,rfl,hD2,?_⟩;rw [ls];refine ⟨_,rfl,?_⟩;refine dC ?_;refine ⟨_,rfl,D,_,rfl,hD2,ok,?_⟩;rw [sk];refine ⟨_,rfl,?_⟩;refine dC ?_;have hX2:=hX1.same s2;refine ⟨_,rfl,_,rfl,.ref x,m,rfl,.inr ⟨x,S,rfl,hX2,hG,m1,m6,fun _ H3 s3=>?_,fun st o e en=>by rw [fl] at en; cases en⟩⟩;refine .inl ⟨_,rfl,_,rfl,x,S,m,rfl,hX2.same s3,hG,m1,m6,fun _ H4 s4=>?_,fun st o e en=>by rw [fl] at en; cases en⟩;refine ⟨_,rfl,rfl,_,rfl,?_⟩;refine eQ rfl ?_;refine ⟨_,rfl,rfl,_,rfl,rfl,rfl,_,rfl,?_⟩;refine eQ rfl ?_;refine ⟨_,rfl,rfl,_,rfl,?_⟩;refine gG ?_;exact q _ ((s1.trans s2).trans (s3.trans s4))
 | some v =>
  obtain ⟨st,o,e⟩:=v;have sh:=CT m6 fl;refine ⟨_,rfl,_,rfl,x,S,m,rfl,hX1,hG,m1,m6,(fun en=>by rw [fl] at en; cases en),fun st' o' e' en r2 H2 s2 hr2=>?_⟩;rw [fl] at en;cases en;have hD2:=s2 _ _ hD1;have hX2:=hX1.same s2;refine ⟨_,rfl,rfl,_,rfl,?_⟩;refine eQ rfl ?_;refine ⟨_,rfl,_,rfl,D,r2,_,st,o,e,rfl,hD2,hr2,sh,?_⟩;refine ⟨_,rfl,?_⟩;refine dC ?_;refine ⟨_,rfl,_,rfl,.ref x,m,rfl,.inr ⟨x,S,rfl,hX2,hG,m1,m6,(fun en=>by rw [fl] at en; cases en),fun st' o' e' en d H3 s3 np=>?_⟩⟩;rw [fl] at en;cases en;refine ⟨exP,fun a na=>?_⟩;have hd:H3 d=some (.ext (XD d [("one",.int o),("other",.int e)])):=np;have n4:=aH na (.ext (yF a (.ref a_) (some d)));have ha4:bQ H3 a (.ext (yF a (.ref a_) (some d))) a=some (.ext (yN a (.ref a_) d)):=aD;have hd4:=n4 _ _ hd;generalize bQ H3 a (.ext (yF a (.ref a_) (some d)))=H4 at ha4 hd4 n4 ⊢;refine ⟨_,rfl,a,a_,d,_,.int o,rfl,ha4,hd4,xt,xf,XF,rfl,_,rfl,a,a_,d,_,.int e,rfl,ha4,hd4,xt,xf,Vo,rfl,Fw,fun t ht=>?_⟩;have n5:=aH ht (.tup [V.int o,V.int e]);have s35:=s3.trans (n4.trans n5);have ht5:bQ H4 t (.tup [V.int o,V.int e]) t=some (.tup [V.int o,V.int e]):=aD;generalize bQ H4 t (.tup [V.int o,V.int e])=H5 at ht5 s35 ⊢;refine .inr ⟨_,rfl,_,rfl,x,S,m,rfl,hX2.same s35,hG,m1,m6,(fun en=>by rw [fl] at en; cases en),fun st' o' e' en r6 H6 s6 hr6=>?_⟩;rw [fl] at en;cases en;have hr26:=(s35.trans s6) _ _ hr2;refine ⟨_,rfl,r6,r2,true,rfl,rfl,Gi hr6 hr26,_,rfl,?_⟩;refine eQ rfl ?_;refine ⟨_,rfl,rfl,_,rfl,rfl,rfl,_,rfl,?_⟩;refine eQ rfl ?_;refine ⟨_,rfl,rfl,_,rfl,?_⟩;refine dC ?_;refine ⟨_,rfl,_,rfl,r2,_,_,_,rfl,rfl,dG.of hr26,rfl,_,rfl,r2,_,_,_,rfl,rfl,dG.of hr26,rfl,Fw,fun t2 ht2=>?_⟩;have n7:=aH ht2 (.tup [V.int o,V.int e]);refine ⟨t,t2,true,rfl,rfl,J0 ((s6.trans n7) _ _ ht5) aD,?_⟩;exact q _ ((s1.trans s2).trans (s35.trans (s6.trans n7)))
theorem NZ {l1 l2:Addr}{g:Int}(h0:0 ≤ g)(h1:g<2):∃ l,xM [V.ref l1,V.ref l2] g=some (.ref l)∧(l=l1∨l=l2):=by
 rcases (by omega:g=0∨g=1) with e | e <;> subst e
 ·exact ⟨l1,rfl,.inl rfl⟩
 ·exact ⟨l2,rfl,.inr rfl⟩
theorem Jd {n:Nat}{f:Addr}{fd:FuncData}(F:dY K "law" "law" (top 43) f fd){p:vM}{j_:Addr}{i_:FuncData}(cC:eV P w K mg base n "_law_cell_at" ["_law_script","_law_k"] (Dn K) j_ i_){Wd:Addr}{WM:FuncData}(We:eV P w K mg base n "_law_right" ["_law_pattern","_law_spec_here","_law_many_here"] (wX p) Wd WM){Wu:Addr}{Wf:FuncData}(Wv:eV P w K mg base n "_law_made" ["_law_spec_here"] (BR p) Wu Wf){Ww:Addr}{Wg:FuncData}(Wx:eV P w K mg base n "_law_spec" ["_law_script","_law_many_here"] (Ao K) Ww Wg)(WT:mg "min" = none)(O_:mg "max" = none):bD P w K mg base dW (n+1) f fd ["_law_script"] (u9 K):=by
 refine F.ok FW (fun vs H Q E h=>?_) (fun cdv A outer s H vs Q E hr h=>?_)
 ·obtain ⟨a,ns,rfl,_⟩:=h
  rfl
 obtain ⟨a,ns,rfl,hS,hlen,q⟩:=h;have nd:=FW.nd;refine ⟨_,(aG (bU (i:=1) nd rfl (Or.inl rfl) (aN cB aC (aN cJ (aJ cC hr (aA (pv 0) (aA aC aB))) aC))) (aG (bU (i:=2) nd rfl (Or.inl rfl) (aJ Wx hr (aA (pv 0) (aA (pv 1) aB)))) (aG (bU (i:=3) nd rfl (Or.inl rfl) (aJ Wv hr (aA (pv 2) aB))) (aG (bU (i:=4) nd rfl (Or.inl rfl) (aN cB aC (aN cJ (aN lN (aJ cC hr (aA (pv 0) (aA aC aB))) aC) aC))) (aG (cZ PassesOwn.never rfl (cT (bJ cF (eX (aA (eX (aA (pv 1) (aA (pv 4) aB))) (aA (eX (aA (aR (jP rfl) rfl O_ uZ (aA (pv 1) (aA (pv 4) aB))) (aA (aR (sW rfl) rfl WT DR (aA (pv 1) (aA (pv 4) aB))) aB))) aB))) (aN cJ (aN lN (aJ cC hr (aA (pv 0) (aA aC aB))) aC) aC) (fun _ _=>rfl))) (aZ (i:=5) nd rfl (Or.inl rfl)) (aF (bI (cP (bV (aJ We hr (aA (pv 3) (aA (pv 2) (aA (pv 5) aB)))))) (aF (aO dF)) aQ))) (aF (aO dF))))))),?_⟩;refine ⟨_,rfl,a,ns,1,rfl,hS,by decide,by decide,fun j j0 j1=>?_⟩;have f1:=Y4 j (show (6:Int)≠0 by decide);have f2:=YT j (show (0:Int)<6 by decide);refine ⟨_,_,rfl,rfl,(by show (0:Int)<6; decide),_,_,rfl,rfl,?_⟩;obtain ⟨m,hm⟩:∃ m:Nat,1+j%6=(m:Int):=⟨(1+j%6).toNat,by omega⟩
 have m1:1 ≤ m:=by omega
 have m6:m ≤ 6:=by omega
 show rR 1 (V.int (1+j%6)) _ _ _;generalize 1+j%6=mi at hm ⊢;subst hm;refine ⟨_,rfl,_,rfl,a,ns,m,rfl,hS,m1,m6,fun r H1 S s1 hr1 ok=>?_⟩;refine ⟨_,rfl,r,S,rfl,hr1,ok,fun x H2 s2 hX=>?_⟩;have mW:=s1.trans s2;refine ⟨_,rfl,a,ns,1,rfl,mW.seq hS,by decide,by decide,fun j' j0' j1'=>?_⟩;have g1:=Y4 (j'/6) (show (6:Int)≠0 by decide);have g2:=YT (j'/6) (show (0:Int)<6 by decide);refine ⟨_,_,rfl,rfl,⟨by decide,by decide⟩,_,_,rfl,rfl,(by show (0:Int)<6; decide),_,_,rfl,rfl,?_⟩;obtain ⟨o,ho⟩:∃ o:Nat,1+j'/6%6=(o:Int):=⟨(1+j'/6%6).toNat,by omega⟩
 have o1:1 ≤ o:=by omega
 have o6:o ≤ 6:=by omega
 show rR 4 (V.int (1+j'/6%6)) _ _ _;generalize 1+j'/6%6=oi at ho ⊢;subst ho;refine ⟨_,rfl,_,rfl,Fw,fun l1 hl1=>?_⟩;have n1:=aH hl1 (.lst [V.int (m:Int),V.int (o:Int)]);refine ⟨_,rfl,_,rfl,_,_,rfl,_,rfl,_,rfl,_,_,rfl,Fw,fun l2 hl2=>?_⟩;obtain ⟨b1,hb1⟩:∃ b1:Nat,(if (o:Int) > (m:Int) then (o:Int) else (m:Int))=(b1:Int):=⟨if (o:Int) > (m:Int) then o else m,by split <;> rfl⟩
 obtain ⟨b2,hb2⟩:∃ b2:Nat,(if (o:Int)<(m:Int) then (o:Int) else (m:Int))=(b2:Int):=⟨if (o:Int)<(m:Int) then o else m,by split <;> rfl⟩
 have c1:1 ≤ b1∧b1 ≤ 6:=by split at hb1 <;> omega
 have c2:1 ≤ b2∧b2 ≤ 6:=by split at hb2 <;> omega
 rw [hb1,hb2];have n2:=aH hl2 (.lst [V.int (b1:Int),V.int (b2:Int)]);refine ⟨Fw,fun l3 hl3=>?_⟩;have n3:=aH hl3 (.lst [V.ref l1,V.ref l2]);have e1:=(n2.trans n3) _ _ (aD (H:=H2) (a:=l1) (o:=.lst [V.int (m:Int),V.int (o:Int)]));have e2:=n3 _ _ (aD (H:=bQ H2 l1 (.lst [V.int (m:Int),V.int (o:Int)])) (a:=l2) (o:=.lst [V.int (b1:Int),V.int (b2:Int)]));have e3:bQ (bQ (bQ H2 l1 (.lst [V.int (m:Int),V.int (o:Int)])) l2 (.lst [V.int (b1:Int),V.int (b2:Int)])) l3 (.lst [V.ref l1,V.ref l2]) l3=some (.lst [V.ref l1,V.ref l2]):=aD;have s3:=mW.trans (n1.trans (n2.trans n3));have hX3:=hX.same (n1.trans (n2.trans n3));have hr3:=(hr1.same s2).same (n1.trans (n2.trans n3));generalize bQ (bQ (bQ H2 l1 (.lst [V.int (m:Int),V.int (o:Int)])) l2 (.lst [V.int (b1:Int),V.int (b2:Int)])) l3 (.lst [V.ref l1,V.ref l2])=H3 at e1 e2 e3 s3 hX3 hr3 ⊢;refine ⟨_,rfl,a,ns,1,rfl,s3.seq hS,by decide,by decide,fun z z0 z1=>?_⟩;have k1:=Y4 (z/36) (show (2:Int)≠0 by decide);have k2:=YT (z/36) (show (0:Int)<2 by decide);obtain ⟨l,hl,lo⟩:=NZ (l1:=l1) (l2:=l2) k1 k2;obtain ⟨u,v,hll,u1,u6,v1,v6⟩:∃ u v:Nat,H3 l=some (.lst [V.int (u:Int),V.int (v:Int)])∧1 ≤ u∧u ≤ 6∧1 ≤ v∧v ≤ 6:=by
  rcases lo with rfl | rfl
  ·exact ⟨m,o,e1,m1,m6,o1,o6⟩
  ·exact ⟨b1,b2,e2,c1.1,c1.2,c2.1,c2.2⟩
 refine ⟨_,_,rfl,rfl,⟨by decide,by decide⟩,_,_,rfl,rfl,(by show (0:Int)<2; decide),l3,_,_,_,rfl,rfl,bL.of e3,hl,?_⟩;refine ⟨l,rfl,⟨_,bL.of hll⟩,?_⟩;refine fL (xs:=[V.int (u:Int),V.int (v:Int)]) (fun j σ H'=>∃ v5,σ = [some (.ref a),some (.int (m:Int)),some (.ref r),some (.ref x),some (.int (o:Int)),v5]∧bB H3 H') ⟨none,rfl,bB.refl _⟩ ?keep ?turn ?done
 case keep =>
  rintro j σ H' hj ⟨v5,rfl,hs⟩;exact bL.of (hs _ _ hll)
 case turn =>
  rintro j v' σ H' hv ⟨v5,rfl,hs⟩;obtain ⟨y,rfl,y1,y6⟩:∃ y:Nat,v'=V.int (y:Int)∧1 ≤ y∧y ≤ 6:=by
   rcases j with _ | _ | j
   ·cases hv; exact ⟨u,rfl,u1,u6⟩
   ·cases hv; exact ⟨v,rfl,v1,v6⟩
   ·exact absurd hv (by simp)
  refine ⟨_,rfl,_,rfl,_,rfl,x,r,S,y,rfl,hX3.same hs,hr3.same hs,ok.good,y1,y6,fun H4 s4=>?_⟩;refine ⟨_,rfl,?_⟩;refine dC ?_;exact ⟨_,rfl,hs.trans s4⟩
 case done =>
  rintro σ H' ⟨v5,rfl,hs⟩;exact q H'
theorem Aa {f:Addr}{fd:FuncData}{ps:List Str}{m:Nat}(F:bD P w K mg base dW m f fd ps DW):bD P w K mg base dW m f fd ps Eh:=F.imp fun vs H Q E ⟨i,lo,hi,e,h1,h2,q⟩=>⟨_,lo,hi,_,e,.int i,by rw [decide_eq_true h1,decide_eq_true h2]; exact q⟩
end
end K32
namespace L2
open PySem PySem.Spec PyProof.Rows
structure Rr (K:PySem.W.Frag)(dT:Addr)(x qual:Str)(st:Stmt)(f:Addr)(fd:FuncData):Prop where
 ex:∃ (oc:Value) (od:Option Addr) (kV doc pm:Value) (an:Option Addr) (cdv ct:Value) (osl:Array (Option Value)),
  fd=PySem.W.fnOf x qual (fW st) (dO st) (aK st) (.ref dT) kV doc pm an cdv ct∧K.lookup f=some ⟨oc,od,.func fd,osl⟩∧PySem.W.codeIn K cdv qual=true
 kp:PySem.W.keepIn K (.ref f)=true
structure TF (K:PySem.W.Frag)(x:Str)(st:Stmt)(f:Addr)(fd:FuncData):Prop where
 a:PySem.W.nsIn K mainGlobals x=some (some (.ref f))
 F:dY K x x st f fd
structure MF (K:PySem.W.Frag)(C:Addr)(m q:Str)(st:Stmt)(f:Addr)(fd:FuncData):Prop where
 a:PySem.W.findIn K (.ref C) m=some (some (.ref f))
 i:PySem.W.isFn K (.ref f)=true
 F:dY K m q st f fd
structure TD (K:PySem.W.Frag)(x:Str)(st:Stmt)(dT f:Addr)(fd:FuncData):Prop where
 a:PySem.W.nsIn K mainGlobals x=some (some (.ref f))
 F:Rr K dT x x st f fd
def JT (K:PySem.W.Frag)(l:List Str):Bool:=l.all fun x=>match PySem.W.nsIn K mainGlobals x with | some none=>true | _=>false
def Km (mg:Str →Option Value):List Str →Prop
 | []=>True
 | x::r=>mg x=none∧Km mg r
section
variable {P:Program}{w:World}{K:PySem.W.Frag}{mg:Str →Option Value}{base h:Heap}{x m q:Str}{st:Stmt}{f C:Addr}{fd:FuncData}{ps:List Str}{sp:Sp}{n:Nat}
theorem Nv (X:K.In h)(G:h.Ns mainGlobals mg):∀ {l:List Str},JT K l=true →Km mg l
 | [],_=>trivial
 | y::r,e=>by
  have e':((match PySem.W.nsIn K mainGlobals y with | some none=>true | _=>false)&&JT K r)=true:=e;rw [Y6] at e';refine ⟨PySem.W.mg_none_of X G ?_,Nv X G e'.2⟩;have e1:=e'.1;revert e1;cases PySem.W.nsIn K mainGlobals y with
  | none=>intro z; cases z
  | some o=>cases o with
   | none=>intro _; rfl
   | some v=>intro z; cases z
theorem MF.mt (T:MF K C m q st f fd):yK K C m f:=⟨T.a,T.i,T.F.kp⟩
theorem TF.cal (T:TF K x st f fd)(X:K.In h)(G:h.Ns mainGlobals mg)(g:bD P w K mg base dW n f fd ps sp)(b:Binds K fd ps []):eV P w K mg base n x ps sp f fd:=⟨g,b,T.F.kp,PySem.W.mg_of X G T.a⟩
theorem TF.calX (T:TF K x st f fd)(X:K.In h)(G:h.Ns mainGlobals mg)(g:bD P w K mg base (J3 P w) n f fd ps sp)(b:Binds K fd ps []):uO P w K mg base n x ps sp f fd:=⟨g,b,T.F.kp,PySem.W.mg_of X G T.a⟩
theorem eV.u {m:Nat}(c:eV P w K mg base n x ps sp f fd)(h:n ≤ m:=by omega):eV P w K mg base m x ps sp f fd:=c.up h
theorem uO.u {m:Nat}(c:uO P w K mg base n x ps sp f fd)(h:n ≤ m:=by omega):uO P w K mg base m x ps sp f fd:=c.up h
theorem bD.u {CX:vL}{m:Nat}(g:bD P w K mg base CX n f fd ps sp)(h:n ≤ m:=by omega):bD P w K mg base CX m f fd ps sp:=g.mono h
theorem Jg {CX:vL}(_:bD P w K mg base CX n f fd ps sp)(b:Binds K fd ps []):Binds K fd ps []:=b
abbrev Oh (x q:Str)(st:Stmt)(us:List Value)(r:List (Str×Value)):Prop:=∀ (kV doc pm:Value) (an:Option Addr) (cdv ct:Value),bindArgs (PySem.W.fnOf x q (fW st) (dO st) (aK st) .none kV doc pm an cdv ct) ⟨us,[]⟩=pure r
theorem dY.bd1 {a:Str}(F:dY K x q st f fd)(h:∀ u,Oh x q st [u] [(a,u)]:=by intros; exact fun _ _ _ _ _ _=>rfl):Binds K fd [a] []:=F.binds fun _ _ _ _ _ _ us hl=>match us,hl with | [_],_=>h _ _ _ _ _ _ _
theorem dY.bd2 {a b:Str}(F:dY K x q st f fd)(h:∀ u v,Oh x q st [u,v] [(a,u),(b,v)]:=by intros; exact fun _ _ _ _ _ _=>rfl):Binds K fd [a,b] []:=F.binds fun _ _ _ _ _ _ us hl=>match us,hl with | [_,_],_=>h _ _ _ _ _ _ _ _
theorem dY.bd3 {a b c:Str}(F:dY K x q st f fd)(h:∀ u v y,Oh x q st [u,v,y] [(a,u),(b,v),(c,y)]:=by intros; exact fun _ _ _ _ _ _=>rfl):Binds K fd [a,b,c] []:=F.binds fun _ _ _ _ _ _ us hl=>match us,hl with | [_,_,_],_=>h _ _ _ _ _ _ _ _ _
theorem dY.bd4 {a b c d:Str}(F:dY K x q st f fd)(h:∀ u v y z,Oh x q st [u,v,y,z] [(a,u),(b,v),(c,y),(d,z)]:=by intros; exact fun _ _ _ _ _ _=>rfl):Binds K fd [a,b,c,d] []:=F.binds fun _ _ _ _ _ _ us hl=>match us,hl with | [_,_,_,_],_=>h _ _ _ _ _ _ _ _ _ _
end
end L2
namespace K32
open PySem L2 TD TP PyProof.Rows
theorem JS {l:W.OpenLaw}{w:World}{K:W.Frag}{h:Heap}{mg:Str →Option Value}{fa f1 f2 f3 f4 f5 f6 f7 f8 f9 f10 f11 f12 f13 f14 f15 f16 f17 f18 f19 f20 f21 f22 f23 f24 f25 f26 f27 f28 f29 f30 f31 f32 f33 f34 f35 f36 f37 cFw cGr cLi u_ a_:Addr}{g1 g2 g3 g4 g5 g6 g7 g8 g9 g10 g11 g12 g13 g14 g15 g16 g17 g18 g19 g20 g21 g22 g23 g24 g25 g26 g27 g28 g29 g30 g31 g32 g33 g34 g35 g36 g37:FuncData}(X:K.In h)(G:h.Ns mainGlobals mg)(hfa:mg "law" = some (.ref fa))
  (Xg:W.nsIn K mainGlobals "Few" = some (some (.ref cFw)))
  (XR:W.nsIn K mainGlobals "Groups" = some (some (.ref cGr)))
  (XS:W.nsIn K mainGlobals "Listed" = some (some (.ref cLi)))
  (XX:W.nsIn K mainGlobals "NoSets" = some (some (.ref u_)))
  (Wh:W.nsIn K mainGlobals "NoPattern" = some (some (.ref a_)))
  (T1:TF K "is_whole" (top 6) f1 g1)
  (T2:TF K "has_box" (top 10) f2 g2)
  (T3:TF K "boxes_of" (top 11) f3 g3)
  (T4:TF K "size_of" (top 12) f4 g4)
  (T5:TF K "with_box" (top 13) f5 g5)
  (T6:TF K "is_numbers" (top 14) f6 g6)
  (T7:TF K "is_pattern" (top 19) f7 g7)
  (T8:TF K "less_flaw" (top 20) f8 g8)
  (T9:TF K "can_grow" (top 21) f9 g9)
  (T10:TF K "sets_by_size" (top 22) f10 g10)
  (T11:TF K "more_flaw" (top 23) f11 g11)
  (T12:TF K "flaw" (top 24) f12 g12)
  (T13:TF K "need_pattern" (top 25) f13 g13)
  (T14:TF K "_law_cell_at" (top 27) f14 g14)
  (T15:TF K "_law_many" (top 28) f15 g15)
  (T16:TF K "_law_number" (top 29) f16 g16)
  (T17:TF K "_law_size" (top 30) f17 g17)
  (T18:TF K "_law_may" (top 31) f18 g18)
  (T19:TF K "_law_forest" (top 32) f19 g19)
  (T20:TF K "_law_under" (top 33) f20 g20)
  (T21:TF K "_law_bits" (top 34) f21 g21)
  (T22:TF K "_law_listed" (top 35) f22 g22)
  (T23:TF K "_law_spec" (top 36) f23 g23)
  (T24:TF K "_law_made" (top 37) f24 g24)
  (T25:TF K "_law_grown" (top 38) f25 g25)
  (T26:TF K "_law_lessened" (top 39) f26 g26)
  (T27:TF K "_law_stuck" (top 40) f27 g27)
  (T28:TF K "_law_shown" (top 41) f28 g28)
  (T29:TF K "_law_right" (top 42) f29 g29)
  (T30:TF K "law" (top 43) f30 g30)
  (T31:MF K a_ "__init__" "NoPattern.__init__" (inClass (top 4) 0) f31 g31)
  (T32:MF K cFw "__init__" "Few.__init__" (inClass (top 16) 0) f32 g32)
  (T33:MF K cFw "may" "Few.may" (inClass (top 16) 1) f33 g33)
  (T34:MF K cGr "__init__" "Groups.__init__" (inClass (top 17) 0) f34 g34)
  (T35:MF K cGr "may" "Groups.may" (inClass (top 17) 1) f35 g35)
  (T36:MF K cLi "__init__" "Listed.__init__" (inClass (top 18) 0) f36 g36)
  (T37:MF K cLi "may" "Listed.may" (inClass (top 18) 1) f37 g37)
  (pt:Mr K ⟨cFw,cGr,cLi⟩)
  (cpn:Jr K ⟨cFw,cGr,cLi⟩)
  (xcS:Et K u_)
  (xiP:yG K a_ f31)
  (xfP:Fz K a_)
  (nkOne:W.findIn K (.ref a_) "one" = some none)
  (nkOther:W.findIn K (.ref a_) "other" = some none)
  (xtP:O1 K a_)
  (exP:W.exmOne K (.ref a_) (.ref a_)=some true)
  (mkFw:W.makesIn K cFw=true)
  (kcFw:W.keepIn K (.ref cFw)=true)
  (mkGr:W.makesIn K cGr=true)
  (kcGr:W.keepIn K (.ref cGr)=true)
  (mkLi:W.makesIn K cLi=true)
  (kcLi:W.keepIn K (.ref cLi)=true)
  (nkF:W.findIn K (.ref cFw) "limit" = some none)
  (nkG:W.findIn K (.ref cGr) "groups" = some none)
  (nkM:W.findIn K (.ref cGr) "most" = some none)
  (nkS:W.findIn K (.ref cLi) "sets" = some none)
  (y_:JT K ["all","any","bool","int","isinstance","len","list","max","min","range","reversed","set","sorted","str","tuple"]=true)
  {Q_:Tok} (WN:W.nsIn K mainGlobals "MOST_BOXES" = some (some (.int 6 Q_)))
  {Va:Tok} (Wi:W.nsIn K mainGlobals "MOST_SETS" = some (some (.int 64 Va)))
  : ∃ fd:FuncData,(∀ (s:Shared) (v:Value),BindsTo s fd ⟨[v],[]⟩ [("_law_script",v)])∧∀ base:Heap,K.In base →base.Ns mainGlobals mg →bD l.prog w K mg base dW 9 fa fd ["_law_script"] (u9 K):=by
 obtain ⟨p,rfl,rfl,rfl⟩:∃ p:vM,p.f=cFw∧p.g=cGr∧p.l=cLi:=⟨⟨cFw,cGr,cLi⟩,rfl,rfl,rfl⟩
 replace pt:Mr K p:=pt;replace cpn:Jr K p:=cpn;cases hfa.symm.trans (W.mg_of X G T30.a);have ⟨Vk,WQ,Vb,V9,d_,h_,M_,O_,WT,b_,V8,WP,F_,X4,l_,_⟩:=Nv X G y_;have WR:=W.mg_of X G Xg;have G_:=W.mg_of X G XR;have H_:=W.mg_of X G XS;have Vp:=W.mg_of X G XX;have p_:=W.mg_of X G Wh;have e_:=W.mg_of X G WN;have gV:RelV (.int 6) (.int 6 Q_):=⟨_,rfl⟩
 have B_:=W.mg_of X G Wi;have C_:RelV (.int 64) (.int 64 Va):=⟨_,rfl⟩
 refine ⟨g30,fun s v=>?_,fun base _ _=>?_⟩
 ·obtain ⟨_,_,_,_,_,_,_,_,_,rfl,_⟩:=T30.F.ex;exact .of_eq rfl
 have R {CX n f g ps sp} (z:bD l.prog w K mg base CX n f g ps sp):=z;have MFw:Mk K p.f f32:=⟨mkFw,T32.a,T32.i,kcFw⟩
 have MGr:Mk K p.g f34:=⟨mkGr,T34.a,T34.i,kcGr⟩
 have MLi:Mk K p.l f36:=⟨mkLi,T36.a,T36.i,kcLi⟩
 have mt33:=T33.mt;have mt35:=T35.mt;have mt37:=T37.mt;have G1:=R (wJ (n:=0) T1.F d_ Vb V9);have C1:=T1.cal X G G1 T1.F.bd3;have G2:=R (xU (n:=0) T2.F );have C2:=T2.cal X G G2 T2.F.bd2;have G3:=R (wF (n:=1) T3.F C2.u b_ e_ gV);have C3:=T3.cal X G G3 T3.F.bd1;have G4:=R (xY (n:=2) T4.F C3.u h_);have C4:=T4.cal X G G4 T4.F.bd1;have G5:=R (xJ (n:=0) T5.F );have C5:=T5.cal X G G5 T5.F.bd2;have G6:=R (qX (n:=1) T6.F (T1.cal X G (Aa G1) T1.F.bd3).u Vk h_ d_ M_);have C6:=T6.cal X G G6 T6.F.bd4;have G7:=R (qY (n:=0) T7.F pt cpn WR G_ H_ d_);have C7:=T7.cal X G G7 T7.F.bd1;have G8:=R (uC (n:=2) T8.F C3.u b_ h_);have C8:=T8.cal X G G8 T8.F.bd1;have G9:=R (wO (n:=2) T9.F C3.u C2.u C5.u WQ);have C9:=T9.cal X G G9 T9.F.bd3;have G10:=R (oR (n:=3) T10.F C4.u b_ h_ e_ gV);have C10:=T10.cal X G G10 T10.F.bd1;have G11:=R (t8 (n:=4) T11.F C9.u C10.u b_ e_ gV);have C11:=T11.cal X G G11 T11.F.bd1;have G33:=R (zT (n:=3) T33.F pt.cf nkF C4.u);have b33:=Jg G33 T33.F.bd2;have G35:=R (q9 (n:=2) T35.F pt.cg nkG nkM C3.u Vk h_);have b35:=Jg G35 T35.F.bd2;have G37:=R (qQ (n:=0) T37.F pt.cl nkS);have b37:=Jg G37 T37.F.bd2;have G12:=R (Hg (n:=5) T12.F pt mt33 G33.u b33 mt35 G35.u b35 mt37 G37.u b37 C11.u C8.u b_);have C12:=T12.cal X G G12 T12.F.bd2;have G31:=R (iU (n:=0) T31.F xfP nkOne nkOther);have b31:=Jg G31 T31.F.bd3;have G13:=R (o7 (n:=6) T13.F (p:=p) Vp xcS p_ xiP G31 b31 (by omega) C12.u C7.u);have C13:=T13.calX X G G13 T13.F.bd2;have G14:=R (oZ (n:=0) T14.F h_);have C14:=T14.cal X G G14 T14.F.bd2;have G15:=R (uW (n:=1) T15.F C14.u WT O_ h_);have C15:=T15.cal X G G15 T15.F.bd3;have G16:=R (pZ (n:=0) T16.F d_ Vb V9);have C16:=T16.cal X G G16 T16.F.bd1;have G17:=R (tR (n:=0) T17.F b_);have C17:=T17.cal X G G17 T17.F.bd1;have G18:=R (v7 (n:=1) T18.F C17.u b_ h_);have C18:=T18.cal X G G18 T18.F.bd2;have G19:=R (pP (n:=0) T19.F b_ h_ V9);have C19:=T19.cal X G G19 T19.F.bd2;have G20:=R (rF (n:=0) T20.F b_ WQ);have C20:=T20.cal X G G20 T20.F.bd2;have G21:=R (vB (n:=0) T21.F b_ h_);have C21:=T21.cal X G G21 T21.F.bd2;have G22:=R (pY (n:=2) T22.F C14.u C19.u C20.u C15.u C21.u h_ b_ O_);have C22:=T22.cal X G G22 T22.F.bd3;have G23:=R (vC (n:=3) T23.F C14.u C22.u l_ b_ F_ WP);have C23:=T23.cal X G G23 T23.F.bd2;have G32:=R (oV (n:=1) T32.F pt.cf nkF (T1.cal X G (Aa G1) T1.F.bd3).u e_ gV);have b32:=Jg G32 T32.F.bd2;have G34:=R (kZ (n:=2) T34.F pt.cg nkG nkM C6.u l_ e_ gV);have b34:=Jg G34 T34.F.bd3;have G36:=R (lG (n:=2) T36.F pt.cl nkS C6.u l_ F_ h_ WP B_ C_);have b36:=Jg G36 T36.F.bd2;have G24:=R (uT (n:=4) T24.F MFw G32 b32 WR (by omega) MGr G34 b34 G_ (by omega) MLi G36 b36 H_ (by omega) M_ V8);have C24:=T24.cal X G G24 T24.F.bd1;have G25:=R (rD (n:=0) T25.F b_);have C25:=T25.cal X G G25 T25.F.bd3;have G26:=R (mY (n:=0) T26.F b_);have C26:=T26.cal X G G26 T26.F.bd1;have G27:=R (rA (n:=1) T27.F C25.u C17.u);have C27:=T27.cal X G G27 T27.F.bd1;have G28:=R (rC (n:=1) T28.F C25.u C17.u C26.u C16.u d_ X4 h_ l_);have C28:=T28.cal X G G28 T28.F.bd2;have G29:=R (qO (n:=7) T29.F pt C13.u p_ xtP xfP nkOne nkOther exP C12.u C27.u C26.u C28.u C18.u b_);have C29:=T29.cal X G G29 T29.F.bd3;exact Jd (n:=8) T30.F (p:=p) C14.u C29.u C24.u C23.u WT O_
theorem walk {l:W.OpenLaw}{q:Program}{loose:List Str}{XP:(Str →Option Value) →Heap →Prop}{YP:World →Heap →Prop}{d:DefRec}{K:Params →W.Frag}(hn:l.most=some 63)(hdf:d.params.defaults=[])
  (hY:∀ (w:World) (h:Heap),YP w h →(K w.params).In h)
  (F:∀ (w:World) (mg:Str →Option Value) (fa:Addr) (h:Heap),(K w.params).In h →h.Ns mainGlobals mg →mg d.name=some (.ref fa) →
   ∃ fd:FuncData,(∀ (s:Shared) (u:Value),BindsTo s fd ⟨[u],[]⟩ [("_law_script",u)])∧∀ base:Heap,(K w.params).In base →base.Ns mainGlobals mg →bD l.prog w (K w.params) mg base dW 9 fa fd ["_law_script"] (u9 (K w.params))) :
  W.WalkO q loose XP YP l.row.toRowW d [] (fun f vs=>PySem.call f vs) :=
 L2.HX (n:=63) (k:=9) (x:="_law_script") (CX:=fun _=>dW) (sp:=fun w=>u9 (K w.params)) hn (by decide) hdf ⟨rfl,by decide,by decide⟩ hY F (fun _ _ a ns hl _ hS=>⟨a,ns,rfl,hS,hl,fun _=>rfl⟩) fun _ _ _ _ _ z=>z
noncomputable section
abbrev OO:=Params →Obj
def E (P:Params)(x:Str)(t:Tok)(v:Value):DictEntry:=⟨PyData.keyHash P x,.str x t,v⟩
abbrev V0 (n q:Str)(st:Stmt)(dV kV doc pm:Value)(an:Option Addr)(cdv ct:Value):FuncData:=W.fnOf n q (fW st) (dO st) (aK st) dV kV doc pm an cdv ct
def Ud (n q:Str)(st:Stmt):FuncData:={ name:=n,qualname:=q,params:=fW st,body:=.stmts (dO st),scope:=aK st,globals:=0,closure:=[],defaults:=.none,kwdefaults:=.none }
def s0  : Obj:=⟨(.type "tuple"),none,(.seq #[] 0),#[]⟩
def s1  : Obj:=⟨.none,none,(.fields #[]),#[]⟩
def s2 (x0:Str)(x1:Nat)(x3:Nat)(x5:Nat)(x6:Int)(x16:Nat)(x19:Nat)(x20:Int)(x25:Nat):Obj:=⟨(.type "code"),none,(.fields #[(.str x0 x1),(.str x0 x3),(.str "/claim/cut.py" x5),(.int x6 0),(.int 0 0),(.int 0 0),(.int 0 0),(.int 0 0),(.ref x16),(.bool false),(.int 181 0),(.ref x19),.none,.none,.none,.none,(.int x20 0),(.int x6 0),(.str "/claim/cut.py" x25)]),#[]⟩
def s3 (x0:Nat)(x2:Nat)(x3:Str)(x4:Nat):Obj:=⟨(.type "frame"),none,.plain,#[(some (.ref x0)),(some (.ref 3)),(some (.ref x2)),none,(some (.str x3 x4)),none,(some (.ref 0))]⟩
def s4 (x0:Str)(x1:Nat):Obj:=⟨(.type "tuple"),none,(.seq #[(.str x0 x1)] 0),#[]⟩
def s5 (x0:Str)(x1:Str)(x2:Stmt):Obj:=⟨.none,none,(.func (Ud x0 x1 x2)),#[]⟩
def s6 (x0:Str)(x1:Nat)(x2:Str)(x3:Nat)(x5:Nat)(x6:Int)(x8:Int)(x16:Nat)(x19:Nat)(x20:Nat)(x21:Nat)(x22:Nat)(x23:Int)(x28:Nat):Obj:=⟨(.type "code"),none,(.fields #[(.str x0 x1),(.str x2 x3),(.str "/claim/cut.py" x5),(.int x6 0),(.int x8 0),(.int 0 0),(.int 0 0),(.int 3 0),(.ref x16),(.bool true),(.int 181 0),(.ref x19),.none,(.ref x20),(.ref x21),(.ref x22),(.int x23 0),(.int x6 0),(.str "/claim/cut.py" x28)]),#[]⟩
def s7 (x0:Str)(x1:Str)(x2:Stmt)(x3:Str)(x4:Nat)(x5:Nat):Obj:=⟨(.type "function"),none,(.func (V0 x0 x1 x2 .none .none .none (.str x3 x4) none (.ref x5) .none)),#[]⟩
def s8  : Obj:=⟨(.type "builtin_function_or_method"),none,(.fields #[(.builtin "type.__prepare__"),(.type "type")]),#[]⟩
def s9 (x0:Nat):Obj:=⟨(.type "super"),none,(.fields #[(.ref x0),(.ref x0),(.ref x0)]),#[]⟩
def Gp (x0:Nat):Obj:=⟨(.type "builtin_function_or_method"),none,(.fields #[(.builtin "object.__init_subclass__"),(.ref x0)]),#[]⟩
def KY (x0:Nat):Obj:=⟨(.type "tuple"),none,(.seq #[(.ref x0)] 0),#[]⟩
def mW (x0:Str)(x1:Nat)(x2:Str)(x3:Nat)(x4:Str)(x5:Nat):Obj:=⟨(.type "tuple"),none,(.seq #[(.str x0 x1),(.str x2 x3),(.str x4 x5)] 0),#[]⟩
def Di (x0:Str)(x1:Nat)(x2:Str)(x3:Nat):Obj:=⟨(.type "tuple"),none,(.seq #[(.str x0 x1),(.str x2 x3)] 0),#[]⟩
def Cq (x0:Str)(x1:Nat)(x2:Str)(x3:Nat)(x5:Nat)(x6:Int)(x8:Int)(x16:Nat)(x19:Nat)(x20:Nat)(x21:Int)(x26:Nat):Obj:=⟨(.type "code"),none,(.fields #[(.str x0 x1),(.str x2 x3),(.str "/claim/cut.py" x5),(.int x6 0),(.int x8 0),(.int 0 0),(.int 0 0),(.int 3 0),(.ref x16),(.bool true),(.int 181 0),(.ref x19),.none,.none,.none,(.ref x20),(.int x21 0),(.int x6 0),(.str "/claim/cut.py" x26)]),#[]⟩
def VH:OO:=fun _=>s2 "<module>" 182 183 184 1 11 12 185 186
def Ug:OO:=fun _=>s3 13 3 "__main__" 164
def o3:OO:=fun P=>⟨(.type "dict"),none,(.dict #[E P "__name__" 165 (.str "lidprice.patterns" 270),E P "__doc__" 166 .none,E P "__package__" 167 .none,E P "__loader__" 168 (.builtin "__main__.__loader__#opaque"),E P "__spec__" 169 .none,E P "__annotations__" 170 (.ref 6),E P "__builtins__" 171 (.ref 4),E P "__file__" 173 (.str "/claim/cut.py" 172),E P "__cached__" 174 .none,E P "_wall" 193 (.ref 21),E P "LidError" 213 (.ref 31),E P "NoSets" 229 (.ref 44),E P "NoPattern" 256 (.ref 63),E P "is_whole" 267 (.ref 72),E P "MOST_BOXES" 269 (.int 6 268),E P "MOST_SETS" 273 (.int 64 272),E P "has_box" 281 (.ref 79),E P "boxes_of" 287 (.ref 84),E P "size_of" 294 (.ref 91),E P "with_box" 302 (.ref 98),E P "is_numbers" 308 (.ref 103),E P "Pattern" 328 (.ref 113),E P "Few" 368 (.ref 148)] 23),#[]⟩
def Kv:OO:=fun _=>⟨.none,none,(.fields #[(.int 1 0),(.int 0 0),(.ref 20),(.int 5 0),(.int 0 0),(.ref 27),(.int 7 0),(.int 0 0),(.ref 40),(.int 9 0),(.int 0 0),(.ref 52),(.int 15 0),(.int 0 0),(.ref 71),(.int 20 0),(.int 0 0),(.ref 78),(.int 22 0),(.int 0 0),(.ref 83),(.int 24 0),(.int 0 0),(.ref 90),(.int 26 0),(.int 0 0),(.ref 97),(.int 28 0),(.int 0 0),(.ref 102),(.int 32 0),(.int 0 0),(.ref 109),(.int 34 0),(.int 0 0),(.ref 123)]),#[]⟩
def VL:OO:=fun _=>s4 "k" 190
def UL:OO:=fun _=>s5 "_wall" "_wall" (top 0)
def Td:OO:=fun _=>s6 "_wall" 187 "_wall" 188 189 1 1 15 16 17 18 19 191 192
def Sq:OO:=fun _=>s7 "_wall" "_wall" (top 0) "__main__" 164 20
def Uh:OO:=fun _=>⟨(.type "tuple"),none,(.seq #[(.type "ValueError")] 0),#[]⟩
def VF:OO:=fun P=>⟨(.type "dict"),none,(.dict #[E P "__module__" 203 (.str "lidprice.errors" 194),E P "__qualname__" 205 (.str "LidError" 204),E P "__firstlineno__" 207 (.int 5 206),E P "__static_attributes__" 208 (.ref 29)] 4),#[]⟩
def Uk:OO:=fun _=>s2 "LidError" 198 199 200 5 25 26 201 202
def Ue:OO:=fun _=>s3 27 24 "lidprice.errors" 194
def Sv:OO:=fun P=>⟨(.type "dict"),none,(.dict #[E P "__module__" 203 (.str "lidprice.errors" 194),E P "__firstlineno__" 207 (.int 5 206),E P "__static_attributes__" 208 (.ref 29),E P "__weakref__" 210 (.ref 32),E P "__doc__" 211 .none] 3),#[]⟩
def Su:OO:=fun _=>⟨(.type "type"),none,(.cls ⟨"LidError",[(.type "ValueError")],[(.ref 31),(.type "ValueError"),(.type "Exception"),(.type "BaseException"),(.type "object")],30,"LidError",true,[],[(.ref 44),(.ref 63)],false,none,false⟩),#[(some (.ref 22)),none,(some (.str "LidError" 196)),(some (.str "LidError" 204)),(some (.builtin "ValueError.__new__")),(some (.bool true))]⟩
def Tv:OO:=fun _=>⟨(.type "getset_descriptor"),none,(.fields #[(.str "__weakref__" 209),(.ref 31),(.builtin "ExceptionGroup.__weakref__"),.none]),#[]⟩
def Ur:OO:=fun _=>s9 31
def V1:OO:=fun _=>Gp 31
def VV:OO:=fun _=>KY 31
def UJ:OO:=fun P=>⟨(.type "dict"),none,(.dict #[E P "__module__" 221 (.str "lidprice.errors" 194),E P "__qualname__" 223 (.str "NoSets" 222),E P "__firstlineno__" 225 (.int 7 224),E P "__static_attributes__" 226 (.ref 42)] 4),#[]⟩
def U9:OO:=fun _=>s2 "NoSets" 216 217 218 7 38 39 219 220
def V3:OO:=fun _=>s3 40 37 "lidprice.errors" 194
def TX:OO:=fun P=>⟨(.type "dict"),none,(.dict #[E P "__module__" 221 (.str "lidprice.errors" 194),E P "__firstlineno__" 225 (.int 7 224),E P "__static_attributes__" 226 (.ref 42),E P "__doc__" 227 .none] 2),#[]⟩
def Sh:OO:=fun _=>⟨(.type "type"),none,(.cls ⟨"NoSets",[(.ref 31)],[(.ref 44),(.ref 31),(.type "ValueError"),(.type "Exception"),(.type "BaseException"),(.type "object")],43,"NoSets",true,[],[],false,none,false⟩),#[(some (.ref 35)),none,(some (.str "NoSets" 214)),(some (.str "NoSets" 222)),(some (.builtin "ValueError.__new__")),(some (.bool true))]⟩
def UT:OO:=fun _=>s9 44
def Ui:OO:=fun _=>Gp 44
def V5:OO:=fun _=>KY 31
def V2:OO:=fun P=>⟨(.type "dict"),none,(.dict #[E P "__module__" 237 (.str "lidprice.errors" 194),E P "__qualname__" 239 (.str "NoPattern" 238),E P "__firstlineno__" 241 (.int 9 240),E P "__init__" 250 (.ref 60),E P "__static_attributes__" 253 (.ref 61)] 5),#[]⟩
def Ux:OO:=fun _=>⟨.none,none,(.fields #[(.int 11 0),(.int 4 0),(.ref 59)]),#[]⟩
def VM:OO:=fun _=>s2 "NoPattern" 232 233 234 9 50 51 235 236
def VD:OO:=fun _=>s3 52 49 "lidprice.errors" 194
def Uc:OO:=fun _=>mW "self" 245 "one" 246 "other" 247
def UW:OO:=fun _=>s5 "__init__" "NoPattern.__init__" (inClass (top 4) 0)
def TJ:OO:=fun _=>s6 "__init__" 242 "NoPattern.__init__" 243 244 11 3 54 55 56 57 58 248 249
def Tq:OO:=fun _=>s7 "__init__" "NoPattern.__init__" (inClass (top 4) 0) "lidprice.errors" 194 59
def V4:OO:=fun _=>Di "one" 251 "other" 252
def TQ:OO:=fun P=>⟨(.type "dict"),none,(.dict #[E P "__module__" 237 (.str "lidprice.errors" 194),E P "__firstlineno__" 241 (.int 9 240),E P "__init__" 250 (.ref 60),E P "__static_attributes__" 253 (.ref 61),E P "__doc__" 254 .none] 2),#[]⟩
def UG:OO:=fun _=>⟨(.type "type"),none,(.cls ⟨"NoPattern",[(.ref 31)],[(.ref 63),(.ref 31),(.type "ValueError"),(.type "Exception"),(.type "BaseException"),(.type "object")],62,"NoPattern",true,[],[],false,none,false⟩),#[(some (.ref 47)),none,(some (.str "NoPattern" 230)),(some (.str "NoPattern" 238)),(some (.builtin "ValueError.__new__")),(some (.bool true))]⟩
def VN:OO:=fun _=>s9 63
def V6:OO:=fun _=>Gp 63
def VJ:OO:=fun _=>mW "thing" 262 "least" 263 "most" 264
def Ul:OO:=fun _=>s5 "is_whole" "is_whole" (top 6)
def Tc:OO:=fun _=>s6 "is_whole" 259 "is_whole" 260 261 15 3 66 67 68 69 70 265 266
def Tg:OO:=fun _=>s7 "is_whole" "is_whole" (top 6) "lidprice.shares" 257 71
def VB:OO:=fun _=>Di "kept" 277 "box" 278
def Uw:OO:=fun _=>s5 "has_box" "has_box" (top 10)
def Tj:OO:=fun _=>s6 "has_box" 274 "has_box" 275 276 20 2 73 74 75 76 77 279 280
def Sx:OO:=fun _=>s7 "has_box" "has_box" (top 10) "lidprice.patterns" 270 78
def U7:OO:=fun _=>s5 "boxes_of" "boxes_of" (top 11)
def Tt:OO:=fun _=>Cq "boxes_of" 282 "boxes_of" 283 284 22 1 80 81 82 285 286
def Tz:OO:=fun _=>s7 "boxes_of" "boxes_of" (top 11) "lidprice.patterns" 270 83
def Us:OO:=fun _=>s4 "kept" 291
def U4:OO:=fun _=>s5 "size_of" "size_of" (top 12)
def Sy:OO:=fun _=>s6 "size_of" 288 "size_of" 289 290 24 1 85 86 87 88 89 292 293
def Tr:OO:=fun _=>s7 "size_of" "size_of" (top 12) "lidprice.patterns" 270 90
def VP:OO:=fun _=>Di "kept" 298 "box" 299
def Ut:OO:=fun _=>s5 "with_box" "with_box" (top 13)
def Sg:OO:=fun _=>s6 "with_box" 295 "with_box" 296 297 26 2 92 93 94 95 96 300 301
def Th:OO:=fun _=>s7 "with_box" "with_box" (top 13) "lidprice.patterns" 270 97
def Qt:OO:=fun _=>s5 "is_numbers" "is_numbers" (top 14)
def Nz:OO:=fun _=>Cq "is_numbers" 303 "is_numbers" 304 305 28 4 99 100 101 306 307
def M8:OO:=fun _=>s7 "is_numbers" "is_numbers" (top 14) "lidprice.patterns" 270 102
def RT:OO:=fun P=>⟨(.type "dict"),none,(.dict #[E P "__module__" 316 (.str "lidprice.patterns" 270),E P "__qualname__" 318 (.str "Pattern" 317),E P "__firstlineno__" 320 (.int 32 319),E P "__static_attributes__" 321 (.ref 111)] 4),#[]⟩
def S7:OO:=fun _=>s2 "Pattern" 311 312 313 32 107 108 314 315
def PP:OO:=fun _=>s3 109 106 "lidprice.patterns" 270
def N5:OO:=fun P=>⟨(.type "dict"),none,(.dict #[E P "__module__" 316 (.str "lidprice.patterns" 270),E P "__firstlineno__" 320 (.int 32 319),E P "__static_attributes__" 321 (.ref 111),E P "__dict__" 323 (.ref 114),E P "__weakref__" 325 (.ref 115),E P "__doc__" 326 .none] 4),#[]⟩
def RL:OO:=fun _=>⟨(.type "type"),none,(.cls ⟨"Pattern",[(.type "object")],[(.ref 113),(.type "object")],112,"Pattern",true,[],[(.ref 148)],false,none,false⟩),#[none,none,(some (.str "Pattern" 309)),(some (.str "Pattern" 317)),(some (.builtin "object.__new__")),(some (.bool true))]⟩
def Nr:OO:=fun _=>⟨(.type "getset_descriptor"),none,(.fields #[(.str "__dict__" 322),(.ref 113),(.builtin "function.__dict__"),(.builtin "function.__dict__#set")]),#[]⟩
def Ky:OO:=fun _=>⟨(.type "getset_descriptor"),none,(.fields #[(.str "__weakref__" 324),(.ref 113),(.builtin "ExceptionGroup.__weakref__"),.none]),#[]⟩
def Qn:OO:=fun _=>s9 113
def Pa:OO:=fun _=>Gp 113
def RM:OO:=fun _=>KY 113
def SJ:OO:=fun P=>⟨(.type "dict"),none,(.dict #[E P "__module__" 336 (.str "lidprice.patterns" 270),E P "__qualname__" 338 (.str "Few" 337),E P "__firstlineno__" 340 (.int 34 339),E P "__init__" 348 (.ref 131),E P "may" 356 (.ref 138),E P "told" 363 (.ref 145),E P "__static_attributes__" 365 (.ref 146)] 7),#[]⟩
def PK:OO:=fun _=>⟨.none,none,(.fields #[(.int 36 0),(.int 4 0),(.ref 130),(.int 41 0),(.int 4 0),(.ref 137),(.int 44 0),(.int 4 0),(.ref 144)]),#[]⟩
def RP:OO:=fun _=>s2 "Few" 331 332 333 34 121 122 334 335
def Rt:OO:=fun _=>s3 123 120 "lidprice.patterns" 270
def RG:OO:=fun _=>Di "self" 344 "count" 345
def Pb:OO:=fun _=>s5 "__init__" "Few.__init__" (inClass (top 16) 0)
def Jx:OO:=fun _=>s6 "__init__" 341 "Few.__init__" 342 343 36 2 125 126 127 128 129 346 347
def Ks:OO:=fun _=>s7 "__init__" "Few.__init__" (inClass (top 16) 0) "lidprice.patterns" 270 130
def SQ:OO:=fun _=>Di "self" 352 "kept" 353
def Pn:OO:=fun _=>s5 "may" "Few.may" (inClass (top 16) 1)
def O5:OO:=fun _=>s6 "may" 349 "Few.may" 350 351 41 2 132 133 134 135 136 354 355
def Jz:OO:=fun _=>s7 "may" "Few.may" (inClass (top 16) 1) "lidprice.patterns" 270 137
def Qj:OO:=fun _=>s4 "self" 360
def QR:OO:=fun _=>s5 "told" "Few.told" (inClass (top 16) 2)
def K9:OO:=fun _=>s6 "told" 357 "Few.told" 358 359 44 1 139 140 141 142 143 361 362
def LK:OO:=fun _=>s7 "told" "Few.told" (inClass (top 16) 2) "lidprice.patterns" 270 144
def Ry:OO:=fun _=>s4 "limit" 364
def Lq:OO:=fun P=>⟨(.type "dict"),none,(.dict #[E P "__module__" 336 (.str "lidprice.patterns" 270),E P "__firstlineno__" 340 (.int 34 339),E P "__init__" 348 (.ref 131),E P "may" 356 (.ref 138),E P "told" 363 (.ref 145),E P "__static_attributes__" 365 (.ref 146),E P "__doc__" 366 .none] 2),#[]⟩
def Nj:OO:=fun _=>⟨(.type "type"),none,(.cls ⟨"Few",[(.ref 113)],[(.ref 148),(.ref 113),(.type "object")],147,"Few",true,[],[],false,none,false⟩),#[(some (.ref 118)),none,(some (.str "Few" 329)),(some (.str "Few" 337)),(some (.builtin "object.__new__")),(some (.bool true))]⟩
def R0:OO:=fun _=>s9 148
def Oz:OO:=fun _=>Gp 148
def RX:OO:=fun P=>⟨(.type "dict"),none,(.dict #[E P "__name__" 165 (.str "law_lidprice_k32_flaws_shown" 504),E P "__doc__" 166 .none,E P "__package__" 167 .none,E P "__loader__" 168 (.builtin "__main__.__loader__#opaque"),E P "__spec__" 169 .none,E P "__annotations__" 170 (.ref 6),E P "__builtins__" 171 (.ref 4),E P "__file__" 173 (.str "/claim/cut.py" 172),E P "__cached__" 174 .none,E P "_wall" 193 (.ref 21),E P "LidError" 213 (.ref 31),E P "NoSets" 229 (.ref 44),E P "NoPattern" 256 (.ref 63),E P "is_whole" 267 (.ref 72),E P "MOST_BOXES" 269 (.int 6 268),E P "MOST_SETS" 273 (.int 64 272),E P "has_box" 281 (.ref 79),E P "boxes_of" 287 (.ref 84),E P "size_of" 294 (.ref 91),E P "with_box" 302 (.ref 98),E P "is_numbers" 308 (.ref 103),E P "Pattern" 328 (.ref 113),E P "Few" 368 (.ref 148),E P "Groups" 408 (.ref 179),E P "Listed" 448 (.ref 212),E P "is_pattern" 455 (.ref 221),E P "less_flaw" 465 (.ref 228),E P "can_grow" 471 (.ref 233),E P "sets_by_size" 477 (.ref 238),E P "more_flaw" 488 (.ref 245),E P "flaw" 494 (.ref 250),E P "need_pattern" 503 (.ref 257),E P "_law_cell_at" 514 (.ref 264),E P "_law_many" 524 (.ref 271),E P "_law_number" 531 (.ref 278),E P "_law_size" 540 (.ref 285),E P "_law_may" 551 (.ref 292),E P "_law_forest" 557 (.ref 297),E P "_law_under" 563 (.ref 302),E P "_law_bits" 569 (.ref 307),E P "_law_listed" 575 (.ref 312),E P "_law_spec" 581 (.ref 317),E P "_law_made" 588 (.ref 324),E P "_law_grown" 598 (.ref 331),E P "_law_lessened" 607 (.ref 338)] 45),#[]⟩
def Mt:OO:=fun _=>⟨.none,none,(.fields #[(.int 1 0),(.int 0 0),(.ref 20),(.int 5 0),(.int 0 0),(.ref 27),(.int 7 0),(.int 0 0),(.ref 40),(.int 9 0),(.int 0 0),(.ref 52),(.int 15 0),(.int 0 0),(.ref 71),(.int 20 0),(.int 0 0),(.ref 78),(.int 22 0),(.int 0 0),(.ref 83),(.int 24 0),(.int 0 0),(.ref 90),(.int 26 0),(.int 0 0),(.ref 97),(.int 28 0),(.int 0 0),(.ref 102),(.int 32 0),(.int 0 0),(.ref 109),(.int 34 0),(.int 0 0),(.ref 123),(.int 46 0),(.int 0 0),(.ref 156),(.int 65 0),(.int 0 0),(.ref 187),(.int 77 0),(.int 0 0),(.ref 220),(.int 79 0),(.int 0 0),(.ref 227),(.int 86 0),(.int 0 0),(.ref 232),(.int 88 0),(.int 0 0),(.ref 237),(.int 94 0),(.int 0 0),(.ref 244),(.int 102 0),(.int 0 0),(.ref 249),(.int 108 0),(.int 0 0),(.ref 256),(.int 115 0),(.int 0 0),(.ref 263),(.int 122 0),(.int 0 0),(.ref 270),(.int 125 0),(.int 0 0),(.ref 277),(.int 127 0),(.int 0 0),(.ref 284),(.int 132 0),(.int 0 0),(.ref 291),(.int 147 0),(.int 0 0),(.ref 296),(.int 156 0),(.int 0 0),(.ref 301),(.int 162 0),(.int 0 0),(.ref 306),(.int 170 0),(.int 0 0),(.ref 311),(.int 185 0),(.int 0 0),(.ref 316),(.int 194 0),(.int 0 0),(.ref 323),(.int 200 0),(.int 0 0),(.ref 330),(.int 205 0),(.int 0 0),(.ref 337)]),#[]⟩
def Ft:OO:=fun _=>⟨(.type "type"),none,(.cls ⟨"Pattern",[(.type "object")],[(.ref 113),(.type "object")],112,"Pattern",true,[],[(.ref 148),(.ref 179),(.ref 212)],false,none,false⟩),#[none,none,(some (.str "Pattern" 309)),(some (.str "Pattern" 317)),(some (.builtin "object.__new__")),(some (.bool true))]⟩
def S8:OO:=fun _=>KY 113
def Qq:OO:=fun P=>⟨(.type "dict"),none,(.dict #[E P "__module__" 376 (.str "lidprice.patterns" 270),E P "__qualname__" 378 (.str "Groups" 377),E P "__firstlineno__" 380 (.int 46 379),E P "__init__" 389 (.ref 164),E P "may" 395 (.ref 169),E P "told" 402 (.ref 176),E P "__static_attributes__" 405 (.ref 177)] 7),#[]⟩
def Q0:OO:=fun _=>⟨.none,none,(.fields #[(.int 48 0),(.int 4 0),(.ref 163),(.int 56 0),(.int 4 0),(.ref 168),(.int 63 0),(.int 4 0),(.ref 175)]),#[]⟩
def RB:OO:=fun _=>s2 "Groups" 371 372 373 46 154 155 374 375
def Rf:OO:=fun _=>s3 156 153 "lidprice.patterns" 270
def Pq:OO:=fun _=>mW "self" 384 "groups" 385 "most" 386
def Qp:OO:=fun _=>s5 "__init__" "Groups.__init__" (inClass (top 17) 0)
def MP:OO:=fun _=>s6 "__init__" 381 "Groups.__init__" 382 383 48 3 158 159 160 161 162 387 388
def Ku:OO:=fun _=>s7 "__init__" "Groups.__init__" (inClass (top 17) 0) "lidprice.patterns" 270 163
def RK:OO:=fun _=>s5 "may" "Groups.may" (inClass (top 17) 1)
def Oa:OO:=fun _=>Cq "may" 390 "Groups.may" 391 392 56 2 165 166 167 393 394
def Lh:OO:=fun _=>s7 "may" "Groups.may" (inClass (top 17) 1) "lidprice.patterns" 270 168
def Rz:OO:=fun _=>s4 "self" 399
def Qw:OO:=fun _=>s5 "told" "Groups.told" (inClass (top 17) 2)
def NT:OO:=fun _=>s6 "told" 396 "Groups.told" 397 398 63 1 170 171 172 173 174 400 401
def KD:OO:=fun _=>s7 "told" "Groups.told" (inClass (top 17) 2) "lidprice.patterns" 270 175
def Qz:OO:=fun _=>Di "groups" 403 "most" 404
def Lb:OO:=fun P=>⟨(.type "dict"),none,(.dict #[E P "__module__" 376 (.str "lidprice.patterns" 270),E P "__firstlineno__" 380 (.int 46 379),E P "__init__" 389 (.ref 164),E P "may" 395 (.ref 169),E P "told" 402 (.ref 176),E P "__static_attributes__" 405 (.ref 177),E P "__doc__" 406 .none] 2),#[]⟩
def K4:OO:=fun _=>⟨(.type "type"),none,(.cls ⟨"Groups",[(.ref 113)],[(.ref 179),(.ref 113),(.type "object")],178,"Groups",true,[],[],false,none,false⟩),#[(some (.ref 151)),none,(some (.str "Groups" 369)),(some (.str "Groups" 377)),(some (.builtin "object.__new__")),(some (.bool true))]⟩
def Ph:OO:=fun _=>s9 179
def QC:OO:=fun _=>Gp 179
def SN:OO:=fun _=>KY 113
def Q7:OO:=fun P=>⟨(.type "dict"),none,(.dict #[E P "__module__" 416 (.str "lidprice.patterns" 270),E P "__qualname__" 418 (.str "Listed" 417),E P "__firstlineno__" 420 (.int 65 419),E P "__init__" 428 (.ref 195),E P "may" 436 (.ref 202),E P "told" 443 (.ref 209),E P "__static_attributes__" 445 (.ref 210)] 7),#[]⟩
def R3:OO:=fun _=>⟨.none,none,(.fields #[(.int 67 0),(.int 4 0),(.ref 194),(.int 72 0),(.int 4 0),(.ref 201),(.int 75 0),(.int 4 0),(.ref 208)]),#[]⟩
def SX:OO:=fun _=>s2 "Listed" 411 412 413 65 185 186 414 415
def Qm:OO:=fun _=>s3 187 184 "lidprice.patterns" 270
def PN:OO:=fun _=>Di "self" 424 "sets" 425
def Oq:OO:=fun _=>s5 "__init__" "Listed.__init__" (inClass (top 18) 0)
def La:OO:=fun _=>s6 "__init__" 421 "Listed.__init__" 422 423 67 2 189 190 191 192 193 426 427
def Lx:OO:=fun _=>s7 "__init__" "Listed.__init__" (inClass (top 18) 0) "lidprice.patterns" 270 194
def Q3:OO:=fun _=>Di "self" 432 "kept" 433
def PL:OO:=fun _=>s5 "may" "Listed.may" (inClass (top 18) 1)
def Mp:OO:=fun _=>s6 "may" 429 "Listed.may" 430 431 72 2 196 197 198 199 200 434 435
def OJ:OO:=fun _=>s7 "may" "Listed.may" (inClass (top 18) 1) "lidprice.patterns" 270 201
def Ou:OO:=fun _=>s4 "self" 440
def Q5:OO:=fun _=>s5 "told" "Listed.told" (inClass (top 18) 2)
def O3:OO:=fun _=>s6 "told" 437 "Listed.told" 438 439 75 1 203 204 205 206 207 441 442
def NK:OO:=fun _=>s7 "told" "Listed.told" (inClass (top 18) 2) "lidprice.patterns" 270 208
def QZ:OO:=fun _=>s4 "sets" 444
def Kw:OO:=fun P=>⟨(.type "dict"),none,(.dict #[E P "__module__" 416 (.str "lidprice.patterns" 270),E P "__firstlineno__" 420 (.int 65 419),E P "__init__" 428 (.ref 195),E P "may" 436 (.ref 202),E P "told" 443 (.ref 209),E P "__static_attributes__" 445 (.ref 210),E P "__doc__" 446 .none] 2),#[]⟩
def O6:OO:=fun _=>⟨(.type "type"),none,(.cls ⟨"Listed",[(.ref 113)],[(.ref 212),(.ref 113),(.type "object")],211,"Listed",true,[],[],false,none,false⟩),#[(some (.ref 182)),none,(some (.str "Listed" 409)),(some (.str "Listed" 417)),(some (.builtin "object.__new__")),(some (.bool true))]⟩
def RW:OO:=fun _=>s9 212
def Qs:OO:=fun _=>Gp 212
def Ow:OO:=fun _=>s4 "thing" 452
def PB:OO:=fun _=>s5 "is_pattern" "is_pattern" (top 19)
def Kq:OO:=fun _=>s6 "is_pattern" 449 "is_pattern" 450 451 77 1 215 216 217 218 219 453 454
def OD:OO:=fun _=>s7 "is_pattern" "is_pattern" (top 19) "lidprice.patterns" 270 220
def QF:OO:=fun _=>⟨(.type "tuple"),none,(.seq #[(.str "lets" 459),(.str "one" 460),(.str "box" 461),(.str "other" 462)] 0),#[]⟩
def Pu:OO:=fun _=>s5 "less_flaw" "less_flaw" (top 20)
def Kh:OO:=fun _=>s6 "less_flaw" 456 "less_flaw" 457 458 79 1 222 223 224 225 226 463 464
def Ld:OO:=fun _=>s7 "less_flaw" "less_flaw" (top 20) "lidprice.patterns" 270 227
def Oo:OO:=fun _=>s5 "can_grow" "can_grow" (top 21)
def Mh:OO:=fun _=>Cq "can_grow" 466 "can_grow" 467 468 86 3 229 230 231 469 470
def Mf:OO:=fun _=>s7 "can_grow" "can_grow" (top 21) "lidprice.patterns" 270 232
def Rh:OO:=fun _=>s5 "sets_by_size" "sets_by_size" (top 22)
def Ly:OO:=fun _=>Cq "sets_by_size" 472 "sets_by_size" 473 474 88 1 234 235 236 475 476
def My:OO:=fun _=>s7 "sets_by_size" "sets_by_size" (top 22) "lidprice.patterns" 270 237
def Rp:OO:=fun _=>⟨(.type "tuple"),none,(.seq #[(.str "lets" 481),(.str "by_size" 482),(.str "size" 483),(.str "other" 484),(.str "one" 485)] 0),#[]⟩
def Ri:OO:=fun _=>s5 "more_flaw" "more_flaw" (top 23)
def Kz:OO:=fun _=>s6 "more_flaw" 478 "more_flaw" 479 480 94 1 239 240 241 242 243 486 487
def M9:OO:=fun _=>s7 "more_flaw" "more_flaw" (top 23) "lidprice.patterns" 270 244
def Q6:OO:=fun _=>s5 "flaw" "flaw" (top 24)
def KC:OO:=fun _=>Cq "flaw" 489 "flaw" 490 491 102 2 246 247 248 492 493
def Jw:OO:=fun _=>s7 "flaw" "flaw" (top 24) "lidprice.patterns" 270 249
def QQ:OO:=fun _=>mW "pattern" 498 "many" 499 "found" 500
def Q4:OO:=fun _=>s5 "need_pattern" "need_pattern" (top 25)
def KJ:OO:=fun _=>s6 "need_pattern" 495 "need_pattern" 496 497 108 2 251 252 253 254 255 501 502
def MT:OO:=fun _=>s7 "need_pattern" "need_pattern" (top 25) "lidprice.patterns" 270 256
def R4:OO:=fun _=>mW "_law_script" 509 "_law_k" 510 "_law_number_here" 511
def Q9:OO:=fun _=>s5 "_law_cell_at" "_law_cell_at" (top 27)
def Kg:OO:=fun _=>s6 "_law_cell_at" 506 "_law_cell_at" 507 508 115 2 258 259 260 261 262 512 513
def NQ:OO:=fun _=>s7 "_law_cell_at" "_law_cell_at" (top 27) "law_lidprice_k32_flaws_shown" 504 263
def Qi:OO:=fun _=>⟨(.type "tuple"),none,(.seq #[(.str "_law_script" 518),(.str "_law_first" 519),(.str "_law_most" 520),(.str "_law_drawn" 521)] 0),#[]⟩
def QS:OO:=fun _=>s5 "_law_many" "_law_many" (top 28)
def Mx:OO:=fun _=>s6 "_law_many" 515 "_law_many" 516 517 122 3 265 266 267 268 269 522 523
def MK:OO:=fun _=>s7 "_law_many" "_law_many" (top 28) "law_lidprice_k32_flaws_shown" 504 270
def Pz:OO:=fun _=>s4 "_law_found" 528
def Qc:OO:=fun _=>s5 "_law_number" "_law_number" (top 29)
def Lw:OO:=fun _=>s6 "_law_number" 525 "_law_number" 526 527 125 1 272 273 274 275 276 529 530
def Ke:OO:=fun _=>s7 "_law_number" "_law_number" (top 29) "law_lidprice_k32_flaws_shown" 504 277
def Ro:OO:=fun _=>mW "_law_kept" 535 "_law_size_here" 536 "_law_box" 537
def RJ:OO:=fun _=>s5 "_law_size" "_law_size" (top 30)
def Nh:OO:=fun _=>s6 "_law_size" 532 "_law_size" 533 534 127 1 279 280 281 282 283 538 539
def N7:OO:=fun _=>s7 "_law_size" "_law_size" (top 30) "law_lidprice_k32_flaws_shown" 504 284
def Rq:OO:=fun _=>⟨(.type "tuple"),none,(.seq #[(.str "_law_spec_here" 544),(.str "_law_kept" 545),(.str "_law_many_here" 546),(.str "_law_box" 547),(.str "_law_group" 548)] 0),#[]⟩
def QD:OO:=fun _=>s5 "_law_may" "_law_may" (top 31)
def KH:OO:=fun _=>s6 "_law_may" 541 "_law_may" 542 543 132 2 286 287 288 289 290 549 550
def Ka:OO:=fun _=>s7 "_law_may" "_law_may" (top 31) "law_lidprice_k32_flaws_shown" 504 291
def Py:OO:=fun _=>s5 "_law_forest" "_law_forest" (top 32)
def M6:OO:=fun _=>Cq "_law_forest" 552 "_law_forest" 553 554 147 2 293 294 295 555 556
def M3:OO:=fun _=>s7 "_law_forest" "_law_forest" (top 32) "law_lidprice_k32_flaws_shown" 504 296
def P0:OO:=fun _=>s5 "_law_under" "_law_under" (top 33)
def N6:OO:=fun _=>Cq "_law_under" 558 "_law_under" 559 560 156 2 298 299 300 561 562
def M4:OO:=fun _=>s7 "_law_under" "_law_under" (top 33) "law_lidprice_k32_flaws_shown" 504 301
def Pr:OO:=fun _=>s5 "_law_bits" "_law_bits" (top 34)
def Mj:OO:=fun _=>Cq "_law_bits" 564 "_law_bits" 565 566 162 2 303 304 305 567 568
def Ls:OO:=fun _=>s7 "_law_bits" "_law_bits" (top 34) "law_lidprice_k32_flaws_shown" 504 306
def Qy:OO:=fun _=>s5 "_law_listed" "_law_listed" (top 35)
def KQ:OO:=fun _=>Cq "_law_listed" 570 "_law_listed" 571 572 170 3 308 309 310 573 574
def Ny:OO:=fun _=>s7 "_law_listed" "_law_listed" (top 35) "law_lidprice_k32_flaws_shown" 504 311
def Qo:OO:=fun _=>s5 "_law_spec" "_law_spec" (top 36)
def Le:OO:=fun _=>Cq "_law_spec" 576 "_law_spec" 577 578 185 2 313 314 315 579 580
def Kp:OO:=fun _=>s7 "_law_spec" "_law_spec" (top 36) "law_lidprice_k32_flaws_shown" 504 316
def Ov:OO:=fun _=>s4 "_law_spec_here" 585
def PX:OO:=fun _=>s5 "_law_made" "_law_made" (top 37)
def Mv:OO:=fun _=>s6 "_law_made" 582 "_law_made" 583 584 194 1 318 319 320 321 322 586 587
def Mm:OO:=fun _=>s7 "_law_made" "_law_made" (top 37) "law_lidprice_k32_flaws_shown" 504 323
def Px:OO:=fun _=>⟨(.type "tuple"),none,(.seq #[(.str "_law_sets" 592),(.str "_law_one" 593),(.str "_law_other" 594),(.str "_law_box" 595)] 0),#[]⟩
def Pk:OO:=fun _=>s5 "_law_grown" "_law_grown" (top 38)
def Mw:OO:=fun _=>s6 "_law_grown" 589 "_law_grown" 590 591 200 3 325 326 327 328 329 596 597
def KN:OO:=fun _=>s7 "_law_grown" "_law_grown" (top 38) "law_lidprice_k32_flaws_shown" 504 330
def R9:OO:=fun _=>mW "_law_sets" 602 "_law_one" 603 "_law_box" 604
def Ox:OO:=fun _=>s5 "_law_lessened" "_law_lessened" (top 39)
def Ni:OO:=fun _=>s6 "_law_lessened" 599 "_law_lessened" 600 601 205 1 332 333 334 335 336 605 606
def M5:OO:=fun _=>s7 "_law_lessened" "_law_lessened" (top 39) "law_lidprice_k32_flaws_shown" 504 337
def Nq:OO:=fun P=>⟨(.type "dict"),none,(.dict #[E P "__name__" 165 (.str "law_lidprice_k32_flaws_shown" 504),E P "__doc__" 166 .none,E P "__package__" 167 .none,E P "__loader__" 168 (.builtin "__main__.__loader__#opaque"),E P "__spec__" 169 .none,E P "__annotations__" 170 (.ref 6),E P "__builtins__" 171 (.ref 4),E P "__file__" 173 (.str "/claim/cut.py" 172),E P "__cached__" 174 .none,E P "_wall" 193 (.ref 21),E P "LidError" 213 (.ref 31),E P "NoSets" 229 (.ref 44),E P "NoPattern" 256 (.ref 63),E P "is_whole" 267 (.ref 72),E P "MOST_BOXES" 269 (.int 6 268),E P "MOST_SETS" 273 (.int 64 272),E P "has_box" 281 (.ref 79),E P "boxes_of" 287 (.ref 84),E P "size_of" 294 (.ref 91),E P "with_box" 302 (.ref 98),E P "is_numbers" 308 (.ref 103),E P "Pattern" 328 (.ref 113),E P "Few" 368 (.ref 148),E P "Groups" 408 (.ref 179),E P "Listed" 448 (.ref 212),E P "is_pattern" 455 (.ref 221),E P "less_flaw" 465 (.ref 228),E P "can_grow" 471 (.ref 233),E P "sets_by_size" 477 (.ref 238),E P "more_flaw" 488 (.ref 245),E P "flaw" 494 (.ref 250),E P "need_pattern" 503 (.ref 257),E P "_law_cell_at" 514 (.ref 264),E P "_law_many" 524 (.ref 271),E P "_law_number" 531 (.ref 278),E P "_law_size" 540 (.ref 285),E P "_law_may" 551 (.ref 292),E P "_law_forest" 557 (.ref 297),E P "_law_under" 563 (.ref 302),E P "_law_bits" 569 (.ref 307),E P "_law_listed" 575 (.ref 312),E P "_law_spec" 581 (.ref 317),E P "_law_made" 588 (.ref 324),E P "_law_grown" 598 (.ref 331),E P "_law_lessened" 607 (.ref 338),E P "_law_stuck" 616 (.ref 345),E P "_law_shown" 627 (.ref 352),E P "_law_right" 633 (.ref 357),E P "law" 645 (.ref 364)] 49),#[]⟩
def Ms:OO:=fun _=>⟨.none,none,(.fields #[(.int 1 0),(.int 0 0),(.ref 20),(.int 5 0),(.int 0 0),(.ref 27),(.int 7 0),(.int 0 0),(.ref 40),(.int 9 0),(.int 0 0),(.ref 52),(.int 15 0),(.int 0 0),(.ref 71),(.int 20 0),(.int 0 0),(.ref 78),(.int 22 0),(.int 0 0),(.ref 83),(.int 24 0),(.int 0 0),(.ref 90),(.int 26 0),(.int 0 0),(.ref 97),(.int 28 0),(.int 0 0),(.ref 102),(.int 32 0),(.int 0 0),(.ref 109),(.int 34 0),(.int 0 0),(.ref 123),(.int 46 0),(.int 0 0),(.ref 156),(.int 65 0),(.int 0 0),(.ref 187),(.int 77 0),(.int 0 0),(.ref 220),(.int 79 0),(.int 0 0),(.ref 227),(.int 86 0),(.int 0 0),(.ref 232),(.int 88 0),(.int 0 0),(.ref 237),(.int 94 0),(.int 0 0),(.ref 244),(.int 102 0),(.int 0 0),(.ref 249),(.int 108 0),(.int 0 0),(.ref 256),(.int 115 0),(.int 0 0),(.ref 263),(.int 122 0),(.int 0 0),(.ref 270),(.int 125 0),(.int 0 0),(.ref 277),(.int 127 0),(.int 0 0),(.ref 284),(.int 132 0),(.int 0 0),(.ref 291),(.int 147 0),(.int 0 0),(.ref 296),(.int 156 0),(.int 0 0),(.ref 301),(.int 162 0),(.int 0 0),(.ref 306),(.int 170 0),(.int 0 0),(.ref 311),(.int 185 0),(.int 0 0),(.ref 316),(.int 194 0),(.int 0 0),(.ref 323),(.int 200 0),(.int 0 0),(.ref 330),(.int 205 0),(.int 0 0),(.ref 337),(.int 211 0),(.int 0 0),(.ref 344),(.int 217 0),(.int 0 0),(.ref 351),(.int 232 0),(.int 0 0),(.ref 356),(.int 248 0),(.int 0 0),(.ref 363)]),#[]⟩
def Rc:OO:=fun _=>mW "_law_sets" 611 "_law_one" 612 "_law_other" 613
def Qh:OO:=fun _=>s5 "_law_stuck" "_law_stuck" (top 40)
def Jy:OO:=fun _=>s6 "_law_stuck" 608 "_law_stuck" 609 610 211 1 339 340 341 342 343 614 615
def Np:OO:=fun _=>s7 "_law_stuck" "_law_stuck" (top 40) "law_lidprice_k32_flaws_shown" 504 344
def R5:OO:=fun _=>⟨(.type "tuple"),none,(.seq #[(.str "_law_sets" 620),(.str "_law_found" 621),(.str "_law_word" 622),(.str "_law_one" 623),(.str "_law_other" 624)] 0),#[]⟩
def RN:OO:=fun _=>s5 "_law_shown" "_law_shown" (top 41)
def Lf:OO:=fun _=>s6 "_law_shown" 617 "_law_shown" 618 619 217 2 346 347 348 349 350 625 626
def Lj:OO:=fun _=>s7 "_law_shown" "_law_shown" (top 41) "law_lidprice_k32_flaws_shown" 504 351
def Rb:OO:=fun _=>s5 "_law_right" "_law_right" (top 42)
def O9:OO:=fun _=>Cq "_law_right" 628 "_law_right" 629 630 232 3 353 354 355 631 632
def Kr:OO:=fun _=>s7 "_law_right" "_law_right" (top 42) "law_lidprice_k32_flaws_shown" 504 356
def PQ:OO:=fun _=>⟨(.type "tuple"),none,(.seq #[(.str "_law_script" 637),(.str "_law_many_here" 638),(.str "_law_spec_here" 639),(.str "_law_pattern" 640),(.str "_law_other" 641),(.str "_law_number_here" 642)] 0),#[]⟩
def Ot:OO:=fun _=>s5 "law" "law" (top 43)
def K6:OO:=fun _=>s6 "law" 634 "law" 635 636 248 1 358 359 360 361 362 643 644
def Mi:OO:=fun _=>s7 "law" "law" (top 43) "law_lidprice_k32_flaws_shown" 504 363
def l0 (P:Params):List Obj:=W.boot_o_0 P::W.boot_o_1 P::W.boot_o_2 P::W.boot_o_3 P::W.boot_o_4 P::W.boot_o_5 P::W.boot_o_6 P::W.boot_o_7 P::W.boot_o_8 P::W.boot_o_9 P::W.boot_o_10 P::s0::s1::VH P::Ug P::[]
def t0 (P:Params):W.BT:=L2.bt 14 (l0 P)
def l1 (P:Params):List Obj:=L2.sets (l0 P) [(3,o3 P),(12,Kv P)]++(s0::s1::VL P::s0::UL P::Td P::Sq P::Uh P::s8::VF P::s0::s1::Uk P::Ue P::s0::Sv P::Su P::Tv P::Ur P::V1 P::VV P::s8::UJ P::s0::s1::U9 P::V3 P::s0::TX P::Sh P::UT P::Ui P::V5 P::s8::V2 P::s0::Ux P::VM P::VD P::s0::s1::Uc P::s0::UW P::TJ P::Tq P::V4 P::TQ P::UG P::VN P::V6 P::s0::s1::VJ P::s0::Ul P::Tc P::Tg P::s0::s1::VB P::s0::Uw P::Tj P::Sx P::s0::s1::U7 P::Tt P::Tz P::s0::s1::Us P::s0::U4 P::Sy P::Tr P::s0::s1::VP P::s0::Ut P::Sg P::Th P::s0::s1::Qt P::Nz P::M8 P::s0::s8::RT P::s0::s1::S7 P::PP P::s0::N5 P::RL P::Nr P::Ky P::Qn P::Pa P::RM P::s8::SJ P::s0::PK P::RP P::Rt P::s0::s1::RG P::s0::Pb P::Jx P::Ks P::s0::s1::SQ P::s0::Pn P::O5 P::Jz P::s0::s1::Qj P::s0::QR P::K9 P::LK P::Ry P::Lq P::Nj P::R0 P::Oz P::[])
def t1 (P:Params):W.BT:=L2.bt 14 (l1 P)
def l2 (P:Params):List Obj:=L2.sets (l1 P) [(3,RX P),(12,Mt P),(113,Ft P)]++(S8 P::s8::Qq P::s0::Q0 P::RB P::Rf P::s0::s1::Pq P::s0::Qp P::MP P::Ku P::s0::s1::RK P::Oa P::Lh P::s0::s1::Rz P::s0::Qw P::NT P::KD P::Qz P::Lb P::K4 P::Ph P::QC P::SN P::s8::Q7 P::s0::R3 P::SX P::Qm P::s0::s1::PN P::s0::Oq P::La P::Lx P::s0::s1::Q3 P::s0::PL P::Mp P::OJ P::s0::s1::Ou P::s0::Q5 P::O3 P::NK P::QZ P::Kw P::O6 P::RW P::Qs P::s0::s1::Ow P::s0::PB P::Kq P::OD P::s0::s1::QF P::s0::Pu P::Kh P::Ld P::s0::s1::Oo P::Mh P::Mf P::s0::s1::Rh P::Ly P::My P::s0::s1::Rp P::s0::Ri P::Kz P::M9 P::s0::s1::Q6 P::KC P::Jw P::s0::s1::QQ P::s0::Q4 P::KJ P::MT P::s0::s1::R4 P::s0::Q9 P::Kg P::NQ P::s0::s1::Qi P::s0::QS P::Mx P::MK P::s0::s1::Pz P::s0::Qc P::Lw P::Ke P::s0::s1::Ro P::s0::RJ P::Nh P::N7 P::s0::s1::Rq P::s0::QD P::KH P::Ka P::s0::s1::Py P::M6 P::M3 P::s0::s1::P0 P::N6 P::M4 P::s0::s1::Pr P::Mj P::Ls P::s0::s1::Qy P::KQ P::Ny P::s0::s1::Qo P::Le P::Kp P::s0::s1::Ov P::s0::PX P::Mv P::Mm P::s0::s1::Px P::s0::Pk P::Mw P::KN P::s0::s1::R9 P::s0::Ox P::Ni P::M5 P::[])
def t2 (P:Params):W.BT:=L2.bt 14 (l2 P)
def l3 (P:Params):List Obj:=L2.sets (l2 P) [(3,Nq P),(12,Ms P)]++(s0::s1::Rc P::s0::Qh P::Jy P::Np P::s0::s1::R5 P::s0::RN P::Lf P::Lj P::s0::s1::Rb P::O9 P::Kr P::s0::s1::PQ P::s0::Ot P::K6 P::Mi P::[])
def t3 (P:Params):W.BT:=L2.bt 14 (l3 P)
def wG:Env:={ scope:=PySem.Challenge.pw_lidprice_k32_flaws_shown.main.scope,locals:=mainNs,globals:=mainNs,cells:=[],code:=(.ref 13),frame:=some 14 }
def g1:List Stmt:=[top 0,top 1,top 2,top 3,top 4,top 5,top 6,top 7,top 8,top 9,top 10,top 11,top 12,top 13,top 14,top 15,top 16]
def g2:List Stmt:=[top 17,top 18,top 19,top 20,top 21,top 22,top 23,top 24,top 25,top 26,top 27,top 28,top 29,top 30,top 31,top 32,top 33,top 34,top 35,top 36,top 37,top 38,top 39]
def g3:List Stmt:=[top 40,top 41,top 42,top 43]
def gs:List Stmt:=g1++(g2++(g3++[]))
def jJ:Code:=.body gs wG
theorem Qf (w:World)(os:OsState):W.segRunT PySem.treeTable PySem.Challenge.pw_lidprice_k32_flaws_shown w 11 (some (.ref 6)) 1 1391 (xO (t0 w.params) 15 187 os) (W.piecesOf g1 wG jJ ⟨0,0,0,0⟩ [W.topFrame ⟨0,0,0,0⟩])=some (.next,xO (t1 w.params) 151 369 os,jJ,⟨34,0,45,16⟩):=by kernel_rfl
theorem R8 (w:World)(os:OsState):W.segRunT PySem.treeTable PySem.Challenge.pw_lidprice_k32_flaws_shown w 11 (some (.ref 6)) 1 1205 (xO (t1 w.params) 151 369 os) (W.piecesOf g2 wG jJ ⟨34,0,45,16⟩ [W.topFrame ⟨0,0,0,0⟩])=some (.next,xO (t2 w.params) 339 608 os,jJ,⟨205,0,210,16⟩):=by kernel_rfl
theorem QX (w:World)(os:OsState):W.segRunT PySem.treeTable PySem.Challenge.pw_lidprice_k32_flaws_shown w 11 (some (.ref 6)) 1 125 (xO (t2 w.params) 339 608 os) (W.piecesOf g3 wG jJ ⟨205,0,210,16⟩ [W.topFrame ⟨0,0,0,0⟩])=some (.next,xO (t3 w.params) 365 646 os,jJ,⟨248,0,256,15⟩):=by kernel_rfl
theorem Qu (w:World)(os:OsState):W.topRun PySem.treeTable PySem.Challenge.pw_lidprice_k32_flaws_shown w 11 (some (.ref 6)) 2 (xO (t3 w.params) 365 646 os).abs (W.restOf [] wG jJ ⟨248,0,256,15⟩ [W.topFrame ⟨0,0,0,0⟩])=some (xO (t3 w.params) 365 646 os).abs:=by kernel_rfl
theorem Rg (w:World)(os:OsState):W.topGo PySem.treeTable PySem.Challenge.pw_lidprice_k32_flaws_shown w 11 (some (.ref 6)) 12 ⟨W.boot_heap w.params,aAA [],W.boot_drawn,W.boot_toks,os⟩ (W.topStub PySem.Challenge.pw_lidprice_k32_flaws_shown)=some ((xO (t0 w.params) 15 187 os).abs,⟨denote PySem.treeTable (.body gs wG),jJ,⟨0,0,0,0⟩,[W.topFrame ⟨0,0,0,0⟩]⟩):=by kernel_rfl
theorem Ra (w:World)(os:OsState):W.segRun PySem.treeTable PySem.Challenge.pw_lidprice_k32_flaws_shown w 11 (some (.ref 6)) 1 1 (xO (t0 w.params) 15 187 os).abs (W.blockOf gs wG jJ ⟨0,0,0,0⟩ [W.topFrame ⟨0,0,0,0⟩])=some (.next,(xO (t0 w.params) 15 187 os).abs,jJ,⟨0,0,0,0⟩):=by kernel_rfl
def tK (P:Params):W.Frag :=
(nat_lit 2,W.boot_o_2 P) ::
(nat_lit 3,Nq P) ::
(nat_lit 20,Td P) ::
(nat_lit 21,Sq P) ::
(nat_lit 30,Sv P) ::
(nat_lit 31,Su P) ::
(nat_lit 32,Tv P) ::
(nat_lit 43,TX P) ::
(nat_lit 44,Sh P) ::
(nat_lit 59,TJ P) ::
(nat_lit 60,Tq P) ::
(nat_lit 62,TQ P) ::
(nat_lit 63,UG P) ::
(nat_lit 71,Tc P) ::
(nat_lit 72,Tg P) ::
(nat_lit 78,Tj P) ::
(nat_lit 79,Sx P) ::
(nat_lit 83,Tt P) ::
(nat_lit 84,Tz P) ::
(nat_lit 90,Sy P) ::
(nat_lit 91,Tr P) ::
(nat_lit 97,Sg P) ::
(nat_lit 98,Th P) ::
(nat_lit 102,Nz P) ::
(nat_lit 103,M8 P) ::
(nat_lit 112,N5 P) ::
(nat_lit 113,Ft P) ::
(nat_lit 114,Nr P) ::
(nat_lit 115,Ky P) ::
(nat_lit 130,Jx P) ::
(nat_lit 131,Ks P) ::
(nat_lit 137,O5 P) ::
(nat_lit 138,Jz P) ::
(nat_lit 144,K9 P) ::
(nat_lit 145,LK P) ::
(nat_lit 147,Lq P) ::
(nat_lit 148,Nj P) ::
(nat_lit 163,MP P) ::
(nat_lit 164,Ku P) ::
(nat_lit 168,Oa P) ::
(nat_lit 169,Lh P) ::
(nat_lit 175,NT P) ::
(nat_lit 176,KD P) ::
(nat_lit 178,Lb P) ::
(nat_lit 179,K4 P) ::
(nat_lit 194,La P) ::
(nat_lit 195,Lx P) ::
(nat_lit 201,Mp P) ::
(nat_lit 202,OJ P) ::
(nat_lit 208,O3 P) ::
(nat_lit 209,NK P) ::
(nat_lit 211,Kw P) ::
(nat_lit 212,O6 P) ::
(nat_lit 220,Kq P) ::
(nat_lit 221,OD P) ::
(nat_lit 227,Kh P) ::
(nat_lit 228,Ld P) ::
(nat_lit 232,Mh P) ::
(nat_lit 233,Mf P) ::
(nat_lit 237,Ly P) ::
(nat_lit 238,My P) ::
(nat_lit 244,Kz P) ::
(nat_lit 245,M9 P) ::
(nat_lit 249,KC P) ::
(nat_lit 250,Jw P) ::
(nat_lit 256,KJ P) ::
(nat_lit 257,MT P) ::
(nat_lit 263,Kg P) ::
(nat_lit 264,NQ P) ::
(nat_lit 270,Mx P) ::
(nat_lit 271,MK P) ::
(nat_lit 277,Lw P) ::
(nat_lit 278,Ke P) ::
(nat_lit 284,Nh P) ::
(nat_lit 285,N7 P) ::
(nat_lit 291,KH P) ::
(nat_lit 292,Ka P) ::
(nat_lit 296,M6 P) ::
(nat_lit 297,M3 P) ::
(nat_lit 301,N6 P) ::
(nat_lit 302,M4 P) ::
(nat_lit 306,Mj P) ::
(nat_lit 307,Ls P) ::
(nat_lit 311,KQ P) ::
(nat_lit 312,Ny P) ::
(nat_lit 316,Le P) ::
(nat_lit 317,Kp P) ::
(nat_lit 323,Mv P) ::
(nat_lit 324,Mm P) ::
(nat_lit 330,Mw P) ::
(nat_lit 331,KN P) ::
(nat_lit 337,Ni P) ::
(nat_lit 338,M5 P) ::
(nat_lit 344,Jy P) ::
(nat_lit 345,Np P) ::
(nat_lit 351,Lf P) ::
(nat_lit 352,Lj P) ::
(nat_lit 356,O9 P) ::
(nat_lit 357,Kr P) ::
(nat_lit 363,K6 P) ::
(nat_lit 364,Mi P)::[]
def Jm:List Addr:=2::3::20::21::30::31::32::43::44::59::60::62::63::71::72::78::79::83::84::90::91::97::98::102::103::112::113::114::115::130::131::137::138::144::145::147::148::163::164::168::169::175::176::178::179::194::195::201::202::208::209::211::212::220::221::227::228::232::233::237::238::244::245::249::250::256::257::263::264::270::271::277::278::284::285::291::292::296::297::301::302::306::307::311::312::316::317::323::324::330::331::337::338::344::345::351::352::356::357::363::364::[]
theorem wR:∀ P,Jm=(tK P).map (·.1):=fun _=>by kernel_rfl
def vw:Program:={ PySem.Challenge.pw_lidprice_k32_flaws_shown with main:={ (PySem.Challenge.pw_lidprice_k32_flaws_shown).main with body:=[top 0,top 2,top 3,top 4,top 6,top 7,top 9,top 10,top 11,top 12,top 13,top 14,top 15,top 16,top 17,top 18,top 19,top 20,top 21,top 22,top 23,top 24,top 25,top 27,top 28,top 29,top 30,top 31,top 32,top 33,top 34,top 35,top 36,top 37,top 38,top 39,top 40,top 41,top 42,top 43] } }
def Tw (s:Shared):Bool:=W.xlAt vw [] s&&W.recOk (W.RowW.records (W.OpenRow.toRowW (W.OpenLaw.row PySem.Challenge.rw_lidprice_k32_flaws_shown))) s
theorem K8:W.LeftO PySem.Challenge.pw_lidprice_k32_flaws_shown vw [] Tw (W.Hook.obs (W.kHook tK Jm wR)) (W.Hook.val (W.kHook tK Jm wR)) 6162 :=
 L2.Cu (Tb:=t0) (Tf:=t3) (nf:=365) (kf:=646) (env:=wG) (C:=jJ) (gs:=gs) (m0:=11) (ann:=(some (.ref 6))) (by kernel_rfl) (by decide) (fun _=>by kernel_rfl) (fun _=>by kernel_rfl) Rg Ra (c:=1391+(1205+(125+(2)))) (fun w os=>L2.uH (Qf w os) (L2.uH (R8 w os) (L2.uH (QX w os) (Qu w os)))) (by decide) (fun _=>by kernel_rfl)
end
end K32
open PySem PySem.W PyProof.Rows
set_option maxRecDepth 100000 in
set_option maxHeartbeats 0 in
theorem PySem.Challenge.cw_lidprice_k32_flaws_shown_holds : PySem.Challenge.rw_lidprice_k32_flaws_shown.Holds := by
 w_on
 refine PySem.W.holds_law K32.O7 fun said=>?_;refine PySem.W.holds_open (N:=6162) (q:=K32.vw) (loose:=[]) (Xt:=K32.Tw) (XP:=PySem.W.XL K32.vw [])
  (Yf:=PySem.W.Hook.obs (PySem.W.kHook K32.tK K32.Jm K32.wR)) (Ya:=PySem.W.Hook.val (PySem.W.kHook K32.tK K32.Jm K32.wR))
  (YP:=PySem.W.Hook.says (PySem.W.kHook K32.tK K32.Jm K32.wR)) K32.K8
  (PySem.W.Hook.of _) (PySem.W.Hook.keeps _) (fun s e=>PySem.W.xl_of s (aAP.mp e).1) PySem.W.XL.keeps
  (by rfl) (by rfl) (by rfl) (fun s e=>PySem.W.recFacts_of (aAP.mp e).2)
  (by rfl) (by first | assumption | decide +kernel) (by decide +kernel)
  ⟨rfl,rfl,rfl,rfl,rfl,by decide +kernel⟩ ?hw ?hc
 case hw=>w_witness2
 k_fill
 refine K32.walk (l:=PySem.Challenge.rw_lidprice_k32_flaws_shown) rfl rfl (fun w h Y=>by first | exact PySem.W.kIn_of Y | exact PySem.W.km_in_of Y) ?F
 case F =>
  intro w mg fa h KX G hmg;apply K32.JS KX G hmg
  all_goals first | k_is | kit_is | exact ⟨by k_is,L2.Ez (by k_is) (by k_is) (by k_is)⟩ | exact ⟨by k_is,by k_is,L2.Ez (by k_is) (by k_is) (by k_is)⟩ | (refine ⟨?_,?_,⟨?_,?_,?_,?_⟩,⟨?_,?_,?_,?_⟩,⟨?_,?_,?_,?_⟩,?_,?_,?_,?_,?_,?_,?_,?_,?_,?_,?_,?_⟩ <;> first | k_is | kit_is | kernel_rfl | (unfold L2.cX; kernel_rfl) | decide) | (refine TP.Jr.of ?_ <;> first | k_is | kit_is | kernel_rfl | (unfold L2.cX; kernel_rfl) | decide) | (refine ⟨?_⟩ <;> first | k_is | kit_is | kernel_rfl | (unfold L2.cX; kernel_rfl) | decide) | (refine ⟨?_,?_,?_⟩ <;> first | k_is | kit_is | kernel_rfl | (unfold L2.cX; kernel_rfl) | decide) | (refine ⟨?_,?_,?_,?_,?_,?_,?_,?_⟩ <;> first | k_is | kit_is | kernel_rfl | (unfold L2.cX; kernel_rfl) | decide) | kernel_rfl | exact rfl | decide
