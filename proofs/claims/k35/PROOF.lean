import PyProof.Rows.All
import Wide.All
import OpenK.AllK
import Wide.FinOn
import Lean
import PyProof.EqAt
import PyProof.EqKinds
import PyProof.TupleCall
import PyProof.NeKinds
import KE.IntBitsLaws
import KE.KRevIter
import KE.KSortKey
import KE.KLam
import KE.KNestM
import KE.KDictList
import PyProof.ConsumeWalk
import PyProof.ZipIter
import PyProof.Rows.Range3
import PyProof.CollectWalk
import PyProof.ListNew
import KE.KDictOf
import PyProof.Rows.SetFrom
import KE.KUnpack
import PySem.Challenge.RW_lidprice_k35_patterns_refused
open PySem.Heap renaming get?_push_of_some → VJ, lt_size → VM, get?_push_size → V5, get?_update_other → WL, MadeExcOf → W5, get?_update_self → W7, get?_none_of_le → W8, SameBut → Wc, FlyingW → Wd, size_push → Ws
open List renaming size_toArray → VL, length_map → VR, replicate → V0, getElem?_eq_getElem → V1, getElem?_eq_some_iff → V3, mem_of_getElem? → V8, mem_cons_of_mem → V9, mem_singleton → Vb, getElem?_map → Vd, map_append → Ve, mem_append_right → Vf, length_append → Vg, mem_cons → Vh, getElem_toArray → Vi, getElem?_set_self → Vj, length_cons → Vk, length_replicate → Vl, mem_cons_self → Vn, lookup_cons → Vo, map_cons → Vp, getD_eq_getElem?_getD → Vq, all_eq_true → Vr, getElem?_set_ne → Vs, mem_filterMap → Vu, append_nil → Vw, nodup_cons → Vx, lookup → Vz, replicate_succ → V_, length_take → WD, getElem?_replicate → WF, filter_append → WM, mem_filter → WN, length_filter_le → WP, range → WQ, mem_range → WR, getElem?_append_right → WT, filter_cons → WW, take_length → WX, filterMap_cons → WY, mem_append → W2, flatten_cons → W4, length_range → W6, of_mem_zip → W9, length_nil → Wa, getElem?_append_left → Wh, pairwise_iff_getElem → Wi, append_assoc → Wj, any_cons → Wk, getElem_mem → Wm, not_mem_nil → Wn, mem_map → Wo, length_set → Wq, mem_append_left → Wr, mem_iff_getElem → Wt, nodup_nil → Wu, contains_cons → XH, any_eq_false → XJ, map_nil → XN, nodup_append → XR, any_eq_true → X3, length → X5, foldl → X7, map → X8
open Bool renaming false_ne_true → VN, and_eq_true → Vc, eq_iff_iff → Vv, or_eq_true → Wb, and_eq_true_iff → Ww, true_and → Wz, false_eq_true → XF, not_eq_true' → XQ
open Nat renaming le_refl → VP, lt_of_lt_of_le → V2, ne_of_lt → V6, le_trans → Va, lt_irrefl → Vm, zero_le → Vt, le_of_lt → WK, lt_of_le_of_lt → Wg, pow_le_pow_right → Wv, add_le_add_left → Wy, le_of_eq → XM, lt_succ_self → XX, le_succ → X4
open Int renaming emod_lt_of_pos → V4, emod_nonneg → V7, ediv_nonneg → W3, lt_trans → We, fdiv_eq_ediv_of_nonneg → Wf, toNat_natCast → XS
open Option renaming some → Vy, isSome_iff_exists → W0
open Array renaming mk → Wl, length_toList → Wx, append_assoc → W_, find?_toList → XC
set_option Elab.async false
set_option linter.all false
set_option maxRecDepth 100000
namespace K35
open PySem PySem.W
abbrev Lr:=PySem.Challenge.rw_lidprice_k35_patterns_refused
abbrev wA:Program:=Lr.row.toRowW.prog
theorem Pu:sreFenced wA.main=true:=by kernel_rfl
theorem Qp:((moduleNames wA.main.body).isEmpty||lookedIntoSs (moduleNames wA.main.body) wA.main.body)=true:=by kernel_rfl
theorem Q5:namesResolve wA=true:=by kernel_rfl
theorem Pb:(wA.boundNames.all fun n=>!worldNames.contains n)=true:=by kernel_rfl
theorem Qu:noRoadLSs { strict:=!(importedModules wA.main.body).all cThrough.contains,foot:=none,bare:=(["vars","dir","locals"]:List Str).filter (readsOut wA wA.main.body) } wA.main.body=true:=by kernel_rfl
theorem Qs:(namesMeet wA wA.main.body fun _ n=>attrL n)=true:=by kernel_rfl
theorem QR:looksOpen wA=true:=by
 unfold looksOpen;exact look_both (look_both (look_both (look_both (look_both Pu Qp) Q5) Pb) Qu) Qs
theorem Qj:Lr.row.wellSaid=true:=by
 unfold OpenRow.wellSaid OpenRow.partSaid;rw [QR]
 kernel_rfl
theorem Ii:Lr.wellSaid=true:=by
 unfold OpenLaw.wellSaid;rw [Qj]
 kernel_rfl
end K35
namespace L2
open PySem PySem.Spec PyProof.Rows
abbrev Key:=Sum Int Str
def o9:Key →Value →Bool
 | .inl k,v=>Value.isInt k v
 | .inr x,v=>Value.isStrOf x v
def Lx (w:World):Key →Int
 | .inl k=>hashInt k
 | .inr x=>hashStr w x
theorem bU:∀ {k:Key}{v:Value},o9 k v=true →(∃ i t,k=Sum.inl i∧v=Value.int i t)∨(∃ x t,k=Sum.inr x∧v=Value.str x t)
 | .inl i,v,h=>by
  obtain ⟨t,e⟩:=Value.isInt_shape (k:=i) (v:=v) h;exact .inl ⟨i,t,rfl,e⟩
 | .inr x,v,h=>by
  obtain ⟨t,e⟩:=Value.isStrOf_shape (x:=x) (v:=v) h;exact .inr ⟨x,t,rfl,e⟩
theorem wW (i:Int)(t:Tok):o9 (.inl i) (.int i t)=true:=by simp [o9,Value.isInt]
theorem wF (x:Str)(t:Tok):o9 (.inr x) (.str x t)=true:=by simp [o9,Value.isStrOf]
theorem Df (a b:Int):decide ((Sum.inl a:Key)=Sum.inl b)=(a==b):=by
 by_cases e:a=b
 ·subst e; simp
 ·have h:¬ (Sum.inl a:Key)=Sum.inl b:=fun q=>e (Sum.inl.inj q);rw [decide_eq_false h];exact (beq_eq_false_iff_ne.mpr e).symm
theorem Cd (a b:Str):decide ((Sum.inr a:Key)=Sum.inr b)=decide (a=b):=by
 by_cases e:a=b
 ·subst e; simp
 ·have h:¬ (Sum.inr a:Key)=Sum.inr b:=fun q=>e (Sum.inr.inj q);rw [decide_eq_false h,decide_eq_false e]
theorem DW (a:Int)(b:Str):decide ((Sum.inl a:Key)=Sum.inr b)=false:=decide_eq_false (fun q=>nomatch q)
theorem CV (a:Str)(b:Int):decide ((Sum.inr a:Key)=Sum.inl b)=false:=decide_eq_false (fun q=>nomatch q)
def cW (prog:Program)(w:World):PySem.KeyKind prog w Key where
 is:=o9
 hash:=Lx w
 inj:=fun v a b ha hb=>by
  rcases bU ha with ⟨i,t,rfl,rfl⟩ | ⟨x,t,rfl,rfl⟩
  ·rcases bU hb with ⟨j,u,rfl,e⟩ | ⟨y,u,rfl,e⟩
   ·injection e with e1 _; rw [e1]
   ·exact nomatch e
  ·rcases bU hb with ⟨j,u,rfl,e⟩ | ⟨y,u,rfl,e⟩
   ·exact nomatch e
   ·injection e with e1 _; rw [e1]
 byValue:=fun k v h=>by
  rcases bU h with ⟨i,t,rfl,rfl⟩ | ⟨x,t,rfl,rfl⟩ <;> rfl
 pyHash:=fun hv h=>by
  rcases bU hv with ⟨i,t,rfl,rfl⟩ | ⟨x,t,rfl,rfl⟩
  ·exact wpAny_pyHash_int h
  ·exact wpAny_pyHash_str h
 eqBool:=fun hu hv h=>by
  rcases bU hu with ⟨i,t,rfl,rfl⟩ | ⟨x,t,rfl,rfl⟩
  ·rcases bU hv with ⟨j,u,rfl,rfl⟩ | ⟨y,u,rfl,rfl⟩
   ·rw [Df] at h; exact wpAny_eqBool_int h
   ·rw [DW] at h; exact SeqAt.EqAt.int_str i t y u _ _ _ _ h
  ·rcases bU hv with ⟨j,u,rfl,rfl⟩ | ⟨y,u,rfl,rfl⟩
   ·rw [CV] at h; exact SeqAt.EqAt.str_int x t j u _ _ _ _ h
   ·rw [Cd] at h; exact wpAny_eqBool_str h
 «strs»:=fun k x t v h=>by
  rcases bU h with ⟨i,u,rfl,e⟩ | ⟨y,u,rfl,e⟩
  ·exact nomatch e
  ·injection e with e1 _
   subst e1;cases v <;> rfl
theorem qW (prog:Program)(w:World)(i:Int)(t:Tok):(cW prog w).is (.inl i) (.int i t)=true:=wW i t
theorem rQ (prog:Program)(w:World)(x:Str)(t:Tok):(cW prog w).is (.inr x) (.str x t)=true:=wF x t
inductive V where
 | non | bl (b:Bool) | int (i:Int) | str (x:Str) | byt (b:Array UInt8) | flt (b:UInt64) | ref (a:Addr) | ty (n:String)
 deriving DecidableEq
def RelV:V →Value →Prop
 | .non,u=>u=Value.none
 | .bl b,u=>u=Value.bool b
 | .int i,u=>∃ t,u=Value.int i t
 | .str x,u=>∃ t,u=Value.str x t
 | .byt b,u=>∃ t,u=Value.bytes b t
 | .flt b,u=>∃ t,u=Value.float b t
 | .ref a,u=>u=Value.ref a
 | .ty n,u=>u=Value.type n
abbrev bC:List V →List Value →Prop:=Paired RelV
theorem bC.length {xs:List V}{us:List Value}(r:bC xs us):xs.length=us.length:=Paired.length r
theorem bC.get:∀ {xs:List V}{us:List Value}{i:Nat}{x:V},bC xs us →xs[i]? = some x →∃ u,us[i]? = some u∧RelV x u
 | _,_,_,_,.nil,e=>by simp at e
 | _,_,0,_,.cons r _,e=>by simp at e; subst e; exact ⟨_,rfl,r⟩
 | _,_,i+1,x,.cons _ t,e=>by
  obtain ⟨u,h1,h2⟩:=bC.get (i:=i) (x:=x) t (by simpa using e);exact ⟨u,by simpa using h1,h2⟩
theorem bC.set {x:V}{u:Value}(r:RelV x u):∀ {xs:List V}{us:List Value} (i:Nat),bC xs us →bC (xs.set i x) (us.set i u)
 | _,_,_,.nil=>.nil
 | _,_,0,.cons _ t=>.cons r t
 | _,_,i+1,.cons q t=>.cons q (bC.set r i t)
theorem bC.append:∀ {xs ys:List V}{us ws:List Value},bC xs us →bC ys ws →bC (xs++ys) (us++ws)
 | _,_,_,_,.nil,s=>s
 | _,_,_,_,.cons r t,s=>.cons r (bC.append t s)
def jQ:Option V →Option Value →Prop
 | some v,some u=>RelV v u
 | none,none=>True
 | _,_=>False
def KV {κ:Type}:List (κ×V) →List (κ×Value) →Prop:=Paired fun (p:κ×V) (q:κ×Value)=>p.1=q.1∧RelV p.2 q.2
def kV:Key →V
 | .inl i=>.int i
 | .inr x=>.str x
inductive HO where
 | lst (xs:List V)
 | tup (xs:List V)
 | dK (kvs:List (Key×V)) | dT (kvs:List (List Key×V))
 | set (S:Int →Bool) (n:Nat)
 | ins (C dx:Addr) (fs:List (Str×V))
 | own (x:Addr)
 | xd (fs:List (Str×V))
 | met (f x:Addr)
 | rng (lo hi:Int)
 | frz (o:Obj) (u:HO)
 | tbl (ps:Array Value)
 | ext (φ:Heap →Prop)
abbrev Hp:=Addr →Option HO
def aR (H:Hp)(a:Addr)(o:HO):Hp:=fun b=>if b=a then some o else H b
theorem aB {H:Hp}{a:Addr}{o:HO}:aR H a o a=some o:=by unfold aR; rw [if_pos rfl]
theorem aM {H:Hp}{a b:Addr}{o:HO}(h:b≠a):aR H a o b=H b:=by unfold aR; rw [if_neg h]
theorem BX {H:Hp}{a:Addr}{o u:HO}:aR (aR H a o) a u=aR H a u:=by
 funext b; unfold aR; split <;> rfl
theorem lB {H:Hp}{a b:Addr}{o u:HO}(h:H a=some o)(h':H b=some u)(d:o≠u):a≠b:=by
 intro e; subst e; rw [h] at h'; exact d (Vy.inj h')
theorem bO {H:Hp}{a b:Addr}{o:HO}(h:H a=some o)(h':H b=none):a≠b:=by
 intro e; subst e; rw [h] at h'; cases h'
section
variable (P:Program)(w:World)
def bH (H:Hp)(h:Heap)(a:Addr):HO →Prop
 | .lst xs=>xs.length ≤ sizeLine∧∃ (its:List Value) (n:Nat),bC xs its∧h.get? a=some { cls:=.type "list",data:=.seq its.toArray n }
 | .tup xs=>xs.length ≤ sizeLine∧∃ its:List Value,bC xs its∧IsTup h a its.toArray
 | .dK kvs=>kvs.length ≤ sizeLine∧(a==sysModules)=false∧∃ vs,KV kvs vs∧h.DictOf (cW P w) a vs
 | .dT kvs=>kvs.length ≤ sizeLine∧(a==sysModules)=false∧∃ xs:List (List Key×Addr×Value),
   Paired (fun (p:List Key×V) (q:List Key×Addr×Value)=>p.1=q.1∧H q.2.1=some (.tup (p.1.map kV))∧RelV p.2 q.2.2) kvs xs ∧
   ∃ o es ep,h.get? a=some o∧o.ExactDict∧o.data=.dict es ep∧es.toList=xs.map (entryOfKey (tupleKind (cW P w)))∧(xs.map (·.1)).Nodup
 | .set S n=>h.SetOf (intKind P w) a S n
 | .ins C dx fs=>H dx=some (.own a)∧fs.length ≤ 1000∧dx≠a∧h.get? a=some (PySem.W.instObj C dx) ∧
   ∃ mA,h.Ns1 dx mA∧(∀ f,jQ (fs.lookup f) (mA f))∧PySem.Within mA (fs.map (·.1))
 | .own _=>∃ o,h.get? a=some o
 | .xd fs=>∃ mA,h.Ns1 a mA∧∀ f,jQ (fs.lookup f) (mA f)
 | .rng lo hi=>∃ t u v,h.get? a=some { cls:=.type "range",data:=.fields #[.int lo t,.int hi u,.int 1 v] }
 | .frz o u=>h.get? a=some o∧bH H h a u
 | .tbl ps=>h.get? a=some { cls:=.none,data:=.fields ps }
 | .met f x=>h.get? a=some (PySem.W.methodObj (.ref f) (.ref x))
 | .ext φ=>φ h∧(∃ o,h.get? a=some o)∧∀ h1 h2:Heap,φ h1 →(∀ o,h1.get? a=some o →h2.get? a=some o) →φ h2
def iY (H:Hp)(h:Heap):Prop:=∀ a o,H a=some o →bH P w H h a o
end
section
variable {P:Program}{w:World}{H H':Hp}{h h':Heap}{a:Addr}{o:HO}
theorem bH.lt (x:bH P w H h a o):a<h.objs.size:=by
 cases o with
 | lst xs=>obtain ⟨_,_,_,_,e⟩:=x; exact VM e
 | tup xs=>obtain ⟨_,_,_,p⟩:=x; exact p.lt
 | dK kvs=>obtain ⟨_,_,_,_,o,_,_,e,_⟩:=x; exact VM e
 | dT kvs=>obtain ⟨_,_,_,_,o,_,_,e,_⟩:=x; exact VM e
 | set S n=>obtain ⟨o,_,_,_,e,_⟩:=x; exact VM e
 | ins C dx fs=>obtain ⟨_,_,_,e,_⟩:=x; exact VM e
 | own y=>obtain ⟨_,e⟩:=x; exact VM e
 | xd fs=>obtain ⟨_,⟨_,_,_,e,_⟩,_⟩:=x; exact VM e
 | rng lo hi=>obtain ⟨_,_,_,e⟩:=x; exact VM e
 | frz ob u=>obtain ⟨e,_⟩:=x; exact VM e
 | tbl ps=>exact VM (show h.get? a=some _ from x)
 | met f y=>exact VM (show h.get? a=some _ from x)
 | ext φ=>obtain ⟨_,⟨_,e⟩,_⟩:=x; exact VM e
theorem Paired.mapP {α β:Type}{F G:α →β →Prop}:∀ {l₁:List α}{l₂:List β},Paired F l₁ l₂ →(∀ a b,F a b →G a b) →Paired G l₁ l₂
 | _,_,.nil,_=>.nil
 | _,_,.cons r t,f=>.cons (f _ _ r) (Paired.mapP t f)
theorem bH.stay (x:bH P w H h a o)(k:∀ b u,(b=a∨H b=some (.own a)) →h.get? b=some u →h'.get? b=some u)
  (ho:∀ b,H b=some (.own a) →H' b=some (.own a)) (ht:∀ b xs,H b=some (.tup xs) →H' b=some (.tup xs)):bH P w H' h' a o:=by
 induction o with
 | lst xs=>obtain ⟨z,its,n,r,e⟩:=x; exact ⟨z,its,n,r,k _ _ (.inl rfl) e⟩
 | tup xs=>obtain ⟨z,its,r,ob,e,c⟩:=x; exact ⟨z,its,r,ob,k _ _ (.inl rfl) e,c⟩
 | dK kvs=>obtain ⟨z,y,vs,r,ob,es,ep,e,c⟩:=x; exact ⟨z,y,vs,r,ob,es,ep,k _ _ (.inl rfl) e,c⟩
 | dT kvs =>
  obtain ⟨z,y,xs,r,ob,es,ep,e,c⟩:=x;exact ⟨z,y,xs,Paired.mapP r fun p q z=>⟨z.1,ht _ _ z.2.1,z.2.2⟩,ob,es,ep,k _ _ (.inl rfl) e,c⟩
 | set S n=>obtain ⟨ob,es,ep,t,e,c⟩:=x; exact ⟨ob,es,ep,t,k _ _ (.inl rfl) e,c⟩
 | ins C dx fs =>
  obtain ⟨d,z,ne,e,mA,⟨od,es,ep,e2,c⟩,r⟩:=x;exact ⟨ho _ d,z,ne,k _ _ (.inl rfl) e,mA,⟨od,es,ep,k _ _ (.inr d) e2,c⟩,r⟩
 | own y=>obtain ⟨ob,e⟩:=x; exact ⟨ob,k _ _ (.inl rfl) e⟩
 | xd fs=>obtain ⟨mA,⟨od,es,ep,e,c⟩,r⟩:=x; exact ⟨mA,⟨od,es,ep,k _ _ (.inl rfl) e,c⟩,r⟩
 | rng lo hi=>obtain ⟨t,u,v,e⟩:=x; exact ⟨t,u,v,k _ _ (.inl rfl) e⟩
 | frz ob u ih=>obtain ⟨e,q⟩:=x; exact ⟨k _ _ (.inl rfl) e,ih q⟩
 | tbl ps =>
  have e:h.get? a=some { cls:=.none,data:=.fields ps }:=x;show h'.get? a=some { cls:=.none,data:=.fields ps };exact k a _ (.inl rfl) e
 | met f y =>
  have e:h.get? a=some (PySem.W.methodObj (.ref f) (.ref y)):=x;show h'.get? a=some (PySem.W.methodObj (.ref f) (.ref y));exact k a _ (.inl rfl) e
 | ext φ=>obtain ⟨p,⟨o,e⟩,st⟩:=x; exact ⟨st _ _ p fun o q=>k _ _ (.inl rfl) q,⟨o,k _ _ (.inl rfl) e⟩,st⟩
theorem iY.lt (x:iY P w H h)(e:H a=some o):a<h.objs.size:=(x a o e).lt
theorem iY.fresh (x:iY P w H h)(e:h.objs.size ≤ a):H a=none:=by
 cases q:H a with
 | none=>rfl
 | some u=>exact absurd (V2 (x.lt q) e) (Vm _)
theorem iY.kept (x:iY P w H h)(k:∀ b u,h.get? b=some u →h'.get? b=some u):iY P w H h':=fun a o e =>
 (x a o e).stay (fun b u _ q=>k b u q) (fun _ q=>q) fun _ _ q=>q
theorem iY.laid (x:iY P w H h)(k:∀ b u,h.get? b=some u →h'.get? b=some u)(hp:h.objs.size ≤ a)(new:bH P w (aR H a o) h' a o):iY P w (aR H a o) h':=fun b u e=>by
 have hn:=x.fresh hp
 by_cases hb:b=a
 ·subst hb; rw [aB] at e; cases e; exact new
 ·rw [aM hb] at e;exact (x b u e).stay (fun c v _ q=>k c v q) (fun c q=>by rw [aM (bO q hn)]; exact q) fun c xs q=>by rw [aM (bO q hn)]; exact q
end
def Rd (H:Hp)(a:Addr)(u:HO):Prop:=H a=some u∨∃ o,H a=some (.frz o u)
theorem Rd.ok {P:Program}{w:World}{H:Hp}{h:Heap}{a:Addr}{u:HO}(r:Rd H a u)(x:iY P w H h):bH P w H h a u:=by
 rcases r with r | ⟨o,r⟩
 ·exact x a u r
 ·obtain ⟨_,q⟩:=x a _ r;exact q
def Gx:Option HO →Prop
 | some (.lst _)=>True
 | some (.dK _)=>True
 | some (.dT _)=>True
 | some (.set _ _)=>True
 | some (.ins _ _ _)=>True
 | some (.ext _)=>True
 | _=>False
section
variable {P:Program}{w:World}{H:Hp}{h h':Heap}{x e:Addr}{o':HO}
theorem iY.write (ok:iY P w H h)(mu:Gx (H x))(he:e=x∨H e=some (.own x))(k:∀ b u,b≠e →h.get? b=some u →h'.get? b=some u)(heo:∃ u,h'.get? e=some u)
  (new:bH P w (aR H x o') h' x o'):iY P w (aR H x o') h':=fun b u q=>by
 have nown:∀ c y,H c=some (.own y) →c≠x:=fun c y r z=>by subst z; rw [r] at mu; exact mu
 have ntup:∀ c xs,H c=some (.tup xs) →c≠x:=fun c xs r z=>by subst z; rw [r] at mu; exact mu
 by_cases hb:b=x
 ·subst hb; rw [aB] at q; cases q; exact new
 ·rw [aM hb] at q
  by_cases hbe:b=e
  ·have q':H b=some (.own x):=by
    rcases he with z | z
    ·exact absurd (hbe.trans z) hb
    ·rw [hbe]; exact z
   rw [q] at q'; cases q';obtain ⟨v,hv⟩:=heo;exact ⟨v,by rw [hbe]; exact hv⟩
  ·refine (ok b u q).stay (fun c v hc r=>k c v ?_ r) (fun c r=>by rw [aM (nown c b r)]; exact r) fun c xs r=>by rw [aM (ntup c xs r)]; exact r
   rcases hc with rfl | hc
   ·exact hbe
   ·rintro rfl;rcases he with z | z
    ·exact nown c b hc z
    ·rw [hc] at z; cases z; exact hb rfl
end
structure Un (fs ex:List Addr)(H H':Hp)(h h':Heap):Prop where
 keep:∀ b o,h.get? b=some o →H b=none →b∉fs →b∉ex →h'.get? b=some o
 slot:∀ b o,h.get? b=some o →H b=none →b∈fs →b∉ex →∃ sl,h'.get? b=some { o with slots:=sl }
 free:∀ b o,h.get? b=some o →H b=none →b∉ex →H' b=none
 there:∀ b o,h.get? b=some o →b∉ex →∃ o',h'.get? b=some o'
 tups:∀ b xs,H b=some (.tup xs) →H' b=some (.tup xs)
 frzs:∀ b o u,H b=some (.frz o u) →H' b=some (.frz o u)
 tbls:∀ b ps,H b=some (.tbl ps) →∃ more,H' b=some (.tbl (ps++more))
section
variable {fs fs' ex ex':List Addr}{H H1 H2:Hp}{h h1 h2 h':Heap}{a x e:Addr}{o:HO}
theorem Un.any (u:Un fs ex H H1 h h1){b:Addr}{ob:Obj}(q:h.get? b=some ob)(n:H b=none)(hx:b∉ex):∃ sl,h1.get? b=some { ob with slots:=sl }:=by
 by_cases hb:b∈fs
 ·exact u.slot b ob q n hb hx
 ·exact ⟨ob.slots,u.keep b ob q n hb hx⟩
theorem Un.trans (a:Un fs ex H H1 h h1)(b:Un fs ex H1 H2 h1 h2):Un fs ex H H2 h h2 where
 keep:=fun c ob q n hc hx=>b.keep c ob (a.keep c ob q n hc hx) (a.free c ob q n hx) hc hx
 slot:=fun c ob q n hc hx=>by
  obtain ⟨sl,e1⟩:=a.slot c ob q n hc hx;obtain ⟨sl',e2⟩:=b.slot c _ e1 (a.free c ob q n hx) hc hx;exact ⟨sl',e2⟩
 free:=fun c ob q n hx=>by
  obtain ⟨o',e1⟩:=a.there c ob q hx;exact b.free c o' e1 (a.free c ob q n hx) hx
 there:=fun c ob q hx=>by
  obtain ⟨o',e1⟩:=a.there c ob q hx;exact b.there c o' e1 hx
 tups:=fun c xs q=>b.tups c xs (a.tups c xs q)
 frzs:=fun c ob xs q=>b.frzs c ob xs (a.frzs c ob xs q)
 tbls:=fun c ps q=>by
  obtain ⟨m1,e1⟩:=a.tbls c ps q;obtain ⟨m2,e2⟩:=b.tbls c _ e1;exact ⟨m1++m2,by rw [e2,W_]⟩
theorem Un.kept (k:∀ b u,h.get? b=some u →h'.get? b=some u):Un fs ex H H h h' :=
 ⟨fun b ob q _ _ _=>k b ob q,fun b ob q _ _ _=>⟨ob.slots,k b ob q⟩,fun _ _ _ n _=>n,fun b ob q _=>⟨ob,k b ob q⟩,fun _ _ q=>q,fun _ _ _ q=>q,fun _ ps q=>⟨#[],by rw [q]; simp⟩⟩
theorem Un.refl:Un fs ex H H h h:=Un.kept fun _ _ q=>q
theorem Un.laid (k:∀ b u,h.get? b=some u →h'.get? b=some u)(hp:h.objs.size ≤ a)(hn:H a=none):Un fs ex H (aR H a o) h h' where
 keep:=fun b u q _ _ _=>k b u q
 slot:=fun b u q _ _ _=>⟨u.slots,k b u q⟩
 free:=fun b u q n _=>by rw [aM (V6 (V2 (VM q) hp))]; exact n
 there:=fun b u q _=>⟨u,k b u q⟩
 tups:=fun b xs q=>by rw [aM (bO q hn)]; exact q
 frzs:=fun b u xs q=>by rw [aM (bO q hn)]; exact q
 tbls:=fun b ps q=>⟨#[],by rw [aM (bO q hn),q]; simp⟩
theorem Un.write (mu:Gx (H x))(he:e=x∨H e=some (.own x))(k:∀ b u,b≠e →h.get? b=some u →h'.get? b=some u)(heo:∃ u,h'.get? e=some u):Un fs ex H (aR H x o) h h':=by
 have hx:∀ b,H b=none →b≠x:=fun b n z=>by subst z; rw [n] at mu; exact mu
 have hb:∀ b,H b=none →b≠e:=fun b n z=>by
  subst z;rcases he with r | r
  ·exact hx b n r
  ·rw [n] at r; cases r
 have hm:∀ b u,H b=some u →¬ Gx (some u) →b≠x:=fun b u q nm z=>by subst z; rw [q] at mu; exact nm mu
 refine ⟨fun b u q n _ _=>k b u (hb b n) q,fun b u q n _ _=>⟨u.slots,k b u (hb b n) q⟩,fun b u q n _=>by rw [aM (hx b n)]; exact n,fun b u q _=>?_,
  fun b xs q=>by rw [aM (hm b _ q fun z=>z)]; exact q,fun b u xs q=>by rw [aM (hm b _ q fun z=>z)]; exact q,fun b ps q=>⟨#[],by rw [aM (hm b _ q fun z=>z),q]; simp⟩⟩
 by_cases hbe:b=e
 ·subst hbe; exact heo
 ·exact ⟨u,k b u hbe q⟩
end
def JP (h:Heap)(H:Hp):List Addr:=(WQ h.objs.size).filter fun a=>(H a).isSome
def pW (h:Heap)(H:Hp):Heap:=PySem.W.hideAll h (JP h H)
theorem wK (h:Heap)(H:Hp):(pW h H).objs.size=h.objs.size:=PySem.W.hideAll_size _ _
theorem xJ {h:Heap}{H:Hp}{b:Addr}{o:Obj}(e:h.get? b=some o)(n:H b=none):(pW h H).get? b=some o :=
 PySem.W.hideAll_get _ e fun hm=>by
  have q:(H b).isSome=true:=(WN.mp hm).2;rw [n] at q; simp at q
theorem Am {h:Heap}{H:Hp}{b:Addr}{o:Obj}(e:(pW h H).get? b=some o):h.get? b=some o∧H b=none:=by
 have e':h.get? b=some o:=PySem.W.of_hideAll (JP h H) e;refine ⟨e',?_⟩;cases q:H b with
 | none=>rfl
 | some x =>
  have hm:b∈JP h H:=WN.mpr ⟨WR.mpr (VM e'),by simp [q]⟩;have z:(pW h H).get? b=none:=PySem.W.hideAll_none (JP h H) hm;rw [z] at e; cases e
def Aw (g h:Heap)(L:Addr):List (Addr×Obj):=(WQ h.objs.size).filterMap fun a=>if a=L∨(g.get? a).isSome=true then none else (h.get? a).map fun o=>(a,o)
def rest (g h:Heap)(L d:Addr):List (Addr×Obj):=(Aw g h L).filter fun p=>decide (p.1≠d)
structure Mod (K:PySem.W.Frag)(mg:Str →Option Value)(base:Heap):Prop where
 kin:K.In base
 glob:base.Ns mainGlobals mg
 blt:∃ mb,base.Ns builtinsNs mb∧∀ x:Str,x≠"__name__" →mb x=bootBuiltins x
 nolimit:base.NoLimit
structure Cx where
 prog:Program
 w:World
 K:PySem.W.Frag
 mg:Str →Option Value
 base:Heap
 A:Around
 N:List Str
 s₀:Shared
 H₀:Hp
 env:Env
 outer:List Env
 stack:List Env
 ex:List Addr
 fn:Str →Bool
 calm:Bool
 pn:List (Addr×Obj)
 xe:Value →Shared →Prop
def fH (l:List Env):List Addr:=l.filterMap (·.frame)
abbrev Cx.fs (X:Cx):List Addr:=fH X.outer
def JH (sc:Scope)(x:Str):Prop:=sc.names.lookup x=some .local∨sc.names.lookup x=some .cell∨sc.names.lookup x=some .free
def Loc (sc:Scope)(x:Str):Prop:=sc.names.lookup x=some .local∨sc.names.lookup x=some .cell
def Look (env:Env)(h:Heap)(m:Str →Option Value)(x:Str)(u:Value):Prop :=
 (env.kindOf x=some .local∧m x=some u)∨((env.kindOf x=some .cell∨env.kindOf x=some .free)∧∃ c,env.cells.lookup x=some c∧h.IsCell c (some u))
structure Cx.Ok (X:Cx):Prop where
 mod:Mod X.K X.mg X.base
 kind:X.env.scope.kind=.function
 glob:X.env.globals=mainGlobals
 blt:X.env.builtins=builtinsNs
 above:X.s₀.heap.objs.size ≤ X.env.locals
 inj:∀ x y c,X.env.cells.lookup x=some c →X.env.cells.lookup y=some c →x=y
 has:∀ x,(X.env.kindOf x=some .cell∨X.env.kindOf x=some .free) →∃ c,X.env.cells.lookup x=some c
 cab:∀ x c,X.fn x=true →X.env.cells.lookup x=some c →X.s₀.heap.objs.size ≤ c
 hd:X.calm=true →X.A.handled=none
 frames:X.A.frames=some X.stack
 stk:X.stack=X.outer∨(X.stack=X.env::X.outer∧X.env.frame=some X.env.locals)
 exf:∀ b∈X.ex,b≠X.env.locals∧∀ x c,X.env.cells.lookup x=some c →c≠b
 bs:∀ b o,X.base.get? b=some o →X.s₀.heap.get? b=some o∧X.H₀ b=none
 bsz:X.base.objs.size ≤ X.s₀.heap.objs.size
 noex:∀ b o,X.base.get? b=some o →b∉X.ex
 exfs:∀ b∈X.ex,b∉X.fs
 funs:X.s₀.heap.FunFrames X.base X.outer
 frf:∀ b∈X.fs,X.H₀ b=none
structure aL (X:Cx)(pins:List (Addr×Obj))(σ:List (Option V))(H:Hp)(s:Shared):Prop where
 ok:X.Ok
 os:s.os=X.s₀.os
 bare:AllBare s.gens
 base:Un X.fs X.ex X.H₀ H X.s₀.heap s.heap
 loc:∃ m,s.heap.Ns X.env.locals m∧∀ (i:Nat) (x:Str) (v:V),X.N[i]? = some x →σ[i]? = some (some v) →JH X.env.scope x →∃ u,RelV v u∧Look X.env s.heap m x u
 cell:∀ x c,X.env.cells.lookup x=some c →∃ v,s.heap.IsCell c v
 free:H X.env.locals=none
 freeC:∀ x c,X.env.cells.lookup x=some c →H c=none
 pin:∀ p∈X.pn++pins,s.heap.get? p.1=some p.2∧H p.1=none∧p.1≠X.env.locals∧p.1∉X.fs∧∀ v,p.2.data≠.cell v
 hok:iY X.prog X.w H s.heap
 len:σ.length=X.N.length
section
variable {X:Cx}{pins:List (Addr×Obj)}{σ:List (Option V)}{H H':Hp}{s:Shared}{h':Heap}
theorem Cx.Ok.nofr (ok:X.Ok){b:Addr}{o:Obj}(e:X.base.get? b=some o):b∉X.fs:=fun hb=>by
 have:=(ok.funs.mem hb).1;rw [e] at this; cases this
theorem aL.bs (I:aL X pins σ H s):∀ b o,X.base.get? b=some o →s.heap.get? b=some o∧H b=none:=fun b o e =>
 ⟨I.base.keep b o (I.ok.bs b o e).1 (I.ok.bs b o e).2 (I.ok.nofr e) (I.ok.noex b o e),I.base.free b o (I.ok.bs b o e).1 (I.ok.bs b o e).2 (I.ok.noex b o e)⟩
theorem aL.bk (I:aL X pins σ H s):∀ b o,X.base.get? b=some o →s.heap.get? b=some o:=fun b o e=>(I.bs b o e).1
theorem aL.mod (I:aL X pins σ H s):Mod X.K X.mg X.base:=I.ok.mod
theorem aL.kIn (I:aL X pins σ H s):X.K.In s.heap:=I.ok.mod.kin.keeps I.bk
theorem aL.lt (I:aL X pins σ H s):X.env.locals<s.heap.objs.size:=let ⟨_,hn,_⟩:=I.loc; hn.lt
theorem aL.sz (I:aL X pins σ H s):X.s₀.heap.objs.size ≤ s.heap.objs.size:=Va I.ok.above (WK I.lt)
theorem aL.nofs (I:aL X pins σ H s){a:Addr}(h:s.heap.objs.size ≤ a):a∉X.fs:=fun hb=>by
 obtain ⟨_,o,ho,_⟩:=I.ok.funs.mem hb;exact absurd (V2 (VM ho) (Va I.sz h)) (Vm _)
theorem aL.cne (I:aL X pins σ H s):∀ x c,X.env.cells.lookup x=some c →c≠X.env.locals:=fun x c e z=>by
 obtain ⟨v,o,ho,hd⟩:=I.cell x c e;obtain ⟨m,⟨o',es,ep,ho',hd',_⟩,_⟩:=I.loc;rw [z,ho'] at ho; cases ho; rw [hd'] at hd; cases hd
theorem aL.funs (I:aL X pins σ H s):s.heap.FunFrames X.base X.outer:=by
 have all:∀ (l:List Env),(∀ b∈fH l,b∈X.fs) →X.s₀.heap.FunFrames X.base l →s.heap.FunFrames X.base l:=by
  intro l
  induction l with
  | nil=>intro _ _; trivial
  | cons env r ih =>
   intro hs hl;obtain ⟨hk,⟨L,o,hf,hn,ho,hd⟩,hr⟩:=hl;have hL:L∈X.fs:=hs L (by unfold fH; rw [WY,hf]; exact Vn);obtain ⟨sl,e⟩:=I.base.slot L o ho (I.ok.frf L hL) hL fun z=>I.ok.exfs L z hL;exact ⟨hk,⟨L,_,hf,hn,e,hd⟩,ih (fun b hb=>hs b (by unfold fH; rw [WY,hf]; exact V9 _ hb)) hr⟩
 exact all X.outer (fun _ hb=>hb) I.ok.funs
theorem aL.stack (I:aL X pins σ H s):s.heap.FunFrames X.base X.stack:=by
 rcases I.ok.stk with e | ⟨e,hf⟩
 ·rw [e]; exact I.funs
 ·rw [e];obtain ⟨m,hn,_⟩:=I.loc;refine .cons (by rw [I.ok.kind]; decide) hf hn ?_ I.funs;exact W8 (Va I.ok.bsz I.ok.above)
theorem aL.stkSub (I:aL X pins σ H s):∀ b∈fH X.stack,b∈X.env.locals::X.fs:=fun b hb=>by
 rcases I.ok.stk with e | ⟨e,hf⟩
 ·rw [e] at hb; exact V9 _ hb
 ·rw [e] at hb;unfold fH at hb;rw [WY,hf] at hb;exact hb
theorem aL.stkFree (I:aL X pins σ H s):∀ b∈fH X.stack,H b=none:=fun b hb=>by
 rcases Vh.mp (I.stkSub b hb) with e | hb
 ·rw [e]; exact I.free
 ·obtain ⟨_,o,ho,_⟩:=I.ok.funs.mem hb;exact I.base.free b o ho (I.ok.frf b hb) fun z=>I.ok.exfs b z hb
theorem aL.step {g':Array GenState}{t':Nat}{d':Drawn}{ch:List Addr}(I:aL X pins σ H s)
  (hch:∀ b∈ch,(b∈X.ex∨X.s₀.heap.objs.size ≤ b)∧b≠X.env.locals∧(∀ x c,X.env.cells.lookup x=some c →c≠b)∧∀ p∈X.pn++pins,p.1≠b)
  (keep:∀ b o,b≠X.env.locals →b∉X.fs →b∉ch →s.heap.get? b=some o →H b=none →h'.get? b=some o)
  (slot:∀ b o,b≠X.env.locals →b∈X.fs →b∉ch →s.heap.get? b=some o →H b=none →∃ sl,h'.get? b=some { o with slots:=sl }) (free:∀ b o,b∉ch →s.heap.get? b=some o →H b=none →H' b=none)
  (there:∀ b o,b∉ch →s.heap.get? b=some o →∃ o',h'.get? b=some o')
  (tups:∀ b xs,H b=some (.tup xs) →H' b=some (.tup xs)) (frzs:∀ b o u,H b=some (.frz o u) →H' b=some (.frz o u)) (tbls:∀ b ps,H b=some (.tbl ps) →∃ more,H' b=some (.tbl (ps++more)))
  (ns:∀ m,s.heap.Ns X.env.locals m →h'.Ns X.env.locals m) (hok:iY X.prog X.w H' h') (hg:AllBare g') :
  aL X pins σ H' { s with heap:=h',gens:=g',drawn:=d',toks:=t' }:=by
 have neL:∀ b o,X.s₀.heap.get? b=some o →b≠X.env.locals:=fun b o e=>V6 (V2 (VM e) I.ok.above);have neC:∀ b o,X.s₀.heap.get? b=some o →b∉X.ex →b∉ch:=fun b o e hx hb=>by
  rcases (hch b hb).1 with z | z
  ·exact hx z
  ·exact absurd (V2 (VM e) z) (Vm _)
 have cellK:∀ x c,X.env.cells.lookup x=some c →∀ v,s.heap.IsCell c v →h'.IsCell c v:=fun x c e v ⟨o,ho,hd⟩=>by
  have nch:c∉ch:=fun z=>(hch c z).2.2.1 x c e rfl
  by_cases hc:c∈X.fs
  ·obtain ⟨sl,q⟩:=slot c o (I.cne x c e) hc nch ho (I.freeC x c e);exact ⟨_,q,hd⟩
  ·exact ⟨o,keep c o (I.cne x c e) hc nch ho (I.freeC x c e),hd⟩
 refine ⟨I.ok,I.os,hg,⟨fun b o e n hb hx=>?_,fun b o e n hb hx=>?_,fun b o e n hx=>?_,fun b o e hx=>?_,fun b xs e=>tups b xs (I.base.tups b xs e),fun b o xs e=>frzs b o xs (I.base.frzs b o xs e),fun b ps e=>?_⟩,?_,fun x c e=>?_,?_,fun x c e=>?_,fun p hp=>?_,hok,I.len⟩
 ·exact keep b o (neL b o e) hb (neC b o e hx) (I.base.keep b o e n hb hx) (I.base.free b o e n hx)
 ·obtain ⟨sl,e1⟩:=I.base.slot b o e n hb hx;obtain ⟨sl',e2⟩:=slot b _ (neL b o e) hb (neC b o e hx) e1 (I.base.free b o e n hx);exact ⟨sl',e2⟩
 ·obtain ⟨o',e1⟩:=I.base.there b o e hx;exact free b o' (neC b o e hx) e1 (I.base.free b o e n hx)
 ·obtain ⟨o',e1⟩:=I.base.there b o e hx;exact there b o' (neC b o e hx) e1
 ·obtain ⟨m1,e1⟩:=I.base.tbls b ps e;obtain ⟨m2,e2⟩:=tbls b _ e1;exact ⟨m1++m2,by rw [e2,W_]⟩
 ·obtain ⟨m,hn,hl⟩:=I.loc;refine ⟨m,ns m hn,fun i x v e1 e2 e3=>?_⟩;obtain ⟨u,r,l⟩:=hl i x v e1 e2 e3;refine ⟨u,r,?_⟩;rcases l with l | ⟨k,c,e,z⟩
  ·exact .inl l
  ·exact .inr ⟨k,c,e,cellK x c e _ z⟩
 ·obtain ⟨v,z⟩:=I.cell x c e;exact ⟨v,cellK x c e v z⟩
 ·obtain ⟨m,⟨o,_,_,ho,_⟩,_⟩:=I.loc;exact free _ o (fun z=>(hch _ z).2.1 rfl) ho I.free
 ·obtain ⟨v,o,ho,hd⟩:=I.cell x c e;exact free c o (fun z=>(hch c z).2.2.1 x c e rfl) ho (I.freeC x c e)
 ·obtain ⟨e,n,ne,nf,d⟩:=I.pin p hp;have nch:p.1∉ch:=fun z=>(hch p.1 z).2.2.2 p hp rfl;exact ⟨keep p.1 p.2 ne nf nch e n,free p.1 p.2 nch e n,ne,nf,d⟩
theorem aL.un {t':Nat}(I:aL X pins σ H s)(u:Un X.fs [] H H' s.heap h')(hok:iY X.prog X.w H' h'):aL X pins σ H' { s with heap:=h',toks:=t' }:=by
 obtain ⟨m,⟨o,es,ep,ho,r⟩,_⟩:=id I.loc;obtain ⟨sl,hL⟩:=u.any ho I.free (by simp);exact I.step (g':=s.gens) (d':=s.drawn) (ch:=[]) (fun _ z=>nomatch z) (fun b o _ hb _ e n=>u.keep b o e n hb (by simp)) (fun b o _ hb _ e n=>u.slot b o e n hb (by simp)) (fun b o _ e n=>u.free b o e n (by simp)) (fun b o _ e=>u.there b o e (by simp)) u.tups u.frzs u.tbls (fun m' hm=>by
  obtain ⟨o',es',ep',ho',r'⟩:=hm;rw [ho] at ho'; cases ho';exact ⟨_,es',ep',hL,r'⟩) hok I.bare
theorem aL.call {g':Array GenState}{t':Nat}{d':Drawn}{ch:List Addr}(I:aL X pins σ H s)(u:Un (fH X.stack) ch H H' s.heap h')(hok:iY X.prog X.w H' h')(hg:AllBare g')
  (hch:∀ b∈ch,(b∈X.ex∨X.s₀.heap.objs.size ≤ b)∧b≠X.env.locals∧(∀ x c,X.env.cells.lookup x=some c →c≠b)∧∀ p∈X.pn++pins,p.1≠b) :
  aL X pins σ H' { s with heap:=h',gens:=g',drawn:=d',toks:=t' }:=by
 obtain ⟨m,⟨o,es,ep,ho,r⟩,_⟩:=id I.loc;obtain ⟨sl,hL⟩:=u.any ho I.free fun z=>(hch _ z).2.1 rfl;exact I.step (ch:=ch) hch (fun b o hL hb hc e n=>u.keep b o e n (fun z=>(Vh.mp (I.stkSub b z)).elim hL hb) hc) (fun b o _ _ hc e n=>u.any e n hc) (fun b o hc e n=>u.free b o e n hc) (fun b o hc e=>u.there b o e hc) u.tups u.frzs u.tbls (fun m' hm=>by
  obtain ⟨o',es',ep',ho',r'⟩:=hm;rw [ho] at ho'; cases ho';exact ⟨_,es',ep',hL,r'⟩) hok hg
theorem aL.turned {t':Nat}{it:Addr}(I:aL X pins σ H s)(k:∀ b o,b≠it →s.heap.get? b=some o →h'.get? b=some o)(hn:H it=none)(hL:it≠X.env.locals)
  (h1:it∈X.ex∨X.s₀.heap.objs.size ≤ it) (h2:∀ x c,X.env.cells.lookup x=some c →c≠it) (h3:∀ p∈X.pn++pins,p.1≠it):aL X pins σ H { s with heap:=h',toks:=t' }:=by
 have nit:∀ b u,H b=some u →b≠it:=fun b u e z=>by rw [z,hn] at e; cases e
 refine I.step (g':=s.gens) (d':=s.drawn) (ch:=[it]) (fun b hb=>?_) (fun b o _ _ hc e _=>k b o (fun z=>hc (by simp [z])) e) (fun b o _ _ hc e _=>⟨o.slots,k b o (fun z=>hc (by simp [z])) e⟩) (fun _ _ _ _ n=>n)
  (fun b o hc e=>⟨o,k b o (fun z=>hc (by simp [z])) e⟩) (fun _ _ e=>e) (fun _ _ _ e=>e) (fun b ps e=>⟨#[],by rw [e]; simp⟩) (fun m hm=>?_) (fun b u e=>?_) I.bare
 ·have e:b=it:=by simpa using hb
  subst e;exact ⟨h1,hL,h2,h3⟩
 ·obtain ⟨o,es,ep,ho,r⟩:=hm;exact ⟨o,es,ep,k _ o (Ne.symm hL) ho,r⟩
 ·refine (I.hok b u e).stay (fun c v hc q=>k c v ?_ q) (fun _ q=>q) fun _ _ q=>q;rcases hc with z | z
  ·rw [z]; exact nit b u e
  ·exact nit c _ z
theorem aL.tok (I:aL X pins σ H s)(t:Nat):aL X pins σ H { s with toks:=t }:=I.un (h':=s.heap) (t':=t) Un.refl I.hok
theorem aL.kept {t':Nat}(I:aL X pins σ H s)(k:∀ b u,s.heap.get? b=some u →h'.get? b=some u):aL X pins σ H { s with heap:=h',toks:=t' }:=I.un (Un.kept k) (I.hok.kept k)
theorem aL.laid {a:Addr}{o:HO}{t':Nat}(I:aL X pins σ H s)(k:∀ b u,s.heap.get? b=some u →h'.get? b=some u)(hp:s.heap.objs.size ≤ a)(new:bH X.prog X.w (aR H a o) h' a o) :
  aL X pins σ (aR H a o) { s with heap:=h',toks:=t' }:=I.un (Un.laid k hp (I.hok.fresh hp)) (I.hok.laid k hp new)
theorem aL.write {x e:Addr}{o:HO}{t':Nat}(I:aL X pins σ H s)(mu:Gx (H x))(he:e=x∨H e=some (.own x))(k:∀ b u,b≠e →s.heap.get? b=some u →h'.get? b=some u)(heo:∃ u,h'.get? e=some u)
  (new:bH X.prog X.w (aR H x o) h' x o):aL X pins σ (aR H x o) { s with heap:=h',toks:=t' }:=I.un (Un.write mu he k heo) (I.hok.write mu he k heo new)
theorem aL.pins_of {pins':List (Addr×Obj)}(I:aL X pins σ H s)(h:∀ p∈pins',s.heap.get? p.1=some p.2∧H p.1=none∧p.1≠X.env.locals∧p.1∉X.fs∧∀ v,p.2.data≠.cell v):aL X pins' σ H s :=
 ⟨I.ok,I.os,I.bare,I.base,I.loc,I.cell,I.free,I.freeC,fun p hp=>(W2.mp hp).elim (fun z=>I.pin p (Wr _ z)) (h p),I.hok,I.len⟩
theorem mF {N:List Str}(hN:N.Nodup){i j:Nat}{x:Str}(a:N[i]? = some x)(b:N[j]? = some x):i=j:=by
 obtain ⟨h1,e1⟩:=V3.mp a;obtain ⟨h2,e2⟩:=V3.mp b;exact (List.getElem_inj hN).mp (e1.trans e2.symm)
theorem iC {M:Model}{A:Around}{E:Value →Shared →Prop}{i:Nat}{x:Str}{v:V}{u:Value}{Q:Unit →Shared →Prop}(I:aL X pins σ H s)(hN:X.N.Nodup)(hi:X.N[i]? = some x)(hx:Loc X.env.scope x)(r:RelV v u)
  (h:∀ s',aL X pins (σ.set i (some v)) H s' →(∃ a,Wc a s.heap s'.heap∧(a=X.env.locals∨X.env.cells.lookup x=some a)) →Q () s') (hf:X.fn x=true∨X.env.scope.names.lookup x=some .local:=by first | exact .inl rfl | exact .inr rfl | assumption):wpAny M A (storeName X.env x u) Q E s:=by
 obtain ⟨m,hn,hl⟩:=id I.loc;have hcls:(X.env.scope.kind==.class||(X.env.scope.kind==.module&&X.env.locals != X.env.globals))=false:=by rw [I.ok.kind]; rfl
 have hiσ:i < σ.length:=by rw [I.len]; exact (V3.mp hi).1
 have cne:=I.cne;have tracked:∀ {a:Addr}{h':Heap},(∃ o,s.heap.get? a=some o∧H a=none) →Wc a s.heap h' →iY X.prog X.w H h':=fun {a h'} ha hs b ob e=>by
  obtain ⟨_,_,hfree⟩:=ha;refine (I.hok b ob e).stay (fun c w' hc q=>(hs.2 c ?_).trans q) (fun _ q=>q) fun _ _ q=>q;rintro rfl;rcases hc with rfl | hc
  ·rw [hfree] at e; cases e
  ·rw [hfree] at hc; cases hc
 rcases hx with hk | hk
 ·refine wpAny_storeName_local hk hn (fun h' hn' hs=>?_) hcls;obtain ⟨oL,_,_,hoL,_⟩:=id hn;refine h _ ⟨I.ok,I.os,I.bare,⟨fun b o e n hb hx=>?_,fun b o e n hb hx=>?_,I.base.free,fun b o e hx=>?_,I.base.tups,I.base.frzs,I.base.tbls⟩,⟨_,hn',fun j y v' e1 e2 e3=>?_⟩,fun y c e=>?_,I.free,I.freeC,fun p hp=>?_,tracked ⟨oL,hoL,I.free⟩ hs,by simpa using I.len⟩ ⟨_,hs,.inl rfl⟩
  ·exact (hs.2 b (V6 (V2 (VM e) I.ok.above))).trans (I.base.keep b o e n hb hx)
  ·obtain ⟨sl,e1⟩:=I.base.slot b o e n hb hx;exact ⟨sl,(hs.2 b (V6 (V2 (VM e) I.ok.above))).trans e1⟩
  ·obtain ⟨o',e1⟩:=I.base.there b o e hx;exact ⟨o',(hs.2 b (V6 (V2 (VM e) I.ok.above))).trans e1⟩
  ·by_cases hj:j=i
   ·subst hj;rw [hi] at e1; cases e1;rw [Vj hiσ] at e2;cases e2;exact ⟨u,r,.inl ⟨hk,by simp⟩⟩
   ·rw [Vs (Ne.symm hj)] at e2;obtain ⟨u',r',q⟩:=hl j y v' e1 e2 e3;refine ⟨u',r',?_⟩;rcases q with ⟨k,e⟩ | ⟨k,c,e,z⟩
    ·refine .inl ⟨k,?_⟩;have:y≠x:=fun e=>hj (mF hN e1 (e ▸ hi));simp [this,e]
    ·exact .inr ⟨k,c,e,z.sameBut hs (cne y c e)⟩
  ·obtain ⟨w',z⟩:=I.cell y c e;exact ⟨w',z.sameBut hs (cne y c e)⟩
  ·obtain ⟨e,n,ne,nf,d⟩:=I.pin p hp;exact ⟨(hs.2 p.1 ne).trans e,n,ne,nf,d⟩
 ·have hfn:X.fn x=true:=by
   rcases hf with z | z
   ·exact z
   ·rw [z] at hk; cases hk
  obtain ⟨c,hc⟩:=I.ok.has x (.inl hk);obtain ⟨w',z⟩:=I.cell x c hc;refine wpAny_storeName_cell I.ok.kind hk hc z (fun h' hc' hs=>?_);obtain ⟨oc,hoc,hocd⟩:=id z;refine h { s with heap:=h' } ⟨I.ok,I.os,I.bare,⟨fun b o e n hb hx=>?_,fun b o e n hb hx=>?_,I.base.free,fun b o e hx=>?_,I.base.tups,I.base.frzs,I.base.tbls⟩,⟨m,hn.sameBut hs (Ne.symm (cne x c hc)),fun j y v' e1 e2 e3=>?_⟩,fun y c' e=>?_,I.free,I.freeC,fun p hp=>?_,tracked ⟨oc,hoc,I.freeC x c hc⟩ hs,by simpa using I.len⟩ ⟨c,hs,.inr hc⟩
  ·exact (hs.2 b (V6 (V2 (VM e) (I.ok.cab x c hfn hc)))).trans (I.base.keep b o e n hb hx)
  ·obtain ⟨sl,e1⟩:=I.base.slot b o e n hb hx;exact ⟨sl,(hs.2 b (V6 (V2 (VM e) (I.ok.cab x c hfn hc)))).trans e1⟩
  ·obtain ⟨o',e1⟩:=I.base.there b o e hx;exact ⟨o',(hs.2 b (V6 (V2 (VM e) (I.ok.cab x c hfn hc)))).trans e1⟩
  ·by_cases hj:j=i
   ·subst hj;rw [hi] at e1; cases e1;rw [Vj hiσ] at e2;cases e2;exact ⟨u,r,.inr ⟨.inl hk,c,hc,hc'⟩⟩
   ·rw [Vs (Ne.symm hj)] at e2;obtain ⟨u',r',q⟩:=hl j y v' e1 e2 e3;refine ⟨u',r',?_⟩;rcases q with q | ⟨k,c',e,z'⟩
    ·exact .inl q
    ·refine .inr ⟨k,c',e,z'.sameBut hs ?_⟩;rintro rfl;exact hj (mF hN e1 (I.ok.inj _ _ _ e hc ▸ hi))
  ·by_cases hcc:c'=c
   ·subst hcc; exact ⟨_,hc'⟩
   ·obtain ⟨w2,z2⟩:=I.cell y c' e;exact ⟨w2,z2.sameBut hs hcc⟩
  ·obtain ⟨e,n,ne,nf,d⟩:=I.pin p hp;refine ⟨(hs.2 p.1 ?_).trans e,n,ne,nf,d⟩;intro q;rw [q,hoc] at e;have q':oc=p.2:=Vy.inj e;exact d w' (by rw [← q']; exact hocd)
theorem sH {M:Model}{A:Around}{E:Value →Shared →Prop}{i:Nat}{x:Str}{v:V}{u:Value}{Q:Unit →Shared →Prop}(I:aL X pins σ H s)(hN:X.N.Nodup)(hi:X.N[i]? = some x)(hx:Loc X.env.scope x)(r:RelV v u)
  (h:∀ s',aL X pins (σ.set i (some v)) H s' →Q () s') (hf:X.fn x=true∨X.env.scope.names.lookup x=some .local:=by first | exact .inl rfl | exact .inr rfl | assumption):wpAny M A (storeName X.env x u) Q E s :=
 iC I hN hi hx r (fun s' I' _=>h s' I') hf
theorem aL.call' {s':Shared}{ch:List Addr}(I:aL X pins σ H s)(ho:s'.os=s.os)(u:Un (fH X.stack) ch H H' s.heap s'.heap)(hok:iY X.prog X.w H' s'.heap)(hg:AllBare s'.gens)
  (hch:∀ b∈ch,(b∈X.ex∨X.s₀.heap.objs.size ≤ b)∧b≠X.env.locals∧(∀ x c,X.env.cells.lookup x=some c →c≠b)∧∀ p∈X.pn++pins,p.1≠b):aL X pins σ H' s':=by
 obtain ⟨h',g',d',t',o'⟩:=s';have e:o'=s.os:=ho;subst e;exact I.call (g':=g') (t':=t') (d':=d') u hok hg hch
end
abbrev XK:=Value →Option Addr →Hp →Prop
abbrev St:=List (Option V)
abbrev VK:=V →Hp →Prop
abbrev TE:=St →Hp →VK →Prop
abbrev TT:=St →Hp →(Bool →Hp →Prop) →Prop
abbrev TA:=St →Hp →(List V →Hp →Prop) →Prop
structure Ends where
 nx:St →Hp →Prop
 rt:VK
 bk:St →Hp →Prop:=fun _ _=>False
 ct:St →Hp →Prop:=fun _ _=>False
abbrev TS:=Ends →St →Hp →Prop
def EP (X:Cx)(pins:List (Addr×Obj))(σ:St)(Q:VK)(u:Value)(s':Shared):Prop:=∃ v H',aL X pins σ H' s'∧RelV v u∧Q v H'
def TP (X:Cx)(pins:List (Addr×Obj))(σ:St)(Q:Bool →Hp →Prop)(b:Bool)(s':Shared):Prop:=∃ H',aL X pins σ H' s'∧Q b H'
def AP (X:Cx)(pins:List (Addr×Obj))(σ:St)(Q:List V →Hp →Prop)(us:List Value)(s':Shared):Prop:=∃ vs H',aL X pins σ H' s'∧bC vs us∧Q vs H'
def SP (X:Cx)(pins:List (Addr×Obj))(D:Ends)(f:Flow)(s':Shared):Prop :=
 match f with
 | .next=>∃ σ' H',aL X pins σ' H' s'∧D.nx σ' H'
 | .brk=>∃ σ' H',aL X pins σ' H' s'∧D.bk σ' H'
 | .cont=>∃ σ' H',aL X pins σ' H' s'∧D.ct σ' H'
 | .ret u=>∃ v σ' H',aL X pins σ' H' s'∧RelV v u∧D.rt v H'
def PE (X:Cx)(e:Expr)(t:TE):Prop :=
 ∀ (pins:List (Addr×Obj)) (s:Shared) (σ:St) (H:Hp) (Q:VK),aL X pins σ H s →t σ H Q →wpAny (model X.prog X.w) X.A (eval e X.env) (EP X pins σ Q) X.xe s
def PT (X:Cx)(e:Expr)(t:TT):Prop :=
 ∀ (pins:List (Addr×Obj)) (s:Shared) (σ:St) (H:Hp) (Q:Bool →Hp →Prop),aL X pins σ H s →t σ H Q →wpAny (model X.prog X.w) X.A (isTrue e X.env (eval e X.env)) (TP X pins σ Q) X.xe s
def PW (X:Cx)(e:Expr)(t:TT):Prop :=
 ∀ (whole:Sem Value) (pins:List (Addr×Obj)) (s:Shared) (σ:St) (H:Hp) (Q:Bool →Hp →Prop),aL X pins σ H s →t σ H Q →wpAny (model X.prog X.w) X.A (isTrue e X.env whole) (TP X pins σ Q) X.xe s
theorem PW.pt {X:Cx}{e:Expr}{t:TT}(h:PW X e t):PT X e t:=h _
def PA (X:Cx)(es:List Expr)(t:TA):Prop :=
 ∀ (pos:Pos) (pins:List (Addr×Obj)) (s:Shared) (σ:St) (H:Hp) (Q:List V →Hp →Prop),aL X pins σ H s →t σ H Q →wpAny (model X.prog X.w) X.A (spliced (backTo pos (starEach es X.env))) (AP X pins σ Q) X.xe s
def PS (X:Cx)(st:Stmt)(t:TS):Prop :=
 ∀ (pins:List (Addr×Obj)) (s:Shared) (σ:St) (H:Hp) (D:Ends),aL X pins σ H s →t D σ H →wpAny (model X.prog X.w) X.A (exec st X.env) (SP X pins D) X.xe s
def mW (X:Cx)(st:List Stmt)(t:TS):Prop :=
 ∀ (pins:List (Addr×Obj)) (s:Shared) (σ:St) (H:Hp) (D:Ends),aL X pins σ H s →t D σ H →wpAny (model X.prog X.w) X.A (execs st X.env) (SP X pins D) X.xe s
theorem bW {α:Type}{t:Sem α}{Q Q':α →Shared →Prop}{M:Model}{A:Around}{E:Value →Shared →Prop}{s:Shared}(h:wpAny M A t Q E s)(hQ:∀ a s,Q a s →Q' a s):wpAny M A t Q' E s:=wpAny_mono h hQ fun _ _ x=>x
section
variable {X:Cx}
theorem Qw {a b:Expr}{ta tb:TE}(ha:PE X a ta)(hb:PE X b tb){pins:List (Addr×Obj)}{s:Shared}{σ:St}{H:Hp}{R:V →V →Hp →Prop}(I:aL X pins σ H s)(h:ta σ H fun x H1=>tb σ H1 fun y H2=>R x y H2)
  {α:Type}{Q:α →Shared →Prop}{f:Value →Value →Sem α}
  (hf:∀ v u s2 x y H2,aL X pins σ H2 s2 →RelV x v →RelV y u →R x y H2 →wpAny (model X.prog X.w) X.A (f v u) Q X.xe s2) :
  wpAny (model X.prog X.w) X.A (eval a X.env) (fun v s₁=>wpAny (model X.prog X.w) X.A (eval b X.env) (fun u s₂=>wpAny (model X.prog X.w) X.A (f v u) Q X.xe s₂) X.xe s₁) X.xe s:=by
 refine bW (ha pins s σ H _ I h) fun v s1 ⟨x,H1,I1,r1,q1⟩=>?_;refine bW (hb pins s1 σ H1 _ I1 q1) fun u s2 ⟨y,H2,I2,r2,q2⟩=>?_;exact hf v u s2 x y H2 I2 r1 r2 q2
def Dv (i:Nat):TE:=fun σ H Q=>∃ v,σ[i]? = some (some v)∧Q v H
def tC (v:V):TE:=fun _ H Q=>Q v H
theorem yZ {i:Nat}{x:Str}{pos:Pos}(hN:X.N[i]? = some x)(hv:JH X.env.scope x)(hd:(x==("__debug__" : Str))=false:=by decide)(hcd:(x==("__classdict__" : Str))=false:=by decide):PE X (.Name x pos) (Dv i):=by
 intro pins s σ H Q I h;obtain ⟨v,e,h⟩:=h;obtain ⟨m,hn,hl⟩:=I.loc;obtain ⟨u,r,l⟩:=hl i x v hN e hv;have fin:EP X pins σ Q u s:=⟨v,H,I,r,h⟩
 rcases l with ⟨hk,hm⟩ | ⟨hk,c,hc,hcell⟩
 ·exact wpAny_Name (wpAny_loadName_local I.ok.kind hk hn hm fin) hd
 ·rcases hk with hk | hk
  ·exact wpAny_Name (wpAny_loadName_cell I.ok.kind hk hc hcell fin) hd
  ·exact wpAny_Name (wpAny_loadName_free I.ok.kind hk hc hcell fin hcd) hd
theorem aQ {i j pos}:PE X (.Constant (.int i) j pos) (tC (.int i)):=fun _ _ _ H _ I h=>wpAny_Constant_int ⟨.int i,H,I.tok _,⟨_,rfl⟩,h⟩
theorem mQ {b j pos}:PE X (.Constant (.bool b) j pos) (tC (.bl b)):=fun _ _ _ H _ I h=>Constant_bool ⟨.bl b,H,I,rfl,h⟩
theorem gD {j pos}:PE X (.Constant .none j pos) (tC .non):=fun _ _ _ H _ I h=>Constant_none ⟨.non,H,I,rfl,h⟩
theorem j4 {x j pos}:PE X (.Constant (.str x) j pos) (tC (.str x)):=fun _ _ _ H _ I h=>Calls.Constant_str ⟨.str x,H,I.tok _,⟨_,rfl⟩,h⟩
def Gl (X:Cx)(x:Str):Prop:=X.env.kindOf x=some .globalImplicit
theorem fL {E:Value →Shared →Prop}{pins:List (Addr×Obj)}{s:Shared}{σ:St}{H:Hp}{x:Str}{u:Value}{pos:Pos}{Q:Value →Shared →Prop}(I:aL X pins σ H s)(hg:Gl X x)(hm:X.mg x=some u)(h:Q u s)
  (hd:(x==("__debug__" : Str))=false:=by decide):wpAny (model X.prog X.w) X.A (eval (.Name x pos) X.env) Q E s :=
 Calls.Name_function_global I.ok.kind hg (Calls.loadGlobal_global (by rw [I.ok.glob]; exact I.mod.glob.keeps I.bk) hm h) hd
theorem pY {E:Value →Shared →Prop}{pins:List (Addr×Obj)}{s:Shared}{σ:St}{H:Hp}{x:Str}{u:Value}{pos:Pos}{Q:Value →Shared →Prop}(I:aL X pins σ H s)(hg:Gl X x)(hm:X.mg x=none)(hv:bootBuiltins x=some u)(h:Q u s)
  (hn:x≠"__name__":=by decide) (hd:(x==("__debug__" : Str))=false:=by decide):wpAny (model X.prog X.w) X.A (eval (.Name x pos) X.env) Q E s:=by
 obtain ⟨mb,h1,h2⟩:=I.mod.blt;exact Calls.Name_function_global I.ok.kind hg (Calls.loadGlobal_builtin (by rw [I.ok.glob]; exact I.mod.glob.keeps I.bk) hm (by rw [I.ok.blt]; exact h1.keeps I.bk) ((h2 x hn).trans hv) h) hd
theorem bF {x:Str}{v:V}{u:Value}{pos:Pos}(hg:Gl X x)(hm:X.mg x=some u)(r:RelV v u)(hd:(x==("__debug__" : Str))=false:=by decide):PE X (.Name x pos) (tC v) :=
 fun _ _ _ H _ I h=>fL I hg hm ⟨v,H,I,r,h⟩ hd
theorem lX {x:Str}{v:V}{u:Value}{pos:Pos}(hg:Gl X x)(hm:X.mg x=none)(hv:bootBuiltins x=some u)(r:RelV v u)(hn:x≠"__name__":=by decide)(hd:(x==("__debug__" : Str))=false:=by decide):PE X (.Name x pos) (tC v) :=
 fun _ _ _ H _ I h=>pY I hg hm hv ⟨v,H,I,r,h⟩ hn hd
variable {a b:Expr}{ta tb:TE}{pos:Pos}
def PC (X:Cx)(op:CmpOp)(a b:Expr)(t:TE):Prop :=
 ∀ (pins:List (Addr×Obj)) (s:Shared) (σ:St) (H:Hp) (Q:VK),aL X pins σ H s →t σ H Q →
  wpAny (model X.prog X.w) X.A (eval a X.env) (fun v s₁=>wpAny (model X.prog X.w) X.A (eval b X.env) (fun u s₂=>wpAny (model X.prog X.w) X.A (compareOp op v u) (EP X pins σ Q) X.xe s₂) X.xe s₁) X.xe s
theorem zM (b:Expr){op:CmpOp}(h:op≠.In)(h2:op≠.NotIn):behindInMarks op b=false:=by
 have e1:(op==CmpOp.In)=false:=by cases op <;> first | rfl | exact absurd rfl h
 have e2:(op==CmpOp.NotIn)=false:=by cases op <;> first | rfl | exact absurd rfl h2
 cases b <;> simp [behindInMarks,e1,e2]
def tB (t:TE):TT:=fun σ H Q=>t σ H fun x H1=>∃ c,x=.bl c∧Q c H1
theorem M5 {op:CmpOp}{t:TE}(h:PC X op a b t)(h1:behindInMarks op b=false:=by first | exact zM _ (by decide) (by decide) | rfl):PT X (.Compare a [op] [b] pos) (tB t):=by
 intro pins s σ H Q I hw;refine wpAny_isTrue_Compare1 (bW (h pins s σ H _ I hw) fun v s1 h1=>bW h1 fun u s2 h2=>bW h2 fun c s3 ⟨x,H1,I1,r1,q1⟩=>?_) h1;obtain ⟨d,rfl,q⟩:=q1;cases r1;exact wpAny_truthy_bool ⟨H1,I1,q⟩
theorem cD {e:Expr}{t:TE}(h:PE X e t)(he:∀ whole,isTrue e X.env whole=(do let v ← whole; standAt e.pos; holding [v] (truthy v)):=by intro _; rfl):PT X e (tB t):=by
 intro pins s σ H Q I hw;refine isTrue_plain (bW (h pins s σ H _ I hw) fun v s1 ⟨x,H1,I1,r1,q1⟩=>?_) (he _);obtain ⟨d,rfl,q⟩:=q1;cases r1;exact wpAny_truthy_bool ⟨H1,I1,q⟩
variable {tA tB':TT}{rest:List Expr}
def LC (t u:TT):TT:=fun σ H Q=>t σ H fun c H1=>if c=true then u σ H1 Q else Q false H1
def QL (t u:TT):TT:=fun σ H Q=>t σ H fun c H1=>if c=true then Q true H1 else u σ H1 Q
def Nr (t:TT):TT:=fun σ H Q=>t σ H fun c H1=>Q (!c) H1
theorem BJ (ha:PT X a tA):PW X (.BoolOp .And [a] pos) tA:=by
 intro wh pins s σ H Q I h;refine isTrue_and (bW (ha pins s σ H Q I h) fun c s1 e=>?_);cases c with
 | true=>exact isTrue_and_nil e
 | false=>exact e
theorem nF (ha:PT X a tA):PW X (.BoolOp .Or [a] pos) tA:=by
 intro wh pins s σ H Q I h;refine isTrue_or (bW (ha pins s σ H Q I h) fun c s1 e=>?_);cases c with
 | false=>exact isTrue_or_nil e
 | true=>exact e
theorem Ce (ha:PT X a tA)(hb:PW X (.BoolOp .And (b::rest) pos) tB'):PW X (.BoolOp .And (a::b::rest) pos) (LC tA tB'):=by
 intro wh pins s σ H Q I h;refine isTrue_and (bW (ha pins s σ H _ I h) fun c s1 ⟨H1,I1,q1⟩=>?_);cases c with
 | true=>exact hb wh pins s1 σ H1 Q I1 q1
 | false=>exact ⟨H1,I1,q1⟩
theorem rJ (ha:PT X a tA)(hb:PW X (.BoolOp .Or (b::rest) pos) tB'):PW X (.BoolOp .Or (a::b::rest) pos) (QL tA tB'):=by
 intro wh pins s σ H Q I h;refine isTrue_or (bW (ha pins s σ H _ I h) fun c s1 ⟨H1,I1,q1⟩=>?_);cases c with
 | true=>exact ⟨H1,I1,q1⟩
 | false=>exact hb wh pins s1 σ H1 Q I1 q1
theorem cJ (ha:PT X a tA):PT X (.UnaryOp .Not a pos) (Nr tA):=by
 intro pins s σ H Q I h;exact isTrue_not (ha pins s σ H (fun c H1=>Q (!c) H1) I h)
def GX (ta tb:TE):TE:=fun σ H Q=>ta σ H fun x H1=>∃ c,x=.bl c∧if c=true then tb σ H1 Q else Q (.bl false) H1
def Nm (ta tb:TE):TE:=fun σ H Q=>ta σ H fun x H1=>∃ c,x=.bl c∧if c=true then Q (.bl true) H1 else tb σ H1 Q
def GF (ta:TE):TE:=fun σ H Q=>ta σ H fun x H1=>∃ c,x=.bl c∧Q (.bl (!c)) H1
theorem uN {op}{t:TE}(h:PE X a t):PE X (.BoolOp op [a] pos) t:=fun pins s σ H Q I hw=>BoolOp_one (h pins s σ H Q I hw)
theorem tH (ha:PE X a ta)(hb:PE X (.BoolOp .And (b::rest) pos) tb):PE X (.BoolOp .And (a::b::rest) pos) (GX ta tb):=by
 intro pins s σ H Q I h;refine BoolOp_and (bW (ha pins s σ H _ I h) fun v s1 ⟨x,H1,I1,r1,q1⟩=>?_);obtain ⟨c,rfl,q1⟩:=q1;cases r1;refine wpAny_truthy_bool ?_;cases c with
 | true=>exact hb pins s1 σ H1 Q I1 q1
 | false=>exact ⟨.bl false,H1,I1,rfl,q1⟩
theorem CK (ha:PE X a ta)(hb:PE X (.BoolOp .Or (b::rest) pos) tb):PE X (.BoolOp .Or (a::b::rest) pos) (Nm ta tb):=by
 intro pins s σ H Q I h;refine BoolOp_or (bW (ha pins s σ H _ I h) fun v s1 ⟨x,H1,I1,r1,q1⟩=>?_);obtain ⟨c,rfl,q1⟩:=q1;cases r1;refine wpAny_truthy_bool ?_;cases c with
 | false=>exact hb pins s1 σ H1 Q I1 q1
 | true=>exact ⟨.bl true,H1,I1,rfl,q1⟩
theorem zN (ha:PE X a ta):PE X (.UnaryOp .Not a pos) (GF ta):=by
 intro pins s σ H Q I h;refine UnaryOp_ (bW (ha pins s σ H _ I h) fun v s1 ⟨x,H1,I1,r1,q1⟩=>?_);obtain ⟨c,rfl,q1⟩:=q1;cases r1;exact not_of (wpAny_truthy_bool ⟨.bl (!c),H1,I1,rfl,q1⟩)
def Q9 (t:TT)(ta tb:TE):TE:=fun σ H Q=>t σ H fun c H1=>if c=true then ta σ H1 Q else tb σ H1 Q
theorem zF {c:Expr}(hc:PT X c tA)(ha:PE X a ta)(hb:PE X b tb):PE X (.IfExp c a b pos) (Q9 tA ta tb):=by
 intro pins s σ H Q I h;refine wpAny_IfExp (bW (hc pins s σ H _ I h) fun d s1 ⟨H1,I1,q1⟩=>?_);cases d with
 | true=>exact ha pins s1 σ H1 Q I1 q1
 | false=>exact hb pins s1 σ H1 Q I1 q1
end
def bM (K:PySem.W.Frag)(H:Hp)(a:Addr)(xs:List V):Prop :=
 Rd H a (.lst xs) ∨
  ∃ (o:Obj) (its:Array Value) (n:Nat),K.lookup a=some o∧o.cls=.type "list"∧o.dict=none∧o.data=.seq its n∧its.size ≤ sizeLine∧bC xs its.toList
def jF (K:PySem.W.Frag)(H:Hp)(a:Addr)(xs:List V):Prop :=
 Rd H a (.tup xs) ∨
  ∃ (o:Obj) (its:Array Value) (n:Nat),K.lookup a=some o∧o.cls=.type "tuple"∧o.data=.seq its n∧its.size ≤ sizeLine∧bC xs its.toList
def JQ:Value →Option V
 | .none=>some .non
 | .bool b=>some (.bl b)
 | .int i _=>some (.int i)
 | .str x _=>some (.str x)
 | .bytes b _=>some (.byt b)
 | .float b _=>some (.flt b)
 | .ref a=>some (.ref a)
 | .type n=>some (.ty n)
 | _=>none
theorem RelV.abs {x:V}{u:Value}(r:RelV x u):JQ u=some x:=by
 cases x with
 | non=>cases r; rfl
 | bl _=>cases r; rfl
 | int _=>obtain ⟨t,rfl⟩:=r; rfl
 | str _=>obtain ⟨t,rfl⟩:=r; rfl
 | byt _=>obtain ⟨t,rfl⟩:=r; rfl
 | flt _=>obtain ⟨t,rfl⟩:=r; rfl
 | ref _=>cases r; rfl
 | ty _=>cases r; rfl
theorem RelV.inj {x y:V}{u:Value}(r:RelV x u)(q:RelV y u):x=y:=Vy.inj (r.abs.symm.trans q.abs)
theorem bC.inj:∀ {xs ys:List V}{us:List Value},bC xs us →bC ys us →xs=ys
 | _,_,_,.nil,.nil=>rfl
 | _,_,_,.cons r t,.cons r' t'=>by rw [r.inj r',bC.inj t t']
section
variable {X:Cx}{pins:List (Addr×Obj)}{σ:St}{H:Hp}{s:Shared}{a:Addr}{xs ys:List V}
theorem bM.of {K:PySem.W.Frag}(h:H a=some (.lst xs)):bM K H a xs:=.inl (.inl h)
theorem jF.of {K:PySem.W.Frag}(h:H a=some (.tup xs)):jF K H a xs:=.inl (.inl h)
theorem aL.list (I:aL X pins σ H s)(h:bM X.K H a xs):∃ its:List Value,bC xs its∧PlainL s.heap a its.toArray∧xs.length ≤ sizeLine:=by
 rcases h with h | ⟨o,its,n,hk,hc,hd,hs,hz,r⟩
 ·obtain ⟨z,its,n,r,e⟩:=h.ok I.hok;exact ⟨its,r,⟨_,n,e,rfl,rfl,rfl⟩,z⟩
 ·refine ⟨its.toList,r,⟨o,n,I.kIn a o hk,hc,hd,by simpa using hs⟩,?_⟩;have e:=r.length;simp only [Wx] at e;omega
theorem aL.tuple (I:aL X pins σ H s)(h:jF X.K H a xs):∃ its:List Value,bC xs its∧IsTup s.heap a its.toArray∧xs.length ≤ sizeLine:=by
 rcases h with h | ⟨o,its,n,hk,hc,hs,hz,r⟩
 ·obtain ⟨z,its,r,p⟩:=h.ok I.hok;exact ⟨its,r,p,z⟩
 ·refine ⟨its.toList,r,⟨o,I.kIn a o hk,hc,n,by simpa using hs⟩,?_⟩;have e:=r.length;simp only [Wx] at e;omega
theorem aL.list_inj (I:aL X pins σ H s)(h:bM X.K H a xs)(h':bM X.K H a ys):xs=ys:=by
 obtain ⟨its,r,⟨o,n,e,_,_,d⟩,_⟩:=I.list h;obtain ⟨its',r',⟨o',n',e',_,_,d'⟩,_⟩:=I.list h';rw [e] at e'; cases e';rw [d] at d';injection d' with d1 _
 have:its=its':=by simpa using congrArg Array.toList d1
 subst this;exact r.inj r'
theorem aL.tuple_inj (I:aL X pins σ H s)(h:jF X.K H a xs)(h':jF X.K H a ys):xs=ys:=by
 obtain ⟨its,r,⟨o,e,_,n,d⟩,_⟩:=I.tuple h;obtain ⟨its',r',⟨o',e',_,n',d'⟩,_⟩:=I.tuple h';rw [e] at e'; cases e';rw [d] at d';injection d' with d1 _
 have:its=its':=by simpa using congrArg Array.toList d1
 subst this;exact r.inj r'
end
abbrev Cx.wish (X:Cx)(E:Value →Shared →Prop):Cx:={ X with xe:=E }
abbrev Cx.nox (X:Cx):Cx:=X.wish fun _ _=>False
theorem Cx.Ok.wish {X:Cx}(ok:X.Ok)(E:Value →Shared →Prop):(X.wish E).Ok :=
 ⟨ok.mod,ok.kind,ok.glob,ok.blt,ok.above,ok.inj,ok.has,ok.cab,ok.hd,ok.frames,ok.stk,ok.exf,ok.bs,ok.bsz,ok.noex,ok.exfs,ok.funs,ok.frf⟩
theorem Cx.Ok.unwish {X:Cx}{E:Value →Shared →Prop}(ok:(X.wish E).Ok):X.Ok :=
 ⟨ok.mod,ok.kind,ok.glob,ok.blt,ok.above,ok.inj,ok.has,ok.cab,ok.hd,ok.frames,ok.stk,ok.exf,ok.bs,ok.bsz,ok.noex,ok.exfs,ok.funs,ok.frf⟩
section
variable {X:Cx}{pins:List (Addr×Obj)}{σ:St}{H:Hp}{s:Shared}{E:Value →Shared →Prop}
theorem aL.wish (I:aL X pins σ H s)(E:Value →Shared →Prop):aL (X.wish E) pins σ H s:=⟨I.ok.wish E,I.os,I.bare,I.base,I.loc,I.cell,I.free,I.freeC,I.pin,I.hok,I.len⟩
theorem aL.unwish (I:aL (X.wish E) pins σ H s):aL X pins σ H s:=⟨I.ok.unwish,I.os,I.bare,I.base,I.loc,I.cell,I.free,I.freeC,I.pin,I.hok,I.len⟩
theorem SP.unwish {D:Ends}{f:Flow}{s':Shared}(h:SP (X.wish E) pins D f s'):SP X pins D f s':=by
 cases f with
 | next=>obtain ⟨σ',H',I,q⟩:=h; exact ⟨σ',H',I.unwish,q⟩
 | brk=>obtain ⟨σ',H',I,q⟩:=h; exact ⟨σ',H',I.unwish,q⟩
 | cont=>obtain ⟨σ',H',I,q⟩:=h; exact ⟨σ',H',I.unwish,q⟩
 | ret u=>obtain ⟨v,σ',H',I,r,q⟩:=h; exact ⟨v,σ',H',I.unwish,r,q⟩
theorem PT.nox {e:Expr}{t:TT}(h:PT X.nox e t):PT X e t:=fun pins s σ H Q I hw =>
 wpAny_mono (h pins s σ H Q (I.wish _) hw) (fun _ _ ⟨H',I',q⟩=>⟨H',I'.unwish,q⟩) fun _ _ z=>False.elim z
theorem mW.nox {st:List Stmt}{t:TS}(h:mW X.nox st t):mW X st t:=fun pins s σ H D I hw =>
 wpAny_mono (h pins s σ H D (I.wish _) hw) (fun _ _ q=>q.unwish) fun _ _ z=>False.elim z
end
section
variable {X:Cx}{st:Stmt}{rest:List Stmt}{t u:TS}{e:Expr}{te:TE}{pos:Pos}
def Fo:TS:=fun D σ H=>D.nx σ H
def Cw (t u:TS):TS:=fun D σ H=>t { D with nx:=u D } σ H
theorem bT:mW X [] Fo:=fun _ _ σ H _ I h=>wpAny_execs_nil ⟨σ,H,I,h⟩
theorem aK (h1:PS X st t)(h2:mW X rest u):mW X (st::rest) (Cw t u):=by
 intro pins s σ H D I h;refine wpAny_execs_cons (bW (h1 pins s σ H { D with nx:=u D } I h) fun f s1 q=>?_);cases f with
 | next =>
  obtain ⟨σ',H',I',q⟩:=q;exact h2 pins s1 σ' H' D I' q
 | ret v=>exact q
 | brk=>exact q
 | cont=>exact q
theorem aJ (h1:PS X st t):mW X [st] t:=by
 intro pins s σ H D I h;refine wpAny_execs_cons (bW (h1 pins s σ H D I h) fun f s1 q=>?_);cases f with
 | next=>exact wpAny_execs_nil q
 | ret v=>exact q
 | brk=>exact q
 | cont=>exact q
theorem aL.quiet {pins:List (Addr×Obj)}{σ:St}{H:Hp}{s:Shared}(I:aL X pins σ H s):interactive X.env=false:=by simp [interactive,I.ok.kind]
def Bp (te:TE):TS:=fun D σ H=>te σ H fun _ H1=>D.nx σ H1
theorem vL (he:PE X e te)(hs:swapsWith e none pos.line X.env=pure false:=by rfl):PS X (.Expr e pos) (Bp te):=by
 intro pins s σ H D I h;exact wpAny_Expr_any (bW (he pins s σ H _ I h) fun v s1 ⟨x,H1,I1,r1,q1⟩=>⟨σ,H1,I1,q1⟩) I.quiet hs
def Il (te:TE):TS:=fun D σ H=>te σ H D.rt
theorem bG (he:PE X e te):PS X (.Return (some e) pos) (Il te):=by
 intro pins s σ H D I h;exact wpAny_Return_some (bW (he pins s σ H _ I h) fun v s1 ⟨x,H1,I1,r1,q1⟩=>⟨x,σ,H1,I1,r1,q1⟩)
def GC (c:TT)(t u:TS):TS:=fun D σ H=>c σ H fun b H1=>if b=true then t D σ H1 else u D σ H1
theorem dB {c:Expr}{a b:List Stmt}{tc:TT}(hc:PT X c tc)(ha:mW X a t)(hb:mW X b u):PS X (.If c a b pos) (GC tc t u):=by
 intro pins s σ H D I h;refine wpAny_If (bW (hc pins s σ H _ I h) fun d s1 ⟨H1,I1,q1⟩=>?_);cases d with
 | true=>exact ha pins s1 σ H1 D I1 q1
 | false=>exact hb pins s1 σ H1 D I1 q1
end
abbrev TG:=V →St →Hp →(St →Hp →Prop) →Prop
def PG (X:Cx)(target:Expr)(t:TG):Prop :=
 ∀ (pins:List (Addr×Obj)) (s:Shared) (σ:St) (H:Hp) (v:V) (u:Value) (Q:St →Hp →Prop),aL X pins σ H s →RelV v u →t v σ H Q →
  wpAny (model X.prog X.w) X.A (assign target X.env u) (fun _ s'=>∃ σ' H',aL X pins σ' H' s'∧Q σ' H') X.xe s
abbrev Cr:=V →V →V →Hp →(Hp →Prop) →Prop
def GZ (X:Cx)(t:Cr):Prop :=
 ∀ (pins:List (Addr×Obj)) (s:Shared) (σ:St) (H:Hp) (o i v:V) (ov iv u:Value) (Q:Hp →Prop),aL X pins σ H s →RelV o ov →RelV i iv →RelV v u →t o i v H Q →
  wpAny (model X.prog X.w) X.A (setItem ov iv u) (fun _ s'=>∃ H',aL X pins σ H' s'∧Q H') X.xe s
section
variable {X:Cx}{pos:Pos}
def qY (i:Nat):TG:=fun v σ H Q=>Q (σ.set i (some v)) H
theorem bR {i:Nat}{x:Str}(hN:X.N.Nodup)(hi:X.N[i]? = some x)(hx:Loc X.env.scope x)(hf:X.fn x=true∨X.env.scope.names.lookup x=some .local:=by first | exact .inl rfl | exact .inr rfl | assumption):PG X (.Name x pos) (qY i):=by
 intro pins s σ H v u Q I r h;exact wpAny_assign_Name (sH I hN hi hx r (fun s' I'=>⟨_,H,I',h⟩) hf)
def Jp (to ti:TE)(t:Cr):TG:=fun v σ H Q=>to σ H fun o H1=>ti σ H1 fun i H2=>t o i v H2 fun H3=>Q σ H3
theorem Cm {o i:Expr}{to ti:TE}{t:Cr}(ho:PE X o to)(hi:PE X i ti)(hs:GZ X t)
  (ha:∀ v,assign (.Subscript o i pos) X.env v=(do
   let ov ← holding [v] (eval o X.env)
   let iv ← holding [v,ov] (eval i X.env)
   standAt pos
   holding [v,ov,iv] (setItem ov iv v)
   release [v,ov,iv] []):=by intro _; rfl):PG X (.Subscript o i pos) (Jp to ti t):=by
 intro pins s σ H v u Q I r h;rw [ha];refine wpAny_bind (wpAny_holding (bW (ho pins s σ H _ I h) fun ov s1 ⟨x,H1,I1,r1,q1⟩=>?_));refine wpAny_bind (wpAny_holding (bW (hi pins s1 σ H1 _ I1 q1) fun iv s2 ⟨y,H2,I2,r2,q2⟩=>?_));refine wpAny_bind (wpAny_standAt (wpAny_bind (wpAny_holding (bW (hs pins s2 σ H2 x y v ov iv u _ I2 r1 r2 r q2) fun _ s3 ⟨H3,I3,q3⟩=>?_))));exact wpAny_release ⟨σ,H3,I3,q3⟩
def BW (te:TE)(g:TG):TS:=fun D σ H=>te σ H fun x H1=>g x σ H1 D.nx
theorem Cy {tg e:Expr}{te:TE}{g:TG}(he:PE X e te)(hg:PG X tg g)(hs:swapsWithSole [tg] e pos.line X.env=pure false:=by rfl)(hw:swappedStores [tg] e X.env=pure none:=by rfl)
  (h1:(assignEach [tg] X.env).map (·.2)=[assign tg X.env]:=by rfl):PS X (.Assign [tg] e pos) (BW te g):=by
 intro pins s σ H D I h;refine wpAny_Assign_stores (bW (he pins s σ H _ I h) fun v s1 ⟨x,H1,I1,r1,q1⟩=>?_) hs hw;rw [h1];exact bW (hg pins s1 σ H1 x v _ I1 r1 q1) fun _ s2 q=>q
theorem bN {i:Nat}{x:Str}{e:Expr}{te:TE}{pos':Pos}(hN:X.N.Nodup)(hi:X.N[i]? = some x)(hx:Loc X.env.scope x)(he:PE X e te)(hs:swapsWith e (some (.Name x pos')) pos.line X.env=pure false:=by rfl)(hf:X.fn x=true∨X.env.scope.names.lookup x=some .local:=by first | exact .inl rfl | exact .inr rfl | assumption) :
  PS X (.Assign [.Name x pos'] e pos) (BW te (qY i)):=by
 intro pins s σ H D I h;refine wpAny_Assign_Name (bW (he pins s σ H _ I h) fun v s1 ⟨y,H1,I1,r1,q1⟩=>?_) hs;exact sH I1 hN hi hx r1 (fun s2 I2=>⟨_,H1,I2,q1⟩) hf
end
structure It where
 go:Nat →Hp →Prop
 yld:Nat →Hp →V →Hp →Prop
 stop:Nat →Hp →Prop
def qR (X:Cx)(pins:List (Addr×Obj))(H:Hp)(b:Addr):Prop :=
 H b=none∧b≠X.env.locals∧b∉X.fs∧(b∈X.ex∨X.s₀.heap.objs.size ≤ b)∧(∀ x c,X.env.cells.lookup x=some c →c≠b)∧∀ p∈X.pn++pins,p.1≠b
theorem aL.fpOk {X:Cx}{pins:List (Addr×Obj)}{σ:St}{H H':Hp}{s:Shared}{b:Addr}(I:aL X pins σ H s)(hb:s.heap.objs.size ≤ b)(hn:H' b=none):qR X pins H' b:=by
 refine ⟨hn,Nat.ne_of_gt (V2 I.lt hb),I.nofs hb,.inr (Va I.sz hb),fun x c e z=>?_,fun p hp z=>?_⟩
 ·obtain ⟨v,q⟩:=I.cell x c e;exact absurd (V2 q.lt (by rw [z]; exact hb)) (Vm _)
 ·exact absurd (V2 (VM (I.pin p hp).1) (by rw [z]; exact hb)) (Vm _)
structure Turn (P:Program)(w:World)(K:PySem.W.Frag)(tg:Expr)(J:It)(fp:List Addr)(it:Addr)(tn:Nat →Heap →Prop):Prop where
 mem:it∈fp
 obj:∀ i h,tn i h →∀ b∈fp,∃ o,h.get? b=some o∧∀ v,o.data≠.cell v
 keep:∀ i h h',tn i h →(∀ b∈fp,∀ o,h.get? b=some o →h'.get? b=some o) →tn i h'
 item:∀ (X:Cx),X.prog=P →X.w=w →X.K=K →X.calm=true →∀ (i:Nat) (pins:List (Addr×Obj)) (s:Shared) (σ:St) (H:Hp) (E:Value →Shared →Prop),aL X pins σ H s →(∀ b∈fp,qR X pins H b) →tn i s.heap →J.go i H →
  wpAny (model P w) X.A (pyNext (.ref it)) (fun r s1=>∃ u,r=some u ∧
   wpAny (model P w) X.A (letOwnedTupleGo tg (.ref it) u) (fun _ s2=>∃ x H',aL X pins σ H' s2∧RelV x u∧J.yld i H x H'∧tn (i+1) s2.heap∧∀ b∈fp,H' b=none) E s1) E s
 done:∀ (X:Cx),X.prog=P →X.w=w →X.K=K →X.calm=true →∀ (i:Nat) (pins:List (Addr×Obj)) (s:Shared) (σ:St) (H:Hp) (E:Value →Shared →Prop),aL X pins σ H s →(∀ b∈fp,qR X pins H b) →tn i s.heap →J.stop i H →
  wpAny (model P w) X.A (pyNext (.ref it)) (fun r s1=>r=none∧aL X pins σ H s1) E s
 self:∀ (A:Around) (i:Nat) (s:Shared) (Q:Value →Shared →Prop) (E:Value →Shared →Prop),tn i s.heap →Q (.ref it) s →wpAny (model P w) A (pyIter (.ref it)) Q E s
abbrev TI:=St →Hp →(It →Hp →Prop) →Prop
def Og (X:Cx)(pins:List (Addr×Obj))(σ:St)(tg:Expr)(R:It →Hp →Prop)(itv:Value)(s2:Shared):Prop :=
 ∃ (it:Addr) (fp:List Addr) (tn:Nat →Heap →Prop) (J:It) (H':Hp),itv=.ref it∧aL X pins σ H' s2∧Turn X.prog X.w X.K tg J fp it tn∧tn 0 s2.heap∧(∀ b∈fp,qR X pins H' b)∧R J H'
def PI (X:Cx)(tg iter:Expr)(wi:TI):Prop :=
 ∀ (pins:List (Addr×Obj)) (s:Shared) (σ:St) (H:Hp) (R:It →Hp →Prop),aL X pins σ H s →wi σ H R →
  wpAny (model X.prog X.w) X.A (eval iter X.env) (fun v s1=>wpAny (model X.prog X.w) X.A (pyIter v) (Og X pins σ tg R) X.xe s1) X.xe s
theorem Bk {M:Model}{A:Around}{E:Value →Shared →Prop}{s:Shared}{tg:Expr}{it:Addr}{u:Value}{o:Obj}{n:String}{vs:Array Value}{Q:Unit →Shared →Prop}(ho:s.heap.get? it=some o)(hc:o.cls=.type n)(hd:o.data=.fields vs)
  (hn:["enumerate","zip","dict_itemiterator","dict_reverseitemiterator","odict_iterator","itertools.zip_longest","itertools.pairwise"].contains n=false) (hQ:Q () s):wpAny M A (letOwnedTupleGo tg (.ref it) u) Q E s:=by
 unfold letOwnedTupleGo;cases tg <;> first
  | exact wpAny_pure hQ
  | (cases u <;> first
    | exact wpAny_pure hQ
    | (refine wpAny_bind (wpAny_load ho ?_); rw [hc,hd]; show wpAny M A (if (["enumerate","zip","dict_itemiterator","dict_reverseitemiterator","odict_iterator","itertools.zip_longest","itertools.pairwise"].contains n&&vs[0]?==some (rawInt _))=true then _ else _) Q E s; rw [if_neg (by intro h; rw [hn,Bool.false_and] at h; cases h)]; exact wpAny_pure hQ))
def Ea (K:PySem.W.Frag)(a:Addr):It :=
 ⟨fun i H=>∃ xs x,bM K H a xs∧xs[i]? = some x,fun i H x H'=>H'=H∧∀ xs,bM K H a xs →xs[i]? = some x,fun i H=>∃ xs,bM K H a xs∧xs.length ≤ i⟩
def Dm (lo:Int)(n:Nat):It:=⟨fun i _=>i<n,fun i H x H'=>H'=H∧x=.int (lo+i),fun i _=>n ≤ i⟩
theorem wI {P:Program}{w:World}{K:PySem.W.Frag}{tg:Expr}(a it:Addr):Turn P w K tg (Ea K a) [it] it (fun i h=>h.IsListIter it a i) where
 mem:=by simp
 obj:=fun i h st b hb=>by
  have e:b=it:=by simpa using hb
  subst e;obtain ⟨o,e,c,d⟩:=st;exact ⟨o,e,fun v z=>by rw [d] at z; cases z⟩
 keep:=fun i h h' st k=>st.at fun o e=>k it (by simp) o e
 item:=by
  intro X hP hw hK hc i pins s σ H E I hf st hg;subst hP hw hK;obtain ⟨xs,x,hq,hx⟩:=hg;obtain ⟨its,rv,p,hz⟩:=I.list hq;obtain ⟨u,hu,ru⟩:=rv.get hx;obtain ⟨f0,f1,f2,f3,f4,f5⟩:=hf it (by simp);refine wpAny_pyNext_list_item st p.isList (x:=u) (by simpa using hu) fun h' st' sb=>?_;have I1:aL X pins σ H { s with heap:=h' }:=I.turned (t':=s.toks) (fun b o hb e=>(sb.2 b hb).trans e) f0 f1 f3 f4 f5;obtain ⟨o,e,c,d⟩:=id st';exact ⟨u,rfl,Bk (s:={ s with heap:=h' }) e c d (by decide) ⟨x,H,I1,ru,⟨rfl,fun ys hy=>by rw [I.list_inj hy hq]; exact hx⟩,st',fun b hb=>(hf b hb).1⟩⟩
 done:=by
  intro X hP hw hK hc i pins s σ H E I hf st hg;subst hP hw hK;obtain ⟨xs,hq,hx⟩:=hg;obtain ⟨its,rv,p,hz⟩:=I.list hq;obtain ⟨f0,f1,f2,f3,f4,f5⟩:=hf it (by simp);have hl:=rv.length;exact wpAny_pyNext_list_end (I.ok.hd hc) st p.isList (by simp; omega) fun h' eb=>⟨rfl,I.turned (t':=s.toks) (fun b o hb e=>eb b o hb e) f0 f1 f3 f4 f5⟩
 self:=fun _ _ _ _ _ st h=>wpAny_pyIter_listiter st h
theorem uE {P:Program}{w:World}{K:PySem.W.Frag}{tg:Expr}(it:Addr)(lo:Int)(n:Nat):Turn P w K tg (Dm lo n) [it] it (fun i h=>IsRangeIter h it (lo+(i:Nat)*1) ((n:Int)-(i:Nat)) 1) where
 mem:=by simp
 obj:=fun i h st b hb=>by
  have e:b=it:=by simpa using hb
  subst e;exact ⟨_,st,fun v z=>by
   have z':Data.fields _=Data.cell v:=z;cases z'⟩
 keep:=fun i h h' st k=>k it (by simp) _ st
 item:=by
  intro X hP hw hK hc i pins s σ H E I hf st hg;subst hP hw hK;obtain ⟨f0,f1,f2,f3,f4,f5⟩:=hf it (by simp);have W:=Walks.range (prog:=X.prog) (w:=X.w) (I.ok.hd hc) it lo 1 n;refine W.item i s _ _ hg st fun v h' tk hv st' kk=>?_;obtain ⟨t,rfl⟩:=hv;have I1:aL X pins σ H { s with heap:=h',toks:=tk }:=I.turned (fun b o hb e=>kk b o (by simpa using hb) e) f0 f1 f3 f4 f5;refine ⟨_,rfl,Bk (s:={ s with heap:=h',toks:=tk }) (n:="range_iterator") st' rfl rfl (by decide) ⟨.int (lo+i),H,I1,⟨t,?_⟩,⟨rfl,rfl⟩,st',fun b hb=>(hf b hb).1⟩⟩;rw [Int.mul_one]
 done:=by
  intro X hP hw hK hc i pins s σ H E I hf st hg;subst hP hw hK;obtain ⟨f0,f1,f2,f3,f4,f5⟩:=hf it (by simp);exact wpAny_pyNext_range_end (I.ok.hd hc) st (by have:n ≤ i:=hg; omega) fun h' eb=>⟨rfl,I.turned (t':=s.toks) (fun b o hb e=>eb b o hb e) f0 f1 f3 f4 f5⟩
 self:=fun _ _ _ _ _ st h=>wpAny_pyIter_rangeiter st h
section
variable {X:Cx}{tg:Expr}
def Fq (K:PySem.W.Frag)(tl:TE):TI:=fun σ H R=>tl σ H fun x H1=>∃ a,x=.ref a∧(∃ xs,bM K H1 a xs)∧R (Ea K a) H1
theorem dZ {l:Expr}{tl:TE}(hl:PE X l tl):PI X tg l (Fq X.K tl):=by
 intro pins s σ H R I h;refine bW (hl pins s σ H _ I h) fun v s1 ⟨x,H1,I1,r1,q1⟩=>?_;obtain ⟨a,e,⟨xs,hq⟩,q⟩:=q1;subst e;cases r1;obtain ⟨its,rv,p,hz⟩:=I1.list hq;refine wpAny_pyIter_list p.isList ?_;refine ⟨s1.heap.objs.size,[s1.heap.objs.size],_,_,H1,rfl,I1.kept (t':=s1.toks) fun b o e=>VJ _ e,wI a _,⟨_,V5 _ rfl,rfl,rfl⟩,fun b hb=>?_,q⟩;have e:b=s1.heap.objs.size:=by simpa using hb
 subst e;exact I1.fpOk (VP _) (I1.hok.fresh (VP _))
theorem yS {pins:List (Addr×Obj)}{σ:St}{H:Hp}{s:Shared}{R:It →Hp →Prop}{E:Value →Shared →Prop}{lo hi:Int}{t u v:Tok}{tk:Nat}(I:aL X pins σ H s)(h1:-(2^62) ≤ lo)(h2:lo<2^62)(h3:-(2^62) ≤ hi)(h4:hi<2^62)
  (q:R (Dm lo (hi-lo).toNat) H):wpAny (model X.prog X.w) X.A (pyIter (.ref s.heap.objs.size)) (Og X pins σ tg R) E { s with heap:=s.heap.push { cls:=.type "range",data:=.fields #[.int lo t,.int hi u,.int 1 v] },toks:=tk }:=by
 refine wpAny_pyIter_range (IsRange.new ..) (small_one h1 h2 h3 h4) ?_;have I1:aL X pins σ H { s with heap:=s.heap.push { cls:=.type "range",data:=.fields #[.int lo t,.int hi u,.int 1 v] },toks:=tk }:=I.kept fun b o e=>VJ _ e;refine ⟨(s.heap.push { cls:=.type "range",data:=.fields #[.int lo t,.int hi u,.int 1 v] }).objs.size,[(s.heap.push { cls:=.type "range",data:=.fields #[.int lo t,.int hi u,.int 1 v] }).objs.size],_,_,H,rfl,
  I1.kept (t':=tk) fun b o e=>VJ _ e,uE _ lo (hi-lo).toNat,?_,fun b hb=>?_,q⟩
 ·have e1:lo+((0:Nat):Int)*1=lo:=by simp
  have e2:(((hi-lo).toNat:Nat):Int)-((0:Nat):Int)=Builtin.Range.rangeSize lo hi 1:=by rw [rangeSize_one]; split <;> omega
  show IsRangeIter _ _ (lo+((0:Nat):Int)*1) ((((hi-lo).toNat:Nat):Int)-((0:Nat):Int)) 1;rw [e1,e2];exact V5 _ rfl
 ·have e:b=(s.heap.push { cls:=.type "range",data:=.fields #[.int lo t,.int hi u,.int 1 v] }).objs.size:=by simpa using hb
  subst e;exact I1.fpOk (VP _) (I1.hok.fresh (VP _))
def HR (ta:TA):TI:=fun σ H R=>ta σ H fun vs H1=>∃ j:Int,vs=[.int j]∧-(2^62) ≤ j∧j<2^62∧R (Dm 0 j.toNat) H1
theorem cI {a:Expr}{ta:TA}{p pos:Pos}(hg:Gl X "range")(hm:X.mg "range" = none)(ha:PA X [a] ta)(hs:starEach [a] X.env=[(false,eval a X.env)]:=by rfl):PI X tg (.Call (.Name "range" p) [a] [] pos) (HR ta):=by
 intro pins s σ H R I h;refine Call_ (pY I hg hm boot_range (PyProof.Rows.callWith_type1 (bW (ha pos pins s σ H _ I h) fun us s1 ⟨vs,H1,I1,r1,q1⟩=>?_) hs rfl));obtain ⟨j,e,q1,q2,q⟩:=q1;subst e;cases r1 with
 | cons r rr =>
  cases rr;obtain ⟨t,rfl⟩:=r;exact call_range_1 (yS I1 (by omega) (by omega) q1 q2 (by simpa using q))
def Lj (wi:TI)(g:TG)(tb:TS):TS:=fun D σ H=>wi σ H fun J H1=>∃ W:Nat →Nat →St →Hp →Prop,(∃ m,W 0 m σ H1)∧∀ i m σ H,W i m σ H →
 (J.stop i H∧D.nx σ H)∨(J.go i H∧∃ N:St →Hp →Prop,(∀ σ' H',N σ' H' →∃ m',m'<m∧W (i+1) m' σ' H')∧∀ x H',J.yld i H x H' →g x σ H' fun σ2 H2=>tb { D with nx:=N,ct:=N,bk:=D.nx } σ2 H2)
def lY (fp:List Addr)(h:Heap):List (Addr×Obj):=fp.filterMap fun b=>(h.get? b).map fun o=>(b,o)
theorem fG {fp:List Addr}{h:Heap}{b:Addr}{o:Obj}(hb:b∈fp)(e:h.get? b=some o):(b,o)∈lY fp h:=Vu.mpr ⟨b,hb,by rw [e]; rfl⟩
theorem wO {fp:List Addr}{h:Heap}{p:Addr×Obj}(hp:p∈lY fp h):p.1∈fp∧h.get? p.1=some p.2:=by
 obtain ⟨b,hb,e⟩:=Vu.mp hp;cases q:h.get? b with
 | none=>rw [q] at e; cases e
 | some o =>
  rw [q] at e;have e':(b,o)=p:=Vy.inj e;subst e';exact ⟨hb,q⟩
theorem aL.pinned {pins:List (Addr×Obj)}{σ:St}{H:Hp}{s:Shared}{fp:List Addr}(I:aL X pins σ H s)(hf:∀ b∈fp,qR X pins H b)(ho:∀ b∈fp,∃ o,s.heap.get? b=some o∧∀ v,o.data≠.cell v):aL X (pins++lY fp s.heap) σ H s :=
 I.pins_of fun p hp=>(W2.mp hp).elim (fun z=>I.pin p (Vf _ z)) fun z=>by
  obtain ⟨hb,e⟩:=wO z;obtain ⟨f0,f1,f2,_⟩:=hf p.1 hb;obtain ⟨o,e',d⟩:=ho p.1 hb;rw [e] at e'; cases e';exact ⟨e,f0,f1,f2,d⟩
theorem aL.unpinned {pins pl:List (Addr×Obj)}{σ:St}{H:Hp}{s:Shared}(I:aL X (pins++pl) σ H s):aL X pins σ H s:=I.pins_of fun p hp=>I.pin p (Vf _ (Wr _ hp))
theorem iV {iter:Expr}{body:List Stmt}{wi:TI}{g:TG}{tb:TS}{pos:Pos}(hp:PassesOwn (model X.prog X.w) X.A X.env X.xe)(hc:X.calm=true)(hi:PI X tg iter wi)(hg:PG X tg g)(hb:mW X body tb)
  (hs:∀ x,foldedSetIterable iter X.env x=pure x:=by intro _; rfl):PS X (.For tg iter body [] pos) (Lj wi g tb):=by
 intro pins s σ H D I h;refine wpAny_For (bW (hi pins s σ H _ I h) fun v s1 h1=>bW h1 fun itv s2 h2=>?_) hs;obtain ⟨it,fp,tn,J,H2,e,I2,T,st2,f2,W,⟨m0,w0⟩,turn⟩:=h2;subst e;have stat:∀ {H':Hp},(∀ b∈fp,H' b=none) →∀ b∈fp,qR X pins H' b:=fun hn b hb=>⟨hn b hb,(f2 b hb).2⟩
 refine codeAny_forLoop_any (fun n s'=>∃ i σ' H',aL X pins σ' H' s'∧tn i s'.heap∧(∀ b∈fp,H' b=none)∧W i n σ' H') ?_ m0 ⟨0,σ,H2,I2,st2,fun b hb=>(f2 b hb).1,w0⟩;rintro n s3 ⟨i,σ3,H3,I3,st3,fr3,w3⟩;rcases turn i n σ3 H3 w3 with ⟨stop,qn⟩ | ⟨go,N,hN,step⟩
 ·refine wpAny_passesOwn hp (bW (T.done X rfl rfl rfl hc i pins s3 σ3 H3 X.xe I3 (stat fr3) st3 stop) fun r s4 ⟨hr,I4⟩=>?_);subst hr;exact wpAny_execs_nil ⟨σ3,H3,I4,qn⟩
 ·refine wpAny_passesOwn hp (bW (T.item X rfl rfl rfl hc i pins s3 σ3 H3 X.xe I3 (stat fr3) st3 go) fun r s4 ⟨u,hr,h4⟩=>?_);subst hr;refine wpAny_passesOwn hp (bW h4 fun _ s5 ⟨x,H5,I5,r5,y5,st5,fr5⟩=>?_);have I5':=I5.pinned (stat fr5) (T.obj _ _ st5);refine wpAny_passesOwn hp (bW (hg _ s5 σ3 H5 x u _ I5' r5 (step x H5 y5)) fun _ s6 ⟨σ6,H6,I6,q6⟩=>?_);refine wpAny_passesOwn hp (bW (hb _ s6 σ6 H6 _ I6 q6) fun f s7 q7=>?_);have again:∀ {σ7:St}{H7:Hp},aL X (pins++lY fp s5.heap) σ7 H7 s7 →N σ7 H7 →∃ m,m<n∧∃ i σ' H',aL X pins σ' H' s7∧tn i s7.heap∧(∀ b∈fp,H' b=none)∧W i m σ' H':=fun {σ7 H7} I7 n7=>by
   obtain ⟨m',hm,w7⟩:=hN σ7 H7 n7;refine ⟨m',hm,i+1,σ7,H7,I7.unpinned,T.keep _ _ _ st5 fun b hb o e=>(I7.pin (b,o) (Vf _ (Vf _ (fG hb e)))).1,fun b hb=>?_,w7⟩;obtain ⟨o,e,d⟩:=T.obj _ _ st5 b hb;exact (I7.pin (b,o) (Vf _ (Vf _ (fG hb e)))).2.1
  cases f with
  | next=>obtain ⟨σ7,H7,I7,n7⟩:=q7; exact again I7 n7
  | cont=>obtain ⟨σ7,H7,I7,n7⟩:=q7; exact again I7 n7
  | brk=>obtain ⟨σ7,H7,I7,q7⟩:=q7; exact ⟨σ7,H7,I7.unpinned,q7⟩
  | ret v=>obtain ⟨x7,σ7,H7,I7,r7,q7⟩:=q7; exact ⟨x7,σ7,H7,I7.unpinned,r7,q7⟩
end
theorem mU {K:PySem.W.Frag}{a:Addr}{xs:List V}{g:TG}{tb:TS}{D:Ends}{σ:St}{H:Hp}(Pv:Nat →St →Hp →Prop)(h0:Pv 0 σ H)(hl:∀ i σ H,i ≤ xs.length →Pv i σ H →bM K H a xs)
  (hs:∀ i x σ H,xs[i]? = some x →Pv i σ H →g x σ H fun σ2 H2=>tb { D with nx:=Pv (i+1),ct:=Pv (i+1),bk:=D.nx } σ2 H2) (hd:∀ σ H,Pv xs.length σ H →D.nx σ H) :
  ∃ W:Nat →Nat →St →Hp →Prop,(∃ m,W 0 m σ H)∧∀ i m σ H,W i m σ H →
   ((Ea K a).stop i H∧D.nx σ H)∨((Ea K a).go i H∧∃ N:St →Hp →Prop,(∀ σ' H',N σ' H' →∃ m',m'<m∧W (i+1) m' σ' H')∧∀ x H',(Ea K a).yld i H x H' →g x σ H' fun σ2 H2=>tb { D with nx:=N,ct:=N,bk:=D.nx } σ2 H2):=by
 refine ⟨fun i m σ H=>m=xs.length-i∧i ≤ xs.length∧Pv i σ H,⟨xs.length,by simp,Vt _,h0⟩,?_⟩;rintro i m σ H ⟨rfl,hi,p⟩;have q:=hl i σ H hi p
 by_cases hlt:i<xs.length
 ·refine .inr ⟨⟨xs,xs[i],q,by simp [hlt]⟩,Pv (i+1),fun σ' H' p'=>⟨xs.length-(i+1),by omega,rfl,hlt,p'⟩,fun x H' y=>?_⟩;obtain ⟨e,y⟩:=y;subst e;exact hs i x σ _ (y xs q) p
 ·have e:i=xs.length:=by omega
  subst e;exact .inl ⟨⟨xs,q,VP _⟩,hd σ H p⟩
theorem gZ {lo:Int}{n:Nat}{g:TG}{tb:TS}{D:Ends}{σ:St}{H:Hp}(Pv:Nat →St →Hp →Prop)(h0:Pv 0 σ H)
  (hs:∀ i σ H,i<n →Pv i σ H →g (.int (lo+i)) σ H fun σ2 H2=>tb { D with nx:=Pv (i+1),ct:=Pv (i+1),bk:=D.nx } σ2 H2) (hd:∀ σ H,Pv n σ H →D.nx σ H) :
  ∃ W:Nat →Nat →St →Hp →Prop,(∃ m,W 0 m σ H)∧∀ i m σ H,W i m σ H →
   ((Dm lo n).stop i H∧D.nx σ H)∨((Dm lo n).go i H∧∃ N:St →Hp →Prop,(∀ σ' H',N σ' H' →∃ m',m'<m∧W (i+1) m' σ' H')∧∀ x H',(Dm lo n).yld i H x H' →g x σ H' fun σ2 H2=>tb { D with nx:=N,ct:=N,bk:=D.nx } σ2 H2):=by
 refine ⟨fun i m σ H=>m=n-i∧i ≤ n∧Pv i σ H,⟨n,by simp,Vt _,h0⟩,?_⟩;rintro i m σ H ⟨rfl,hi,p⟩
 by_cases hlt:i<n
 ·refine .inr ⟨hlt,Pv (i+1),fun σ' H' p'=>⟨n-(i+1),by omega,rfl,hlt,p'⟩,fun x H' y=>?_⟩;obtain ⟨e,y⟩:=y;subst e y;exact hs i σ _ hlt p
 ·have e:i=n:=by omega
  subst e;exact .inl ⟨VP _,hd σ H p⟩
abbrev R2:=V →V →Hp →VK →Prop
def gB (X:Cx)(f:Value →Value →Sem Value)(r:R2):Prop :=
 ∀ (pins:List (Addr×Obj)) (s:Shared) (σ:St) (H:Hp) (x y:V) (v u:Value) (Q:VK),aL X pins σ H s →RelV x v →RelV y u →r x y H Q →
  wpAny (model X.prog X.w) X.A (f v u) (EP X pins σ Q) X.xe s
def JN (X:Cx)(f:Value →Sem Value)(r:V →Hp →VK →Prop):Prop :=
 ∀ (pins:List (Addr×Obj)) (s:Shared) (σ:St) (H:Hp) (x:V) (v:Value) (Q:VK),aL X pins σ H s →RelV x v →r x H Q →
  wpAny (model X.prog X.w) X.A (f v) (EP X pins σ Q) X.xe s
def cN (X:Cx)(f:Value)(r:List V →Hp →VK →Prop):Prop :=
 ∀ (pins:List (Addr×Obj)) (s:Shared) (σ:St) (H:Hp) (xs:List V) (us:List Value) (Q:VK),aL X pins σ H s →bC xs us →r xs H Q →
  wpAny (model X.prog X.w) X.A (call f us) (EP X pins σ Q) X.xe s
def Bw (r:R2)(ta tb:TE):TE:=fun σ H Q=>ta σ H fun x H1=>tb σ H1 fun y H2=>r x y H2 Q
def Ou (r:V →Hp →VK →Prop)(ta:TE):TE:=fun σ H Q=>ta σ H fun x H1=>r x H1 Q
def rI (C:Int →Int →Prop)(g:Int →Int →V):R2:=fun x y H Q=>∃ i j,x=.int i∧y=.int j∧C i j∧Q (g i j) H
def Ba (g:Int →Int →V):R2:=fun x y H Q=>∃ i j,x=.int i∧y=.int j∧Q (g i j) H
def rU (g:Int →V):V →Hp →VK →Prop:=fun x H Q=>∃ i,x=.int i∧Q (g i) H
section
variable {X:Cx}{a b c:Expr}{ta tb tc:TE}{pos:Pos}
theorem DP (ha:PE X a ta)(hb:PE X b tb){pins:List (Addr×Obj)}{s:Shared}{σ:St}{H:Hp}{R:V →V →Hp →Prop}(I:aL X pins σ H s)
  (h:ta σ H fun x H1=>tb σ H1 fun y H2=>R x y H2) {Q:Value →Shared →Prop}{f:Value →Value →Sem Value}
  (hf:∀ v u s2 x y H2,aL X pins σ H2 s2 →RelV x v →RelV y u →R x y H2 →wpAny (model X.prog X.w) X.A (f v u) Q X.xe s2) :
  wpAny (model X.prog X.w) X.A (eval a X.env) (fun v s₁=>wpAny (model X.prog X.w) X.A (eval b X.env) (fun u s₂=>wpAny (model X.prog X.w) X.A (f v u) Q X.xe s₂) X.xe s₁) X.xe s:=by
 refine bW (ha pins s σ H _ I h) fun v s1 ⟨x,H1,I1,r1,q1⟩=>?_;refine bW (hb pins s1 σ H1 _ I1 q1) fun u s2 ⟨y,H2,I2,r2,q2⟩=>?_;exact hf v u s2 x y H2 I2 r1 r2 q2
theorem aZ {op:Operator}{r:R2}(ho:gB X (binaryOp op) r)(ha:PE X a ta)(hb:PE X b tb):PE X (.BinOp a op b pos) (Bw r ta tb):=by
 intro pins s σ H Q I h;exact wpAny_BinOp (DP ha hb I h fun v u s2 x y H2 I2 rx ry q=>ho pins s2 σ H2 x y v u Q I2 rx ry q)
theorem Eo {op:UnaryOp}{r:V →Hp →VK →Prop}(ho:JN X (unaryOp op) r)(ha:PE X a ta):PE X (.UnaryOp op a pos) (Ou r ta):=by
 intro pins s σ H Q I h;exact UnaryOp_ (bW (ha pins s σ H _ I h) fun v s1 ⟨x,H1,I1,r1,q1⟩=>ho pins s1 σ H1 x v Q I1 r1 q1)
theorem Ed {f:Value →Value →Sem Value}{C:Int →Int →Prop}{g:Int →Int →Int}
  (rule:∀ (i j:Int) (t u:Tok) (s:Shared) (Q:Value →Shared →Prop) (E:Value →Shared →Prop),C i j →Q (.int (g i j) s.toks) { s with toks:=s.toks+1 } →wpAny (model X.prog X.w) X.A (f (.int i t) (.int j u)) Q E s) :
  gB X f (rI C fun i j=>.int (g i j)):=by
 intro pins s σ H x y v u Q I rx ry h;obtain ⟨i,j,rfl,rfl,hc,q⟩:=h;obtain ⟨t,rfl⟩:=rx;obtain ⟨t',rfl⟩:=ry;exact rule i j t t' s _ _ hc ⟨.int (g i j),H,I.tok _,⟨_,rfl⟩,q⟩
theorem zZ {f:Value →Value →Sem Value}{g:Int →Int →Int}
  (rule:∀ (i j:Int) (t u:Tok) (s:Shared) (Q:Value →Shared →Prop) (E:Value →Shared →Prop),Q (.int (g i j) s.toks) { s with toks:=s.toks+1 } →wpAny (model X.prog X.w) X.A (f (.int i t) (.int j u)) Q E s) :
  gB X f (Ba fun i j=>.int (g i j)):=by
 intro pins s σ H x y v u Q I rx ry h;obtain ⟨i,j,rfl,rfl,q⟩:=h;obtain ⟨t,rfl⟩:=rx;obtain ⟨t',rfl⟩:=ry;exact rule i j t t' s _ _ ⟨.int (g i j),H,I.tok _,⟨_,rfl⟩,q⟩
theorem Ih {f:Value →Value →Sem Value}{g:Int →Int →Bool}
  (rule:∀ (i j:Int) (t u:Tok) (s:Shared) (Q:Value →Shared →Prop) (E:Value →Shared →Prop),Q (.bool (g i j)) s →wpAny (model X.prog X.w) X.A (f (.int i t) (.int j u)) Q E s) :
  gB X f (Ba fun i j=>.bl (g i j)):=by
 intro pins s σ H x y v u Q I rx ry h;obtain ⟨i,j,rfl,rfl,q⟩:=h;obtain ⟨t,rfl⟩:=rx;obtain ⟨t',rfl⟩:=ry;exact rule i j t t' s _ _ ⟨.bl (g i j),H,I,rfl,q⟩
def Mr (i j:Int):Prop:=0<j∧j<1073741824
def Lk (i j:Int):Prop:=0 ≤ j∧j ≤ 1000000∧i.natAbs<2^64
def Dw (i j:Int):Prop:=(-(2^64)<i∧i<2^64)∨(-(2^64)<j∧j<2^64)
theorem Dw.ok {i j:Int}(h:Dw i j):IntMulOk i j:=by
 rcases h with ⟨h1,h2⟩ | ⟨h1,h2⟩
 ·exact .of_left (intBits_le_64 h1 h2)
 ·exact .of_right (intBits_le_64 h1 h2)
theorem tZ (k:Nat):(0:Int) ≤ 2^k:=by
 rw [two_pow_cast];exact Int.natCast_nonneg _
theorem cH:gB X (binaryOp .Add) (Ba fun i j=>.int (i+j)):=zZ fun _ _ _ _ _ _ _ q=>add_int q
theorem jD:gB X (binaryOp .Sub) (Ba fun i j=>.int (i-j)):=zZ fun _ _ _ _ _ _ _ q=>sub_int q
theorem t8:gB X (binaryOp .Mult) (rI Dw fun i j=>.int (i*j)):=Ed fun _ _ _ _ _ _ _ hc q=>mul_int q hc.ok
theorem cM:gB X (binaryOp .FloorDiv) (rI Mr fun i j=>.int (i/j)):=Ed fun i j _ _ _ _ _ hc q=>by
 have h1:(0:Int)<j:=hc.1;have h2:j<1073741824:=hc.2;exact floordiv_int (by omega) (by rw [Wf i (by omega)]; exact q) (.inl (PyProof.noPylong_small (by omega)))
theorem bJ:gB X (binaryOp .Mod) (rI (fun _ j=>0<j) fun i j=>.int (i%j)):=Ed fun i j _ _ _ _ _ hc q=>by
 have h1:(0:Int)<j:=hc;exact mod_int' (by omega) (by rw [Int.fmod_eq_emod_of_nonneg i (by omega)]; exact q)
theorem uO:gB X (binaryOp .LShift) (rI Lk fun i j=>.int (i*2^j.toNat)):=Ed fun _ _ _ _ _ _ _ hc q=>lshift_int_small hc.1 hc.2.1 hc.2.2 q
theorem EY:gB X (binaryOp .RShift) (rI (fun _ j=>0 ≤ j) fun i j=>.int (i/2^j.toNat)):=Ed fun i j _ _ _ _ _ hc q =>
 rshift_int hc (by rw [Wf i (tZ _)]; exact q)
theorem Dk:gB X (binaryOp .BitAnd) (Ba fun i j=>.int (Builtin.bitAnd i j)):=zZ fun _ _ _ _ _ _ _ q=>and_int q
theorem IV:gB X (binaryOp .BitOr) (Ba fun i j=>.int (Builtin.bitOr i j)):=zZ fun _ _ _ _ _ _ _ q=>or_int q
theorem Qi {f:Value →Sem Value}{g:Int →Int}
  (rule:∀ (i:Int) (t:Tok) (s:Shared) (Q:Value →Shared →Prop) (E:Value →Shared →Prop),Q (.int (g i) s.toks) { s with toks:=s.toks+1 } →wpAny (model X.prog X.w) X.A (f (.int i t)) Q E s) :
  JN X f (rU fun i=>.int (g i)):=by
 intro pins s σ H x v Q I rx h;obtain ⟨i,rfl,q⟩:=h;obtain ⟨t,rfl⟩:=rx;exact rule i t s _ _ ⟨.int (g i),H,I.tok _,⟨_,rfl⟩,q⟩
theorem yC:JN X (unaryOp .USub) (rU fun i=>.int (-i)):=Qi fun _ _ _ _ _ q=>neg_int q
end
def Ip:V →V →Bool
 | .non,.non=>true | .non,.int _=>true | .int _,.non=>true | .non,.bl _=>true | .bl _,.non=>true | .non,.str _=>true | .str _,.non=>true
 | .int _,.int _=>true | .bl _,.bl _=>true | .str _,.str _=>true | .byt _,.byt _=>true
 | .int _,.str _=>true | .str _,.int _=>true | .bl _,.str _=>true | .str _,.bl _=>true
 | _,_=>false
def Pj:R2:=fun x y H Q=>Ip x y=true∧Q (.bl (decide (x=y))) H
def QZ:R2:=fun x y H Q=>Ip x y=true∧Q (.bl (!decide (x=y))) H
theorem vQ {i j:Int}:decide (V.int i=V.int j)=(i==j):=by
 rw [Vv];simp
theorem zG {i j:Bool}:decide (V.bl i=V.bl j)=(i==j):=by
 rw [Vv];simp
theorem vY {i j:Str}:decide (V.str i=V.str j)=(i==j):=by
 rw [Vv];simp
theorem vW {i j:Array UInt8}:decide (V.byt i=V.byt j)=(i.toList==j.toList):=by
 rw [Vv];cases i;cases j;simp
section
variable {X:Cx}{a b c:Expr}{ta tb tc:TE}{pos:Pos}
theorem bD {pins:List (Addr×Obj)}{σ:St}{H:Hp}{s:Shared}{Q:VK}{k k':Bool}(I:aL X pins σ H s)(q:Q (.bl k) H)(e:k=k'):EP X pins σ Q (.bool k') s:=by
 subst e;exact ⟨.bl k,H,I,rfl,q⟩
theorem m5:gB X (compareOp .Eq) Pj:=by
 intro pins s σ H x y v u Q I rx ry h;obtain ⟨hs,q⟩:=h;cases x with
 | non =>
  cases rx;cases y with
  | non=>cases ry; exact PySem.EqNone.eq_none_none (bD I q (by simp))
  | bl j=>cases ry; exact PySem.EqNone.eq_none_bool (bD I q (by simp))
  | int j=>obtain ⟨t',rfl⟩:=ry; exact PySem.EqNone.eq_none_int (bD I q (by simp))
  | str j=>obtain ⟨t',rfl⟩:=ry; exact PySem.EqNone.eq_none_str (bD I q (by simp))
  | _=>exact absurd (show false=true from hs) VN
 | bl i =>
  cases rx;cases y with
  | non=>cases ry; exact PySem.EqNone.eq_bool_none (bD I q (by simp))
  | bl j=>cases ry; exact eq_bool (bD I q zG)
  | str j=>obtain ⟨t',rfl⟩:=ry; exact PySem.EqMixed.eq_bool_str (bD I q (by simp))
  | _=>exact absurd (show false=true from hs) VN
 | int i =>
  obtain ⟨t,rfl⟩:=rx;cases y with
  | non=>cases ry; exact PySem.EqNone.eq_int_none (bD I q (by simp))
  | int j=>obtain ⟨t',rfl⟩:=ry; exact eq_int (bD I q vQ)
  | str j=>obtain ⟨t',rfl⟩:=ry; exact PySem.EqMixed.eq_int_str (bD I q (by simp))
  | _=>exact absurd (show false=true from hs) VN
 | str i =>
  obtain ⟨t,rfl⟩:=rx;cases y with
  | non=>cases ry; exact PySem.EqNone.eq_str_none (bD I q (by simp))
  | bl j=>cases ry; exact PySem.EqMixed.eq_str_bool (bD I q (by simp))
  | int j=>obtain ⟨t',rfl⟩:=ry; exact PySem.EqMixed.eq_str_int (bD I q (by simp))
  | str j=>obtain ⟨t',rfl⟩:=ry; exact eq_str (bD I q vY)
  | _=>exact absurd (show false=true from hs) VN
 | byt i =>
  obtain ⟨t,rfl⟩:=rx;cases y with
  | byt j=>obtain ⟨t',rfl⟩:=ry; exact PySem.W.eq_bytes (bD I q vW)
  | _=>exact absurd (show false=true from hs) VN
 | _=>cases y <;> exact absurd (show false=true from hs) VN
theorem HJ:gB X (compareOp .NotEq) QZ:=by
 intro pins s σ H x y v u Q I rx ry h;obtain ⟨hs,q⟩:=h;cases x with
 | non =>
  cases rx;cases y with
  | non=>cases ry; exact PySem.EqNone.ne_none_none (bD I q (by simp))
  | bl j=>cases ry; exact PySem.EqNone.ne_none_bool (bD I q (by simp))
  | int j=>obtain ⟨t',rfl⟩:=ry; exact PySem.EqNone.ne_none_int (bD I q (by simp))
  | str j=>obtain ⟨t',rfl⟩:=ry; exact PySem.EqNone.ne_none_str (bD I q (by simp))
  | _=>exact absurd (show false=true from hs) VN
 | bl i =>
  cases rx;cases y with
  | non=>cases ry; exact PySem.EqNone.ne_bool_none (bD I q (by simp))
  | bl j=>cases ry; exact ne_bool (bD I q (congrArg not zG))
  | str j=>obtain ⟨t',rfl⟩:=ry; exact PySem.EqMixed.ne_bool_str (bD I q (by simp))
  | _=>exact absurd (show false=true from hs) VN
 | int i =>
  obtain ⟨t,rfl⟩:=rx;cases y with
  | non=>cases ry; exact PySem.EqNone.ne_int_none (bD I q (by simp))
  | int j=>obtain ⟨t',rfl⟩:=ry; exact ne_int (bD I q (congrArg not vQ))
  | str j=>obtain ⟨t',rfl⟩:=ry; exact PySem.EqMixed.ne_int_str (bD I q (by simp))
  | _=>exact absurd (show false=true from hs) VN
 | str i =>
  obtain ⟨t,rfl⟩:=rx;cases y with
  | non=>cases ry; exact PySem.EqNone.ne_str_none (bD I q (by simp))
  | bl j=>cases ry; exact PySem.EqMixed.ne_str_bool (bD I q (by simp))
  | int j=>obtain ⟨t',rfl⟩:=ry; exact PySem.EqMixed.ne_str_int (bD I q (by simp))
  | str j=>obtain ⟨t',rfl⟩:=ry; exact ne_str (bD I q (congrArg not vY))
  | _=>exact absurd (show false=true from hs) VN
 | byt i =>
  obtain ⟨t,rfl⟩:=rx;cases y with
  | byt j=>obtain ⟨t',rfl⟩:=ry; exact PySem.W.ne_bytes (bD I q (congrArg not vW))
  | _=>exact absurd (show false=true from hs) VN
 | _=>cases y <;> exact absurd (show false=true from hs) VN
theorem Br:gB X (compareOp .Lt) (Ba fun i j=>.bl (decide (i<j))):=Ih fun _ _ _ _ _ _ _ q=>lt_int q
theorem oR:gB X (compareOp .LtE) (Ba fun i j=>.bl (decide (i ≤ j))):=Ih fun _ _ _ _ _ _ _ q=>le_int q
theorem zJ:gB X (compareOp .Is) (fun x y H Q=>y=.non∧Q (.bl (decide (x=.non))) H):=by
 intro pins s σ H x y v u Q I rx ry h;obtain ⟨rfl,q⟩:=h;cases ry;refine is_none_gen (bD I q ?_);cases x <;> first
  | (cases rx; rfl)
  | (obtain ⟨t,rfl⟩:=rx; rfl)
theorem Ag:gB X (compareOp .IsNot) (fun x y H Q=>y=.non∧Q (.bl (!decide (x=.non))) H):=by
 intro pins s σ H x y v u Q I rx ry h;obtain ⟨rfl,q⟩:=h;cases ry;refine isnot_none_gen (bD I q ?_);cases x <;> first
  | (cases rx; rfl)
  | (obtain ⟨t,rfl⟩:=rx; rfl)
theorem cG (b:Expr){op:CmpOp}(h:op≠.In:=by decide)(h2:op≠.NotIn:=by decide):behindInMarks op b=false:=by
 have e1:(op==CmpOp.In)=false:=by cases op <;> first | rfl | exact absurd rfl h
 have e2:(op==CmpOp.NotIn)=false:=by cases op <;> first | rfl | exact absurd rfl h2
 cases b <;> simp [behindInMarks,e1,e2]
theorem fD {op:CmpOp}{r:R2}(ho:gB X (compareOp op) r)(ha:PE X a ta)(hb:PE X b tb)(hm:behindInMarks op b=false):PE X (.Compare a [op] [b] pos) (Bw r ta tb):=by
 intro pins s σ H Q I h;exact wpAny_Compare1 (DP ha hb I h fun v u s2 x y H2 I2 rx ry q=>ho pins s2 σ H2 x y v u Q I2 rx ry q) hm
def xF (t:TE):TT:=fun σ H Q=>t σ H fun x H'=>∃ k,x=.bl k∧Q k H'
theorem eZ {op:CmpOp}{r:R2}(ho:gB X (compareOp op) r)(ha:PE X a ta)(hb:PE X b tb)(hm:behindInMarks op b=false):PT X (.Compare a [op] [b] pos) (xF (Bw r ta tb)):=by
 intro pins s σ H Q I h;refine wpAny_isTrue_Compare1 (bW (ha pins s σ H _ I h) fun v s1 ⟨x,H1,I1,r1,q1⟩=>bW (hb pins s1 σ H1 _ I1 q1) fun u s2 ⟨y,H2,I2,r2,q2⟩ =>
  bW (ho pins s2 σ H2 x y v u _ I2 r1 r2 q2) fun c s3 ⟨z,H3,I3,r3,k,e,q3⟩=>?_) hm
 subst e;cases r3;exact wpAny_truthy_bool ⟨H3,I3,q3⟩
def xH (r r':R2)(ta tb tc:TE):TE:=fun σ H Q=>ta σ H fun x H1=>tb σ H1 fun y H2=>r x y H2 fun z H3=>∃ k,z=.bl k ∧
 (if k=true then tc σ H3 fun w' H4=>r' y w' H4 Q else Q (.bl false) H3)
theorem yE {op op':CmpOp}{r r':R2}(ho:gB X (compareOp op) r)(ho':gB X (compareOp op') r')(ha:PE X a ta)(hb:PE X b tb)(hc:PE X c tc)
  (hm:lastMarks [op,op'] [b,c]=false:=by with_unfolding_all rfl):PE X (.Compare a [op,op'] [b,c] pos) (xH r r' ta tb tc):=by
 intro pins s σ H Q I h;refine Compare_chain (bW (ha pins s σ H _ I h) fun v s1 ⟨x,H1,I1,r1,q1⟩=>chain_link (bW (hb pins s1 σ H1 _ I1 q1) fun u s2 ⟨y,H2,I2,r2,q2⟩ =>
  bW (ho pins s2 σ H2 x y v u _ I2 r1 r2 q2) fun d s3 ⟨z,H3,I3,r3,k,e,q3⟩=>?_)) hm
 subst e;cases r3;refine wpAny_truthy_bool ?_;cases k with
 | false=>exact ite_ff ⟨.bl false,H3,I3,rfl,q3⟩
 | true=>exact ite_tt (chain_last (bW (hc pins s3 σ H3 _ I3 q3) fun w' s4 ⟨z',H4,I4,r4,q4⟩=>ho' pins s4 σ H4 y z' u w' Q I4 r2 r4 q4))
theorem zE {op op':CmpOp}{r r':R2}(ho:gB X (compareOp op) r)(ho':gB X (compareOp op') r')(ha:PE X a ta)(hb:PE X b tb)(hc:PE X c tc)
  (hm:lastMarks [op,op'] [b,c]=false:=by with_unfolding_all rfl):PT X (.Compare a [op,op'] [b,c] pos) (xF (xH r r' ta tb tc)):=by
 intro pins s σ H Q I h;refine isTrue_chain (bW (ha pins s σ H _ I h) fun v s1 ⟨x,H1,I1,r1,q1⟩=>test_link (bW (hb pins s1 σ H1 _ I1 q1) fun u s2 ⟨y,H2,I2,r2,q2⟩ =>
  bW (ho pins s2 σ H2 x y v u _ I2 r1 r2 q2) fun d s3 ⟨z,H3,I3,r3,k,e,q3⟩=>?_)) hm
 subst e;cases r3;refine wpAny_truthy_bool ?_;cases k with
 | false =>
  obtain ⟨k',e',q'⟩:=q3;cases e';exact ite_ff ⟨H3,I3,q'⟩
 | true =>
  refine ite_tt (test_last (bW (hc pins s3 σ H3 _ I3 q3) fun w' s4 ⟨z',H4,I4,r4,q4⟩=>bW (ho' pins s4 σ H4 y z' u w' _ I4 r2 r4 q4) fun d' s5 ⟨z2,H5,I5,r5,k2,e2,q5⟩=>?_));subst e2;cases r5;exact wpAny_truthy_bool ⟨H5,I5,q5⟩
theorem qF:(sizeLine:Nat)<2^63:=by rw [sizeLine_eq]; decide
theorem vals1 {x:V}{us:List Value}(r:bC [x] us):∃ u,us=[u]∧RelV x u:=by
 cases r with
 | cons r1 r2=>cases r2; exact ⟨_,rfl,r1⟩
theorem vals2 {x y:V}{us:List Value}(r:bC [x,y] us):∃ u w',us=[u,w']∧RelV x u∧RelV y w':=by
 cases r with
 | cons r1 r2 =>
  cases r2 with
  | cons r3 r4=>cases r4; exact ⟨_,_,rfl,r1,r3⟩
theorem pK (hc:X.calm=true):cN X (.builtin "max") (fun xs H Q=>∃ i j,xs=[.int i,.int j]∧Q (.int (if j > i then j else i)) H):=by
 intro pins s σ H xs us Q I r h;obtain ⟨i,j,rfl,q⟩:=h;obtain ⟨u,w',rfl,⟨t,rfl⟩,⟨t',rfl⟩⟩:=vals2 r;refine max_two_ints (I.ok.hd hc) fun h' tk k=>⟨_,H,I.kept k,?_,q⟩
 by_cases hj:j > i
 ·rw [if_pos hj,if_pos hj]; exact ⟨_,rfl⟩
 ·rw [if_neg hj,if_neg hj]; exact ⟨_,rfl⟩
theorem wL (hc:X.calm=true):cN X (.builtin "min") (fun xs H Q=>∃ i j,xs=[.int i,.int j]∧Q (.int (if j<i then j else i)) H):=by
 intro pins s σ H xs us Q I r h;obtain ⟨i,j,rfl,q⟩:=h;obtain ⟨u,w',rfl,⟨t,rfl⟩,⟨t',rfl⟩⟩:=vals2 r;refine min_two_ints (I.ok.hd hc) fun h' tk k=>⟨_,H,I.kept k,?_,q⟩
 by_cases hj:j<i
 ·rw [if_pos hj,if_pos hj]; exact ⟨_,rfl⟩
 ·rw [if_neg hj,if_neg hj]; exact ⟨_,rfl⟩
end
structure uD (h:Heap)(x dx C:Addr)(mA:Str →Option Value):Prop where
 obj:h.get? x=some (PySem.W.instObj C dx)
 ns:h.Ns1 dx mA
 ne:dx≠x
theorem pI {h:Heap}{dx:Addr}{mA:Str →Option Value}(n:h.Ns1 dx mA):∃ od,h.get? dx=some od∧∀ name,PySem.W.lookIn name od=some (mA name):=by
 obtain ⟨o,es,ep,ho,hd,hk,_,hm⟩:=n;refine ⟨o,ho,fun name=>?_⟩;have e:=hm name;unfold nsFind findBy at e;rw [← XC] at e;unfold PySem.W.lookIn;rw [hd];dsimp only
 split
 ·rename_i y q;rw [q] at e;exact congrArg some e
 ·rename_i q;rw [q] at e;have a:es.toList.any (·.refKey)=false:=by
   rw [XJ];intro y hy;obtain ⟨z,t,hkey⟩:=hk y (Array.mem_toList_iff.mp hy);simp [DictEntry.refKey,hkey]
  have a':¬ es.toList.any (·.refKey)=true:=by rw [a]; exact VN
  rw [if_neg a'];exact congrArg some e
theorem uD.look {h:Heap}{x dx C:Addr}{mA:Str →Option Value}(I:uD h x dx C mA):∃ od,PySem.W.InstAt h x (PySem.W.instObj C dx) C (some od)∧∀ name,PySem.W.lookIn name od=some (mA name) :=
 let ⟨od,ho,hl⟩:=pI I.ns
 ⟨od,⟨I.obj,rfl,rfl,ho⟩,hl⟩
section
variable {prog:Program}{w:World}{A:Around}{E:Value →Shared →Prop}{s:Shared}{K:PySem.W.Frag}{x dx C f:Addr}{mA:Str →Option Value}{name:Str}{v:Value}
theorem BV {expr:Bool}{Q:Value →Shared →Prop}(X:K.In s.heap)(I:uD s.heap x dx C mA)(hg:PySem.W.plainGet K C name=true)(hh:PySem.W.hasDictIn K C=true)
  (ha:PySem.W.findIn K (.ref C) name=some none) (hv:mA name=some v) (hv':PySem.W.handedIn v=true) (h:Q v { s with toks:=s.toks+1 }) :
  wpAny (model prog w) A (getAttr (.ref x) name expr) Q E s:=by
 obtain ⟨od,J,hl⟩:=I.look;exact PySem.W.get_value X J (PySem.W.plainGet_of hg).1 (PySem.W.findObj_own hh ha rfl (by rw [hl,hv])) hv' h
theorem xR {pl:Sem Bool}{Q:Value×List Value →Shared →Prop}(X:K.In s.heap)(I:uD s.heap x dx C mA)(hg:PySem.W.plainGet K C name=true)
  (hf:PySem.W.findIn K (.ref C) name=some (some (.ref f))) (ht:PySem.W.isFn K (.ref f)=true) (hv:mA name=none) (h:Q (.ref f,[.ref x]) s) :
  wpAny (model prog w) A (getMethod (.ref x) name pl) Q E s:=by
 obtain ⟨od,J,hl⟩:=I.look;exact PySem.W.method_fn X J (PySem.W.plainGet_of hg).1 (PySem.W.plainGet_of hg).2 hf (beq_iff_eq.mp ht) (by show (PySem.W.lookIn name od).map (·.isSome)=some false; rw [hl,hv]; rfl) h
theorem BZ {ns:List Str}{Q:Unit →Shared →Prop}(X:K.In s.heap)(I:uD s.heap x dx C mA)
  (hs:PySem.W.findIn K (.ref C) "__setattr__" = some (some (.builtin "object.__setattr__"))) (hp:PySem.W.plainOver K C=true) (ht:PySem.W.takerIn K C name=some none) (hh:PySem.W.hasDictIn K C=true)
  (hw:PySem.Within mA ns) (hsz:ns.length ≤ sizeLine)
  (h:∀ h',uD h' x dx C (fun y=>if y=name then some v else mA y) →Wc dx s.heap h' →Q () { s with heap:=h',toks:=s.toks+2 }) :
  wpAny (model prog w) A (setAttr (.ref x) name v) Q E s:=by
 obtain ⟨od,J,hl⟩:=I.look;refine PySem.W.set_plain X J hs (PySem.W.osa_open (s:={ s with toks:=s.toks+1 }) (r:=none) X J hp ht fun b=>?_);obtain ⟨cd,hc,hd'⟩:=PySem.W.any_some hh;have hx:s.heap.get? x=some ⟨.ref C,some dx,.plain,#[]⟩:=I.obj;refine wpAny_bind (wpAny_pure (wpAny_bind (wpAny_bind (wpAny_loadPart hx (wpAny_bind (PySem.W.Looks.here (s:={ s with toks:=s.toks+1 }) (PySem.W.looks_clsIn X hc) ?_))))));rw [hd'];refine wpAny_pure (a:=some dx) (wpAny_bind (wpAny_pure (wpAny_bind ?_)));refine wpAny_nsSet1 (s:={ s with toks:=s.toks+1 }) I.ns fun h' hn2 hs2=>?_;obtain ⟨oD,esD,epD,hoD,hdD,hcD⟩:=hn2.count (PySem.Within.cons name v hw);refine wpAny_bind (wpAny_lookBehind hoD (by rw [hdD]; exact pastItsLine_dict (Va hcD (by rw [Vk]; omega))) ?_);exact wpAny_pure (h _ ⟨(hs2.2 _ (Ne.symm I.ne)).trans I.obj,hn2,I.ne⟩ hs2)
theorem yN {R:Result →Shared →Prop}{vs:List Value}{kw:List (Str×Value)}(X:K.In s.heap)(hm:PySem.W.makesIn K C=true)
  (hi:PySem.W.findIn K (.ref C) "__init__" = some (some (.ref f))) (hf:PySem.W.typeIn K (.ref f)=some (.type "function"))
  (h:codeAny (model prog w) (A.under (.builtin "type.__call__" ⟨.ref C::vs,kw⟩)) (.call (.ref f) ⟨.ref (s.heap.objs.size+1)::vs,kw⟩) (PySem.W.InitBack (s.heap.objs.size+1) R)
   { s with heap:=(s.heap.push PySem.W.emptyDict).push (PySem.W.instObj C s.heap.objs.size) }) :
  codeAny (model prog w) A (.call (.ref C) ⟨vs,kw⟩) R s:=by
 obtain ⟨hh,g,d,t,os⟩:=s;exact PySem.W.make_core (PySem.W.makes_of X hm) (PySem.W.looks_findIn X hi) (fun self=>PySem.W.bind_fn X self hf) (.inl rfl) h
end
def fM (f:Str)(v:V):List (Str×V) →List (Str×V)
 | []=>[(f,v)]
 | (g,x)::r=>if g=f then (g,v)::r else (g,x)::fM f v r
theorem gH (f g:Str)(v:V):∀ fs:List (Str×V),(fM f v fs).lookup g=if g=f then some v else fs.lookup g
 | []=>by
  show Vz g [(f,v)]=_
  by_cases h:g=f
  ·have hb:(g==f)=true:=beq_iff_eq.mpr h;simp only [Vz,hb,if_pos h]
  ·have hb:(g==f)=false:=beq_eq_false_iff_ne.mpr h;simp only [Vz,hb,if_neg h]
 | (k,x)::r=>by
  have ih:=gH f g v r;rw [show fM f v ((k,x)::r)=(if k=f then (k,v)::r else (k,x)::fM f v r) from rfl]
  by_cases hk:k=f
  ·rw [if_pos hk]
   by_cases h:g=k
   ·have hb:(g==k)=true:=beq_iff_eq.mpr h;simp only [Vz,hb,if_pos (h.trans hk)]
   ·have hb:(g==k)=false:=beq_eq_false_iff_ne.mpr h;simp only [Vz,hb,if_neg (fun e:g=f=>h (e.trans hk.symm))]
  ·rw [if_neg hk]
   by_cases h:g=k
   ·have hb:(g==k)=true:=beq_iff_eq.mpr h;simp only [Vz,hb,if_neg (fun e:g=f=>hk (h.symm.trans e))]
   ·have hb:(g==k)=false:=beq_eq_false_iff_ne.mpr h;simp only [Vz,hb];exact ih
theorem eU (f:Str)(v:V):∀ fs:List (Str×V),f∈(fM f v fs).map (·.1)∧∀ g,g∈fs.map (·.1) →g∈(fM f v fs).map (·.1)
 | []=>⟨by simp [fM],fun g h=>by simp at h⟩
 | (k,x)::r=>by
  obtain ⟨i1,i2⟩:=eU f v r;rw [show fM f v ((k,x)::r)=(if k=f then (k,v)::r else (k,x)::fM f v r) from rfl]
  by_cases hk:k=f
  ·rw [if_pos hk];subst hk;exact ⟨by simp,fun g h=>by simpa using h⟩
  ·rw [if_neg hk];refine ⟨?_,fun g h=>?_⟩
   ·rw [Vp];exact V9 _ i1
   ·rw [Vp] at h ⊢;rcases Vh.mp h with e | e
    ·exact Vh.mpr (.inl e)
    ·exact V9 _ (i2 g e)
theorem kY (f:Str)(v:V):∀ fs:List (Str×V),(fM f v fs).length ≤ fs.length+1
 | []=>by simp [fM]
 | (k,x)::r=>by
  have ih:=kY f v r;rw [show fM f v ((k,x)::r)=(if k=f then (k,v)::r else (k,x)::fM f v r) from rfl]
  by_cases hk:k=f
  ·rw [if_pos hk,Vk,Vk]; omega
  ·rw [if_neg hk,Vk,Vk]; omega
theorem jQ.some_of {v:V}{o:Option Value}(r:jQ (some v) o):∃ u,o=some u∧RelV v u:=by
 cases o with
 | none=>exact (show False from r).elim
 | some u=>exact ⟨u,rfl,r⟩
theorem jQ.none_of {o:Option Value}(r:jQ none o):o=none:=by
 cases o with
 | none=>rfl
 | some u=>exact (show False from r).elim
theorem o4 {v:V}{u:Value}(r:RelV v u):PySem.W.handedIn u=true:=by
 cases v with
 | non=>cases (show u=Value.none from r); rfl
 | bl b=>cases (show u=Value.bool b from r); rfl
 | int i=>obtain ⟨t,e⟩:=(show ∃ t,u=Value.int i t from r); cases e; rfl
 | str x=>obtain ⟨t,e⟩:=(show ∃ t,u=Value.str x t from r); cases e; rfl
 | byt b=>obtain ⟨t,e⟩:=(show ∃ t,u=Value.bytes b t from r); cases e; rfl
 | flt b=>obtain ⟨t,e⟩:=(show ∃ t,u=Value.float b t from r); cases e; rfl
 | ref a=>cases (show u=Value.ref a from r); rfl
 | ty n=>cases (show u=Value.type n from r); rfl
section
variable {P:Program}{w:World}{H H':Hp}{h h':Heap}{a C dx:Addr}{fs fs':List (Str×V)}
theorem lU (hok:iY P w H h)(e:H a=some (.ins C dx fs)):∃ mA,uD h a dx C mA∧(∀ f,jQ (fs.lookup f) (mA f))∧PySem.Within mA (fs.map (·.1))∧fs.length ≤ 1000∧H dx=some (.own a):=by
 obtain ⟨d,z,ne,ob,mA,n,r,q⟩:=(show bH P w H h a (.ins C dx fs) from hok a _ e)
 exact ⟨mA,⟨ob,n,ne⟩,r,q,z,d⟩
end
structure mZ (K:PySem.W.Frag)(C:Addr):Prop where
 pg:PySem.W.plainGet K C Str.empty=true
 hd:PySem.W.hasDictIn K C=true
 po:PySem.W.plainOver K C=true
 sa:PySem.W.findIn K (.ref C) "__setattr__" = some (some (.builtin "object.__setattr__"))
theorem mZ.get {K:PySem.W.Frag}{C:Addr}(c:mZ K C)(f:Str):PySem.W.plainGet K C f=true:=c.pg
def cB (K:PySem.W.Frag)(C:Addr)(f:Str):Prop:=PySem.W.findIn K (.ref C) f=some none
theorem cB.taker {K:PySem.W.Frag}{C:Addr}{f:Str}(n:cB K C f):PySem.W.takerIn K C f=some none:=by
 unfold PySem.W.takerIn;rw [show PySem.W.findIn K (.ref C) f=some none from n]
 rfl
structure mJ (K:PySem.W.Frag)(C:Addr)(m:Str)(f:Addr):Prop where
 at_:PySem.W.findIn K (.ref C) m=some (some (.ref f))
 fn:PySem.W.isFn K (.ref f)=true
 kp:PySem.W.keepIn K (.ref f)=true
section
variable {X:Cx}{pins:List (Addr×Obj)}{σ:St}{H:Hp}{s:Shared}{a C dx:Addr}{fs:List (Str×V)}{f:Str}{v:V}{A:Around}{E:Value →Shared →Prop}
theorem tK {b:Bool}{Q:Value →Shared →Prop}(I:aL X pins σ H s)(e:H a=some (.ins C dx fs))(c:mZ X.K C)(n:cB X.K C f)(l:fs.lookup f=some v)
  (h:∀ u s',aL X pins σ H s' →RelV v u →Q u s'):wpAny (model X.prog X.w) A (getAttr (.ref a) f b) Q E s:=by
 obtain ⟨mA,O,r,_,_,_⟩:=lU I.hok e;obtain ⟨u,hu,ru⟩:=jQ.some_of (v:=v) (o:=mA f) (by rw [← l]; exact r f);exact BV I.kIn O (c.get f) c.hd n hu (o4 ru) (h u _ (I.tok _) ru)
theorem iZ {m:Str}{g:Addr}{pl:Sem Bool}{Q:Value×List Value →Shared →Prop}(I:aL X pins σ H s)(e:H a=some (.ins C dx fs))(c:mZ X.K C)(k:mJ X.K C m g)(l:fs.lookup m=none)
  (h:Q (.ref g,[.ref a]) s):wpAny (model X.prog X.w) A (getMethod (.ref a) m pl) Q E s:=by
 obtain ⟨mA,O,r,_,_,_⟩:=lU I.hok e;have hn:mA m=none:=jQ.none_of (by rw [← l]; exact r m);exact xR I.kIn O (c.get m) k.at_ k.fn hn h
theorem uT {y:V}{u:Value}{Q:Unit →Shared →Prop}(I:aL X pins σ H s)(e:H a=some (.ins C dx fs))(c:mZ X.K C)(n:cB X.K C f)(hl:fs.length<1000)(ry:RelV y u)
  (h:∀ s',aL X pins σ (aR H a (.ins C dx (fM f y fs))) s' →Q () s'):wpAny (model X.prog X.w) A (setAttr (.ref a) f u) Q E s:=by
 obtain ⟨mA,O,r,wi,_,ho⟩:=lU I.hok e;have hz:(fs.map (·.1)).length ≤ sizeLine:=by rw [VR,sizeLine_eq]; omega
 refine BZ I.kIn O c.sa c.po n.taker c.hd wi hz fun h' O' sb=>h _ ?_;have hd:∃ o,h'.get? dx=some o:=let ⟨o,_,_,e',_⟩:=O'.ns; ⟨o,e'⟩;refine I.write (x:=a) (e:=dx) (by rw [e]; exact True.intro) (.inr ho) (fun b q hb z=>(sb.2 b hb).trans z) hd ?_;refine ⟨by rw [aM O.ne]; exact ho,?_,O.ne,O'.obj,_,O'.ns,fun g=>?_,fun g hg=>?_⟩
 ·have:=kY f y fs; omega
 ·show jQ ((fM f y fs).lookup g) (if g=f then some u else mA g);rw [gH]
  by_cases q:g=f
  ·rw [if_pos q,if_pos q]; exact ry
  ·rw [if_neg q,if_neg q]; exact r g
 ·by_cases q:g=f
  ·rw [q]; exact (eU f y fs).1
  ·refine (eU f y fs).2 g (wi g fun z=>hg ?_);show (if g=f then some u else mA g)=none;rw [if_neg q]; exact z
theorem aL.made (I:aL X pins σ H s):aL X pins σ (aR (aR H s.heap.objs.size (.own (s.heap.objs.size+1))) (s.heap.objs.size+1) (.ins C s.heap.objs.size []))
  { s with heap:=(s.heap.push PySem.W.emptyDict).push (PySem.W.instObj C s.heap.objs.size) }:=by
 have e1:(s.heap.push PySem.W.emptyDict).get? s.heap.objs.size=some PySem.W.emptyDict:=V5 s.heap rfl;have e2:((s.heap.push PySem.W.emptyDict).push (PySem.W.instObj C s.heap.objs.size)).get? (s.heap.objs.size+1)=some (PySem.W.instObj C s.heap.objs.size):=by
  have:=V5 (s.heap.push PySem.W.emptyDict) (o:=PySem.W.instObj C s.heap.objs.size) rfl
  rwa [Ws] at this
 have e3:(s.heap.push PySem.W.emptyDict).Ns s.heap.objs.size (fun _=>none):=⟨PySem.W.emptyDict,#[],_,e1,rfl,(fun e he=>absurd he (by simp)),fun _=>rfl⟩
 have I1:=I.laid (a:=s.heap.objs.size) (o:=.own (s.heap.objs.size+1)) (h':=s.heap.push PySem.W.emptyDict) (t':=s.toks) (fun b u q=>VJ _ q) (VP _) ⟨_,e1⟩;refine I1.laid (a:=s.heap.objs.size+1) (o:=.ins C s.heap.objs.size []) (t':=s.toks) (fun b u q=>VJ _ q) (XM (Ws _ _)) ?_;have ne:s.heap.objs.size≠s.heap.objs.size+1:=V6 (XX _);refine ⟨by rw [aM ne,aB],Vt _,ne,e2,fun _=>none,(Heap.Ns1.of_empty e3).at fun o q=>VJ _ q,fun _=>True.intro,fun y hy=>absurd rfl hy⟩
theorem vP {prog:Program}{w:World}{env:Env}{e:Expr}{f:Str}{pos:Pos}{s:Shared}{Q:Value →Shared →Prop}(hb:attributeBase e f env (eval e env)=eval e env)
  (h:wpAny (model prog w) A (eval e env) (fun o s₁=>wpAny (model prog w) A (getAttr o f true) Q E s₁) E s):wpAny (model prog w) A (eval (.Attribute e f pos) env) Q E s :=
 Attribute_any_ h (by rw [arm_eval_Attribute,hb])
end
def Ik (K:PySem.W.Frag)(ta:TE)(f:Str):TE:=fun σ H Q=>ta σ H fun x H1=>∃ a C dx fs v,x=.ref a∧H1 a=some (.ins C dx fs)∧mZ K C∧cB K C f∧fs.lookup f=some v∧Q v H1
def Ng (K:PySem.W.Frag)(ta tv:TE)(f:Str):TS:=fun D σ H=>tv σ H fun y H1=>ta σ H1 fun x H2=>∃ a C dx fs,x=.ref a∧H2 a=some (.ins C dx fs)∧mZ K C∧cB K C f∧fs.length<1000 ∧
 D.nx σ (aR H2 a (.ins C dx (fM f y fs)))
section
variable {X:Cx}{o e value:Expr}{f:Str}{pos pos' tpos:Pos}{ta tv:TE}
theorem mR (he:PE X e ta)(hb:attributeBase e f X.env (eval e X.env)=eval e X.env):PE X (.Attribute e f pos) (Ik X.K ta f):=by
 intro pins s σ H Q I h;refine vP hb (bW (he pins s σ H _ I h) fun u s1 ⟨x,H1,I1,rx,a,C,dx,fs,v,ex,ea,c,n,l,q⟩=>?_);subst ex;obtain rfl:u=Value.ref a:=rx;exact tK I1 ea c n l fun u' s2 I2 ru=>⟨v,H1,I2,ru,q⟩
theorem pQ (ha:PE X o ta)(hv:PE X value tv)(hs:swapsWith value (some (.Attribute o f pos')) pos.line X.env=pure false):PS X (.Assign [.Attribute o f pos'] value pos) (Ng X.K ta tv f):=by
 intro pins s σ H D I h;refine plainObj_wpAny_Assign_Attribute (bW (hv pins s σ H _ I h) fun u s1 ⟨y,H1,I1,ry,q⟩=>bW (ha pins s1 σ H1 _ I1 q) fun ov s2 ⟨x,H2,I2,rx,a,C,dx,fs,ex,ea,c,n,l,q2⟩=>?_) hs;subst ex;obtain rfl:ov=Value.ref a:=rx;exact uT I2 ea c n l ry fun s3 I3=>⟨σ,_,I3,q2⟩
theorem CJ {pl:Sem Bool}{m:Str}{apos:Pos}{args:List Expr}{pins:List (Addr×Obj)}{s:Shared}{σ:St}{H:Hp}{Q:Value →Shared →Prop}{te:TE}(he:PE X e te)(I:aL X pins σ H s)
  (h:te σ H fun x H1=>∃ a C dx fs g,x=.ref a∧H1 a=some (.ins C dx fs)∧mZ X.K C∧mJ X.K C m g∧fs.lookup m=none ∧
   ∀ s1,aL X pins σ H1 s1 →wpAny (model X.prog X.w) X.A (callWith pos (.ref g) [.ref a] (backTo pos (starEach args X.env)) (backToKw pos (keywordEach [] X.env))) Q X.xe s1)
  (ht:eval (.Call (.Attribute e m apos) args [] pos) X.env=(do
   let ov ← eval e X.env
   standAt apos.atName
   let (f,first) ← holding [ov] (getMethod ov m pl)
   callWith pos f first (backTo pos (starEach args X.env)) (backToKw pos (keywordEach [] X.env)))) :
  wpAny (model X.prog X.w) X.A (eval (.Call (.Attribute e m apos) args [] pos) X.env) Q X.xe s:=by
 refine PySem.W.methodCall_KW (pl:=pl) (bW (he pins s σ H _ I h) fun u s1 ⟨x,H1,I1,rx,a,C,dx,fs,g,ex,ea,c,k,l,q⟩=>?_) ht;subst ex;obtain rfl:u=Value.ref a:=rx;exact iZ I1 ea c k l (q s1 I1)
end
section
variable {X:Cx}{pins:List (Addr×Obj)}{σ:St}{H:Hp}{s:Shared}{A:Around}{E:Value →Shared →Prop}{Q:Value →Shared →Prop}{c:Value}{b:Bool}
inductive cR (K:PySem.W.Frag)(H:Hp):V →Value →Prop where
 | non:cR K H .non (.type "NoneType")
 | bl (x:Bool):cR K H (.bl x) (.type "bool")
 | int (i:Int):cR K H (.int i) (.type "int")
 | str (x:Str):cR K H (.str x) (.type "str")
 | flt (x:UInt64):cR K H (.flt x) (.type "float")
 | lst {a:Addr}{xs:List V} (e:H a=some (.lst xs)):cR K H (.ref a) (.type "list")
 | frz {a:Addr}{o:Obj}{xs:List V} (e:H a=some (.frz o (.lst xs))):cR K H (.ref a) (.type "list")
 | tup {a:Addr}{xs:List V} (e:H a=some (.tup xs)):cR K H (.ref a) (.type "tuple")
 | dK {a:Addr}{kvs:List (Key×V)} (e:H a=some (.dK kvs)):cR K H (.ref a) (.type "dict")
 | dT {a:Addr}{kvs:List (List Key×V)} (e:H a=some (.dT kvs)):cR K H (.ref a) (.type "dict")
 | ins {a C dx:Addr}{fs:List (Str×V)} (e:H a=some (.ins C dx fs)) (cl:mZ K C) (ha:PySem.W.findIn K (.ref C) "__class__" = some (some (.builtin "object.__class__")))
   (hn:PySem.W.specialIn K (.builtin "object.__class__") "__get__" = some (some (.builtin "getset_descriptor.__get__"))) (htk:PySem.W.takesIn K (.builtin "object.__class__")=some true)
   (hm:PySem.W.mroIn K C (.type "object")=some true):cR K H (.ref a) (.ref C)
theorem oH {x:V}{u t:Value}(I:aL X pins σ H s)(rx:RelV x u)(ty:cR X.K H x t)(e:PySem.W.kitOne X.K t c=some b)(h:∀ tk,Q (.bool b) { s with toks:=tk }) :
  wpAny (model X.prog X.w) A (call (.builtin "isinstance") [u,c]) Q E s:=by
 cases ty with
 | non=>cases (show u=Value.none from rx); exact PySem.W.kia_one PySem.W.kitx_none I.kIn True.intro e (fun z=>nomatch z) h
 | bl y=>cases (show u=Value.bool y from rx); exact PySem.W.kia_one PySem.W.kitx_bool I.kIn True.intro e (fun z=>nomatch z) h
 | int i=>obtain ⟨t,q⟩:=(show ∃ t,u=Value.int i t from rx); cases q; exact PySem.W.kia_one PySem.W.kitx_int I.kIn True.intro e (fun z=>nomatch z) h
 | str y=>obtain ⟨t,q⟩:=(show ∃ t,u=Value.str y t from rx); cases q; exact PySem.W.kia_one PySem.W.kitx_str I.kIn True.intro e (fun z=>nomatch z) h
 | flt y=>obtain ⟨t,q⟩:=(show ∃ t,u=Value.float y t from rx); cases q; exact PySem.W.kia_one PySem.W.kitx_float I.kIn True.intro e (fun z=>nomatch z) h
 | @lst a xs ea =>
  cases (show u=Value.ref a from rx);obtain ⟨_,_,n,_,h1⟩:=(show bH X.prog X.w H s.heap a (.lst xs) from I.hok a _ ea)
  exact PySem.W.kia_one PySem.W.kitx_list I.kIn ⟨_,h1,rfl⟩ e (fun z=>nomatch z) h
 | @frz a ob xs ea =>
  cases (show u=Value.ref a from rx);obtain ⟨_,_,_,n,_,h1⟩:=(show bH X.prog X.w H s.heap a (.frz ob (.lst xs)) from I.hok a _ ea)
  exact PySem.W.kia_one PySem.W.kitx_list I.kIn ⟨_,h1,rfl⟩ e (fun z=>nomatch z) h
 | @tup a xs ea =>
  cases (show u=Value.ref a from rx);obtain ⟨_,_,_,p⟩:=(show bH X.prog X.w H s.heap a (.tup xs) from I.hok a _ ea)
  obtain ⟨o,h1,h2,_⟩:=p;exact PySem.W.kia_one PySem.W.kitx_tuple I.kIn ⟨o,h1,h2⟩ e (fun z=>nomatch z) h
 | @dK a kvs ea =>
  cases (show u=Value.ref a from rx);obtain ⟨_,_,vs,_,p⟩:=(show bH X.prog X.w H s.heap a (.dK kvs) from I.hok a _ ea)
  obtain ⟨o,es,ep,h1,h2,_⟩:=p;exact PySem.W.kia_one PySem.W.kitx_dict I.kIn ⟨o,h1,h2.1⟩ e (fun z=>nomatch z) h
 | @dT a kvs ea =>
  cases (show u=Value.ref a from rx);obtain ⟨_,_,xs,_,o,es,ep,h1,h2,_⟩:=(show bH X.prog X.w H s.heap a (.dT kvs) from I.hok a _ ea)
  exact PySem.W.kia_one PySem.W.kitx_dict I.kIn ⟨o,h1,h2.1⟩ e (fun z=>nomatch z) h
 | @ins a C dx fs ea cl ha hn htk hm =>
  cases (show u=Value.ref a from rx);obtain ⟨mA,O,_⟩:=lU I.hok ea;obtain ⟨od,J,_⟩:=O.look;exact PySem.W.kia_one (PySem.W.kitx_own (cl.get _) cl.hd ha hn htk hm) I.kIn J e (fun z=>nomatch z) h
end
structure cF (k:Nat)(A:Around):Prop where
 hd:A.handled=none
 dp:A.depth+3*k+5<recursionLimit
 un:A.units+16*k+200<cLine
theorem cF.mono {j k:Nat}{A:Around}(r:cF k A)(h:j ≤ k):cF j A:=⟨r.hd,by have:=r.dp; omega,by have:=r.un; omega⟩
theorem cF.deeper {k:Nat}{A:Around}(r:cF (k+1) A)(env:Env):cF k (A.deeper env) :=
 ⟨r.hd,by have:=r.dp; show A.depth+1+3*k+5<_; omega,by have:=r.un; show A.units+3+16*k+200<_; omega⟩
theorem tV {A:Around}{C:Addr}{us:List Value}{kw:List (Str×Value)}:(A.under (.builtin "type.__call__" ⟨.ref C::us,kw⟩)).depth=A.depth+1:=by
 first | rfl | simp [Around.under,Code.weight,Code.isCreation,Code.isGuard,Code.isCaller,Code.frames,Code.isFrame,guardIds]
theorem tM {A:Around}{C:Addr}{us:List Value}{kw:List (Str×Value)}:(A.under (.builtin "type.__call__" ⟨.ref C::us,kw⟩)).units=A.units+1:=by
 first | rfl | simp [Around.under,Code.cUnits,Code.frames,Code.isFrame]
theorem cF.make {k:Nat}{A:Around}(r:cF (k+1) A)(C:Addr)(us:List Value)(kw:List (Str×Value)):cF k (A.under (.builtin "type.__call__" ⟨.ref C::us,kw⟩)) :=
 ⟨r.hd,by have:=r.dp; rw [tV]; omega,by have:=r.un; rw [tM]; omega⟩
theorem cF.depth {k:Nat}{A:Around}(r:cF k A):A.depth<recursionLimit:=by have:=r.dp; omega
theorem cF.units {k:Nat}{A:Around}(r:cF k A):A.units+64<cLine:=by have:=r.un; omega
def uJ:TA:=fun _ H Q=>Q [] H
def rG (ta:TE)(tr:TA):TA:=fun σ H Q=>ta σ H fun x H1=>tr σ H1 fun xs H2=>Q (x::xs) H2
section
variable {X:Cx}{e:Expr}{es:List Expr}{te:TE}{t:TA}{pos:Pos}
theorem aF:PA X [] uJ:=fun _ _ _ _ H Q I h=>Calls.spliced_nil ⟨[],H,I,.nil,h⟩
theorem aA (ha:PE X e te)(hr:PA X es t)(hs:starEach (e::es) X.env=(false,eval e X.env)::starEach es X.env:=by rfl):PA X (e::es) (rG te t):=by
 intro pos pins s σ H Q I h;rw [hs];show wpAny _ _ (spliced ((false,eval e X.env)::backTo pos (starEach es X.env))) _ _ s;refine Calls.spliced_cons (bW (ha pins s σ H _ I h) fun u s1 ⟨x,H1,I1,r1,q1⟩=>?_);exact bW (hr pos pins s1 σ H1 _ I1 q1) fun us s2 ⟨xs,H2,I2,r2,q2⟩=>⟨x::xs,H2,I2,.cons r1 r2,q2⟩
def Gb (t:TA):TE:=fun σ H Q=>t σ H fun xs H1=>xs.length ≤ sizeLine∧∀ p,H1 p=none →Q (.ref p) (aR H1 p (.tup xs))
def HN (t:TA):TE:=fun σ H Q=>t σ H fun xs H1=>xs.length ≤ sizeLine∧∀ p,H1 p=none →Q (.ref p) (aR H1 p (.lst xs))
theorem jX {x1}(h:PA X es t):PE X (.Tuple es x1 pos) (Gb t):=by
 intro pins s σ H Q I hq;refine wpAny_Tuple_spliced (bW (h pos pins s σ H _ I hq) fun us s1 ⟨xs,H1,I1,r,z,q⟩=>⟨by rw [← r.length]; exact z,?_⟩);have hf:H1 s1.heap.objs.size=none:=I1.hok.fresh (VP _);refine ⟨.ref s1.heap.objs.size,aR H1 s1.heap.objs.size (.tup xs),I1.laid (t':=s1.toks) (fun b u e=>VJ _ e) (VP _) ?_,rfl,q _ hf⟩;exact ⟨z,us,r,⟨_,V5 _ rfl,rfl,_,rfl⟩⟩
theorem mL (h:PA X es t):PE X (.List es pos) (HN t):=by
 intro pins s σ H Q I hq;refine wpAny_List_spliced (bW (h pos pins s σ H _ I hq) fun us s1 ⟨xs,H1,I1,r,z,q⟩=>⟨by rw [← r.length]; exact z,?_⟩);have hf:H1 s1.heap.objs.size=none:=I1.hok.fresh (VP _);refine ⟨.ref s1.heap.objs.size,aR H1 s1.heap.objs.size (.lst xs),I1.laid (t':=s1.toks) (fun b u e=>VJ _ e) (VP _) ?_,rfl,q _ hf⟩;exact ⟨z,us,0,r,V5 _ rfl⟩
end
abbrev Sp:=List V →Hp →VK →XK →Prop
abbrev rK:=List Env →Hp →Shared →XK →Value →Shared →Prop
structure t7 (P:Program)(w:World)(K:PySem.W.Frag)(mg:Str →Option Value)(base:Heap)(A:Around)(outer:List Env)(s:Shared)(H:Hp):Prop where
 frames:A.frames=some outer
 mod:Mod K mg base
 bs:∀ b o,base.get? b=some o →s.heap.get? b=some o∧H b=none
 bsz:base.objs.size ≤ s.heap.objs.size
 funs:s.heap.FunFrames base outer
 frf:∀ b∈fH outer,H b=none
 hok:iY P w H s.heap
 bare:AllBare s.gens
def CE (outer:List Env)(P:Program)(w:World)(H:Hp)(s:Shared)(Q:VK)(u:Value)(s':Shared):Prop :=
 ∃ v H',s'.os=s.os∧AllBare s'.gens∧Un (fH outer) [] H H' s.heap s'.heap∧iY P w H' s'.heap∧RelV v u∧Q v H'
def CR (CX:rK)(outer:List Env)(P:Program)(w:World)(H:Hp)(s:Shared)(Q:VK)(E:XK)(r:Result)(s':Shared):Prop :=
 match r with
 | .ok (.ret u)=>CE outer P w H s Q u s'
 | .ok _=>False
 | .error e=>CX outer H s E e s'
structure bB (P:Program)(w:World)(K:PySem.W.Frag)(mg:Str →Option Value)(base:Heap)(CX:rK)(k:Nat)(f:Addr)(fd:FuncData)(ps:List Str)(sp:Sp):Prop where
 len:∀ vs H Q E,sp vs H Q E →vs.length=ps.length
 run:∀ (A:Around) (outer:List Env) (s:Shared) (H:Hp) (args:Args) (us:List Value) (vs:List V) (Q:VK) (E:XK),cF k A →t7 P w K mg base A outer s H →BindsTo s fd args (ps.zip us) →bC vs us →sp vs H Q E →
  codeAny (model P w) A (.call (.ref f) args) (CR CX outer P w H s Q E) s
theorem bB.mono {P:Program}{w:World}{K:PySem.W.Frag}{mg:Str →Option Value}{base:Heap}{CX:rK}{j k:Nat}{f:Addr}{fd:FuncData}{ps:List Str}{sp:Sp}(F:bB P w K mg base CX j f fd ps sp)(h:j ≤ k) :
  bB P w K mg base CX k f fd ps sp:=⟨F.len,fun A outer s H args us vs Q E hr=>F.run A outer s H args us vs Q E (hr.mono h)⟩
theorem t7.make {P:Program}{w:World}{K:PySem.W.Frag}{mg:Str →Option Value}{base:Heap}{A:Around}{outer:List Env}{s:Shared}{H:Hp}(e:t7 P w K mg base A outer s H)(C:Addr)(us:List Value)(kw:List (Str×Value)) :
  t7 P w K mg base (A.under (.builtin "type.__call__" ⟨.ref C::us,kw⟩)) outer s H:=⟨by first | exact e.frames | (simpa [Around.under,Code.envs,Code.isFrame,pushEnvs] using e.frames),e.mod,e.bs,e.bsz,e.funs,e.frf,e.hok,e.bare⟩
section
variable {X:Cx}{pins:List (Addr×Obj)}{σ:St}{H:Hp}{s s':Shared}
theorem aL.env0 (I:aL X pins σ H s):t7 X.prog X.w X.K X.mg X.base X.A X.stack s H :=
 ⟨I.ok.frames,I.ok.mod,I.bs,Va I.ok.bsz I.sz,I.stack,I.stkFree,I.hok,I.bare⟩
theorem aL.after {Q:VK}{u:Value}(I:aL X pins σ H s)(h:CE X.stack X.prog X.w H s Q u s'):EP X pins σ Q u s':=by
 obtain ⟨v,H',os,bare,un,hok,r,q⟩:=h;obtain ⟨hh,g,d,t,os'⟩:=s';obtain rfl:os'=s.os:=os;exact ⟨v,H',I.call (h':=hh) (g':=g) (d':=d) (t':=t) (ch:=[]) un hok bare (fun b z=>absurd z (by simp)),r,q⟩
end
def rR (sp:Sp)(dvs:List V)(E:XK)(t:TA):TE:=fun σ H Q=>t σ H fun vs H1=>sp (vs++dvs) H1 Q E
def o8 (C:Addr)(m:Str)(sp:Sp)(dvs:List V)(E:XK)(ta:TE)(t:TA):TE:=fun σ H Q=>ta σ H fun x H1=>∃ a dx fs,x=.ref a∧H1 a=some (.ins C dx fs)∧fs.lookup m=none ∧
 t σ H1 fun vs H2=>sp (x::(vs++dvs)) H2 Q E
def Bx (C:Addr)(sp:Sp)(dvs:List V)(E:XK)(t:TA):TE:=fun σ H Q=>t σ H fun vs H1=>∀ x dx,H1 x=none →H1 dx=none →dx≠x →
 sp (.ref x::(vs++dvs)) (aR (aR H1 dx (.own x)) x (.ins C dx [])) (fun v H2=>v=.non∧Q (.ref x) H2) E
def Binds (K:PySem.W.Frag)(fd:FuncData)(ps:List Str)(ds:List Value):Prop :=
 ∀ (s:Shared) (us:List Value),K.In s.heap →(us++ds).length=ps.length →BindsTo s fd ⟨us,[]⟩ (ps.zip (us++ds))
theorem Binds.all {K:PySem.W.Frag}{fd:FuncData}{ps:List Str}(h:∀ us:List Value,us.length=ps.length →bindArgs fd ⟨us,[]⟩=pure (ps.zip us)):Binds K fd ps []:=fun s us _ hl=>by
 rw [Vw] at hl ⊢;exact .of_eq (h us hl)
def cV (CX:rK)(X:Cx)(E:XK):Prop:=∀ (pins:List (Addr×Obj)) (σ:St) (H:Hp) (s:Shared) (e:Value) (s':Shared),aL X pins σ H s →CX X.stack H s E e s' →X.xe e s'
section
variable {X:Cx}{CX:rK}{k:Nat}{f C:Addr}{fd:FuncData}{ps:List Str}{sp:Sp}{dvs:List V}{ds:List Value}{E:XK}{x m:Str}{p pos apos:Pos}{e o:Expr}{es:List Expr}{ta:TE}{t:TA}
theorem uQ {pins:List (Addr×Obj)}{σ:St}{H:Hp}{s:Shared}{Q:VK}{us:List Value}{vs:List V}(F:bB X.prog X.w X.K X.mg X.base CX k f fd ps sp)(hr:cF k X.A)(hb:Binds X.K fd ps ds)(hd:bC dvs ds)(hx:cV CX X E)
  (I:aL X pins σ H s) (r:bC vs us) (h:sp (vs++dvs) H Q E):wpAny (model X.prog X.w) X.A (call (.ref f) us) (EP X pins σ Q) X.xe s:=by
 have r2:bC (vs++dvs) (us++ds):=r.append hd;have hl:(us++ds).length=ps.length:=by rw [← r2.length]; exact F.len _ _ _ _ h
 refine wpAny_call (codeAny_mono (F.run X.A X.stack s H ⟨us,[]⟩ (us++ds) (vs++dvs) Q E hr I.env0 (hb s us I.kIn hl) r2 h) fun r s' hq=>?_);cases r with
 | error e=>exact hx pins σ H s e s' I hq
 | ok fl =>
  cases fl with
  | ret u=>exact I.after hq
  | next=>exact False.elim hq
  | brk=>exact False.elim hq
  | cont=>exact False.elim hq
theorem vH (F:bB X.prog X.w X.K X.mg X.base CX k f fd ps sp)(hr:cF k X.A)(hg:Gl X x)(hm:X.mg x=some (.ref f))(hk:PySem.W.keepIn X.K (.ref f)=true)(hb:Binds X.K fd ps ds)(hd:bC dvs ds)(hx:cV CX X E)
  (ha:PA X (e::es) t) (hdb:(x==("__debug__" : Str))=false:=by decide) (he:starEach (e::es) X.env=(false,eval e X.env)::starEach es X.env:=by rfl) (hpl:(backTo pos (starEach es X.env)).any (·.1)=false:=by rfl) :
  PE X (.Call (.Name x p) (e::es) [] pos) (rR sp dvs E t):=by
 intro pins s σ H Q I h;refine wpAny_Call_Name_kw (fL I hg hm ?_ hdb);refine PySem.W.callWith_K (h₀:=X.base) I.ok.mod.kin hk (bW (ha pos pins s σ H _ I h) fun us s1 ⟨vs,H1,I1,r,q⟩=>⟨I1.kIn,?_⟩) he hpl;exact uQ F hr hb hd hx I1 r q
theorem pX {pl:Sem Bool}(he:PE X o ta)(c:mZ X.K C)(hm:mJ X.K C m f)(F:bB X.prog X.w X.K X.mg X.base CX k f fd ps sp)(hr:cF k X.A)(hb:Binds X.K fd ps ds)(hd:bC dvs ds)(hx:cV CX X E)(ha:PA X (e::es) t)
  (hst:starEach (e::es) X.env=(false,eval e X.env)::starEach es X.env:=by rfl) (hpl:(backTo pos (starEach es X.env)).any (·.1)=false:=by rfl)
  (ht:eval (.Call (.Attribute o m apos) (e::es) [] pos) X.env=(do
   let ov ← eval o X.env
   standAt apos.atName
   let (f,first) ← holding [ov] (getMethod ov m pl)
   callWith pos f first (backTo pos (starEach (e::es) X.env)) (backToKw pos (keywordEach [] X.env))):=by rfl) :
  PE X (.Call (.Attribute o m apos) (e::es) [] pos) (o8 C m sp dvs E ta t):=by
 intro pins s σ H Q I h;refine PySem.W.methodCall_KW (pl:=pl) (bW (he pins s σ H _ I h) fun u s1 ⟨x,H1,I1,rx,a,dx,fs,ex,ea,l,q⟩=>?_) ht;subst ex;obtain rfl:u=Value.ref a:=rx;refine iZ I1 ea c hm l ?_;refine PySem.W.callWith_K (first:=[.ref a]) (h₀:=X.base) I.ok.mod.kin hm.kp (bW (ha pos pins s1 σ H1 _ I1 q) fun us s2 ⟨vs,H2,I2,r,q2⟩=>⟨I2.kIn,?_⟩) hst hpl;exact uQ (us:=.ref a::us) (vs:=.ref a::vs) F hr hb hd hx I2 (.cons rfl r) q2
theorem yX {pl:Sem Bool}(he:PE X o ta)(c:mZ X.K C)(hm:mJ X.K C m f)(F:bB X.prog X.w X.K X.mg X.base CX k f fd ps sp)(hr:cF k X.A)(hb:Binds X.K fd ps ds)(hd:bC dvs ds)(hx:cV CX X E)
  (ht:eval (.Call (.Attribute o m apos) [] [] pos) X.env=(do
   let ov ← eval o X.env
   standAt apos.atName
   let (f,first) ← holding [ov] (getMethod ov m pl)
   callWith pos f first (backTo pos (starEach [] X.env)) (backToKw pos (keywordEach [] X.env))):=by rfl) :
  PE X (.Call (.Attribute o m apos) [] [] pos) (o8 C m sp dvs E ta uJ):=by
 intro pins s σ H Q I h;refine PySem.W.methodCall_KW (pl:=pl) (bW (he pins s σ H _ I h) fun u s1 ⟨x,H1,I1,rx,a,dx,fs,ex,ea,l,q⟩=>?_) ht;subst ex;obtain rfl:u=Value.ref a:=rx;refine iZ I1 ea c hm l ?_;exact PySem.W.callWith_K0 (first:=[.ref a]) I1.kIn hm.kp (uQ (us:=[.ref a]) (vs:=[.ref a]) F hr hb hd hx I1 (.cons rfl .nil) q)
structure Mk (K:PySem.W.Frag)(C f:Addr):Prop where
 makes:PySem.W.makesIn K C=true
 init:PySem.W.findIn K (.ref C) "__init__" = some (some (.ref f))
 fn:PySem.W.isFn K (.ref f)=true
 kp:PySem.W.keepIn K (.ref C)=true
theorem xK {pins:List (Addr×Obj)}{σ:St}{H:Hp}{s:Shared}{Q:VK}{us:List Value}{vs:List V}(M:Mk X.K C f)(F:bB X.prog X.w X.K X.mg X.base CX k f fd ps sp)(hr:cF (k+1) X.A)(hb:Binds X.K fd ps ds)(hd:bC dvs ds)
  (hx:cV CX X E) (I:aL X pins σ H s) (r:bC vs us)
  (h:∀ x dx,H x=none →H dx=none →dx≠x →sp (.ref x::(vs++dvs)) (aR (aR H dx (.own x)) x (.ins C dx [])) (fun v H2=>v=.non∧Q (.ref x) H2) E) :
  wpAny (model X.prog X.w) X.A (call (.ref C) us) (EP X pins σ Q) X.xe s:=by
 have hq:=h (s.heap.objs.size+1) s.heap.objs.size (I.hok.fresh (X4 _)) (I.hok.fresh (VP _)) (V6 (XX _));have I2:=aL.made (C:=C) I;have r2:bC (V.ref (s.heap.objs.size+1)::(vs++dvs)) (Value.ref (s.heap.objs.size+1)::(us++ds)):=.cons rfl (r.append hd);have hl:(Value.ref (s.heap.objs.size+1)::us++ds).length=ps.length:=by
  have e:=r2.length;rw [F.len _ _ _ _ hq] at e;exact e.symm
 refine wpAny_call (yN (f:=f) I.kIn M.makes M.init (beq_iff_eq.mp M.fn) (codeAny_mono (F.run _ X.stack _ _ ⟨Value.ref (s.heap.objs.size+1)::us,[]⟩ (Value.ref (s.heap.objs.size+1)::(us++ds)) _ _ E (hr.make C us [])
  (I2.env0.make C us []) (hb _ (Value.ref (s.heap.objs.size+1)::us) I2.kIn hl) r2 hq) fun r s' hq'=>?_))
 cases r with
 | error e=>exact hx pins σ _ _ e s' I2 hq'
 | ok fl =>
  cases fl with
  | ret u =>
   obtain ⟨v,H',I3,rv,ev,q3⟩:=I2.after hq';subst ev;exact ⟨rv,⟨V.ref (s.heap.objs.size+1),H',I3,rfl,q3⟩⟩
  | next=>exact False.elim hq'
  | brk=>exact False.elim hq'
  | cont=>exact False.elim hq'
theorem Ar (M:Mk X.K C f)(F:bB X.prog X.w X.K X.mg X.base CX k f fd ps sp)(hr:cF (k+1) X.A)(hg:Gl X x)(hm:X.mg x=some (.ref C))(hb:Binds X.K fd ps ds)(hd:bC dvs ds)(hx:cV CX X E)
  (ha:PA X (e::es) t) (hdb:(x==("__debug__" : Str))=false:=by decide) (he:starEach (e::es) X.env=(false,eval e X.env)::starEach es X.env:=by rfl) (hpl:(backTo pos (starEach es X.env)).any (·.1)=false:=by rfl) :
  PE X (.Call (.Name x p) (e::es) [] pos) (Bx C sp dvs E t):=by
 intro pins s σ H Q I h;refine wpAny_Call_Name_kw (fL I hg hm ?_ hdb);refine PySem.W.callWith_K (h₀:=X.base) I.ok.mod.kin M.kp (bW (ha pos pins s σ H _ I h) fun us s1 ⟨vs,H1,I1,r,q⟩=>⟨I1.kIn,?_⟩) he hpl;exact xK M F hr hb hd hx I1 r q
end
structure aV (N P:List Str)(sc:Scope):Prop where
 kind:sc.kind=.function
 co:sc.isCoroutine=false
 gen:sc.isGenerator=false
 nd:N.Nodup
 pre:N.take P.length=P
 par:∀ x∈P,sc.names.lookup x=some .local∨sc.names.lookup x=some .cell
 nofree:∀ y∈sc.names,y.2≠.free
theorem oG {kindOf:Str →Option NameKind}{x:Str}:∀ {binds:List (Str×Value)}{m:Str →Option Value},(∀ v,(x,v)∉binds) →bindL kindOf binds m x=m x
 | [],_,_=>rfl
 | (n,v)::r,m,h=>by
  unfold bindL;rw [oG fun w hw=>h w (V9 _ hw)]
  split
  ·have:x≠n:=by rintro rfl; exact h v Vn
   simp [this]
  ·rfl
theorem pH {kindOf:Str →Option NameKind}{x:Str}:∀ {binds:List (Str×Value)}{m:Str →Option Value},(∀ v,(x,v)∉binds) →bindC kindOf binds m x=m x
 | [],_,_=>rfl
 | (n,v)::r,m,h=>by
  unfold bindC;rw [pH fun w hw=>h w (V9 _ hw)]
  split
  ·rfl
  ·have:x≠n:=by rintro rfl; exact h v Vn
   simp [this]
theorem o5 {kindOf:Str →Option NameKind}{x:Str}{v:Value}:∀ {P:List Str}{vs:List Value}{i:Nat}{m:Str →Option Value},P.Nodup →P[i]? = some x →vs[i]? = some v →kindOf x=some .local →
  bindL kindOf (P.zip vs) m x=some v
 | [],_,_,_,_,h,_,_=>by simp at h
 | _::_,[],_,_,_,_,h,_=>by simp at h
 | p::P,w::vs,0,m,nd,h1,h2,hk=>by
  simp at h1 h2; subst h1; subst h2;show bindL kindOf ((p,w)::P.zip vs) m p=_;unfold bindL;rw [oG fun v hv=>(Vx.mp nd).1 (W9 hv).1,if_pos hk];simp
 | p::P,w::vs,i+1,m,nd,h1,h2,hk=>by
  show bindL kindOf ((p,w)::P.zip vs) m x=_;unfold bindL;exact o5 (i:=i) (Vx.mp nd).2 (by simpa using h1) (by simpa using h2) hk
theorem o7 {kindOf:Str →Option NameKind}{x:Str}{v:Value}:∀ {P:List Str}{vs:List Value}{i:Nat}{m:Str →Option Value},P.Nodup →P[i]? = some x →vs[i]? = some v →kindOf x≠some .local →
  bindC kindOf (P.zip vs) m x=some v
 | [],_,_,_,_,h,_,_=>by simp at h
 | _::_,[],_,_,_,_,h,_=>by simp at h
 | p::P,w::vs,0,m,nd,h1,h2,hk=>by
  simp at h1 h2; subst h1; subst h2;show bindC kindOf ((p,w)::P.zip vs) m p=_;unfold bindC;rw [pH fun v hv=>(Vx.mp nd).1 (W9 hv).1,if_neg hk];simp
 | p::P,w::vs,i+1,m,nd,h1,h2,hk=>by
  show bindC kindOf ((p,w)::P.zip vs) m x=_;unfold bindC;exact o7 (i:=i) (Vx.mp nd).2 (by simpa using h1) (by simpa using h2) hk
def start (N:List Str)(vs:List V):St:=vs.map some++V0 (N.length-vs.length) none
def j5 (CX:rK)(P:Program)(w:World)(K:PySem.W.Frag)(mg:Str →Option Value)(base:Heap)(N:List Str)(qual:Str)(scope:Scope)(f:Addr)(cd:Value)(A:Around)(outer:List Env)(s:Shared)(H:Hp)(E:XK):Cx where
 prog:=P
 w:=w
 K:=K
 mg:=mg
 base:=base
 A:=A.deeper (envOfC qual scope s.heap.objs.size f cd)
 N:=N
 s₀:=s
 H₀:=H
 env:=envOfC qual scope s.heap.objs.size f cd
 outer:=outer
 stack:=envOfC qual scope s.heap.objs.size f cd::outer
 ex:=[]
 calm:=true
 fn:=fun _=>true
 pn:=[]
 xe:=fun e s'=>wpAny (model P w) (A.deeper (envOfC qual scope s.heap.objs.size f cd)) (leaving (envOfC qual scope s.heap.objs.size f cd) e) (fun _ s''=>CX outer H s E e s'') (fun e' s''=>CX outer H s E e' s'') s'
theorem rY {sc:Scope}{n:Nat}{x:Str}(h:sc.names.lookup x=some .cell):∃ c,(cellsFrom n sc.names []).lookup x=some c:=by
 have q:=PySem.W.cellsFrom_some sc.names n [] (.inl h);exact W0.mp q
theorem pC {CX:rK}{P:Program}{w:World}{K:PySem.W.Frag}{mg:Str →Option Value}{base:Heap}{N ps:List Str}{qual:Str}{scope:Scope}{f:Addr}{cd:Value}{A:Around}{outer:List Env}{s s1:Shared}{H:Hp}{E:XK}{us:List Value}{vs:List V}
  (S:aV N ps scope) (hd:A.handled=none) (e0:t7 P w K mg base A outer s H) (hl:vs.length=ps.length) (r:bC vs us)
  (x:InCallC s s.heap.objs.size (bindL (envOfC qual scope s.heap.objs.size f cd).kindOf (ps.zip us) fun _=>none) (cellsFrom (s.heap.objs.size+1) scope.names []) (bindC (envOfC qual scope s.heap.objs.size f cd).kindOf (ps.zip us) fun _=>none) s1) :
  aL (j5 CX P w K mg base N qual scope f cd A outer s H E) [] (start N vs) H s1:=by
 have hpl:ps.length ≤ N.length:=by have:=congrArg X5 S.pre; rw [WD] at this; omega
 obtain ⟨h1,tk,rfl,hk⟩:=x.done;have noA:∀ b:Addr,b∉(j5 CX P w K mg base N qual scope f cd A outer s H E).ex:=fun b z=>absurd (show b∈([]:List Addr) from z) (by simp);refine ⟨⟨e0.mod,S.kind,rfl,rfl,VP _,fun y z c h1 h2=>?_,fun y hy=>?_,fun y c _ h=>?_,fun _=>hd,Around.frames_deeper e0.frames,.inr ⟨rfl,rfl⟩,fun b z=>absurd z (noA b),e0.bs,e0.bsz,fun b _ _=>noA b,fun b z=>absurd z (noA b),e0.funs,e0.frf⟩,
  rfl,e0.bare,Un.kept hk,⟨_,x.toInCall.ns,fun i y v h1 h2 h3=>?_⟩,fun y c h=>⟨_,x.cell y c h⟩,e0.hok.fresh (VP _),fun y c h=>?_,fun p hp=>absurd (show p∈([]:List (Addr×Obj)) from hp) (by simp),e0.hok.kept hk,?_⟩
 ·exact name_of_addr x.apart (PySem.mem_of_lookup h1) (PySem.mem_of_lookup h2)
 ·have hy:scope.names.lookup y=some .cell∨scope.names.lookup y=some .free:=hy;rcases hy with hy | hy
  ·exact rY hy
  ·exact absurd rfl (S.nofree _ (PySem.mem_of_lookup hy))
 ·exact WK (x.above y c (PySem.mem_of_lookup h))
 ·have hi:i<vs.length:=by
   unfold start at h2
   by_cases hi:i<vs.length
   ·exact hi
   ·rw [WT (by simpa using hi)] at h2;rw [WF] at h2
    split at h2 <;> cases h2
  have ha:vs[i]? = some v:=by
   unfold start at h2;rw [Wh (by simpa using hi),Vd] at h2;cases e:vs[i]? with
   | none=>rw [e] at h2; cases h2
   | some a=>rw [e] at h2; cases h2; rfl
  obtain ⟨u,hu,rv⟩:=r.get ha;have hp:ps[i]? = some y:=by
   rw [← S.pre,List.getElem?_take_of_lt (by omega)]; exact h1
  have ndP:ps.Nodup:=by rw [← S.pre]; exact S.nd.sublist (List.take_sublist _ _)
  refine ⟨u,rv,?_⟩;rcases S.par y (V8 hp) with k | k
  ·exact .inl ⟨k,o5 ndP hp hu k⟩
  ·obtain ⟨c,e⟩:=rY (n:=s.heap.objs.size+1) k;refine .inr ⟨.inl k,c,e,?_⟩;have q:=x.cell y c e;rw [o7 ndP hp hu (by show scope.names.lookup y≠_; rw [k]; decide)] at q;exact q
 ·exact e0.hok.fresh (WK (x.above y c (PySem.mem_of_lookup h)))
 ·unfold start;show _=N.length;rw [Vg,VR,Vl];omega
theorem Bd {CX:rK}{P:Program}{w:World}{K:PySem.W.Frag}{mg:Str →Option Value}{base:Heap}{k:Nat}{f:Addr}{name qual:Str}{params:Arguments}{body:List Stmt}{scope:Scope}{dV kV doc pm cdv ct oc:Value}{an od:Option Addr}
  {osl:Array (Option Value)}{N ps:List Str}{sp:Sp} (lk:K.lookup f=some ⟨oc,od,.func (PySem.W.fnOf name qual params body scope dV kV doc pm an cdv ct),osl⟩) (hcd:PySem.W.codeIn K cdv qual=true) (S:aV N ps scope)
  (len:∀ vs H Q E,sp vs H Q E →vs.length=ps.length)
  (hbody:∀ (A:Around) (outer:List Env) (s:Shared) (H:Hp) (vs:List V) (Q:VK) (E:XK),cF k (A.deeper (envOfC qual scope s.heap.objs.size f cdv)) →sp vs H Q E →
   ∃ t,mW (j5 CX P w K mg base N qual scope f cdv A outer s H E) body t∧t { nx:=fun _ H'=>Q .non H',rt:=Q } (start N vs) H) :
  bB P w K mg base CX (k+1) f (PySem.W.fnOf name qual params body scope dV kV doc pm an cdv ct) ps sp:=by
 refine ⟨len,fun A outer s H args us vs Q E hr e0 hb r hsp=>?_⟩;have hl:=len _ _ _ _ hsp;have KX:K.In s.heap:=e0.mod.kin.keeps fun b o e=>(e0.bs b o e).1;have lim:s.heap.NoLimit:=e0.mod.nolimit.keeps fun b o e=>(e0.bs b o e).1;have hkind:∀ y∈ps.zip us,scope.names.lookup y.1=some .local∨(scope.names.lookup y.1=some .cell∧((cellsFrom (s.heap.objs.size+1) scope.names []).lookup y.1).isSome=true):=fun ⟨n,v⟩ hy=>by
  rcases S.par n (W9 hy).1 with q | q
  ·exact .inl q
  ·exact .inr ⟨q,PySem.W.cellsFrom_some _ _ _ (.inl q)⟩
 refine codeAny_call_function hr.depth (KX _ _ lk) rfl S.co S.gen rfl (PySem.W.codeRec_of KX hcd) (hb _ _ _ _ ?_);refine wpAny_newFunctionEnv_cells S.kind hkind fun env he s1 x=>?_;subst he;refine ⟨lim.keeps x.toInCall.keep,codeAny_func ?_⟩;obtain ⟨t,ht,hq⟩:=hbody A outer s H vs Q E (hr.deeper _) hsp;have I:aL (j5 CX P w K mg base N qual scope f cdv A outer s H E) [] (start N vs) H s1:=pC S hr.hd e0 hl r x;refine wpAny_mono (ht [] s1 (start N vs) H _ I hq) (fun fl s' hs=>?_) fun e s' hs=>hs;have fin:∀ {σ':St}{H':Hp}{v:V}{u:Value},aL (j5 CX P w K mg base N qual scope f cdv A outer s H E) [] σ' H' s' →RelV v u →Q v H' →CE outer P w H s Q u s' :=
  fun {σ' H' v u} J rv q=>⟨v,H',J.os,J.bare,J.base,J.hok,rv,q⟩
 cases fl with
 | ret u =>
  obtain ⟨v,σ',H',J,rv,q⟩:=hs;exact fin J rv q
 | next =>
  obtain ⟨σ',H',J,q⟩:=hs;exact fin (v:=V.non) (u:=Value.none) J rfl q
 | brk =>
  obtain ⟨_,_,_,q⟩:=hs;exact False.elim q
 | cont =>
  obtain ⟨_,_,_,q⟩:=hs;exact False.elim q
section
variable {X:Cx}{x:Str}{p pos:Pos}{e:Expr}{es:List Expr}{t:TA}{id T:String}{r:List V →Hp →VK →Prop}
def KZ (r:List V →Hp →VK →Prop)(t:TA):TE:=fun σ H Q=>t σ H fun vs H1=>r vs H1 Q
theorem aN (hc:cN X (.builtin id) r)(hg:Gl X x)(hm:X.mg x=none)(hv:bootBuiltins x=some (.builtin id))(ha:PA X (e::es) t)(hn:x≠"__name__":=by decide)(hdb:(x==("__debug__" : Str))=false:=by decide)
  (he:starEach (e::es) X.env=(false,eval e X.env)::starEach es X.env:=by rfl) (hpl:(backTo pos (starEach es X.env)).any (·.1)=false:=by rfl):PE X (.Call (.Name x p) (e::es) [] pos) (KZ r t):=by
 intro pins s σ H Q I h;refine wpAny_Call_Name_kw (pY I hg hm hv ?_ hn hdb);exact PyProof.Rows.callWith_builtin1 (bW (ha pos pins s σ H _ I h) fun us s1 ⟨vs,H1,I1,r1,q1⟩=>hc pins s1 σ H1 vs us Q I1 r1 q1) he hpl
theorem dG (hc:cN X (.type T) r)(hg:Gl X x)(hm:X.mg x=none)(hv:bootBuiltins x=some (.type T))(ha:PA X (e::es) t)(hn:x≠"__name__":=by decide)(hdb:(x==("__debug__" : Str))=false:=by decide)
  (he:starEach (e::es) X.env=(false,eval e X.env)::starEach es X.env:=by rfl) (hpl:(backTo pos (starEach es X.env)).any (·.1)=false:=by rfl):PE X (.Call (.Name x p) (e::es) [] pos) (KZ r t):=by
 intro pins s σ H Q I h;refine wpAny_Call_Name_kw (pY I hg hm hv ?_ hn hdb);exact PyProof.Rows.callWith_type1 (bW (ha pos pins s σ H _ I h) fun us s1 ⟨vs,H1,I1,r1,q1⟩=>hc pins s1 σ H1 vs us Q I1 r1 q1) he hpl
end
abbrev TO:=St →Hp →(Option Int →Hp →Prop) →Prop
theorem intsAre_of {ns:List Int}:∀ {us:List Value},bC (ns.map V.int) us →IntsAre us ns:=by
 induction ns with
 | nil=>intro us r; rw [XN] at r; cases r; exact .nil
 | cons n ns ih =>
  intro us r;rw [Vp] at r;cases r with
  | cons r1 r2 =>
   obtain ⟨t,e⟩:=r1;subst e;exact .cons n t (ih r2)
def Ax (n:Nat)(i:Int):Option Nat:=if 0 ≤ i then (if i<n then some i.toNat else none) else if -(n:Int) ≤ i then some (i+n).toNat else none
def tD {α:Type}(xs:List α)(i:Int):Option α:=(Ax xs.length i).bind fun j=>xs[j]?
theorem vV {n:Nat}{i:Int}{j:Nat}(h:Ax n i=some j):seqIndex? i n=some j∧j<n∧-(n:Int) ≤ i∧i<n:=by
 unfold Ax at h
 by_cases h0:0 ≤ i
 ·rw [if_pos h0] at h
  by_cases h1:i<n
  ·rw [if_pos h1] at h;have e:i.toNat=j:=Vy.inj h;exact ⟨by rw [seqIndex_of h0 h1,e],by omega,by omega,h1⟩
  ·rw [if_neg h1] at h; cases h
 ·rw [if_neg h0] at h
  by_cases h1:-(n:Int) ≤ i
  ·rw [if_pos h1] at h;have e:(i+n).toNat=j:=Vy.inj h;exact ⟨by rw [seqIndex_neg (by omega) h1,e],by omega,h1,by omega⟩
  ·rw [if_neg h1] at h; cases h
theorem vJ {α:Type}{xs:List α}{i:Int}{v:α}(h:tD xs i=some v):∃ j,seqIndex? i xs.length=some j∧xs[j]? = some v∧j<xs.length∧-(xs.length:Int) ≤ i∧i<xs.length:=by
 unfold tD at h;cases e:Ax xs.length i with
 | none=>rw [e] at h; cases h
 | some j =>
  rw [e] at h;obtain ⟨h1,h2,h3,h4⟩:=vV e;exact ⟨j,h1,h,h2,h3,h4⟩
theorem gW {α:Type}{xs:List α}{j:Nat}{v:α}(h:xs[j]? = some v):tD xs (j:Int)=some v:=by
 have hj:j<xs.length:=(V3.mp h).1;have e:Ax xs.length (j:Int)=some j:=by
  unfold Ax;rw [if_pos (by omega),if_pos (by omega)]; simp
 unfold tD; rw [e]; exact h
def uW (b:Expr):Prop:=∀ o i,subscripted b false o i=operate [o,i] (getItem o i)
def Eg (X:Cx)(r:R2):Prop :=
 ∀ (value slice:Expr) (pins:List (Addr×Obj)) (s:Shared) (σ:St) (H:Hp) (x y:V) (v u:Value) (Q:VK),aL X pins σ H s →RelV x v →RelV y u →r x y H Q →
  subscripted slice false v u=operate [v,u] (getItem v u) →wpAny (model X.prog X.w) X.A (subscriptTail value slice v u) (EP X pins σ Q) X.xe s
def Ol (X:Cx)(id:String)(r:V →List V →Hp →VK →Prop):Prop :=
 ∀ (pins:List (Addr×Obj)) (s:Shared) (σ:St) (H:Hp) (x:V) (xs:List V) (v:Value) (us:List Value) (Q:VK),aL X pins σ H s →RelV x v →bC xs us →r x xs H Q →
  wpAny (model X.prog X.w) X.A (call (.builtin id) (v::us)) (EP X pins σ Q) X.xe s
section
variable {X:Cx}{a b:Expr}{ta tb:TE}{pos:Pos}
theorem dY {r:R2}(hr:Eg X r)(ha:PE X a ta)(hb:PE X b tb)(hs:uW b):PE X (.Subscript a b pos) (Bw r ta tb):=by
 intro pins s σ H Q I h;exact Subscript_ (DP ha hb I h fun v u s2 x y H2 I2 rx ry q=>hr a b pins s2 σ H2 x y v u Q I2 rx ry q (hs _ _))
def Gw (K:PySem.W.Frag):R2:=fun x y H Q=>∃ p xs i v,x=.ref p∧y=.int i∧bM K H p xs∧tD xs i=some v∧Q v H
def FJ (K:PySem.W.Frag):R2:=fun x y H Q=>∃ p xs i v,x=.ref p∧y=.int i∧jF K H p xs∧tD xs i=some v∧Q v H
theorem bY:Eg X (Gw X.K):=by
 intro value slice pins s σ H x y v u Q I rx ry h hs;obtain ⟨p,xs,i,z,rfl,rfl,hq,he,q⟩:=h;cases rx;obtain ⟨t,rfl⟩:=ry;obtain ⟨its,r,pl,hz⟩:=I.list hq;obtain ⟨j,h1,h2,h3,h4,h5⟩:=vJ he;obtain ⟨w,ew,rw'⟩:=r.get h2;have hl:=r.length;have hn:=qF;have fin:EP X pins σ Q w s:=⟨z,H,I,rw',q⟩
 by_cases h0:0 ≤ i
 ·have hj:i.toNat=j:=by
   rw [seqIndex_of h0 h5] at h1;exact Vy.inj h1
  exact item_listR pl.isList h0 (by omega) (by rw [hj]; simpa using ew) fin hs
 ·have hj:(i+(its.toArray.size:Int)).toNat=j:=by
   rw [seqIndex_neg (by omega) h4] at h1;rw [VL,← hl];exact Vy.inj h1
  exact subscriptTail_builtinR (x:=w) pl.isList.typeIs slot_list_getitem.lookup
   (wpAny_getItem_list_neg (Q:=fun r s'=>r=w∧EP X pins σ Q r s') pl.isList (by omega) (by rw [VL] <;> omega) (by omega) (by rw [hj]; simpa using ew) ⟨rfl,fin⟩) hs
theorem uP:Eg X (FJ X.K):=by
 intro value slice pins s σ H x y v u Q I rx ry h hs;obtain ⟨p,xs,i,z,rfl,rfl,hq,he,q⟩:=h;cases rx;obtain ⟨t,rfl⟩:=ry;obtain ⟨its,r,pl,hz⟩:=I.tuple hq;obtain ⟨j,h1,h2,h3,h4,h5⟩:=vJ he;obtain ⟨w,ew,rw'⟩:=r.get h2;have hl:=r.length;have hn:=qF;have fin:EP X pins σ Q w s:=⟨z,H,I,rw',q⟩
 exact subscriptTail_builtinR (x:=w) pl.typeIs slot_tuple_getitem.lookup
  (getItem_tuple (j:=j) (Q:=fun r s'=>r=w∧EP X pins σ Q r s') pl (by omega) (by omega) (by rw [VL,← hl]; exact h1) (by simpa using ew) ⟨rfl,fin⟩) hs
theorem uF (its:List Value)(n j:Nat)(u:Value):Obj.mapSeq (·.setIfInBounds j u) { cls:=.type "list",data:=.seq its.toArray n } = { cls:=.type "list",data:=.seq (its.set j u).toArray n }:=by
 simp [Obj.mapSeq]
theorem aL.lst {pins:List (Addr×Obj)}{σ:St}{H:Hp}{s:Shared}{p:Addr}{xs:List V}(I:aL X pins σ H s)(h:H p=some (.lst xs)) :
  ∃ (its:List Value) (n:Nat),bC xs its∧s.heap.get? p=some { cls:=.type "list",data:=.seq its.toArray n }∧xs.length ≤ sizeLine:=by
 obtain ⟨z,its,n,r,e⟩:=I.hok p _ h;exact ⟨its,n,r,e,z⟩
theorem aL.lstUpd {pins:List (Addr×Obj)}{σ:St}{H:Hp}{s:Shared}{p:Addr}{xs ys:List V}{its its':List Value}{n n':Nat}{f:Obj →Obj}(I:aL X pins σ H s)(h:H p=some (.lst xs))
  (ho:s.heap.get? p=some { cls:=.type "list",data:=.seq its.toArray n }) (hf:f { cls:=.type "list",data:=.seq its.toArray n } = { cls:=.type "list",data:=.seq its'.toArray n' }) (r:bC ys its') (hz:ys.length ≤ sizeLine) (t:Nat) :
  aL X pins σ (aR H p (.lst ys)) { s with heap:=s.heap.update p f,toks:=t }:=by
 have e:(s.heap.update p f).get? p=some { cls:=.type "list",data:=.seq its'.toArray n' }:=by
  rw [W7 f ho (by rw [hf] <;> rfl),hf]
 refine I.write (x:=p) (e:=p) (by rw [h]; trivial) (.inl rfl) (fun b u hb q=>(WL _ _ (Ne.symm hb)).trans q) ⟨_,e⟩ ?_;exact ⟨hz,its',n',r,e⟩
def Gk:V →V →V →Hp →(Hp →Prop) →Prop:=fun o i v H Q=>∃ p xs k j,o=.ref p∧i=.int k∧H p=some (.lst xs)∧Ax xs.length k=some j∧Q (aR H p (.lst (xs.set j v)))
theorem set_list:GZ X Gk:=by
 intro pins s σ H o i v ov iv u Q I ro ri rv h;obtain ⟨p,xs,k,j,rfl,rfl,hp,hj,q⟩:=h;cases ro;obtain ⟨t,rfl⟩:=ri;obtain ⟨its,n,r,ho,hz⟩:=I.lst hp;obtain ⟨h1,h2,h3,h4⟩:=vV hj;have hl:=r.length;have hn:=qF;have I':aL X pins σ (aR H p (.lst (xs.set j v))) { s with heap:=s.heap.update p (Obj.mapSeq (·.setIfInBounds j u)) } :=
  I.lstUpd hp ho (uF its n j u) (r.set rv j) (by rw [Wq]; exact hz) s.toks
 by_cases h0:0 ≤ k
 ·have hk:k.toNat=j:=by
   rw [seqIndex_of h0 h4] at h1;exact Vy.inj h1
  exact PySem.W.ki_setAt ho h0 (by omega) (by rw [VL,← hl]; exact h4) (by rw [hk]; exact ⟨_,I',q⟩)
 ·have hk:(k+(its.toArray.size:Int)).toNat=j:=by
   rw [seqIndex_neg (by omega) h3] at h1;rw [VL,← hl];exact Vy.inj h1
  exact PySem.W.ki_setBack ho (by omega) (by rw [VL,← hl]; exact h3) (by omega) (by rw [hk]; exact ⟨_,I',q⟩)
def jU:V →Bool
 | .non=>true
 | .bl _=>true
 | .int _=>true
 | .str _=>true
 | _=>false
def zQ:V →V →Bool
 | .non,.non=>true
 | .bl a,.bl b=>a==b
 | .bl a,.int b=>(if a then 1 else 0)==b
 | .int a,.bl b=>a==(if b then 1 else 0)
 | .int a,.int b=>a==b
 | .str a,.str b=>a==b
 | _,_=>false
theorem Dt {A:Around}{s:Shared}{y x:V}{u v:Value}(ry:RelV y u)(rx:RelV x v)(fy:jU y=true)(fx:jU x=true):SeqAt.EqAt A s u v (zQ y x):=by
 cases y with
 | non =>
  cases ry;cases x with
  | non=>cases rx; exact SeqAt.EqAt.same _
  | bl b=>cases rx; exact SeqAt.EqAt.none_bool b
  | int b=>obtain ⟨t,rfl⟩:=rx; exact SeqAt.EqAt.none_int b t
  | str b=>obtain ⟨t,rfl⟩:=rx; exact SeqAt.EqAt.none_str b t
  | _=>exact absurd (show false=true from fx) VN
 | bl a =>
  cases ry;cases x with
  | non=>cases rx; exact SeqAt.EqAt.bool_none a
  | bl b=>cases rx; exact SeqAt.EqAt.bool_bool a b
  | int b=>obtain ⟨t,rfl⟩:=rx; exact SeqAt.EqAt.bool_int a b t
  | str b=>obtain ⟨t,rfl⟩:=rx; exact SeqAt.EqAt.bool_str a b t
  | _=>exact absurd (show false=true from fx) VN
 | int a =>
  obtain ⟨t',rfl⟩:=ry;cases x with
  | non=>cases rx; exact SeqAt.EqAt.int_none a t'
  | bl b=>cases rx; exact SeqAt.EqAt.int_bool a t' b
  | int b=>obtain ⟨t,rfl⟩:=rx; exact SeqAt.EqAt.int_int a t' b t
  | str b=>obtain ⟨t,rfl⟩:=rx; exact SeqAt.EqAt.int_str a t' b t
  | _=>exact absurd (show false=true from fx) VN
 | str a =>
  obtain ⟨t',rfl⟩:=ry;cases x with
  | non=>cases rx; exact SeqAt.EqAt.str_none a t'
  | bl b=>cases rx; exact SeqAt.EqAt.str_bool a t' b
  | int b=>obtain ⟨t,rfl⟩:=rx; exact SeqAt.EqAt.str_int a t' b t
  | str b=>obtain ⟨t,rfl⟩:=rx; exact SeqAt.EqAt.str_str a t' b t
  | _=>exact absurd (show false=true from fx) VN
 | _=>exact absurd (show false=true from fy) VN
def uH (x:V)(u:Value):Bool:=match u with
 | .none=>zQ .non x
 | .bool b=>zQ (.bl b) x
 | .int i _=>zQ (.int i) x
 | .str z _=>zQ (.str z) x
 | _=>false
theorem xD {x y:V}{u:Value}(r:RelV y u)(f:jU y=true):uH x u=zQ y x:=by
 cases y with
 | non=>cases r; rfl
 | bl b=>cases r; rfl
 | int i=>obtain ⟨t,rfl⟩:=r; rfl
 | str z=>obtain ⟨t,rfl⟩:=r; rfl
 | _=>exact absurd (show false=true from f) VN
theorem jG {x:V}:∀ {xs:List V}{us:List Value},bC xs us →xs.all jU=true →us.any (uH x)=xs.any fun y=>zQ y x
 | _,_,.nil,_=>rfl
 | y::xs,u::us,.cons r t,f=>by
  rw [List.all_cons,Vc] at f;rw [Wk,Wk,xD r f.1,jG t f.2]
theorem gK {A:Around}{s:Shared}{x:V}{v:Value}(rx:RelV x v)(fx:jU x=true):∀ {xs:List V}{us:List Value},bC xs us →xs.all jU=true →∀ u∈us,SeqAt.EqAt A s u v (uH x u)
 | _,_,.nil,_=>fun u hu=>by cases hu
 | y::xs,u::us,.cons r t,f=>fun u' hu=>by
  rw [List.all_cons,Vc] at f;rcases Vh.mp hu with rfl | hu
  ·rw [xD r f.1]; exact Dt r rx f.1 fx
  ·exact gK rx fx t f.2 u' hu
def Ao (x:V)(xs:List V):Bool:=xs.any fun y=>zQ y x
def O9 (K:PySem.W.Frag)(neg:Bool):R2:=fun x y H Q=>∃ p xs,y=.ref p∧(bM K H p xs∨jF K H p xs)∧jU x=true∧xs.all jU=true∧Q (.bl (if neg then !Ao x xs else Ao x xs)) H
theorem wH:gB X (compareOp .In) (O9 X.K false):=by
 intro pins s σ H x y v u Q I rx ry h;obtain ⟨p,xs,rfl,hq,fx,fs,q⟩:=h;cases ry;rcases hq with hq | hq
 ·obtain ⟨its,r,pl,hz⟩:=I.list hq;refine SeqAt.in_listAt (uH x) pl.isList (fun w hw=>gK rx fx r fs w (by simpa using hw)) ⟨.bl _,H,I,rfl,?_⟩;rw [show its.toArray.any (uH x)=its.any (uH x) by simp,jG r fs];exact q
 ·obtain ⟨its,r,pl,hz⟩:=I.tuple hq;refine SeqAt.in_tupleAt (uH x) pl (fun w hw=>gK rx fx r fs w (by simpa using hw)) ⟨.bl _,H,I,rfl,?_⟩;rw [show its.toArray.any (uH x)=its.any (uH x) by simp,jG r fs];exact q
theorem qQ:gB X (compareOp .NotIn) (O9 X.K true):=by
 intro pins s σ H x y v u Q I rx ry h;obtain ⟨p,xs,rfl,hq,fx,fs,q⟩:=h;cases ry;rcases hq with hq | hq
 ·obtain ⟨its,r,pl,hz⟩:=I.list hq;refine SeqAt.notIn_listAt (uH x) pl.isList (fun w hw=>gK rx fx r fs w (by simpa using hw)) ⟨.bl _,H,I,rfl,?_⟩;rw [show its.toArray.any (uH x)=its.any (uH x) by simp,jG r fs];exact q
 ·obtain ⟨its,r,pl,hz⟩:=I.tuple hq;refine SeqAt.notIn_tupleAt (uH x) pl (fun w hw=>gK rx fx r fs w (by simpa using hw)) ⟨.bl _,H,I,rfl,?_⟩;rw [show its.toArray.any (uH x)=its.any (uH x) by simp,jG r fs];exact q
theorem bL:cN X (.builtin "len") (fun xs H Q=>∃ p ys,xs=[.ref p]∧(bM X.K H p ys∨jF X.K H p ys)∧Q (.int ys.length) H):=by
 intro pins s σ H xs us Q I r h;obtain ⟨p,ys,rfl,hq,q⟩:=h;obtain ⟨u,rfl,rx⟩:=vals1 r;cases rx;have hn:=qF;rcases hq with hq | hq
 ·obtain ⟨its,r',pl,hz⟩:=I.list hq;have hlen:=r'.length;exact Calls.call_len_list pl.isList (by simp only [VL] <;> omega) ⟨.int ys.length,H,I.tok _,⟨s.toks+1,by rw [VL,hlen]⟩,q⟩
 ·obtain ⟨its,r',pl,hz⟩:=I.tuple hq;have hlen:=r'.length;exact len_tuple pl (by simp only [VL] <;> omega) ⟨.int ys.length,H,I.tok _,⟨s.toks+1,by rw [VL,hlen]⟩,q⟩
theorem pZ:cN X (.type "list") (fun xs H Q=>∃ p ys,xs=[.ref p]∧(bM X.K H p ys∨jF X.K H p ys)∧∀ l,H l=none →Q (.ref l) (aR H l (.lst ys))):=by
 intro pins s σ H xs us Q I r h;obtain ⟨p,ys,rfl,hq,q⟩:=h;obtain ⟨u,rfl,rx⟩:=vals1 r;cases rx;have fin:∀ (its:List Value),bC ys its →ys.length ≤ sizeLine →∀ (h':Heap) (c':Nat),(∀ b o',s.heap.get? b=some o' →h'.get? b=some o') →
   h'.get? s.heap.objs.size=some { cls:=.type "list",dict:=none,data:=.seq its.toArray c',slots:=#[] } →EP X pins σ Q (.ref s.heap.objs.size) { s with heap:=h' }:=fun its r' hz h' c' kp e =>
  ⟨.ref s.heap.objs.size,_,I.laid (t':=s.toks) kp (VP _) (show bH X.prog X.w _ h' _ (.lst ys) from ⟨hz,its,c',r',e⟩),rfl,q _ (I.hok.fresh (VP _))⟩
 rcases hq with hq | hq
 ·obtain ⟨its,r',pl,hz⟩:=I.list hq;have hlen:=r'.length;obtain ⟨o,ho,hc,n,hd⟩:=pl.isList;exact call_list_seq p (.inl rfl) ho hc hd (fun h' c' kp e=>fin its r' hz h' c' kp e) (by simp only [VL] <;> omega)
 ·obtain ⟨its,r',pl,hz⟩:=I.tuple hq;have hlen:=r'.length;obtain ⟨o,ho,hc,n,hd⟩:=pl;exact call_list_seq p (.inr rfl) ho hc hd (fun h' c' kp e=>fin its r' hz h' c' kp e) (by simp only [VL] <;> omega)
theorem oE:cN X (.type "tuple") (fun xs H Q=>∃ p ys,xs=[.ref p]∧((bM X.K H p ys∧∀ l,H l=none →Q (.ref l) (aR H l (.tup ys)))∨(jF X.K H p ys∧Q (.ref p) H))):=by
 intro pins s σ H xs us Q I r h;obtain ⟨p,ys,rfl,h⟩:=h;obtain ⟨u,rfl,rx⟩:=vals1 r;cases rx;rcases h with ⟨hq,q⟩ | ⟨hq,q⟩
 ·obtain ⟨its,r',pl,hz⟩:=I.list hq;have hlen:=r'.length;refine call_tuple_list pl.isList (fun h' kp=>?_) (by simp only [VL] <;> omega);have I1:aL X pins σ H { s with heap:=h' }:=I.kept (t':=s.toks) kp;have I2:aL X pins σ (aR H h'.objs.size (.tup ys)) { s with heap:=h'.push { cls:=.type "tuple",data:=.seq its.toArray } } :=
   I1.laid (t':=s.toks) (fun b o e=>VJ _ e) (VP _) (show bH X.prog X.w _ _ _ (.tup ys) from ⟨hz,its,r',IsTup.new _ _⟩)
  exact ⟨.ref h'.objs.size,_,I2,rfl,q _ (I1.hok.fresh (VP _))⟩
 ·obtain ⟨its,r',pl,hz⟩:=I.tuple hq;exact call_tuple_same pl ⟨.ref p,H,I,rfl,q⟩
def Ob (K:PySem.W.Frag)(T:String)(x:V)(H:Hp):Prop:=match x with
 | .str _=>T = "str"
 | .int _=>T = "int"
 | .ref p=>(T = "list"∧∃ xs,bM K H p xs)∨(T = "tuple"∧∃ o,K.lookup p=some o∧o.cls=.type "tuple"∧o.dict=none) ∨
   (T = "dict"∧((∃ kvs,H p=some (.dK kvs))∨∃ kvs,H p=some (.dT kvs)))∨(T = "set"∧∃ S n,H p=some (.set S n))
 | _=>False
theorem CP {pins:List (Addr×Obj)}{σ:St}{H:Hp}{s:Shared}{T:String}{x:V}{v:Value}(I:aL X pins σ H s)(r:RelV x v)(ty:Ob X.K T x H) :
  s.TypeIs v T∧∀ a,v=.ref a →∃ ob,s.heap.get? a=some ob∧ob.dict=none:=by
 cases x with
 | str z =>
  obtain ⟨t,rfl⟩:=r;cases (show T = "str" from ty);exact ⟨typeIs_str s z t,fun _ e=>nomatch e⟩
 | int i =>
  obtain ⟨t,rfl⟩:=r;cases (show T = "int" from ty);exact ⟨typeIs_int s i t,fun _ e=>nomatch e⟩
 | ref p =>
  cases r;rcases ty with ⟨rfl,xs,hq⟩ | ⟨rfl,o,hk,hc,hd⟩ | ⟨rfl,hk⟩ | ⟨rfl,S,n,hk⟩
  ·obtain ⟨its,_,pl,_⟩:=I.list hq;refine ⟨pl.isList.typeIs,fun a e=>?_⟩;cases e;obtain ⟨o,n,e,c,hd,_⟩:=pl;exact ⟨o,e,hd⟩
  ·refine ⟨⟨o,I.kIn p o hk,hc⟩,fun a e=>?_⟩;cases e;exact ⟨o,I.kIn _ o hk,hd⟩
  ·have z:∃ o,s.heap.get? p=some o∧o.ExactDict:=by
    rcases hk with ⟨kvs,hk⟩ | ⟨kvs,hk⟩
    ·obtain ⟨_,_,_,_,o,_,_,e,ex,_⟩:=I.hok p _ hk;exact ⟨o,e,ex⟩
    ·obtain ⟨_,_,_,_,o,_,_,e,ex,_⟩:=I.hok p _ hk;exact ⟨o,e,ex⟩
   obtain ⟨o,e,ex⟩:=z;refine ⟨⟨o,e,ex.1⟩,fun a e2=>?_⟩;cases e2;exact ⟨o,e,ex.2.1⟩
  ·obtain ⟨o,_,_,_,e,ex,_⟩:=I.hok p _ hk;refine ⟨⟨o,e,ex.1⟩,fun a e2=>?_⟩;cases e2;exact ⟨o,e,ex.2.1⟩
 | _=>exact False.elim ty
def Ox (K:PySem.W.Frag)(T:String)(r:V →List V →Hp →VK →Prop)(to:TE)(t:TA):TE:=fun σ H Q=>to σ H fun x H1=>Ob K T x H1∧t σ H1 fun xs H2=>r x xs H2 Q
variable {o e:Expr}{es:List Expr}{to:TE}{t:TA}{name:Str}{apos cpos:Pos}{T id:String}{r:V →List V →Hp →VK →Prop}
theorem Bc (pa:PlainAttrs T)(slot:Slot T name id)(hty:typeOf (.builtin id)=pure (.type "method_descriptor"))(hm:Ol X id r)(ho:PE X o to)(ha:PA X (e::es) t)
  (hbase:attributeBase o name X.env (eval o X.env)=eval o X.env:=by rfl)
  (hfew:((backTo cpos (starEach (e::es) X.env)).all (fun x=>!x.1)&&(backToKw cpos (keywordEach [] X.env)).all (fun x=>x.1.isSome)
  &&decide ((e::es).length+([]:List Keyword).length+(if ([]:List Keyword).isEmpty then 0 else 1)<30))=true:=by rfl)
  (hline:(apos.endLine==cpos.line)=true:=by rfl) (hs:starEach (e::es) X.env=(false,eval e X.env)::starEach es X.env:=by rfl) (hplain:(backTo cpos (starEach es X.env)).any (·.1)=false:=by rfl) :
  PE X (.Call (.Attribute o name apos) (e::es) [] cpos) (Ox X.K T r to t):=by
 intro pins s σ H Q I h;refine wpAny_Call_method_late hbase hfew hline rfl (bW (ho pins s σ H _ I h) fun v s1 ⟨x,H1,I1,r1,ty,q1⟩=>?_);obtain ⟨h1,h2⟩:=CP I1 r1 ty;refine ⟨T,id,pa,slot,hty,h1,h2,?_⟩;have hA:=ha cpos pins s1 σ H1 _ I1 q1;rw [hs] at hA ⊢;refine Calls.callWith_builtin (by show (false||(backTo cpos (starEach es X.env)).any (·.1))=false; rw [hplain] <;> rfl) (Calls.evalArgs_plain ?_);exact bW hA fun us s2 ⟨vs,H2,I2,r2,q2⟩=>hm pins s2 σ H2 x vs v us Q I2 r1 r2 q2
end
def Oz (X:Cx)(id:String)(r:V →List V →Hp →VK →Prop):Prop :=
 ∀ (pins:List (Addr×Obj)) (s:Shared) (σ:St) (H:Hp) (x:V) (xs:List V) (v:Value) (us:List Value) (Q:VK),aL X pins σ H s →RelV x v →bC xs us →r x xs H Q →
  wpAny (model X.prog X.w) X.A (call (.builtin id) (v::us)) (EP X pins σ Q) X.xe s
theorem bC.one:∀ {x:V}{us:List Value},bC [x] us →∃ u,us=[u]∧RelV x u
 | _,_,.cons r .nil=>⟨_,rfl,r⟩
theorem bC.rep {xs:List V}{us:List Value}(h:bC xs us):∀ k:Nat,bC (V0 k xs).flatten (V0 k us).flatten
 | 0=>.nil
 | k+1=>by
  rw [V_,V_,W4,W4];exact bC.append h (bC.rep h k)
theorem foldl_rep (its:List Value):∀ (k:Nat) (acc:List Value),
  X7 (fun x1 x2=>x1++x2) acc.toArray (V0 k its.toArray)=(acc++(V0 k its).flatten).toArray
 | 0,acc=>by simp
 | k+1,acc=>by
  have e:acc.toArray++its.toArray=(acc++its).toArray:=by simp
  have e2:(acc++its)++(V0 k its).flatten=acc++(V0 (k+1) its).flatten:=by
   rw [V_,W4,Wj]
  rw [← e2,← foldl_rep its k (acc++its),← e,V_,List.foldl_cons]
section
variable {X:Cx}{pins:List (Addr×Obj)}{σ:St}{H:Hp}{s:Shared}{l b:Addr}{xs ys zs:List V}
theorem aL.lset {its its':List Value}{n:Nat}{f:Array Value →Array Value}{t':Nat}(I:aL X pins σ H s)(hH:H l=some (.lst xs))
  (e:s.heap.get? l=some { cls:=.type "list",data:=.seq its.toArray n }) (hf:f its.toArray=its'.toArray) (hv:bC ys its') (hz:ys.length ≤ sizeLine) :
  aL X pins σ (aR H l (.lst ys)) { s with heap:=s.heap.update l (Obj.mapSeq f),toks:=t' }:=by
 have q:=PySem.IsL.update e f;rw [hf] at q;refine I.write (x:=l) (e:=l) (by rw [hH]; exact trivial) (.inl rfl) (fun b' u hb hu=>(WL s.heap (Obj.mapSeq f) (Ne.symm hb)).trans hu) ⟨_,q⟩ ?_;exact ⟨hz,its',_,hv,q⟩
theorem aL.lnew {its:List Value}{t':Nat}(I:aL X pins σ H s)(hv:bC ys its)(hz:ys.length ≤ sizeLine) :
  aL X pins σ (aR H s.heap.objs.size (.lst ys)) { s with heap:=s.heap.push { cls:=.type "list",data:=.seq its.toArray },toks:=t' } :=
 I.laid (fun _ _ q=>VJ _ q) (VP _) ⟨hz,its,0,hv,V5 _ rfl⟩
theorem aL.fresh (I:aL X pins σ H s):H s.heap.objs.size=none:=I.hok.fresh (VP _)
theorem aL.lstM (I:aL X pins σ H s)(hH:H l=some (.lst xs)):xs.length ≤ sizeLine∧∃ (its:List Value) (n:Nat),bC xs its∧xs.length=its.length∧s.heap.get? l=some { cls:=.type "list",data:=.seq its.toArray n }:=by
 obtain ⟨z,its,n,r,e⟩:=I.hok l _ hH;exact ⟨z,its,n,r,r.length,e⟩
theorem zL {n:Nat}(h:n ≤ sizeLine):Builtin.List.listTooLong n=false:=by
 unfold Builtin.List.listTooLong;exact decide_eq_false (by omega)
end
section
variable {X:Cx}
def Aj:V →List V →Hp →VK →Prop:=fun x vs H Q=>∃ l xs y,x=.ref l∧vs=[y]∧H l=some (.lst xs)∧xs.length<sizeLine∧Q .non (aR H l (.lst (xs++[y])))
theorem oY:Oz X "list.append" Aj:=by
 intro pins s σ H x vs v us Q I rx rv h;obtain ⟨l,xs,y,rfl,rfl,hH,hz,q⟩:=h;cases rx;obtain ⟨u,rfl,ru⟩:=rv.one;obtain ⟨z,its,n,r,hl,e⟩:=I.lstM hH;refine call_meets F.slot_list_append ⟨_,e,rfl⟩ F.entry_list_append (F.args_list_append_2 _ _) (PySem.list_append l its.toArray n u (by rw [VL]; omega)) ⟨e,?_⟩;refine ⟨.non,_,I.lset (its':=its++[u]) hH e (by simp) (r.append (.cons ru .nil)) ?_,rfl,q⟩;rw [Vg,List.length_singleton];omega
def Je:R2:=fun x y H Q=>∃ l b xs zs,x=.ref l∧y=.ref b∧H l=some (.lst xs)∧H b=some (.lst zs)∧xs.length+zs.length ≤ sizeLine∧∀ p,H p=none →Q (.ref p) (aR H p (.lst (xs++zs)))
theorem uR:gB X (binaryOp .Add) Je:=by
 intro pins s σ H x y v u Q I rx ry h;obtain ⟨l,b,xs,zs,rfl,rfl,hH,hB,hz,q⟩:=h;cases rx;cases ry;obtain ⟨z,its,n,r,hl,e⟩:=I.lstM hH;obtain ⟨z2,its2,n2,r2,hl2,e2⟩:=I.lstM hB;refine PySem.P.add_list e e2 ?_ (by rw [VL,VL]; omega);have ea:its.toArray++its2.toArray=(its++its2).toArray:=by simp
 rw [ea];exact ⟨.ref _,_,I.lnew (t':=s.toks) (r.append r2) (by rw [Vg]; omega),rfl,q _ I.fresh⟩
def Ni:R2:=fun x y H Q=>∃ l k xs,x=.ref l∧y=.int k∧H l=some (.lst xs)∧-(2^63) ≤ k∧k<2^63∧xs.length*k.toNat ≤ sizeLine ∧
 ∀ p,H p=none →Q (.ref p) (aR H p (.lst (V0 k.toNat xs).flatten))
theorem len_rep {α:Type}(xs:List α)(k:Nat):(V0 k xs).flatten.length=k*xs.length:=by
 induction k with
 | zero=>simp
 | succ k ih=>rw [V_,W4,Vg,ih,Nat.succ_mul,Nat.add_comm]
theorem Dz:gB X (binaryOp .Mult) Ni:=by
 intro pins s σ H x y v u Q I rx ry h;obtain ⟨l,k,xs,rfl,rfl,hH,h1,h2,hz,q⟩:=h;cases rx;obtain ⟨t,rfl⟩:=ry;obtain ⟨z,its,n,r,hl,e⟩:=I.lstM hH;have hlen:its.toArray.size*k.toNat ≤ sizeLine:=by rw [VL,← hl]; exact hz
 have hcap:¬ its.toArray.size*k.toNat > (2^63-1)/8:=by
  have:(sizeLine:Nat) ≤ (2^63-1)/8:=by decide
  omega
 have hfit:¬ (!Builtin.List.listFitsIndex k)=true:=by
  rw [fitsIndex_both h1 h2];exact VN
 have hlong:¬ Builtin.List.listTooLong (its.toArray.size*k.toNat)=true:=by
  rw [zL hlen];exact VN
 have hnew:X7 (fun x1 x2=>x1++x2) #[] (V0 (if its.toArray.isEmpty=true then 0 else k.toNat) its.toArray)=(V0 k.toNat its).flatten.toArray:=by
  have f0:∀ m:Nat,X7 (fun x1 x2=>x1++x2) #[] (V0 m its.toArray)=(V0 m its).flatten.toArray:=fun m=>by
   have:=foldl_rep its m [];rw [List.nil_append] at this;exact this
  rw [f0];cases its with
  | nil=>simp
  | cons a r'=>rw [if_neg (by simp)]
 refine wpAny_binaryOp_repeat_ref (T:="list") (U:="int") (by decide) ⟨_,e,rfl⟩ (fun s'=>typeIs_int s' k t) noFill_list_mul F.fills_int_mul F.slot_int_rmul repeat_list F.slot_int_index.lookup
  (call_meets F.slot_int_rmul (typeIs_int s k t) F.entry_int_rmul (F.args_int_rmul_2 _ _) (int___rmul___int_list k t l its.toArray n)
   ⟨e,rfl,⟨_,e,rfl⟩,call_meets F.slot_list_mul ⟨_,e,rfl⟩ F.entry_list_mul (F.args_list_mul_2 _ _) (AutoListH.list___mul___list_int_3 l its.toArray n k t hfit hcap hlong) ⟨e,?_⟩⟩)
 rw [hnew];exact ⟨.ref _,_,I.lnew (t':=s.toks) (r.rep k.toNat) (by rw [len_rep,Nat.mul_comm]; exact hz),rfl,q _ I.fresh⟩
end
end L2
namespace Att
open PySem PySem.W PySem.Calls PyProof.Rows
theorem lM {P:Params}{h:Heap}:∀ (ns:List Int) (vs:List Value),WellAll P h vs (ns.map WData.int) →IntsAre vs ns:=by
 intro ns
 induction ns with
 | nil =>
  intro vs w;rw [XN] at w;cases w;exact .nil
 | cons n ns ih =>
  intro vs w;rw [Vp] at w;cases w with
  | cons a b =>
   cases a;exact .cons _ _ (ih _ b)
theorem wQ {l:OpenLaw}{n:Nat}(hn:l.most=some n){P:Params}{h:Heap}{args:List WData}{vals:List Value}
  (hpre:l.row.toRowW.claim.pre args=true) (hwl:WellAll P h vals args) :
  ∃ a vs ns,vals=[Value.ref a]∧args=[WData.list (ns.map WData.int)]∧h.get? a=some { cls:=.type "list",data:=.seq vs.toArray }∧IntsAre vs ns∧ns.length ≤ n:=by
 have hsh:WShape.hasAll [] args [.list .int]=true:=(pre_splitW hpre).1;have hc:l.pre.holds [] { args:=args }=true:=(pre_splitW hpre).2;obtain ⟨d,r,rfl,h1,h2⟩:=hasAllW_cons hsh;obtain rfl:=hasAllW_nil h2;obtain ⟨xs,rfl,h3⟩:=hasW_list h1;obtain ⟨ns,rfl⟩:=items_int h3;have hlen:ns.length ≤ n:=by
  unfold OpenLaw.pre at hc;have h4:(WTm.not (.lt (.lit (.int (n:Int))) (.len (.arg 0)))).holds [] { args:=[.list (ns.map .int)] }=true:=by
   have h4:=(holds_andW hc).1;rw [hn] at h4;exact h4
  have h5:=condW_of h4 (w_not (w_lt w_lit (w_len_list (w_arg rfl))));rw [VR] at h5;refine Nat.le_of_not_lt fun q=>?_;have q':(n:Int)<((ns.length:Nat):Int):=by omega
  first
   | (rw [decide_eq_true q'] at h5; exact absurd h5 (by decide))
   | (simp at h5; omega)
 cases hwl with
 | cons w1 w2 =>
  cases w2;cases w1 with
  | list ho hall=>exact ⟨_,_,ns,rfl,rfl,ho,lM ns _ hall,hlen⟩
theorem wU (l:OpenLaw)(args:List WData):l.row.toRowW.claim.post args (.bool true) args=true :=
 postW_of (r:=l.row.toRowW) (X:=(true==true))
  (show WShape.has [] (.bool true) .bool=true by first | rfl | decide | simp [WShape.has,WShape.arms,WShape.armsAll])
  (show (WTm.eq .res (.lit (.bool true))).value [] { args:=args,res:=some (.bool true),after:=args }=some (.bool (true==true)) from w_eq_bool (w_res rfl) w_lit) rfl
theorem sS {l:OpenLaw}{n:Nat}{q:Program}{loose:List Str}{XP:(Str →Option Value) →Heap →Prop}{YP:World →Heap →Prop}{d:DefRec}
  (hn:l.most=some n) (hdf:d.params.defaults=[])
  (call:∀ (w:World) (s₀ s₁:Shared) (mg mb:Str →Option Value) (fa:Addr) (o:Obj) (pm cd doc:Value) (a:Addr) (vs:List Value) (ns:List Int),
   Ground q loose [] XP w s₀ mg mb s₁.heap →YP w s₁.heap →
   s₁.heap.get? fa=some o →o.data=.func (docDef d.name d.params d.body d.scope pm cd doc) →s₁.heap.CodeRec cd d.name →mg d.name=some (.ref fa) →
   s₁.heap.get? a=some { cls:=.type "list",data:=.seq vs.toArray } →IntsAre vs ns →ns.length ≤ n →s₁.gens = #[] →
   codeAny (model l.prog w) callerA (.call (.ref fa) ⟨[.ref a],[]⟩) (fun r s'=>r=.ok (.ret (.bool true))∧OldK s₁.heap s'.heap∧s'.os=s₁.os∧AllBare s'.gens) s₁) :
  WalkO q loose XP YP l.row.toRowW d [] (fun f vs=>PySem.call f vs):=by
 intro w s₀ s₁ mg mb G Y fa o pm cd doc dV kV ho hd hcd hD hmg hg args vals as hpre hlay hrd hwl hlo;obtain rfl:dV=.none:=Dflts.none hD hdf;obtain rfl:kV=.none:=Dflts.noKw hD;obtain ⟨a,vs,ns,rfl,rfl,hobj,hints,hlen⟩:=wQ hn hpre hwl;refine enter_call (codeAny_mono (call w s₀ s₁ mg mb fa o pm cd doc a vs ns G Y ho (fd_plain hd) hcd hmg hobj hints hlen hg) fun r s' hq=>?_);obtain ⟨rfl,h2,h3,h4⟩:=hq;exact ⟨.inl ⟨.bool true,.bool true,[],rfl,fun _=>rfl,.bool true,wU l _,fun _=>⟨List.Pairwise.nil,fun _ hm=>(nomatch hm)⟩⟩,h2,h3,h4⟩
end Att
namespace L2
open PySem PySem.Spec PyProof.Rows
theorem jZ:∀ {vs:List Value}{ns:List Int},IntsAre vs ns →bC (ns.map V.int) vs
 | _,_,.nil=>.nil
 | _,_,.cons n t h=>.cons ⟨t,rfl⟩ (jZ h)
def Dc (H:Hp):Prop:=∀ b,H b=none∨∃ o xs,H b=some (.frz o (.lst xs))
theorem yP {P:Program}{w:World}{K:PySem.W.Frag}{mg mb:Str →Option Value}{CX:rK}{k:Nat}{fa a:Addr}{fd:FuncData}{x:Str}{sp:Sp}{s₁:Shared}{vs:List Value}{ns:List Int}
  (KX:K.In s₁.heap) (hns:s₁.heap.Ns mainGlobals mg) (hb:s₁.heap.Ns builtinsNs mb) (hbb:∀ x:Str,x≠"__name__" →mb x=bootBuiltins x) (hlim:s₁.heap.NoLimit) (hg:s₁.gens = #[])
  (ha:s₁.heap.get? a=some { cls:=.type "list",data:=.seq vs.toArray }) (hi:IntsAre vs ns) (hl:ns.length ≤ sizeLine) (hr:cF k callerA)
  (F:∀ base:Heap,K.In base →base.Ns mainGlobals mg →bB P w K mg base CX k fa fd [x] sp) (hbind:∀ (s:Shared) (u:Value),BindsTo s fd ⟨[u],[]⟩ [(x,u)])
  (hsp:∀ H:Hp,Dc H →bM K H a (ns.map V.int) →sp [.ref a] H (fun v _=>v=.bl true) fun _ _ _=>False)
  (hCX:∀ H e s',CX [] H s₁ (fun _ _ _=>False) e s' →False) :
  codeAny (model P w) callerA (.call (.ref fa) ⟨[.ref a],[]⟩) (fun r s'=>r=.ok (.ret (.bool true))∧OldK s₁.heap s'.heap∧s'.os=s₁.os∧AllBare s'.gens) s₁:=by
 have rv:=jZ hi;have lenV:=hi.length;have core:∀ H:Hp,Dc H →bM K H a (ns.map V.int) →iY P w H s₁.heap →(∀ b,H b≠none →b=a) →(H a≠none →K.lookup a=none) →
   codeAny (model P w) callerA (.call (.ref fa) ⟨[.ref a],[]⟩) (fun r s'=>r=.ok (.ret (.bool true))∧OldK s₁.heap s'.heap∧s'.os=s₁.os∧AllBare s'.gens) s₁:=by
  intro H hO hS hok hA hK;have base_of:∀ {b:Addr}{o:Obj},s₁.heap.get? b=some o →H b=none →(pW s₁.heap H).get? b=some o:=fun e n=>xJ e n;have noA:∀ {b:Addr}{o:Obj}{es:Array DictEntry}{ep:Nat},s₁.heap.get? b=some o →o.data=.dict es ep →H b=none:=fun {b o es ep} e d=>by
   cases q:H b with
   | none=>rfl
   | some u =>
    have e':b=a:=hA b (by rw [q]; simp);subst e';rw [ha] at e; cases e;have d':Data.seq vs.toArray _=Data.dict es ep:=d;cases d'
  have nsK:∀ {b:Addr}{m:Str →Option Value},s₁.heap.Ns b m →(pW s₁.heap H).Ns b m:=fun {b m} ⟨o,es,ep,e,d,r⟩=>⟨o,es,ep,base_of e (noA e d),d,r⟩
  have hKb:K.In (pW s₁.heap H):=fun b o e=>base_of (KX b o e) (by
   cases q:H b with
   | none=>rfl
   | some u =>
    have e':b=a:=hA b (by rw [q]; simp);subst e';rw [hK (by rw [q]; simp)] at e; cases e)
  have hM:Mod K mg (pW s₁.heap H):=⟨hKb,nsK hns,⟨mb,nsK hb,hbb⟩,let ⟨mc,h1,h2⟩:=hlim; ⟨mc,nsK h1,h2⟩⟩
  have e0:t7 P w K mg (pW s₁.heap H) callerA [] s₁ H:=⟨rfl,hM,fun b o e=>Am e,XM (wK _ _),trivial,fun b hb=>absurd (show b∈([]:List Addr) from hb) (by simp),hok,.of_eq hg⟩
  refine codeAny_mono ((F _ hKb (nsK hns)).run callerA [] s₁ H ⟨[.ref a],[]⟩ [.ref a] [.ref a] _ _ hr e0 (hbind s₁ (.ref a)) (.cons rfl .nil) (hsp H hO hS)) fun r s' h=>?_;cases r with
  | error e=>exact (hCX H e s' h).elim
  | ok fl =>
   cases fl with
   | next=>exact False.elim h
   | brk=>exact False.elim h
   | cont=>exact False.elim h
   | ret u =>
    obtain ⟨v,H',os,bare,un,hok',r',q⟩:=h;have q':v=.bl true:=q;subst q';obtain rfl:u=Value.bool true:=r';refine ⟨rfl,OldK.of_keep fun b o e=>?_,os,bare⟩;cases q:H b with
    | none=>exact un.keep b o e q (by intro z; exact absurd (show b∈([]:List Addr) from z) (by simp)) (by simp)
    | some u =>
     rcases hO b with z | ⟨ob,xs,z⟩
     ·rw [q] at z; cases z
     ·have z2:=un.frzs b ob _ z;obtain ⟨e1,_⟩:=hok b _ z;obtain ⟨e2,_⟩:=hok' b _ z2;rw [e] at e1; cases e1;exact e2
 cases hk:K.lookup a with
 | some o =>
  have e:=KX a o hk;rw [ha] at e;cases e;refine core (fun _=>none) (fun _=>.inl rfl) (.inr ⟨_,vs.toArray,_,hk,rfl,rfl,rfl,by rw [VL,lenV]; exact hl,by simpa using rv⟩) (fun b u z=>by have z':(none:Option HO)=some u:=z; cases z') (fun b z=>absurd rfl z) fun z=>absurd rfl z
 | none =>
  refine core (fun b=>if b=a then some (.frz { cls:=.type "list",data:=.seq vs.toArray } (.lst (ns.map V.int))) else none) (fun b=>?_) (.inl (.inr ⟨{ cls:=.type "list",data:=.seq vs.toArray },if_pos rfl⟩)) (fun b u z=>?_) (fun b z=>?_) fun _=>hk
  ·by_cases hb:b=a
   ·exact .inr ⟨_,_,if_pos hb⟩
   ·exact .inl (if_neg hb)
  ·by_cases hb:b=a
   ·have z':=(if_pos hb).symm.trans z;cases z';subst hb;exact ⟨ha,by rw [VR]; exact hl,vs,_,rv,ha⟩
   ·have z':=(if_neg hb).symm.trans z;cases z'
  ·by_cases hb:b=a
   ·exact hb
   ·exact absurd (if_neg hb) z
theorem Ai {l:PySem.W.OpenLaw}{n k:Nat}{q:Program}{loose:List Str}{XP:(Str →Option Value) →Heap →Prop}{YP:World →Heap →Prop}{d:DefRec}{K:Params →PySem.W.Frag}{CX:World →rK}{sp:World →Sp}{x:Str}
  (hn:l.most=some n) (hn2:n ≤ sizeLine) (hdf:d.params.defaults=[]) (hr:cF k callerA)
  (hY:∀ (w:World) (h:Heap),YP w h →(K w.params).In h)
  (F:∀ (w:World) (mg:Str →Option Value) (fa:Addr) (h:Heap),(K w.params).In h →h.Ns mainGlobals mg →mg d.name=some (.ref fa) →
   ∃ fd:FuncData,(∀ (s:Shared) (u:Value),BindsTo s fd ⟨[u],[]⟩ [(x,u)]) ∧
    ∀ base:Heap,(K w.params).In base →base.Ns mainGlobals mg →bB l.prog w (K w.params) mg base (CX w) k fa fd [x] (sp w))
  (hsp:∀ (w:World) (H:Hp) (a:Addr) (ns:List Int),ns.length ≤ n →Dc H →bM (K w.params) H a (ns.map V.int) →sp w [.ref a] H (fun v _=>v=.bl true) fun _ _ _=>False)
  (hCX:∀ (w:World) (H:Hp) (s:Shared) (e:Value) (s':Shared),CX w [] H s (fun _ _ _=>False) e s' →False) :
  PySem.W.WalkO q loose XP YP l.row.toRowW d [] (fun f vs=>PySem.call f vs):=by
 refine Att.sS hn hdf fun w s₀ s₁ mg mb fa o pm cd doc a vs ns G Y ho hd hcd hmg hobj hints hlen hg=>?_;have KX:=hY w _ Y;obtain ⟨fd,hb,hF⟩:=F w mg fa _ KX G.T.g hmg;exact yP KX G.T.g G.T.b G.T.builtins G.T.nolimit hg hobj hints (Va hlen hn2) hr hF hb (fun H hO hS=>hsp w H a ns hlen hO hS) fun H e s'=>hCX w H s₁ e s'
def inClass (s:Stmt)(j:Nat):Stmt:=match s with
 | .ClassDef _ _ _ body _ _ _ _ _ _ _=>body.getD j (.Pass ⟨0,0,0,0⟩)
 | _=>.Pass ⟨0,0,0,0⟩
def dW (s:Stmt):Arguments:=match s with
 | .FunctionDef _ a _ _ _ _ _ _ _ _=>a
 | _=>{ posonlyargs:=[],args:=[],vararg:=none,kwonlyargs:=[],kw_defaults:=[],kwarg:=none,defaults:=[] }
def cP (s:Stmt):List Stmt:=match s with
 | .FunctionDef _ _ b _ _ _ _ _ _ _=>b
 | _=>[]
def aH (s:Stmt):Scope:=match s with
 | .FunctionDef _ _ _ _ _ _ sc _ _ _=>sc
 | _=>{ kind:=.function,names:=[],isGenerator:=false,isCoroutine:=false }
abbrev dX:rK:=fun _ _ _ _ _ _=>False
abbrev E0:XK:=fun _ _ _=>False
theorem oX {X:Cx}:cV dX X E0:=fun _ _ _ _ _ _ _ h=>h.elim
structure dD (K:PySem.W.Frag)(x qual:Str)(st:Stmt)(f:Addr)(fd:FuncData):Prop where
 ex:∃ (oc:Value) (od:Option Addr) (kV doc pm:Value) (an:Option Addr) (cdv ct:Value) (osl:Array (Option Value)),
  fd=PySem.W.fnOf x qual (dW st) (cP st) (aH st) .none kV doc pm an cdv ct∧K.lookup f=some ⟨oc,od,.func fd,osl⟩∧PySem.W.codeIn K cdv qual=true
 kp:PySem.W.keepIn K (.ref f)=true
section
variable {P:Program}{w:World}{K:PySem.W.Frag}{mg:Str →Option Value}{base:Heap}
theorem dD.ok {x qual:Str}{st:Stmt}{f:Addr}{fd:FuncData}{N ps:List Str}{k:Nat}{sp:Sp}(F:dD K x qual st f fd)(S:aV N ps (aH st))(len:∀ vs H Q E,sp vs H Q E →vs.length=ps.length)
  (hbody:∀ (cdv:Value) (A:Around) (outer:List Env) (s:Shared) (H:Hp) (vs:List V) (Q:VK) (E:XK),cF k (A.deeper (envOfC qual (aH st) s.heap.objs.size f cdv)) →sp vs H Q E →
   ∃ t,mW (j5 dX P w K mg base N qual (aH st) f cdv A outer s H E).nox (cP st) t∧t { nx:=fun _ H'=>Q .non H',rt:=Q } (start N vs) H):bB P w K mg base dX (k+1) f fd ps sp:=by
 obtain ⟨oc,od,kV,doc,pm,an,cdv,ct,osl,rfl,lk,hcd⟩:=F.ex;refine Bd lk hcd S len fun A outer s H vs Q E hr hsp=>?_;obtain ⟨t,h,q⟩:=hbody cdv A outer s H vs Q E hr hsp;exact ⟨t,h.nox,q⟩
theorem dD.binds {x qual:Str}{st:Stmt}{f:Addr}{fd:FuncData}{ps:List Str}(F:dD K x qual st f fd)
  (h:∀ (kV doc pm:Value) (an:Option Addr) (cdv ct:Value) (us:List Value),us.length=ps.length →bindArgs (PySem.W.fnOf x qual (dW st) (cP st) (aH st) .none kV doc pm an cdv ct) ⟨us,[]⟩=pure (ps.zip us)):Binds K fd ps []:=by
 obtain ⟨oc,od,kV,doc,pm,an,cdv,ct,osl,rfl,lk,hcd⟩:=F.ex;exact .all (h kV doc pm an cdv ct)
theorem yM {x qual:Str}{st:Stmt}{f:Addr}{oc:Value}{od an:Option Addr}{osl:Array (Option Value)}{kV doc pm cdv ct:Value}(l:K.lookup f=some ⟨oc,od,.func (PySem.W.fnOf x qual (dW st) (cP st) (aH st) .none kV doc pm an cdv ct),osl⟩)
  (c:PySem.W.codeIn K cdv qual=true) (k:PySem.W.keepIn K (.ref f)=true):dD K x qual st f (PySem.W.fnOf x qual (dW st) (cP st) (aH st) .none kV doc pm an cdv ct):=⟨⟨oc,od,kV,doc,pm,an,cdv,ct,osl,rfl,l,c⟩,k⟩
end
theorem bI {n:Nat}(h:n ≤ 1000):n<sizeLine:=Wg h (by decide)
section
variable {X:Cx}
theorem pv (i:Nat){x:Str}{pos:Pos}(hN:X.N[i]? = some x:=by rfl)(hv:JH X.env.scope x:=by first | exact Or.inl rfl | exact Or.inr (Or.inl rfl) | exact Or.inr (Or.inr rfl))(hd:(x==("__debug__" : Str))=false:=by decide)
  (hcd:(x==("__classdict__" : Str))=false:=by decide):PE X (.Name x pos) (Dv i):=yZ hN hv hd hcd
end
theorem dC {A B:Prop}(h:B):if false=true then A else B:=by
 rw [if_neg VN];exact h
theorem eY {A B:Prop}(h:A):if true=true then A else B:=by
 rw [if_pos rfl];exact h
theorem Jo {c A B:Prop}[Decidable c](h1:c →A)(h2:¬ c →B):if c then A else B:=by
 by_cases h:c
 ·rw [if_pos h];exact h1 h
 ·rw [if_neg h];exact h2 h
def aY (H H':Hp):Prop:=∀ b o,H b=some o →H' b=some o
theorem aY.refl (H:Hp):aY H H:=fun _ _ h=>h
theorem aY.trans {H H1 H2:Hp}(a:aY H H1)(b:aY H1 H2):aY H H2:=fun c o h=>b c o (a c o h)
theorem aY.free {H H':Hp}(e:aY H H'){l:Addr}(h:H' l=Option.none):H l=Option.none:=by
 cases q:H l with
 | none=>rfl
 | some o =>
  rw [e l o q] at h;cases h
theorem aY.seq {K:PySem.W.Frag}{H H':Hp}{a:Addr}{xs:List V}(e:aY H H')(h:bM K H a xs):bM K H' a xs:=by
 rcases h with (h | ⟨o,h⟩) | h
 ·exact .inl (.inl (e _ _ h))
 ·exact .inl (.inr ⟨o,e _ _ h⟩)
 ·exact .inr h
section
variable {κ:Type}[DecidableEq κ]
def putK (kvs:List (κ×V))(k:κ)(v:V):List (κ×V) :=
 if (kvs.any fun kv=>decide (kv.1=k))=true then kvs.map (fun kv=>if kv.1=k then (kv.1,v) else kv) else kvs++[(k,v)]
theorem rN (kvs:List (κ×V))(k:κ)(v:V):(putK kvs k v).length ≤ kvs.length+1:=by
 unfold putK
 split
 ·rw [VR]; omega
 ·rw [Vg,Vk,Wa]; omega
theorem KV.any {kvs:List (κ×V)}{vs:List (κ×Value)}(r:KV kvs vs)(k:κ):(kvs.any fun kv=>decide (kv.1=k))=vs.any fun kv=>decide (kv.1=k):=by
 unfold KV at r
 induction r with
 | nil=>rfl
 | cons h t ih=>rw [Wk,Wk,ih,h.1]
theorem KV.repl {kvs:List (κ×V)}{vs:List (κ×Value)}(r:KV kvs vs)(k:κ){y:V}{u:Value}(ry:RelV y u) :
  KV (kvs.map fun kv=>if kv.1=k then (kv.1,y) else kv) (vs.map fun kv=>if kv.1=k then (kv.1,u) else kv):=by
 unfold KV at r ⊢
 induction r with
 | nil=>exact .nil
 | @cons p q ps qs h t ih =>
  rw [Vp,Vp];refine .cons ?_ ih;obtain ⟨h1,h2⟩:=h
  by_cases e:p.1=k
  ·rw [if_pos e,if_pos (h1.symm.trans e)]; exact ⟨h1,ry⟩
  ·rw [if_neg e,if_neg (fun z=>e (h1.trans z))]; exact ⟨h1,h2⟩
theorem KV.put {kvs:List (κ×V)}{vs:List (κ×Value)}(r:KV kvs vs)(k:κ){y:V}{u:Value}(ry:RelV y u):KV (putK kvs k y) (stored vs k u):=by
 unfold putK stored;rw [r.any k]
 by_cases e:(vs.any fun kv=>decide (kv.1=k))=true
 ·rw [if_pos e,if_pos e]; exact r.repl k ry
 ·rw [if_neg e,if_neg e]; exact Paired.snoc r ⟨rfl,ry⟩
end
theorem Ew {P:Program}{w:World}{k:Key}{u:Value}(r:RelV (kV k) u):(cW P w).is k u=true:=by
 cases k with
 | inl i=>obtain ⟨t,e⟩:=(show ∃ t,u=Value.int i t from r); subst e; exact qW P w i t
 | inr x=>obtain ⟨t,e⟩:=(show ∃ t,u=Value.str x t from r); subst e; exact rQ P w x t
section
variable {P:Program}{w:World}{H:Hp}{h:Heap}{a:Addr}
theorem Gz {u:HO}(ok:iY P w H h)(e:Rd H a u):bH P w H h a u:=e.ok ok
theorem HB {kvs:List (Key×V)}(ok:iY P w H h)(e:Rd H a (.dK kvs)):kvs.length ≤ sizeLine∧(a==sysModules)=false∧∃ vs,KV kvs vs∧h.DictOf (cW P w) a vs :=
 show bH P w H h a (.dK kvs) from Gz ok e
theorem JC {kvs:List (Key×V)}(ok:iY P w H h)(e:H a=some (.dK kvs)):kvs.length ≤ sizeLine∧(a==sysModules)=false∧∃ vs,KV kvs vs∧h.DictOf (cW P w) a vs:=HB ok (.inl e)
end
section
variable {X:Cx}{pins:List (Addr×Obj)}{σ:St}{H:Hp}{s:Shared}{a:Addr}{y v:V}{u r:Value}{o:Option V}{A:Around}{E:Value →Shared →Prop}
theorem aL.big (I:aL X pins σ H s):sysModules<s.heap.objs.size:=by
 have h:mainGlobals<s.heap.objs.size:=(I.mod.glob.keeps I.bk).lt;exact Nat.lt_trans (by decide) h
theorem Al {h':Heap}{t':Nat}{ob:HO}(I:aL X pins σ H s)(mu:Gx (H a))(hs:Wc a s.heap h')(he:∃ q,h'.get? a=some q)(new:bH X.prog X.w (aR H a ob) h' a ob) :
  aL X pins σ (aR H a ob) { s with heap:=h',toks:=t' } :=
 I.write (x:=a) (e:=a) mu (.inl rfl) (fun b q hb z=>(hs.2 b hb).trans z) he new
theorem De {P:Program}{w:World}{H':Hp}{h':Heap}{kvs:List (Key×V)}{vs:List (Key×Value)}(z:kvs.length ≤ sizeLine)(hd:(a==sysModules)=false)(rel:KV kvs vs)(dd:h'.DictOf (cW P w) a vs) :
  bH P w H' h' a (.dK kvs):=⟨z,hd,vs,rel,dd⟩
end
theorem sZ {P:Program}{w:World}{H:Hp}(h:Heap)(hb:sysModules<h.objs.size):bH P w H (h.push { cls:=.type "dict",data:=.dict #[] }) h.objs.size (.dK []) :=
 ⟨Vt _,beq_eq_false_iff_ne.mpr (Ne.symm (V6 hb)),[],.nil,Heap.DictOf.new h⟩
def yQ:TE:=fun _ H Q=>∀ p,H p=none →Q (.ref p) (aR H p (.dK []))
section
variable {X:Cx}{pos:Pos}
theorem xG:PE X (.Dict [] [] pos) yQ:=fun pins s σ H Q I h =>
 wpAny_Dict_empty ⟨.ref s.heap.objs.size,_,I.laid (a:=s.heap.objs.size) (o:=.dK []) (t':=s.toks) (fun _ _ q=>VJ _ q) (VP _) (sZ s.heap I.big),rfl,h _ (I.hok.fresh (VP _))⟩
end
def uK:List (TE×TE) →St →Hp →(List (V×V) →Hp →Prop) →Prop
 | [],_,H,Q=>Q [] H
 | (tk,tv)::r,σ,H,Q=>tk σ H fun x H1=>tv σ H1 fun y H2=>uK r σ H2 fun ps H3=>Q ((x,y)::ps) H3
abbrev VV:List (V×V) →List (Value×Value) →Prop:=Paired fun p q=>RelV p.1 q.1∧RelV p.2 q.2
def GJ (X:Cx)(pos:Pos)(keys:List (Option Expr))(values:List Expr)(trs:List (TE×TE)):Prop :=
 ∀ (pins:List (Addr×Obj)) (s:Shared) (σ:St) (H:Hp) (Q:List (V×V) →Hp →Prop),aL X pins σ H s →uK trs σ H Q →
  wpAny (model X.prog X.w) X.A (evalPairs (pairTrees keys values X.env pos)) (fun vs s'=>∃ ps H',aL X pins σ H' s'∧VV ps vs∧Q ps H') X.xe s
theorem z7 {X:Cx}{pos:Pos}:GJ X pos [] [] []:=fun pins s σ H Q I h=>pairTrees_nil_walk ⟨[],H,I,.nil,h⟩
theorem yV {X:Cx}{pos:Pos}{k v:Expr}{ks:List (Option Expr)}{vs:List Expr}{tk tv:TE}{trs:List (TE×TE)}(hk:PE X k tk)(hv:PE X v tv)(hr:GJ X pos ks vs trs) :
  GJ X pos (some k::ks) (v::vs) ((tk,tv)::trs):=fun pins s σ H Q I h =>
 pairTrees_cons_walk (bW (hk pins s σ H _ I h) fun u s1 ⟨x,H1,I1,rx,q1⟩=>bW (hv pins s1 σ H1 _ I1 q1) fun w2 s2 ⟨y,H2,I2,ry,q2⟩ =>
  bW (hr pins s2 σ H2 _ I2 q2) fun ws s3 ⟨ps,H3,I3,rel,q3⟩=>⟨(x,y)::ps,H3,I3,.cons ⟨rx,ry⟩ rel,q3⟩)
def fB (kvs more:List (Key×V)):List (Key×V):=more.foldl (fun acc kv=>putK acc kv.1 kv.2) kvs
theorem KV.merge:∀ {more:List (Key×V)}{rs:List (Key×Value)}{kvs:List (Key×V)}{vs:List (Key×Value)},KV more rs →KV kvs vs →KV (fB kvs more) (merged vs rs):=by
 intro more rs kvs vs r;unfold KV at r
 induction r generalizing kvs vs with
 | nil=>intro q; exact q
 | @cons p q ps qs h t ih =>
  intro r0;have e:KV (putK kvs p.1 p.2) (stored vs q.1 q.2):=by
   have:=r0.put p.1 h.2;rw [← h.1]; exact this
  exact ih e
theorem iT:∀ (more kvs:List (Key×V)),(fB kvs more).length ≤ kvs.length+more.length
 | [],kvs=>by show kvs.length ≤ kvs.length+0; omega
 | p::r,kvs=>by
  have h1:=iT r (putK kvs p.1 p.2);have h2:=rN kvs p.1 p.2;show (fB (putK kvs p.1 p.2) r).length ≤ _;rw [Vk]; omega
theorem mK {P:Program}{w:World}:∀ {kvs:List (Key×V)}{ws:List (Value×Value)},VV (kvs.map fun kv=>(kV kv.1,kv.2)) ws →∃ rs,Carries (cW P w) ws rs∧KV kvs rs
 | [],_,r=>by rw [XN] at r; cases r; exact ⟨[],True.intro,.nil⟩
 | p::kvs,_,r=>by
  rw [Vp] at r;cases r with
  | @cons a b as bs h t =>
   obtain ⟨rs,c,q⟩:=mK (P:=P) (w:=w) t;obtain ⟨b1,b2⟩:=b;exact ⟨(p.1,b2)::rs,⟨Ew h.1,rfl,c⟩,.cons ⟨rfl,h.2⟩ q⟩
def Bq (trs:List (TE×TE)):TE:=fun σ H Q=>∀ p,H p=none →uK trs σ (aR H p (.dK [])) fun ps H2=>H2 p=some (.dK [])∧∃ kvs:List (Key×V),ps=kvs.map (fun kv=>(kV kv.1,kv.2))∧kvs.length ≤ 15∧Q (.ref p) (aR H2 p (.dK (fB [] kvs)))
theorem Ah {X:Cx}{pos:Pos}{keys:List (Option Expr)}{values:List Expr}{trs:List (TE×TE)}(h:GJ X pos keys values trs)(hall:keys.all (·.isSome)=true)(hl:keys.length=values.length)(h0:keys≠[])
  (h15:keys.length ≤ 15):PE X (.Dict keys values pos) (Bq trs):=by
 intro pins s σ H Q I q;have hn:=I.hok.fresh (VP s.heap.objs.size);have I1:=I.laid (a:=s.heap.objs.size) (o:=.dK []) (h':=s.heap.push { cls:=.type "dict",data:=.dict #[] }) (t':=s.toks) (fun _ _ q=>VJ _ q) (VP _) (sZ s.heap I.big);refine wpAny_Dict_walk (knd:=cW X.prog X.w) hall hl h0 h15 (bW (h pins _ σ _ _ I1 (q _ hn)) fun ws s2 ⟨ps,H2,I2,rel,e,kvs,ep,lk,q2⟩=>?_);subst ep;obtain ⟨rs,c,rk⟩:=mK (P:=X.prog) (w:=X.w) rel;obtain ⟨z,hd,vs0,r0,dd⟩:=JC I2.hok e;cases r0;refine ⟨rs,c,dd,fun h' dd' hs=>⟨.ref s.heap.objs.size,_,?_,rfl,q2⟩⟩;have hz:(fB [] kvs).length ≤ sizeLine:=by
  have h1:=iT kvs [];rw [Wa] at h1;rw [sizeLine_eq]; omega
 have he:∃ q,h'.get? s.heap.objs.size=some q:=let ⟨q,_,_,hq,_⟩:=dd'; ⟨q,hq⟩;exact Al I2 (by rw [e]; exact True.intro) hs he (De hz hd (rk.merge .nil) dd')
end L2
namespace PySem
section
variable {prog:Program}{w:World}{A:Around}{E:Value →Shared →Prop}{R:Result →Shared →Prop}{s:Shared}
theorem qI {elt target iter:Expr}{ifs:List Expr}{scope:Scope}{pos:Pos}{it acc:Value}{env:Env}(I:Nat →Shared →Prop)
  (turn:∀ n s,I n s →∀ E':Value →Shared →Prop,wpAny (model prog w) A (pyNext it) (fun r s₁=>match r with
   | none=>R (.ok .next) s₁
   | some v=>wpAny (model prog w) A (letOwnedTupleGo target it v) (fun _ s₁'=>wpAny (model prog w) A (assign target env v) (fun _ s₂ =>
     wpAny (model prog w) A (forIn ifs true fun c r=>if r=true then do let ok ← isTrue c env (eval c env); pure (ForInStep.yield ok) else pure (ForInStep.yield r)) (fun ok s₃ =>
      if ok=true then wpAny (model prog w) A (eval elt env) (fun x s₄ =>
       wpAny (model prog w) A (call (.builtin "list.append") [acc,x]) (fun _ s₅=>∃ m,m<n∧I m s₅) E' s₄) E' s₃
      else ∃ m,m<n∧I m s₃) E' s₂) E' s₁') E' s₁) E' s)
  (n:Nat) (h:I n s) :
  codeAny (model prog w) A (.compLoop (.ListComp elt [⟨target,iter,ifs,0⟩] scope pos) 0 it acc env) R s:=by
 refine codeAny_loop rfl I (fun n s hI=>?_) n h;show wpAny _ A ((compTurn (.ListComp elt [⟨target,iter,ifs,0⟩] scope pos) 0 it acc env).onRaise (fun x=>do noteFrame x env; theTreesLotGoes x)) _ _ s;refine wpAny_noted ?_;rw [compTurn_list];refine wpAny_bind (wpAny_standAt (wpAny_bind (wpAny_mono (turn n s hI _) (fun r s₁ h₁=>?_) fun _ _ h'=>h')));cases r with
 | none=>exact wpAny_pure h₁
 | some v =>
  refine wpAny_bind (wpAny_mono h₁ (fun _ s₁' h₁'=>?_) fun _ _ h'=>h');refine wpAny_bind (wpAny_mono h₁' (fun _ s₂ h₂=>wpAny_bind (wpAny_mono h₂ (fun ok s₃ h₃=>?_) fun _ _ h'=>h')) fun _ _ h'=>h');cases ok with
  | false=>exact wpAny_pure ⟨rfl,h₃⟩
  | true =>
   exact wpAny_bind (wpAny_bind (wpAny_mono h₃ (fun x s₄ h₄=>wpAny_bind (wpAny_mono h₄ (fun _ s₅ h₅=>wpAny_pure (wpAny_pure ⟨rfl,h₅⟩)) fun _ _ h'=>h')) fun _ _ h'=>h'))
end
def d9 (env:Env):List (Str×NameKind) →List (Str×Addr) →List (Str×Addr)
 | [],cs=>cs
 | (n,k)::r,cs=>d9 env r (if k==.free then (match env.cells.lookup n with | some a=>(n,a)::cs | none=>cs) else cs)
theorem j8 {scope:Scope}{env:Env}(h:∀ y∈scope.names,y.2=.free →∃ c,env.cells.lookup y.1=some c):closureFor scope env=pure (d9 env scope.names []):=by
 unfold closureFor;have key:∀ (l:List (Str×NameKind)) (cs:List (Str×Addr)),(∀ y∈l,y.2=.free →∃ c,env.cells.lookup y.1=some c) →
   (forIn l cs fun x r=>(match x with
    | (name,kind)=>if (kind==NameKind.free)=true then (do let a ← cellOf env name; pure (ForInStep.yield ((name,a)::r))) else pure (ForInStep.yield r):Sem (ForInStep (List (Str×Addr)))))=(pure (d9 env l cs):Sem _):=by
  intro l
  induction l with
  | nil=>intro cs _; rfl
  | cons y r ih =>
   intro cs hy;obtain ⟨n,k⟩:=y;rw [List.forIn_cons]
   by_cases hk:(k==NameKind.free)=true
   ·obtain ⟨c,hc⟩:=hy (n,k) Vn (by simpa using hk);have e:cellOf env n=pure c:=by unfold cellOf; rw [hc]
    simp only [hk,if_true,e,pure_bind];rw [ih _ fun z hz=>hy z (V9 _ hz)];show _=pure (d9 env r (if (k==NameKind.free)=true then (match env.cells.lookup n with | some a=>(n,a)::cs | none=>cs) else cs));rw [if_pos hk,hc]
   ·have hk2:(k==NameKind.free)=false:=by simpa using hk
    simp only [hk2,XF,if_false,pure_bind];rw [ih _ fun z hz=>hy z (V9 _ hz)];show _=pure (d9 env r (if (k==NameKind.free)=true then (match env.cells.lookup n with | some a=>(n,a)::cs | none=>cs) else cs));rw [if_neg hk]
 have k2:=key scope.names [] h;simp only [bind_pure]
 first
  | exact k2
  | (rw [← k2]; rfl)
theorem pG {env:Env}:∀ (l:List (Str×NameKind)) (cs:List (Str×Addr)) (p:Str×Addr),p∈d9 env l cs →p∈cs∨env.cells.lookup p.1=some p.2
 | [],_,_,h=>.inl h
 | (n,k)::r,cs,p,h=>by
  rcases pG r _ p h with q | q
  ·by_cases hk:(k==NameKind.free)=true
   ·rw [if_pos hk] at q;cases e:env.cells.lookup n with
    | none=>rw [e] at q; exact .inl q
    | some a =>
     rw [e] at q;rcases Vh.mp q with z | z
     ·subst z; exact .inr e
     ·exact .inl z
   ·rw [if_neg hk] at q; exact .inl q
  ·exact .inr q
theorem oJ {env:Env}:∀ (l:List (Str×NameKind)) (cs:List (Str×Addr)) (p:Str×Addr),p∈cs →p∈d9 env l cs
 | [],_,_,h=>h
 | (n,k)::r,cs,p,h=>by
  refine oJ r _ p ?_
  by_cases hk:(k==NameKind.free)=true
  ·rw [if_pos hk];cases e:env.cells.lookup n with
   | none=>exact h
   | some a=>exact V9 _ h
  ·rw [if_neg hk]; exact h
theorem oN {env:Env}{n:Str}{c:Addr}(e:env.cells.lookup n=some c):∀ (l:List (Str×NameKind)) (cs:List (Str×Addr)),(n,NameKind.free)∈l →(n,c)∈d9 env l cs
 | [],_,h=>nomatch h
 | (m,k)::r,cs,h=>by
  rcases Vh.mp h with z | z
  ·cases z;refine oJ r _ _ ?_;rw [if_pos (by rfl),e];exact Vn
  ·exact oN e r _ z
theorem iI {β:Type}{n:Str}{c:β}:∀ {l:List (Str×β)},(n,c)∈l →∃ d,l.lookup n=some d
 | [],h=>nomatch h
 | (m,d)::r,h=>by
  cases q:n==m with
  | true=>exact ⟨d,by simp only [Vo,q]⟩
  | false =>
   rcases Vh.mp h with z | z
   ·cases z;simp at q
   ·obtain ⟨d',e⟩:=iI z;exact ⟨d',by simp only [Vo,q,e]⟩
theorem c7 {env:Env}:∀ {names:List (Str×NameKind)}{x:Str}{k:NameKind},
  (names.map fun (n,k)=>if (k==NameKind.free&&env.scope.kind==.function&&env.kindOf n==some .cell) then (n,NameKind.cell) else (n,k)).lookup x=some k →
  ∃ k',names.lookup x=some k'∧(k'=k∨(k'=.free∧k=.cell))
 | [],_,_,h=>by simp at h
 | (n,j)::r,x,k,h=>by
  cases hx:x==n with
  | true =>
   refine ⟨j,by simp only [Vo,hx],?_⟩
   by_cases hc:(j==NameKind.free&&env.scope.kind==.function&&env.kindOf n==some .cell)=true
   ·simp only [Vp,if_pos hc,Vo,hx] at h;cases h;refine .inr ⟨?_,rfl⟩;simp only [Vc,beq_iff_eq] at hc;exact hc.1.1
   ·simp only [Vp,if_neg hc,Vo,hx] at h;cases h;exact .inl rfl
  | false =>
   by_cases hc:(j==NameKind.free&&env.scope.kind==.function&&env.kindOf n==some .cell)=true
   ·simp only [Vp,if_pos hc,Vo,hx] at h;obtain ⟨k',e1,e2⟩:=c7 h;exact ⟨k',by simp only [Vo,hx,e1],e2⟩
   ·simp only [Vp,if_neg hc,Vo,hx] at h;obtain ⟨k',e1,e2⟩:=c7 h;exact ⟨k',by simp only [Vo,hx,e1],e2⟩
end PySem
namespace L2
open PySem PySem.Spec PyProof.Rows
open Builtin.Int (intBits)
section
variable {X:Cx}
def Bo (i j:Int):Prop:=intBits i+intBits j ≤ 134217728
theorem qN:gB X (binaryOp .Mult) (rI Bo fun i j=>.int (i*j)):=Ed fun _ _ _ _ _ _ _ hc q=>mul_int q (IntMulOk.of_le (VP _) (VP _) hc)
theorem gP {T:String}:cN X (.builtin "isinstance") (fun xs H Q=>∃ x t b,xs=[x,.ty T]∧cR X.K H x t∧PySem.W.kitOne X.K t (.type T)=some b∧Q (.bl b) H):=by
 intro pins s σ H xs us Q I r h;obtain ⟨x,t,b,rfl,ty,e,q⟩:=h;obtain ⟨u,w',rfl,rx,rt⟩:=vals2 r;cases (show w'=Value.type T from rt);exact oH I rx ty e fun tk=>⟨.bl b,H,I.tok _,rfl,q⟩
theorem getD_at {α:Type}{l:List α}{d:α}{i:Nat}(h:i<l.length):l.getD i d=l[i]:=by simp [h]
end
structure cL (sc scope:Scope):Prop where
 kind:scope.kind=.function
 nocell:∀ y∈scope.names,y.2≠.cell
 loc:∀ y∈scope.names,y.2=.local →scope.names.lookup y.1=some .local
 free:∀ y∈scope.names,y.2=.free →sc.names.lookup y.1=some .cell∨sc.names.lookup y.1=some .free
def vI (sc scope:Scope):Bool:=(scope.kind==.function)&&scope.names.all fun y=>(y.2 != .cell)&&((y.2 != .local)||(scope.names.lookup y.1==some .local))&&((y.2 != .free)||(sc.names.lookup y.1==some .cell)||(sc.names.lookup y.1==some .free))
theorem cL.of {sc scope:Scope}(h:vI sc scope=true):cL sc scope:=by
 unfold vI at h;rw [Vc,Vr] at h;obtain ⟨hk,h⟩:=h;refine ⟨eq_of_beq hk,fun y hy=>?_,fun y hy e=>?_,fun y hy e=>?_⟩
 ·have q:=h y hy;simp only [Vc,bne_iff_ne] at q;exact q.1.1
 ·have q:=h y hy;simp only [Vc,Wb,bne_iff_ne,beq_iff_eq] at q;exact q.1.2.resolve_left fun z=>z e
 ·have q:=h y hy;simp only [Vc,Wb,bne_iff_ne,beq_iff_eq] at q;rcases q.2 with (z | z) | z
  ·exact absurd e z
  ·exact .inl z
  ·exact .inr z
structure NL (N M:List Str)(scope:Scope):Prop where
 len:M.length=N.length
 loc:∀ (j:Nat) x,M[j]? = some x →scope.names.lookup x≠some .local
 free:∀ (j:Nat) x,M[j]? = some x →scope.names.lookup x=some .free →N[j]? = some x
def NQ (scope:Scope):List Str →List Str →Bool
 | [],[]=>true
 | x::M,y::N=>(scope.names.lookup x != some .local)&&((scope.names.lookup x != some .free)||x==y)&&NQ scope M N
 | _,_=>false
theorem NL.of {scope:Scope}:∀ {N M:List Str},NQ scope M N=true →NL N M scope
 | [],[],_=>⟨rfl,fun j x h=>by simp at h,fun j x h=>by simp at h⟩
 | [],_::_,h=>by cases h
 | _::_,[],h=>by cases h
 | y::N,x::M,h=>by
  have h':((scope.names.lookup x != some .local)&&((scope.names.lookup x != some .free)||x==y)&&NQ scope M N)=true:=h;simp only [Vc,Wb,bne_iff_ne,beq_iff_eq] at h';obtain ⟨⟨h1,h2⟩,h3⟩:=h';have q:=NL.of h3;refine ⟨by simp [q.len],fun j z e=>?_,fun j z e f=>?_⟩
  ·cases j with
   | zero=>simp at e; subst e; exact h1
   | succ j=>exact q.loc j z (by simpa using e)
  ·cases j with
   | zero =>
    simp at e; subst e;rcases h2 with w | w
    ·exact absurd f w
    ·simp [w]
   | succ j=>simpa using q.free j z (by simpa using e) f
def bZ (X:Cx)(ls M:List Str)(scope:Scope)(C:Addr)(fp:List Addr)(s:Shared)(H:Hp):Cx where
 prog:=X.prog
 w:=X.w
 K:=X.K
 mg:=X.mg
 base:=X.base
 A:=X.A
 N:=ls++M
 s₀:=s
 H₀:=H
 env:=compEnvC scope (d9 X.env scope.names []) C X.env
 outer:=X.stack
 stack:=X.stack
 ex:=fp
 fn:=fun _=>false
 calm:=X.calm
 pn:=[]
 xe:=fun _ _=>False
def Em (Y:Cx)(ifs:List Expr)(c:TT):Prop :=
 ∀ (pins:List (Addr×Obj)) (s:Shared) (σ:St) (H:Hp) (Q:Bool →Hp →Prop),aL Y pins σ H s →c σ H Q →
  wpAny (model Y.prog Y.w) Y.A (forIn ifs true fun c r=>if r=true then do let ok ← isTrue c Y.env (eval c Y.env); pure (ForInStep.yield ok) else pure (ForInStep.yield r)) (TP Y pins σ Q) Y.xe s
def Cq:TT:=fun _ H Q=>Q true H
theorem eE {Y:Cx}:Em Y [] Cq:=fun _ _ _ H _ I h=>wpAny_tests_nil ⟨H,I,h⟩
theorem u0 {Y:Cx}{e:Expr}{c:TT}(h:PT Y e c):Em Y [e] c:=fun pins s σ H Q I hw=>wpAny_tests_one (h pins s σ H Q I hw)
def vR (k:Nat)(J:It)(g:TG)(c:TT)(te:TE)(σ:St)(H1:Hp)(D:Addr)(Q:VK):Prop :=
 ∃ W:Nat →Nat →St →Hp →Prop,(∃ m,W 0 m (V0 k none++σ) (aR H1 D (.lst [])))∧∀ i m τ H,W i m τ H →
  (J.stop i H∧Q (.ref D) H)∨(J.go i H∧∀ x H',J.yld i H x H' →g x τ H' fun τ2 H2=>c τ2 H2 fun b H3=>if b=true then te τ2 H3 fun y H4=>∃ ys m',m'<m∧H4 D=some (.lst ys)∧ys.length<sizeLine∧W (i+1) m' τ2 (aR H4 D (.lst (ys++[y]))) else ∃ m',m'<m∧W (i+1) m' τ2 H3)
def Bb (k:Nat)(wi:TI)(g:TG)(c:TT)(te:TE):TE:=fun σ H Q=>wi σ H fun J H1=>∀ D,H1 D=none →vR k J g c te σ H1 D Q
structure Af (X:Cx)(pins:List (Addr×Obj))(H:Hp)(C:Addr)(s:Shared):Prop where
 ns:∃ m,s.heap.Ns C m
 none:H C=none
 ne:C≠X.env.locals
 young:X.s₀.heap.objs.size ≤ C
 cells:∀ x c,X.env.cells.lookup x=some c →c≠C
 pins:∀ p∈X.pn++pins,p.1≠C
theorem aL.gone {X:Cx}{pins:List (Addr×Obj)}{σ:St}{H:Hp}{C:Addr}{s:Shared}{h':Heap}(I:aL X pins σ H s)(o:Af X pins H C s)(hs:Wc C s.heap h'):aL X pins σ H { s with heap:=h' } :=
 I.turned (t':=s.toks) (it:=C) (fun b ob hb e=>(hs.2 b hb).trans e) o.none o.ne (.inr o.young) o.cells o.pins
section
variable {X:Cx}{elt tg iter:Expr}{ifs:List Expr}{scope:Scope}{pos:Pos}{ls M:List Str}{g:TG}{c:TT}{te:TE}
theorem pM {J:It}{fp:List Addr}{tn:Nat →Heap →Prop}{it:Addr}{pins:List (Addr×Obj)}{σ:St}{H2:Hp}{s2:Shared}{Qe:VK}{RR:Value →Addr →Result →Shared →Prop}{E:Value →Shared →Prop}
  (hc:X.calm=true) (S:cL X.env.scope scope) (nl:NL X.N M scope)
  (hb:∀ C fp s H,PG (bZ X ls M scope C fp s H) tg g∧Em (bZ X ls M scope C fp s H) ifs c∧PE (bZ X ls M scope C fp s H) elt te)
  (I2:aL X pins σ H2 s2) (T:Turn X.prog X.w X.K tg J fp it tn) (st2:tn 0 s2.heap) (f2:∀ b∈fp,qR X pins H2 b)
  (hW:∀ D,H2 D=none →vR ls.length J g c te σ H2 D Qe)
  (hRR:∀ D C H' s',aL X pins σ H' s' →Af X pins H' C s' →Qe (.ref D) H' →RR (.ref D) C (.ok .next) s') :
  wpAny (model X.prog X.w) X.A (newList []) (fun acc s₃=>wpAny (model X.prog X.w) X.A (newFunctionEnv scope X.env.globals (d9 X.env scope.names []) [] X.env.qual none .none (some X.env)) (fun cenv s₄ =>
   codeAny (model X.prog X.w) X.A (.compStart (.ListComp elt [⟨tg,iter,ifs,0⟩] scope pos) 0 (.ref it) acc { cenv with scope:=relabel scope X.env }) (RR acc cenv.locals) s₄) E s₃) E s2:=by
 refine wpAny_newObj_type (wpAny_newFunctionEnv S.nocell (by intro y hy; simp at hy) (fun h₁ hns₁ hsb₁=>?_) S.kind);dsimp only at hns₁ hsb₁ ⊢;have I3:aL X pins σ (aR H2 s2.heap.objs.size (.lst [])) { s2 with heap:=s2.heap.push { cls:=.type "list",dict:=none,data:=.seq ([]:List Value).toArray },toks:=s2.toks } :=
  I2.laid (fun _ _ q=>VJ _ q) (VP _) ⟨Vt _,[],0,.nil,V5 _ rfl⟩
 have hfreshD:H2 s2.heap.objs.size=none:=I2.hok.fresh (VP _);generalize hHH:s2.heap.push { cls:=.type "list",dict:=none,data:=.seq ([]:List Value).toArray }=HH at hns₁ hsb₁ I3 ⊢;have up:∀ b o,s2.heap.get? b=some o →HH.get? b=some o:=fun b o e=>by rw [← hHH]; exact VJ _ e
 have old:∀ b o,HH.get? b=some o →h₁.get? b=some o:=fun b o e=>hsb₁.extBut b o (V6 (VM e)) (VJ _ e);generalize hH3:aR H2 s2.heap.objs.size (.lst [])=H3 at I3;have f3:∀ b∈fp,qR X pins H3 b:=fun b hb=>by
  obtain ⟨f0,fr⟩:=f2 b hb;refine ⟨?_,fr⟩;obtain ⟨o,e,_⟩:=T.obj 0 _ st2 b hb;rw [← hH3,aM (V6 (VM e))];exact f0
 have fplt:∀ b∈fp,b<HH.objs.size:=fun b hb=>by
  obtain ⟨o,e,_⟩:=T.obj 0 _ st2 b hb;exact VM (up b o e)
 have sub:∀ x a,(d9 X.env scope.names []).lookup x=some a →X.env.cells.lookup x=some a:=fun x a e=>by
  rcases pG _ _ _ (PySem.mem_of_lookup e) with z | z
  ·exact absurd z (by simp)
  ·exact z
 have kin:∀ x,scope.names.lookup x=some .free →X.env.kindOf x=some .cell∨X.env.kindOf x=some .free:=fun x e=>S.free (x,.free) (PySem.mem_of_lookup e) rfl;have has:∀ x a,scope.names.lookup x=some .free →X.env.cells.lookup x=some a →(d9 X.env scope.names []).lookup x=some a:=fun x a e ec=>by
  obtain ⟨d,hd⟩:=iI (oN ec scope.names [] (PySem.mem_of_lookup e));have:=sub x d hd;rw [ec] at this;cases this;exact hd
 have rel:∀ x k,(relabel scope X.env).names.lookup x=some k →(k=.cell∨k=.free) →scope.names.lookup x=some .free:=fun x k e hk=>by
  obtain ⟨k',e1,e2⟩:=c7 (show (scope.names.map fun (n,k)=>if (k==NameKind.free&&X.env.scope.kind==.function&&X.env.kindOf n==some .cell) then (n,NameKind.cell) else (n,k)).lookup x=some k from e);rcases e2 with e2 | ⟨e2,_⟩
  ·subst e2;rcases hk with hk | hk
   ·subst hk; exact absurd rfl (S.nocell _ (PySem.mem_of_lookup e1))
   ·subst hk; exact e1
  ·subst e2; exact e1
 have okY:(bZ X ls M scope HH.objs.size fp { s2 with heap:=HH,toks:=s2.toks } H3).Ok:=by
  refine ⟨I3.ok.mod,S.kind,I3.ok.glob,I3.ok.blt,VP _,fun x y a h1 h2=>I3.ok.inj x y a (sub x a h1) (sub y a h2),fun x hx=>?_,(fun x a h=>nomatch h),I3.ok.hd,I3.ok.frames,.inl rfl,fun b hb'=>⟨V6 (fplt b hb'),fun x a e=>(f3 b hb').2.2.2.2.1 x a (sub x a e)⟩,
   I3.bs,Va I3.ok.bsz I3.sz,fun b o e hb'=>?_,fun b hb' hs=>?_,I3.stack,I3.stkFree⟩
  ·have hf:scope.names.lookup x=some .free:=by
    rcases hx with hx | hx
    ·exact rel x _ hx (.inl rfl)
    ·exact rel x _ hx (.inr rfl)
   obtain ⟨a,ea⟩:=I3.ok.has x (kin x hf);exact ⟨a,has x a hf ea⟩
  ·rcases (f3 b hb').2.2.2.1 with z | z
   ·exact I3.ok.noex b o e z
   ·exact absurd (V2 (VM e) (Va I3.ok.bsz z)) (Vm _)
  ·rcases Vh.mp (I3.stkSub b hs) with z | z
   ·exact (f3 b hb').2.1 z
   ·exact (f3 b hb').2.2.1 z
 have IY:aL (bZ X ls M scope HH.objs.size fp { s2 with heap:=HH,toks:=s2.toks } H3) [] (V0 ls.length none++σ) H3 { s2 with heap:=h₁,toks:=s2.toks+([]:List (Str×Value)).length }:=by
  refine ⟨okY,rfl,I2.bare,Un.kept old,⟨_,hns₁,fun i x v e1 e2 e3=>?_⟩,fun x a e=>?_,I3.hok.fresh (VP _),fun x a e=>I3.freeC x a (sub x a e),fun p hp=>absurd (show p∈([]:List (Addr×Obj)) from hp) (by simp),I3.hok.kept old,?_⟩
  ·have hi:ls.length ≤ i:=by
    by_cases hi:ls.length ≤ i
    ·exact hi
    ·rw [Wh (by simp; omega),WF] at e2
     split at e2 <;> cases e2
   rw [WT (by simpa using hi),Vl] at e2;have e0:M[i-ls.length]? = some x:=by
    have z:(ls++M)[i]? = some x:=e1;rw [WT hi] at z;exact z
   have hnl:=nl.loc _ x e0;have hf:scope.names.lookup x=some .free:=by
    rcases e3 with e3 | e3 | e3
    ·obtain ⟨k',q1,q2⟩:=c7 (show (scope.names.map fun (n,k)=>if (k==NameKind.free&&X.env.scope.kind==.function&&X.env.kindOf n==some .cell) then (n,NameKind.cell) else (n,k)).lookup x=some .local from e3);rcases q2 with q2 | ⟨_,q2⟩
     ·subst q2; exact absurd q1 hnl
     ·cases q2
    ·exact rel x _ e3 (.inl rfl)
    ·exact rel x _ e3 (.inr rfl)
   have e1':=nl.free _ x e0 hf;have hk:=kin x hf;obtain ⟨m,hn,hl⟩:=I3.loc;obtain ⟨u,ru,lk⟩:=hl (i-ls.length) x v e1' e2 (hk.elim (fun z=>.inr (.inl z)) fun z=>.inr (.inr z));refine ⟨u,ru,?_⟩;rcases lk with ⟨z,_⟩ | ⟨_,a,ea,hcell⟩
   ·rcases hk with hk | hk <;> (rw [hk] at z; cases z)
   ·obtain ⟨o,eo,hd⟩:=hcell;refine .inr ⟨?_,a,has x a hf ea,⟨o,old a o eo,hd⟩⟩;rcases e3 with e3 | e3 | e3
    ·obtain ⟨k',q1,q2⟩:=c7 (show (scope.names.map fun (n,k)=>if (k==NameKind.free&&X.env.scope.kind==.function&&X.env.kindOf n==some .cell) then (n,NameKind.cell) else (n,k)).lookup x=some .local from e3);rcases q2 with q2 | ⟨_,q2⟩
     ·subst q2; exact absurd q1 hnl
     ·cases q2
    ·exact .inl e3
    ·exact .inr e3
  ·obtain ⟨v,o,eo,hd⟩:=I3.cell x a (sub x a e);exact ⟨v,o,old a o eo,hd⟩
  ·show (V0 ls.length none++σ).length=(ls++M).length;rw [Vg,Vg,Vl,I3.len,nl.len]
 have st1:tn 0 h₁:=T.keep 0 _ _ st2 fun b _ o e=>old b o (up b o e);obtain ⟨hPG,hPT,hPE⟩:=hb HH.objs.size fp { s2 with heap:=HH,toks:=s2.toks } H3;obtain ⟨W,⟨m0,w0⟩,turn⟩:=hW s2.heap.objs.size hfreshD;rw [hH3] at w0;have back:∀ {τ:St}{H':Hp}{s':Shared},aL (bZ X ls M scope HH.objs.size fp { s2 with heap:=HH,toks:=s2.toks } H3) [] τ H' s' →aL X pins σ H' s'∧Af X pins H' HH.objs.size s':=fun {τ H' s'} J=>by
  refine ⟨I3.call' (ch:=fp) J.os J.base J.hok J.bare fun b hb'=>?_,?_⟩
  ·obtain ⟨_,g1,g2,g3,g4,g5⟩:=f3 b hb';exact ⟨g3,g1,g4,g5⟩
  ·obtain ⟨m,hn,_⟩:=J.loc;refine ⟨⟨m,hn⟩,J.free,Ne.symm (V6 I3.lt),I3.sz,fun x a e=>?_,fun p hp=>V6 (VM (I3.pin p hp).1)⟩;obtain ⟨v,q⟩:=I3.cell x a e;exact V6 q.lt
 have stat:∀ {H':Hp},(∀ b∈fp,H' b=none) →∀ b∈fp,qR (bZ X ls M scope HH.objs.size fp { s2 with heap:=HH,toks:=s2.toks } H3) [] H' b:=fun {H'} hn b hb'=>by
  obtain ⟨_,g1,g2,g3,g4,g5⟩:=f3 b hb';refine ⟨hn b hb',V6 (fplt b hb'),fun hs=>?_,.inl hb',fun x a e=>g4 x a (sub x a e),fun p hp=>absurd (show p∈([]:List (Addr×Obj)) from hp) (by simp)⟩;rcases Vh.mp (I3.stkSub b hs) with z | z
  ·exact g1 z
  ·exact g2 z
 have loop:∀ s₃:Shared,s₃ = { s2 with heap:=h₁,toks:=s2.toks+([]:List (Str×Value)).length } →
   codeAny (model X.prog X.w) X.A (.compLoop (.ListComp elt [⟨tg,iter,ifs,0⟩] scope pos) 0 (.ref it) (.ref s2.heap.objs.size) (compEnvC scope (d9 X.env scope.names []) HH.objs.size X.env)) (RR (.ref s2.heap.objs.size) HH.objs.size) s₃:=by
  rintro s₃ rfl;refine qI (fun n s'=>∃ i τ H',aL (bZ X ls M scope HH.objs.size fp { s2 with heap:=HH,toks:=s2.toks } H3) [] τ H' s'∧tn i s'.heap∧(∀ b∈fp,H' b=none)∧W i n τ H') ?_ m0 ⟨0,_,H3,IY,st1,fun b hb'=>(f3 b hb').1,w0⟩;rintro n s3 ⟨i,τ,H',I4,st4,fr4,w4⟩ E';rcases turn i n τ H' w4 with ⟨stop,qn⟩ | ⟨go,step⟩
  ·refine bW (T.done (bZ X ls M scope HH.objs.size fp { s2 with heap:=HH,toks:=s2.toks } H3) rfl rfl rfl hc i [] s3 τ H' E' I4 (stat fr4) st4 stop) fun r s4 ⟨hr,I5⟩=>?_;subst hr;obtain ⟨b1,b2⟩:=back I5;exact hRR _ _ H' s4 b1 b2 qn
  ·refine bW (T.item (bZ X ls M scope HH.objs.size fp { s2 with heap:=HH,toks:=s2.toks } H3) rfl rfl rfl hc i [] s3 τ H' E' I4 (stat fr4) st4 go) fun r s4 ⟨u,hr,h4⟩=>?_;subst hr;refine bW h4 fun _ s5 ⟨x,H5,I5,r5,y5,st5,fr5⟩=>?_;have I5':=I5.pinned (stat fr5) (T.obj _ _ st5);refine wpAny_mono (hPG _ s5 τ H5 x u _ I5' r5 (step x H5 y5)) (fun _ s6 ⟨σ6,H6,I6,q6⟩=>?_) fun _ _ z=>z.elim;refine wpAny_mono (hPT _ s6 σ6 H6 _ I6 q6) (fun ok s7 ⟨H7,I7,q7⟩=>?_) fun _ _ z=>z.elim;have again:∀ {σ8:St}{H8:Hp}{s8:Shared}{m':Nat},aL (bZ X ls M scope HH.objs.size fp { s2 with heap:=HH,toks:=s2.toks } H3) ([]++lY fp s5.heap) σ8 H8 s8 →m'<n →W (i+1) m' σ8 H8 →
     ∃ m,m<n∧∃ i τ H',aL (bZ X ls M scope HH.objs.size fp { s2 with heap:=HH,toks:=s2.toks } H3) [] τ H' s8∧tn i s8.heap∧(∀ b∈fp,H' b=none)∧W i m τ H':=fun {σ8 H8 s8 m'} I8 hm w8=>by
    refine ⟨m',hm,i+1,σ8,H8,I8.unpinned,T.keep _ _ _ st5 fun b hb' o e=>(I8.pin (b,o) (Vf _ (Vf _ (fG hb' e)))).1,fun b hb'=>?_,w8⟩;obtain ⟨o,e,d⟩:=T.obj _ _ st5 b hb';exact (I8.pin (b,o) (Vf _ (Vf _ (fG hb' e)))).2.1
   cases ok with
   | false =>
    rw [if_neg VN] at q7 ⊢;obtain ⟨m',hm,w7⟩:=q7;exact again I7 hm w7
   | true =>
    rw [if_pos rfl] at q7 ⊢;refine wpAny_mono (hPE _ s7 σ6 H7 _ I7 q7) (fun yv s8 ⟨y,H8,I8,r8,ys,m',hm,hD,hz,w8⟩=>?_) fun _ _ z=>z.elim;refine wpAny_mono (oY (X:=(bZ X ls M scope HH.objs.size fp { s2 with heap:=HH,toks:=s2.toks } H3)) _ s8 σ6 H8 (.ref s2.heap.objs.size) [y] (.ref s2.heap.objs.size) [yv] (fun _ H9=>W (i+1) m' σ6 H9) I8 rfl (.cons r8 .nil) ⟨_,ys,y,rfl,rfl,hD,hz,w8⟩) (fun _ s9 ⟨_,H9,I9,_,w9⟩=>?_) fun _ _ z=>z.elim;exact again I9 hm w9
 exact codeAny_compStart_list (loop _ rfl) (T.self _ 0 _ _ _ st1 (loop _ rfl))
theorem xN (S:cL X.env.scope scope)(ok:X.Ok):closureFor scope X.env=pure (d9 X.env scope.names []) :=
 j8 fun y hy e=>ok.has y.1 (S.free y hy e)
theorem iB {wi:TI}(hc:X.calm=true)(S:cL X.env.scope scope)(nl:NL X.N M scope)(hi:PI X tg iter wi)
  (hb:∀ C fp s H,PG (bZ X ls M scope C fp s H) tg g∧Em (bZ X ls M scope C fp s H) ifs c∧PE (bZ X ls M scope C fp s H) elt te)
  (hs:∀ x,foldedSetIterable iter X.env x=pure x:=by intro _; rfl):PE X (.ListComp elt [⟨tg,iter,ifs,0⟩] scope pos) (Bb ls.length wi g c te):=by
 intro pins s σ H Q I h;rw [eval_ListComp];refine wpAny_comprehension_free (use:=none) rfl hs (xN S I.ok) S.kind S.loc (bW (hi pins s σ H _ I h) fun xv s1 h1=>bW h1 fun itv s2 h2=>?_);obtain ⟨it,fp,tn,J,H2,e,I2,T,st2,f2,hW⟩:=h2;subst e;refine pM (RR:=fun acc C=>compPost (model X.prog X.w) X.A X.xe none (EP X pins σ Q) acc C) (Qe:=Q) hc S nl hb I2 T st2 f2 hW fun D C H' s' I' o q=>?_;exact ⟨o.ns.choose,o.ns.choose_spec,fun h' hs'=>⟨.ref D,H',I'.gone o hs',rfl,q⟩⟩
theorem lQ {wi:TI}{i:Nat}{y:Str}{py spos:Pos}(hc:X.calm=true)(S:cL X.env.scope scope)(nl:NL X.N M scope)(hN:X.N.Nodup)(hiy:X.N[i]? = some y)(hy:Loc X.env.scope y)
  (hi:PI X tg iter wi) (hb:∀ C fp s H,PG (bZ X ls M scope C fp s H) tg g∧Em (bZ X ls M scope C fp s H) ifs c∧PE (bZ X ls M scope C fp s H) elt te)
  (hsw:swapsWith (.ListComp elt [⟨tg,iter,ifs,0⟩] scope pos) (some (.Name y py)) spos.line X.env=pure true:=by rfl)
  (hs:∀ x,foldedSetIterable iter X.env x=pure x:=by intro _; rfl) (hf:X.fn y=true∨X.env.scope.names.lookup y=some .local:=by first | exact .inl rfl | exact .inr rfl) :
  PS X (.Assign [.Name y py] (.ListComp elt [⟨tg,iter,ifs,0⟩] scope pos) spos) (BW (Bb ls.length wi g c te) (qY i)):=by
 intro pins s σ H D I h;rw [exec_Assign_Name_used _ _ _ _ hsw];refine wpAny_bind (wpAny_standAt (wpAny_bind ?_));show wpAny _ X.A (do let _ ← comprehension (.ListComp elt [⟨tg,iter,ifs,0⟩] scope pos) scope X.env _ (newList []) false (eval iter X.env) (some (assign (.Name y py) X.env))) _ _ s;refine wpAny_bind (wpAny_mono (wpAny_comprehension_free (use:=some (assign (.Name y py) X.env)) (Q:=fun _ s'=>SP X pins D .next s') rfl hs (xN S I.ok) S.kind S.loc (bW (hi pins s σ H _ I h) fun xv s1 h1=>bW h1 fun itv s2 h2=>?_)) (fun _ s' hq=>wpAny_pure (wpAny_pure hq)) fun _ _ e=>e);obtain ⟨it,fp,tn,J,H2,e,I2,T,st2,f2,hW⟩:=h2;subst e;refine pM (RR:=fun acc C=>compPost (model X.prog X.w) X.A X.xe (some (assign (.Name y py) X.env)) (fun _ s'=>SP X pins D .next s') acc C) hc S nl hb I2 T st2 f2 hW fun Dl C H' s' I' o q=>?_;show wpAny _ X.A (assign (.Name y py) X.env (.ref Dl)) _ _ _;refine wpAny_assign_Name (iC I' hN hiy hy (v:=.ref Dl) rfl (fun s'' I'' ⟨a,hsa,ha⟩=>?_) hf);have hCa:C≠a:=by
  rcases ha with z | z
  ·rw [z]; exact o.ne
  ·exact Ne.symm (o.cells y a z)
 obtain ⟨m,hm⟩:=o.ns;have o2:Af X pins H' C s'':=⟨⟨m,hm.sameBut hsa hCa⟩,o.none,o.ne,o.young,o.cells,o.pins⟩
 exact ⟨m,hm.sameBut hsa hCa,fun h' hs'=>⟨_,H',I''.gone o2 hs',q⟩⟩
end
def CW (n:Nat)(Pv:Nat →St →Hp →Prop)(i m:Nat)(τ:St)(H:Hp):Prop:=m=n-i∧i ≤ n∧Pv i τ H
theorem cA {n i m:Nat}{Pv:Nat →St →Hp →Prop}{τ:St}{H4:Hp}{D:Addr}{ys:List V}{y:V}(hm:m=n-i)(hi:i<n)(e1:H4 D=some (.lst ys))(e2:ys.length<sizeLine)(p:Pv (i+1) τ (aR H4 D (.lst (ys++[y])))) :
  ∃ ys m',m'<m∧H4 D=some (.lst ys)∧ys.length<sizeLine∧CW n Pv (i+1) m' τ (aR H4 D (.lst (ys++[y]))):=⟨ys,n-(i+1),by omega,e1,e2,rfl,hi,p⟩
theorem oO {n i m:Nat}{Pv:Nat →St →Hp →Prop}{τ:St}{H3:Hp}(hm:m=n-i)(hi:i<n)(p:Pv (i+1) τ H3):∃ m',m'<m∧CW n Pv (i+1) m' τ H3:=⟨n-(i+1),by omega,rfl,hi,p⟩
theorem dR {k:Nat}{lo:Int}{n:Nat}{g:TG}{c:TT}{te:TE}{σ:St}{H1:Hp}{D:Addr}{Q:VK}(Pv:Nat →St →Hp →Prop)(h0:Pv 0 (V0 k none++σ) (aR H1 D (.lst [])))
  (hs:∀ i m τ H,m=n-i →i<n →Pv i τ H →g (.int (lo+i)) τ H fun τ2 H2=>c τ2 H2 fun b H3=>if b=true then te τ2 H3 fun y H4=>∃ ys m',m'<m∧H4 D=some (.lst ys)∧ys.length<sizeLine∧CW n Pv (i+1) m' τ2 (aR H4 D (.lst (ys++[y]))) else ∃ m',m'<m∧CW n Pv (i+1) m' τ2 H3)
  (hd:∀ τ H,Pv n τ H →Q (.ref D) H):vR k (Dm lo n) g c te σ H1 D Q:=by
 refine ⟨CW n Pv,⟨n,rfl,Vt _,h0⟩,?_⟩;rintro i m τ H ⟨hm,hi,p⟩
 by_cases hlt:i<n
 ·refine .inr ⟨hlt,fun x H' y=>?_⟩;obtain ⟨e,y⟩:=y;subst e y;exact hs i m τ _ hm hlt p
 ·have e:i=n:=by omega
  subst e;exact .inl ⟨VP _,hd τ H p⟩
theorem eX {K:PySem.W.Frag}{a:Addr}{xs:List V}{k:Nat}{g:TG}{c:TT}{te:TE}{σ:St}{H1:Hp}{D:Addr}{Q:VK}(Pv:Nat →St →Hp →Prop)(h0:Pv 0 (V0 k none++σ) (aR H1 D (.lst [])))
  (hl:∀ i τ H,i ≤ xs.length →Pv i τ H →bM K H a xs)
  (hs:∀ i m x τ H,m=xs.length-i →i<xs.length →xs[i]? = some x →Pv i τ H →g x τ H fun τ2 H2=>c τ2 H2 fun b H3=>if b=true then te τ2 H3 fun y H4=>∃ ys m',m'<m∧H4 D=some (.lst ys)∧ys.length<sizeLine∧CW xs.length Pv (i+1) m' τ2 (aR H4 D (.lst (ys++[y]))) else ∃ m',m'<m∧CW xs.length Pv (i+1) m' τ2 H3)
  (hd:∀ τ H,Pv xs.length τ H →Q (.ref D) H):vR k (Ea K a) g c te σ H1 D Q:=by
 refine ⟨CW xs.length Pv,⟨xs.length,rfl,Vt _,h0⟩,?_⟩;rintro i m τ H ⟨hm,hi,p⟩;have q:=hl i τ H hi p
 by_cases hlt:i<xs.length
 ·refine .inr ⟨⟨xs,xs[i],q,by simp [hlt]⟩,fun x H' y=>?_⟩;obtain ⟨e,y⟩:=y;subst e;exact hs i m x τ _ hm hlt (y xs q) p
 ·have e:i=xs.length:=by omega
  subst e;exact .inl ⟨⟨xs,q,VP _⟩,hd τ H p⟩
theorem z8 {τ:St}{H:Hp}{A B:Hp →Prop}(h:A H):Cq τ H (fun b H3=>if b=true then A H3 else B H3):=by
 show (if true=true then A H else B H);rw [if_pos rfl];exact h
theorem tE {c:Bool}{A B:Prop}(h:c=true)(a:A):if c=true then A else B:=by
 rw [if_pos h];exact a
theorem iH {c:Bool}{A B:Prop}(h:c=false)(b:B):if c=true then A else B:=by
 rw [if_neg (by rw [h]; exact VN)];exact b
theorem DR:bootBuiltins "int" = some (.type "int"):=by decide +kernel
theorem Ak:bootBuiltins "bool" = some (.type "bool"):=by decide +kernel
theorem vU:bootBuiltins "list" = some (.type "list"):=by decide +kernel
theorem jN:bootBuiltins "tuple" = some (.type "tuple"):=by decide +kernel
theorem eG:bootBuiltins "len" = some (.builtin "len"):=by decide +kernel
theorem aP:bootBuiltins "isinstance" = some (.builtin "isinstance"):=by decide +kernel
theorem w6:bootBuiltins "max" = some (.builtin "max"):=by decide +kernel
theorem Ck:bootBuiltins "min" = some (.builtin "min"):=by decide +kernel
theorem wJ:bootBuiltins "sorted" = some (.builtin "sorted"):=by decide +kernel
theorem tX:bootBuiltins "all" = some (.builtin "all"):=by decide +kernel
theorem Dd:bootBuiltins "any" = some (.builtin "any"):=by decide +kernel
def tL:List Str →Bool
 | []=>true
 | x::r=>(r.all fun y=>x != y)&&tL r
theorem gG:∀ {l:List Str},tL l=true →l.Nodup
 | [],_=>.nil
 | x::r,h=>by
  have h':((r.all fun y=>x != y)&&tL r)=true:=h;rw [Vc,Vr] at h';refine Vx.mpr ⟨fun z=>?_,gG h'.2⟩;have:=h'.1 x z;simp at this
structure gA (P:Program)(w:World)(K:PySem.W.Frag)(mg:Str →Option Value)(base:Heap)(n:Nat)(x:Str)(ps:List Str)(sp:Sp)(g:Addr)(gd:FuncData):Prop where
 ok:bB P w K mg base dX n g gd ps sp
 bi:Binds K gd ps []
 kp:PySem.W.keepIn K (.ref g)=true
 at_:mg x=some (.ref g)
theorem gA.up {P:Program}{w:World}{K:PySem.W.Frag}{mg:Str →Option Value}{base:Heap}{n m:Nat}{x:Str}{ps:List Str}{sp:Sp}{g:Addr}{gd:FuncData}(c:gA P w K mg base n x ps sp g gd)(h:n ≤ m):gA P w K mg base m x ps sp g gd:=⟨c.ok.mono h,c.bi,c.kp,c.at_⟩
theorem aX {X:Cx}{n:Nat}{x:Str}{ps:List Str}{sp:Sp}{g:Addr}{gd:FuncData}{p pos:Pos}{e:Expr}{es:List Expr}{t:TA}(c:gA X.prog X.w X.K X.mg X.base n x ps sp g gd)(hr:cF n X.A)(ha:PA X (e::es) t)(hg:Gl X x:=by rfl)
  (hd:(x==("__debug__" : Str))=false:=by decide) (he:starEach (e::es) X.env=(false,eval e X.env)::starEach es X.env:=by rfl) (hpl:(backTo pos (starEach es X.env)).any (·.1)=false:=by rfl) :
  PE X (.Call (.Name x p) (e::es) [] pos) (rR sp [] E0 t):=vH c.ok hr hg c.at_ c.kp c.bi .nil oX ha hd he hpl
theorem aD {H:Hp}{p:Addr}(h:H p=none)(o:HO):aY H (aR H p o):=fun b u q=>by rw [aM (bO q h)]; exact q
theorem aY.upd_new {H H':Hp}{p:Addr}(s:aY H H')(h:H p=none)(o:HO):aY H (aR H' p o):=fun b u q=>by rw [aM (bO q h)]; exact s b u q
theorem xV {L:List Int}{i:Int}(h0:0 ≤ i)(h1:i<(L.length:Int)):tD (L.map V.int) i=some (.int (L.getD i.toNat 0)):=by
 have hi:i.toNat<L.length:=by omega
 have e:i=((i.toNat:Nat):Int):=by omega
 have q:tD (L.map V.int) ((i.toNat:Nat):Int)=some (.int (L.getD i.toNat 0)):=gW (by rw [Vd,V1 hi,getD_at hi] <;> rfl);rw [← e] at q;exact q
end L2
namespace L2
open PySem PySem.W
def ev {α:Type}:List α →List α
 | []=>[]
 | [a]=>[a]
 | a::_::r=>a::ev r
def od {α:Type}:List α →List α
 | []=>[]
 | [_]=>[]
 | _::b::r=>b::od r
def bt:Nat →List Obj →BT
 | 0,_=>.nil
 | _+1,[]=>.nil
 | n+1,o::r=>.node o (bt n (ev r)) (bt n (od r))
def sets (l:List Obj):List (Nat×Obj) →List Obj
 | []=>l
 | p::r=>sets (l.set p.1 p.2) r
noncomputable def qT (T:BT)(n k:Nat)(os:OsState):SharedT:=⟨T,n,{},Wl [],boot_drawn,k,os⟩
theorem lR {tb:String →Option Builtin}{p:Program}{w:World}{m0:Nat}{ann:Option Value}{env:Env}{q:Pos}{n N:Nat}{s s':SharedT}{r:Shared}{l rest:List Stmt}{c:Code}{pos p':Pos}
  (h:segRunT tb p w m0 ann 1 n s (piecesOf l env c pos [topFrame q])=some (.next,s',c,p')) (k:topRun tb p w m0 ann N s'.abs (restOf rest env c p' [topFrame q])=some r):topRun tb p w m0 ann (n+N) s.abs (restOf (l++rest) env c pos [topFrame q])=some r :=
 piece_app (segRun_of h) k
theorem zA {p q:Program}{loose:List Str}{Xt:Shared →Bool}{α:Type}{Yf:Shared →α}{Ya:World →α}{N:Nat}{Tb Tf:Params →BT}{nb nf ka kf:Nat}{env:Env}{C:Code}{gs:List Stmt}{posA posB qp:Pos}{m0:Nat}{ann:Option Value}{a b c:Nat}
  (e1:opening p=plainProg p.main.scope.names) (h6:Nat.ble 600 N=true) (e2:∀ s,fenceModules? p s=some s)
  (size:∀ w:World,((boot_heap w.params).isNs mainGlobals&&(Wl []:Array GenState).size==0,(boot_heap w.params).objs.size,(boot_heap w.params).nsMap mainGlobals "__annotations__")=(true,m0,ann))
  (pre:∀ (w:World) (os:OsState),topGo treeTable p w m0 ann a ⟨boot_heap w.params,Wl [],boot_drawn,boot_toks,os⟩ (topStub p)=some ((qT (Tb w.params) nb ka os).abs,⟨denote treeTable (.body gs env),C,posA,[topFrame qp]⟩))
  (blk:∀ (w:World) (os:OsState),segRun treeTable p w m0 ann 1 b (qT (Tb w.params) nb ka os).abs (blockOf gs env C posA [topFrame qp])=some (.next,(qT (Tb w.params) nb ka os).abs,C,posB))
  (run:∀ (w:World) (os:OsState),topRun treeTable p w m0 ann c (qT (Tb w.params) nb ka os).abs (restOf gs env C posB [topFrame qp])=some (qT (Tf w.params) nf kf os).abs)
  (le:Nat.ble (a+(b+c)) N=true)
  (looks:∀ w:World,(fun os=>((staticsOk (importedModules p.main.body) (boot_heap w.params) (absHeap (Tf w.params) nf {})&&namesBound p (absHeap (Tf w.params) nf {})&&gensDone ⟨absHeap (Tf w.params) nf {},Wl [],boot_drawn,kf,os⟩&&laidKept (boot_heap w.params) (absHeap (Tf w.params) nf {})),
    openSeen q loose (importedModules p.main.body) Xt true ⟨absHeap (Tf w.params) nf {},Wl [],boot_drawn,kf,os⟩,Yf ⟨absHeap (Tf w.params) nf {},Wl [],boot_drawn,kf,os⟩))=fun _=>(true,openGood q loose,Ya w)):LeftO p q loose Xt Yf Ya N :=
 LeftO.of_pieces (H₁:=fun P=>absHeap (Tf P) nf {}) (boot_open e1 h6 e2) size (fun w os=>go_top (pre w os) (piece_block (blk w os) (run w os))) le looks
end L2
namespace L2
open PySem PySem.Spec PyProof.Rows
inductive DE (K:PySem.W.Frag)(H:Hp):Nat →V →V →Bool →Prop
 | int (n:Nat) (i j:Int):DE K H n (.int i) (.int j) (i==j)
 | bl (n:Nat) (i j:Bool):DE K H n (.bl i) (.bl j) (i==j)
 | str (n:Nat) (i j:Str):DE K H n (.str i) (.str j) (i==j)
 | tup {n:Nat}{a b:Addr}{xs ys:List V} (e:Nat →Bool) (ha:jF K H a xs) (hb:jF K H b ys) (h:∀ (j:Nat) x y,xs[j]? = some x →ys[j]? = some y →DE K H n x y (e j)) :
   DE K H (n+1) (.ref a) (.ref b) ((WQ (min xs.length ys.length)).all e&&xs.length==ys.length)
 | lst {n:Nat}{a b:Addr}{xs ys:List V} (e:Nat →Bool) (ha:bM K H a xs) (hb:bM K H b ys) (hl:xs.length=ys.length) (h:∀ (j:Nat) x y,xs[j]? = some x →ys[j]? = some y →DE K H n x y (e j)) :
   DE K H (n+1) (.ref a) (.ref b) ((WQ xs.length).all e)
 | lstN {n:Nat}{a b:Addr}{xs ys:List V} (ha:bM K H a xs) (hb:bM K H b ys) (hl:xs.length≠ys.length):DE K H (n+1) (.ref a) (.ref b) false
section
variable {X:Cx}{pins:List (Addr×Obj)}{σ:St}{H:Hp}{s:Shared}
theorem DE.self (I:aL X pins σ H s){n:Nat}{x y:V}{k:Bool}(d:DE X.K H n x y k):x=y →k=true:=by
 induction d with
 | int n i j=>intro e; cases e; simp
 | bl n i j=>intro e; cases e; simp
 | str n i j=>intro e; cases e; simp
 | @tup n a b xs ys e ha hb h ih =>
  intro z;cases z;have q:=I.tuple_inj ha hb;subst q;rw [Vc];refine ⟨Vr.mpr fun j hj=>?_,by simp⟩;rw [WR,Nat.min_self] at hj;exact ih j _ _ (V1 hj) (V1 hj) rfl
 | @lst n a b xs ys e ha hb hl h ih =>
  intro z;cases z;have q:=I.list_inj ha hb;subst q;refine Vr.mpr fun j hj=>?_;rw [WR] at hj;exact ih j _ _ (V1 hj) (V1 hj) rfl
 | @lstN n a b xs ys ha hb hl =>
  intro z;cases z;exact absurd (congrArg X5 (I.list_inj ha hb)) hl
theorem d8 {xs:List V}{its:List Value}(r:bC xs its){j:Nat}(hj:j<its.length):∃ x,xs[j]? = some x∧RelV x its[j]:=by
 have hl:=r.length;obtain ⟨u,hu,ru⟩:=r.get (V1 (l:=xs) (i:=j) (by omega));rw [V1 hj] at hu;cases hu;exact ⟨_,V1 (by omega),ru⟩
theorem in1_units (A:Around):A.in1.units=A.units+1:=rfl
theorem DE.eqAt (I:aL X pins σ H s){n:Nat}{x y:V}{k:Bool}(d:DE X.K H n x y k):∀ (A:Around) (u v:Value),A.units+n<cLine →RelV x u →RelV y v →PySem.SeqAt.EqAt A s u v k:=by
 induction d with
 | int n i j =>
  intro A u v _ ru rv;obtain ⟨t,rfl⟩:=ru;obtain ⟨t',rfl⟩:=rv;exact PySem.SeqAt.EqAt.int_int _ _ _ _
 | bl n i j =>
  intro A u v _ ru rv;cases (show u=Value.bool i from ru);cases (show v=Value.bool j from rv);exact PySem.SeqAt.EqAt.bool_bool _ _
 | str n i j =>
  intro A u v _ ru rv;obtain ⟨t,rfl⟩:=ru;obtain ⟨t',rfl⟩:=rv;exact PySem.SeqAt.EqAt.str_str _ _ _ _
 | @tup n a b xs ys e ha hb h ih =>
  intro A u v hu ru rv;cases (show u=Value.ref a from ru);cases (show v=Value.ref b from rv)
  by_cases hab:a=b
  ·have q:=(DE.tup e ha hb h).self I (by rw [hab]);rw [q];subst hab;exact PySem.SeqAt.EqAt.same _
  ·obtain ⟨its,r1,p1,_⟩:=I.tuple ha;obtain ⟨its2,r2,p2,_⟩:=I.tuple hb;refine PySem.SeqAt.EqAt.of_refs hab ?_;have q:=PySem.SeqAt.RcAt.tuples (A:=A) (e:=e) (show s.heap.IsTuple a its.toArray from p1) (show s.heap.IsTuple b its2.toArray from p2) (by omega) (fun j h1 h2=>by
    obtain ⟨x,ex,rx⟩:=d8 r1 (j:=j) (by simpa using h1);obtain ⟨y,ey,ry⟩:=d8 r2 (j:=j) (by simpa using h2);rw [Vi,Vi];exact ih j x y ex ey A.in1 _ _ (by rw [in1_units]; omega) rx ry)
   rw [VL,VL,← r1.length,← r2.length] at q;exact q
 | @lst n a b xs ys e ha hb hl h ih =>
  intro A u v hu ru rv;cases (show u=Value.ref a from ru);cases (show v=Value.ref b from rv)
  by_cases hab:a=b
  ·have q:=(DE.lst e ha hb hl h).self I (by rw [hab]);rw [q];subst hab;exact PySem.SeqAt.EqAt.same _
  ·obtain ⟨its,r1,p1,_⟩:=I.list ha;obtain ⟨its2,r2,p2,_⟩:=I.list hb;refine PySem.SeqAt.EqAt.of_refs hab ?_;have q:=PySem.SeqAt.RcAt.lists (A:=A) (e:=e) p1.isList p2.isList (by rw [VL,VL,← r1.length,← r2.length]; exact hl) (by omega) (fun j h1 h2=>by
    obtain ⟨x,ex,rx⟩:=d8 r1 (j:=j) (by simpa using h1);obtain ⟨y,ey,ry⟩:=d8 r2 (j:=j) (by simpa using h2);rw [Vi,Vi];exact ih j x y ex ey A.in1 _ _ (by rw [in1_units]; omega) rx ry)
   rw [VL,← r1.length] at q;exact q
 | @lstN n a b xs ys ha hb hl =>
  intro A u v hu ru rv;cases (show u=Value.ref a from ru);cases (show v=Value.ref b from rv);have hab:a≠b:=fun z=>by subst z; exact hl (congrArg X5 (I.list_inj ha hb))
  obtain ⟨its,r1,p1,_⟩:=I.list ha;obtain ⟨its2,r2,p2,_⟩:=I.list hb;refine PySem.SeqAt.EqAt.of_refs hab (PySem.SeqAt.RcAt.lists_lengths p1.isList p2.isList ?_ (by omega));rw [VL,VL,← r1.length,← r2.length]
  simpa using hl
def Mj (K:PySem.W.Frag)(n:Nat):R2:=fun x y H Q=>∃ a b k,x=.ref a∧y=.ref b∧DE K H (n+1) x y k∧Q (.bl (!k)) H
theorem yI {n:Nat}(hu:X.A.units+n+1<cLine):gB X (compareOp .NotEq) (Mj X.K n):=by
 intro pins s σ H x y v u Q I rx ry h;obtain ⟨a,b,k,rfl,rfl,d,q⟩:=h;cases (show v=Value.ref a from rx);cases (show u=Value.ref b from ry);cases d with
 | @tup n a b xs ys e ha hb h =>
  obtain ⟨its,r1,p1,_⟩:=I.tuple ha;obtain ⟨its2,r2,p2,_⟩:=I.tuple hb;refine PySem.SeqAt.RcNeAt.tuples (e:=e) (show s.heap.IsTuple a its.toArray from p1) (show s.heap.IsTuple b its2.toArray from p2) (by omega) (fun j h1 h2=>by
    obtain ⟨x,ex,rx⟩:=d8 r1 (j:=j) (by simpa using h1);obtain ⟨y,ey,ry⟩:=d8 r2 (j:=j) (by simpa using h2);rw [Vi,Vi];exact (h j x y ex ey).eqAt I X.A.in1 _ _ (by rw [in1_units]; omega) rx ry) X.prog X.w _ _ ?_
  rw [VL,VL,← r1.length,← r2.length];exact ⟨.bl _,H,I,rfl,q⟩
 | @lst n a b xs ys e ha hb hl h =>
  obtain ⟨its,r1,p1,_⟩:=I.list ha;obtain ⟨its2,r2,p2,_⟩:=I.list hb;refine PySem.SeqAt.RcNeAt.lists (e:=e) p1.isList p2.isList (by rw [VL,VL,← r1.length,← r2.length]; exact hl) (by omega) (fun j h1 h2=>by
    obtain ⟨x,ex,rx⟩:=d8 r1 (j:=j) (by simpa using h1);obtain ⟨y,ey,ry⟩:=d8 r2 (j:=j) (by simpa using h2);rw [Vi,Vi];exact (h j x y ex ey).eqAt I X.A.in1 _ _ (by rw [in1_units]; omega) rx ry) X.prog X.w _ _ ?_
  rw [VL,← r1.length];exact ⟨.bl _,H,I,rfl,q⟩
 | @lstN n a b xs ys ha hb hl =>
  obtain ⟨its,r1,p1,_⟩:=I.list ha;obtain ⟨its2,r2,p2,_⟩:=I.list hb;exact PySem.SeqAt.RcNeAt.lists_lengths p1.isList p2.isList (by rw [VL,VL,← r1.length,← r2.length]; simpa using hl) (by omega) X.prog X.w _ _ ⟨.bl _,H,I,rfl,q⟩
end
theorem vN {X:Cx}{K:PySem.W.Frag}(h:X.K=K):Eg X (FJ K):=by subst h; exact uP
theorem q9 {X:Cx}{K:PySem.W.Frag}(h:X.K=K):Eg X (Gw K):=by subst h; exact bY
end L2
namespace Fr
structure N5 (t b:Int):Prop where
 pos:0<b
 red:Int.gcd t b=1
end Fr
namespace Tb
structure Rw where
 t:Int
 b:Int
 w:Int
def T (B:Int)(r:Rw):Int:=r.t*(B/r.b)
def mx (x:Int):Int:=if 0<x then x else 0
def S (B l0 l1:Int)(rs:List Rw):Int:=(rs.map fun r=>r.w*mx (T B r*l1-l0*B)).sum
def W (rs:List Rw):Int:=(rs.map (·.w)).sum
def Lt (x y:Rw):Prop:=x.t*y.b<y.t*x.b
end Tb
set_option maxHeartbeats 4000000
namespace TD
open PySem L2
open Builtin.Int (intBits)
structure Row where
 p:Addr
 q:Addr
 t:Int
 b:Int
 w:Int
theorem take_snoc {α:Type}{xs:List α}{i:Nat}{x:α}(h:xs[i]? = some x):xs.take (i+1)=xs.take i++[x]:=by
 rw [List.take_add_one,h]
 rfl
theorem Cv:1 ≤ sizeLine:=WK (bI (by decide))
theorem tG:2 ≤ sizeLine:=WK (bI (by decide))
theorem wZ:3 ≤ sizeLine:=WK (bI (by decide))
theorem oK {m n:Nat}{x y:Int}(hx:intBits x ≤ m)(hy:intBits y ≤ n)(h:m+n ≤ 134217728):Bo x y:=Va (Nat.add_le_add hx hy) h
theorem jM {K:PySem.W.Frag}(T:String):PySem.W.kitOne K (.type T) (.type T)=some true:=by
 unfold PySem.W.kitOne;rw [if_pos (beq_self_eq_true _)]
theorem pN {K:PySem.W.Frag}:PySem.W.kitOne K (.type "int") (.type "bool")=some false:=by rfl
end TD
namespace Sd
inductive Sd where
 | en (v:Int)
 | st (p:Int) (rs:List (Int×Sd))
inductive Ok:Sd →Nat →Nat →Prop
 | en {v:Int}{d m:Nat} (h0:0 ≤ v) (h9:v ≤ 1000000000) (hm:1 ≤ m):Ok (.en v) d m
 | st {p:Int}{rs:List (Int×Sd)}{d m:Nat}{f:Int×Sd →Nat} (h0:0 ≤ p) (h9:p ≤ 1000000000) (ne:rs≠[]) (l4:rs.length ≤ 4) (w:∀ r∈rs,1 ≤ r.1∧r.1 ≤ 1000) (sub:∀ r∈rs,Ok r.2 d (f r)) (hk:(rs.map f).sum ≤ m):Ok (.st p rs) (d+1) m
end Sd
namespace L2
open PySem PySem.Spec PyProof.Rows
theorem range_all (bs:List Bool):(WQ bs.length).all (fun i=>bs.getD i false)=bs.all id:=by
 rw [Vv];simp only [Vr,WR];constructor
 ·intro h b hb;obtain ⟨i,hi,e⟩:=Wt.mp hb;have q:=h i hi;rw [getD_at hi,e] at q;exact q
 ·intro h i hi;rw [getD_at hi];exact h _ (Wm hi)
theorem range_any (bs:List Bool):(WQ bs.length).any (fun i=>bs.getD i false)=bs.any id:=by
 rw [Vv];simp only [X3,WR];constructor
 ·rintro ⟨i,hi,h⟩;rw [getD_at hi] at h;exact ⟨_,Wm hi,h⟩
 ·rintro ⟨b,hb,h⟩;obtain ⟨i,hi,e⟩:=Wt.mp hb;refine ⟨i,hi,?_⟩;rw [getD_at hi,e];exact h
section
variable {X:Cx}{K:PySem.W.Frag}
theorem xE {us:List Value}{bs:List Bool}(h:bC (bs.map V.bl) us){i:Nat}{v:Value}(e:us[i]? = some v):v=.bool (bs.getD i false):=by
 have hl:=h.length;rw [VR] at hl;have hi:i<us.length:=(V3.mp e).1;have e2:(bs.map V.bl)[i]? = some (.bl (bs.getD i false)):=by
  rw [Vd,V1 (by omega),getD_at (by omega)]
  rfl
 obtain ⟨u,hu,r⟩:=h.get e2;rw [e] at hu;cases hu;exact r
theorem jY (hK:X.K=K)(hc:X.calm=true):cN X (.builtin "all") (fun xs H Q=>∃ (a:Addr) (bs:List Bool),xs=[.ref a]∧bM K H a (bs.map V.bl)∧Q (.bl (bs.all id)) H):=by
 subst hK;intro pins s σ H xs us Q I r h;obtain ⟨a,bs,rfl,hS,q⟩:=h;obtain ⟨u,rfl,ru⟩:=vals1 r;cases (show u=Value.ref a from ru);obtain ⟨its,rv,pl,hz⟩:=I.list hS;have lt:a<s.heap.objs.size:=by obtain ⟨o,e,_⟩:=pl.isList; exact VM e
 have hl:=rv.length;rw [VR] at hl;refine call_all_walk (wpAny_pyIter_list pl.isList ⟨s.heap.objs.size,_,_,_,_,_,fun i=>bs.getD i false,rfl,Walks.list (A:=X.A.in1) (I.ok.hd hc) s.heap.objs.size a (V6 lt) its.toArray,⟨⟨_,V5 _ rfl,rfl,rfl⟩,pl.isList.push _⟩,?_,fun h' tk hk=>?_⟩)
 ·intro i v s' Q' E' hv hQ;have e:=xE rv (i:=i) (v:=v) (by simpa using hv);rw [e];exact wpAny_truthy_bool hQ
 ·refine ⟨.bl (bs.all id),H,I.kept (t':=tk) fun b o e=>hk b o (fun z=>?_) (VJ _ e),?_,q⟩
  ·rw [Vb.mp z] at e;exact absurd (VM e) (Vm _)
  ·show Value.bool _=Value.bool _;rw [VL,← hl,range_all]
theorem wB (hK:X.K=K)(hc:X.calm=true):cN X (.builtin "any") (fun xs H Q=>∃ (a:Addr) (bs:List Bool),xs=[.ref a]∧bM K H a (bs.map V.bl)∧Q (.bl (bs.any id)) H):=by
 subst hK;intro pins s σ H xs us Q I r h;obtain ⟨a,bs,rfl,hS,q⟩:=h;obtain ⟨u,rfl,ru⟩:=vals1 r;cases (show u=Value.ref a from ru);obtain ⟨its,rv,pl,hz⟩:=I.list hS;have lt:a<s.heap.objs.size:=by obtain ⟨o,e,_⟩:=pl.isList; exact VM e
 have hl:=rv.length;rw [VR] at hl;refine call_any_walk (wpAny_pyIter_list pl.isList ⟨s.heap.objs.size,_,_,_,_,_,fun i=>bs.getD i false,rfl,Walks.list (A:=X.A.in1) (I.ok.hd hc) s.heap.objs.size a (V6 lt) its.toArray,⟨⟨_,V5 _ rfl,rfl,rfl⟩,pl.isList.push _⟩,?_,fun h' tk hk=>?_⟩)
 ·intro i v s' Q' E' hv hQ;have e:=xE rv (i:=i) (v:=v) (by simpa using hv);rw [e];exact wpAny_truthy_bool hQ
 ·refine ⟨.bl (bs.any id),H,I.kept (t':=tk) fun b o e=>hk b o (fun z=>?_) (VJ _ e),?_,q⟩
  ·rw [Vb.mp z] at e;exact absurd (VM e) (Vm _)
  ·show Value.bool _=Value.bool _;rw [VL,← hl,range_any]
end
section
variable {X:Cx}{CX:rK}{C f:Addr}{fd:FuncData}{k:Nat}{x m:Str}{ps:List Str}{ds:List Value}{dvs:List V}{sp:Sp}{E:XK}{e:Expr}{es:List Expr}{t:TA}{p apos pos:Pos}
theorem fC {K:PySem.W.Frag}(hK:X.K=K):cN X (.builtin "isinstance") (fun xs H Q=>∃ (x:V) (C:Addr) (t:Value) (b:Bool),xs=[x,.ref C]∧cR K H x t∧PySem.W.kitOne K t (.ref C)=some b∧Q (.bl b) H):=by
 subst hK;intro pins s σ H xs us Q I r h;obtain ⟨x,C,t,b,rfl,ty,e,q⟩:=h;obtain ⟨u,w',rfl,rx,rt⟩:=vals2 r;cases (show w'=Value.ref C from rt);exact oH I rx ty e fun tk=>⟨.bl b,H,I.tok _,rfl,q⟩
end
end L2
namespace L2
open PySem
def DK (h h':Heap):Prop:=∀ b o,h.get? b=some o →∃ o',h'.get? b=some o'∧o'.dict=o.dict
theorem DK.refl (h:Heap):DK h h:=fun _ o e=>⟨o,e,rfl⟩
theorem DK.trans {h1 h2 h3:Heap}(a:DK h1 h2)(b:DK h2 h3):DK h1 h3:=fun c o e =>
 let ⟨o1,e1,d1⟩:=a c o e
 let ⟨o2,e2,d2⟩:=b c o1 e1
 ⟨o2,e2,d2.trans d1⟩
def Tame {α:Type}(t:Sem α):Prop:=∀ (M:Model) (Γ:Ctx) (Q:α →Pos →Shared →Prop) (E:Value →Pos →Shared →Prop) (p:Pos) (s:Shared),Sem.wp M Γ t Q E p s →Sem.wp M Γ t (fun a p' s'=>Q a p' s'∧DK s.heap s'.heap) E p s
section
variable {α β:Type}
theorem bA (a:α):Tame (pure a:Sem α):=fun M Γ Q E p s h=>⟨h,.refl _⟩
theorem cZ (w:String):Tame (unsupported w:Sem α):=fun M Γ Q E p s h=>h
theorem aU {m:Sem α}{f:α →Sem β}(hm:Tame m)(hf:∀ a,Tame (f a)):Tame (m >>= f):=by
 intro M Γ Q E p s h;rw [Sem.wp_bind'] at h ⊢;refine Sem.wp_mono M Γ m (fun a p' s' z=>?_) (fun _ _ _ z=>z) p s (hm M Γ _ E p s h);exact Sem.wp_mono M Γ (f a) (fun b p2 s2 y=>⟨y.1,z.2.trans y.2⟩) (fun _ _ _ y=>y) p' s' (hf a M Γ _ E p' s' z.1)
theorem j6 (a:Addr):Tame (load a):=fun M Γ Q E p s ⟨o,e,h⟩=>⟨o,e,h,.refl _⟩
theorem jE:Tame stack:=fun M Γ Q E p s h=>⟨h,.refl _⟩
theorem tO (o:Obj):Tame (alloc o):=fun M Γ Q E p s h=>⟨h,fun b o' e=>⟨o',VJ _ e,rfl⟩⟩
theorem kZ {a:Addr}{f:Obj →Obj}(hf:∀ o,(f o).dict=o.dict∧(f o).isFreed=o.isFreed):Tame (update a f):=by
 rintro M Γ Q E p s ⟨hi,h⟩;refine ⟨hi,h,fun b o e=>?_⟩
 by_cases z:a=b
 ·subst z;obtain ⟨e1,e2⟩:=Heap.get?_some_iff.mp e;exact ⟨f o,W7 f e ((hf o).2.trans e2),(hf o).1⟩
 ·exact ⟨o,(WL _ f z).trans e,rfl⟩
theorem cQ {c:Prop}[Decidable c]{a b:Sem α}(ha:Tame a)(hb:Tame b):Tame (if c then a else b):=by split <;> assumption
theorem oA (v:Value):Tame (fieldsOf v):=by
 unfold fieldsOf
 split
 ·refine aU (j6 _) fun o=>?_
  split
  ·exact bA _
  ·exact cZ _
 ·exact cZ _
theorem fK (v:Value)(i:Nat):Tame (field v i):=by
 unfold field;refine aU (oA v) fun vs=>?_
 split
 ·exact bA _
 ·exact cZ _
theorem lN (g:Array Value →Array Value)(o:Obj):(Obj.mapFields g o).dict=o.dict∧(Obj.mapFields g o).isFreed=o.isFreed:=by
 obtain ⟨c,d,da,sl⟩:=o;cases da <;> exact ⟨rfl,rfl⟩
theorem eN (v:Value)(i:Nat)(x:Value):Tame (setField v i x):=by
 unfold setField
 split
 ·unfold updateField;refine aU (j6 _) fun o=>?_
  split
  ·exact cQ (kZ (lN _)) (cZ _)
  ·exact cZ _
 ·exact cZ _
theorem dU (e:Value)(f:Option Addr):Tame (setFlight e f):=by
 unfold setFlight;exact aU (fK e 1) fun tb=>cQ (eN _ _ _) (bA _)
theorem mH:∀ l:List Env,Tame (readyFrames l)
 | []=>bA _
 | env::outer=>by
  unfold readyFrames
  split
  ·refine aU (j6 _) fun o=>cQ (bA _) (aU ?_ fun b=>aU ?_ fun back=>aU (kZ fun o=>⟨rfl,by obtain ⟨_,_,d,_⟩:=o; cases d <;> rfl⟩) fun _=>mH outer)
   ·unfold behindIsImport;refine cQ (bA _) (cQ (bA _) (aU (fK _ _) fun _=>bA _))
   ·unfold keptBack
    split
    ·refine cQ (bA _) (aU ?_ fun b=>bA _);exact aU jE fun _=>bA _
    ·exact bA _
  ·exact cZ _
theorem qP (env:Env):Tame (frameOf env):=by
 unfold frameOf;refine aU (aU jE fun _=>bA _) fun l=>aU ?_ fun f=>?_
 ·unfold frameObject
  split
  ·exact bA _
  ·exact aU (mH _) fun _=>bA _
 ·split
  ·exact bA _
  ·exact cZ _
theorem uB (f:Addr)(b:Bool):Tame (entryPlaceOf f b):=by
 unfold entryPlaceOf;refine aU jE fun acts=>?_
 split
 ·exact bA _
 ·exact bA _
theorem pB (T:String)(d:Data):Tame (newObjAsIs (.type T) d):=aU (tO _) fun _=>bA _
theorem uA (a b c d e:Value)(pl:List Value):Tame (EntryCells.newEntry a b c d e pl):=by
 unfold EntryCells.newEntry newFields newObj;generalize ([a,b,c,d,e]++if pl.isEmpty=true then V0 6 Value.none else pl)=l;exact cQ (aU (cZ _) fun _=>pB _ _) (pB _ _)
theorem oW (e:Value)(env:Env):Tame (noteFrame e env):=by
 unfold noteFrame
 split
 ·refine aU (fK e 1) fun head=>?_;have rest:∀ f:Addr,Tame (do setField e 1 (← EntryCells.newEntry head (← frameOf env) .none (rawInt f) .none (← entryPlaceOf f (head != .none)))):=fun f =>
   aU (qP env) fun a=>aU (uB _ _) fun pl=>aU (uA _ _ _ _ _ _) fun b=>eN _ _ _
  refine cQ (aU (fK _ _) fun x=>cQ (bA _) (aU (eN _ _ _) fun _=>rest _)) (rest _)
 ·exact cZ _
theorem jO (env:Env)(e:Value):Tame (leaving env e):=aU (oW e env) fun _=>dU e none
theorem dO {t:Sem α}(ht:Tame t){M:Model}{A:Around}{Q:α →Shared →Prop}{E:Value →Shared →Prop}{s:Shared}(h:wpAny M A t Q E s):wpAny M A t (fun a s'=>Q a s'∧DK s.heap s'.heap) E s :=
 fun Γ p hΓ=>ht M Γ _ _ p s (h Γ p hΓ)
end
end L2
namespace L2
open PySem PySem.Spec PyProof.Rows
def dk (od:Option Addr)(a:Addr)(h:Heap):Prop:=∀ d,od=some d →∃ o,h.get? a=some o∧o.dict=some d
theorem dk.step {od:Option Addr}{a:Addr}{h h':Heap}(x:dk od a h)(k:DK h h'):dk od a h':=fun d e =>
 let ⟨o,g,q⟩:=x d e
 let ⟨o',g',q'⟩:=k a o g
 ⟨o',g',q'.trans q⟩
theorem dk.none {a:Addr}{h:Heap}:dk none a h:=fun _ z=>nomatch z
def m9 (P:Program)(w:World):rK:=fun outer H s E e s' =>
 ∃ (a:Addr) (cls a0:Value) (H':Hp) (B:Heap) (od:Option Addr),e=.ref a∧s'.os=s.os∧AllBare s'.gens∧Un (fH outer) [] H H' s.heap s'.heap∧iY P w H' s'.heap∧Wd B outer a cls a0 s'.heap ∧
  (∀ b o,s.heap.get? b=some o →b∉fH outer →∃ o',B.get? b=some o')∧(∀ b u,H' b=some u →∃ o',B.get? b=some o')∧dk od a s'.heap∧E cls od H'
section
variable {P:Program}{w:World}{H H':Hp}{B h0 h1 h2:Heap}{fs:List Addr}
theorem u6 (b1:B.StaysIn h1)(b2:B.StaysIn h2){b:Addr}{o:Obj}(q:h1.get? b=some o)(x:∃ o',B.get? b=some o'):h2.get? b=some o:=by
 obtain ⟨o',e⟩:=x;have:=b1 b o' e;rw [q] at this;cases this;exact b2 b _ e
theorem pR (u:Un fs [] H H' h0 h1)(b1:B.StaysIn h1)(b2:B.StaysIn h2)(up:h1.UpToSlots h2)(nf:∀ b∈fs,∃ o,h1.get? b=some o∧∀ vs,o.data≠.fields vs)
  (hB:∀ b o,h0.get? b=some o →b∉fs →∃ o',B.get? b=some o'):Un fs [] H H' h0 h2:=by
 refine ⟨fun b o q n hb hx=>u6 b1 b2 (u.keep b o q n hb hx) (hB b o q hb),fun b o q n hb hx=>?_,u.free,fun b o q hx=>?_,u.tups,u.frzs,u.tbls⟩
 ·obtain ⟨sl,e⟩:=u.slot b o q n hb hx;obtain ⟨o1,e1,d1⟩:=nf b hb;rw [e] at e1;cases e1;obtain ⟨sl2,e2⟩:=up b _ e d1;exact ⟨sl2,e2⟩
 ·by_cases hb:b∈fs
  ·obtain ⟨o1,e1,d1⟩:=nf b hb;obtain ⟨sl2,e2⟩:=up b _ e1 d1;exact ⟨_,e2⟩
  ·obtain ⟨o1,e1⟩:=hB b o q hb;exact ⟨_,b2 b _ e1⟩
theorem lV (x:iY P w H h1)(b1:B.StaysIn h1)(b2:B.StaysIn h2)(hH:∀ b u,H b=some u →∃ o',B.get? b=some o'):iY P w H h2:=fun a o e =>
 (x a o e).stay (fun b u hb q=>u6 b1 b2 q (by
  rcases hb with rfl | hb
  ·exact hH _ _ e
  ·exact hH _ _ hb)) (fun _ q=>q) fun _ _ q=>q
end
theorem obj_some {P:Program}{w:World}{H:Hp}{h:Heap}{b:Addr}{u:HO}(x:bH P w H h b u)(z:h.get? b=none):False:=by
 cases u with
 | lst xs=>obtain ⟨_,_,_,_,e⟩:=x; rw [z] at e; cases e
 | tup xs=>obtain ⟨_,_,_,_,e,_⟩:=x; rw [z] at e; cases e
 | dK kvs=>obtain ⟨_,_,_,_,o,_,_,e,_⟩:=x; rw [z] at e; cases e
 | dT kvs=>obtain ⟨_,_,_,_,o,_,_,e,_⟩:=x; rw [z] at e; cases e
 | set S n=>obtain ⟨o,_,_,_,e,_⟩:=x; rw [z] at e; cases e
 | ins C dx fs=>obtain ⟨_,_,_,e,_⟩:=x; rw [z] at e; cases e
 | own y=>obtain ⟨_,e⟩:=x; rw [z] at e; cases e
 | xd fs=>obtain ⟨_,⟨_,_,_,e,_⟩,_⟩:=x; rw [z] at e; cases e
 | rng lo hi=>obtain ⟨_,_,_,e⟩:=x; rw [z] at e; cases e
 | frz ob v=>obtain ⟨e,_⟩:=x; rw [z] at e; cases e
 | tbl ps=>have e:=(show h.get? b=some _ from x); rw [z] at e; cases e
 | met f y=>have e:=(show h.get? b=some _ from x); rw [z] at e; cases e
 | ext φ=>obtain ⟨_,⟨_,e⟩,_⟩:=x; rw [z] at e; cases e
theorem lO {env:Env}{outer:List Env}{L b:Addr}(hf:env.frame=some L):b∈fH (env::outer)↔b=L∨b∈fH outer:=by
 unfold fH;rw [WY,hf];exact Vh
structure rZ (K:PySem.W.Frag)(C:Addr):Prop where
 isx:PySem.W.excIn K C ([.type "ValueError",.type "Exception",.type "BaseException",.type "object"]) "ValueError.__new__" = true
section
variable {X:Cx}
def Throws (X:Cx)(E:XK):Prop:=∀ (pins:List (Addr×Obj)) (σ:St) (H:Hp) (s:Shared) (h':Heap) (e:Addr) (cls:Value) (args:List Value),aL X pins σ H s →W5 s.heap h' e cls args →E cls none H →
 X.xe (.ref e) { s with heap:=h' }
end
section
variable {P:Program}{w:World}{K:PySem.W.Frag}{mg:Str →Option Value}{base:Heap}{N:List Str}{qual:Str}{scope:Scope}{f:Addr}{cd:Value}{A:Around}{outer:List Env}{s:Shared}{H:Hp}{E:XK}
theorem eO:Throws (j5 (m9 P w) P w K mg base N qual scope f cd A outer s H E) E:=by
 intro pins σ H1 s1 h' e cls args I mk hE;have hfr:=I.ok.frames;have hst:=I.stack;have nsz:∀ b o,s.heap.get? b=some o →b≠s.heap.objs.size:=fun b o q z=>absurd (VM q) (by rw [z]; exact Vm _);have hide:∀ b o,s1.heap.get? b=some o →b∉fH (envOfC qual scope s.heap.objs.size f cd::outer) →(PySem.W.hideAll s1.heap (fH (envOfC qual scope s.heap.objs.size f cd::outer))).get? b=some o:=fun b o q hb=>PySem.W.hideAll_get _ q hb;have inS:∀ b o,s.heap.get? b=some o →b∉fH outer →∃ o',(PySem.W.hideAll s1.heap (fH (envOfC qual scope s.heap.objs.size f cd::outer))).get? b=some o':=fun b o q hb=>by
  obtain ⟨o',e'⟩:=I.base.there b o q (by show b∉([]:List Addr); simp);exact ⟨o',hide b o' e' fun z=>((lO rfl).mp z).elim (nsz b o q) hb⟩
 have inH:∀ b u,H1 b=some u →∃ o',(PySem.W.hideAll s1.heap (fH (envOfC qual scope s.heap.objs.size f cd::outer))).get? b=some o':=fun b u q=>by
  have lt:=I.hok.lt q;obtain ⟨o',e'⟩:∃ o',s1.heap.get? b=some o':=by
   have:=I.hok b u q;cases z:s1.heap.get? b with
   | some o'=>exact ⟨o',rfl⟩
   | none=>exact (obj_some this z).elim
  refine ⟨o',hide b o' e' fun z=>?_⟩;have:=I.stkFree b z;rw [q] at this;cases this
 show wpAny (model P w) (A.deeper (envOfC qual scope s.heap.objs.size f cd)) (leaving (envOfC qual scope s.heap.objs.size f cd) (.ref e)) _ _ _;refine wpAny_leaves_madeW (h:=s1.heap) (base:=PySem.W.hideAll s1.heap (fH (envOfC qual scope s.heap.objs.size f cd::outer))) hfr rfl (fun b o q=>PySem.W.of_hideAll _ q)
  (PySem.W.funFrames_hide hst fun env he b hb=>Vu.mpr ⟨env,he,hb⟩) mk fun h'' t fl _ _ up=>?_
 have b1:Heap.StaysIn (PySem.W.hideAll s1.heap (fH (envOfC qual scope s.heap.objs.size f cd::outer))) h':=fun b o q=>mk.keeps _ _ (PySem.W.of_hideAll _ q);refine ⟨e,cls,.ref t,H1,_,none,rfl,I.os,I.bare,?_,lV (I.hok.kept mk.keeps) b1 fl.1 inH,fl,inS,inH,dk.none,hE⟩;have u1:Un (fH outer) [] H H1 s.heap h':=Un.trans (show Un (fH outer) [] H H1 s.heap s1.heap from I.base) (Un.kept mk.keeps);refine pR u1 b1 fl.1 up (fun b hb=>?_) inS;obtain ⟨_,o,ho,hd⟩:=I.funs.mem hb;exact ⟨o,mk.keeps _ _ ho,hd⟩
theorem cU:cV (m9 P w) (j5 (m9 P w) P w K mg base N qual scope f cd A outer s H E) E:=by
 rintro pins σ H1 s1 e s' I ⟨a,cls,a0,H',B,od,rfl,hos,hg,un,hok,fl,inB,inH,hdk,hE⟩;have nsz:∀ b o,s.heap.get? b=some o →b≠s.heap.objs.size:=fun b o q z=>absurd (VM q) (by rw [z]; exact Vm _);have J:=I.call' (s':=s') (H':=H') (ch:=[]) hos un hok hg (fun b z=>absurd z (by simp));have inS:∀ b o,s.heap.get? b=some o →b∉fH outer →∃ o',B.get? b=some o':=fun b o q hb=>by
  obtain ⟨o',e'⟩:=I.base.there b o q (by show b∉([]:List Addr); simp);exact inB b o' e' fun z=>((lO rfl).mp z).elim (nsz b o q) hb
 show wpAny (model P w) (A.deeper (envOfC qual scope s.heap.objs.size f cd)) (leaving (envOfC qual scope s.heap.objs.size f cd) (.ref a)) _ _ _;refine wpAny_mono (dO (jO _ _) (wpAny_leaves_onW (Q:=fun _ s2=>∃ h2,s2 = { s' with heap:=h2 }∧Wd B outer a cls a0 h2∧s'.heap.UpToSlots h2) I.ok.frames rfl fl fun h'' fl' up=>⟨h'',rfl,fl',up⟩)) (fun _ s2 hq=>?_) fun _ _ z=>z;obtain ⟨⟨h'',rfl,fl',up⟩,kd⟩:=hq;refine ⟨a,cls,a0,H',B,od,rfl,J.os,hg,?_,lV hok fl.1 fl'.1 inH,fl',inS,inH,hdk.step kd,hE⟩;refine pR (show Un (fH outer) [] H H' s.heap s'.heap from J.base) fl.1 fl'.1 up (fun b hb=>?_) inS;obtain ⟨_,o,ho,hd⟩:=fl.2.2.1.mem (Vu.mpr (by
  obtain ⟨env,he,z⟩:=Vu.mp hb;exact ⟨env,V9 _ he,z⟩))
 exact ⟨o,ho,hd⟩
def zB (H:Hp)(a:Addr):Hp:=fun b=>if b=a then none else H b
theorem iW {H:Hp}{a b:Addr}(h:b≠a):zB H a b=H b:=if_neg h
theorem sU {H:Hp}{a b:Addr}{u:HO}(h:zB H a b=some u):b≠a∧H b=some u:=by
 unfold zB at h
 split at h
 ·cases h
 ·rename_i n; exact ⟨n,h⟩
def kJ (e:Addr)(cls:Value)(od:Option Addr)(h:Heap):Prop:=∃ vs a0,h.get? e=some ⟨cls,od,.fields vs,#[]⟩∧vs[0]? = some a0∧vs[1]? = some .none
def vO (X:Cx)(E:XK):Prop:=∀ (pins:List (Addr×Obj)) (σ:St) (H:Hp) (s:Shared) (a d:Addr) (cls:Value),aL X pins σ H s →H a=some (.ext (kJ a cls (some d))) →X.s₀.heap.get? a=none →E cls (some d) (zB H a) →X.xe (.ref a) s
theorem tQ:vO (j5 (m9 P w) P w K mg base N qual scope f cd A outer s H E) E:=by
 intro pins σ H1 s1 a d cls I ha n0 hE;obtain ⟨⟨vs,a0,hx,h0,h1⟩,_,_⟩:=(show bH P w H1 s1.heap a (.ext (kJ a cls (some d))) from I.hok a _ ha)
 have n0:s.heap.get? a=none:=n0;have hfr:=I.ok.frames;have hst:=I.stack;have nsz:∀ b o,s.heap.get? b=some o →b≠s.heap.objs.size:=fun b o q z=>absurd (VM q) (by rw [z]; exact Vm _);have hide:∀ b o,s1.heap.get? b=some o →b≠a →b∉fH (envOfC qual scope s.heap.objs.size f cd::outer) →(PySem.W.hideAll s1.heap (a::fH (envOfC qual scope s.heap.objs.size f cd::outer))).get? b=some o:=fun b o q na hb=>PySem.W.hideAll_get _ q fun z=>(Vh.mp z).elim na hb;have inS:∀ b o,s.heap.get? b=some o →b∉fH outer →∃ o',(PySem.W.hideAll s1.heap (a::fH (envOfC qual scope s.heap.objs.size f cd::outer))).get? b=some o':=fun b o q hb=>by
  obtain ⟨o',e'⟩:=I.base.there b o q (by show b∉([]:List Addr); simp);exact ⟨o',hide b o' e' (fun z=>by rw [z,n0] at q; cases q) fun z=>((lO rfl).mp z).elim (nsz b o q) hb⟩
 have inH:∀ b u,zB H1 a b=some u →∃ o',(PySem.W.hideAll s1.heap (a::fH (envOfC qual scope s.heap.objs.size f cd::outer))).get? b=some o':=fun b u q=>by
  obtain ⟨na,q⟩:=sU q;obtain ⟨o',e'⟩:∃ o',s1.heap.get? b=some o':=by
   have:=I.hok b u q;cases z:s1.heap.get? b with
   | some o'=>exact ⟨o',rfl⟩
   | none=>exact (obj_some this z).elim
  refine ⟨o',hide b o' e' na fun z=>?_⟩;have:=I.stkFree b z;rw [q] at this;cases this
 have hen:(PySem.W.hideAll s1.heap (a::fH (envOfC qual scope s.heap.objs.size f cd::outer))).get? a=none:=PySem.W.hideAll_none _ Vn;show wpAny (model P w) (A.deeper (envOfC qual scope s.heap.objs.size f cd)) (leaving (envOfC qual scope s.heap.objs.size f cd) (.ref a)) _ _ _;refine wpAny_mono (dO (jO _ _) (wpAny_leaving_firstW (base:=PySem.W.hideAll s1.heap (a::fH (envOfC qual scope s.heap.objs.size f cd::outer))) (Q:=fun _ s2=>∃ h2,s2 = { s1 with heap:=h2 }∧Heap.LeftW (PySem.W.hideAll s1.heap (a::fH (envOfC qual scope s.heap.objs.size f cd::outer))) (envOfC qual scope s.heap.objs.size f cd::outer) a cls a0 s1.heap h2) hfr
  (PySem.W.funFrames_hide hst fun env he b hb=>V9 _ (Vu.mpr ⟨env,he,hb⟩)) rfl hx (fun b o q=>PySem.W.of_hideAll _ q) hen rfl h1 h0 fun h' hL=>⟨h',rfl,hL⟩)) (fun _ s2 hq=>?_) fun _ _ z=>z
 obtain ⟨⟨h2,rfl,k1,⟨_,_,k2⟩,k3,up⟩,kd⟩:=hq;have b1:Heap.StaysIn (PySem.W.hideAll s1.heap (a::fH (envOfC qual scope s.heap.objs.size f cd::outer))) s1.heap:=fun b o q=>PySem.W.of_hideAll _ q;have ne:∀ {b:Addr}{u:HO},H1 b=some u →(∀ φ,u≠.ext φ) →b≠a:=fun {b u} q n z=>by
  rw [z,ha] at q;cases q;exact n _ rfl
 have hok:iY P w (zB H1 a) s1.heap:=fun b u q=>by
  obtain ⟨na,q⟩:=sU q;exact (I.hok b u q).stay (fun _ _ _ r=>r) (fun c r=>(iW (ne r fun φ z=>nomatch z)).trans r) fun c xs r=>(iW (ne r fun φ z=>nomatch z)).trans r
 refine ⟨a,cls,a0,zB H1 a,_,some d,rfl,I.os,I.bare,?_,lV hok b1 k1 inH,⟨k1,hen,k2,k3⟩,inS,inH,?_,hE⟩
 ·have u1:Un (fH outer) [] H H1 s.heap s1.heap:=I.base;have u2:Un (fH outer) [] H (zB H1 a) s.heap s1.heap:=⟨u1.keep,u1.slot,fun b o q n x=>by
   unfold zB
   split
   ·rfl
   ·exact u1.free b o q n x,u1.there,fun b xs q=>(iW (ne (u1.tups b xs q) fun φ z=>nomatch z)).trans (u1.tups b xs q),fun b o u q=>(iW (ne (u1.frzs b o u q) fun φ z=>nomatch z)).trans (u1.frzs b o u q),fun b ps q=>by
    obtain ⟨more,z⟩:=u1.tbls b ps q;exact ⟨more,(iW (ne z fun φ z=>nomatch z)).trans z⟩⟩
  refine pR u2 b1 k1 up (fun b hb=>?_) inS;obtain ⟨_,o,ho,hd⟩:=I.funs.mem hb;exact ⟨o,ho,hd⟩
 ·exact dk.step (fun d' e=>⟨_,hx,e⟩) kd
end
end L2
namespace L2
open PySem PySem.Spec PySem.Calls PyProof.Rows PySem.W Builtin Builtin.ObjectAttr Builtin.Getset_descriptor
def wM (a:Addr)(cls:Value)(h:Heap):Prop:=∃ o,h.get? a=some o∧o.cls=cls
theorem wM.ty {a:Addr}{cls:Value}{h:Heap}{M:Model}(x:wM a cls h):Looks M h (typeOf (.ref a)) cls:=by
 obtain ⟨o,e,rfl⟩:=x;exact (Looks.ld e).andThen .now
structure w5 (K:Frag)(D:Addr):Prop where
 ga:findIn K (.ref D) "__getattribute__" = some (some (.builtin "BaseException.__getattribute__"))
 gt:findIn K (.ref D) "__getattr__" = some none
 mb:mroIn K D (.type "BaseException")=some true
 cl:(clsIn K D).isSome=true
 fi:findIn K (.ref D) "__class__" = some (some (.builtin "object.__class__"))
 sp:specialIn K (.builtin "object.__class__") "__get__" = some (some (.builtin "getset_descriptor.__get__"))
 tk:takesIn K (.builtin "object.__class__")=some true
 mr:mroIn K D (.type "object")=some true
section
variable {prog:Program}{w:World}{A:Around}{E:Value →Shared →Prop}{s:Shared}{K:Frag}{a D:Addr}
theorem rT {M:Model}{h:Heap}(k:K.In h)(x:w5 K D):Looks M h (find (.ref a) (.ref D) "__class__") (.bind (.builtin "getset_descriptor.__get__") (.builtin "object.__class__")):=by
 have l3:Looks M h (dataDescriptor? (some (.builtin "object.__class__")) (some (.builtin "getset_descriptor.__get__"))) (some (.builtin "getset_descriptor.__get__",.builtin "object.__class__")):=(looks_takesIn (M:=M) k x.tk).andThen .now;exact (looks_findIn (M:=M) k x.fi).andThen ((looks_specialIn (M:=M) k x.sp).andThen (l3.andThen (Looks.tag .now)))
theorem j9 {R:Result →Shared →Prop}(k:K.In s.heap)(i:wM a (.ref D) s.heap)(hm:mroIn K D (.type "object")=some true)(h:R (.ok (.ret (.ref D))) s) :
  codeAny (model prog w) A (.call (.builtin "getset_descriptor.__get__") ⟨[.builtin "object.__class__",.ref a,.ref D],[]⟩) R s:=by
 obtain ⟨hh,gg,dr,tt,os⟩:=s;have ly:=i.ty (M:=model prog w);have lm:=looks_mroIn (M:=model prog w) k hm;refine codeAny_call_builtin KF.slot_gs.plain KF.entry_gs (KF.slot_gs.check _ _ _ _ _ _ _ _ KF.type_class (KF.args_gs _ _ _) ?_);unfold Builtin.«getset_descriptor.__get__»;unfold descrGet;rw [dga_obj];refine wpAny_bind (wpAny_pure ?_);unfold descrGetter;unfold descrCheckInstance descrNameAndClass;unfold isInstance;simp only [KF.owner_class]
 repeat lk
 refine ⟨Code.quiet_builtin _ (by decide +kernel),codeAny_builtin KF.entry_class ?_⟩;unfold Builtin.«object.__class__»;unfold shownTypeOf
 repeat lk
 exact h
theorem yR {tk:Tok}{Q:Fin →Shared →Prop}(k:K.In s.heap)(i:wM a (.ref D) s.heap)(x:w5 K D)(h:Q (.done (.ret (.ref D))) s) :
  wpAny (model prog w) A (Builtin.«object.__getattribute__» ⟨[.ref a,.str "__class__" tk],[]⟩) Q E s:=by
 obtain ⟨hh,gg,dr,tt,os⟩:=s;have ly:=i.ty (M:=model prog w);have lf:=rT (M:=model prog w) (a:=a) k x;have e1:slotArgs "__getattribute__" 1 ⟨[.ref a,.str "__class__" tk],[]⟩=pure (.ref a,[.str "__class__" tk]):=rfl;unfold Builtin.«object.__getattribute__»;rw [e1];refine wpAny_bind (wpAny_pure ?_);refine wpAny_bind (wpAny_pure (wpAny_bind (ly.at (wpAny_bind (lf.at ?_)))));show wpAny _ _ (bindTo (.builtin "getset_descriptor.__get__") (.builtin "object.__class__") (.ref a) (.ref D)) _ _ _;unfold bindTo
 first
  | exact wpAny_bind (wpAny_holding (wpAny_call (j9 k i x.mr (wpAny_pure h))))
  | exact wpAny_bind (wpAny_call (j9 k i x.mr (wpAny_pure h)))
  | exact wpAny_pure ⟨Code.quiet_call _ _,j9 k i x.mr h⟩
theorem o6 {nameV:Value}{Q:Unit →Shared →Prop}{M:Model}(k:K.In s.heap)(i:wM a (.ref D) s.heap)(x:w5 K D)(hq:Q () s):wpAny M A (checkBuiltinCall "BaseException.__getattribute__" ⟨[.ref a,nameV],[]⟩) Q E s:=by
 obtain ⟨hh,gg,dr,tt,os⟩:=s;have ly:=i.ty (M:=M);have lm:=looks_mroIn (M:=M) k x.mb;have hki:builtinKind "BaseException.__getattribute__" = some .slot:=by decide +kernel
 have hsp:splitId "BaseException.__getattribute__" = some ("BaseException","__getattribute__"):=by decide +kernel
 have ha:=PySem.F.args_bexc_ga (.ref a) nameV;simp only [checkBuiltinCall,hki,hsp];unfold isInstance;refine wpAny_bind (wpAny_bind (ly.at (lm.at ?_)))
 repeat (any_goals (first | assumption | wp_step))
theorem rC {Q:Option Value →Shared →Prop}(k:K.In s.heap)(i:wM a (.ref D) s.heap)(x:w5 K D)(h:Q (some (.ref D)) { s with toks:=s.toks+1 }):wpAny (model prog w) A (getAttr? (.ref a) "__class__") Q E s:=by
 obtain ⟨hh,gg,dr,tt,os⟩:=s;have ly:=i.ty (M:=model prog w);have lga:=looks_findIn (M:=model prog w) k x.ga;have lgt:=looks_findIn (M:=model prog w) k x.gt;unfold getAttr? getAttrBy?;unfold getAttrBy;refine wpAny_bind (wpAny_mkText (wpAny_bind (wpAny_attempt (wpAny_holding (wpAny_bind (ly.at (wpAny_bind (lga.at ?_))))))));show wpAny _ _ (getAttrByItsOwn _ _ _ _ _ _) _ _ _;unfold getAttrByItsOwn;refine wpAny_bind (lgt.at ?_);refine wpAny_bind (wpAny_attempt (wpAny_holding ?_));show wpAny _ _ (boundAndCalled _ _ _) _ _ _;unfold boundAndCalled;rw [PySem.F.attr_ValueError.ga.bind (.ref a)];refine wpAny_bind (wpAny_pure (wpAny_call (codeAny_call_builtin PySem.F.attr_ValueError.ga.plain PySem.F.entry_bexc_ga (o6 (s:=⟨hh,gg,dr,tt+1,os⟩) k i x (yR (s:=⟨hh,gg,dr,tt+1,os⟩) k i x ?_)))));refine handed_on rfl ?_;exact wpAny_pure h
theorem xX (x:w5 K D):KitX K (.ref a) (.ref D) (wM a (.ref D)) where
 ty:=fun _ _ _ i=>i.ty
 it:=fun M h k _=>by
  obtain ⟨cd,hc⟩:=W0.mp x.cl;unfold clsIn at hc
  split at hc
  case h_2=>cases hc
  case h_1 c' d' cd' sl' ho =>
   intro A' Q' E' s' k' q;unfold isType;unfold loadHead;exact wpAny_bind (wpAny_loadPart (k' _ _ (k _ _ ho)) (wpAny_pure q))
 ne:=fun h tp dd its n sl k htp=>by
  obtain ⟨cd,hc⟩:=W0.mp x.cl;refine Bool.eq_false_iff.mpr fun q=>?_;obtain rfl:D=tp:=Value.ref.inj (beq_iff_eq.mp q);unfold clsIn at hc
  split at hc
  case h_2=>cases hc
  case h_1 c' d' cd' sl' ho =>
   have z:=(k _ _ ho).symm.trans htp;cases z
 ca:=fun k i q=>rC k i x q
end
section
variable {X:Cx}
theorem b8 {K:Frag}(hK:X.K=K):cN X (.builtin "isinstance") (fun xs H Q=>∃ (a D:Addr) (c:V) (u:Value) (b:Bool),xs=[.ref a,c]∧(∀ u',RelV c u' →u'=u)∧H a=some (.ext (wM a (.ref D)))∧w5 K D∧kitOne K (.ref D) u=some b∧Q (.bl b) H):=by
 subst hK;rintro pins s σ H vs us Q I r ⟨a,D,c,u,b,rfl,hu,ha,xt,e,q⟩;obtain ⟨u1,u2,rfl,r1,r2⟩:=vals2 r;obtain rfl:u1=Value.ref a:=r1;obtain rfl:=hu u2 r2;obtain ⟨i,_⟩:=(show bH X.prog X.w H s.heap a (.ext (wM a (.ref D))) from I.hok a _ ha)
 exact kia_one (xX xt) I.kIn i e (fun z=>nomatch z) fun tk=>⟨.bl b,H,I.tok _,rfl,q⟩
end
end L2
namespace L2
open PySem PySem.Spec PyProof.Rows
theorem sX {i:Nat}{v:V}{τ:St}{H:Hp}{A B:St →Hp →Prop}(h:A (τ.set i (some v)) H):qY i v τ H (fun τ2 H2=>Cq τ2 H2 (fun b H3=>if b=true then A τ2 H3 else B τ2 H3)):=z8 (τ:=τ.set i (some v)) (A:=A (τ.set i (some v))) (B:=B (τ.set i (some v))) h
end L2
namespace TD
open PySem L2
open Builtin.Int (intBits)
abbrev Is (ns:List Int):List V:=ns.map V.int
theorem aW (ns:List Int):(Is ns).length=ns.length:=VR _
theorem qL (xs:List Int)(y:Int):Is (xs++[y])=Is xs++[V.int y]:=by show (xs++[y]).map V.int=_; rw [Ve]; rfl
theorem jH {ns:List Int}{i:Nat}{v:V}(h:(Is ns)[i]? = some v):∃ n,ns[i]? = some n∧v=.int n:=by
 rw [Vd] at h;cases e:ns[i]? with
 | none=>rw [e] at h; cases h
 | some n=>rw [e] at h; cases h; exact ⟨n,rfl,rfl⟩
def ka:Nat →Nat
 | 0=>30
 | d+1=>ka d+(12*(d+1)+1)*12+1
end TD
namespace Sd
def Py (a b:Rat):Rat:=if a<b then b else a
def cv (r:Tb.Rw):Rat:=(r.t:Rat)/(r.b:Rat)
def up (l:Rat)(ys:List Tb.Rw):Rat:=(ys.map fun r=>(r.w:Rat)*(Py l (cv r)-l)).sum
end Sd
namespace TD
open PySem L2
open Builtin.Int (intBits)
structure Cs where
 e:Addr
 s:Addr
end TD
namespace L2
open PySem PySem.Spec PyProof.Rows
abbrev oM:List Value:=[.type "ValueError",.type "Exception",.type "BaseException",.type "object"]
theorem rZ.obj {K:PySem.W.Frag}{h:Heap}{C:Addr}(x:rZ K C)(k:K.In h):∃ (bm:List Value) (N:Addr) (nm q:Str) (bs:List Value) (hdct:Bool) (sn:List Str) (sub:List Value) (ab:Bool) (col:Option Bool) (dd:Option Addr) (k0 k1 k2 k3 k5:Option Value) (mN:Str →Option Value),
  h.get? C=some (excClassObj nm q C N bs bm hdct sn sub ab col dd k0 k1 k2 k3 k5 "ValueError.__new__")∧h.Ns N mN∧mN "__init__" = none∧OwnTail h oM bm:=by
 have z:=x.isx;unfold PySem.W.excIn at z
 split at z
 case h_2=>cases z
 case h_1 dd cd sl ho =>
  split at z
  case h_2=>cases z
  case h_1 C' bm k0 k1 k2 k3 n k5 hm hs =>
   simp only [Vc,beq_iff_eq,XQ] at z;obtain ⟨⟨⟨⟨⟨e1,e2⟩,hdel⟩,ht⟩,hok⟩,hni⟩:=z;subst e1;subst e2;obtain ⟨nm,bs,mro,ns,qn,hd,sn,sub,ab,col,del⟩:=cd;dsimp only at hm hdel hok hni;subst hm;subst hdel;obtain ⟨l⟩:=sl;obtain rfl:l=[k0,k1,k2,k3,some (.builtin "ValueError.__new__"),k5]:=hs;have g:=k _ _ ho;have nn:=PySem.W.isNs_of_in k hok;exact ⟨bm,ns,nm,qn,bs,hd,sn,sub,ab,col,dd,k0,k1,k2,k3,k5,_,g,.of_isNs nn,PySem.W.nsMap_none_of_in k hok hni,PySem.W.tail_of_in k ht⟩
theorem gQ {X:Cx}{x:Str}{C:Addr}{E:XK}{np cpos pos:Pos}(T:Throws X E)(hc:X.calm=true)(hg:Gl X x)(hm:X.mg x=some (.ref C))(xc:rZ X.K C)(hd:(x==("__debug__" : Str))=false:=by decide) :
  PS X (.Raise (some (.Call (.Name x np) [] [] cpos)) none pos) (fun _ _ H=>E (.ref C) none H):=by
 intro pins s σ H D I h;obtain ⟨bm,N,nm,q,bs,hdct,sn,sub,ab,col,dd,k0,k1,k2,k3,k5,mN,hC,hN,hni,TL⟩:=xc.obj I.kIn;refine wpAny_Raise_call_subT (C:=C) (nm:=nm) (q:=q) (N:=N) (bs:=bs) (bm:=bm) (hdct:=hdct) (sn:=sn) (sub:=sub) (ab:=ab) (col:=col) (dd:=dd) (k0:=k0) (k1:=k1) (k2:=k2) (k3:=k3) (k5:=k5) PySem.F.excBase_ValueError (mN:=mN)
  (TL.hasType PySem.F.excBase_ValueError.hasBase) (I.ok.hd hc) rfl hni (fL I hg hm ⟨rfl,?_⟩ hd)
 exact evalArgs_empty ⟨rfl,Vt _,hC,hN,TL,fun h' e mk=>T pins σ H s h' e _ _ I mk h⟩
section
variable {P:Program}{w:World}{K:PySem.W.Frag}{mg:Str →Option Value}{base:Heap}
theorem dD.okX {x qual:Str}{st:Stmt}{f:Addr}{fd:FuncData}{N ps:List Str}{k:Nat}{sp:Sp}(F:dD K x qual st f fd)(S:aV N ps (aH st))(len:∀ vs H Q E,sp vs H Q E →vs.length=ps.length)
  (hbody:∀ (cdv:Value) (A:Around) (outer:List Env) (s:Shared) (H:Hp) (vs:List V) (Q:VK) (E:XK),cF k (A.deeper (envOfC qual (aH st) s.heap.objs.size f cdv)) →sp vs H Q E →
   ∃ t,mW (j5 (m9 P w) P w K mg base N qual (aH st) f cdv A outer s H E) (cP st) t∧t { nx:=fun _ H'=>Q .non H',rt:=Q } (start N vs) H):bB P w K mg base (m9 P w) (k+1) f fd ps sp:=by
 obtain ⟨oc,od,kV,doc,pm,an,cdv,ct,osl,rfl,lk,hcd⟩:=F.ex;exact Bd lk hcd S len fun A outer s H vs Q E hr hsp=>hbody cdv A outer s H vs Q E hr hsp
def M9 (X:Cx)(st:Stmt)(t:TS):Prop :=
 ∀ (s:Shared) (σ:St) (H:Hp) (D:Ends),aL X [] σ H s →t D σ H →wpAny (model X.prog X.w) X.A (exec st X.env) (SP X [] D) X.xe s
def Ay (X:Cx)(st:List Stmt)(t:TS):Prop :=
 ∀ (s:Shared) (σ:St) (H:Hp) (D:Ends),aL X [] σ H s →t D σ H →wpAny (model X.prog X.w) X.A (execs st X.env) (SP X [] D) X.xe s
theorem mW.zero {X:Cx}{st:List Stmt}{t:TS}(h:mW X st t):Ay X st t:=fun s σ H D I q=>h [] s σ H D I q
theorem PS.zero {X:Cx}{st:Stmt}{t:TS}(h:PS X st t):M9 X st t:=fun s σ H D I q=>h [] s σ H D I q
theorem dD.ok0 {x qual:Str}{st:Stmt}{f:Addr}{fd:FuncData}{N ps:List Str}{k:Nat}{sp:Sp}(F:dD K x qual st f fd)(S:aV N ps (aH st))(len:∀ vs H Q E,sp vs H Q E →vs.length=ps.length)
  (hbody:∀ (cdv:Value) (A:Around) (outer:List Env) (s:Shared) (H:Hp) (vs:List V) (Q:VK) (E:XK),cF k (A.deeper (envOfC qual (aH st) s.heap.objs.size f cdv)) →sp vs H Q E →
   ∃ t,Ay (j5 dX P w K mg base N qual (aH st) f cdv A outer s H E).nox (cP st) t∧t { nx:=fun _ H'=>Q .non H',rt:=Q } (start N vs) H):bB P w K mg base dX (k+1) f fd ps sp:=by
 obtain ⟨oc,od,kV,doc,pm,an,cdv,ct,osl,rfl,lk,hcd⟩:=F.ex;refine ⟨len,fun A outer s H args us vs Q E hr e0 hb r hsp=>?_⟩;have hl:=len _ _ _ _ hsp;have KX:K.In s.heap:=e0.mod.kin.keeps fun b o e=>(e0.bs b o e).1;have lim:s.heap.NoLimit:=e0.mod.nolimit.keeps fun b o e=>(e0.bs b o e).1;have hkind:∀ y∈ps.zip us,(aH st).names.lookup y.1=some .local∨((aH st).names.lookup y.1=some .cell∧((cellsFrom (s.heap.objs.size+1) (aH st).names []).lookup y.1).isSome=true):=fun ⟨n,v⟩ hy=>by
  rcases S.par n (W9 hy).1 with q | q
  ·exact .inl q
  ·exact .inr ⟨q,PySem.W.cellsFrom_some _ _ _ (.inl q)⟩
 refine codeAny_call_function hr.depth (KX _ _ lk) rfl S.co S.gen rfl (PySem.W.codeRec_of KX hcd) (hb _ _ _ _ ?_);refine wpAny_newFunctionEnv_cells S.kind hkind fun env he s1 x=>?_;subst he;refine ⟨lim.keeps x.toInCall.keep,codeAny_func ?_⟩;obtain ⟨t,ht,hq⟩:=hbody cdv A outer s H vs Q E (hr.deeper _) hsp;have I:aL (j5 dX P w K mg base N qual (aH st) f cdv A outer s H E) [] (start N vs) H s1:=pC S hr.hd e0 hl r x;refine wpAny_mono (ht s1 (start N vs) H _ (I.wish _) hq) (fun fl s' hs=>?_) fun e s' hs=>False.elim hs;have hs:=SP.unwish hs;have fin:∀ {σ':St}{H':Hp}{v:V}{u:Value},aL (j5 dX P w K mg base N qual (aH st) f cdv A outer s H E) [] σ' H' s' →RelV v u →Q v H' →CE outer P w H s Q u s' :=
  fun {σ' H' v u} J rv q=>⟨v,H',J.os,J.bare,J.base,J.hok,rv,q⟩
 cases fl with
 | ret u =>
  obtain ⟨v,σ',H',J,rv,q⟩:=hs;exact fin J rv q
 | next =>
  obtain ⟨σ',H',J,q⟩:=hs;exact fin (v:=V.non) (u:=Value.none) J rfl q
 | brk =>
  obtain ⟨_,_,_,q⟩:=hs;exact False.elim q
 | cont =>
  obtain ⟨_,_,_,q⟩:=hs;exact False.elim q
end
end L2
namespace L2
open PySem PySem.Spec PySem.Calls PyProof.Rows PySem.W Builtin Builtin.ObjectAttr
def vD:List Value →Bool
 | []=>false
 | .ref _::r=>vD r
 | v::r=>(v::r)==oM
theorem oZ (self:Value):∀ l:List Value,vD l=true →refuseLoop self "__setattr__" l=pure ()
 | [],e=>nomatch e
 | v::r,e=>by
  cases v
  case ref C=>rw [refuseLoop_ref]; exact oZ self r e
  all_goals
   rw [show (_::r)=oM from eq_of_beq e];exact PySem.F.store_ValueError.passes self
theorem sV:∀ l:List Value,vD l=true →l.contains (.type "object")=true
 | [],e=>nomatch e
 | v::r,e=>by
  cases v
  case ref C=>rw [XH,sV r e,Bool.or_true]
  all_goals
   rw [show (_::r)=oM from eq_of_beq e]
   decide +kernel
structure zR (K:Frag)(C:Addr):Prop where
 sa:findIn K (.ref C) "__setattr__" = some (some (.builtin "object.__setattr__"))
 hd:hasDictIn K C=true
 ov:((clsIn K C).any fun cd=>vD cd.mro)=true
def XD (d:Addr)(fs:List (Str×V))(h:Heap):Prop:=∃ mA,h.Ns1 d mA∧(∀ f,jQ (fs.lookup f) (mA f))∧PySem.Within mA (fs.map (·.1))
def tW (a:Addr)(cls:Value)(d:Addr)(h:Heap):Prop:=∃ vs sl,h.get? a=some ⟨cls,some d,.fields vs,sl⟩
theorem p7 {d:Addr}{fs:List (Str×V)}{h1 h2:Heap}(x:XD d fs h1)(k:∀ o,h1.get? d=some o →h2.get? d=some o):XD d fs h2:=let ⟨mA,n,r,w⟩:=x; ⟨mA,n.at k,r,w⟩
theorem q8 {e:Addr}{cls:Value}{od:Option Addr}{h1 h2:Heap}(x:kJ e cls od h1)(k:∀ o,h1.get? e=some o →h2.get? e=some o):kJ e cls od h2:=let ⟨vs,a0,g,r⟩:=x; ⟨vs,a0,k _ g,r⟩
theorem wY {e:Addr}{cls:Value}{d:Addr}{h1 h2:Heap}(x:tW e cls d h1)(k:∀ o,h1.get? e=some o →h2.get? e=some o):tW e cls d h2:=let ⟨vs,sl,g⟩:=x; ⟨vs,sl,k _ g⟩
section
variable {prog:Program}{w:World}{A:Around}{s:Shared}{K:Frag}{x C:Addr}
theorem pA {R:Result →Shared →Prop}{ox:Obj}{od:Option Obj}{name:Str}{tk:Tok}{v:Value}(X:K.In s.heap)(I:InstAt s.heap x ox C od)(xf:zR K C)(n:findIn K (.ref C) name=some none)
  (h:wpAny (model prog w) A.in1 (storeInOwnDict (.ref x) (.ref C) (.str name tk) name v false)
   (fun fin s'=>match fin with | .done f=>R (.ok f) s' | .again c'=>c'.quiet=true∧codeAny (model prog w) A c' R s') (fun e s'=>R (.error e) s') s) :
  codeAny (model prog w) A (.call (.builtin "object.__setattr__") ⟨[.ref x,.str name tk,v],[]⟩) R s:=by
 obtain ⟨cd,hc,ho⟩:=any_some xf.ov;have mne:cd.mro.isEmpty=false:=by
  cases q:cd.mro with
  | nil=>rw [q] at ho; cases ho
  | cons _ _=>rfl
 have T:=I.type (M:=model prog w);have sub:Looks (model prog w) s.heap (isInstance (.ref x) (.type "object")) true:=T.andThen (looks_mroIn X (by unfold mroIn; rw [hc,Option.bind_some,mne,sV _ ho]; rfl));have hm:Looks (model prog w) s.heap (mroOf (.ref C)) cd.mro:=(looks_clsIn X hc).andThen .now;have SF:=PySem.F.store_object;refine codeAny_call_builtin SF.slot.plain SF.entry (check_slot (i:="object.__setattr__") (owner:="object") (n:="__setattr__") (self:=.ref x) (rest:=[.str name tk,v]) (kw:=[]) SF.kind SF.split sub (SF.args (.ref x) (.str name tk) v) ?_);rw [osa_eq,refuse_eq];refine wpAny_bind (wpAny_bind (T.here (wpAny_bind (hm.here ?_))));rw [oZ _ _ ho];exact wpAny_pure (wpAny_bind (T.here (wpAny_bind ((looks_findIn X n).here (wpAny_bind (wpAny_pure h))))))
end
section
variable {X:Cx}{pins:List (Addr×Obj)}{σ:St}{H:Hp}{s:Shared}{a C d:Addr}{fs:List (Str×V)}{f:Str}{y:V}{u:Value}{A:Around}{E:Value →Shared →Prop}
theorem xT {Q:Unit →Shared →Prop}(I:aL X pins σ H s)(e:H a=some (.ext (kJ a (.ref C) none)))(xf:zR X.K C)(n:cB X.K C f)(ry:RelV y u)
  (h:∀ d s',H d=none →aL X pins σ (aR (aR H d (.ext (XD d [(f,y)]))) a (.ext (kJ a (.ref C) (some d)))) s' →Q () s'):wpAny (model X.prog X.w) A (setAttr (.ref a) f u) Q E s:=by
 obtain ⟨⟨vs,a0,hx,h0,h1⟩,_,_⟩:=(show bH X.prog X.w H s.heap a (.ext (kJ a (.ref C) none)) from I.hok a _ e)
 have J:InstAt s.heap a ⟨.ref C,none,.fields vs,#[]⟩ C none:=⟨hx,rfl,rfl,True.intro⟩
 refine PySem.W.set_plain I.kIn J xf.sa (pA (s:={ s with toks:=s.toks+1 }) I.kIn J xf n ?_);obtain ⟨cd,hc,hd'⟩:=any_some xf.hd;unfold storeInOwnDict;refine wpAny_bind (wpAny_pure (wpAny_bind (wpAny_bind (wpAny_loadPart hx (wpAny_bind (PySem.W.Looks.here (s:={ s with toks:=s.toks+1 }) (PySem.W.looks_clsIn I.kIn hc) ?_))))));rw [hd'];have hne:a≠s.heap.objs.size:=V6 (VM hx);have hx1:=VJ (h:=s.heap) { cls:=.type "dict",data:=.dict #[] } hx;have hd1:(s.heap.push { cls:=.type "dict",data:=.dict #[] }).get? s.heap.objs.size=some { cls:=.type "dict",data:=.dict #[] }:=V5 s.heap rfl;have n1:(s.heap.push { cls:=.type "dict",data:=.dict #[] }).Ns1 s.heap.objs.size (fun _=>none):=Heap.Ns1.of_empty ⟨_,#[],_,hd1,rfl,(fun e he=>absurd he (by simp)),fun _=>rfl⟩;have Hd:H s.heap.objs.size=none:=I.hok.fresh (VP _);have I1:aL X pins σ (aR H s.heap.objs.size (.ext (XD s.heap.objs.size []))) { s with heap:=s.heap.push { cls:=.type "dict",data:=.dict #[] },toks:=s.toks } :=
  I.laid (fun b u q=>VJ _ q) (VP _) ⟨⟨_,n1,fun _=>True.intro,PySem.Within.nil⟩,⟨_,hd1⟩,fun _ _ q k=>p7 q k⟩
 refine wpAny_bind (wpAny_alloc' (wpAny_bind (wpAny_update' hx1 (wpAny_pure ?_))));have hx2:((s.heap.push { cls:=.type "dict",data:=.dict #[] }).update a fun o=>{ o with dict:=some s.heap.objs.size }).get? a=some ⟨.ref C,some s.heap.objs.size,.fields vs,#[]⟩:=W7 _ hx1 rfl;have kp:∀ b o,b≠a →(s.heap.push { cls:=.type "dict",data:=.dict #[] }).get? b=some o →((s.heap.push { cls:=.type "dict",data:=.dict #[] }).update a fun o=>{ o with dict:=some s.heap.objs.size }).get? b=some o:=fun b o nb q=>(WL _ _ (Ne.symm nb)).trans q;have n2:=n1.at (h':=(s.heap.push { cls:=.type "dict",data:=.dict #[] }).update a fun o=>{ o with dict:=some s.heap.objs.size }) fun o q=>kp _ o (Ne.symm hne) q;generalize (s.heap.push { cls:=.type "dict",data:=.dict #[] }).update a (fun o=>{ o with dict:=some s.heap.objs.size })=h2 at hx2 kp n2 ⊢;have I2:aL X pins σ (aR (aR H s.heap.objs.size (.ext (XD s.heap.objs.size []))) a (.ext (kJ a (.ref C) (some s.heap.objs.size)))) { s with heap:=h2,toks:=s.toks } :=
  I1.write (x:=a) (e:=a) (by rw [aM hne,e]; exact True.intro) (.inl rfl) (fun b q hb z=>kp b q hb z) ⟨_,hx2⟩ ⟨⟨vs,a0,hx2,h0,h1⟩,⟨_,hx2⟩,fun _ _ q k=>q8 q k⟩
 show wpAny _ _ (storeInDict s.heap.objs.size (.str f s.toks) f u) _ _ _;unfold storeInDict newKeyGuard;refine wpAny_bind (wpAny_pure (wpAny_bind (wpAny_nsSet1 n2 fun h3 n3 s3=>?_)));obtain ⟨oD,esD,epD,hoD,hdD,hcD⟩:=n3.count (PySem.Within.cons f u PySem.Within.nil);refine wpAny_bind (wpAny_lookBehind hoD (by rw [hdD]; exact pastItsLine_dict (Va hcD (by rw [Vk,Wa,sizeLine_eq]; omega))) ?_);refine wpAny_pure (h s.heap.objs.size _ Hd ?_);have I3:aL X pins σ (aR (aR (aR H s.heap.objs.size (.ext (XD s.heap.objs.size []))) a (.ext (kJ a (.ref C) (some s.heap.objs.size)))) s.heap.objs.size (.ext (XD s.heap.objs.size [(f,y)]))) { s with heap:=h3,toks:=s.toks+2 }:=by
  refine I2.write (x:=s.heap.objs.size) (e:=s.heap.objs.size) (by rw [aM (Ne.symm hne),aB]; exact True.intro) (.inl rfl) (fun b q hb z=>(s3.2 b hb).trans z) ⟨_,hoD⟩ ⟨⟨_,n3,fun g=>?_,fun g hg=>?_⟩,⟨_,hoD⟩,fun _ _ q k=>p7 q k⟩
  ·show jQ (Vz g [(f,y)]) (if g=f then some u else none)
   by_cases q:g=f
   ·subst q; simp only [Vz,beq_self_eq_true,if_true]; exact ry
   ·have hb:(g==f)=false:=beq_eq_false_iff_ne.mpr q;simp only [Vz,hb,if_neg q];exact True.intro
  ·by_cases q:g=f
   ·rw [q]; exact Vn
   ·exact absurd (if_neg q) hg
 have e3:aR (aR H s.heap.objs.size (.ext (XD s.heap.objs.size [(f,y)]))) a (.ext (kJ a (.ref C) (some s.heap.objs.size)))=aR (aR (aR H s.heap.objs.size (.ext (XD s.heap.objs.size []))) a (.ext (kJ a (.ref C) (some s.heap.objs.size)))) s.heap.objs.size (.ext (XD s.heap.objs.size [(f,y)])):=by
  funext b
  unfold aR
  by_cases z:b=a
  ·subst z; simp [hne]
  ·by_cases z2:b=s.heap.objs.size
   ·have:=Ne.symm hne;simp [z2,this]
   ·simp [z,z2]
 rw [e3];exact I3
theorem wX {Q:Unit →Shared →Prop}(I:aL X pins σ H s)(e:H a=some (.ext (kJ a (.ref C) (some d))))(ed:H d=some (.ext (XD d fs)))(ne:d≠a)(hl:fs.length<1000)(xf:zR X.K C)(n:cB X.K C f)(ry:RelV y u)
  (h:∀ s',aL X pins σ (aR H d (.ext (XD d (fM f y fs)))) s' →Q () s'):wpAny (model X.prog X.w) A (setAttr (.ref a) f u) Q E s:=by
 obtain ⟨⟨vs,a0,hx,h0,h1⟩,_,_⟩:=(show bH X.prog X.w H s.heap a (.ext (kJ a (.ref C) (some d))) from I.hok a _ e)
 obtain ⟨⟨mA,n1,r,wi⟩,⟨oq,hoq⟩,_⟩:=(show bH X.prog X.w H s.heap d (.ext (XD d fs)) from I.hok d _ ed)
 have J:InstAt s.heap a ⟨.ref C,some d,.fields vs,#[]⟩ C (some oq):=⟨hx,rfl,rfl,hoq⟩
 refine PySem.W.set_plain I.kIn J xf.sa (pA (s:={ s with toks:=s.toks+1 }) I.kIn J xf n ?_);obtain ⟨cd,hc,hd'⟩:=any_some xf.hd;unfold storeInOwnDict;refine wpAny_bind (wpAny_pure (wpAny_bind (wpAny_bind (wpAny_loadPart hx (wpAny_bind (PySem.W.Looks.here (s:={ s with toks:=s.toks+1 }) (PySem.W.looks_clsIn I.kIn hc) ?_))))));rw [hd'];refine wpAny_pure (a:=some d) ?_;show wpAny _ _ (storeInDict d (.str f s.toks) f u) _ _ _;unfold storeInDict newKeyGuard;refine wpAny_bind (wpAny_pure (wpAny_bind (wpAny_nsSet1 (s:={ s with toks:=s.toks+1 }) n1 fun h3 n3 s3=>?_)));obtain ⟨oD,esD,epD,hoD,hdD,hcD⟩:=n3.count (PySem.Within.cons f u wi);refine wpAny_bind (wpAny_lookBehind hoD (by rw [hdD]; exact pastItsLine_dict (Va hcD (by rw [Vk,VR,sizeLine_eq]; omega))) ?_);refine wpAny_pure (h _ ?_);refine I.write (x:=d) (e:=d) (by rw [ed]; exact True.intro) (.inl rfl) (fun b q hb z=>(s3.2 b hb).trans z) ⟨_,hoD⟩ ⟨⟨_,n3,fun g=>?_,fun g hg=>?_⟩,⟨_,hoD⟩,fun _ _ q k=>p7 q k⟩
 ·show jQ ((fM f y fs).lookup g) (if g=f then some u else mA g);rw [gH]
  by_cases q:g=f
  ·rw [if_pos q,if_pos q]; exact ry
  ·rw [if_neg q,if_neg q]; exact r g
 ·by_cases q:g=f
  ·rw [q]; exact (eU f y fs).1
  ·refine (eU f y fs).2 g (wi g fun z=>hg ?_);show (if g=f then some u else mA g)=none;rw [if_neg q]; exact z
theorem Ac {v:V}{b:Bool}{Q:Value →Shared →Prop}(I:aL X pins σ H s)(e:H a=some (.ext (tW a (.ref C) d)))(ed:H d=some (.ext (XD d fs)))(xt:w5 X.K C)(xf:zR X.K C)(n:cB X.K C f)(l:fs.lookup f=some v)
  (h:∀ u s',aL X pins σ H s' →RelV v u →Q u s'):wpAny (model X.prog X.w) A (getAttr (.ref a) f b) Q E s:=by
 obtain ⟨⟨vs,sl,hx⟩,_,_⟩:=(show bH X.prog X.w H s.heap a (.ext (tW a (.ref C) d)) from I.hok a _ e)
 obtain ⟨⟨mA,n1,r,wi⟩,_,_⟩:=(show bH X.prog X.w H s.heap d (.ext (XD d fs)) from I.hok d _ ed)
 obtain ⟨od,hod,hl⟩:=pI n1;have J:InstAt s.heap a ⟨.ref C,some d,.fields vs,sl⟩ C (some od):=⟨hx,rfl,rfl,hod⟩
 obtain ⟨u,hu,ru⟩:=jQ.some_of (v:=v) (o:=mA f) (by rw [← l]; exact r f);have ix:wM a (.ref C) s.heap:=⟨_,hx,rfl⟩
 have K':=I.kIn;have fin:=h u _ (I.tok (s.toks+1)) ru;have lf:=looks_find (M:=model X.prog X.w) K' J (PySem.W.findObj_own xf.hd n rfl (by rw [hl,hu]));obtain ⟨hh,gg,dr,tt,os⟩:=s;have ly:=ix.ty (M:=model X.prog X.w);have lga:=looks_findIn (M:=model X.prog X.w) K' xt.ga;have lgt:=looks_findIn (M:=model X.prog X.w) K' xt.gt;unfold getAttr getAttrBy;refine wpAny_bind (wpAny_mkText (wpAny_holding (wpAny_bind (ly.at (wpAny_bind (lga.at ?_))))));show wpAny _ _ (getAttrByItsOwn _ _ _ _ _ _) _ _ _;unfold getAttrByItsOwn;refine wpAny_bind (lgt.at ?_);refine wpAny_bind (wpAny_attempt (wpAny_holding ?_));have cg:∀ nv:Value,callGetattribute (.ref a) nv (.builtin "BaseException.__getattribute__") b=boundAndCalled (.builtin "BaseException.__getattribute__") (.ref a) nv:=fun nv=>by cases b <;> rfl
 rw [cg];unfold boundAndCalled;rw [PySem.F.attr_ValueError.ga.bind (.ref a)];refine wpAny_bind (wpAny_pure (wpAny_call (codeAny_call_builtin PySem.F.attr_ValueError.ga.plain PySem.F.entry_bexc_ga (o6 (s:=⟨hh,gg,dr,tt+1,os⟩) K' ix xt ?_))));have e1:slotArgs "__getattribute__" 1 ⟨[.ref a,.str f tt],[]⟩=pure (.ref a,[.str f tt]):=rfl;unfold Builtin.«object.__getattribute__»;show wpAny _ _ (slotArgs "__getattribute__" 1 ⟨[.ref a,.str f tt],[]⟩ >>= _) _ _ _;rw [e1];refine wpAny_bind (wpAny_pure ?_);refine wpAny_bind (wpAny_pure (wpAny_bind (ly.at (wpAny_bind (lf.at ?_)))));exact wpAny_pure (handed_on (o4 ru) fin)
end
end L2
namespace L2
open PySem PySem.Spec PyProof.Rows
abbrev Cx.marked (X:Cx)(a:Addr):Cx:={ X with A:=X.A.mark (some (.ref a)),calm:=false,xe:=fun _ _=>False }
section
variable {X:Cx}{σ:St}{H:Hp}{s:Shared}{a:Addr}{h':Heap}{B:Heap}
theorem aL.mark (I:aL X [] σ H s)(a:Addr):aL (X.marked a) [] σ H s :=
 ⟨⟨I.ok.mod,I.ok.kind,I.ok.glob,I.ok.blt,I.ok.above,I.ok.inj,I.ok.has,I.ok.cab,fun z=>Bool.noConfusion (show false=true from z),I.ok.frames,I.ok.stk,I.ok.exf,I.ok.bs,I.ok.bsz,I.ok.noex,I.ok.exfs,I.ok.funs,I.ok.frf⟩,I.os,I.bare,I.base,I.loc,I.cell,I.free,I.freeC,I.pin,I.hok,I.len⟩
theorem aL.unmark (ok:X.Ok)(I:aL (X.marked a) [] σ H s):aL X [] σ H s:=⟨ok,I.os,I.bare,I.base,I.loc,I.cell,I.free,I.freeC,I.pin,I.hok,I.len⟩
theorem aL.fly (hex:X.ex=[])(hpn:X.pn=[])(I:aL X [] σ H s)(b1:B.StaysIn s.heap)(b2:B.StaysIn h')(up:s.heap.UpToSlots h')(hB:∀ b o,X.s₀.heap.get? b=some o →b∉X.fs →∃ o',B.get? b=some o')
  (hH:∀ b u,H b=some u →∃ o',B.get? b=some o'):aL X [] σ H { s with heap:=h' }:=by
 have cellK:∀ c v,s.heap.IsCell c v →h'.IsCell c v:=fun c v ⟨o,ho,hd⟩=>by
  obtain ⟨sl,e⟩:=up c o ho (fun vs z=>by rw [hd] at z; cases z);exact ⟨_,e,hd⟩
 refine ⟨I.ok,I.os,I.bare,?_,?_,fun x c e=>let ⟨v,z⟩:=I.cell x c e; ⟨v,cellK c v z⟩,I.free,I.freeC,fun p hp=>?_,lV I.hok b1 b2 hH,I.len⟩
 ·rw [hex];refine pR (by have:=I.base; rw [hex] at this; exact this) b1 b2 up (fun b hb=>?_) hB;obtain ⟨_,o,ho,hd⟩:=I.funs.mem hb;exact ⟨o,ho,hd⟩
 ·obtain ⟨m,hn,hl⟩:=I.loc;refine ⟨m,up.ns hn,fun i x v e1 e2 e3=>?_⟩;obtain ⟨u,r,l⟩:=hl i x v e1 e2 e3;refine ⟨u,r,?_⟩;rcases l with l | ⟨k,c,e,z⟩
  ·exact .inl l
  ·exact .inr ⟨k,c,e,cellK _ _ z⟩
 ·rw [hpn] at hp;exact absurd hp (by simp)
theorem aL.trackX {o:HO}(hex:X.ex=[])(hpn:X.pn=[])(I:aL X [] σ H s)(n:H a=none)(n0:X.s₀.heap.get? a=none)(nL:a≠X.env.locals)(nC:∀ x c,X.env.cells.lookup x=some c →c≠a)(new:bH X.prog X.w (aR H a o) s.heap a o) :
  aL X [] σ (aR H a o) s:=by
 have ne:∀ b u,H b=some u →b≠a:=fun b u q z=>by rw [z,n] at q; cases q
 have ne0:∀ b u,X.s₀.heap.get? b=some u →b≠a:=fun b u q z=>by rw [z,n0] at q; cases q
 refine ⟨I.ok,I.os,I.bare,⟨I.base.keep,I.base.slot,fun b u q nb hx=>?_,I.base.there,fun b xs q=>?_,fun b ob u q=>?_,fun b ps q=>?_⟩,I.loc,I.cell,?_,fun x c e=>?_,fun p hp=>?_,fun b u q=>?_,I.len⟩
 ·rw [aM (ne0 b u q)]; exact I.base.free b u q nb hx
 ·have z:=I.base.tups b xs q; rw [aM (ne b _ z)]; exact z
 ·have z:=I.base.frzs b ob u q; rw [aM (ne b _ z)]; exact z
 ·obtain ⟨more,z⟩:=I.base.tbls b ps q; exact ⟨more,by rw [aM (ne b _ z)]; exact z⟩
 ·rw [aM (Ne.symm nL)]; exact I.free
 ·rw [aM (nC x c e)]; exact I.freeC x c e
 ·rw [hpn] at hp;exact absurd hp (by simp)
 ·by_cases z:b=a
  ·subst z; rw [aB] at q; cases q; exact new
  ·rw [aM z] at q;exact (I.hok b u q).stay (fun _ _ _ r=>r) (fun c r=>by rw [aM (ne c _ r)]; exact r) fun c xs r=>by rw [aM (ne c _ r)]; exact r
theorem aL.unbind {i:Nat}{n:Str}{pins:List (Addr×Obj)}{M:Model}{A:Around}{E:Value →Shared →Prop}{pos:Pos}{Q:Unit →Shared →Prop}(I:aL X pins σ H s)(hN:X.N.Nodup)(hi:X.N[i]? = some n)(hk:X.env.scope.names.lookup n=some .local)(hf:X.fn n=true)
  (h:∀ s',aL X pins (σ.set i none) H s' →Q () s'):wpAny M A (do bindName X.env n .none; unbindBehindTheSuite X.env n pos) Q E s:=by
 have hcls:(X.env.scope.kind==.class||(X.env.scope.kind==.module&&X.env.locals != X.env.globals))=false:=by rw [I.ok.kind]; rfl
 refine wpAny_bind (wpAny_bindName (iC (v:=V.non) I hN hi (.inl hk) rfl (fun s1 I1 _=>?_) (.inl hf)));unfold unbindBehindTheSuite;refine wpAny_onRaise ?_;obtain ⟨m,hn,hl⟩:=id I1.loc;have hiσ:i < σ.length:=by rw [I.len]; exact (V3.mp hi).1
 obtain ⟨u,ru,lk⟩:=hl i n .non hi (by rw [Vj hiσ]) (.inl hk);have hm:m n=some u:=by
  rcases lk with ⟨_,e⟩ | ⟨k,_⟩
  ·exact e
  ·have hk':X.env.kindOf n=some .local:=hk;rw [hk'] at k;rcases k with k | k <;> cases k
 refine wpAny_unbindName_local hk hn hm hcls fun h2 u2 hn2 hs2=>?_;obtain ⟨oL,_,_,hoL,_⟩:=id hn;have other:∀ b o,s1.heap.get? b=some o →b≠X.env.locals →h2.get? b=some o:=fun b o q nb=>(hs2.2 b nb).trans q;have gt:∀ b o,X.s₀.heap.get? b=some o →b≠X.env.locals:=fun b o q=>V6 (V2 (VM q) I.ok.above);refine h _ ⟨I1.ok,I1.os,I1.bare,⟨fun b o q nb hb hx=>other b o (I1.base.keep b o q nb hb hx) (gt b o q),fun b o q nb hb hx=>?_,I1.base.free,fun b o q hx=>?_,I1.base.tups,I1.base.frzs,I1.base.tbls⟩,⟨_,hn2,fun j y v e1 e2 e3=>?_⟩,fun y c e=>?_,I1.free,I1.freeC,fun p hp=>?_,fun b ob e=>?_,by simpa using I.len⟩
 ·obtain ⟨sl,e⟩:=I1.base.slot b o q nb hb hx;exact ⟨sl,other b _ e (gt b o q)⟩
 ·obtain ⟨o',e⟩:=I1.base.there b o q hx;exact ⟨o',other b _ e (gt b o q)⟩
 ·have hj:j≠i:=by
   rintro rfl;rw [Vj hiσ] at e2;cases e2
  rw [Vs (Ne.symm hj)] at e2;obtain ⟨u',r',q⟩:=hl j y v e1 (by rw [Vs (Ne.symm hj)]; exact e2) e3;refine ⟨u',r',?_⟩;rcases q with ⟨k,e⟩ | ⟨k,c,e,o,ho,hd⟩
  ·refine .inl ⟨k,?_⟩;have:y≠n:=fun e=>hj (mF hN e1 (e ▸ hi));show (if y=n then u2 else m y)=some u';rw [if_neg this];exact e
  ·exact .inr ⟨k,c,e,o,other c o ho (I1.cne y c e),hd⟩
 ·obtain ⟨v,o,ho,hd⟩:=I1.cell y c e;exact ⟨v,o,other c o ho (I1.cne y c e),hd⟩
 ·obtain ⟨e,n',ne,nf,d⟩:=I1.pin p hp;exact ⟨other _ _ e ne,n',ne,nf,d⟩
 ·refine (I1.hok b ob e).stay (fun c w' hc q=>other c w' q ?_) (fun _ q=>q) fun _ _ q=>q;rintro rfl;rcases hc with rfl | hc
  ·rw [I1.free] at e; cases e
  ·rw [I1.free] at hc; cases hc
end
section
variable {X:Cx}
def nW (a:Addr)(cls:Value):Option Addr →Heap →Prop
 | none=>wM a cls
 | some d=>tW a cls d
def Ends.back (D:Ends)(i:Nat):Ends:={ nx:=fun σ' H''=>D.nx (σ'.set i none) H'',rt:=D.rt,bk:=fun σ' H''=>D.bk (σ'.set i none) H'',ct:=fun σ' H''=>D.ct (σ'.set i none) H'' }
def zH (X:Cx)(φ:Addr →Value →Option Addr →Heap →Prop)(C:Addr)(i:Nat)(ts:Addr →TS)(D:Ends)(e:Value)(s1:Shared):Prop :=
 ∃ (a:Addr) (cls a0:Value) (σ':St) (H':Hp) (B:Heap) (od:Option Addr),e=.ref a∧aL X [] σ' H' s1∧Wd B X.stack a cls a0 s1.heap∧(∀ b o,X.s₀.heap.get? b=some o →b∉X.fs →∃ o',B.get? b=some o') ∧
  (∀ b u,H' b=some u →∃ o',B.get? b=some o')∧dk od a s1.heap∧PySem.W.exmOne X.K cls (.ref C)=some true∧∀ a,H' a=none →ts a (D.back i) (σ'.set i (some (.ref a))) (aR H' a (.ext (φ a cls od)))
theorem yU {φ:Addr →Value →Option Addr →Heap →Prop}{body suite:List Stmt}{b0:Stmt}{x n:Str}{np hpos pos:Pos}{C:Addr}{i:Nat}{ts:Addr →TS}{s:Shared}{σ:St}{H:Hp}{D:Ends}(hst:X.stack=X.env::X.outer)(hf:X.env.frame=some X.env.locals)(hex:X.ex=[])(hpn:X.pn=[])
  (hN:X.N.Nodup) (hi:X.N[i]? = some n) (hk:X.env.scope.names.lookup n=some .local) (hfn:X.fn n=true) (hg:Gl X x) (hm:X.mg x=some (.ref C))
  (hφ:∀ a od h o vs,h.get? a=some o →o.data=.fields vs →dk od a h →φ a o.cls od h) (hφ2:∀ a cls od (h1 h2:Heap),φ a cls od h1 →(∀ o,h1.get? a=some o →h2.get? a=some o) →φ a cls od h2)
  (I:aL X [] σ H s) (hb:wpAny (model X.prog X.w) X.A (execs body X.env) (SP X [] D) (zH X φ C i ts D) s) (hs:∀ a,mW (X.marked a) (b0::suite) (ts a)) (hd:(x==("__debug__" : Str))=false:=by decide) :
  wpAny (model X.prog X.w) X.A (exec (.Try body [.ExceptHandler (some (.Name x np)) (some n) (b0::suite) hpos] [] [] pos) X.env) (SP X [] D) X.xe s:=by
 refine wpAny_Try_except (wpAny_mono hb (fun fl s1 hq=>?_) fun e s1 hx=>?_)
 ·cases fl with
  | next =>
   obtain ⟨σ',H',J,q⟩:=hq;exact bT [] s1 σ' H' D J q
  | brk=>exact hq
  | cont=>exact hq
  | ret u=>exact hq
 ·obtain ⟨a,cls,a0,σ',H',B,od,rfl,J,fl,inB,inH,hdk,hc,hG⟩:=hx;rw [hst] at fl;refine wpAny_mono (dO (oW _ _) (wpAny_looks_onW (Q:=fun _ s2=>∃ h2,s2 = { s1 with heap:=h2 }∧Heap.HeldW B (X.env::X.outer) a cls a0 X.env.locals h2∧s1.heap.UpToSlots h2) (by rw [J.ok.frames,hst]) hf fl fun h4 held up4=>⟨h4,rfl,held,up4⟩)) (fun _ s2 hq=>?_) fun _ _ z=>z;obtain ⟨⟨h4,rfl,held,up4⟩,kd4⟩:=hq;refine wpAny_mono (dO (dU _ _) (wpAny_landsW (s:={ s1 with heap:=h4 }) (Q:=fun _ s2=>∃ h2,s2 = { s1 with heap:=h2 }∧Wd B (X.env::X.outer) a cls a0 h2∧h4.UpToSlots h2) held fun h5 fl5 up5'=>⟨h5,rfl,fl5,up5'⟩)) (fun _ s2 hq=>?_) fun _ _ z=>z;obtain ⟨⟨h5,rfl,fl5,up5'⟩,kd5⟩:=hq;have up5:=up4.trans up5';have J5:aL X [] σ' H' { s1 with heap:=h5 }:=J.fly hex hpn fl.1 fl5.1 up5 inB inH;refine wpAny_handleBy_cons (codeAny_handlers_test (fL (X:=X.marked a) (J5.mark a) hg hm ?_ hd)) (by intro q; cases q);have kin:X.K.In h5:=J5.kIn;obtain ⟨ob,hob,hobc⟩:=fl5.there;have isx:wM a cls h5:=⟨ob,hob,hobc⟩
  refine (PySem.W.exm_one kin isx.ty hc).here ?_;refine codeAny_handlers_suite_as ?_;refine wpAny_mono (dO (dU _ _) (lands_againW (s:={ s1 with heap:=h5 }) (Q:=fun _ s2=>∃ h2,s2 = { s1 with heap:=h2 }∧Wd B (X.env::X.outer) a cls a0 h2∧h5.UpToSlots h2) fl5 fun h6 fl6 up6=>⟨h6,rfl,fl6,up6⟩)) (fun _ s2 hq=>?_) fun _ _ z=>z;obtain ⟨⟨h6,rfl,fl6,up6⟩,kd6⟩:=hq;have J6:aL X [] σ' H' { s1 with heap:=h6 }:=J.fly hex hpn fl.1 fl6.1 (up5.trans up6) inB inH;obtain ⟨oe,ws,hoe,hoec,hoed,_⟩:=fl6.first
  have na:H' a=none:=by
   cases z:H' a with
   | none=>rfl
   | some u =>
    obtain ⟨o',e'⟩:=inH a u z;have:=fl6.2.1;rw [e'] at this;cases this
  have nL:a≠X.env.locals:=fun z=>by
   obtain ⟨m,⟨o,es,ep,ho,hd',_⟩,_⟩:=J6.loc;have ho:h6.get? X.env.locals=some o:=ho;rw [← z,hoe] at ho;cases ho;rw [hoed] at hd';cases hd'
  have n0:X.s₀.heap.get? a=none:=by
   cases z:X.s₀.heap.get? a with
   | none=>rfl
   | some u =>
    by_cases ha:a∈X.fs
    ·obtain ⟨_,o,ho,hd'⟩:=J6.funs.mem ha;have ho:h6.get? a=some o:=ho;rw [hoe] at ho;cases ho;exact absurd hoed (hd' _)
    ·obtain ⟨o',e'⟩:=inB a u z ha;have:=fl6.2.1;rw [e'] at this;cases this
  have nC:∀ x c,X.env.cells.lookup x=some c →c≠a:=fun x c e z=>by
   obtain ⟨v,o,ho,hd'⟩:=J6.cell x c e;have ho:h6.get? c=some o:=ho;rw [z,hoe] at ho;cases ho;rw [hoed] at hd';cases hd'
  have isx6:φ a cls od h6:=by
   have:=hφ a od h6 oe ws hoe hoed (((hdk.step kd4).step kd5).step kd6);rw [hoec] at this;exact this
  have J7:aL X [] σ' (aR H' a (.ext (φ a cls od))) { s1 with heap:=h6 }:=J6.trackX hex hpn na n0 nL nC ⟨isx6,⟨oe,hoe⟩,hφ2 a cls od⟩;refine iC (X:=X.marked a) (v:=V.ref a) (J7.mark a) hN hi (.inl hk) rfl (fun s9 J9 _=>?_) (.inl hfn);refine wpAny_mono (hs a [] s9 _ _ _ J9 (hG a na)) (fun fl' zP hq=>?_) fun _ _ z=>False.elim z;show wpAny _ X.A (do bindName X.env n .none; unbindBehindTheSuite X.env n hpos) _ _ zP;cases fl' with
  | next =>
   obtain ⟨σ2,H2,K2,q⟩:=hq;exact (K2.unmark I.ok).unbind hN hi hk hfn fun s' K3=>⟨_,H2,K3,q⟩
  | brk =>
   obtain ⟨σ2,H2,K2,q⟩:=hq;exact (K2.unmark I.ok).unbind hN hi hk hfn fun s' K3=>⟨_,H2,K3,q⟩
  | cont =>
   obtain ⟨σ2,H2,K2,q⟩:=hq;exact (K2.unmark I.ok).unbind hN hi hk hfn fun s' K3=>⟨_,H2,K3,q⟩
  | ret u =>
   obtain ⟨v,σ2,H2,K2,r,q⟩:=hq;exact (K2.unmark I.ok).unbind hN hi hk hfn fun s' K3=>⟨v,_,H2,K3,r,q⟩
end
structure jT (P:Program)(w:World)(K:PySem.W.Frag)(mg:Str →Option Value)(base:Heap)(n:Nat)(x:Str)(ps:List Str)(sp:Sp)(g:Addr)(gd:FuncData):Prop where
 ok:bB P w K mg base (m9 P w) n g gd ps sp
 bi:Binds K gd ps []
 kp:PySem.W.keepIn K (.ref g)=true
 at_:mg x=some (.ref g)
theorem jT.up {P:Program}{w:World}{K:PySem.W.Frag}{mg:Str →Option Value}{base:Heap}{n m:Nat}{x:Str}{ps:List Str}{sp:Sp}{g:Addr}{gd:FuncData}(c:jT P w K mg base n x ps sp g gd)(h:n ≤ m):jT P w K mg base m x ps sp g gd:=⟨c.ok.mono h,c.bi,c.kp,c.at_⟩
theorem rA {X:Cx}:cV (m9 X.prog X.w) X E0:=fun _ _ _ _ _ _ _ ⟨_,_,_,_,_,_,_,_,_,_,_,_,_,_,_,h⟩=>False.elim h
theorem yO {X:Cx}{n:Nat}{x:Str}{ps:List Str}{sp:Sp}{g:Addr}{gd:FuncData}{E:XK}{p pos:Pos}{e:Expr}{es:List Expr}{t:TA}(c:jT X.prog X.w X.K X.mg X.base n x ps sp g gd)(hr:cF n X.A)(hx:cV (m9 X.prog X.w) X E)(ha:PA X (e::es) t)(hg:Gl X x:=by rfl)
  (hd:(x==("__debug__" : Str))=false:=by decide) (he:starEach (e::es) X.env=(false,eval e X.env)::starEach es X.env:=by rfl) (hpl:(backTo pos (starEach es X.env)).any (·.1)=false:=by rfl) :
  PE X (.Call (.Name x p) (e::es) [] pos) (rR sp [] E t):=vH c.ok hr hg c.at_ c.kp c.bi .nil hx ha hd he hpl
theorem PS.nox {X:Cx}{st:Stmt}{t:TS}(h:PS X.nox st t):PS X st t:=fun pins s σ H D I hw =>
 wpAny_mono (h pins s σ H D (I.wish _) hw) (fun _ _ q=>q.unwish) fun _ _ z=>False.elim z
theorem eV {X:Cx}{st:Stmt}{rest:List Stmt}{t u:TS}(hs:M9 X st t)(hr:Ay X rest u):Ay X (st::rest) (Cw t u):=by
 intro s σ H D I h;refine wpAny_execs_cons (bW (hs s σ H _ I h) fun fl s1 hq=>?_);cases fl with
 | next =>
  obtain ⟨σ',H',J,q⟩:=hq;exact hr s1 σ' H' D J q
 | brk=>exact hq
 | cont=>exact hq
 | ret u=>exact hq
theorem mD {c:Addr}:∀ u',RelV (.ref c) u' →u'=Value.ref c:=fun _ h=>h
theorem QV {T:String}:∀ u',RelV (.ty T) u' →u'=Value.type T:=fun _ h=>h
end L2
namespace TD
open PySem L2
open Builtin.Int (intBits)
theorem cR.same {K:PySem.W.Frag}{H H':Hp}{v:V}{t:Value}(s:aY H H')(h:cR K H v t):cR K H' v t:=by
 cases h with
 | non=>exact .non
 | bl x=>exact .bl x
 | int i=>exact .int i
 | str x=>exact .str x
 | flt x=>exact .flt x
 | lst e=>exact .lst (s _ _ e)
 | frz e=>exact .frz (s _ _ e)
 | tup e=>exact .tup (s _ _ e)
 | dK e=>exact .dK (s _ _ e)
 | dT e=>exact .dT (s _ _ e)
 | ins e a b c d f=>exact .ins (s _ _ e) a b c d f
def zX (H:Hp)(T:String)(v:V):Prop:=∀ K:PySem.W.Frag,∃ t,cR K H v t∧PySem.W.kitOne K t (.type T)=some false
theorem zX.same {H H':Hp}{T:String}{v:V}(s:aY H H')(h:zX H T v):zX H' T v:=fun K=>let ⟨t,a,b⟩:=h K; ⟨t,cR.same s a,b⟩
theorem pO {K:PySem.W.Frag}:PySem.W.kitOne K (.type "bool") (.type "int")=some true:=by rfl
inductive jC (H:Hp)(lo hi:Int):V →Bool →Prop where
 | no {v:V} (h:zX H "int" v):jC H lo hi v false
 | bl (c:Bool):jC H lo hi (.bl c) false
 | int (i:Int):jC H lo hi (.int i) (decide (lo ≤ i)&&decide (i ≤ hi))
theorem jC.yes {H:Hp}{lo hi i:Int}(h1:lo ≤ i)(h2:i ≤ hi):jC H lo hi (.int i) true:=by
 have h:=jC.int (H:=H) (lo:=lo) (hi:=hi) i;rw [decide_eq_true h1,decide_eq_true h2] at h;exact h
theorem jC.not {H:Hp}{lo hi i:Int}(h1:i<lo∨hi<i):jC H lo hi (.int i) false:=by
 have h:=jC.int (H:=H) (lo:=lo) (hi:=hi) i;have e:(decide (lo ≤ i)&&decide (i ≤ hi))=false:=by
  rcases h1 with h1 | h1
  ·rw [decide_eq_false (by omega)]; rfl
  ·rw [decide_eq_false (p:=i ≤ hi) (by omega),Bool.and_false]
 rw [e] at h;exact h
def uU:Sp:=fun vs H Q _=>∃ (v:V) (lo hi:Int) (b:Bool),vs=[v,.int lo,.int hi]∧jC H lo hi v b∧Q (.bl b) H
theorem zU {H:Hp}{T:String}{v:V}{t:Value}(h1:∀ K:PySem.W.Frag,cR K H v t)(h2:∀ K:PySem.W.Frag,PySem.W.kitOne K t (.type T)=some false):zX H T v:=fun K=>⟨t,h1 K,h2 K⟩
theorem cR.kp {K:PySem.W.Frag}{H H':Hp}{v:V}{t:Value}(s:∀ b o,H b=some o →(∀ ps,o≠.tbl ps) →H' b=some o)(h:cR K H v t):cR K H' v t:=by
 cases h with
 | non=>exact .non
 | bl x=>exact .bl x
 | int i=>exact .int i
 | str x=>exact .str x
 | flt x=>exact .flt x
 | lst e=>exact .lst (s _ _ e fun _ z=>nomatch z)
 | frz e=>exact .frz (s _ _ e fun _ z=>nomatch z)
 | tup e=>exact .tup (s _ _ e fun _ z=>nomatch z)
 | dK e=>exact .dK (s _ _ e fun _ z=>nomatch z)
 | dT e=>exact .dT (s _ _ e fun _ z=>nomatch z)
 | ins e a b c d f=>exact .ins (s _ _ e fun _ z=>nomatch z) a b c d f
def Kt (H H':Hp):Prop:=∀ b o,H b=some o →(∀ ps,o≠.tbl ps) →H' b=some o
theorem aY.kt {H H':Hp}(s:aY H H'):Kt H H':=fun b o h _=>s b o h
theorem Kt.lst {H H':Hp}(k:Kt H H'){b:Addr}{xs:List V}(h:H b=some (.lst xs)):H' b=some (.lst xs):=k _ _ h fun _ z=>nomatch z
theorem zX.kt {H H':Hp}{T:String}{v:V}(s:Kt H H')(h:zX H T v):zX H' T v:=fun K=>let ⟨t,a,b⟩:=h K; ⟨t,cR.kp s a,b⟩
theorem jC.kt {H H':Hp}{lo hi:Int}{v:V}{b:Bool}(s:Kt H H')(h:jC H lo hi v b):jC H' lo hi v b:=by
 cases h with
 | no h=>exact .no (h.kt s)
 | bl c=>exact .bl c
 | int i=>exact .int i
section
variable {c:Cs}{K:PySem.W.Frag}{H H':Hp}{a:Addr}{ps ys:List Addr}{rs:List (Int×Sd.Sd)}{d:Nat}{j:Int×Sd.Sd →Nat}
theorem cX {x dx:Addr}{o1 o2:HO}(hx:H x=none)(hd:H dx=none)(ne:dx≠x):aY H (aR (aR H dx o1) x o2):=(aD hd o1).trans (aD (by rw [aM (Ne.symm ne)]; exact hx) o2)
end
structure Ca where
 dx:Addr
 tp:Addr
 tl:Addr
 th:Addr
 td:Addr
 ys:List Addr
 ss:List (Sd.Sd×Nat×Nat)
 ls:List V
 bs:List Bool
 sp:Int
 ds:List Addr
def KX (x:Addr)(H H':Hp):Prop:=∀ b o,b≠x →H b=some o →H' b=some o
def dN:Nat →Int
 | 0=>2
 | n+1=>4+4*(2+dN n)
end TD
namespace Tb
def lo (l0 l1:Int)(ps:List Rw):List Rw:=ps.filter fun r=>decide (r.t*l1<l0*r.b)
end Tb
namespace TD
open PySem L2
open Builtin.Int (intBits)
structure SS where
 la:Addr
 ca:Addr
 ka:Addr
 da:Addr
 ts:List Addr
 ls:List V
 ks:List Int
 pd:Int
 ds:List Addr
end TD
namespace L2
open PySem PySem.Spec PyProof.Rows
section
variable {X:Cx}
def vM (ns:List Int):List Int:=ns.foldl step_dedup []
theorem qU (ns:List Int):firstMet (fun i=>ns.getD i 0) ns.length=vM ns:=by
 unfold firstMet vM
 congr 1
 apply List.ext_getElem
 ·simp
 ·intro i h1 h2;simp [h2]
theorem wD (hc:X.calm=true):cN X (.type "set") (fun xs H Q=>∃ (a:Addr) (ns:List Int),xs=[.ref a]∧bM X.K H a (ns.map V.int)∧ns.length+1<scanBound ∧
  ∀ r,H r=none →Q (.ref r) (aR H r (.set (fun k=>(vM ns).any (·==k)) (vM ns).length))):=by
 intro pins s σ H xs us Q I r h;obtain ⟨a,ns,rfl,hS,hb,q⟩:=h;obtain ⟨u,rfl,ru⟩:=vals1 r;cases (show u=Value.ref a from ru);obtain ⟨its,rv,p,hz⟩:=I.list hS;have hi:=intsAre_of rv;have hl:its.toArray.size=ns.length:=by
  have h:=rv.length;rw [VR] at h
  simpa using h.symm
 refine call_set_list (items:=its.toArray) (ns:=ns) (I.ok.hd hc) p.isList hi (by rw [hl]; exact hb) fun h' tk hSO kp=>?_;rw [hl,qU] at hSO;refine ⟨.ref s.heap.objs.size,_,I.laid (t':=tk) (fun b o e=>kp b o (VM e) e) (VP _) (show bH X.prog X.w _ h' _ (.set _ _) from hSO),rfl,q _ (I.hok.fresh (VP _))⟩
theorem nY:cN X (.builtin "len") (fun xs H Q=>∃ (a:Addr) (S:Int →Bool) (n:Nat),xs=[.ref a]∧H a=some (.set S n)∧Q (.int n) H):=by
 intro pins s σ H xs us Q I r h;obtain ⟨a,S,n,rfl,ha,q⟩:=h;obtain ⟨u,rfl,ru⟩:=vals1 r;cases (show u=Value.ref a from ru);obtain ⟨o,es,ep,t,ho,hex,hd,_,_,hsb,hf,hn⟩:=(show bH X.prog X.w H s.heap a (.set S n) from I.hok a _ ha)
 subst hn;refine call_len_set ho hex hd hf ?_ ⟨.int es.size,H,I.kept (h':=s.heap) (fun _ _ e=>e),⟨_,rfl⟩,q⟩;have:(es.size:Int)<4096:=by unfold scanBound at hsb; omega
 exact We this (by decide)
end
section
variable {prog:Program}{w:World}{A:Around}{E:Value →Shared →Prop}{s:Shared}{a₀:Array PyProof.Rows.Keyed}
theorem z6 {st:SortSt}{m:Nat}{Q:Option Nat →SortSt →Prop}(h0:IntKeys a₀)(hn:m ≤ a₀.size)(h1:1 ≤ m)(hB:SBase a₀ st)(hs:SortedTo (arrOf st) m)(h:Q (some m) st) :
  wpS (model prog w) A E s (countRun' 0 m) Q st:=by
 rw [countRun0_eq];refine wpS_bind (wpS_ascLoop h0 hn (VP 1) h1 hB (fun i j hij hj=>hs i j hij (by omega)) fun n n1 n2 _ hor=>?_);have e:n=m:=by
  rcases hor with e | e
  ·exact e
  ·by_cases z:n=m
   ·exact z
   ·exact absurd (hs (n-1) n (by omega) (by omega)) (Int.not_le.mpr e)
 subst e;dsimp only;rw [if_pos (beq_self_eq_true n)];exact wpS_pure h
theorem Dg {st:SortSt}{Q:Unit →SortSt →Prop}(h0:IntKeys a₀)(hB:SBase a₀ st)(h64:a₀.size=64)(hs:SortedTo (arrOf st) a₀.size)
  (h:∀ st',(arrOf st').Perm a₀ →failedOf st'=none →SortedTo (arrOf st') a₀.size →Q () st'):wpS (model prog w) A E s sortRuns' Q st:=by
 rw [sortRuns'_eq];refine wpS_bind (wpS_get ?_);have hm:minRun' 64 64 0=32:=by decide
 simp only [hB.size,h64,hm];rw [h64] at hs;refine wpS_bind (wpS_mono (wpS_forRange (I:=fun x c st'=>(x=0∧c=(none,0)∧st'=st)∨(1 ≤ x∧c=(none,64)∧st'=setPending st ((pendingOf st).push (0,64,0)))) (Q:=fun c st'=>c=(none,64)∧st'=setPending st ((pendingOf st).push (0,64,0))) ?step ?fin (.inl ⟨rfl,rfl,rfl⟩)) ?post)
 case fin =>
  rintro c st' (⟨hx,_,_⟩ | ⟨_,hc,hD⟩)
  ·omega
  ·exact ⟨hc,hD⟩
 case step =>
  rintro x c st' _ hx (⟨rfl,rfl,rfl⟩ | ⟨hx1,rfl,hD⟩)
  ·dsimp only;rw [if_neg (by omega)];simp only [Nat.sub_zero,Nat.zero_add];refine wpS_bind (z6 h0 (by omega) (by decide) hB hs ?_);dsimp only;rw [if_neg (by decide)];refine wpS_bind (wpS_get ?_);rw [show (pendingOf st').back? = none by rw [hB.pend]; rfl];dsimp only;exact wpS_bind (wpS_modify (wpS_pure (.inr ⟨by omega,rfl,rfl⟩)))
  ·dsimp only;rw [if_pos (VP _)];exact wpS_pure ⟨rfl,hD⟩
 case post =>
  rintro c st' ⟨rfl,rfl⟩;dsimp only;refine wpS_bind (wpS_mono (wpS_forRange (I:=fun _ c st''=>st''=setPending st ((pendingOf st).push (0,64,0))∧c=(none,())) (Q:=fun c st''=>st''=setPending st ((pendingOf st).push (0,64,0))∧c=(none,())) ?_ (fun _ _ hh=>hh) ⟨rfl,rfl⟩) ?_)
  ·rintro x c st'' _ _ ⟨rfl,rfl⟩;refine wpS_bind (wpS_get ?_);rw [if_pos (by show ((pendingOf st).push (0,64,0)).size ≤ 1; rw [hB.pend]; exact VP 1)];exact wpS_pure ⟨rfl,rfl⟩
  ·rintro c st'' ⟨rfl,rfl⟩;exact wpS_pure (h _ hB.perm hB.failed (by rw [h64]; exact hs))
theorem qC {vs:List Value}{ns:List Int}(hI:IntsAre vs ns)(hs:ns.Pairwise (· ≤ ·)):SortedTo (pairsOf vs) (pairsOf vs).size:=by
 intro i j hij hj;have hi:i<(pairsOf vs).size:=by omega
 have hn:=hI.nums;have kk:∀ (k:Nat) (hk:k<(pairsOf vs).size),K (pairsOf vs) k=ns[k]'(by rw [← hn,VR]; rw [pairsOf_size] at hk; exact hk):=fun k hk=>by
  rw [K_eq hk];simp only [pairsOf,Array.getElem_zip,Vi];have e:ns[k]'(by rw [← hn,VR]; rw [pairsOf_size] at hk; exact hk)=(vs.map numOf)[k]'(by rw [VR]; rw [pairsOf_size] at hk; exact hk):=by simp only [hn]
  rw [e,List.getElem_map]
 rw [kk i hi,kk j hj]
 by_cases e:i=j
 ·subst e; exact Int.le_refl _
 ·exact Wi.mp hs i j _ _ (by omega)
theorem CZ {a:Addr}{vs:List Value}{ns:List Int}{n:Nat}{P:PySem.Fin →Shared →Prop}(ho:s.heap.get? a=some (seqObj "list" vs.toArray n))(hI:IntsAre vs ns)(h64:vs.length=64)(hs:ns.Pairwise (· ≤ ·))
  (h:∀ (out:Array Value) (ns':List Int),IntsAre out.toList ns' →ns'.Perm ns →ns'.Pairwise (· ≤ ·) →P (.done (.ret .none)) { s with heap:=sortedHeap s.heap a vs out }) :
  wpAny (model prog w) A (Builtin.«list.sort» ⟨[.ref a],[]⟩) P E s:=by
 rw [list_sort_plain];have ha:a<s.heap.objs.size:=VM ho;have hl:vs.toArray.size=64:=by simpa using h64
 refine wpAny_bind (listItems_at ho rfl (wpAny_bind (listUpdate_at ho rfl ?_ (by rw [hl,sizeLine_eq]; decide) (Vt _))));obtain ⟨e1,ho1⟩:∃ e1,(s.heap.update a (Obj.mapSeq fun _=>#[])).get? a=some (seqObj "list" #[] e1):=⟨_,get?_update_seq ho (fun _=>#[])⟩
 refine wpAny_bind (seqEpoch_at ho1 rfl (wpAny_bind (wpAny_newTuple (wpAny_bind (wpAny_newList (wpAny_holding ?_))) (by rw [show vs.toArray.toList=vs from rfl,h64,sizeLine_eq]; decide))));have ho6:(((s.heap.update a (Obj.mapSeq fun _=>#[])).push (seqObj "tuple" vs.toArray 0)).push (seqObj "list" #[] 0)).get? a=some (seqObj "list" #[] e1):=VJ _ (VJ _ ho1);show wpAny (model prog w) A _ P E { s with heap:=((s.heap.update a (Obj.mapSeq fun _=>#[])).push (seqObj "tuple" vs.toArray 0)).push (seqObj "list" #[] 0) };dsimp only;rw [if_neg (by rw [hl]; decide),if_neg (by rw [hl]; decide)];obtain ⟨v1,v2,rest,rfl⟩:∃ v1 v2 rest,vs=v1::v2::rest:=by
  match vs,h64 with
  | v1::v2::rest,_=>exact ⟨v1,v2,rest,rfl⟩
 rw [keyKind_ints hI];refine wpAny_bind (wpAny_pure ?_);refine wpAny_bind (wpAny_mono (Dg (a₀:=pairsOf (v1::v2::rest)) (st:=SortSt.mk' oneType' ((v1::v2::rest).toArray.zip (v1::v2::rest).toArray) #[] 7 none)
  (Q:=fun _ st'=>(arrOf st').Perm (pairsOf (v1::v2::rest))∧failedOf st'=none∧SortedTo (arrOf st') (pairsOf (v1::v2::rest)).size)
  hI.intKeys ⟨Array.Perm.refl _,rfl,rfl,rfl⟩ (by rw [pairsOf_size]; exact h64) (qC hI hs) fun st' a1 a2 a3=>⟨a1,a2,a3⟩) ?_ fun _ _ e=>e)
 rintro ⟨⟨⟩,st'⟩ s' ⟨rfl,hp,hf,hso⟩;dsimp only;refine wpAny_bind (seqEpoch_at ho6 rfl (wpAny_bind (listUpdate_at ho6 rfl ?_ (Vt _) (Va (XM ((Array.size_map ..).trans (hp.size_eq.trans ((pairsOf_size _).trans h64)))) (by rw [sizeLine_eq]; decide)))));rw [hf];simp only [bne_self_eq_false,XF,if_false];obtain ⟨ns',b1,b2,b3⟩:=sorted_out hI hp hso;exact wpAny_pure (h _ ns' b1 b2 b3)
theorem rM {l:Addr}{o:Obj}{T:String}{vs:List Value}{n:Nat}{Q:List Value →Shared →Prop}(hT:T = "list"∨T = "tuple")(ho:s.heap.get? l=some o)(hc:o.cls=.type T)(hd:o.data=.seq vs.toArray n)(hz:vs.length ≤ sizeLine)
  (h:∀ h',(∀ b u,s.heap.get? b=some u →h'.get? b=some u) →Q vs { s with heap:=h' }):wpAny (model prog w) A (collect (.ref l)) Q E s:=by
 unfold collect;refine wpAny_bind (wpAny_runValue (codeAny_builtin entry_proto_collect' ?_));show wpAny _ _ (do again (.builtin "list.__iadd__" ⟨[← newList [],.ref l],[]⟩)) _ _ s;refine wpAny_bind (wpAny_newList (wpAny_pure ⟨Code.quiet_builtin _ (by decide +kernel),codeAny_builtin entry_list_iadd' ?_⟩));show wpAny _ _ (Builtin.List.listExtendWith (.ref s.heap.objs.size) (.ref l) (.ref s.heap.objs.size)) _ _ { s with heap:=s.heap.push (seqObj "list" #[] 0) };unfold Builtin.List.listExtendWith;have ho':(s.heap.push (seqObj "list" #[] 0)).get? l=some o:=VJ _ ho;refine wpAny_bind (wpAny_typeOf (T:=T) ⟨o,ho',hc⟩ ?_);rw [if_pos (by rcases hT with e | e <;> subst e <;> simp)];refine wpAny_bind (listItems_at ho' hd (wpAny_bind (listItems_at (xs:=#[]) (n:=0) (V5 _ rfl) rfl ?_)));rw [if_neg (by simp)];refine wpAny_bind (listUpdate_at (xs:=#[]) (n:=0) (V5 _ rfl) rfl ?_ (Vt _) (by show (#[]++vs.toArray).size ≤ sizeLine+1; simp only [Array.size_append,VL,Wa]; omega));refine wpAny_pure ?_;show wpAny (model prog w) A (do
   let o ← load s.heap.objs.size
   match o.data with
   | .seq xs _=>pure xs.toList
   | _=>unsupported "internal:collect") Q E { s with heap:=(s.heap.push (seqObj "list" #[] 0)).update s.heap.objs.size (Obj.mapSeq (·++vs.toArray)) }
 refine wpAny_bind (wpAny_load (get?_update_seq (V5 _ rfl) _) ?_);show wpAny _ _ (pure ((#[]:Array Value)++vs.toArray).toList) Q E _;rw [show ((#[]:Array Value)++vs.toArray).toList=vs by simp];refine wpAny_pure (h _ fun b u e=>?_);rw [Heap.get?_update_ne _ _ _ _ (V6 (VM e))];exact VJ _ e
end
section
variable {X:Cx}
def xQ (ns:List Int):Prop:=ns.length<64∨(ns.length=64∧ns.Pairwise (· ≤ ·))
theorem p8:cN X (.builtin "sorted") (fun xs H Q=>∃ (p:Addr) (ns:List Int),xs=[.ref p]∧(bM X.K H p (ns.map V.int)∨jF X.K H p (ns.map V.int))∧xQ ns ∧
  ∀ (l:Addr) (ms:List Int),H l=none →ms.Perm ns →ms.Pairwise (· ≤ ·) →Q (.ref l) (aR H l (.lst (ms.map V.int)))):=by
 intro pins s σ H xs us Q I r h;obtain ⟨p,ns,rfl,hq,h64,q⟩:=h;obtain ⟨u,rfl,ru⟩:=vals1 r;cases (show u=Value.ref p from ru);obtain ⟨T,hT,o,its,n,ho,hc,hd,rv,hz⟩:∃ T,(T = "list"∨T = "tuple")∧∃ (o:Obj) (its:List Value) (n:Nat),s.heap.get? p=some o∧o.cls=.type T∧o.data=.seq its.toArray n∧bC (ns.map V.int) its∧(ns.map V.int).length ≤ sizeLine:=by
  rcases hq with hq | hq
  ·obtain ⟨its,rv,pl,hz⟩:=I.list hq;obtain ⟨o,ho,hc,n,hd⟩:=pl.isList;exact ⟨"list",.inl rfl,o,its,n,ho,hc,hd,rv,hz⟩
  ·obtain ⟨its,rv,pl,hz⟩:=I.tuple hq;obtain ⟨o,ho,hc,n,hd⟩:=pl;exact ⟨"tuple",.inr rfl,o,its,n,ho,hc,hd,rv,hz⟩
 have hlen:=rv.length;have hi:=intsAre_of rv;have hln:its.length=ns.length:=hi.length;refine Calls.call_function_entry kind_sorted plain_sorted entry_sorted (args_sorted1 _) ?_;unfold Builtin.«sorted»;refine wpAny_bind (m:=checkCount "sorted" 1 1 _) (wpAny_pure ?_);refine wpAny_bind (rM hT ho hc hd (by omega) fun h' kp=>?_);refine wpAny_bind (wpAny_newList ?_ (by omega));have hoL:(h'.push (seqObj "list" its.toArray 0)).get? h'.objs.size=some (seqObj "list" its.toArray 0):=V5 _ rfl;have fin:∀ (out:Array Value) (ns':List Int),IntsAre out.toList ns' →ns'.Perm ns →ns'.Pairwise (· ≤ ·) →EP X pins σ Q (.ref h'.objs.size) { s with heap:=sortedHeap (h'.push (seqObj "list" its.toArray 0)) h'.objs.size its out }:=fun out ns' a1 a2 a3=>by
  have I1:aL X pins σ H { s with heap:=h' }:=I.kept (t':=s.toks) kp;obtain ⟨ep2,eo⟩:=sortedHeap_at (out:=out) hoL;have hlo:out.toList.length=ns'.length:=a1.length;have hl2:ns'.length=ns.length:=a2.length_eq;refine ⟨.ref h'.objs.size,aR H h'.objs.size (.lst (ns'.map V.int)),I1.laid (t':=s.toks) (fun b u q=>?_) (VP _) ⟨by rw [VR]; omega,out.toList,ep2,jZ a1,by rw [Array.toArray_toList]; exact eo⟩,rfl,q _ _ (I1.hok.fresh (VP _)) a2 a3⟩;rw [sortedHeap_old (V6 (VM q)) (by rw [Ws]; exact Nat.lt_succ_of_lt (VM q))];exact VJ _ q
 rcases h64 with h64 | ⟨h64,hs⟩
 ·refine wpAny_bind (wpAny_holding (wpAny_call_entry slot_list_sort ⟨_,hoL,rfl⟩ entry_list_sort (list_sort_tree hoL hi (by omega) fun out ns' a1 a2 a3=>⟨_,rfl,?_⟩) (args_list_sort _)));exact wpAny_pure ⟨_,rfl,fin out ns' a1 a2 a3⟩
 ·refine wpAny_bind (wpAny_holding (wpAny_call_entry slot_list_sort ⟨_,hoL,rfl⟩ entry_list_sort (CZ hoL hi (by omega) hs fun out ns' a1 a2 a3=>⟨_,rfl,?_⟩) (args_list_sort _)));exact wpAny_pure ⟨_,rfl,fin out ns' a1 a2 a3⟩
def Ds:V →List V →Hp →VK →Prop:=fun x vs H Q=>∃ (l:Addr) (ns:List Int) (k:Int),x=.ref l∧vs=[.int k]∧H l=some (.lst (ns.map V.int))∧Q (.int (ns.count k:Nat)) H
theorem oF {k:Int}:∀ {us:List Value}{ns:List Int},IntsAre us ns →us.countP (fun y=>numOf y==k)=ns.count k
 | _,_,.nil=>rfl
 | _,_,.cons n t h=>by
  rw [List.countP_cons,List.count_cons,oF h]
  rfl
theorem zO:Oz X "list.count" Ds:=by
 intro pins s σ H x vs v us Q I rx rv h;obtain ⟨l,ns,k,rfl,rfl,hH,q⟩:=h;cases rx;obtain ⟨u,rfl,ru⟩:=rv.one;obtain ⟨t,rfl⟩:=ru;obtain ⟨z,its,n,r,hl,e⟩:=I.lstM hH;have hi:=intsAre_of r;refine call_meets F.slot_list_count ⟨_,e,rfl⟩ F.entry_list_count (F.args_list_count_2 _ _) (SeqAt.list_countAt l its.toArray n none #[] (.int k t) fun y=>numOf y==k) ⟨e,fun y hy=>?_,?_⟩
 ·obtain ⟨m,t',rfl⟩:=hi.all y (by simpa using hy);exact SeqAt.EqAt.int_int m t' k t
 ·refine ⟨.int (ns.count k:Nat),H,I.kept (h':=s.heap) (fun _ _ e=>e),⟨s.toks,?_⟩,q⟩;rw [show its.toArray.toList=its from rfl,oF hi]
theorem Dq {e:Expr}{a b c:TE}(h1:PE X e a)(h2:PE X e b)(h3:PE X e c):PE X e (fun σ H Q=>a σ H Q∨b σ H Q∨c σ H Q):=fun pins s σ H Q I h=>by
 rcases h with h | h | h
 ·exact h1 pins s σ H Q I h
 ·exact h2 pins s σ H Q I h
 ·exact h3 pins s σ H Q I h
end
theorem zY {ns:List Int}(nd:ns.Nodup):vM ns=ns:=by
 have go:∀ (ms ds:List Int),(ds++ms).Nodup →ms.foldl PyProof.Rows.step_dedup ds=ds++ms:=by
  intro ms
  induction ms with
  | nil=>intro ds _; simp
  | cons m ms ih =>
   intro ds h;have hm:ds.any (·==m)=false:=by
    rw [XJ];intro x hx z;have hxm:x=m:=by simpa using z
    have:=(XR.mp h).2.2 x hx m Vn;exact this hxm
   show ms.foldl PyProof.Rows.step_dedup (PyProof.Rows.step_dedup ds m)=_;have e:PyProof.Rows.step_dedup ds m=ds++[m]:=by unfold PyProof.Rows.step_dedup; rw [if_neg (by rw [hm]; exact VN)]
   rw [e,ih (ds++[m]) (by rw [Wj]; exact h),Wj]
   rfl
 exact go ns [] (by simpa using nd)
theorem nJ {X:Cx}{K:PySem.W.Frag}(hK:X.K=K):cN X (.builtin "sorted") (fun xs H Q=>∃ (p:Addr) (ns:List Int),xs=[.ref p]∧(bM K H p (ns.map V.int)∨jF K H p (ns.map V.int))∧xQ ns ∧
  ∀ (l:Addr) (ms:List Int),H l=none →ms.Perm ns →ms.Pairwise (· ≤ ·) →Q (.ref l) (aR H l (.lst (ms.map V.int)))):=by subst hK; exact p8
theorem tY {X:Cx}{K:PySem.W.Frag}(hK:X.K=K)(hc:X.calm=true):cN X (.type "set") (fun xs H Q=>∃ (a:Addr) (ns:List Int),xs=[.ref a]∧bM K H a (ns.map V.int)∧ns.length+1<scanBound ∧
  ∀ r,H r=none →Q (.ref r) (aR H r (.set (fun k=>(vM ns).any (·==k)) (vM ns).length))):=by subst hK; exact wD hc
theorem Do:bootBuiltins "set" = some (.type "set"):=by decide +kernel
section
variable {X:Cx}{K:PySem.W.Frag}{o e:Expr}{es:List Expr}{ta to:TE}{t:TA}{f name:Str}{pos apos cpos:Pos}{T id:String}{r:V →List V →Hp →VK →Prop}
theorem pU (hK:X.K=K)(he:PE X e ta)(hb:attributeBase e f X.env (eval e X.env)=eval e X.env):PE X (.Attribute e f pos) (Ik K ta f):=by subst hK; exact mR he hb
theorem DX (hK:X.K=K)(pa:PlainAttrs T)(slot:Slot T name id)(hty:typeOf (.builtin id)=pure (.type "method_descriptor"))(hm:Ol X id r)(ho:PE X o to)(ha:PA X (e::es) t)
  (hbase:attributeBase o name X.env (eval o X.env)=eval o X.env:=by rfl)
  (hfew:((backTo cpos (starEach (e::es) X.env)).all (fun x=>!x.1)&&(backToKw cpos (keywordEach [] X.env)).all (fun x=>x.1.isSome)
  &&decide ((e::es).length+([]:List Keyword).length+(if ([]:List Keyword).isEmpty then 0 else 1)<30))=true:=by rfl)
  (hline:(apos.endLine==cpos.line)=true:=by rfl) (hs:starEach (e::es) X.env=(false,eval e X.env)::starEach es X.env:=by rfl) (hplain:(backTo cpos (starEach es X.env)).any (·.1)=false:=by rfl) :
  PE X (.Call (.Attribute o name apos) (e::es) [] cpos) (Ox K T r to t):=by subst hK; exact Bc pa slot hty hm ho ha hbase hfew hline hs hplain
end
end L2
namespace TP
open PySem L2 TD
open Builtin.Int (intBits)
def hb (k b:Int):Bool:=decide (V.int (Builtin.bitAnd (k/2^b.toNat) 1)=V.int 1)
def six (n:Nat):List Int:=(WQ n).map fun (i:Nat)=>(0:Int)+(i:Int)
def iD (k:Int):List Int:=(six 6).filter (hb k)
theorem jP (n:Nat):six (n+1)=six n++[0+(n:Int)]:=by unfold six; rw [List.range_succ,Ve]; rfl
theorem uX {n:Nat}{b:Int}(h:b∈six n):0 ≤ b∧b<n:=by
 obtain ⟨i,hi,rfl⟩:=Wo.mp h;have:=WR.mp hi;omega
theorem qK (k:Int):(iD k).length ≤ 6:=Va (WP _ _) (by unfold six; rw [VR,W6]; exact VP _)
theorem gU {k b:Int}(h:b∈iD k):0 ≤ b∧b<6:=uX (WN.mp h).1
def xY:Sp:=fun vs H Q _=>∃ k b:Int,vs=[.int k,.int b]∧0 ≤ b∧Q (.bl (hb k b)) H
def mX:Sp:=fun vs H Q _=>∃ k:Int,vs=[.int k]∧∀ r H',aY H H' →H r=none →H' r=some (.lst (Is (iD k))) →Q (.ref r) H'
def Du:Sp:=fun vs H Q _=>∃ k:Int,vs=[.int k]∧∀ H',aY H H' →Q (.int ((iD k).length:Nat)) H'
inductive Sk where
 | few (c:Int)
 | groups (gs ms:List Int)
 | listed (ks:List Int)
structure JM (gs ms:List Int):Prop where
 l1:1 ≤ gs.length
 l6:gs.length ≤ 6
 g:∀ g∈gs,0 ≤ g∧g ≤ 5
 m6:ms.length=6
 m:∀ m∈ms,0 ≤ m∧m ≤ 6
structure Ec (ks:List Int):Prop where
 l1:1 ≤ ks.length
 few:xQ ks
 nd:ks.Nodup
 k:∀ k∈ks,0 ≤ k∧k ≤ 63
theorem Ec.l64 {ks:List Int}(g:Ec ks):ks.length ≤ 64:=by rcases g.few with h | h <;> omega
def xW:Sk →Prop
 | .few c=>0 ≤ c∧c ≤ 6
 | .groups gs ms=>JM gs ms
 | .listed ks=>Ec ks
def BP (gs ms:List Int)(k:Int):Bool:=(iD k).all (fun b=>decide (b<(gs.length:Int)))&&((iD k).map fun b=>gs.getD b.toNat 0).all fun g=>decide ((((iD k).map fun b=>gs.getD b.toNat 0).count g:Nat) ≤ ms.getD g.toNat 0)
def zK:Sk →Int →Bool
 | .few c,k=>decide (((iD k).length:Nat) ≤ c)
 | .groups gs ms,k=>BP gs ms k
 | .listed ks,k=>Ao (.int k) (Is ks)
def GQ (H:Hp)(p:Addr):Sk →Prop
 | .few c=>H p=some (.tup [.str "few",.int c])
 | .groups gs ms=>∃ g m,H p=some (.tup [.str "groups",.ref g,.ref m])∧H g=some (.tup (Is gs))∧H m=some (.tup (Is ms))
 | .listed ks=>∃ k,H p=some (.tup [.str "listed",.ref k])∧H k=some (.tup (Is ks))
structure oU where
 f:Addr
 g:Addr
 l:Addr
def jJ (C:Addr)(H:Hp)(x:Addr)(c:Int):Prop:=∃ dx,H x=some (.ins C dx [("limit",.int c)])
def rE (C:Addr)(H:Hp)(x:Addr)(gs ms:List Int):Prop:=∃ dx g m,H x=some (.ins C dx [("groups",.ref g),("most",.ref m)])∧H g=some (.tup (Is gs))∧H m=some (.tup (Is ms))
def sJ (C:Addr)(H:Hp)(x:Addr)(ks:List Int):Prop:=∃ dx k,H x=some (.ins C dx [("sets",.ref k)])∧H k=some (.tup (Is ks))
theorem jJ.same {C:Addr}{H H':Hp}{x:Addr}{c:Int}(s:aY H H')(h:jJ C H x c):jJ C H' x c:=by obtain ⟨dx,a⟩:=h; exact ⟨dx,s _ _ a⟩
theorem rE.same {C:Addr}{H H':Hp}{x:Addr}{gs ms:List Int}(s:aY H H')(h:rE C H x gs ms):rE C H' x gs ms:=by obtain ⟨dx,g,m,a,b,c⟩:=h; exact ⟨dx,g,m,s _ _ a,s _ _ b,s _ _ c⟩
theorem sJ.same {C:Addr}{H H':Hp}{x:Addr}{ks:List Int}(s:aY H H')(h:sJ C H x ks):sJ C H' x ks:=by obtain ⟨dx,k,a,b⟩:=h; exact ⟨dx,k,s _ _ a,s _ _ b⟩
def uV (C:Addr):Sp:=fun vs H Q _=>∃ (x:Addr) (c k:Int),vs=[.ref x,.int k]∧jJ C H x c∧∀ H',aY H H' →Q (.bl (zK (.few c) k)) H'
def uY (C:Addr):Sp:=fun vs H Q _=>∃ (x:Addr) (c:Int),vs=[.ref x]∧jJ C H x c∧∀ r H',aY H H' →GQ H' r (.few c) →Q (.ref r) H'
def tR (C:Addr):Sp:=fun vs H Q _=>∃ (x:Addr) (gs ms:List Int) (k:Int),vs=[.ref x,.int k]∧rE C H x gs ms∧JM gs ms∧∀ H',aY H H' →Q (.bl (BP gs ms k)) H'
def uL (C:Addr):Sp:=fun vs H Q _=>∃ (x:Addr) (ks:List Int) (k:Int),vs=[.ref x,.int k]∧sJ C H x ks∧Q (.bl (Ao (.int k) (Is ks))) H
def vK (C:Addr):Sp:=fun vs H Q _=>∃ (x:Addr) (ks:List Int),vs=[.ref x]∧sJ C H x ks∧∀ r H',aY H H' →GQ H' r (.listed ks) →Q (.ref r) H'
theorem An (ns:List Int):(Is ns).all jU=true:=by
 rw [Vr];intro v hv;obtain ⟨n,_,rfl⟩:=Wo.mp hv
 rfl
theorem Bh {ns:List Int}{k:Int}(h0:0 ≤ k)(h:k<(ns.length:Int)):tD (Is ns) k=some (.int (ns.getD k.toNat 0)):=by
 have hk:k.toNat<ns.length:=by omega
 have e:=gW (xs:=Is ns) (j:=k.toNat) (v:=.int (ns.getD k.toNat 0)) (by rw [Vd,V1 hk]; simp [hk]);rw [show ((k.toNat:Nat):Int)=k by omega] at e;exact e
def CQ (K:PySem.W.Frag):Sp:=fun vs H Q _=>∃ (a:Addr) (ns:List Int) (k:Int),vs=[.ref a,.int k]∧bM K H a (ns.map V.int)∧0 ≤ k∧k ≤ 1000∧∀ j,0 ≤ j →j<2147483629 →Q (.int j) H
def Ej (K:PySem.W.Frag):Sp:=fun vs H Q _=>∃ (a:Addr) (ns:List Int) (f m:Int),vs=[.ref a,.int f,.int m]∧bM K H a (ns.map V.int)∧1 ≤ f∧f ≤ 1000∧0 ≤ m∧∀ j,0 ≤ j →j ≤ m →Q (.int j) H
def lE (cs:oU)(H:Hp)(x:Addr):Sk →Prop
 | .few c=>jJ cs.f H x c
 | .groups gs ms=>rE cs.g H x gs ms
 | .listed ks=>∃ ms,ms.Perm ks∧ms.Pairwise (· ≤ ·)∧sJ cs.l H x ms
theorem lE.same {cs:oU}{H H':Hp}{x:Addr}{S:Sk}(s:aY H H')(h:lE cs H x S):lE cs H' x S:=by
 cases S with
 | few c=>exact jJ.same s h
 | groups gs ms=>exact rE.same s h
 | listed ks=>obtain ⟨ms,a,b,c⟩:=h; exact ⟨ms,a,b,c.same s⟩
def qM (K:PySem.W.Frag):Sp:=fun vs H Q _=>∃ (a:Addr) (ns:List Int),vs=[.ref a]∧bM K H a (ns.map V.int)∧ns.length ≤ 63∧∀ H',Q (.bl true) H'
end TP
namespace TP
open PySem L2 TD
theorem Ad (x y:Int):zQ (.int x) (.int y)=(x==y):=rfl
theorem t6 {x:Int}:∀ {ks:List Int},Ao (.int x) (Is ks)=true↔x∈ks
 | []=>⟨fun h=>(nomatch h),fun h=>(nomatch h)⟩
 | k::ks=>by
  have e:Ao (.int x) (Is (k::ks))=(zQ (.int k) (.int x)||Ao (.int x) (Is ks)):=rfl;rw [e,Ad,Wb,t6,Vh,beq_iff_eq];exact ⟨fun h=>h.imp Eq.symm id,fun h=>h.imp Eq.symm id⟩
def xA:Sp:=fun vs H Q _=>∃ k b:Int,vs=[.int k,.int b]∧0 ≤ b∧b<100∧Q (.int (Builtin.bitOr k (1*2^b.toNat))) H
abbrev Bs (bs:List Bool):List V:=bs.map V.bl
theorem rW {bs:List Bool}{k:Int}(h0:0 ≤ k)(h:k<(bs.length:Int)):tD (Bs bs) k=some (.bl (bs.getD k.toNat false)):=by
 have hk:k.toNat<bs.length:=by omega
 have e:=gW (xs:=Bs bs) (j:=k.toNat) (v:=.bl (bs.getD k.toNat false)) (by rw [Vd,V1 hk]; simp [hk]);rw [show ((k.toNat:Nat):Int)=k by omega] at e;exact e
theorem gR (bs:List Bool):(Bs bs).length=bs.length:=VR _
theorem BK:∀ (k:Fin 64) (b:Fin 6),hb ((k.val:Nat):Int) ((b.val:Nat):Int)=true →(2:Int)^b.val ≤ ((k.val:Nat):Int):=by decide +kernel
theorem low {k b:Int}(h0:0 ≤ k)(h1:k<64)(hb1:b∈iD k):0 ≤ k-1*2^b.toNat∧k-1*2^b.toNat<k:=by
 have r:=gU hb1;have e:=BK ⟨k.toNat,by omega⟩ ⟨b.toNat,by omega⟩;simp only [show ((k.toNat:Nat):Int)=k by omega,show ((b.toNat:Nat):Int)=b by omega] at e;have h2:=e (WN.mp hb1).2;have h3:(0:Int)<2^b.toNat:=Int.pow_pos (by decide);omega
theorem Ci:∀ (m:Fin 7) (k:Fin 64) (b:Fin 6),k.val<2^m.val →hb ((k.val:Nat):Int) ((b.val:Nat):Int)=true →b.val<m.val:=by decide +kernel
theorem Iu:∀ (m:Fin 7) (k:Fin 64) (b:Fin 6),k.val<2^m.val →b.val<m.val →0 ≤ Builtin.bitOr ((k.val:Nat):Int) (2^b.val)∧Builtin.bitOr ((k.val:Nat):Int) (2^b.val)<2^m.val:=by decide +kernel
theorem zW {m:Nat}{o e b:Int}(hm:m ≤ 6)(o0:0 ≤ o)(o1:o<2^m)(e0:0 ≤ e)(e1:e<2^m)(h:b∈iD o):0 ≤ Builtin.bitOr e (1*2^b.toNat)∧Builtin.bitOr e (1*2^b.toNat)<2^m:=by
 have r:=gU h;have p6:(2:Int)^m ≤ 64:=by
  have:m=0∨m=1∨m=2∨m=3∨m=4∨m=5∨m=6:=by omega
  rcases this with z | z | z | z | z | z | z <;> subst z <;> decide
 have pn:((2^m:Nat):Int)=(2:Int)^m:=by push_cast; rfl
 have ko:o.toNat<2^m:=by omega
 have ke:e.toNat<2^m:=by omega
 have x:=Ci ⟨m,by omega⟩ ⟨o.toNat,by omega⟩ ⟨b.toNat,by omega⟩ ko;simp only [show ((o.toNat:Nat):Int)=o by omega,show ((b.toNat:Nat):Int)=b by omega] at x;have y:=Iu ⟨m,by omega⟩ ⟨e.toNat,by omega⟩ ⟨b.toNat,by omega⟩ ke (x (WN.mp h).2);simp only [show ((e.toNat:Nat):Int)=e by omega] at y;rw [Int.one_mul];exact y
def rO (bs:List Bool)(o e:Int):List Bool:=((iD o).filter fun b=>!hb e b).map fun b=>bs.getD (Builtin.bitOr e (1*2^b.toNat)).toNat false
def yG:Sp:=fun vs H Q _=>∃ (a:Addr) (bs:List Bool) (m:Nat) (o e:Int),vs=[.ref a,.int o,.int e]∧H a=some (.lst (Bs bs))∧bs.length=2^m∧m ≤ 6∧0 ≤ o∧o<(bs.length:Int)∧0 ≤ e∧e<(bs.length:Int)∧∀ H',aY H H' →Q (.bl ((rO bs o e).any id)) H'
def pick (bs:List Bool)(s:Nat)(k:Int):Bool:=bs.getD k.toNat false&&((iD k).length==s)
def fZ (bs:List Bool)(i s:Nat):List Int:=(six i).filter (pick bs s)
theorem yW (bs:List Bool)(i s:Nat):(fZ bs i s).length ≤ i:=Va (WP _ _) (by unfold six; rw [VR,W6]; exact VP _)
theorem kE (bs:List Bool)(i s:Nat):fZ bs (i+1) s=fZ bs i s++(if pick bs s (0+(i:Int))=true then [0+(i:Int)] else []):=by
 unfold fZ;rw [jP,WM]
 congr 1
 rw [WW]
 split <;> rfl
structure Hg (H:Hp)(D:Addr)(ls:List Addr)(bs:List Bool)(i:Nat):Prop where
 lst:H D=some (.lst (ls.map V.ref))
 len:ls.length=7
 nd:ls.Nodup
 ne:∀ l∈ls,l≠D
 each:∀ (s:Nat) l,ls[s]? = some l →H l=some (.lst (Is (fZ bs i s)))
def xP:Sp:=fun vs H Q _=>∃ (a:Addr) (bs:List Bool),vs=[.ref a]∧H a=some (.lst (Bs bs))∧bs.length ≤ 64∧∀ r H' ls,aY H H' →Hg H' r ls bs bs.length →Q (.ref r) H'
theorem sE {bs:List Bool}{i s:Nat}{x:Int}(h:x∈fZ bs i s):0 ≤ x∧x<(i:Int)∧bs.getD x.toNat false=true∧(iD x).length=s:=by
 obtain ⟨h1,h2⟩:=WN.mp h;have r:=uX h1;unfold pick at h2;rw [Vc,beq_iff_eq] at h2;exact ⟨r.1,r.2,h2.1,h2.2⟩
theorem Qk {xs:List V}{i:Nat}{v:V}(h:xs[i]? = some v):tD xs (0+(i:Int))=some v:=by rw [Int.zero_add]; exact gW h
theorem PB {xs:List V}{i:Nat}{v:V}(h:xs[i+1]? = some v):tD xs (0+(i:Int)+1)=some v:=by
 have:=gW h;rw [show ((i+1:Nat):Int)=0+(i:Int)+1 by omega] at this;exact this
end TP
namespace L2
open PySem
theorem nM {X:Cx}{K:PySem.W.Frag}(h:X.K=K):cN X (.builtin "len") (fun xs H Q=>∃ p ys,xs=[.ref p]∧(bM K H p ys∨jF K H p ys)∧Q (.int ys.length) H):=by subst h; exact bL
end L2
namespace TP
open PySem L2 TD
structure Ez (K:PySem.W.Frag)(p:oU):Prop where
 hn:PySem.W.specialIn K (.builtin "object.__class__") "__get__" = some (some (.builtin "getset_descriptor.__get__"))
 htk:PySem.W.takesIn K (.builtin "object.__class__")=some true
 cf:mZ K p.f
 cg:mZ K p.g
 cl:mZ K p.l
 fa:PySem.W.findIn K (.ref p.f) "__class__" = some (some (.builtin "object.__class__"))
 fm:PySem.W.mroIn K p.f (.type "object")=some true
 ga:PySem.W.findIn K (.ref p.g) "__class__" = some (some (.builtin "object.__class__"))
 gm:PySem.W.mroIn K p.g (.type "object")=some true
 la:PySem.W.findIn K (.ref p.l) "__class__" = some (some (.builtin "object.__class__"))
 lm:PySem.W.mroIn K p.l (.type "object")=some true
 ff:PySem.W.kitOne K (.ref p.f) (.ref p.f)=some true
 gf:PySem.W.kitOne K (.ref p.g) (.ref p.f)=some false
 gg:PySem.W.kitOne K (.ref p.g) (.ref p.g)=some true
 lf:PySem.W.kitOne K (.ref p.l) (.ref p.f)=some false
 lg:PySem.W.kitOne K (.ref p.l) (.ref p.g)=some false
 ll:PySem.W.kitOne K (.ref p.l) (.ref p.l)=some true
def lF (S:Sk)(n:Nat):List Bool:=(six n).map (zK S)
theorem pF (S:Sk)(n:Nat):(lF S n).length=n:=by unfold lF six; rw [VR,VR,W6]
theorem J3 {p:oU}{ta tb:TE}{σ:St}{H:Hp}{Q:VK}{x:Addr}{S:Sk}{k:Int}(hX:lE p H x S)(hG:xW S)(hta:∀ Q':VK,Q' (.ref x) H →ta σ H Q')(htb:∀ Q':VK,(∀ H1,aY H H1 →Q' (.int k) H1) →tb σ H Q')(K:∀ H2,aY H H2 →Q (.bl (zK S k)) H2) :
  o8 p.f "may" (uV p.f) [] E0 ta (rG tb uJ) σ H Q∨o8 p.g "may" (tR p.g) [] E0 ta (rG tb uJ) σ H Q∨o8 p.l "may" (uL p.l) [] E0 ta (rG tb uJ) σ H Q:=by
 cases S with
 | few cc =>
  obtain ⟨dx,hx⟩:=(show jJ p.f H x cc from hX)
  exact .inl (hta _ ⟨x,dx,_,rfl,hx,rfl,htb _ fun H1 s1=>⟨x,cc,k,rfl,⟨dx,s1 _ _ hx⟩,fun H2 s2=>K H2 (s1.trans s2)⟩⟩)
 | groups gs ms =>
  obtain ⟨dx,g,m0,hx,hg,hm0⟩:=(show rE p.g H x gs ms from hX)
  exact .inr (.inl (hta _ ⟨x,dx,_,rfl,hx,rfl,htb _ fun H1 s1=>⟨x,gs,ms,k,rfl,⟨dx,g,m0,s1 _ _ hx,s1 _ _ hg,s1 _ _ hm0⟩,hG,fun H2 s2=>K H2 (s1.trans s2)⟩⟩))
 | listed ks =>
  obtain ⟨ms,pm,so,dx,t,hx,ht⟩:=(show ∃ ms,ms.Perm ks∧ms.Pairwise (· ≤ ·)∧sJ p.l H x ms from hX)
  have ei:Ao (.int k) (Is ms)=zK (.listed ks) k:=by
   show _=Ao _ _;rw [Vv,t6,t6];exact pm.mem_iff
  exact .inr (.inr (hta _ ⟨x,dx,_,rfl,hx,rfl,htb _ fun H1 s1=>⟨x,ms,k,rfl,⟨dx,t,s1 _ _ hx,s1 _ _ ht⟩,by rw [ei]; exact K H1 s1⟩⟩))
end TP
namespace L2
open PySem PySem.Spec PyProof.Rows
theorem cO {X:Cx}{K:PySem.W.Frag}(h:X.K=K):cN X (.type "tuple") (fun xs H Q=>∃ p ys,xs=[.ref p]∧((bM K H p ys∧∀ l,H l=none →Q (.ref l) (aR H l (.tup ys)))∨(jF K H p ys∧Q (.ref p) H))):=by subst h; exact oE
structure QE (X:Cx)(e:Expr)(t:TE):Prop where
 h:PE X e t
structure QT (X:Cx)(e:Expr)(t:TT):Prop where
 h:PT X e t
structure QA (X:Cx)(es:List Expr)(t:TA):Prop where
 h:PA X es t
structure QP (X:Cx)(pos:Pos)(ks:List (Option Expr))(vs:List Expr)(trs:List (TE×TE)):Prop where
 h:GJ X pos ks vs trs
structure QS (X:Cx)(st:Stmt)(t:TS):Prop where
 h:PS X st t
structure zT (X:Cx)(st:List Stmt)(t:TS):Prop where
 h:mW X st t
section
variable {X:Cx}{pos pos' p p2:Pos}{e a b:Expr}{es:List Expr}{te ta tb:TE}{t:TA}{x:Str}{st:Stmt}{rest:List Stmt}{ts us:TS}
theorem qv (i:Nat){x:Str}{pos:Pos}(hN:X.N[i]? = some x:=by rfl)(hv:JH X.env.scope x:=by first | exact Or.inl rfl | exact Or.inr (Or.inl rfl) | exact Or.inr (Or.inr rfl))(hd:(x==("__debug__" : Str))=false:=by decide)
  (hcd:(x==("__classdict__" : Str))=false:=by decide):QE X (.Name x pos) (Dv i):=⟨yZ hN hv hd hcd⟩
theorem aG {i:Int}{j:Nat}:QE X (.Constant (.int i) j pos) (tC (.int i)):=⟨aQ⟩
theorem xM {c:Bool}{j:Nat}:QE X (.Constant (.bool c) j pos) (tC (.bl c)):=⟨mQ⟩
theorem qO {j:Nat}:QE X (.Constant .none j pos) (tC .non):=⟨gD⟩
theorem j7 {y:Str}{j:Nat}:QE X (.Constant (.str y) j pos) (tC (.str y)):=⟨j4⟩
theorem bQ {op:Operator}{r:R2}(ho:gB X (binaryOp op) r)(ha:QE X a ta)(hb:QE X b tb):QE X (.BinOp a op b pos) (Bw r ta tb):=⟨aZ ho ha.h hb.h⟩
theorem Bf {op:UnaryOp}{r:V →Hp →VK →Prop}(ho:JN X (unaryOp op) r)(ha:QE X a ta):QE X (.UnaryOp op a pos) (Ou r ta):=⟨Eo ho ha.h⟩
theorem kI {r:R2}(hr:Eg X r)(ha:QE X a ta)(hb:QE X b tb)(hs:uW b):QE X (.Subscript a b pos) (Bw r ta tb):=⟨dY hr ha.h hb.h hs⟩
theorem bK (h:QA X es t):QE X (.List es pos) (HN t):=⟨mL h.h⟩
theorem eH {k:Nat}(h:QA X es t):QE X (.Tuple es k pos) (Gb t):=⟨jX h.h⟩
theorem aO:QA X [] uJ:=⟨aF⟩
theorem aC (ha:QE X e te)(hr:QA X es t)(hs:starEach (e::es) X.env=(false,eval e X.env)::starEach es X.env:=by rfl):QA X (e::es) (rG te t):=⟨aA ha.h hr.h hs⟩
theorem wC {T:String}{r:List V →Hp →VK →Prop}(hc:cN X (.type T) r)(hg:Gl X x)(hm:X.mg x=none)(hv:bootBuiltins x=some (.type T))(ha:QA X (e::es) t)(hn:x≠"__name__":=by decide)(hdb:(x==("__debug__" : Str))=false:=by decide)
  (he:starEach (e::es) X.env=(false,eval e X.env)::starEach es X.env:=by rfl) (hpl:(backTo pos (starEach es X.env)).any (·.1)=false:=by rfl):QE X (.Call (.Name x p) (e::es) [] pos) (KZ r t):=⟨dG hc hg hm hv ha.h hn hdb he hpl⟩
theorem xU:QE X (.Dict [] [] pos) yQ:=⟨xG⟩
theorem Ae:QP X pos [] [] []:=⟨z7⟩
theorem yH {k v:Expr}{ks:List (Option Expr)}{vs:List Expr}{tk tv:TE}{trs:List (TE×TE)}(hk:QE X k tk)(hv:QE X v tv)(hr:QP X pos ks vs trs):QP X pos (some k::ks) (v::vs) ((tk,tv)::trs):=⟨yV hk.h hv.h hr.h⟩
theorem Ab {keys:List (Option Expr)}{values:List Expr}{trs:List (TE×TE)}(h:QP X pos keys values trs)(hall:keys.all (·.isSome)=true)(hl:keys.length=values.length)(h0:keys≠[])(h15:keys.length ≤ 15):QE X (.Dict keys values pos) (Bq trs):=⟨Ah h.h hall hl h0 h15⟩
theorem gY {op:CmpOp}{r:R2}(ho:gB X (compareOp op) r)(ha:QE X a ta)(hb:QE X b tb)(hm:behindInMarks op b=false):QT X (.Compare a [op] [b] pos) (xF (Bw r ta tb)):=⟨eZ ho ha.h hb.h hm⟩
theorem Dp {i:Nat}(hN:X.N.Nodup)(hi:X.N[i]? = some x)(hx:Loc X.env.scope x)(he:QE X e te)(hs:swapsWith e (some (.Name x pos')) pos.line X.env=pure false:=by rfl)(hf:X.fn x=true∨X.env.scope.names.lookup x=some .local:=by first | exact .inl rfl | exact .inr rfl | assumption) :
  QS X (.Assign [.Name x pos'] e pos) (BW te (qY i)):=⟨bN hN hi hx he.h hs hf⟩
theorem pL {c:Expr}{l m:List Stmt}{tc:TT}(hc:QT X c tc)(ha:zT X l ts)(hb:zT X m us):QS X (.If c l m pos) (GC tc ts us):=⟨dB hc.h ha.h hb.h⟩
theorem qJ (he:QE X e te):QS X (.Return (some e) pos) (Il te):=⟨bG he.h⟩
theorem bV (h1:QS X st ts):zT X [st] ts:=⟨aJ h1.h⟩
theorem xB (h1:QS X st ts)(h2:zT X rest us):zT X (st::rest) (Cw ts us):=⟨aK h1.h h2.h⟩
end
section
variable {X:Cx}{CX:rK}{k n:Nat}{f C:Addr}{fd:FuncData}{ps:List Str}{sp:Sp}{dvs:List V}{ds:List Value}{E:XK}{x m name:Str}{p pos apos cpos:Pos}{a b e o:Expr}{es rest:List Expr}{ta tb te to:TE}{t:TA}{tA tB':TT}{T id:String}{r:V →List V →Hp →VK →Prop}
theorem jV {g:Addr}{gd:FuncData}(c:gA X.prog X.w X.K X.mg X.base n x ps sp g gd)(hr:cF n X.A)(ha:QA X (e::es) t)(hg:Gl X x:=by rfl)
  (hd:(x==("__debug__" : Str))=false:=by decide) (he:starEach (e::es) X.env=(false,eval e X.env)::starEach es X.env:=by rfl) (hpl:(backTo pos (starEach es X.env)).any (·.1)=false:=by rfl) :
  QE X (.Call (.Name x p) (e::es) [] pos) (rR sp [] E0 t):=⟨aX c hr ha.h hg hd he hpl⟩
theorem rP {g:Addr}{gd:FuncData}(c:jT X.prog X.w X.K X.mg X.base n x ps sp g gd)(hr:cF n X.A)(hx:cV (m9 X.prog X.w) X E)(ha:QA X (e::es) t)(hg:Gl X x:=by rfl)
  (hd:(x==("__debug__" : Str))=false:=by decide) (he:starEach (e::es) X.env=(false,eval e X.env)::starEach es X.env:=by rfl) (hpl:(backTo pos (starEach es X.env)).any (·.1)=false:=by rfl) :
  QE X (.Call (.Name x p) (e::es) [] pos) (rR sp [] E t):=⟨yO c hr hx ha.h hg hd he hpl⟩
theorem cY (M:Mk X.K C f)(F:bB X.prog X.w X.K X.mg X.base CX k f fd ps sp)(hr:cF (k+1) X.A)(hg:Gl X x)(hm:X.mg x=some (.ref C))(hb:Binds X.K fd ps ds)(hd:bC dvs ds)(hx:cV CX X E)
  (ha:QA X (e::es) t) (hdb:(x==("__debug__" : Str))=false:=by decide) (he:starEach (e::es) X.env=(false,eval e X.env)::starEach es X.env:=by rfl) (hpl:(backTo pos (starEach es X.env)).any (·.1)=false:=by rfl) :
  QE X (.Call (.Name x p) (e::es) [] pos) (Bx C sp dvs E t):=⟨Ar M F hr hg hm hb hd hx ha.h hdb he hpl⟩
theorem rD {pl:Sem Bool}(he:QE X o ta)(c:mZ X.K C)(hm:mJ X.K C m f)(F:bB X.prog X.w X.K X.mg X.base CX k f fd ps sp)(hr:cF k X.A)(hb:Binds X.K fd ps ds)(hd:bC dvs ds)(hx:cV CX X E)
  (ht:eval (.Call (.Attribute o m apos) [] [] pos) X.env=(do
   let ov ← eval o X.env
   standAt apos.atName
   let (f,first) ← holding [ov] (getMethod ov m pl)
   callWith pos f first (backTo pos (starEach [] X.env)) (backToKw pos (keywordEach [] X.env))):=by rfl) :
  QE X (.Call (.Attribute o m apos) [] [] pos) (o8 C m sp dvs E ta uJ):=⟨yX he.h c hm F hr hb hd hx ht⟩
theorem vA {op:CmpOp}{r:R2}(ho:gB X (compareOp op) r)(ha:QE X a ta)(hb:QE X b tb)(hm:behindInMarks op b=false):QE X (.Compare a [op] [b] pos) (Bw r ta tb):=⟨fD ho ha.h hb.h hm⟩
theorem fJ (he:QE X e te)(hs:swapsWith e none pos.line X.env=pure false:=by rfl):QS X (.Expr e pos) (Bp te):=⟨vL he.h hs⟩
end
end L2
namespace L2
open PySem PySem.Spec PySem.Calls PyProof.Rows PySem.W
structure uM (K:Frag)(C fI:Addr):Prop where
 isx:(match K.lookup C with
  | some ⟨.type "type",_,.cls cd,sl⟩=>(match cd.mro,sl.toList with
   | .ref C'::bm,[_,_,_,_,some (.builtin n),_]=>C'==C&&n=="ValueError.__new__"&&!cd.hasDel&&tailIn K oM bm&&nsOkIn K cd.ns&&nsIn K cd.ns "__init__"==some (some (.ref fI))
   | _,_=>false)
  | _=>false)=true
 fn:typeIn K (.ref fI)=some (.type "function")
 kp:keepIn K (.ref C)=true
theorem DY {K:Frag}{h:Heap}{N:Addr}{m:Str →Option Value}{n:Str}{v:Value}(k:K.In h)(G:h.Ns N m)(e:nsIn K N n=some (some v)):m n=some v:=by
 obtain ⟨o,es,ep,ho,hd,_,hf⟩:=G;unfold nsIn at e
 split at e
 case h_2=>cases e
 case h_1 q =>
  have z:=k _ _ q;rw [ho] at z;cases z;cases hd
  split at e
  case h_1 he =>
   cases e;rw [← hf];unfold nsFind findBy;rw [← XC,he]
   rfl
  case h_2=>split at e <;> cases e
theorem uM.obj {K:Frag}{h:Heap}{C fI:Addr}(x:uM K C fI)(k:K.In h):∃ (bm:List Value) (N:Addr) (nm q:Str) (bs:List Value) (hdct:Bool) (sn:List Str) (sub:List Value) (ab:Bool) (col:Option Bool) (dd:Option Addr) (k0 k1 k2 k3 k5:Option Value) (mN:Str →Option Value),
  h.get? C=some (excClassObj nm q C N bs bm hdct sn sub ab col dd k0 k1 k2 k3 k5 "ValueError.__new__")∧h.Ns N mN∧mN "__init__" = some (.ref fI)∧OwnTail h oM bm:=by
 have z:=x.isx
 split at z
 case h_2=>cases z
 case h_1 dd cd sl ho =>
  split at z
  case h_2=>cases z
  case h_1 C' bm k0 k1 k2 k3 n k5 hm hs =>
   simp only [Vc,beq_iff_eq,XQ] at z;obtain ⟨⟨⟨⟨⟨e1,e2⟩,hdel⟩,ht⟩,hok⟩,hni⟩:=z;subst e1;subst e2;obtain ⟨nm,bs,mro,ns,qn,hd,sn,sub,ab,col,del⟩:=cd;dsimp only at hm hdel hok hni;subst hm;subst hdel;obtain ⟨l⟩:=sl;obtain rfl:l=[k0,k1,k2,k3,some (.builtin "ValueError.__new__"),k5]:=hs;have g:=k _ _ ho;have nn:=isNs_of_in k hok;exact ⟨bm,ns,nm,qn,bs,hd,sn,sub,ab,col,dd,k0,k1,k2,k3,k5,_,g,.of_isNs nn,DY k (.of_isNs nn) hni,tail_of_in k ht⟩
section
variable {prog:Program}{w:World}{A:Around}{E:Value →Shared →Prop}{h:Heap}{g:Array GenState}{d:Drawn}{t:Nat}{os:OsState}{K:Frag}{C fI:Addr}
theorem wG {us:List Value}{Q:Value →Shared →Prop}(k:K.In h)(x:uM K C fI)(hl:us.length ≤ sizeLine)
  (hq:∀ h' e,W5 h h' e (.ref C) us →h.objs.size ≤ e →wpAny (model prog w) (A.under (.builtin "type.__call__" ⟨.ref C::us,[]⟩)) (call (.ref fI) (.ref e::us)) (fun r s'=>r=.none∧Q (.ref e) s') E ⟨h',g,d,t,os⟩) :
  wpAny (model prog w) A (call (.ref C) us) Q E ⟨h,g,d,t,os⟩:=by
 obtain ⟨bm,N,nm,q,bs,hdct,sn,sub,ab,col,dd,k0,k1,k2,k3,k5,mN,hC,hN,hi,TL⟩:=x.obj k;have FB:=PySem.F.excBase_ValueError;have f1:=tc_lookup;have f2:=tc_bind (.ref C);have hT:(⟨h,g,d,t,os⟩:Shared).TypeIs (.ref C) "type":=⟨_,hC,rfl⟩
 refine wpAny_call (codeAny_of_tree ?_);show wpAny _ _ (callAny (.ref C) _) _ _ _
 repeat (any_goals (first | assumption | with_reducible refine wpAny_loadPart_at hC ?_ | wp_step))
 refine ⟨rfl,codeAny_call_builtin_at (Code.quiet_builtin _ (by decide +kernel)) entry_typeCall (wpAny_check_type_call_sub hC ?_)⟩
 repeat (first | with_reducible refine wpAny_loadPart_at hC ?_ | with_reducible refine wpAny_madeBy_exc hC ?_ | wp_step)
 refine codeAny_call_builtin_code (Code.quiet_builtin _ FB.quiet) (wpAny_check_new_subU FB FB.hasB TL hC (codeAny_exc_new_subU FB FB.hasB FB TL hC ?_ hl));show wpAny _ _ _ _ _ ⟨(h.push { cls:=.type "tuple",data:=.seq us.toArray }).push { cls:=.ref C,data:=.fields #[.ref h.objs.size,.none,.none,.none,.bool false,.none] },g,d,t,os⟩;have kp:∀ b o,h.get? b=some o →((h.push { cls:=.type "tuple",data:=.seq us.toArray }).push { cls:=.ref C,data:=.fields #[.ref h.objs.size,.none,.none,.none,.bool false,.none] }).get? b=some o:=fun b o z=>VJ _ (VJ _ z);have ge:((h.push { cls:=.type "tuple",data:=.seq us.toArray }).push { cls:=.ref C,data:=.fields #[.ref h.objs.size,.none,.none,.none,.bool false,.none] }).get? (h.objs.size+1)=some { cls:=.ref C,data:=.fields #[.ref h.objs.size,.none,.none,.none,.bool false,.none] }:=by heap_get
 have gt:((h.push { cls:=.type "tuple",data:=.seq us.toArray }).push { cls:=.ref C,data:=.fields #[.ref h.objs.size,.none,.none,.none,.bool false,.none] }).get? h.objs.size=some { cls:=.type "tuple",data:=.seq us.toArray }:=VJ _ (V5 h rfl);have mk:W5 h ((h.push { cls:=.type "tuple",data:=.seq us.toArray }).push { cls:=.ref C,data:=.fields #[.ref h.objs.size,.none,.none,.none,.bool false,.none] }) (h.objs.size+1) (.ref C) us:=⟨kp,W8 (X4 _),h.objs.size,ge,W8 (VP _),gt⟩
 generalize (h.push { cls:=.type "tuple",data:=.seq us.toArray }).push { cls:=.ref C,data:=.fields #[.ref h.objs.size,.none,.none,.none,.bool false,.none] }=h2 at kp ge gt mk ⊢;have k2:K.In h2:=k.keeps kp;have hC2:=kp _ _ hC;have hN2:h2.Ns N mN:=let ⟨o,es,ep,e,r⟩:=hN; ⟨o,es,ep,kp _ _ e,r⟩;have hcC:(Value.ref C::bm).contains (.ref C)=true:=by simp
 unfold isInstance
 repeat (first | with_reducible refine wpAny_loadPart_at ge ?_ | (with_reducible refine wpAny_isSubtype_exc hC2 ?_; rw [hcC]) | wp_step)
 show wpAny _ _ (typeLookup (.ref C) _) _ _ _;refine wpAny_typeLookup_tail hC2 hN2 (TL.keeps kp) FB.mroIs FB.init.lookup ?_;rw [hi];refine wpAny_holding (wpAny_bind ((bind_fn k2 _ x.fn).here (s:=⟨h2,g,d,t,os⟩) (wpAny_bind (wpAny_mono (hq h2 _ mk (X4 _)) (fun r s' hr=>?_) fun _ _ z=>z))));obtain ⟨rfl,hQ⟩:=hr
 wp_walk
 exact hQ
end
section
variable {X:Cx}{pins:List (Addr×Obj)}{σ:St}{H:Hp}{s:Shared}
theorem yF {h h':Heap}{e:Addr}{cls:Value}{us:List Value}(mk:W5 h h' e cls us):kJ e cls none h':=let ⟨t,a,_,_⟩:=mk.there; ⟨_,.ref t,a,rfl,rfl⟩
theorem aL.madeX {h':Heap}{e:Addr}{cls:Value}{us:List Value}(I:aL X pins σ H s)(mk:W5 s.heap h' e cls us)(ge:s.heap.objs.size ≤ e):aL X pins σ (aR H e (.ext (kJ e cls none))) { s with heap:=h' }:=by
 obtain ⟨t,a,_,_⟩:=mk.there;exact I.laid (t':=s.toks) mk.keeps ge ⟨yF mk,⟨_,a⟩,fun _ _ q k=>q8 q k⟩
theorem xC {K:Frag}{prog:Program}{w:World}{A:Around}{E:Value →Shared →Prop}{env:Env}{x:Sem Value}{Q:Flow →Shared →Prop}{C fI:Addr}(hh:A.handled=none)(xi:uM K C fI)
  (h:wpAny (model prog w) A x (fun v s1=>∃ a d,v=.ref a∧K.In s1.heap∧kJ a (.ref C) (some d) s1.heap∧E (.ref a) s1) E s):wpAny (model prog w) A (raiseStmt env (some x) none) Q E s:=by
 unfold raiseStmt;refine wpAny_bind (wpAny_mono h (fun v s1 hq=>?_) fun _ _ z=>z);obtain ⟨a,d,rfl,k,⟨vs,a0,he,h0,h1⟩,hE⟩:=hq;obtain ⟨bm,N,nm,q,bs,hdct,sn,sub,ab,col,dd,k0,k1,k2,k3,k5,mN,hC,hN,hi,TL⟩:=xi.obj k;have FB:=PySem.F.excBase_ValueError;have hcB:(Value.ref C::bm).contains (.type "BaseException")=true:=by rw [XH,TL.hasType FB.hasBase,Bool.or_true]
 obtain ⟨hp,g,dr,tk,os⟩:=s1
 repeat (first | with_reducible refine wpAny_loadPart_at he ?_ | with_reducible refine wpAny_loadPart_at hC ?_ | (with_reducible refine wpAny_isSubtype_exc hC ?_; rw [hcB]) | wp_step)
 rw [h1];refine wpAny_pure ?_;rw [if_neg (by decide)];exact wpAny_pure (wpAny_raiseNew_none hh hE)
def z9 (C:Addr)(sp:Sp)(E:XK)(t:TA):TS:=fun _ σ H=>t σ H fun vs H1=>∀ a,H1 a=none →sp (.ref a::vs) (aR H1 a (.ext (kJ a (.ref C) none))) (fun v H2=>v=.non∧∃ d,H2 a=some (.ext (kJ a (.ref C) (some d)))∧E (.ref C) (some d) (zB H2 a)) E0
theorem wV {x:Str}{C fI:Addr}{E:XK}{k:Nat}{fd:FuncData}{ps:List Str}{sp:Sp}{np cpos pos:Pos}{e:Expr}{es:List Expr}{t:TA}(T:vO X E)(hc:X.calm=true)(hg:Gl X x)(hm:X.mg x=some (.ref C))(xi:uM X.K C fI)(F:bB X.prog X.w X.K X.mg X.base dX k fI fd ps sp)
  (hr:cF (k+1) X.A) (hb:Binds X.K fd ps []) (ha:PA X (e::es) t) (hps:ps.length ≤ 100:=by decide) (hd:(x==("__debug__" : Str))=false:=by decide) (he:starEach (e::es) X.env=(false,eval e X.env)::starEach es X.env:=by rfl) (hpl:(backTo cpos (starEach es X.env)).any (·.1)=false:=by rfl) :
  PS X (.Raise (some (.Call (.Name x np) (e::es) [] cpos)) none pos) (z9 C sp E t):=by
 intro pins s σ H D I h;rw [arm_exec_Raise];refine wpAny_bind (wpAny_standAt (xC (I.ok.hd hc) xi (wpAny_bind (wpAny_mono (Q:=fun v s1=>∃ a d,v=.ref a∧X.K.In s1.heap∧kJ a (.ref C) (some d) s1.heap∧X.xe (.ref a) s1) (wpAny_Call_Name_kw (fL I hg hm ?_ hd)) (fun v s3 h3=>wpAny_bind (wpAny_standAt (wpAny_pure h3))) fun _ _ z=>z))));refine PySem.W.callWith_K (h₀:=X.base) I.ok.mod.kin xi.kp (bW (ha cpos pins s σ H _ I h) fun us s1 ⟨vs,H1,I1,r,q⟩=>⟨I1.kIn,?_⟩) he hpl;have hl:(vs.length+1)=ps.length:=by
  have z:=F.len _ _ _ _ (q s1.heap.objs.size (I1.hok.fresh (VP _)));exact z
 have hu:=r.length;obtain ⟨hh,g,dr,tk,os⟩:=s1;refine wG I1.kIn xi (by show us.length ≤ _; rw [sizeLine_eq]; omega) fun h' a mk ge=>?_;have I2:=I1.madeX mk ge;have na:X.s₀.heap.get? a=none:=by
  cases z:X.s₀.heap.get? a with
  | none=>rfl
  | some o =>
   obtain ⟨m,⟨oL,_,_,hoL,_⟩,_⟩:=id I1.loc;have z1:=VM z;have z2:=VM hoL;have z3:=I1.ok.above;have ge:hh.objs.size ≤ a:=ge;exact absurd (V2 (V2 z1 z3) (Va (WK z2) ge)) (Vm _)
 have r2:bC (V.ref a::vs) (Value.ref a::us):=.cons rfl r;have hq:=q a (I1.hok.fresh ge);refine wpAny_call (codeAny_mono (F.run _ X.stack _ _ ⟨Value.ref a::us,[]⟩ (Value.ref a::us) _ _ E0 (hr.make C us []) (I2.env0.make C us []) (by have:=hb ⟨h',g,dr,tk,os⟩ (Value.ref a::us) I2.kIn (by rw [Vw,Vk]; omega); rw [Vw] at this; exact this) r2 hq) fun rr s' hq'=>?_);cases rr with
 | error e=>exact False.elim hq'
 | ok fl =>
  cases fl with
  | ret u =>
   obtain ⟨v,H',I3,rv,ev,d,hd',hE⟩:=I2.after hq';subst ev;exact ⟨rv,a,d,rfl,I3.kIn,(show bH X.prog X.w H' s'.heap a (.ext (kJ a (.ref C) (some d))) from I3.hok a _ hd').1,T pins σ H' s' a d _ I3 hd' na hE⟩
  | next=>exact False.elim hq'
  | brk=>exact False.elim hq'
  | cont=>exact False.elim hq'
variable {o e value:Expr}{f:Str}{pos pos':Pos}{ta tv:TE}
def N8 (K:Frag)(ta tv:TE)(f:Str):TS:=fun D σ H=>tv σ H fun y H1=>ta σ H1 fun x H2=>∃ a C,x=.ref a∧H2 a=some (.ext (kJ a (.ref C) none))∧zR K C∧cB K C f∧∀ d,H2 d=none →D.nx σ (aR (aR H2 d (.ext (XD d [(f,y)]))) a (.ext (kJ a (.ref C) (some d))))
def Jw (K:Frag)(ta tv:TE)(f:Str):TS:=fun D σ H=>tv σ H fun y H1=>ta σ H1 fun x H2=>∃ a C d fs,x=.ref a∧H2 a=some (.ext (kJ a (.ref C) (some d)))∧H2 d=some (.ext (XD d fs))∧d≠a∧fs.length<1000∧zR K C∧cB K C f∧D.nx σ (aR H2 d (.ext (XD d (fM f y fs))))
theorem DG (ha:PE X o ta)(hv:PE X value tv)(hs:swapsWith value (some (.Attribute o f pos')) pos.line X.env=pure false):PS X (.Assign [.Attribute o f pos'] value pos) (N8 X.K ta tv f):=by
 intro pins s σ H D I h;refine plainObj_wpAny_Assign_Attribute (bW (hv pins s σ H _ I h) fun u s1 ⟨y,H1,I1,ry,q⟩=>bW (ha pins s1 σ H1 _ I1 q) fun ov s2 ⟨x,H2,I2,rx,a,C,ex,ea,xf,n,q2⟩=>?_) hs;subst ex;obtain rfl:ov=Value.ref a:=rx;exact xT I2 ea xf n ry fun d s3 hd I3=>⟨σ,_,I3,q2 d hd⟩
theorem Dj (ha:PE X o ta)(hv:PE X value tv)(hs:swapsWith value (some (.Attribute o f pos')) pos.line X.env=pure false):PS X (.Assign [.Attribute o f pos'] value pos) (Jw X.K ta tv f):=by
 intro pins s σ H D I h;refine plainObj_wpAny_Assign_Attribute (bW (hv pins s σ H _ I h) fun u s1 ⟨y,H1,I1,ry,q⟩=>bW (ha pins s1 σ H1 _ I1 q) fun ov s2 ⟨x,H2,I2,rx,a,C,d,fs,ex,ea,ed,ne,l,xf,n,q2⟩=>?_) hs;subst ex;obtain rfl:ov=Value.ref a:=rx;exact wX I2 ea ed ne l xf n ry fun s3 I3=>⟨σ,_,I3,q2⟩
def PP (K:Frag)(ta:TE)(f:Str):TE:=fun σ H Q=>ta σ H fun x H1=>∃ a C d fs v,x=.ref a∧H1 a=some (.ext (tW a (.ref C) d))∧H1 d=some (.ext (XD d fs))∧w5 K C∧zR K C∧cB K C f∧fs.lookup f=some v∧Q v H1
theorem By (he:PE X e ta)(hb:attributeBase e f X.env (eval e X.env)=eval e X.env):PE X (.Attribute e f pos) (PP X.K ta f):=by
 intro pins s σ H Q I h;refine vP hb (bW (he pins s σ H _ I h) fun u s1 ⟨x,H1,I1,rx,a,C,d,fs,v,ex,ea,ed,xt,xf,n,l,q⟩=>?_);subst ex;obtain rfl:u=Value.ref a:=rx;exact Ac I1 ea ed xt xf n l fun u' s2 I2 ru=>⟨v,H1,I2,ru,q⟩
end
end L2
namespace TP
open PySem L2 TD
open Builtin.Int (intBits)
def gC {α:Type}(f:Nat →Option α):Nat →Option α
 | 0=>none
 | i+1=>match gC f i with
  | some x=>some x
  | none=>f i
theorem dH {α:Type}{f:Nat →Option α}{i:Nat}(h:gC f i=none)(e:f i=none):gC f (i+1)=none:=by
 show (match gC f i with | some x=>some x | none=>f i)=none;rw [h];exact e
theorem dI {α:Type}{f:Nat →Option α}{x:α}{i:Nat}(h:gC f i=none)(e:f i=some x):∀ n,i<n →gC f n=some x
 | 0,l=>absurd l (Nat.not_lt_zero _)
 | n+1,l=>by
  show (match gC f n with | some x=>some x | none=>f n)=some x
  by_cases z:n=i
  ·subst z;rw [h];exact e
  ·rw [dI h e n (by omega)]
def oV (bs:List Bool)(o j:Nat):Option (Int×Int):=if bs.getD (0+(o:Int)).toNat false=true∧bs.getD (0+(o:Int)-1*2^((iD (0+(o:Int))).getD j 0).toNat).toNat false=false then some (0+(o:Int),0+(o:Int)-1*2^((iD (0+(o:Int))).getD j 0).toNat) else none
def Bg (bs:List Bool)(o:Nat):Option (Int×Int):=gC (oV bs o) (iD (0+(o:Int))).length
def sY (bs:List Bool):Option (Int×Int):=gC (Bg bs) bs.length
def vG:Sp:=fun vs H Q _=>∃ (a:Addr) (bs:List Bool),vs=[.ref a]∧H a=some (.lst (Bs bs))∧bs.length ≤ 64∧(sY bs=none →∀ H',aY H H' →Q .non H') ∧
 ∀ o e,sY bs=some (o,e) →∀ (r:Addr) (H':Hp),aY H H' →H' r=some (.tup [.str "less",.int o,.int e]) →Q (.ref r) H'
def pJ (bs:List Bool)(s j l:Nat):Option (Int×Int):=if (rO bs ((fZ bs bs.length (s+1)).getD l 0) ((fZ bs bs.length s).getD j 0)).any id=false then some ((fZ bs bs.length (s+1)).getD l 0,(fZ bs bs.length s).getD j 0) else none
def Bm (bs:List Bool)(s j:Nat):Option (Int×Int):=gC (pJ bs s j) (fZ bs bs.length (s+1)).length
def Bt (bs:List Bool)(s:Nat):Option (Int×Int):=gC (Bm bs s) (fZ bs bs.length s).length
def u5 (bs:List Bool):Option (Int×Int):=gC (Bt bs) 6
def vB:Sp:=fun vs H Q _=>∃ (a:Addr) (bs:List Bool) (m:Nat),vs=[.ref a]∧H a=some (.lst (Bs bs))∧bs.length=2^m∧m ≤ 6∧(u5 bs=none →∀ H',aY H H' →Q .non H') ∧
 ∀ o e,u5 bs=some (o,e) →∀ (r:Addr) (H':Hp),aY H H' →H' r=some (.tup [.str "more",.int o,.int e]) →Q (.ref r) H'
def u9 (bs:List Bool):Option (Str×Int×Int):=if bs.getD 0 false=false then some ("empty",0,0) else match sY bs with
 | some p=>some ("less",p)
 | none=>(u5 bs).map fun p=>("more",p)
def gM (S:Sk)(m:Nat):Option (Str×Int×Int):=u9 (lF S (2^m))
section
variable (p:oU)
def uZ:Sp:=fun vs H Q _=>∃ (x:Addr) (S:Sk) (m:Nat),vs=[.ref x,.int (m:Int)]∧lE p H x S∧xW S∧1 ≤ m∧m ≤ 6∧(gM S m=none →∀ H',aY H H' →Q .non H') ∧
 ∀ st o e,gM S m=some (st,o,e) →∀ (r:Addr) (H':Hp),aY H H' →H' r=some (.tup [.str st,.int o,.int e]) →Q (.ref r) H'
end
inductive Nums (H:Hp)(lo hi g:Int):V →Bool →Prop where
 | no {v:V} (h:zX H "list" v):Nums H lo hi g v false
 | len {a:Addr}{xs:List V} (e:H a=some (.lst xs)) (hl:¬ (lo ≤ (xs.length:Int)∧(xs.length:Int) ≤ hi)):Nums H lo hi g (.ref a) false
 | all {a:Addr}{xs:List V}{bs:List Bool} (e:H a=some (.lst xs)) (h1:lo ≤ (xs.length:Int)) (h2:(xs.length:Int) ≤ hi) (hn:xs.length ≤ 100) (hb:bs.length=xs.length) (h:∀ (i:Nat) x,xs[i]? = some x →jC H 0 g x (bs.getD i false)):Nums H lo hi g (.ref a) (bs.all id)
theorem Nums.kt {H H':Hp}{lo hi g:Int}{v:V}{b:Bool}(k:Kt H H')(h:Nums H lo hi g v b):Nums H' lo hi g v b:=by
 cases h with
 | no h=>exact .no (h.kt k)
 | len e hl=>exact .len (k.lst e) hl
 | all e h1 h2 hn hb h=>exact .all (k.lst e) h1 h2 hn hb fun i x z=>(h i x z).kt k
theorem dF {H:Hp}{lo hi g:Int}{a:Addr}{ns:List Int}(e:H a=some (.lst (Is ns)))(h1:lo ≤ (ns.length:Int))(h2:(ns.length:Int) ≤ hi)(hn:ns.length ≤ 100)(h:∀ n∈ns,0 ≤ n∧n ≤ g):Nums H lo hi g (.ref a) true:=by
 have z:=Nums.all (H:=H) (lo:=lo) (hi:=hi) (g:=g) (bs:=V0 ns.length true) e (by rw [aW]; exact h1) (by rw [aW]; exact h2) (by rw [aW]; exact hn) (by rw [Vl,aW]) fun i x hx=>by
  obtain ⟨n,hn1,rfl⟩:=jH hx;have hm:=h n (V8 hn1);rw [Vq,WF,if_pos (V3.mp hn1).1];exact jC.yes hm.1 hm.2
 have t:(V0 ns.length true).all id=true:=by
  rw [Vr];intro b hb;rw [(List.mem_replicate.mp hb).2]
  rfl
 rw [t] at z;exact z
def uC:Sp:=fun vs H Q _=>∃ (v:V) (lo hi g:Int) (b:Bool),vs=[v,.int lo,.int hi,.int g]∧Nums H lo hi g v b∧∀ H',aY H H' →Q (.bl b) H'
end TP
namespace TP
open PySem L2 TD
structure Ef (K:PySem.W.Frag)(p:oU):Prop where
 all:∀ T∈["NoneType","int","str","list","tuple","bool"],PySem.W.kitOne K (.type T) (.ref p.f)=some false∧PySem.W.kitOne K (.type T) (.ref p.g)=some false∧PySem.W.kitOne K (.type T) (.ref p.l)=some false
inductive xO (p:oU)(K:PySem.W.Frag)(H:Hp):V →Bool →Prop where
 | yes {x:Addr}{S:Sk} (h:lE p H x S):xO p K H (.ref x) true
 | no {v:V}{T:String} (h:cR K H v (.type T)) (ht:T∈["NoneType","int","str","list","tuple","bool"]):xO p K H v false
section
variable (p:oU)(K:PySem.W.Frag)(N NP:Addr)
def DQ:Sp:=fun vs H Q E=>∃ (x dx:Addr) (v:V),vs=[.ref x,v]∧H x=some (.ins p.f dx [])∧((∃ c:Int,v=.int c∧0 ≤ c∧c ≤ 6∧Q .non (aR H x (.ins p.f dx [("limit",.int c)])))∨(jC H 0 6 v false∧E (.ref N) none H))
def Cj:Sp:=fun vs H Q E=>∃ (x dx:Addr) (v u:V),vs=[.ref x,v,u]∧H x=some (.ins p.g dx [])∧((∃ (a b:Addr) (gs ms:List Int),v=.ref a∧u=.ref b∧H a=some (.lst (Is gs))∧H b=some (.lst (Is ms))∧JM gs ms ∧
 ∀ g m H',(∀ b o,b≠x →H b=some o →H' b=some o) →H' g=some (.tup (Is gs)) →H' m=some (.tup (Is ms)) →H' x=some (.ins p.g dx [("groups",.ref g),("most",.ref m)]) →Q .non H') ∨
 ((Nums H 1 6 5 v false∨(Nums H 1 6 5 v true∧Nums H 6 6 6 u false))∧∀ H',aY H H' →E (.ref N) none H'))
def BL:Sp:=fun vs H Q E=>∃ (x dx:Addr) (v:V),vs=[.ref x,v]∧H x=some (.ins p.l dx [])∧((∃ (a:Addr) (ks:List Int),v=.ref a∧H a=some (.lst (Is ks))∧Ec ks ∧
 ∀ k ms H',aY H H' →ms.Perm ks →ms.Pairwise (· ≤ ·) →H' k=some (.tup (Is ms)) →Q .non (aR H' x (.ins p.l dx [("sets",.ref k)]))) ∨
 ((Nums H 1 64 63 v false∨∃ (a:Addr) (ks:List Int),v=.ref a∧H a=some (.lst (Is ks))∧1 ≤ ks.length∧ks.length ≤ 64∧(∀ k∈ks,0 ≤ k∧k ≤ 63)∧(vM ks).length≠ks.length)∧∀ H',aY H H' →E (.ref N) none H'))
def yK:Sp:=fun vs H Q _=>∃ (v:V) (b:Bool),vs=[v]∧xO p K H v b∧Q (.bl b) H
def GR (H:Hp)(d:Addr)(o e:Int):Prop:=H d=some (.ext (XD d [("one",.int o),("other",.int e)]))
def BR:Sp:=fun vs H Q E=>∃ (v:V) (m:Nat),vs=[v,.int (m:Int)]∧((xO p K H v false∧E (.ref N) none H)∨∃ (x:Addr) (S:Sk),v=.ref x∧lE p H x S∧xW S∧1 ≤ m∧m ≤ 6∧(gM S m=none →∀ H',aY H H' →Q .non H') ∧
 ∀ st o e,gM S m=some (st,o,e) →∀ (d:Addr) (H':Hp),aY H H' →GR H' d o e →E (.ref NP) (some d) H')
def CG:Sp:=fun vs H Q _=>∃ (a:Addr) (o e:Int),vs=[.ref a,.int o,.int e]∧H a=some (.ext (kJ a (.ref NP) none))∧∀ d H',H d=none →d≠a →(∀ b u,b≠a →H b=some u →H' b=some u) →H' a=some (.ext (kJ a (.ref NP) (some d))) →GR H' d o e →Q .non H'
end
def yD:Sp:=fun vs H Q _=>∃ (c hi:Int),vs=[.int c,.int hi]∧0 ≤ c∧0 ≤ hi∧∀ v H',aY H H' →jC H' 0 hi v false →Q v H'
def Bv:Sp:=fun vs H Q _=>∃ (a:Addr) (ns:List Int) (c hi:Int),vs=[.ref a,.int c,.int hi]∧H a=some (.lst (Is ns))∧1 ≤ ns.length∧ns.length ≤ 6∧(∀ n∈ns,0 ≤ n∧n ≤ hi)∧0 ≤ c∧0 ≤ hi ∧
 ∀ v H',aY H H' →(∀ lo up:Int,lo ≤ (ns.length:Int) →(ns.length:Int) ≤ up →Nums H' lo up hi v false) →Q v H'
def Bu (N:Addr):Sp:=fun vs H Q E=>∃ (w c:Int),vs=[.int w,.int c]∧0 ≤ w∧w<7∧0 ≤ c∧∀ H',aY H H' →E (.ref N) none H'
def Bj:Sp:=fun vs H Q E=>∃ (w c:Int),vs=[.int w,.int c]∧0 ≤ w∧w<7∧0 ≤ c∧∀ H',aY H H' →Q (.bl true) H'
def Be:Sp:=fun vs H Q E=>∃ c:Int,vs=[.int c]∧∀ H',aY H H' →Q (.bl true) H'
theorem Cz {n:Nat}{k:Int}(h0:0 ≤ k)(h:k<(n:Int)):Ax n k=some k.toNat:=by
 unfold Ax;simp [show ¬ k<0 by omega,h0,h]
theorem cR.over {K:PySem.W.Frag}{H:Hp}{v:V}{t:Value}{D:Addr}{xs ys:List V}(h:cR K H v t)(e:H D=some (.lst xs)):cR K (aR H D (.lst ys)) v t:=by
 cases h with
 | non=>exact .non
 | bl x=>exact .bl x
 | int i=>exact .int i
 | str x=>exact .str x
 | flt x=>exact .flt x
 | @lst a zs g =>
  by_cases z:a=D
  ·subst z; exact .lst aB
  ·exact .lst (by rw [aM z]; exact g)
 | frz g=>exact .frz (by rw [aM (lB g e fun z=>nomatch z)]; exact g)
 | tup g=>exact .tup (by rw [aM (lB g e fun z=>nomatch z)]; exact g)
 | dK g=>exact .dK (by rw [aM (lB g e fun z=>nomatch z)]; exact g)
 | dT g=>exact .dT (by rw [aM (lB g e fun z=>nomatch z)]; exact g)
 | ins g a b c d f=>exact .ins (by rw [aM (lB g e fun z=>nomatch z)]; exact g) a b c d f
theorem jC.over {H:Hp}{lo hi:Int}{v:V}{b:Bool}{D:Addr}{xs ys:List V}(h:jC H lo hi v b)(e:H D=some (.lst xs)):jC (aR H D (.lst ys)) lo hi v b:=by
 cases h with
 | no h=>exact .no fun K=>let ⟨t,a,b⟩:=h K; ⟨t,cR.over a e,b⟩
 | bl c=>exact .bl c
 | int i=>exact .int i
structure sG (K:PySem.W.Frag)(C:Addr)(cs:List Addr):Prop where
 xt:w5 K C
 me:PySem.W.kitOne K (.ref C) (.ref C)=some true
 ve:PySem.W.kitOne K (.ref C) (.type "ValueError")=some true
 ks:∀ (i:Nat) c,cs[i]? = some c →PySem.W.kitOne K (.ref C) (.ref c)=some false
theorem sG.of {K:PySem.W.Frag}{C:Addr}{cs:List Addr}(x:w5 K C)(me:PySem.W.kitOne K (.ref C) (.ref C)=some true)(ve:PySem.W.kitOne K (.ref C) (.type "ValueError")=some true)(h:(cs.map fun c=>PySem.W.kitOne K (.ref C) (.ref c))=cs.map fun _=>some false):sG K C cs :=
 ⟨x,me,ve,fun i c e=>by
  have z:(cs.map fun c=>PySem.W.kitOne K (.ref C) (.ref c))[i]? = (cs.map fun _=>some false)[i]?:=by rw [h]
  rw [Vd,Vd,e] at z
  simpa using z⟩
theorem Ef.of {K:PySem.W.Frag}{p:oU}(h:(["NoneType","int","str","list","tuple","bool"].map fun T=>(PySem.W.kitOne K (.type T) (.ref p.f),PySem.W.kitOne K (.type T) (.ref p.g),PySem.W.kitOne K (.type T) (.ref p.l)))=["NoneType","int","str","list","tuple","bool"].map fun _=>(some false,some false,some false)):Ef K p:=⟨fun T hT=>by
 obtain ⟨i,hi⟩:=List.getElem?_of_mem hT;have z:(["NoneType","int","str","list","tuple","bool"].map fun T=>(PySem.W.kitOne K (.type T) (.ref p.f),PySem.W.kitOne K (.type T) (.ref p.g),PySem.W.kitOne K (.type T) (.ref p.l)))[i]? = (["NoneType","int","str","list","tuple","bool"].map fun (_:String)=>((some false:Option Bool),(some false:Option Bool),(some false:Option Bool)))[i]?:=by rw [h]
 rw [Vd,Vd,hi] at z
 simpa using z⟩
end TP
namespace L2
open PySem PySem.Spec PyProof.Rows
section
variable {X:Cx}
def Ge (K:PySem.W.Frag)(C:Addr)(i:Nat)(sp:Sp)(t:TA)(ts:Addr →TS):TS:=fun D σ H =>
 t σ H fun vs H1=>sp (vs++[]) H1 (fun _ H2=>D.nx σ H2) (fun cls od H'=>PySem.W.exmOne K cls (.ref C)=some true∧∀ a,H' a=none →ts a (D.back i) (σ.set i (some (.ref a))) (aR H' a (.ext (nW a cls od))))
theorem qX {suite:List Stmt}{b0:Stmt}{x n y:Str}{np hpos pos cpos cp epos:Pos}{C:Addr}{i k:Nat}{t:TA}{ts:Addr →TS}{ps:List Str}{sp:Sp}{g:Addr}{gd:FuncData}{e:Expr}{es:List Expr}
  (hst:X.stack=X.env::X.outer) (hf:X.env.frame=some X.env.locals) (hex:X.ex=[]) (hpn:X.pn=[]) (hN:X.N.Nodup) (hi:X.N[i]? = some n) (hk:X.env.scope.names.lookup n=some .local) (hfn:X.fn n=true) (hg:Gl X x) (hm:X.mg x=some (.ref C))
  (c:jT X.prog X.w X.K X.mg X.base k y ps sp g gd) (hr:cF k X.A) (hy:Gl X y) (ha:∀ G,PA (X.wish G) (e::es) t) (hs:∀ a,mW (X.marked a) (b0::suite) (ts a)) (hd:(x==("__debug__" : Str))=false:=by decide)
  (hdy:(y==("__debug__" : Str))=false:=by decide) (he:starEach (e::es) X.env=(false,eval e X.env)::starEach es X.env:=by rfl) (hpl:(backTo cpos (starEach es X.env)).any (·.1)=false:=by rfl)
  (hsw:swapsWith (.Call (.Name y cp) (e::es) [] cpos) none epos.line X.env=pure false:=by rfl) :
  M9 X (.Try [.Expr (.Call (.Name y cp) (e::es) [] cpos) epos] [.ExceptHandler (some (.Name x np)) (some n) (b0::suite) hpos] [] [] pos) (Ge X.K C i sp t ts):=by
 intro s σ H D I h;refine yU (φ:=nW) (ts:=ts) hst hf hex hpn hN hi hk hfn hg hm (fun a od h o vs g e k=>?_) (fun a cls od h1 h2 q k=>?_) I ?_ hs hd
 ·cases od with
  | none=>exact ⟨o,g,rfl⟩
  | some d =>
   obtain ⟨o',g',q⟩:=k d rfl;rw [g] at g';cases g';obtain ⟨c,dd,da,sl⟩:=o;subst q;subst e;exact ⟨vs,sl,g⟩
 ·cases od with
  | none=>obtain ⟨o,g,c⟩:=q; exact ⟨o,k o g,c⟩
  | some d=>exact wY q k
 have Iw:=I.wish (zH X nW C i ts D);refine wpAny_execs_cons (wpAny_mono (Q:=SP X [] D) (wpAny_Expr_any (wpAny_Call_Name_kw (fL I hy c.at_ ?_ hdy)) I.quiet hsw) (fun f s1 q=>?_) fun _ _ z=>z)
 ·refine PySem.W.callWith_K (h₀:=X.base) I.ok.mod.kin c.kp (wpAny_mono (ha (zH X nW C i ts D) cpos [] s σ H _ Iw h) (fun us s1 hq=>?_) fun _ _ z=>z) he hpl;obtain ⟨vs,H1,I1,r,q⟩:=hq;have I1:=I1.unwish;refine ⟨I1.kIn,?_⟩;have r2:bC (vs++[]) (us++[]):=r.append .nil;have hl:(us++[]).length=ps.length:=by rw [← r2.length]; exact c.ok.len _ _ _ _ q
  refine wpAny_call (codeAny_mono (c.ok.run X.A X.stack s1 H1 ⟨us,[]⟩ (us++[]) (vs++[]) _ _ hr I1.env0 (c.bi s1 us I1.kIn hl) r2 q) fun rr s' hq=>?_);cases rr with
  | error ev =>
   obtain ⟨a,cls,a0,H',B,od,rfl,hos,hgn,un,hok,fl,inB,inH,hdk,hE⟩:=hq;have J:=I1.call' (s':=s') (H':=H') (ch:=[]) hos un hok hgn (fun b z=>absurd z (by simp));refine ⟨a,cls,a0,σ,H',B,od,rfl,J,fl,fun b o q hb=>?_,inH,hdk,hE.1,hE.2⟩;obtain ⟨o',e'⟩:=I1.base.there b o q (by show b∉X.ex; rw [hex]; simp);refine inB b o' e' fun z=>?_;have z':b∈fH X.stack:=z;rw [hst] at z';rcases (lO hf).mp z' with z' | z'
   ·exact absurd z' (V6 (V2 (VM q) I.ok.above))
   ·exact hb z'
  | ok fl =>
   cases fl with
   | ret u =>
    obtain ⟨v,H2,J,rv,q2⟩:=I1.after hq;exact ⟨σ,H2,J,q2⟩
   | next=>exact False.elim hq
   | brk=>exact False.elim hq
   | cont=>exact False.elim hq
 ·cases f with
  | next=>exact wpAny_execs_nil q
  | ret v=>exact q
  | brk=>exact q
  | cont=>exact q
def Ml (K:PySem.W.Frag)(n:Nat):R2:=fun x y H Q=>∃ (p:Addr) (as:List Addr) (g:Addr →Bool),y=.ref p∧bM K H p (as.map V.ref)∧(∀ a∈as,DE K H n (.ref a) x (g a))∧Q (.bl (as.any g)) H
theorem vX:∀ {as:List Addr}{its:List Value},bC (as.map V.ref) its →its=as.map Value.ref
 | [],_,.nil=>rfl
 | a::as,_,.cons r t=>by
  cases (show _=Value.ref a from r);rw [vX t]
  rfl
theorem DN {n:Nat}(hu:X.A.units+n+1<cLine):gB X (compareOp .In) (Ml X.K n):=by
 intro pins s σ H x y v u Q I rx ry h;obtain ⟨p,as,g,rfl,hq,de,q⟩:=h;cases ry;obtain ⟨its,r,pl,hz⟩:=I.list hq;obtain rfl:=vX r;refine SeqAt.in_listAt (fun u=>match u with | .ref a=>g a | _=>false) pl.isList (fun w hw=>?_) ⟨.bl _,H,I,rfl,?_⟩
 ·obtain ⟨a,ha,rfl⟩:=Wo.mp (show w∈as.map Value.ref by simpa using hw);exact (de a ha).eqAt I X.A.in1 _ _ (by rw [in1_units]; omega) rfl rx
 ·have e:(as.map Value.ref).toArray.any (fun u=>match u with | .ref a=>g a | _=>false)=as.any g:=by simp [List.any_map,Function.comp_def]
  rw [e];exact q
end
end L2
namespace K35
open PySem L2 TD
def top (i:Nat):Stmt:=PySem.Challenge.pw_lidprice_k35_patterns_refused.main.body.getD i (.Pass ⟨0,0,0,0⟩)
theorem lD:aV ["thing","least","most"] ["thing","least","most"] (aH (top 14)):=⟨rfl,rfl,rfl,by decide +kernel,rfl,by decide +kernel,by decide +kernel⟩
theorem lZ:aV ["kept","box"] ["kept","box"] (aH (top 18)):=⟨rfl,rfl,rfl,by decide +kernel,rfl,by decide +kernel,by decide +kernel⟩
theorem kO:aV ["kept"] ["kept"] (aH (top 19)):=⟨rfl,rfl,rfl,by decide +kernel,rfl,by decide +kernel,by decide +kernel⟩
theorem mO:aV ["kept"] ["kept"] (aH (top 20)):=⟨rfl,rfl,rfl,by decide +kernel,rfl,by decide +kernel,by decide +kernel⟩
theorem kW:aV ["kept","box"] ["kept","box"] (aH (top 21)):=⟨rfl,rfl,rfl,by decide +kernel,rfl,by decide +kernel,by decide +kernel⟩
theorem iM:aV ["things","fewest","most","greatest_number"] ["things","fewest","most","greatest_number"] (aH (top 22)):=⟨rfl,rfl,rfl,by decide +kernel,rfl,by decide +kernel,by decide +kernel⟩
theorem iQ:aV ["thing"] ["thing"] (aH (top 27)):=⟨rfl,rfl,rfl,by decide +kernel,rfl,by decide +kernel,by decide +kernel⟩
theorem jL:aV ["lets","one","box","other"] ["lets"] (aH (top 28)):=⟨rfl,rfl,rfl,by decide +kernel,rfl,by decide +kernel,by decide +kernel⟩
theorem lC:aV ["lets","one","other"] ["lets","one","other"] (aH (top 29)):=⟨rfl,rfl,rfl,by decide +kernel,rfl,by decide +kernel,by decide +kernel⟩
theorem fP:aV ["lets","by_size","kept"] ["lets"] (aH (top 30)):=⟨rfl,rfl,rfl,by decide +kernel,rfl,by decide +kernel,by decide +kernel⟩
theorem jR:aV ["lets","by_size","size","other","one"] ["lets"] (aH (top 31)):=⟨rfl,rfl,rfl,by decide +kernel,rfl,by decide +kernel,by decide +kernel⟩
theorem vC:aV ["pattern","many","lets","less"] ["pattern","many"] (aH (top 32)):=⟨rfl,rfl,rfl,by decide +kernel,rfl,by decide +kernel,by decide +kernel⟩
theorem fW:aV ["pattern","many","found"] ["pattern","many"] (aH (top 33)):=⟨rfl,rfl,rfl,by decide +kernel,rfl,by decide +kernel,by decide +kernel⟩
theorem fQ:aV ["_law_script","_law_k","_law_number"] ["_law_script","_law_k"] (aH (top 35)):=⟨rfl,rfl,rfl,by decide +kernel,rfl,by decide +kernel,by decide +kernel⟩
theorem jK:aV ["_law_script","_law_first","_law_most","_law_drawn"] ["_law_script","_law_first","_law_most"] (aH (top 36)):=⟨rfl,rfl,rfl,by decide +kernel,rfl,by decide +kernel,by decide +kernel⟩
theorem iJ:aV ["_law_cell","_law_high","_law_some"] ["_law_cell","_law_high"] (aH (top 37)):=⟨rfl,rfl,rfl,by decide +kernel,rfl,by decide +kernel,by decide +kernel⟩
theorem gJ:aV ["_law_numbers","_law_cell","_law_high","_law_spoilt_here"] ["_law_numbers","_law_cell","_law_high"] (aH (top 38)):=⟨rfl,rfl,rfl,by decide +kernel,rfl,by decide +kernel,by decide +kernel⟩
theorem iK:aV ["_law_way","_law_cell","_law_groups","_law_most"] ["_law_way","_law_cell"] (aH (top 39)):=⟨rfl,rfl,rfl,by decide +kernel,rfl,by decide +kernel,by decide +kernel⟩
theorem fV:aV ["_law_way","_law_cell","_law_caught","e","_law_others"] ["_law_way","_law_cell"] (aH (top 40)):=⟨rfl,rfl,rfl,by decide +kernel,rfl,by decide +kernel,by decide +kernel⟩
theorem gF:aV ["_law_cell","_law_one","_law_other","e"] ["_law_cell"] (aH (top 41)):=⟨rfl,rfl,rfl,by decide +kernel,rfl,by decide +kernel,by decide +kernel⟩
theorem yJ:aV ["_law_script","_law_k","_law_cell"] ["_law_script"] (aH (top 42)):=⟨rfl,rfl,rfl,by decide +kernel,rfl,by decide +kernel,by decide +kernel⟩
theorem cT:aV ["self","one","other"] ["self","one","other"] (aH (inClass (top 10) 0)):=⟨rfl,rfl,rfl,by decide +kernel,rfl,by decide +kernel,by decide +kernel⟩
theorem fO:aV ["self","count"] ["self","count"] (aH (inClass (top 24) 0)):=⟨rfl,rfl,rfl,by decide +kernel,rfl,by decide +kernel,by decide +kernel⟩
theorem mY:aV ["self","kept"] ["self","kept"] (aH (inClass (top 24) 1)):=⟨rfl,rfl,rfl,by decide +kernel,rfl,by decide +kernel,by decide +kernel⟩
theorem lA:aV ["self"] ["self"] (aH (inClass (top 24) 2)):=⟨rfl,rfl,rfl,by decide +kernel,rfl,by decide +kernel,by decide +kernel⟩
theorem dJ:aV ["self","groups","most"] ["self","groups","most"] (aH (inClass (top 25) 0)):=⟨rfl,rfl,rfl,by decide +kernel,rfl,by decide +kernel,by decide +kernel⟩
theorem iR:aV ["self","kept","boxes","groups"] ["self","kept"] (aH (inClass (top 25) 1)):=⟨rfl,rfl,rfl,by decide +kernel,rfl,by decide +kernel,by decide +kernel⟩
theorem dM:aV ["self","sets"] ["self","sets"] (aH (inClass (top 26) 0)):=⟨rfl,rfl,rfl,by decide +kernel,rfl,by decide +kernel,by decide +kernel⟩
theorem iU:aV ["self","kept"] ["self","kept"] (aH (inClass (top 26) 1)):=⟨rfl,rfl,rfl,by decide +kernel,rfl,by decide +kernel,by decide +kernel⟩
theorem gO:aV ["self"] ["self"] (aH (inClass (top 26) 2)):=⟨rfl,rfl,rfl,by decide +kernel,rfl,by decide +kernel,by decide +kernel⟩
end K35
namespace K35
open PySem L2 TD
open Builtin.Int (intBits)
section
variable {P:Program}{w:World}{K:PySem.W.Frag}{mg:Str →Option Value}{base:Heap}{Pt:Addr}
theorem rB {n:Nat}{f:Addr}{fd:FuncData}(F:dD K "is_whole" "is_whole" (top 14) f fd)(cC:mg "isinstance" = none)(Th:mg "bool" = none)(UV:mg "int" = none):bB P w K mg base dX (n+1) f fd ["thing","least","most"] uU:=by
 refine F.ok lD (fun vs H Q E h=>?_) (fun cdv A outer s H vs Q E hr h=>?_)
 ·obtain ⟨v,lo,hi,b,rfl,_⟩:=h
  rfl
 obtain ⟨v,lo,hi,b,rfl,h,q⟩:=h;have nd:=lD.nd;refine ⟨_,(aJ (bG (tH (aN (gP (T:="int")) rfl cC aP (aA (pv 0) (aA (lX (v:=.ty "int") rfl UV DR rfl) aF))) (tH (zN (aN (gP (T:="bool")) rfl cC aP (aA (pv 0) (aA (lX (v:=.ty "bool") rfl Th Ak rfl) aF)))) (uN (yE oR oR (pv 1) (pv 0) (pv 2))))))),?_⟩;cases h with
 | no h =>
  obtain ⟨t,ht,hk⟩:=h K;refine ⟨_,rfl,_,_,_,rfl,ht,hk,_,rfl,?_⟩;exact dC q
 | bl c =>
  refine ⟨_,rfl,_,_,_,rfl,.bl c,pO,_,rfl,?_⟩;refine eY ?_;refine ⟨_,rfl,_,_,_,rfl,.bl c,jM _,_,rfl,?_⟩;refine ⟨_,rfl,?_⟩;exact dC q
 | int i =>
  refine ⟨_,rfl,_,_,_,rfl,.int i,jM _,_,rfl,?_⟩;refine eY ?_;refine ⟨_,rfl,_,_,_,rfl,.int i,pN,_,rfl,?_⟩;refine ⟨_,rfl,?_⟩;refine eY ?_;refine ⟨_,rfl,_,rfl,_,_,rfl,rfl,_,rfl,?_⟩
  by_cases h1:lo ≤ i
  ·refine tE (decide_eq_true h1) ?_;refine ⟨_,rfl,_,_,rfl,rfl,?_⟩;rw [decide_eq_true h1] at q;exact q
  ·refine iH (decide_eq_false h1) ?_;rw [decide_eq_false h1] at q;exact q
end
end K35
namespace K35
open PySem L2 TD TP
open Builtin.Int (intBits)
section
variable {P:Program}{w:World}{K:PySem.W.Frag}{mg:Str →Option Value}{base:Heap}{Pt:Addr}
theorem uI {n:Nat}{f:Addr}{fd:FuncData}(F:dD K "has_box" "has_box" (top 18) f fd):bB P w K mg base dX (n+1) f fd ["kept","box"] xY:=by
 refine F.ok lZ (fun vs H Q E h=>?_) (fun cdv A outer s H vs Q E hr h=>?_)
 ·obtain ⟨k,b,rfl,_⟩:=h
  rfl
 obtain ⟨k,b,rfl,hb0,q⟩:=h;have nd:=lZ.nd;refine ⟨_,(aJ (bG (fD m5 (aZ Dk (aZ EY (pv 0) (pv 1)) aQ) aQ (cG _)))),?_⟩;exact ⟨_,rfl,_,rfl,_,_,rfl,rfl,hb0,_,_,rfl,rfl,rfl,q⟩
theorem sI {n:Nat}{f:Addr}{fd:FuncData}(F:dD K "boxes_of" "boxes_of" (top 19) f fd){R7:Addr}{RW:FuncData}(R8:gA P w K mg base n "has_box" ["kept","box"] xY R7 RW)(g_:mg "range" = none){gV:Value}(d_:mg "MOST_BOXES" = some gV)(e_:RelV (.int 6) gV):bB P w K mg base dX (n+1) f fd ["kept"] mX:=by
 refine F.ok kO (fun vs H Q E h=>?_) (fun cdv A outer s H vs Q E hr h=>?_)
 ·obtain ⟨k,rfl,_⟩:=h
  rfl
 obtain ⟨k,rfl,q⟩:=h;have nd:=kO.nd;refine ⟨_,(aJ (bG (iB (ls:=["box"]) (M:=["kept"]) rfl (cL.of (by rfl)) (NL.of (by rfl)) (cI rfl g_ (aA (bF (v:=.int 6) rfl d_ e_) aF)) (fun _ _ _ _=>⟨(bR (i:=0) (gG (by rfl)) rfl (Or.inl rfl)),(u0 (cD (aX R8 hr (aA (pv 1) (aA (pv 0) aF))))),(pv 0)⟩)))),?_⟩;refine ⟨6,rfl,by decide,by decide,fun D hD=>?_⟩;refine dR (n:=(6:Int).toNat) (fun i τ H'=>∃ v0,τ = [v0,some (.int k)]∧aY H H'∧H' D=some (.lst (Is ((six i).filter (hb k))))) ⟨none,rfl,aD hD _,aB⟩ ?turn ?done
 case turn =>
  rintro i m τ H' hm hi ⟨v0,rfl,hs,hD'⟩;refine ⟨_,rfl,_,rfl,k,0+(i:Int),rfl,by omega,?_⟩;cases eb:hb k (0+(i:Int)) with
  | false =>
   refine ⟨_,rfl,?_⟩;refine iH rfl ?_;refine oO hm hi ⟨_,rfl,hs,?_⟩;rw [jP,WM,show [0+(i:Int)].filter (hb k)=[] by rw [WW,eb]; rfl,Vw];exact hD'
  | true =>
   refine ⟨_,rfl,?_⟩;refine tE rfl ?_;refine ⟨_,rfl,?_⟩;refine cA hm hi hD' (by rw [aW]; exact bI (Va (WP _ _) (by unfold six; rw [VR,W6]; have:i<6:=hi; omega))) ⟨_,rfl,hs.upd_new hD _,?_⟩;rw [aB,jP,WM,show [0+(i:Int)].filter (hb k)=[0+(i:Int)] by rw [WW,eb]; rfl,qL]
 case done =>
  rintro τ H' ⟨v0,rfl,hs,hD'⟩;exact q D H' hs hD hD'
theorem tU {n:Nat}{f:Addr}{fd:FuncData}(F:dD K "size_of" "size_of" (top 20) f fd){q_:Addr}{m_:FuncData}(t_:gA P w K mg base n "boxes_of" ["kept"] mX q_ m_)(j_:mg "len" = none):bB P w K mg base dX (n+1) f fd ["kept"] Du:=by
 refine F.ok mO (fun vs H Q E h=>?_) (fun cdv A outer s H vs Q E hr h=>?_)
 ·obtain ⟨k,rfl,_⟩:=h
  rfl
 obtain ⟨k,rfl,q⟩:=h;have nd:=mO.nd;refine ⟨_,(aJ (bG (aN bL rfl j_ eG (aA (aX t_ hr (aA (pv 0) aF)) aF)))),?_⟩;refine ⟨_,rfl,k,rfl,fun r H1 s1 _ hr1=>?_⟩;refine ⟨r,_,rfl,.inl (bM.of hr1),?_⟩;rw [aW];exact q H1 s1
theorem uG {n:Nat}{f:Addr}{fd:FuncData}(F:dD K "may" "Few.may" (inClass (top 24) 1) f fd){C:Addr}(cf:mZ K C)(RL:PySem.W.findIn K (.ref C) "limit" = some none){R9:Addr}{RX:FuncData}(Ra:gA P w K mg base n "size_of" ["kept"] Du R9 RX):bB P w K mg base dX (n+1) f fd ["self","kept"] (uV C):=by
 refine F.ok mY (fun vs H Q E h=>?_) (fun cdv A outer s H vs Q E hr h=>?_)
 ·obtain ⟨x,c,k,rfl,_⟩:=h
  rfl
 obtain ⟨x,c,k,rfl,hF,q⟩:=h;have nd:=mY.nd;refine ⟨_,(aJ (bG (fD oR (aX Ra hr (aA (pv 1) aF)) (mR (pv 0) rfl) (cG _)))),?_⟩;obtain ⟨dx,hx⟩:=hF;refine ⟨_,rfl,k,rfl,fun H1 s1=>?_⟩;exact ⟨_,rfl,x,C,dx,_,_,rfl,s1 _ _ hx,cf,RL,rfl,_,_,rfl,rfl,q H1 s1⟩
theorem nH {n:Nat}{f:Addr}{fd:FuncData}(F:dD K "may" "Listed.may" (inClass (top 26) 1) f fd){C:Addr}(cf:mZ K C)(R4:PySem.W.findIn K (.ref C) "sets" = some none):bB P w K mg base dX (n+1) f fd ["self","kept"] (uL C):=by
 refine F.ok iU (fun vs H Q E h=>?_) (fun cdv A outer s H vs Q E hr h=>?_)
 ·obtain ⟨x,ks,k,rfl,_⟩:=h
  rfl
 obtain ⟨x,ks,k,rfl,hF,q⟩:=h;have nd:=iU.nd;refine ⟨_,(aJ (bG (fD wH (pv 1) (mR (pv 0) rfl) rfl))),?_⟩;obtain ⟨dx,t,hx,ht⟩:=hF;exact ⟨_,rfl,_,rfl,x,C,dx,_,_,rfl,hx,cf,R4,rfl,t,_,rfl,.inr (jF.of ht),rfl,An ks,q⟩
theorem nT {n:Nat}{f:Addr}{fd:FuncData}(F:dD K "may" "Groups.may" (inClass (top 25) 1) f fd){C:Addr}(cf:mZ K C)(RT:PySem.W.findIn K (.ref C) "groups" = some none)(S7:PySem.W.findIn K (.ref C) "most" = some none){q_:Addr}{m_:FuncData}(t_:gA P w K mg base n "boxes_of" ["kept"] mX q_ m_)(Rk:mg "all" = none)(j_:mg "len" = none):bB P w K mg base dX (n+1) f fd ["self","kept"] (tR C):=by
 refine F.ok iR (fun vs H Q E h=>?_) (fun cdv A outer s H vs Q E hr h=>?_)
 ·obtain ⟨x,gs,ms,k,rfl,_⟩:=h
  rfl
 obtain ⟨x,gs,ms,k,rfl,hF,gg,q⟩:=h;have nd:=iR.nd;refine ⟨_,(aK (bN (i:=2) nd rfl (Or.inl rfl) (aX t_ hr (aA (pv 1) aF))) (aK (dB (cJ (cD (aN (jY rfl rfl) rfl Rk tX (aA (iB (ls:=["box"]) (M:=["self","kept","boxes","groups"]) rfl (cL.of (by rfl)) (NL.of (by rfl)) (dZ (pv 2)) (fun _ _ _ _=>⟨(bR (i:=0) (gG (by rfl)) rfl (Or.inl rfl)),eE,(fD Br (pv 0) (aN (nM (K:=K) rfl) rfl j_ eG (aA (pU (K:=K) rfl (pv 1) rfl) aF)) (cG _))⟩)) aF)))) (aJ (bG mQ)) bT) (aK (bN (i:=3) nd rfl (Or.inr rfl) (iB (ls:=["box"]) (M:=["self","kept","boxes","groups"]) rfl (cL.of (by rfl)) (NL.of (by rfl)) (dZ (pv 2)) (fun _ _ _ _=>⟨(bR (i:=0) (gG (by rfl)) rfl (Or.inl rfl)),eE,(dY (vN (K:=K) rfl) (pU (K:=K) rfl (pv 1) rfl) (pv 0) (fun _ _=>rfl))⟩))) (aJ (bG (aN (jY rfl rfl) rfl Rk tX (aA (iB (ls:=["group"]) (M:=["self","kept","boxes","groups"]) rfl (cL.of (by rfl)) (NL.of (by rfl)) (dZ (pv 3)) (fun _ _ _ _=>⟨(bR (i:=0) (gG (by rfl)) rfl (Or.inl rfl)),eE,(fD oR (DX (K:=K) rfl PySem.F.plainAttrs_list PySem.F.slot_list_count PySem.F.type_list_count zO (pv 4) (aA (pv 0) aF)) (dY (vN (K:=K) rfl) (pU (K:=K) rfl (pv 1) rfl) (pv 0) (fun _ _=>rfl)) (cG _))⟩)) aF))))))),?_⟩;obtain ⟨dx,g,m,hx,hg,hm⟩:=hF;have bl:=qK k;have hlr:=aW (iD k);refine ⟨_,rfl,k,rfl,fun B H1 s1 hBn hB=>?_⟩;refine ⟨_,rfl,B,rfl,⟨_,bM.of hB⟩,fun D hD=>?_⟩;refine eX (xs:=Is (iD k)) (fun i τ H'=>∃ v0,τ = [v0,some (.ref x),some (.int k),some (.ref B),none]∧aY H1 H'∧H' D=some (.lst ((((iD k).take i).map fun b=>decide (b<(gs.length:Int))).map V.bl))) ⟨none,rfl,aD hD _,aB⟩ ?keep ?turn ?done
 case keep =>
  rintro i τ H' hi ⟨v0,rfl,hs,_⟩;exact bM.of (hs _ _ hB)
 case turn =>
  rintro i j v τ H' hm' hi hv ⟨v0,rfl,hs,hD'⟩;obtain ⟨b,hb1,rfl⟩:=jH hv;have ss:=s1.trans hs;refine sX ?_;refine ⟨_,rfl,_,rfl,x,C,dx,_,_,rfl,ss _ _ hx,cf,RT,rfl,g,_,rfl,.inr (jF.of (ss _ _ hg)),_,_,rfl,rfl,?_⟩;refine cA hm' hi hD' (by rw [VR,VR,WD]; exact bI (by omega)) ⟨_,rfl,hs.upd_new hD _,?_⟩;rw [aB,take_snoc hb1,Ve,Ve,aW]
  rfl
 case done =>
 rintro τ H2 ⟨v0,rfl,s2,hD2⟩;rw [hlr,WX] at hD2;have lW:=s1.trans s2;refine ⟨D,_,rfl,bM.of hD2,?_⟩;refine ⟨_,rfl,?_⟩;have ea:((iD k).map fun b=>decide (b<(gs.length:Int))).all id=(iD k).all (fun b=>decide (b<(gs.length:Int))):=by rw [List.all_map]; rfl
 rw [ea];cases hall:(iD k).all (fun b=>decide (b<(gs.length:Int))) with
 | false =>
  refine eY ?_;have h:=q H2 lW;unfold BP at h;rw [hall] at h;exact h
 | true =>
 refine dC ?_;have hin:∀ b∈iD k,b<(gs.length:Int):=fun b hb=>of_decide_eq_true (Vr.mp hall b hb);refine ⟨_,rfl,B,rfl,⟨_,bM.of (s2 _ _ hB)⟩,fun D2 hD2n=>?_⟩;refine eX (xs:=Is (iD k)) (fun i τ H'=>∃ v0,τ = [v0,some (.ref x),some (.int k),some (.ref B),none]∧aY H2 H'∧H' D2=some (.lst (Is (((iD k).take i).map fun b=>gs.getD b.toNat 0)))) ⟨none,rfl,aD hD2n _,aB⟩ ?keep2 ?turn2 ?done2
 case keep2 =>
  rintro i τ H' hi ⟨v0,rfl,hs,_⟩;exact bM.of ((s2.trans hs) _ _ hB)
 case turn2 =>
  rintro i j v τ H' hm' hi hv ⟨v0,rfl,hs,hD'⟩;obtain ⟨b,hb1,rfl⟩:=jH hv;have hbm:=V8 hb1;have ss:=lW.trans hs;refine sX ?_;refine ⟨_,rfl,x,C,dx,_,_,rfl,ss _ _ hx,cf,RT,rfl,_,rfl,g,_,_,_,rfl,rfl,jF.of (ss _ _ hg),Bh (gU hbm).1 (hin b hbm),?_⟩;refine cA hm' hi hD' (by rw [aW,VR,WD]; exact bI (by omega)) ⟨_,rfl,hs.upd_new hD2n _,?_⟩;rw [aB,take_snoc hb1,Ve];show _=some (HO.lst (Is (_++[gs.getD b.toNat 0])));rw [qL]
 case done2 =>
 rintro τ H3 ⟨v1,rfl,s3,hD3⟩;rw [hlr,WX] at hD3;have fU:=lW.trans s3;generalize hgl:((iD k).map fun b=>gs.getD b.toNat 0)=gl at hD3;have gll:gl.length ≤ 6:=by rw [← hgl,VR]; exact bl
 have gin:∀ z∈gl,0 ≤ z∧z<(ms.length:Int):=fun z hz=>by
  rw [← hgl] at hz;obtain ⟨b,hb1,rfl⟩:=Wo.mp hz;have e:=hin b hb1;have e0:=(gU hb1).1;have hbn:b.toNat<gs.length:=by omega
  have e2:=gg.g (gs.getD b.toNat 0) (by rw [show gs.getD b.toNat 0=gs[b.toNat] by simp [hbn]]; exact Wm hbn);have:=gg.m6;omega
 refine ⟨_,rfl,D2,rfl,⟨_,bM.of hD3⟩,fun D4 hD4n=>?_⟩;refine eX (xs:=Is gl) (fun i τ H'=>∃ v0,τ = [v0,some (.ref x),some (.int k),some (.ref B),some (.ref D2)]∧aY H3 H'∧H' D4=some (.lst (((gl.take i).map fun z=>decide ((gl.count z:Nat) ≤ ms.getD z.toNat 0)).map V.bl))) ⟨none,rfl,aD hD4n _,aB⟩ ?keep4 ?turn4 ?done4
 case keep4 =>
  rintro i τ H' hi ⟨v0,rfl,hs,_⟩;exact bM.of (hs _ _ hD3)
 case turn4 =>
  rintro i j v τ H' hm' hi hv ⟨v0,rfl,hs,hD'⟩;obtain ⟨z,hz1,rfl⟩:=jH hv;have hzm:=V8 hz1;have ss:=fU.trans hs;refine sX ?_;refine ⟨_,rfl,.inl ⟨rfl,_,bM.of (hs _ _ hD3)⟩,_,rfl,D2,gl,z,rfl,rfl,hs _ _ hD3,_,rfl,x,C,dx,_,_,rfl,ss _ _ hx,cf,S7,rfl,_,rfl,m,_,_,_,rfl,rfl,jF.of (ss _ _ hm),Bh (gin z hzm).1 (gin z hzm).2,_,_,rfl,rfl,?_⟩;refine cA hm' hi hD' (by rw [VR,VR,WD]; exact bI (by omega)) ⟨_,rfl,hs.upd_new hD4n _,?_⟩;rw [aB,take_snoc hz1,Ve,Ve]
  rfl
 case done4 =>
  rintro τ H5 ⟨v2,rfl,s5,hD5⟩;rw [aW,WX] at hD5;refine ⟨D4,_,rfl,bM.of hD5,?_⟩;have h:=q H5 (fU.trans s5);unfold BP at h;rw [hall,hgl,Wz] at h;rw [List.all_map];exact h
theorem qZ {n:Nat}{f:Addr}{fd:FuncData}(F:dD K "with_box" "with_box" (top 21) f fd):bB P w K mg base dX (n+1) f fd ["kept","box"] xA:=by
 refine F.ok kW (fun vs H Q E h=>?_) (fun cdv A outer s H vs Q E hr h=>?_)
 ·obtain ⟨k,b,rfl,_⟩:=h
  rfl
 obtain ⟨k,b,rfl,hb0,hb1,q⟩:=h;have nd:=kW.nd;refine ⟨_,(aJ (bG (aZ IV (pv 0) (aZ uO aQ (pv 1))))),?_⟩;exact ⟨_,rfl,_,rfl,_,_,rfl,rfl,⟨hb0,by omega,by decide⟩,_,_,rfl,rfl,q⟩
theorem rH {n:Nat}{f:Addr}{fd:FuncData}(F:dD K "can_grow" "can_grow" (top 29) f fd){q_:Addr}{m_:FuncData}(t_:gA P w K mg base n "boxes_of" ["kept"] mX q_ m_){R7:Addr}{RW:FuncData}(R8:gA P w K mg base n "has_box" ["kept","box"] xY R7 RW){Ti:Addr}{S_:FuncData}(Tj:gA P w K mg base n "with_box" ["kept","box"] xA Ti S_)(UW:mg "any" = none):bB P w K mg base dX (n+1) f fd ["lets","one","other"] yG:=by
 refine F.ok lC (fun vs H Q E h=>?_) (fun cdv A outer s H vs Q E hr h=>?_)
 ·obtain ⟨a,bs,m,o,e,rfl,_⟩:=h
  rfl
 obtain ⟨a,bs,m,o,e,rfl,ha,hl,hm,o0,o1,e0,e1,q⟩:=h;have nd:=lC.nd;refine ⟨_,(aJ (bG (aN (wB rfl rfl) rfl UW Dd (aA (iB (ls:=["box"]) (M:=["lets","one","other"]) rfl (cL.of (by rfl)) (NL.of (by rfl)) (dZ (aX t_ hr (aA (pv 1) aF))) (fun _ _ _ _=>⟨(bR (i:=0) (gG (by rfl)) rfl (Or.inl rfl)),(u0 (cJ (cD (aX R8 hr (aA (pv 3) (aA (pv 0) aF)))))),(dY (q9 (K:=K) rfl) (pv 1) (aX Tj hr (aA (pv 3) (aA (pv 0) aF))) (fun _ _=>rfl))⟩)) aF)))),?_⟩;have bl:=qK o;have pl:(bs.length:Int)=2^m:=by rw [hl]; push_cast; rfl
 refine ⟨_,rfl,o,rfl,fun B H1 s1 hBn hB=>?_⟩;refine ⟨B,rfl,⟨_,bM.of hB⟩,fun D hD=>?_⟩;refine eX (xs:=Is (iD o)) (fun i τ H'=>∃ v0,τ = [v0,some (.ref a),some (.int o),some (.int e)]∧aY H1 H'∧H' D=some (.lst (Bs ((((iD o).take i).filter fun b=>!hb e b).map fun b=>bs.getD (Builtin.bitOr e (1*2^b.toNat)).toNat false)))) ⟨none,rfl,aD hD _,aB⟩ ?keep ?turn ?done
 case keep =>
  rintro i τ H' hi ⟨v0,rfl,hs,_⟩;exact bM.of (hs _ _ hB)
 case turn =>
  rintro i j v τ H' hm' hi hv ⟨v0,rfl,hs,hD'⟩;obtain ⟨b,hb1,rfl⟩:=jH hv;have hbm:=V8 hb1;have r:=gU hbm;have gi:=zW hm o0 (by omega) e0 (by omega) hbm;refine ⟨_,rfl,_,rfl,e,b,rfl,r.1,?_⟩;refine ⟨_,rfl,?_⟩;cases eb:hb e b with
  | true =>
   refine iH rfl ?_;refine oO hm' hi ⟨_,rfl,hs,?_⟩;rw [take_snoc hb1,WM,show [b].filter (fun b=>!hb e b)=[] by rw [WW,eb]; rfl,Vw];exact hD'
  | false =>
   refine tE rfl ?_;refine ⟨_,rfl,_,rfl,_,rfl,e,b,rfl,r.1,by omega,a,_,_,_,rfl,rfl,bM.of ((s1.trans hs) _ _ ha),rW gi.1 (by omega),?_⟩;refine cA hm' hi hD' (by rw [gR,VR]; exact bI (Va (WP _ _) (by rw [WD]; omega))) ⟨_,rfl,hs.upd_new hD _,?_⟩;rw [aB,take_snoc hb1,WM,show [b].filter (fun b=>!hb e b)=[b] by rw [WW,eb]; rfl,Ve];show _=some (HO.lst (X8 V.bl (_++[bs.getD (Builtin.bitOr e (1*2^b.toNat)).toNat false])));rw [Ve]
   rfl
 case done =>
  rintro τ H' ⟨v0,rfl,hs,hD'⟩;rw [aW,WX] at hD';exact ⟨D,_,rfl,bM.of hD',q H' (s1.trans hs)⟩
theorem lL {n:Nat}{f:Addr}{fd:FuncData}(F:dD K "sets_by_size" "sets_by_size" (top 30) f fd){R9:Addr}{RX:FuncData}(Ra:gA P w K mg base n "size_of" ["kept"] Du R9 RX)(g_:mg "range" = none)(j_:mg "len" = none){gV:Value}(d_:mg "MOST_BOXES" = some gV)(e_:RelV (.int 6) gV):bB P w K mg base dX (n+1) f fd ["lets"] xP:=by
 refine F.ok fP (fun vs H Q E h=>?_) (fun cdv A outer s H vs Q E hr h=>?_)
 ·obtain ⟨a,bs,rfl,_⟩:=h
  rfl
 obtain ⟨a,bs,rfl,ha,h64,q⟩:=h;have nd:=fP.nd;refine ⟨_,(aK (lQ (i:=1) (ls:=["size"]) (M:=["lets","by_size","kept"]) rfl (cL.of (by rfl)) (NL.of (by rfl)) nd rfl (Or.inl rfl) (cI rfl g_ (aA (aZ cH (bF (v:=.int 6) rfl d_ e_) aQ) aF)) (fun _ _ _ _=>⟨(bR (i:=0) (gG (by rfl)) rfl (Or.inl rfl)),eE,(mL aF)⟩)) (aK (iV PassesOwn.never rfl (cI rfl g_ (aA (aN bL rfl j_ eG (aA (pv 0) aF)) aF)) (bR (i:=2) nd rfl (Or.inl rfl)) (aJ (dB (cD (dY bY (pv 0) (pv 2) (fun _ _=>rfl))) (aJ (vL (Bc PySem.F.plainAttrs_list PySem.F.slot_list_append PySem.F.type_list_append oY (dY bY (pv 1) (aX Ra hr (aA (pv 2) aF)) (fun _ _=>rfl)) (aA (pv 2) aF)))) bT))) (aJ (bG (pv 1))))),?_⟩;refine ⟨_,_,rfl,rfl,7,rfl,by decide,by decide,fun D hD=>?_⟩;refine dR (n:=(7:Int).toNat) (fun i τ H'=>∃ v0 ls,τ = [v0,some (.ref a),none,none]∧aY H H'∧H' D=some (.lst (ls.map V.ref))∧ls.length=i∧ls.Nodup∧∀ l∈ls,H' l=some (.lst [])∧l≠D∧H l=none) ⟨none,[],rfl,aD hD _,aB,rfl,Wu,fun _ h=>nomatch h⟩ ?turn ?done
 case turn =>
  rintro i m τ H' hm hi ⟨v0,ls,rfl,hs,hD',ll,nd',hl⟩;have hi7:i<7:=hi;refine sX ?_;refine ⟨Vt _,fun l hl0=>?_⟩;have n1:=aD hl0 (.lst []);have nD:l≠D:=fun e=>by rw [e,hD'] at hl0; cases hl0
  have hD2:=n1 _ _ hD';refine cA hm hi hD2 (by rw [VR]; exact bI (by omega)) ⟨_,ls++[l],rfl,(hs.trans n1).upd_new hD _,?_,by rw [Vg,ll]; rfl,?_,fun y hy=>?_⟩
  ·rw [aB,Ve]
   rfl
  ·exact XR.mpr ⟨nd',Vx.mpr ⟨Wn,Wu⟩,fun u hu v hv=>by rw [Vb.mp hv]; rintro rfl; have:=(hl _ hu).1; rw [this] at hl0; cases hl0⟩
  ·rcases W2.mp hy with u | u
   ·obtain ⟨x1,x2,x3⟩:=hl y u;exact ⟨by rw [aM x2]; exact n1 _ _ x1,x2,x3⟩
   ·rw [Vb.mp u];exact ⟨by rw [aM nD]; exact aB,nD,hs.free hl0⟩
 case done =>
 rintro τ H1 ⟨v0,ls,rfl,s1,hD1,ll,nd1,hl1⟩;have ll:ls.length=7:=ll;refine ⟨_,rfl,a,_,rfl,.inl (bM.of (s1 _ _ ha)),(bs.length:Int),by rw [gR],by omega,by omega,?_⟩;refine gZ (n:=(bs.length:Int).toNat) (fun i σ H'=>∃ v2,σ = [some (.ref a),some (.ref D),v2]∧aY H H'∧Hg H' D ls bs i) ⟨none,rfl,s1,⟨hD1,ll,nd1,fun l hl=>(hl1 l hl).2.1,fun s l hl=>(hl1 l (V8 hl)).1⟩⟩ ?turn2 ?done2
 case turn2 =>
  rintro i σ H' hi ⟨v2,rfl,hs,by1⟩;have hil:i<bs.length:=by omega
  refine ⟨_,rfl,_,rfl,a,_,_,_,rfl,rfl,bM.of (hs _ _ ha),rW (k:=0+(i:Int)) (by omega) (by omega),_,rfl,?_⟩;cases e1:bs.getD (0+(i:Int)).toNat false with
  | false =>
   refine iH rfl ?_;refine ⟨_,rfl,hs,by1.lst,by1.len,by1.nd,by1.ne,fun s l hl=>?_⟩;have h:=by1.each s l hl;rw [kE,if_neg (by unfold pick; rw [e1,Bool.false_and]; exact VN),Vw];exact h
  | true =>
   refine tE rfl ?_;have bl:=qK (0+(i:Int));obtain ⟨l,hl⟩:∃ l,ls[(iD (0+(i:Int))).length]? = some l:=⟨_,V1 (by omega)⟩
   refine ⟨_,rfl,_,rfl,0+(i:Int),rfl,fun H2 s2=>?_⟩;have h2:=s2 _ _ (by1.each _ l hl);refine ⟨D,_,_,_,rfl,rfl,bM.of (s2 _ _ by1.lst),gW (v:=V.ref l) (by rw [Vd,hl]; rfl),Or.inl ⟨rfl,_,bM.of h2⟩,_,rfl,l,_,_,rfl,rfl,h2,by rw [aW]; exact bI (Va (yW _ _ _) (by omega)),?_⟩;have nD:=by1.ne l (V8 hl);refine ⟨_,rfl,(hs.trans s2).upd_new (hl1 l (V8 hl)).2.2 _,by rw [aM (Ne.symm nD)]; exact s2 _ _ by1.lst,by1.len,by1.nd,by1.ne,fun s y hy=>?_⟩
   by_cases es:s=(iD (0+(i:Int))).length
   ·subst es;rw [hl] at hy;cases hy;rw [aB,kE,if_pos (by unfold pick; rw [e1,Wz,beq_self_eq_true]),qL]
   ·have ny:y≠l:=fun z=>by
     subst z;have a1:=(V3.mp hy)
     have a2:=(V3.mp hl)
     have pw:=Wi.mp by1.nd;rcases Nat.lt_or_gt_of_ne es with u | u
     ·exact pw _ _ a1.1 a2.1 u (a1.2.trans a2.2.symm)
     ·exact pw _ _ a2.1 a1.1 u (a2.2.trans a1.2.symm)
    rw [aM ny,kE,if_neg (by unfold pick; rw [e1,Wz]; intro z; exact es (beq_iff_eq.mp z).symm),Vw];exact s2 _ _ (by1.each s y hy)
 case done2 =>
  rintro σ H' ⟨v2,rfl,hs,by1⟩;rw [show (bs.length:Int).toNat=bs.length by omega] at by1;exact ⟨_,rfl,q D H' ls hs by1⟩
end
section
variable {P:Program}{w:World}{K:PySem.W.Frag}{mg:Str →Option Value}{base:Heap}
theorem rF {n:Nat}{f:Addr}{fd:FuncData}(F:dD K "told" "Few.told" (inClass (top 24) 2) f fd){C:Addr}(cf:mZ K C)(RL:PySem.W.findIn K (.ref C) "limit" = some none):bB P w K mg base dX (n+1) f fd ["self"] (uY C):=by
 refine F.ok lA (fun vs H Q E h=>?_) (fun cdv A outer s H vs Q E hr h=>?_)
 ·obtain ⟨x,c,rfl,_⟩:=h
  rfl
 obtain ⟨x,c,rfl,hF,q⟩:=h;have nd:=lA.nd;refine ⟨_,(aJ (bG (jX (aA j4 (aA (mR (pv 0) rfl) aF))))),?_⟩;obtain ⟨dx,hx⟩:=hF;exact ⟨_,rfl,x,C,dx,_,_,rfl,hx,cf,RL,rfl,tG,fun r hr=>q r _ (aD hr _) aB⟩
theorem m7 {n:Nat}{f:Addr}{fd:FuncData}(F:dD K "told" "Listed.told" (inClass (top 26) 2) f fd){C:Addr}(cf:mZ K C)(R4:PySem.W.findIn K (.ref C) "sets" = some none):bB P w K mg base dX (n+1) f fd ["self"] (vK C):=by
 refine F.ok gO (fun vs H Q E h=>?_) (fun cdv A outer s H vs Q E hr h=>?_)
 ·obtain ⟨x,ks,rfl,_⟩:=h
  rfl
 obtain ⟨x,ks,rfl,hF,q⟩:=h;have nd:=gO.nd;refine ⟨_,(aJ (bG (jX (aA j4 (aA (mR (pv 0) rfl) aF))))),?_⟩;obtain ⟨dx,t,hx,ht⟩:=hF;exact ⟨_,rfl,x,C,dx,_,_,rfl,hx,cf,R4,rfl,tG,fun r hr=>q r _ (aD hr _) ⟨t,aB,aD hr _ _ _ ht⟩⟩
theorem lJ {n:Nat}{f:Addr}{fd:FuncData}(F:dD K "_law_cell_at" "_law_cell_at" (top 35) f fd)(j_:mg "len" = none):bB P w K mg base dX (n+1) f fd ["_law_script","_law_k"] (CQ K):=by
 refine F.ok fQ (fun vs H Q E h=>?_) (fun cdv A outer s H vs Q E hr h=>?_)
 ·obtain ⟨a,ns,k,rfl,_⟩:=h
  rfl
 obtain ⟨a,ns,k,rfl,hS,h0,hk,q⟩:=h;have nd:=fQ.nd;refine ⟨_,(aK (bN (i:=2) nd rfl (Or.inl rfl) (aZ cH (aZ t8 aQ (pv 1)) aQ)) (aK (dB (eZ Br (pv 1) (aN bL rfl j_ eG (aA (pv 0) aF)) (cG _)) (aJ (bN (i:=2) nd rfl (Or.inl rfl) (dY bY (pv 0) (pv 1) (fun _ _=>rfl)))) bT) (aK (bN (i:=2) nd rfl (Or.inl rfl) (aZ bJ (aZ cH (aZ cH (aZ qN (aZ bJ (pv 2) aQ) aQ) (aZ t8 aQ (pv 1))) aQ) aQ)) (aK (bN (i:=2) nd rfl (Or.inl rfl) (aZ bJ (aZ qN (pv 2) (pv 2)) aQ)) (aJ (bG (aZ bJ (aZ cH (aZ cH (aZ qN (pv 2) (pv 2)) (aZ t8 aQ (pv 2))) (pv 1)) aQ))))))),?_⟩;have b1:∀ x:Int,0 ≤ x →x<2147483648 →intBits x ≤ 64:=fun x h1 h2=>PySem.intBits_le_64 (by omega) (by omega);have hl:(ns.map V.int).length=ns.length:=VR _;refine ⟨_,rfl,_,_,rfl,rfl,.inl ⟨by decide,by decide⟩,_,_,rfl,rfl,?_⟩;refine ⟨_,rfl,_,rfl,a,_,rfl,.inl hS,_,_,rfl,rfl,_,rfl,?_⟩;refine Jo (fun c=>?_) (fun c=>?_)
 ·have c':k<(((ns.map V.int).length:Nat):Int):=of_decide_eq_true c;rw [hl] at c';refine ⟨_,rfl,_,rfl,a,_,_,_,rfl,rfl,hS,xV h0 c',?_⟩;have m1:=V7 (ns.getD k.toNat 0) (show (2147483647:Int)≠0 by decide);have m2:=V4 (ns.getD k.toNat 0) (show (0:Int)<2147483647 by decide);refine ⟨_,rfl,_,_,rfl,rfl,(by show (0:Int)<2147483647; decide),_,_,rfl,rfl,oK (b1 _ m1 (by omega)) (b1 48271 (by decide) (by decide)) (by decide),_,rfl,_,_,rfl,rfl,.inl ⟨by decide,by decide⟩,_,_,rfl,rfl,_,_,rfl,rfl,_,_,rfl,rfl,(by show (0:Int)<2147483647; decide),?_⟩;have n1:=V7 ((ns.getD k.toNat 0)%2147483647*48271+7919*k+1) (show (2147483647:Int)≠0 by decide);have n2:=V4 ((ns.getD k.toNat 0)%2147483647*48271+7919*k+1) (show (0:Int)<2147483647 by decide);have nb:=b1 _ n1 (We n2 (by decide));refine ⟨_,rfl,_,rfl,_,_,rfl,rfl,oK nb nb (by decide),_,_,rfl,rfl,(by show (0:Int)<2147483647; decide),?_⟩;have k1:=V7 (((ns.getD k.toNat 0)%2147483647*48271+7919*k+1)%2147483647*(((ns.getD k.toNat 0)%2147483647*48271+7919*k+1)%2147483647)) (show (2147483647:Int)≠0 by decide);have k2:=V4 (((ns.getD k.toNat 0)%2147483647*48271+7919*k+1)%2147483647*(((ns.getD k.toNat 0)%2147483647*48271+7919*k+1)%2147483647)) (show (0:Int)<2147483647 by decide);have kb:=b1 _ k1 (We k2 (by decide));refine ⟨_,rfl,_,rfl,_,_,rfl,rfl,oK kb kb (by decide),_,rfl,_,_,rfl,rfl,.inl ⟨by decide,by decide⟩,_,_,rfl,rfl,_,rfl,_,_,rfl,rfl,_,_,rfl,rfl,(by show (0:Int)<2147483629; decide),?_⟩;exact q _ (V7 _ (by decide)) (V4 _ (by decide))
 ·skip
  have m1:=V7 (104729*k+7) (show (2147483647:Int)≠0 by decide);have m2:=V4 (104729*k+7) (show (0:Int)<2147483647 by decide);refine ⟨_,rfl,_,_,rfl,rfl,(by show (0:Int)<2147483647; decide),_,_,rfl,rfl,oK (b1 _ m1 (by omega)) (b1 48271 (by decide) (by decide)) (by decide),_,rfl,_,_,rfl,rfl,.inl ⟨by decide,by decide⟩,_,_,rfl,rfl,_,_,rfl,rfl,_,_,rfl,rfl,(by show (0:Int)<2147483647; decide),?_⟩;have n1:=V7 ((104729*k+7)%2147483647*48271+7919*k+1) (show (2147483647:Int)≠0 by decide);have n2:=V4 ((104729*k+7)%2147483647*48271+7919*k+1) (show (0:Int)<2147483647 by decide);have nb:=b1 _ n1 (We n2 (by decide));refine ⟨_,rfl,_,rfl,_,_,rfl,rfl,oK nb nb (by decide),_,_,rfl,rfl,(by show (0:Int)<2147483647; decide),?_⟩;have k1:=V7 (((104729*k+7)%2147483647*48271+7919*k+1)%2147483647*(((104729*k+7)%2147483647*48271+7919*k+1)%2147483647)) (show (2147483647:Int)≠0 by decide);have k2:=V4 (((104729*k+7)%2147483647*48271+7919*k+1)%2147483647*(((104729*k+7)%2147483647*48271+7919*k+1)%2147483647)) (show (0:Int)<2147483647 by decide);have kb:=b1 _ k1 (We k2 (by decide));refine ⟨_,rfl,_,rfl,_,_,rfl,rfl,oK kb kb (by decide),_,rfl,_,_,rfl,rfl,.inl ⟨by decide,by decide⟩,_,_,rfl,rfl,_,rfl,_,_,rfl,rfl,_,_,rfl,rfl,(by show (0:Int)<2147483629; decide),?_⟩;exact q _ (V7 _ (by decide)) (V4 _ (by decide))
theorem pP {n:Nat}{f:Addr}{fd:FuncData}(F:dD K "_law_many" "_law_many" (top 36) f fd){F_:Addr}{C_:FuncData}(G_:gA P w K mg base n "_law_cell_at" ["_law_script","_law_k"] (CQ K) F_ C_)(U0:mg "min" = none)(S5:mg "max" = none)(j_:mg "len" = none):bB P w K mg base dX (n+1) f fd ["_law_script","_law_first","_law_most"] (Ej K):=by
 refine F.ok jK (fun vs H Q E h=>?_) (fun cdv A outer s H vs Q E hr h=>?_)
 ·obtain ⟨a,ns,f,m,rfl,_⟩:=h
  rfl
 obtain ⟨a,ns,f,m,rfl,hS,h1,h2,hm,q⟩:=h;have nd:=jK.nd;refine ⟨_,(aK (bN (i:=3) nd rfl (Or.inl rfl) (aZ bJ (aZ cM (aX G_ hr (aA (pv 0) (aA (aZ jD (pv 1) aQ) aF))) aQ) (aZ cH (pv 2) aQ))) (aJ (bG (aN (wL rfl) rfl U0 Ck (aA (pv 2) (aA (aN (pK rfl) rfl S5 w6 (aA (pv 3) (aA (aZ jD (aN bL rfl j_ eG (aA (pv 0) aF)) (pv 1)) aF))) aF)))))),?_⟩;refine ⟨_,rfl,_,rfl,_,_,rfl,rfl,a,ns,f-1,rfl,hS,by omega,by omega,fun j j0 j1=>?_⟩;have e1:=V7 (j/7) (show m+1≠0 by omega);have e2:=V4 (j/7) (show 0<m+1 by omega);refine ⟨_,_,rfl,rfl,⟨by decide,by decide⟩,_,rfl,_,_,rfl,rfl,_,_,rfl,rfl,(by show 0<m+1; omega),?_⟩;refine ⟨_,rfl,_,rfl,_,rfl,a,_,rfl,.inl hS,_,rfl,_,_,rfl,rfl,_,_,rfl,_,_,rfl,?_⟩;refine q _ ?_ ?_
 ·(repeat' split) <;> omega
 ·(repeat' split) <;> omega
end
section
variable {P:Program}{w:World}{K:PySem.W.Frag}{mg:Str →Option Value}{base:Heap}{Pt:Addr}
theorem getD_at {l:List Int}{i:Nat}{x:Int}(h:l[i]? = some x):l.getD i 0=x:=by rw [Vq,h]; rfl
theorem CN {bs:List Bool}{o j:Nat}{b:Int}(hb:(iD (0+(o:Int)))[j]? = some b)(h:¬ (bs.getD (0+(o:Int)).toNat false=true∧bs.getD (0+(o:Int)-1*2^b.toNat).toNat false=false)):oV bs o j=none:=by
 unfold oV;rw [getD_at hb,if_neg h]
theorem Cp {bs:List Bool}{o j:Nat}{b:Int}(hb:(iD (0+(o:Int)))[j]? = some b)(h:bs.getD (0+(o:Int)).toNat false=true∧bs.getD (0+(o:Int)-1*2^b.toNat).toNat false=false):oV bs o j=some (0+(o:Int),0+(o:Int)-1*2^b.toNat):=by
 unfold oV;rw [getD_at hb,if_pos h]
theorem qH {n:Nat}{f:Addr}{fd:FuncData}(F:dD K "less_flaw" "less_flaw" (top 28) f fd){q_:Addr}{m_:FuncData}(t_:gA P w K mg base n "boxes_of" ["kept"] mX q_ m_)(g_:mg "range" = none)(j_:mg "len" = none):bB P w K mg base dX (n+1) f fd ["lets"] vG:=by
 refine F.ok jL (fun vs H Q E h=>?_) (fun cdv A outer s H vs Q E hr h=>?_)
 ·obtain ⟨a,bs,rfl,_⟩:=h
  rfl
 obtain ⟨a,bs,rfl,ha,h64,qn,ql⟩:=h;have nd:=jL.nd;refine ⟨_,(aK (iV PassesOwn.never rfl (cI rfl g_ (aA (aN bL rfl j_ eG (aA (pv 0) aF)) aF)) (bR (i:=1) nd rfl (Or.inl rfl)) (aJ (iV PassesOwn.never rfl (dZ (aX t_ hr (aA (pv 1) aF))) (bR (i:=2) nd rfl (Or.inl rfl)) (aK (bN (i:=3) nd rfl (Or.inl rfl) (aZ jD (pv 1) (aZ uO aQ (pv 2)))) (aJ (dB (PW.pt (Ce (cD (dY bY (pv 0) (pv 1) (fun _ _=>rfl))) (BJ (cJ (cD (dY bY (pv 0) (pv 3) (fun _ _=>rfl))))))) (aJ (bG (jX (aA j4 (aA (pv 1) (aA (pv 3) aF)))))) bT)))))) (aJ (bG gD))),?_⟩;refine ⟨_,rfl,a,_,rfl,.inl (bM.of ha),(bs.length:Int),by rw [gR],by omega,by omega,?_⟩;refine gZ (n:=(bs.length:Int).toNat) (fun i σ H'=>∃ v1 v2 v3,σ = [some (.ref a),v1,v2,v3]∧aY H H'∧gC (Bg bs) i=none) ⟨none,none,none,rfl,aY.refl _,rfl⟩ ?turn ?done
 case turn =>
  rintro i σ H' hi ⟨v1,v2,v3,rfl,hs,dn⟩;have hil:i<bs.length:=by omega
  refine ⟨_,rfl,0+(i:Int),rfl,fun B H1 s1 hBn hB=>?_⟩;have ss:=hs.trans s1;refine ⟨B,rfl,⟨_,bM.of hB⟩,?_⟩;refine mU (xs:=Is (iD (0+(i:Int)))) (fun j σ H2=>∃ v2 v3,σ = [some (.ref a),some (.int (0+(i:Int))),v2,v3]∧H2=H1∧gC (oV bs i) j=none) ⟨v2,v3,rfl,rfl,rfl⟩ ?keep2 ?turn2 ?done2
  case keep2 =>
   rintro j σ H2 hj ⟨v2,v3,rfl,rfl,_⟩;exact bM.of hB
  case turn2 =>
   rintro j v σ H2 hv ⟨v2,v3,rfl,rfl,hd⟩;obtain ⟨b,hb1,rfl⟩:=jH hv;have hbm:=V8 hb1;have jl:=(V3.mp hb1).1;have r:=gU hbm;have lo:=low (k:=0+(i:Int)) (by omega) (by omega) hbm;refine ⟨_,rfl,_,rfl,_,_,rfl,rfl,⟨r.1,by omega,by decide⟩,_,_,rfl,rfl,?_⟩;refine ⟨_,rfl,_,rfl,a,_,_,_,rfl,rfl,bM.of (ss _ _ ha),rW (k:=0+(i:Int)) (by omega) (by omega),_,rfl,?_⟩;cases e1:bs.getD (0+(i:Int)).toNat false with
   | false =>
    refine iH rfl ?_;exact ⟨_,_,rfl,rfl,dH hd (CN hb1 fun z=>by rw [e1] at z; exact nomatch z.1)⟩
   | true =>
    refine tE rfl ?_;refine ⟨_,rfl,_,rfl,a,_,_,_,rfl,rfl,bM.of (ss _ _ ha),rW (k:=0+(i:Int)-1*2^b.toNat) lo.1 (by omega),_,rfl,?_⟩;cases e2:bs.getD (0+(i:Int)-1*2^b.toNat).toNat false with
    | true =>
     refine dC ?_;exact ⟨_,_,rfl,rfl,dH hd (CN hb1 fun z=>by rw [e2] at z; exact nomatch z.2)⟩
    | false =>
     refine eY ?_;refine ⟨_,rfl,_,rfl,wZ,fun r hr0=>?_⟩;exact ql _ _ (dI dn (dI hd (Cp hb1 ⟨e1,e2⟩) _ jl) _ hil) r _ (ss.trans (aD hr0 _)) aB
  case done2 =>
   rintro σ H2 ⟨v2,v3,rfl,rfl,hd⟩;rw [aW] at hd;exact ⟨_,_,_,rfl,ss,dH dn hd⟩
 case done =>
  rintro σ H' ⟨v1,v2,v3,rfl,hs,dn⟩;rw [show (bs.length:Int).toNat=bs.length by omega] at dn;exact qn dn H' hs
theorem Ig {bs:List Bool}{s j l:Nat}{o e:Int}(ho:(fZ bs bs.length (s+1))[l]? = some o)(he:(fZ bs bs.length s)[j]? = some e)(h:(rO bs o e).any id=true):pJ bs s j l=none:=by
 unfold pJ;rw [getD_at ho,getD_at he,if_neg (by rw [h]; decide)]
theorem Dy {bs:List Bool}{s j l:Nat}{o e:Int}(ho:(fZ bs bs.length (s+1))[l]? = some o)(he:(fZ bs bs.length s)[j]? = some e)(h:(rO bs o e).any id=false):pJ bs s j l=some (o,e):=by
 unfold pJ;rw [getD_at ho,getD_at he,if_pos h]
theorem qG {n:Nat}{f:Addr}{fd:FuncData}(F:dD K "more_flaw" "more_flaw" (top 31) f fd){Tn:Addr}{TJ:FuncData}(Tp:gA P w K mg base n "can_grow" ["lets","one","other"] yG Tn TJ){Rm:Addr}{Ri:FuncData}(Rn:gA P w K mg base n "sets_by_size" ["lets"] xP Rm Ri)(g_:mg "range" = none){gV:Value}(d_:mg "MOST_BOXES" = some gV)(e_:RelV (.int 6) gV):bB P w K mg base dX (n+1) f fd ["lets"] vB:=by
 refine F.ok jR (fun vs H Q E h=>?_) (fun cdv A outer s H vs Q E hr h=>?_)
 ·obtain ⟨a,bs,m,rfl,_⟩:=h
  rfl
 obtain ⟨a,bs,m,rfl,ha,hl,hm,qn,qm⟩:=h;have nd:=jR.nd;refine ⟨_,(aK (bN (i:=1) nd rfl (Or.inl rfl) (aX Rn hr (aA (pv 0) aF))) (aK (iV PassesOwn.never rfl (cI rfl g_ (aA (bF (v:=.int 6) rfl d_ e_) aF)) (bR (i:=2) nd rfl (Or.inl rfl)) (aJ (iV PassesOwn.never rfl (dZ (dY bY (pv 1) (pv 2) (fun _ _=>rfl))) (bR (i:=3) nd rfl (Or.inl rfl)) (aJ (iV PassesOwn.never rfl (dZ (dY bY (pv 1) (aZ cH (pv 2) aQ) (fun _ _=>rfl))) (bR (i:=4) nd rfl (Or.inl rfl)) (aJ (dB (cJ (cD (aX Tp hr (aA (pv 0) (aA (pv 4) (aA (pv 3) aF)))))) (aJ (bG (jX (aA j4 (aA (pv 4) (aA (pv 3) aF)))))) bT))))))) (aJ (bG gD)))),?_⟩;have h64:bs.length ≤ 64:=by rw [hl]; exact Va (Wv (by decide) hm) (by decide)
 refine ⟨_,rfl,a,bs,rfl,ha,h64,fun D H1 ls s1 by1=>?_⟩;refine ⟨6,rfl,by decide,by decide,?_⟩;have len:=by1.len;refine gZ (n:=(6:Int).toNat) (fun i σ H'=>∃ v2 v3 v4,σ = [some (.ref a),some (.ref D),v2,v3,v4]∧aY H1 H'∧gC (Bt bs) i=none) ⟨none,none,none,rfl,aY.refl _,rfl⟩ ?turn ?done
 case done =>
  rintro σ H' ⟨v2,v3,v4,rfl,hs,dn⟩;exact qn dn H' (s1.trans hs)
 case turn =>
  rintro i σ H' hi ⟨v2,v3,v4,rfl,hs,dn⟩;have hi6:i<6:=hi;obtain ⟨l1,hl1⟩:∃ l,ls[i]? = some l:=⟨_,V1 (by omega)⟩
  obtain ⟨l2,hl2⟩:∃ l,ls[i+1]? = some l:=⟨_,V1 (by omega)⟩
  have k1:=by1.each i l1 hl1;have k2:=by1.each (i+1) l2 hl2;refine ⟨_,rfl,_,rfl,D,_,_,_,rfl,rfl,bM.of (hs _ _ by1.lst),Qk (v:=V.ref l1) (by rw [Vd,hl1]; rfl),l1,rfl,⟨_,bM.of (hs _ _ k1)⟩,?_⟩;refine mU (xs:=Is (fZ bs bs.length i)) (fun j σ H2=>∃ v3 v4,σ = [some (.ref a),some (.ref D),some (.int (0+(i:Int))),v3,v4]∧aY H1 H2∧gC (Bm bs i) j=none) ⟨v3,v4,rfl,hs,rfl⟩ ?keep2 ?turn2 ?done2
  case keep2 =>
   rintro j σ H2 hj ⟨v3,v4,rfl,hs2,_⟩;exact bM.of (hs2 _ _ k1)
  case done2 =>
   rintro σ H2 ⟨v3,v4,rfl,hs2,hd⟩;rw [aW] at hd;exact ⟨_,_,_,rfl,hs2,dH dn hd⟩
  case turn2 =>
   rintro j v σ H2 hv ⟨v3,v4,rfl,hs2,hd⟩;obtain ⟨e,he,rfl⟩:=jH hv;have jl:=(V3.mp he).1;have me:=sE (V8 he);refine ⟨_,rfl,_,rfl,_,_,rfl,rfl,D,_,_,_,rfl,rfl,bM.of (hs2 _ _ by1.lst),PB (v:=V.ref l2) (by rw [Vd,hl2]; rfl),l2,rfl,⟨_,bM.of (hs2 _ _ k2)⟩,?_⟩;refine mU (xs:=Is (fZ bs bs.length (i+1))) (fun l σ H3=>∃ v4,σ = [some (.ref a),some (.ref D),some (.int (0+(i:Int))),some (.int e),v4]∧aY H1 H3∧gC (pJ bs i j) l=none) ⟨v4,rfl,hs2,rfl⟩ ?keep3 ?turn3 ?done3
   case keep3 =>
    rintro l σ H3 hj ⟨v4,rfl,hs3,_⟩;exact bM.of (hs3 _ _ k2)
   case done3 =>
    rintro σ H3 ⟨v4,rfl,hs3,hd3⟩;rw [aW] at hd3;exact ⟨_,_,rfl,hs3,dH hd hd3⟩
   case turn3 =>
    rintro l v σ H3 hv ⟨v4,rfl,hs3,hd3⟩;obtain ⟨o,ho,rfl⟩:=jH hv;have ll:=(V3.mp ho).1;have mo:=sE (V8 ho);refine ⟨_,rfl,_,rfl,_,rfl,a,bs,m,o,e,rfl,(s1.trans hs3) _ _ ha,hl,hm,mo.1,mo.2.1,me.1,me.2.1,fun H4 s4=>?_⟩;refine ⟨_,rfl,?_⟩;cases eg:(rO bs o e).any id with
    | true =>
     refine dC ?_;exact ⟨_,rfl,hs3.trans s4,dH hd3 (Ig ho he eg)⟩
    | false =>
     refine eY ?_;refine ⟨_,rfl,_,rfl,wZ,fun r hr0=>?_⟩;exact qm o e (dI dn (dI hd (dI hd3 (Dy ho he eg) _ ll) _ jl) _ hi6) r _ (((s1.trans hs3).trans s4).trans (aD hr0 _)) aB
theorem Av {n:Nat}{f:Addr}{fd:FuncData}(F:dD K "flaw" "flaw" (top 32) f fd){p:oU}(pt:Ez K p){Ui:Addr}{U9:FuncData}(Up:mJ K p.f "may" Ui)(Uq:bB P w K mg base dX n Ui U9 ["self","kept"] (uV p.f))(Ur:Binds K U9 ["self","kept"] []){Uj:Addr}{Ua:FuncData}(Us:mJ K p.g "may" Uj)(Ut:bB P w K mg base dX n Uj Ua ["self","kept"] (tR p.g))(Uu:Binds K Ua ["self","kept"] []){Uk:Addr}{Ub:FuncData}(Uv:mJ K p.l "may" Uk)(Uw:bB P w K mg base dX n Uk Ub ["self","kept"] (uL p.l))(Ux:Binds K Ub ["self","kept"] []){TQ:Addr}{S9:FuncData}(TV:gA P w K mg base n "more_flaw" ["lets"] vB TQ S9){TX:Addr}{Sg:FuncData}(TY:gA P w K mg base n "less_flaw" ["lets"] vG TX Sg)(g_:mg "range" = none):bB P w K mg base dX (n+1) f fd ["pattern","many"] (uZ p):=by
 refine F.ok vC (fun vs H Q E h=>?_) (fun cdv A outer s H vs Q E hr h=>?_)
 ·obtain ⟨x,S,m,rfl,_⟩:=h
  rfl
 obtain ⟨x,S,m,rfl,hO,hG,m1,m6,qn,qf⟩:=h;have nd:=vC.nd;refine ⟨_,(aK (lQ (i:=2) (ls:=["kept"]) (M:=["pattern","many","lets","less"]) rfl (cL.of (by rfl)) (NL.of (by rfl)) nd rfl (Or.inl rfl) (cI rfl g_ (aA (aZ uO aQ (pv 1)) aF)) (fun _ _ _ _=>⟨(bR (i:=0) (gG (by rfl)) rfl (Or.inl rfl)),eE,(Dq (pX (pv 1) pt.cf Up Uq hr Ur .nil oX (aA (pv 0) aF)) (pX (pv 1) pt.cg Us Ut hr Uu .nil oX (aA (pv 0) aF)) (pX (pv 1) pt.cl Uv Uw hr Ux .nil oX (aA (pv 0) aF)))⟩)) (aK (dB (cJ (cD (dY bY (pv 2) aQ (fun _ _=>rfl)))) (aJ (bG (jX (aA j4 (aA aQ (aA aQ aF)))))) bT) (aK (bN (i:=3) nd rfl (Or.inl rfl) (aX TY hr (aA (pv 2) aF))) (aJ (bG (zF (eZ zJ (pv 3) gD (cG _)) (aX TV hr (aA (pv 2) aF)) (pv 3))))))),?_⟩;have p64:2^m ≤ 64:=Va (Wv (by decide) m6) (by decide);obtain ⟨N,hN⟩:∃ N:Nat,N=2^m:=⟨_,rfl⟩
 have pe:(1:Int)*2^((m:Int)).toNat=(N:Int):=by rw [Int.one_mul,XS,hN]; push_cast; rfl
 rw [← hN] at p64;refine ⟨_,rfl,_,_,rfl,rfl,⟨by omega,by omega,by decide⟩,(N:Int),congrArg (fun v=>[V.int v]) pe,by omega,by omega,fun D hD=>?_⟩;refine dR (n:=(N:Int).toNat) (fun i τ H'=>∃ v0,τ = [v0,some (.ref x),some (.int (m:Int)),none,none]∧aY H H'∧H' D=some (.lst (Bs (lF S i)))) ⟨none,rfl,aD hD _,aB⟩ ?turn ?done
 case turn =>
  rintro i j τ H' hm hi ⟨v0,rfl,hs,hD'⟩;refine sX ?_;have hX:=hO.same hs;refine J3 hX hG (fun Q' h=>⟨_,rfl,h⟩) (fun Q' h=>⟨_,rfl,h H' (aY.refl _)⟩) fun H2 s2=>?_;refine cA hm hi (s2 _ _ hD') (by rw [gR,pF]; exact bI (by omega)) ⟨_,rfl,(hs.trans s2).upd_new hD _,?_⟩;rw [aB];unfold lF;rw [jP,Ve];show _=some (HO.lst (X8 V.bl (_++[zK S (0+(i:Int))])));rw [Ve]
  rfl
 case done =>
 rintro τ H1 ⟨v0,rfl,s1,hD1⟩;rw [XS,hN] at hD1;rw [hN] at p64;have ll:=pF S (2^m);have lp:0<(lF S (2^m)).length:=by rw [ll]; exact Nat.pow_pos (by decide)
 refine ⟨_,rfl,D,_,_,_,rfl,rfl,bM.of hD1,rW (k:=0) (by decide) (by omega),_,rfl,?_⟩;have eF:gM S m=u9 (lF S (2^m)):=rfl;generalize lF S (2^m)=bs at hD1 ll lp eF ⊢;have e0:bs.getD (0:Int).toNat false=bs.getD 0 false:=rfl;rw [e0];cases z:bs.getD 0 false with
 | false =>
  refine eY ?_;refine ⟨wZ,fun r hr0=>?_⟩;exact qf "empty" 0 0 (by rw [eF]; unfold u9; rw [if_pos z]) r _ (s1.trans (aD hr0 _)) aB
 | true =>
 refine dC ?_;have eF2:gM S m=match sY bs with | some p=>some ("less",p) | none=>(u5 bs).map fun p=>("more",p):=by rw [eF]; unfold u9; rw [if_neg (by rw [z]; decide)]
 refine ⟨_,rfl,D,bs,rfl,hD1,by omega,fun en H2 s2=>?_,fun o e en r H2 s2 hr2=>?_⟩
 ·rw [en] at eF2;refine ⟨_,rfl,rfl,_,rfl,?_⟩;refine eY ?_;refine ⟨_,rfl,D,bs,m,rfl,s2 _ _ hD1,ll,m6,fun em H3 s3=>?_,fun o e em r H3 s3 hr3=>?_⟩
  ·exact qn (by rw [eF2,em]; rfl) H3 ((s1.trans s2).trans s3)
  ·exact qf "more" o e (by rw [eF2,em]; rfl) r H3 ((s1.trans s2).trans s3) hr3
 ·rw [en] at eF2;refine ⟨_,rfl,rfl,_,rfl,?_⟩;refine dC ?_;exact ⟨_,rfl,qf "less" o e eF2 r H2 (s1.trans s2) hr2⟩
theorem yL {l:List Bool}{i:Nat}(h:i<l.length):l[i]? = some (l.getD i false):=by rw [Vq,V1 h]; rfl
theorem nZ {n:Nat}{f:Addr}{fd:FuncData}(F:dD K "is_numbers" "is_numbers" (top 22) f fd){RZ:Addr}{RM:FuncData}(R0:gA P w K mg base n "is_whole" ["thing","least","most"] uU RZ RM)(Rk:mg "all" = none)(j_:mg "len" = none)(cC:mg "isinstance" = none)(Rb:mg "list" = none):bB P w K mg base dX (n+1) f fd ["things","fewest","most","greatest_number"] uC:=by
 refine F.ok iM (fun vs H Q E h=>?_) (fun cdv A outer s H vs Q E hr h=>?_)
 ·obtain ⟨v,lo,hi,g,b,rfl,_⟩:=h
  rfl
 obtain ⟨v,lo,hi,g,b,rfl,h,q⟩:=h;have nd:=iM.nd;refine ⟨_,(aK (dB (PW.pt (rJ (cJ (cD (aN (gP (T:="list")) rfl cC aP (aA (pv 0) (aA (lX (v:=.ty "list") rfl Rb vU rfl) aF))))) (nF (cJ (zE oR oR (pv 1) (aN bL rfl j_ eG (aA (pv 0) aF)) (pv 2)))))) (aJ (bG mQ)) bT) (aJ (bG (aN (jY rfl rfl) rfl Rk tX (aA (iB (ls:=["thing"]) (M:=["things","fewest","most","greatest_number"]) rfl (cL.of (by rfl)) (NL.of (by rfl)) (dZ (pv 0)) (fun _ _ _ _=>⟨(bR (i:=0) (gG (by rfl)) rfl (Or.inl rfl)),eE,(aX R0 hr (aA (pv 0) (aA aQ (aA (pv 4) aF))))⟩)) aF))))),?_⟩;cases h with
 | no h =>
  obtain ⟨t,ht,hk⟩:=h K;refine ⟨_,rfl,_,_,_,rfl,ht,hk,_,rfl,?_⟩;exact eY (eY (q H (aY.refl _)))
 | @len a xs e hl =>
  refine ⟨_,rfl,_,_,_,rfl,.lst e,jM _,_,rfl,?_⟩;refine dC ?_;refine ⟨_,rfl,_,rfl,a,_,rfl,.inl (bM.of e),_,_,rfl,rfl,_,rfl,?_⟩
  by_cases h1:lo ≤ (xs.length:Int)
  ·refine tE (decide_eq_true h1) ?_;refine ⟨_,rfl,_,_,rfl,rfl,_,rfl,?_⟩;refine tE ?_ (q H (aY.refl _));rw [decide_eq_false (show ¬ (xs.length:Int) ≤ hi by omega)]
   rfl
  ·refine iH (decide_eq_false h1) ?_;refine ⟨_,rfl,?_⟩;exact eY (q H (aY.refl _))
 | @all a xs bs e h1 h2 hn hb h =>
  refine ⟨_,rfl,_,_,_,rfl,.lst e,jM _,_,rfl,?_⟩;refine dC ?_;refine ⟨_,rfl,_,rfl,a,_,rfl,.inl (bM.of e),_,_,rfl,rfl,_,rfl,?_⟩;refine tE (decide_eq_true h1) ?_;refine ⟨_,rfl,_,_,rfl,rfl,_,rfl,?_⟩;refine iH (by rw [decide_eq_true h2]; rfl) ?_;refine ⟨_,rfl,a,rfl,⟨_,bM.of e⟩,fun D hD=>?_⟩;refine eX (xs:=xs) (fun i τ H'=>∃ v0,τ = [v0,some (.ref a),some (.int lo),some (.int hi),some (.int g)]∧aY H H'∧H' D=some (.lst ((bs.take i).map V.bl))) ⟨none,rfl,aD hD _,aB⟩ ?keep ?turn ?done
  case keep =>
   rintro i τ H' hi ⟨v0,rfl,hs,_⟩;exact bM.of (hs _ _ e)
  case turn =>
   rintro i m v τ H' hm hi ev ⟨v0,rfl,hs,hD'⟩;have hib:i<bs.length:=by omega
   refine sX ?_;refine ⟨_,rfl,_,rfl,v,0,g,bs.getD i false,rfl,(h i v ev).kt (aY.kt hs),?_⟩;refine cA hm hi hD' (by rw [VR,WD]; exact bI (by omega)) ⟨_,rfl,hs.upd_new hD _,?_⟩;rw [aB,take_snoc (yL hib),Ve]
   rfl
  case done =>
   rintro τ H' ⟨v0,rfl,hs,hD'⟩;rw [← hb,WX] at hD';exact ⟨D,_,rfl,bM.of hD',q H' hs⟩
theorem lK {n:Nat}{f:Addr}{fd:FuncData}(F:dD K "__init__" "Few.__init__" (inClass (top 24) 0) f fd){p:oU}(cf:mZ K p.f)(RL:PySem.W.findIn K (.ref p.f) "limit" = some none){b_:Addr}(h_:mg "NoSets" = some (.ref b_))(B_:rZ K b_){RZ:Addr}{RM:FuncData}(R0:gA P w K mg base n "is_whole" ["thing","least","most"] uU RZ RM){gV:Value}(d_:mg "MOST_BOXES" = some gV)(e_:RelV (.int 6) gV):bB P w K mg base (m9 P w) (n+1) f fd ["self","count"] (DQ p b_):=by
 refine F.okX fO (fun vs H Q E h=>?_) (fun cdv A outer s H vs Q E hr h=>?_)
 ·obtain ⟨x,dx,v,rfl,_⟩:=h
  rfl
 obtain ⟨x,dx,v,rfl,hx,h⟩:=h;have nd:=fO.nd;refine ⟨_,(aK (dB (PT.nox (cJ (cD (aX R0 hr (aA (pv 1) (aA aQ (aA (bF (v:=.int 6) rfl d_ e_) aF))))))) (aJ (gQ eO rfl rfl h_ B_)) bT) (mW.nox (aJ (pQ (pv 0) (pv 1) rfl)))),?_⟩;rcases h with ⟨c,rfl,c0,c6,q⟩ | ⟨h,q⟩
 ·refine ⟨_,rfl,_,0,6,true,rfl,jC.yes c0 c6,?_⟩;refine ⟨_,rfl,?_⟩;refine dC ?_;exact ⟨_,rfl,_,rfl,x,p.f,dx,[],rfl,hx,cf,RL,(by show 0<1000; decide),q⟩
 ·refine ⟨_,rfl,v,0,6,false,rfl,h,?_⟩;refine ⟨_,rfl,?_⟩;exact eY q
theorem jB {n:Nat}{f:Addr}{fd:FuncData}(F:dD K "__init__" "Groups.__init__" (inClass (top 25) 0) f fd){p:oU}(cf:mZ K p.g)(RT:PySem.W.findIn K (.ref p.g) "groups" = some none)(S7:PySem.W.findIn K (.ref p.g) "most" = some none){b_:Addr}(h_:mg "NoSets" = some (.ref b_))(B_:rZ K b_){RC:Addr}{O_:FuncData}(D_:gA P w K mg base n "is_numbers" ["things","fewest","most","greatest_number"] uC RC O_)(A_:mg "tuple" = none){gV:Value}(d_:mg "MOST_BOXES" = some gV)(e_:RelV (.int 6) gV):bB P w K mg base (m9 P w) (n+1) f fd ["self","groups","most"] (Cj p b_):=by
 refine F.okX dJ (fun vs H Q E h=>?_) (fun cdv A outer s H vs Q E hr h=>?_)
 ·obtain ⟨x,dx,v,u,rfl,_⟩:=h
  rfl
 obtain ⟨x,dx,v,u,rfl,hx,h⟩:=h;have nd:=dJ.nd;refine ⟨_,(aK (dB (PT.nox (cJ (cD (aX D_ hr (aA (pv 1) (aA aQ (aA (bF (v:=.int 6) rfl d_ e_) (aA (aZ jD (bF (v:=.int 6) rfl d_ e_) aQ) aF)))))))) (aJ (gQ eO rfl rfl h_ B_)) bT) (aK (dB (PT.nox (cJ (cD (aX D_ hr (aA (pv 2) (aA (bF (v:=.int 6) rfl d_ e_) (aA (bF (v:=.int 6) rfl d_ e_) (aA (bF (v:=.int 6) rfl d_ e_) aF)))))))) (aJ (gQ eO rfl rfl h_ B_)) bT) (mW.nox (aK (pQ (pv 0) (dG (cO (K:=K) rfl) rfl A_ jN (aA (pv 1) aF)) rfl) (aJ (pQ (pv 0) (dG (cO (K:=K) rfl) rfl A_ jN (aA (pv 2) aF)) rfl)))))),?_⟩;rcases h with ⟨a,b,gs,ms,rfl,rfl,ha,hb,g,q⟩ | ⟨h,q⟩
 rotate_left
 ·rcases h with h | ⟨h,h2⟩
  ·refine ⟨_,rfl,_,_,rfl,rfl,v,1,6,5,false,rfl,h,fun H1 s1=>?_⟩;refine ⟨_,rfl,?_⟩;exact eY (q H1 s1)
  ·refine ⟨_,rfl,_,_,rfl,rfl,v,1,6,5,true,rfl,h,fun H1 s1=>?_⟩;refine ⟨_,rfl,?_⟩;refine dC ?_;refine ⟨_,rfl,u,6,6,6,false,rfl,h2.kt (aY.kt s1),fun H2 s2=>?_⟩;refine ⟨_,rfl,?_⟩;exact eY (q H2 (s1.trans s2))
 have g1:=g.l1;have g6:=g.l6;have gm:=g.m6;refine ⟨_,rfl,_,_,rfl,rfl,.ref a,1,6,5,true,rfl,dF ha (by omega) (by omega) (by omega) g.g,fun H1 s1=>?_⟩;refine ⟨_,rfl,?_⟩;refine dC ?_;refine ⟨_,rfl,.ref b,6,6,6,true,rfl,dF (s1 _ _ hb) (by omega) (by omega) (by omega) g.m,fun H2 s2=>?_⟩;refine ⟨_,rfl,?_⟩;refine dC ?_;have lW:=s1.trans s2;refine ⟨_,rfl,a,_,rfl,.inl ⟨bM.of (lW _ _ ha),fun t ht=>?_⟩⟩;have n1:=aD ht (.tup (Is gs));have hx1:=(lW.trans n1) _ _ hx;refine ⟨_,rfl,x,p.g,dx,[],rfl,hx1,cf,RT,(by show 0<1000; decide),?_⟩;have nbx:b≠x:=lB hb hx fun z=>nomatch z
 have ntx:t≠x:=Ne.symm (bO (lW _ _ hx) ht);have kx:∀ c o,c≠x →H c=some o →aR (aR H2 t (.tup (Is gs))) x (.ins p.g dx [("groups",.ref t)]) c=some o:=fun c o nc e=>by rw [aM nc]; exact (lW.trans n1) _ _ e
 have ht3:aR (aR H2 t (.tup (Is gs))) x (.ins p.g dx [("groups",.ref t)]) t=some (.tup (Is gs)):=by rw [aM ntx]; exact aB
 have hx3:aR (aR H2 t (.tup (Is gs))) x (.ins p.g dx [("groups",.ref t)]) x=some (.ins p.g dx [("groups",.ref t)]):=aB;refine ⟨_,rfl,b,_,rfl,.inl ⟨bM.of (kx _ _ nbx hb),fun u hu=>?_⟩⟩;have n4:=aD hu (.tup (Is ms));have nux:u≠x:=Ne.symm (bO hx3 hu);refine ⟨_,rfl,x,p.g,dx,[("groups",.ref t)],rfl,n4 _ _ hx3,cf,S7,(by show 1<1000; decide),?_⟩;refine q t u _ (fun c o nc e=>?_) ?_ ?_ aB
 ·rw [aM nc];exact n4 _ _ (kx c o nc e)
 ·rw [aM ntx];exact n4 _ _ ht3
 ·rw [aM nux];exact aB
theorem jA {n:Nat}{f:Addr}{fd:FuncData}(F:dD K "__init__" "Listed.__init__" (inClass (top 26) 0) f fd){p:oU}(cf:mZ K p.l)(R4:PySem.W.findIn K (.ref p.l) "sets" = some none){b_:Addr}(h_:mg "NoSets" = some (.ref b_))(B_:rZ K b_){RC:Addr}{O_:FuncData}(D_:gA P w K mg base n "is_numbers" ["things","fewest","most","greatest_number"] uC RC O_)(A_:mg "tuple" = none)(Ro:mg "sorted" = none)(j_:mg "len" = none)(U3:mg "set" = none){Rh:Value}(M_:mg "MOST_SETS" = some Rh)(N_:RelV (.int 64) Rh):bB P w K mg base (m9 P w) (n+1) f fd ["self","sets"] (BL p b_):=by
 refine F.okX dM (fun vs H Q E h=>?_) (fun cdv A outer s H vs Q E hr h=>?_)
 ·obtain ⟨x,dx,v,rfl,_⟩:=h
  rfl
 obtain ⟨x,dx,v,rfl,hx,h⟩:=h;have nd:=dM.nd;refine ⟨_,(aK (dB (PT.nox (PW.pt (rJ (cJ (cD (aX D_ hr (aA (pv 1) (aA aQ (aA (bF (v:=.int 64) rfl M_ N_) (aA (aZ jD (bF (v:=.int 64) rfl M_ N_) aQ) aF))))))) (nF (eZ HJ (aN nY rfl j_ eG (aA (dG (tY (K:=K) rfl rfl) rfl U3 Do (aA (pv 1) aF)) aF)) (aN bL rfl j_ eG (aA (pv 1) aF)) (cG _)))))) (aJ (gQ eO rfl rfl h_ B_)) bT) (mW.nox (aJ (pQ (pv 0) (dG (cO (K:=K) rfl) rfl A_ jN (aA (aN (nJ (K:=K) rfl) rfl Ro wJ (aA (pv 1) aF)) aF)) rfl)))),?_⟩;rcases h with ⟨a,ks,rfl,ha,g,q⟩ | ⟨h,q⟩
 rotate_left
 ·rcases h with h | ⟨a,ks,rfl,ha,k1,k64,kk,dd⟩
  ·refine ⟨_,rfl,_,_,rfl,rfl,v,1,64,63,false,rfl,h,fun H1 s1=>?_⟩;refine ⟨_,rfl,?_⟩;exact eY (eY (q H1 s1))
  ·refine ⟨_,rfl,_,_,rfl,rfl,.ref a,1,64,63,true,rfl,dF ha (by omega) (by omega) (by omega) kk,fun H1 s1=>?_⟩;refine ⟨_,rfl,?_⟩;refine dC ?_;refine ⟨_,rfl,a,ks,rfl,bM.of (s1 _ _ ha),(by show ks.length+1<4096; omega),fun r hr0=>?_⟩;have n1:=aD hr0 (.set (fun k=>(vM ks).any (·==k)) (vM ks).length);refine ⟨r,_,_,rfl,aB,_,rfl,a,_,rfl,.inl (bM.of ((s1.trans n1) _ _ ha)),rfl,_,rfl,?_⟩;refine tE ?_ (q _ (s1.trans n1));rw [aW,decide_eq_false (fun z=>dd (by injection z with z; omega))]
   rfl
 have g1:=g.l1;have g64:=g.l64;refine ⟨_,rfl,_,_,rfl,rfl,.ref a,1,64,63,true,rfl,dF ha (by omega) (by omega) (by omega) g.k,fun H1 s1=>?_⟩;refine ⟨_,rfl,?_⟩;refine dC ?_;refine ⟨_,rfl,a,ks,rfl,bM.of (s1 _ _ ha),(by show ks.length+1<4096; omega),fun r hr0=>?_⟩;have n1:=aD hr0 (.set (fun k=>(vM ks).any (·==k)) (vM ks).length);refine ⟨r,_,_,rfl,aB,_,rfl,a,_,rfl,.inl (bM.of ((s1.trans n1) _ _ ha)),rfl,_,rfl,?_⟩;refine iH (by rw [zY g.nd,aW]; simp) ?_;have s2:=s1.trans n1;generalize aR H1 r (.set (fun k=>(vM ks).any (·==k)) (vM ks).length)=H2 at s2 ⊢;refine ⟨_,rfl,a,ks,rfl,.inl (bM.of (s2 _ _ ha)),g.few,fun l ms hl pm so=>?_⟩;have n3:=aD hl (.lst (Is ms));refine ⟨l,_,rfl,.inl ⟨bM.of aB,fun t ht=>?_⟩⟩;have n4:=aD ht (.tup (Is ms));have s4:=s2.trans (n3.trans n4);exact ⟨_,rfl,x,p.l,dx,[],rfl,s4 _ _ hx,cf,R4,(by show 0<1000; decide),q t ms _ s4 pm so aB⟩
theorem nQ {n:Nat}{f:Addr}{fd:FuncData}(F:dD K "is_pattern" "is_pattern" (top 27) f fd){p:oU}(pt:Ez K p)(cp:Ef K p)(R5:mg "Few" = some (.ref p.f))(n_:mg "Groups" = some (.ref p.g))(k_:mg "Listed" = some (.ref p.l))(cC:mg "isinstance" = none):bB P w K mg base dX (n+1) f fd ["thing"] (yK p K):=by
 refine F.ok iQ (fun vs H Q E h=>?_) (fun cdv A outer s H vs Q E hr h=>?_)
 ·obtain ⟨v,b,rfl,_⟩:=h
  rfl
 obtain ⟨v,b,rfl,h,q⟩:=h;have nd:=iQ.nd;refine ⟨_,(aJ (bG (CK (aN (fC (K:=K) rfl) rfl cC aP (aA (pv 0) (aA (bF (v:=.ref p.f) rfl R5 rfl) aF))) (CK (aN (fC (K:=K) rfl) rfl cC aP (aA (pv 0) (aA (bF (v:=.ref p.g) rfl n_ rfl) aF))) (uN (aN (fC (K:=K) rfl) rfl cC aP (aA (pv 0) (aA (bF (v:=.ref p.l) rfl k_ rfl) aF)))))))),?_⟩;cases h with
 | @yes x S h =>
  cases S with
  | few cc =>
   obtain ⟨dx,hx⟩:=(show jJ p.f H x cc from h)
   refine ⟨_,rfl,_,p.f,.ref p.f,true,rfl,.ins hx pt.cf pt.fa pt.hn pt.htk pt.fm,pt.ff,?_⟩;refine ⟨_,rfl,?_⟩;refine eY ?_;exact q
  | groups gs ms =>
   obtain ⟨dx,g,m0,hx,hg,hm0⟩:=(show rE p.g H x gs ms from h)
   refine ⟨_,rfl,_,p.f,.ref p.g,false,rfl,.ins hx pt.cg pt.ga pt.hn pt.htk pt.gm,pt.gf,?_⟩;refine ⟨_,rfl,?_⟩;refine dC ?_;refine ⟨_,rfl,_,p.g,.ref p.g,true,rfl,.ins hx pt.cg pt.ga pt.hn pt.htk pt.gm,pt.gg,?_⟩;refine ⟨_,rfl,?_⟩;refine eY ?_;exact q
  | listed ks =>
   obtain ⟨ms,pm,so,dx,t,hx,ht⟩:=(show ∃ ms,ms.Perm ks∧ms.Pairwise (· ≤ ·)∧sJ p.l H x ms from h)
   refine ⟨_,rfl,_,p.f,.ref p.l,false,rfl,.ins hx pt.cl pt.la pt.hn pt.htk pt.lm,pt.lf,?_⟩;refine ⟨_,rfl,?_⟩;refine dC ?_;refine ⟨_,rfl,_,p.g,.ref p.l,false,rfl,.ins hx pt.cl pt.la pt.hn pt.htk pt.lm,pt.lg,?_⟩;refine ⟨_,rfl,?_⟩;refine dC ?_;exact ⟨_,rfl,_,p.l,.ref p.l,true,rfl,.ins hx pt.cl pt.la pt.hn pt.htk pt.lm,pt.ll,q⟩
 | no h ht =>
  obtain ⟨z1,z2,z3⟩:=cp.all _ ht;refine ⟨_,rfl,_,p.f,_,false,rfl,h,z1,?_⟩;refine ⟨_,rfl,?_⟩;refine dC ?_;refine ⟨_,rfl,_,p.g,_,false,rfl,h,z2,?_⟩;refine ⟨_,rfl,?_⟩;refine dC ?_;exact ⟨_,rfl,_,p.l,_,false,rfl,h,z3,q⟩
theorem fX {n:Nat}{f:Addr}{fd:FuncData}(F:dD K "__init__" "NoPattern.__init__" (inClass (top 10) 0) f fd){a_:Addr}(xf:zR K a_)(Tq:PySem.W.findIn K (.ref a_) "one" = some none)(Rp:PySem.W.findIn K (.ref a_) "other" = some none):bB P w K mg base dX (n+1) f fd ["self","one","other"] (CG a_):=by
 refine F.ok cT (fun vs H Q E h=>?_) (fun cdv A outer s H vs Q E hr h=>?_)
 ·obtain ⟨a,o,e,rfl,_⟩:=h
  rfl
 obtain ⟨a,o,e,rfl,ha,q⟩:=h;have nd:=cT.nd;refine ⟨_,(aK (DG (pv 0) (pv 1) rfl) (aJ (Dj (pv 0) (pv 2) rfl))),?_⟩;refine ⟨_,rfl,_,rfl,a,a_,rfl,ha,xf,Tq,fun d hd=>?_⟩;have ne:d≠a:=fun z=>by rw [z,ha] at hd; cases hd
 have hd1:aR (aR H d (.ext (XD d [("one",.int o)]))) a (.ext (kJ a (.ref a_) (some d))) d=some (.ext (XD d [("one",.int o)])):=by rw [aM ne]; exact aB
 refine ⟨_,rfl,_,rfl,a,a_,d,_,rfl,aB,hd1,ne,(by show 1<1000; decide),xf,Rp,?_⟩;refine q d _ hd ne (fun b u nb e'=>?_) ?_ aB
 ·have nd':b≠d:=fun z=>by rw [z,hd] at e'; cases e'
  rw [aM nd',aM nb,aM nd'];exact e'
 ·rw [aM (Ne.symm ne)];exact aB
theorem lH {n:Nat}{f:Addr}{fd:FuncData}(F:dD K "need_pattern" "need_pattern" (top 33) f fd){p:oU}{b_:Addr}(h_:mg "NoSets" = some (.ref b_))(B_:rZ K b_){a_ iN:Addr}{dN:FuncData}{kN:Nat}(i_:mg "NoPattern" = some (.ref a_))(xi:uM K a_ iN)(Uy:bB P w K mg base dX kN iN dN ["self","one","other"] (CG a_))(Uz:Binds K dN ["self","one","other"] [])(Ul:kN+1 ≤ n){Ue:Addr}{U8:FuncData}(Ug:gA P w K mg base n "flaw" ["pattern","many"] (uZ p) Ue U8){Sh:Addr}{R_:FuncData}(Sq:gA P w K mg base n "is_pattern" ["thing"] (yK p K) Sh R_):bB P w K mg base (m9 P w) (n+1) f fd ["pattern","many"] (BR p K b_ a_):=by
 refine F.okX fW (fun vs H Q E h=>?_) (fun cdv A outer s H vs Q E hr h=>?_)
 ·obtain ⟨v,m,rfl,_⟩:=h
  rfl
 obtain ⟨v,m,rfl,h⟩:=h;have nd:=fW.nd;refine ⟨_,(aK (dB (PT.nox (cJ (cD (aX Sq hr (aA (pv 0) aF))))) (aJ (gQ eO rfl rfl h_ B_)) bT) (aK (PS.nox (bN (i:=2) nd rfl (Or.inl rfl) (aX Ug hr (aA (pv 0) (aA (pv 1) aF))))) (aJ (dB (eZ Ag (pv 2) gD (cG _)) (aJ (wV tQ rfl rfl i_ xi Uy (hr.mono Ul) Uz (aA (dY uP (pv 2) aQ (fun _ _=>rfl)) (aA (dY uP (pv 2) aQ (fun _ _=>rfl)) aF)))) bT)))),?_⟩;rcases h with ⟨h,q⟩ | ⟨x,S,rfl,hX,hG,m1,m6,qn,qf⟩
 ·refine ⟨_,rfl,v,false,rfl,h,?_⟩;refine ⟨_,rfl,?_⟩;exact eY q
 refine ⟨_,rfl,.ref x,true,rfl,.yes hX,?_⟩;refine ⟨_,rfl,?_⟩;refine dC ?_;refine ⟨_,rfl,_,rfl,x,S,m,rfl,hX,hG,m1,m6,fun en H1 s1=>?_,fun st o e en r H1 s1 hr1=>?_⟩
 ·refine ⟨_,rfl,rfl,_,rfl,?_⟩;refine iH rfl ?_;exact qn en H1 s1
 ·refine ⟨_,rfl,rfl,_,rfl,?_⟩;refine tE rfl ?_;refine ⟨_,rfl,r,_,_,_,rfl,rfl,jF.of hr1,rfl,_,rfl,r,_,_,_,rfl,rfl,jF.of hr1,rfl,?_⟩;intro a ha;refine ⟨a,o,e,rfl,aB,fun d H2 hd ne kp ha2 np=>⟨rfl,d,ha2,?_⟩⟩;have hd1:H1 d=none:=by rw [aM ne] at hd; exact hd
  refine qf st o e en d _ (s1.trans fun b u z=>?_) ?_
  ·have nb:b≠a:=bO z ha;rw [iW nb];exact kp b u nb (by rw [aM nb]; exact z)
  ·show zB H2 a d=_;rw [iW ne];exact np
theorem Cg {v0 v1 v2 v3 v4 v5 v6 v7 v8 v9 v10:V}{m:Int}{R:V →Prop}(h0:R v0)(h1:R v1)(h2:R v2)(h3:R v3)(h4:R v4)(h5:R v5)(h6:R v6)(h7:R v7)(h8:R v8)(h9:R v9)(h10:R v10):∃ v,tD [v0,v1,v2,v3,v4,v5,v6,v7,v8,v9,v10] (m%11)=some v∧R v:=by
 have a1:=V7 m (show (11:Int)≠0 by decide);have a2:=V4 m (show (0:Int)<11 by decide);rcases (by omega:m%11=0∨m%11=1∨m%11=2∨m%11=3∨m%11=4∨m%11=5∨m%11=6∨m%11=7∨m%11=8∨m%11=9∨m%11=10) with e | e | e | e | e | e | e | e | e | e | e <;> rw [e]
 ·exact ⟨_,rfl,h0⟩
 ·exact ⟨_,rfl,h1⟩
 ·exact ⟨_,rfl,h2⟩
 ·exact ⟨_,rfl,h3⟩
 ·exact ⟨_,rfl,h4⟩
 ·exact ⟨_,rfl,h5⟩
 ·exact ⟨_,rfl,h6⟩
 ·exact ⟨_,rfl,h7⟩
 ·exact ⟨_,rfl,h8⟩
 ·exact ⟨_,rfl,h9⟩
 ·exact ⟨_,rfl,h10⟩
theorem HD {v0 v1 v2 v3 v4 v5 v6 v7:V}{m:Int}{R:V →Prop}(h0:R v0)(h1:R v1)(h2:R v2)(h3:R v3)(h4:R v4)(h5:R v5)(h6:R v6)(h7:R v7):∃ v,tD [v0,v1,v2,v3,v4,v5,v6,v7] (m%8)=some v∧R v:=by
 have a1:=V7 m (show (8:Int)≠0 by decide);have a2:=V4 m (show (0:Int)<8 by decide);rcases (by omega:m%8=0∨m%8=1∨m%8=2∨m%8=3∨m%8=4∨m%8=5∨m%8=6∨m%8=7) with e | e | e | e | e | e | e | e <;> rw [e]
 ·exact ⟨_,rfl,h0⟩
 ·exact ⟨_,rfl,h1⟩
 ·exact ⟨_,rfl,h2⟩
 ·exact ⟨_,rfl,h3⟩
 ·exact ⟨_,rfl,h4⟩
 ·exact ⟨_,rfl,h5⟩
 ·exact ⟨_,rfl,h6⟩
 ·exact ⟨_,rfl,h7⟩
theorem Gf {v0 v1 v2 v3 v4 v5:V}{m:Int}{R:V →Prop}(h0:R v0)(h1:R v1)(h2:R v2)(h3:R v3)(h4:R v4)(h5:R v5):∃ v,tD [v0,v1,v2,v3,v4,v5] (m%6)=some v∧R v:=by
 have a1:=V7 m (show (6:Int)≠0 by decide);have a2:=V4 m (show (0:Int)<6 by decide);rcases (by omega:m%6=0∨m%6=1∨m%6=2∨m%6=3∨m%6=4∨m%6=5) with e | e | e | e | e | e <;> rw [e]
 ·exact ⟨_,rfl,h0⟩
 ·exact ⟨_,rfl,h1⟩
 ·exact ⟨_,rfl,h2⟩
 ·exact ⟨_,rfl,h3⟩
 ·exact ⟨_,rfl,h4⟩
 ·exact ⟨_,rfl,h5⟩
theorem wR {n:Nat}(h:n ≤ 1000):n ≤ sizeLine:=WK (bI h)
theorem nU {n:Nat}{f:Addr}{fd:FuncData}(F:dD K "_law_thing" "_law_thing" (top 37) f fd):bB P w K mg base dX (n+1) f fd ["_law_cell","_law_high"] yD:=by
 refine F.ok iJ (fun vs H Q E h=>?_) (fun cdv A outer s H vs Q E hr h=>?_)
 ·obtain ⟨c,hi,rfl,_⟩:=h
  rfl
 obtain ⟨c,hi,rfl,c0,h0,q⟩:=h;have nd:=iJ.nd;refine ⟨_,(zT.h (xB (Dp (i:=2) nd rfl (Or.inl rfl) (bK (aC (Bf yC aG) (aC (bQ cH (qv 1) aG) (aC (bQ cH (bQ cH (qv 1) aG) (bQ cM (qv 0) aG)) (aC (bQ jD (Bf yC aG) (bQ cM (qv 0) aG)) (aC xM (aC xM (aC qO (aC j7 (aC (eH (aC aG (aC aG aO))) (aC (bK (aC aG aO)) (aC xU aO))))))))))))) (bV (qJ (kI bY (qv 2) (bQ bJ (qv 0) aG) (fun _ _=>rfl)))))),?_⟩;refine ⟨_,rfl,_,rfl,_,_,rfl,rfl,_,rfl,_,_,rfl,rfl,_,rfl,_,_,rfl,rfl,⟨by decide,by decide⟩,_,_,rfl,rfl,_,rfl,_,rfl,_,_,rfl,rfl,⟨by decide,by decide⟩,_,_,rfl,rfl,tG,fun l2 e2=>?_⟩;have t2:=aD e2 (.tup [V.int 1,V.int 1]);refine ⟨Cv,fun l3 e3=>?_⟩;have t3:=aD e3 (.lst [V.int 0]);intro l4 e4;have t4:=aD e4 (.dK []);refine ⟨wR (by decide:11 ≤ 1000),fun l5 e5=>?_⟩;have t5:=aD e5 (.lst [V.int (-1),V.int (hi+1),V.int (hi+1+c/9),V.int (-1-c/9),V.bl true,V.bl false,V.non,V.str "1",V.ref l2,V.ref l3,V.ref l4]);have c9:0 ≤ c/9:=W3 c0 (by decide);obtain ⟨v,hv,iw⟩:=Cg (m:=c) (R:=fun v=>jC _ 0 hi v false) (jC.not (i:=-1) (.inl (by decide))) (jC.not (i:=hi+1) (.inr (by omega))) (jC.not (i:=hi+1+c/9) (.inr (by omega))) (jC.not (i:=-1-c/9) (.inl (by omega))) (.bl true) (.bl false) (.no (zU (fun K=>.non) fun K=>rfl)) (.no (zU (fun K=>.str "1") fun K=>rfl))
  (.no (zU (fun K=>.tup ((t3.trans (t4.trans t5)) _ _ aB)) fun K=>rfl)) (.no (zU (fun K=>.lst ((t4.trans t5) _ _ aB)) fun K=>rfl)) (.no (zU (fun K=>.dK (t5 _ _ aB)) fun K=>rfl))
 refine ⟨_,rfl,_,rfl,_,_,rfl,rfl,(by show (0:Int)<11; decide),l5,_,_,_,rfl,rfl,bM.of aB,hv,?_⟩;exact q v _ (t2.trans (t3.trans (t4.trans t5))) iw
theorem vZ {ns:List Int}{j:Nat}{v:V}(hj:j<ns.length)(H:Hp){hi lo up:Int}{D:Addr}(hD:H D=some (.lst ((Is ns).set j v)))(hn:∀ n∈ns,0 ≤ n∧n ≤ hi)(l6:ns.length ≤ 6)(iw:jC H 0 hi v false)(h1:lo ≤ (ns.length:Int))(h2:(ns.length:Int) ≤ up):Nums H lo up hi (.ref D) false:=by
 have ln:((Is ns).set j v).length=ns.length:=by rw [Wq,aW]
 have z:=Nums.all (H:=H) (lo:=lo) (hi:=up) (g:=hi) (bs:=(V0 ns.length true).set j false) hD (by rw [ln]; exact h1) (by rw [ln]; exact h2) (by rw [ln]; omega) (by rw [Wq,Vl,ln]) fun i x hx=>by
  by_cases e:j=i
  ·subst e;rw [Vj (by rw [aW]; exact hj)] at hx;cases hx;rw [Vq,Vj (by rw [Vl]; exact hj)];exact iw
  ·rw [Vs e] at hx;obtain ⟨n,hn1,rfl⟩:=jH hx;have hm:=hn n (V8 hn1);rw [Vq,Vs e,WF,if_pos (V3.mp hn1).1];exact jC.yes hm.1 hm.2
 have t:((V0 ns.length true).set j false).all id=false:=by
  rw [List.all_eq_false];exact ⟨false,V8 (Vj (by rw [Vl]; exact hj)),by decide⟩
 rw [t] at z;exact z
theorem mC {n:Nat}{f:Addr}{fd:FuncData}(F:dD K "_law_spoilt" "_law_spoilt" (top 38) f fd){RD:Addr}{P_:FuncData}(RG:gA P w K mg base n "_law_thing" ["_law_cell","_law_high"] yD RD P_)(A_:mg "tuple" = none)(j_:mg "len" = none)(Rb:mg "list" = none):bB P w K mg base dX (n+1) f fd ["_law_numbers","_law_cell","_law_high"] Bv:=by
 refine F.ok gJ (fun vs H Q E h=>?_) (fun cdv A outer s H vs Q E hr h=>?_)
 ·obtain ⟨a,ns,c,hi,rfl,_⟩:=h
  rfl
 obtain ⟨a,ns,c,hi,rfl,ha,l1,l6,hn,c0,h0,q⟩:=h;have nd:=gJ.nd;refine ⟨_,(aK (bN (i:=3) nd rfl (Or.inl rfl) (dG pZ rfl Rb vU (aA (pv 0) aF))) (aK (Cy (aX RG hr (aA (aZ cM (pv 1) aQ) (aA (pv 2) aF))) (Cm (pv 3) (aZ bJ (aZ cM (pv 1) aQ) (aN bL rfl j_ eG (aA (pv 3) aF))) set_list)) (zT.h (bV (qJ (kI bY (bK (aC (qv 3) (aC (wC (cO (K:=K) rfl) rfl A_ jN (aC (qv 0) aO)) (aC qO (aC j7 (aC aG (aC (qv 3) (aC (qv 3) (aC (Ab (yH aG aG Ae) rfl rfl (by decide) (by decide)) aO))))))))) (bQ bJ (qv 1) aG) (fun _ _=>rfl))))))),?_⟩;refine ⟨_,rfl,a,_,rfl,.inl (bM.of ha),fun D hD=>?_⟩;have t1:=aD hD (.lst (Is ns));have c64:0 ≤ c/64:=W3 c0 (by decide);refine ⟨_,rfl,_,_,rfl,rfl,⟨by decide,by decide⟩,_,rfl,c/64,hi,rfl,c64,h0,fun v H2 s2 iw=>?_⟩;have hD2:=s2 _ _ (show aR H D (.lst (Is ns)) D=some (.lst (Is ns)) from aB);have ln:=aW ns;have k0:=V7 (c/8) (show ((((Is ns).length:Nat)):Int)≠0 by omega);have k1:=V4 (c/8) (show (0:Int)<(((Is ns).length:Nat):Int) by omega);refine ⟨_,rfl,_,rfl,_,_,rfl,rfl,⟨by decide,by decide⟩,_,rfl,D,_,rfl,.inl (bM.of hD2),_,_,rfl,rfl,(by show (0:Int)<(((Is ns).length:Nat):Int); omega),D,_,_,_,rfl,rfl,hD2,Cz k0 k1,?_⟩;have s3:=(t1.trans s2).upd_new hD (.lst ((Is ns).set (c/8%((Is ns).length:Int)).toNat v));have hD3:aR H2 D (.lst ((Is ns).set (c/8%((Is ns).length:Int)).toNat v)) D=some (.lst ((Is ns).set (c/8%((Is ns).length:Int)).toNat v)):=aB;have iw3:=jC.over (ys:=(Is ns).set (c/8%((Is ns).length:Int)).toNat v) iw hD2;generalize aR H2 D (.lst ((Is ns).set (c/8%((Is ns).length:Int)).toNat v))=H3 at s3 hD3 iw3 ⊢;have jl:(c/8%((Is ns).length:Int)).toNat<ns.length:=by omega
 generalize (c/8%((Is ns).length:Int)).toNat=j at hD3 jl;refine ⟨_,rfl,_,rfl,a,_,rfl,.inl ⟨bM.of (s3 _ _ ha),fun t ht=>?_⟩⟩;have n4:=aD ht (.tup (Is ns));refine ⟨_,rfl,_,rfl,fun d hd=>⟨aB,[(.inl 0,.int 1)],rfl,by decide,?_⟩⟩;rw [BX];have n5:=aD hd (.dK (fB [] [(.inl 0,.int 1)]));have hd5:aR (aR H3 t (.tup (Is ns))) d (.dK (fB [] [(.inl 0,.int 1)])) d=some (.dK (fB [] [(.inl 0,.int 1)])):=aB;have ht5:=n5 _ _ (show aR H3 t (.tup (Is ns)) t=some (.tup (Is ns)) from aB);have s5:=n4.trans n5;generalize aR (aR H3 t (.tup (Is ns))) d (.dK (fB [] [(.inl 0,.int 1)]))=H5 at n5 hd5 ht5 s5 ⊢;refine ⟨wR (by decide:8 ≤ 1000),fun l hl=>?_⟩;have n6:=aD hl (.lst [V.ref D,V.ref t,V.non,V.str "0 1",V.int 3,V.ref D,V.ref D,V.ref d]);have s6:=s5.trans n6;have hl6:aR H5 l (.lst [V.ref D,V.ref t,V.non,V.str "0 1",V.int 3,V.ref D,V.ref D,V.ref d]) l=some (.lst [V.ref D,V.ref t,V.non,V.str "0 1",V.int 3,V.ref D,V.ref D,V.ref d]):=aB;generalize aR H5 l (.lst [V.ref D,V.ref t,V.non,V.str "0 1",V.int 3,V.ref D,V.ref D,V.ref d])=H6 at n6 s6 hl6 ⊢;have spD:∀ lo up:Int,lo ≤ (ns.length:Int) →(ns.length:Int) ≤ up →Nums H6 lo up hi (.ref D) false:=fun lo up h1 h2=>vZ jl H6 (s6 _ _ hD3) hn l6 (iw3.kt (aY.kt s6)) h1 h2;obtain ⟨v',hv,nw⟩:=HD (m:=c) (R:=fun v=>∀ lo up:Int,lo ≤ (ns.length:Int) →(ns.length:Int) ≤ up →Nums H6 lo up hi v false) spD (fun _ _ _ _=>.no (zU (fun K=>.tup (n6 _ _ ht5)) fun K=>rfl)) (fun _ _ _ _=>.no (zU (fun K=>.non) fun K=>rfl)) (fun _ _ _ _=>.no (zU (fun K=>.str "0 1") fun K=>rfl)) (fun _ _ _ _=>.no (zU (fun K=>.int 3) fun K=>rfl)) spD spD (fun _ _ _ _=>.no (zU (fun K=>.dK (n6 _ _ hd5)) fun K=>rfl));refine ⟨_,rfl,_,_,rfl,rfl,(by show (0:Int)<8; decide),l,_,_,_,rfl,rfl,bM.of hl6,hv,?_⟩;exact q v' H6 (s3.trans s6) nw
theorem mG {m:Int}(v0 v1 v2:V):∃ v,tD [v0,v1,v2] (m%3)=some v∧((m%3=0∧v=v0)∨(m%3=1∧v=v1)∨(m%3=2∧v=v2)):=by
 rcases (by omega:m%3=0∨m%3=1∨m%3=2) with e | e | e <;> rw [e]
 ·exact ⟨_,rfl,.inl ⟨rfl,rfl⟩⟩
 ·exact ⟨_,rfl,.inr (.inl ⟨rfl,rfl⟩)⟩
 ·exact ⟨_,rfl,.inr (.inr ⟨rfl,rfl⟩)⟩
theorem nR {n:Nat}{f:Addr}{fd:FuncData}(F:dD K "_law_tried" "_law_tried" (top 39) f fd){p:oU}{b_ a_:Addr}{iF:Addr}{iDF:FuncData}{kOF:Nat}(U4:Mk K p.f iF)(U5:bB P w K mg base (m9 P w) kOF iF iDF ["self","count"] (DQ p b_))(U6:Binds K iDF ["self","count"] [])(R5:mg "Few" = some (.ref p.f))(Tr:kOF+1 ≤ n){iG:Addr}{iDG:FuncData}{kOG:Nat}(RN:Mk K p.g iG)(RP:bB P w K mg base (m9 P w) kOG iG iDG ["self","groups","most"] (Cj p b_))(RQ:Binds K iDG ["self","groups","most"] [])(n_:mg "Groups" = some (.ref p.g))(Qy:kOG+1 ≤ n){iL:Addr}{iDL:FuncData}{kOL:Nat}(Qz:Mk K p.l iL)(Q_:bB P w K mg base (m9 P w) kOL iL iDL ["self","sets"] (BL p b_))(RB:Binds K iDL ["self","sets"] [])(k_:mg "Listed" = some (.ref p.l))(E_:kOL+1 ≤ n){o_:Addr}{l_:FuncData}(p_:jT P w K mg base n "need_pattern" ["pattern","many"] (BR p K b_ a_) o_ l_){RD:Addr}{P_:FuncData}(RG:gA P w K mg base n "_law_thing" ["_law_cell","_law_high"] yD RD P_){SJ:Addr}{Rq:FuncData}(Qx:gA P w K mg base n "_law_spoilt" ["_law_numbers","_law_cell","_law_high"] Bv SJ Rq)(g_:mg "range" = none):bB P w K mg base (m9 P w) (n+1) f fd ["_law_way","_law_cell"] (Bu b_):=by
 refine F.okX iK (fun vs H Q E h=>?_) (fun cdv A outer s H vs Q E hr h=>?_)
 ·obtain ⟨w0,c,rfl,_⟩:=h
  rfl
 obtain ⟨w0,c,rfl,w1,w7,c0,q⟩:=h;have nd:=iK.nd;refine ⟨_,(aK (PS.nox (lQ (i:=2) (ls:=["_law_k"]) (M:=["_law_way","_law_cell","_law_groups","_law_most"]) rfl (cL.of (by rfl)) (NL.of (by rfl)) nd rfl (Or.inl rfl) (cI rfl g_ (aA (aZ cH aQ (aZ bJ (pv 1) aQ)) aF)) (fun _ _ _ _=>⟨(bR (i:=0) (gG (by rfl)) rfl (Or.inl rfl)),eE,(aZ bJ (aZ cM (pv 2) (aZ cH (pv 0) aQ)) aQ)⟩))) (aK (PS.nox (lQ (i:=3) (ls:=["_law_k"]) (M:=["_law_way","_law_cell","_law_groups","_law_most"]) rfl (cL.of (by rfl)) (NL.of (by rfl)) nd rfl (Or.inl rfl) (cI rfl g_ (aA aQ aF)) (fun _ _ _ _=>⟨(bR (i:=0) (gG (by rfl)) rfl (Or.inl rfl)),eE,(aZ bJ (aZ cM (pv 2) (aZ cH (pv 0) aQ)) aQ)⟩))) (zT.h (bV (pL (gY m5 (qv 0) aG (cG _)) (bV (fJ (cY U4 U5 (hr.mono Tr) rfl R5 U6 .nil cU (aC (jV RG hr (aC (qv 1) (aC aG aO))) aO)))) (bV (pL (gY m5 (qv 0) aG (cG _)) (bV (fJ (cY RN RP (hr.mono Qy) rfl n_ RQ .nil cU (aC (jV Qx hr (aC (qv 2) (aC (qv 1) (aC aG aO)))) (aC (qv 3) aO))))) (bV (pL (gY m5 (qv 0) aG (cG _)) (bV (fJ (cY RN RP (hr.mono Qy) rfl n_ RQ .nil cU (aC (qv 2) (aC (jV Qx hr (aC (qv 3) (aC (qv 1) (aC aG aO)))) aO))))) (bV (pL (gY m5 (qv 0) aG (cG _)) (bV (fJ (cY RN RP (hr.mono Qy) rfl n_ RQ .nil cU (aC (kI bY (bK (aC (bK aO) (aC (bQ Dz (bK (aC aG aO)) aG) (aC (qv 2) aO)))) (bQ bJ (qv 1) aG) (fun _ _=>rfl)) (aC (kI bY (bK (aC (qv 3) (aC (qv 3) (aC (bQ uR (qv 3) (bK (aC aG aO))) aO)))) (bQ bJ (qv 1) aG) (fun _ _=>rfl)) aO))))) (bV (pL (gY m5 (qv 0) aG (cG _)) (bV (fJ (cY Qz Q_ (hr.mono E_) rfl k_ RB .nil cU (aC (jV Qx hr (aC (bK (aC aG (aC aG (aC aG (aC aG (aC (bQ jD aG (bQ bJ (qv 1) aG)) aO)))))) (aC (bQ cM (qv 1) aG) (aC aG aO)))) aO)))) (bV (pL (gY m5 (qv 0) aG (cG _)) (bV (fJ (cY Qz Q_ (hr.mono E_) rfl k_ RB .nil cU (aC (kI bY (bK (aC (bK aO) (aC (bK (aC aG (aC aG (aC aG (aC aG aO))))) (aC (bK (aC (bQ bJ (qv 1) aG) (aC (bQ cH aG (bQ bJ (qv 1) aG)) aO))) aO)))) (bQ bJ (bQ cM (qv 1) aG) aG) (fun _ _=>rfl)) aO)))) (bV (fJ (rP p_ hr cU (aC (kI bY (bK (aC qO (aC aG (aC j7 (aC (bK (aC aG (aC aG aO))) (aC (eH (aC j7 (aC aG aO))) (aC xM aO))))))) (bQ bJ (qv 1) aG) (fun _ _=>rfl)) (aC (bQ cH aG (bQ bJ (bQ cM (qv 1) aG) aG)) aO)))))))))))))))))))),?_⟩;have c6a:=V7 c (show (6:Int)≠0 by decide);have c6b:=V4 c (show (0:Int)<6 by decide);obtain ⟨M,hM⟩:∃ M:Nat,(M:Int)=1+c%6:=⟨(1+c%6).toNat,by omega⟩
 refine ⟨_,rfl,_,_,rfl,rfl,(by show (0:Int)<6; decide),_,_,rfl,rfl,(M:Int),by rw [hM],by omega,by omega,fun G hG=>?_⟩;refine dR (n:=((M:Int):Int).toNat) (fun i τ H'=>∃ v0 ns,τ = [v0,some (.int w0),some (.int c),none,none]∧aY H H'∧H' G=some (.lst (Is ns))∧ns.length=i∧∀ n∈ns,0 ≤ n∧n ≤ 5) ⟨none,[],rfl,aD hG _,aB,rfl,(fun _ h=>nomatch h)⟩ ?turnG ?doneG
 case turnG =>
  rintro i j τ H' hm hi ⟨v0,ns,rfl,hs,hD',nl,hn⟩;refine sX ?_;refine ⟨_,rfl,_,rfl,_,_,rfl,rfl,_,_,rfl,rfl,⟨by omega,by omega⟩,_,_,rfl,rfl,(by show (0:Int)<6; decide),?_⟩;refine cA hm hi hD' (by rw [aW]; exact bI (by omega)) ⟨_,ns++[c/(0+(i:Int)+3)%6],rfl,hs.upd_new hG _,?_,by rw [Vg,nl]; rfl,fun n hn'=>?_⟩
  ·rw [aB];show _=some (HO.lst (X8 V.int (_++[_])));rw [Ve]
   rfl
  ·rcases W2.mp hn' with z | z
   ·exact hn n z
   ·rw [Vb.mp z];have a1:=V7 (c/(0+(i:Int)+3)) (show (6:Int)≠0 by decide);have a2:=V4 (c/(0+(i:Int)+3)) (show (0:Int)<6 by decide);omega
 case doneG =>
 rintro τ H1 ⟨v0,gs,rfl,s1,hG1,gl,hgs⟩;refine ⟨6,rfl,by decide,by decide,fun B hB=>?_⟩;refine dR (n:=((6:Int):Int).toNat) (fun i τ H'=>∃ v0 ns,τ = [v0,some (.int w0),some (.int c),some (.ref G),none]∧aY H1 H'∧H' B=some (.lst (Is ns))∧ns.length=i∧∀ n∈ns,0 ≤ n∧n ≤ 6) ⟨none,[],rfl,aD hB _,aB,rfl,(fun _ h=>nomatch h)⟩ ?turnB ?doneB
 case turnB =>
  rintro i j τ H' hm hi ⟨v0,ns,rfl,hs,hD',nl,hn⟩;refine sX ?_;refine ⟨_,rfl,_,rfl,_,_,rfl,rfl,_,_,rfl,rfl,⟨by omega,by omega⟩,_,_,rfl,rfl,(by show (0:Int)<7; decide),?_⟩;refine cA hm hi hD' (by rw [aW]; exact bI (by omega)) ⟨_,ns++[c/(0+(i:Int)+7)%7],rfl,hs.upd_new hB _,?_,by rw [Vg,nl]; rfl,fun n hn'=>?_⟩
  ·rw [aB];show _=some (HO.lst (X8 V.int (_++[_])));rw [Ve]
   rfl
  ·rcases W2.mp hn' with z | z
   ·exact hn n z
   ·rw [Vb.mp z];have a1:=V7 (c/(0+(i:Int)+7)) (show (7:Int)≠0 by decide);have a2:=V4 (c/(0+(i:Int)+7)) (show (0:Int)<7 by decide);omega
 case doneB =>
 rintro τ H2 ⟨v1,ms,rfl,s2,hB2,ml,hms⟩;have lW:=s1.trans s2;have gl1:gs.length=M:=gl;have ml6:ms.length=6:=ml;have hG2:=s2 _ _ hG1;rcases (by omega:w0=0∨w0=1∨w0=2∨w0=3∨w0=4∨w0=5∨w0=6) with rfl | rfl | rfl | rfl | rfl | rfl | rfl
 ·refine ⟨_,rfl,rfl,_,rfl,tE rfl ?_⟩;refine ⟨_,rfl,c,6,rfl,c0,by decide,fun v H3 s3 iw=>?_⟩;intro x dx hx hdx ndx;have nO:=cX (o1:=.own x) (o2:=.ins p.f dx []) hx hdx ndx;exact ⟨x,dx,v,rfl,aB,.inr ⟨iw.kt (aY.kt nO),q _ ((lW.trans s3).trans nO)⟩⟩
 ·refine ⟨_,rfl,rfl,_,rfl,iH rfl ?_⟩;refine ⟨_,rfl,rfl,_,rfl,tE rfl ?_⟩;refine ⟨_,rfl,_,rfl,G,gs,c,5,rfl,hG2,by omega,by omega,hgs,c0,by decide,fun v H3 s3 nw=>?_⟩;refine ⟨_,rfl,?_⟩;intro x dx hx hdx ndx;have nO:=cX (o1:=.own x) (o2:=.ins p.g dx []) hx hdx ndx;exact ⟨x,dx,v,.ref B,rfl,aB,.inr ⟨.inl ((nw 1 6 (by omega) (by omega)).kt (aY.kt nO)),fun H4 s4=>q _ (((lW.trans s3).trans nO).trans s4)⟩⟩
 ·refine ⟨_,rfl,rfl,_,rfl,iH rfl ?_⟩;refine ⟨_,rfl,rfl,_,rfl,iH rfl ?_⟩;refine ⟨_,rfl,rfl,_,rfl,tE rfl ?_⟩;refine ⟨_,rfl,_,rfl,_,rfl,B,ms,c,6,rfl,hB2,by omega,by omega,hms,c0,by decide,fun v H3 s3 nw=>?_⟩;intro x dx hx hdx ndx;have nO:=cX (o1:=.own x) (o2:=.ins p.g dx []) hx hdx ndx;exact ⟨x,dx,.ref G,v,rfl,aB,.inr ⟨.inr ⟨dF (nO _ _ (s3 _ _ hG2)) (by omega) (by omega) (by omega) hgs,(nw 6 6 (by omega) (by omega)).kt (aY.kt nO)⟩,fun H4 s4=>q _ (((lW.trans s3).trans nO).trans s4)⟩⟩
 ·refine ⟨_,rfl,rfl,_,rfl,iH rfl ?_⟩;refine ⟨_,rfl,rfl,_,rfl,iH rfl ?_⟩;refine ⟨_,rfl,rfl,_,rfl,iH rfl ?_⟩;refine ⟨_,rfl,rfl,_,rfl,tE rfl ?_⟩;refine ⟨wR (by decide:0 ≤ 1000),fun l0 h0=>?_⟩;have n0:=aD h0 (.lst []);refine ⟨Cv,fun l1 h1=>?_⟩;have n1:=aD h1 (.lst [V.int 0]);refine ⟨l1,7,_,rfl,rfl,aB,by decide,by decide,wR (by decide:1*7 ≤ 1000),fun r7 h7=>?_⟩;have n7:=aD h7 (.lst (V0 (7:Int).toNat [V.int 0]).flatten);refine ⟨_,rfl,wZ,fun l3 h3=>?_⟩;have n3:=aD h3 (.lst [V.ref l0,V.ref r7,V.ref G]);have g3:aR (aR (aR (aR H2 l0 (.lst [])) l1 (.lst [V.int 0])) r7 (.lst (V0 (7:Int).toNat [V.int 0]).flatten)) l3 (.lst [V.ref l0,V.ref r7,V.ref G]) l3=some (.lst [V.ref l0,V.ref r7,V.ref G]):=aB;have g0:=(n1.trans (n7.trans n3)) _ _ (show aR H2 l0 (.lst []) l0=some (.lst []) from aB);have g7:=n3 _ _ (show aR (aR (aR H2 l0 (.lst [])) l1 (.lst [V.int 0])) r7 (.lst (V0 (7:Int).toNat [V.int 0]).flatten) r7=some (.lst (V0 (7:Int).toNat [V.int 0]).flatten) from aB);have s3:=n0.trans (n1.trans (n7.trans n3));generalize aR (aR (aR (aR H2 l0 (.lst [])) l1 (.lst [V.int 0])) r7 (.lst (V0 (7:Int).toNat [V.int 0]).flatten)) l3 (.lst [V.ref l0,V.ref r7,V.ref G])=H3 at g3 g0 g7 s3 ⊢;clear n0 n1 n7 n3 h0 h1 h7 h3;obtain ⟨v1,hv1,r1⟩:=mG (m:=c) (V.ref l0) (V.ref r7) (V.ref G);refine ⟨_,rfl,_,_,rfl,rfl,(by show (0:Int)<3; decide),l3,_,_,_,rfl,rfl,bM.of g3,hv1,?_⟩;refine ⟨_,rfl,_,rfl,_,rfl,Cv,fun k1 hk1=>?_⟩;have m1:=aD hk1 (.lst [V.int 1]);have hB3:=s3 _ _ hB2;refine ⟨B,k1,_,_,rfl,rfl,m1 _ _ hB3,aB,wR (by show (Is ms).length+1 ≤ 1000; rw [aW]; omega),fun k2 hk2=>?_⟩;have m2:=aD hk2 (.lst (Is ms++[V.int 1]));refine ⟨wZ,fun k3 hk3=>?_⟩;have m3:=aD hk3 (.lst [V.ref B,V.ref B,V.ref k2]);have g5:aR (aR (aR H3 k1 (.lst [V.int 1])) k2 (.lst (Is ms++[V.int 1]))) k3 (.lst [V.ref B,V.ref B,V.ref k2]) k3=some (.lst [V.ref B,V.ref B,V.ref k2]):=aB;have g6:=m3 _ _ (show aR (aR H3 k1 (.lst [V.int 1])) k2 (.lst (Is ms++[V.int 1])) k2=some (.lst (Is ms++[V.int 1])) from aB);have s4:=m1.trans (m2.trans m3);generalize aR (aR (aR H3 k1 (.lst [V.int 1])) k2 (.lst (Is ms++[V.int 1]))) k3 (.lst [V.ref B,V.ref B,V.ref k2])=H4 at g5 g6 s4 ⊢;obtain ⟨v2,hv2,r2⟩:=mG (m:=c) (V.ref B) (V.ref B) (V.ref k2);refine ⟨_,rfl,_,_,rfl,rfl,(by show (0:Int)<3; decide),k3,_,_,_,rfl,rfl,bM.of g5,hv2,?_⟩;intro x dx hx hdx ndx;have nO:=cX (o1:=.own x) (o2:=.ins p.g dx []) hx hdx ndx;have sO:=(lW.trans s3).trans (s4.trans nO);refine ⟨x,dx,v1,v2,rfl,aB,.inr ⟨?_,fun H5 s5=>q _ (sO.trans s5)⟩⟩;rcases r1 with ⟨e,rfl⟩ | ⟨e,rfl⟩ | ⟨e,rfl⟩
  ·exact .inl (.len ((s4.trans nO) _ _ g0) (by decide))
  ·exact .inl (.len ((s4.trans nO) _ _ g7) (by decide))
  ·rcases r2 with ⟨e2,_⟩ | ⟨e2,_⟩ | ⟨_,rfl⟩
   ·omega
   ·omega
   ·refine .inr ⟨dF ((s3.trans (s4.trans nO)) _ _ hG2) (by omega) (by omega) (by omega) hgs,.len (nO _ _ g6) (by rw [Vg,aW,ml6]; decide)⟩
 ·refine ⟨_,rfl,rfl,_,rfl,iH rfl ?_⟩;refine ⟨_,rfl,rfl,_,rfl,iH rfl ?_⟩;refine ⟨_,rfl,rfl,_,rfl,iH rfl ?_⟩;refine ⟨_,rfl,rfl,_,rfl,iH rfl ?_⟩;refine ⟨_,rfl,rfl,_,rfl,tE rfl ?_⟩;refine ⟨_,rfl,_,_,rfl,rfl,(by show (0:Int)<32; decide),_,_,rfl,rfl,wR (by decide:5 ≤ 1000),fun l5 h5=>?_⟩;have n5:=aD h5 (.lst [V.int 0,V.int 1,V.int 2,V.int 4,V.int (63-c%32)]);have c32:0 ≤ c/32:=W3 c0 (by decide);refine ⟨_,rfl,_,_,rfl,rfl,⟨by decide,by decide⟩,l5,[0,1,2,4,63-c%32],c/32,63,rfl,aB,(by show 1 ≤ 5; decide),(by show 5 ≤ 6; decide),fun n hn=>?_,c32,by decide,fun v H3 s3 nw=>?_⟩
  ·simp only [Vh,Wn,or_false] at hn;omega
  intro x dx hx hdx ndx;have nO:=cX (o1:=.own x) (o2:=.ins p.l dx []) hx hdx ndx;exact ⟨x,dx,v,rfl,aB,.inr ⟨.inl ((nw 1 64 (by show (1:Int) ≤ ((5:Nat):Int); decide) (by show ((5:Nat):Int) ≤ 64; decide)).kt (aY.kt nO)),fun H4 s4=>q _ (((lW.trans (n5.trans s3)).trans nO).trans s4)⟩⟩
 ·refine ⟨_,rfl,rfl,_,rfl,iH rfl ?_⟩;refine ⟨_,rfl,rfl,_,rfl,iH rfl ?_⟩;refine ⟨_,rfl,rfl,_,rfl,iH rfl ?_⟩;refine ⟨_,rfl,rfl,_,rfl,iH rfl ?_⟩;refine ⟨_,rfl,rfl,_,rfl,iH rfl ?_⟩;refine ⟨_,rfl,rfl,_,rfl,tE rfl ?_⟩;refine ⟨wR (by decide:0 ≤ 1000),fun l0 h0=>?_⟩;have n0:=aD h0 (.lst []);refine ⟨wR (by decide:4 ≤ 1000),fun l1 h1=>?_⟩;have n1:=aD h1 (.lst (Is [0,1,5,1]));refine ⟨_,rfl,_,_,rfl,rfl,(by show (0:Int)<64; decide),_,rfl,_,_,rfl,rfl,(by show (0:Int)<9; decide),_,_,rfl,rfl,tG,fun l2 h2=>?_⟩;have n2:=aD h2 (.lst [V.int (c%64),V.int (64+c%9)]);refine ⟨wZ,fun l3 h3=>?_⟩;have n3:=aD h3 (.lst [V.ref l0,V.ref l1,V.ref l2]);obtain ⟨v,hv,r1⟩:=mG (m:=c/64) (V.ref l0) (V.ref l1) (V.ref l2);refine ⟨_,rfl,_,_,rfl,rfl,⟨by decide,by decide⟩,_,_,rfl,rfl,(by show (0:Int)<3; decide),l3,_,_,_,rfl,rfl,bM.of aB,hv,?_⟩;intro x dx hx hdx ndx;have nO:=cX (o1:=.own x) (o2:=.ins p.l dx []) hx hdx ndx;have sO:=lW.trans ((n0.trans (n1.trans (n2.trans n3))).trans nO);refine ⟨x,dx,v,rfl,aB,.inr ⟨?_,fun H5 s5=>q _ (sO.trans s5)⟩⟩;rcases r1 with ⟨_,rfl⟩ | ⟨_,rfl⟩ | ⟨_,rfl⟩
  ·exact .inl (.len ((n1.trans (n2.trans (n3.trans nO))) _ _ aB) (by decide))
  ·exact .inr ⟨l1,[0,1,5,1],rfl,(n2.trans (n3.trans nO)) _ _ aB,by decide,by decide,by decide,by decide⟩
  ·refine .inl ?_;refine Nums.all (bs:=[true,false]) ((n3.trans nO) _ _ aB) (by show (1:Int) ≤ ((2:Nat):Int); decide) (by show ((2:Nat):Int) ≤ 64; decide) (by show 2 ≤ 100; decide) rfl fun i x' hx'=>?_;rcases i with _ | _ | i
   ·cases hx';exact jC.yes (by omega) (by omega)
   ·cases hx';exact jC.not (.inr (by omega))
   ·exact absurd hx' (by simp)
 ·refine ⟨_,rfl,rfl,_,rfl,iH rfl ?_⟩;refine ⟨_,rfl,rfl,_,rfl,iH rfl ?_⟩;refine ⟨_,rfl,rfl,_,rfl,iH rfl ?_⟩;refine ⟨_,rfl,rfl,_,rfl,iH rfl ?_⟩;refine ⟨_,rfl,rfl,_,rfl,iH rfl ?_⟩;refine ⟨_,rfl,rfl,_,rfl,iH rfl ?_⟩;refine ⟨tG,fun l1 h1=>?_⟩;have n1:=aD h1 (.lst [V.int 0,V.int 1]);refine ⟨tG,fun l2 h2=>?_⟩;have n2:=aD h2 (.tup [V.str "few",V.int 1]);refine ⟨wR (by decide:6 ≤ 1000),fun l3 h3=>?_⟩;have n3:=aD h3 (.lst [V.non,V.int 0,V.str "few 1",V.ref l1,V.ref l2,V.bl true]);obtain ⟨v,hv,r1⟩:=Gf (m:=c) (R:=fun v=>xO p K _ v false) (.no .non (by decide)) (.no (.int 0) (by decide)) (.no (.str "few 1") (by decide)) (.no (.lst ((n2.trans n3) _ _ aB)) (by decide)) (.no (.tup (n3 _ _ aB)) (by decide)) (.no (.bl true) (by decide));have d6:0 ≤ c/6:=W3 c0 (by decide);have d7:=V7 (c/6) (show (6:Int)≠0 by decide);obtain ⟨m,hm⟩:∃ m:Nat,(m:Int)=1+c/6%6:=⟨(1+c/6%6).toNat,by omega⟩
  refine ⟨_,rfl,_,_,rfl,rfl,(by show (0:Int)<6; decide),l3,_,_,_,rfl,rfl,bM.of aB,hv,?_⟩;refine ⟨_,rfl,_,_,rfl,rfl,⟨by decide,by decide⟩,_,_,rfl,rfl,(by show (0:Int)<6; decide),_,_,rfl,rfl,?_⟩;exact ⟨v,m,by rw [hm]; rfl,.inl ⟨r1,q _ (lW.trans (n1.trans (n2.trans n3)))⟩⟩
theorem nG:bootBuiltins "ValueError" = some (.type "ValueError"):=by decide +kernel
theorem lG {n:Nat}{f:Addr}{fd:FuncData}(F:dD K "_law_refused" "_law_refused" (top 40) f fd){b_ RJ H_ a_ I_ J_ v_ u_ K_ x_ z_:Addr}(h_:mg "NoSets" = some (.ref b_))(Ss:mg "NoBox" = some (.ref RJ))(Rr:mg "NoDeed" = some (.ref H_))(i_:mg "NoPattern" = some (.ref a_))(Rt:mg "NoPlan" = some (.ref I_))(Ru:mg "NoText" = some (.ref J_))(Rc:mg "NoTable" = some (.ref v_))(R1:mg "NoOffers" = some (.ref u_))(Rv:mg "NoRule" = some (.ref K_))(Rf:mg "NoRanks" = some (.ref x_))(Rg:mg "TooMany" = some (.ref z_))(lk:sG K b_ [RJ,H_,a_,I_,J_,v_,u_,K_,x_,z_]){L_:Addr}(R3:mg "LidError" = some (.ref L_))(ex:PySem.W.exmOne K (.ref b_) (.ref L_)=some true){Su:Addr}{SM:FuncData}(Sv:jT P w K mg base n "_law_tried" ["_law_way","_law_cell"] (Bu b_) Su SM)(cC:mg "isinstance" = none)(RK:mg "ValueError" = none):bB P w K mg base dX (n+1) f fd ["_law_way","_law_cell"] Bj:=by
 refine F.ok0 fV (fun vs H Q E h=>?_) (fun cdv A outer s H vs Q E hr h=>?_)
 ·obtain ⟨w0,c,rfl,_⟩:=h
  rfl
 obtain ⟨w0,c,rfl,w1,w7,c0,q⟩:=h;have nd:=fV.nd;refine ⟨_,(eV (PS.zero (bN (i:=2) nd rfl (Or.inl rfl) gD)) (eV (qX (i:=3) rfl rfl rfl rfl nd rfl rfl rfl rfl R3 Sv hr rfl (fun _=>(aA (pv 0) (aA (pv 1) aF))) (fun a=>(aJ (bN (i:=2) nd rfl (Or.inl rfl) (pv 3))))) (mW.zero (aK (dB (PW.pt (rJ (cJ (cD (aN (b8 (K:=K) rfl) rfl cC aP (aA (pv 2) (aA (bF (v:=.ref b_) rfl h_ rfl) aF))))) (nF (cJ (cD (aN (b8 (K:=K) rfl) rfl cC aP (aA (pv 2) (aA (lX (v:=.ty "ValueError") rfl RK nG rfl) aF)))))))) (aJ (bG mQ)) bT) (aK (bN (i:=4) nd rfl (Or.inl rfl) (mL (aA (aN (b8 (K:=K) rfl) rfl cC aP (aA (pv 2) (aA (bF (v:=.ref RJ) rfl Ss rfl) aF))) (aA (aN (b8 (K:=K) rfl) rfl cC aP (aA (pv 2) (aA (bF (v:=.ref H_) rfl Rr rfl) aF))) (aA (aN (b8 (K:=K) rfl) rfl cC aP (aA (pv 2) (aA (bF (v:=.ref a_) rfl i_ rfl) aF))) aF))))) (aK (bN (i:=4) nd rfl (Or.inl rfl) (aZ uR (pv 4) (mL (aA (aN (b8 (K:=K) rfl) rfl cC aP (aA (pv 2) (aA (bF (v:=.ref I_) rfl Rt rfl) aF))) (aA (aN (b8 (K:=K) rfl) rfl cC aP (aA (pv 2) (aA (bF (v:=.ref J_) rfl Ru rfl) aF))) (aA (aN (b8 (K:=K) rfl) rfl cC aP (aA (pv 2) (aA (bF (v:=.ref v_) rfl Rc rfl) aF))) aF)))))) (aK (bN (i:=4) nd rfl (Or.inl rfl) (aZ uR (pv 4) (mL (aA (aN (b8 (K:=K) rfl) rfl cC aP (aA (pv 2) (aA (bF (v:=.ref u_) rfl R1 rfl) aF))) (aA (aN (b8 (K:=K) rfl) rfl cC aP (aA (pv 2) (aA (bF (v:=.ref K_) rfl Rv rfl) aF))) (aA (aN (b8 (K:=K) rfl) rfl cC aP (aA (pv 2) (aA (bF (v:=.ref x_) rfl Rf rfl) aF))) aF)))))) (aJ (bG (tH (zN (aN (b8 (K:=K) rfl) rfl cC aP (aA (pv 2) (aA (bF (v:=.ref z_) rfl Rg rfl) aF)))) (uN (fD qQ mQ (pv 4) rfl)))))))))))),?_⟩;refine ⟨_,rfl,_,rfl,w0,c,rfl,w1,w7,c0,fun H1 s1=>⟨ex,fun a na=>?_⟩⟩;have n2:=aD na (.ext (nW a (.ref b_) none));have ha1:aR H1 a (.ext (nW a (.ref b_) none)) a=some (.ext (wM a (.ref b_))):=aB;have s2:=s1.trans n2;refine ⟨_,rfl,?_⟩;generalize aR H1 a (.ext (nW a (.ref b_) none))=H2 at ha1 s2 ⊢;refine ⟨_,rfl,a,b_,.ref b_,_,true,rfl,mD,ha1,lk.xt,lk.me,_,rfl,?_⟩;refine dC ?_;refine ⟨_,rfl,a,b_,.ty "ValueError",_,true,rfl,QV,ha1,lk.xt,lk.ve,_,rfl,?_⟩;refine iH rfl ?_;refine ⟨_,rfl,a,b_,.ref RJ,_,_,rfl,mD,ha1,lk.xt,lk.ks 0 _ rfl,_,rfl,a,b_,.ref H_,_,_,rfl,mD,ha1,lk.xt,lk.ks 1 _ rfl,_,rfl,a,b_,.ref a_,_,_,rfl,mD,ha1,lk.xt,lk.ks 2 _ rfl,wZ,fun l2 hl2=>?_⟩;have u2:=aD hl2 (.lst [V.bl false,V.bl false,V.bl false]);have e2:aR H2 l2 (.lst [V.bl false,V.bl false,V.bl false]) l2=some (.lst [V.bl false,V.bl false,V.bl false]):=aB;have ha2:=u2 _ _ ha1;have s2:=s2.trans u2;generalize aR H2 l2 (.lst [V.bl false,V.bl false,V.bl false])=H3 at e2 ha2 s2 ⊢;refine ⟨_,rfl,_,rfl,a,b_,.ref I_,_,_,rfl,mD,ha2,lk.xt,lk.ks 3 _ rfl,_,rfl,a,b_,.ref J_,_,_,rfl,mD,ha2,lk.xt,lk.ks 4 _ rfl,_,rfl,a,b_,.ref v_,_,_,rfl,mD,ha2,lk.xt,lk.ks 5 _ rfl,wZ,fun x3 hx3=>?_⟩;have t3:=aD hx3 (.lst [V.bl false,V.bl false,V.bl false]);refine ⟨l2,x3,_,_,rfl,rfl,t3 _ _ e2,aB,wR (by decide:3+3 ≤ 1000),fun l3 hl3=>?_⟩;have u3:=aD hl3 (.lst ([V.bl false,V.bl false,V.bl false]++[V.bl false,V.bl false,V.bl false]));have e3:aR (aR H3 x3 (.lst [V.bl false,V.bl false,V.bl false])) l3 (.lst ([V.bl false,V.bl false,V.bl false]++[V.bl false,V.bl false,V.bl false])) l3=some (.lst ([V.bl false,V.bl false,V.bl false]++[V.bl false,V.bl false,V.bl false])):=aB;have s3:=s2.trans (t3.trans u3);have ha3:=(t3.trans u3) _ _ ha2;generalize aR (aR H3 x3 (.lst [V.bl false,V.bl false,V.bl false])) l3 (.lst ([V.bl false,V.bl false,V.bl false]++[V.bl false,V.bl false,V.bl false]))=HH3 at e3 s3 ha3 ⊢;refine ⟨_,rfl,_,rfl,a,b_,.ref u_,_,_,rfl,mD,ha3,lk.xt,lk.ks 6 _ rfl,_,rfl,a,b_,.ref K_,_,_,rfl,mD,ha3,lk.xt,lk.ks 7 _ rfl,_,rfl,a,b_,.ref x_,_,_,rfl,mD,ha3,lk.xt,lk.ks 8 _ rfl,wZ,fun x4 hx4=>?_⟩;have t4:=aD hx4 (.lst [V.bl false,V.bl false,V.bl false]);refine ⟨l3,x4,_,_,rfl,rfl,t4 _ _ e3,aB,wR (by decide:6+3 ≤ 1000),fun l4 hl4=>?_⟩;have u4:=aD hl4 (.lst (([V.bl false,V.bl false,V.bl false]++[V.bl false,V.bl false,V.bl false])++[V.bl false,V.bl false,V.bl false]));have e4:aR (aR HH3 x4 (.lst [V.bl false,V.bl false,V.bl false])) l4 (.lst (([V.bl false,V.bl false,V.bl false]++[V.bl false,V.bl false,V.bl false])++[V.bl false,V.bl false,V.bl false])) l4=some (.lst (([V.bl false,V.bl false,V.bl false]++[V.bl false,V.bl false,V.bl false])++[V.bl false,V.bl false,V.bl false])):=aB;have s4:=s3.trans (t4.trans u4);have ha4:=(t4.trans u4) _ _ ha3;generalize aR (aR HH3 x4 (.lst [V.bl false,V.bl false,V.bl false])) l4 (.lst (([V.bl false,V.bl false,V.bl false]++[V.bl false,V.bl false,V.bl false])++[V.bl false,V.bl false,V.bl false]))=H4 at e4 s4 ha4 ⊢;refine ⟨_,rfl,a,b_,.ref z_,_,_,rfl,mD,ha4,lk.xt,lk.ks 9 _ rfl,_,rfl,?_⟩;refine ⟨_,rfl,?_⟩;refine eY ?_;refine ⟨_,rfl,l4,_,rfl,.inl (bM.of e4),rfl,rfl,?_⟩;exact q _ s4
theorem Aq {K:PySem.W.Frag}{H:Hp}{a b:Addr}{t u t' u':Int}{n:Nat}(h1:H a=some (.tup [.int t,.int u]))(h2:H b=some (.tup [.int t',.int u'])):∃ k,DE K H (n+1) (.ref a) (.ref b) k∧(t=t' →u=u' →k=true):=by
 refine ⟨_,DE.tup (fun j=>if j=0 then t==t' else u==u') (jF.of h1) (jF.of h2) fun j x y hx hy=>?_,fun e1 e2=>by subst e1; subst e2; simp [WQ,WQ.loop]⟩;rcases j with _ | _ | j
 ·cases hx; cases hy; exact .int _ _ _
 ·cases hx; cases hy; exact .int _ _ _
 ·exact absurd hx (by simp)
theorem m8 {K:PySem.W.Frag}{H:Hp}{x a0:Addr}{o e:Int}(hx:H x=some (.tup [.int o,.int e])){as:List Addr}(h:∀ a∈as,∃ t u,H a=some (.tup [.int t,.int u]))(m:a0∈as)(h0:H a0=some (.tup [.int o,.int e])):∃ g:Addr →Bool,(∀ a∈as,DE K H 1 (.ref a) (.ref x) (g a))∧as.any g=true:=by
 have ex:∀ a,∃ k,a∈as →DE K H 1 (.ref a) (.ref x) k∧(a=a0 →k=true):=fun a=>by
  by_cases z:a∈as
  ·obtain ⟨t,u,ht⟩:=h a z;obtain ⟨k,d,q⟩:=Aq (K:=K) (n:=0) ht hx;refine ⟨k,fun _=>⟨d,fun e'=>?_⟩⟩;subst e';rw [h0] at ht;cases ht;exact q rfl rfl
  ·exact ⟨false,fun y=>absurd y z⟩
 refine ⟨fun a=>Classical.choose (ex a),fun a ha=>(Classical.choose_spec (ex a) ha).1,X3.mpr ⟨a0,m,(Classical.choose_spec (ex a0) m).2 rfl⟩⟩
theorem Le:gM (.listed [1,2]) 3=some (("empty" : Str),0,0):=by decide +kernel
theorem KJ:gM (.listed [0,3]) 3=some (("less" : Str),3,2):=by decide +kernel
theorem MN:gM (.listed [0,1,2,4,6]) 3=some (("more" : Str),6,1):=by decide +kernel
theorem M6:gM (.groups [0,0,1] [1,2,0,0,0,0]) 3=none:=by decide +kernel
theorem Cu {ks:List Int}(h:1 ≤ ks.length∧ks.length<64∧ks.Nodup∧∀ k∈ks,0 ≤ k∧k ≤ 63):Ec ks:=⟨h.1,.inl (by omega),h.2.2.1,h.2.2.2⟩
theorem mV {n:Nat}{f:Addr}{fd:FuncData}(F:dD K "_law_flawed" "_law_flawed" (top 41) f fd){p:oU}{b_ a_:Addr}{iL:Addr}{iDL:FuncData}{kOL:Nat}(Qz:Mk K p.l iL)(Q_:bB P w K mg base (m9 P w) kOL iL iDL ["self","sets"] (BL p b_))(RB:Binds K iDL ["self","sets"] [])(k_:mg "Listed" = some (.ref p.l))(E_:kOL+1 ≤ n){o_:Addr}{l_:FuncData}(p_:jT P w K mg base n "need_pattern" ["pattern","many"] (BR p K b_ a_) o_ l_)(i_:mg "NoPattern" = some (.ref a_))(xt:w5 K a_)(xf:zR K a_)(Tq:PySem.W.findIn K (.ref a_) "one" = some none)(Rp:PySem.W.findIn K (.ref a_) "other" = some none)(exP:PySem.W.exmOne K (.ref a_) (.ref a_)=some true):bB P w K mg base dX (n+1) f fd ["_law_cell"] Be:=by
 refine F.ok0 gF (fun vs H Q E h=>?_) (fun cdv A outer s H vs Q E hr h=>?_)
 ·obtain ⟨c,rfl,_⟩:=h
  rfl
 obtain ⟨c,rfl,q⟩:=h;have nd:=gF.nd;have hu2:_+1+1<cLine:=Wg (Wy (by decide:2 ≤ 64) _) (cF.units hr);refine ⟨_,(eV (PS.zero (bN (i:=1) nd rfl (Or.inl rfl) gD)) (eV (PS.zero (bN (i:=2) nd rfl (Or.inl rfl) gD)) (eV (qX (i:=3) rfl rfl rfl rfl nd rfl rfl rfl rfl i_ p_ hr rfl (fun _=>(QA.h (aC (cY Qz Q_ (hr.mono E_) rfl k_ RB .nil rA (aC (kI (q9 (K:=K) rfl) (bK (aC (bK (aC aG (aC aG aO))) (aC (bK (aC aG (aC aG aO))) (aC (bK (aC aG (aC aG (aC aG (aC aG (aC aG aO)))))) aO)))) (bQ bJ (qv 0) aG) (fun _ _=>rfl)) aO)) (aC aG aO)))) (fun a=>(aK (bN (i:=1) nd rfl (Or.inl rfl) (By (pv 3) rfl)) (aJ (bN (i:=2) nd rfl (Or.inl rfl) (By (pv 3) rfl)))))) (mW.zero (zT.h (bV (qJ (vA (DN (n:=1) hu2) (eH (aC (qv 1) (aC (qv 2) aO))) (kI bY (bK (aC (bK (aC (eH (aC aG (aC aG aO))) aO)) (aC (bK (aC (eH (aC aG (aC aG aO))) (aC (eH (aC aG (aC aG aO))) aO))) (aC (bK (aC (eH (aC aG (aC aG aO))) aO)) aO)))) (bQ bJ (qv 0) aG) (fun _ _=>rfl)) rfl)))))))),?_⟩;refine ⟨tG,fun l1 h1=>?_⟩;have n1:=aD h1 (.lst [V.int 1,V.int 2]);refine ⟨tG,fun l2 h2=>?_⟩;have n2:=aD h2 (.lst [V.int 0,V.int 3]);refine ⟨wR (by decide:5 ≤ 1000),fun l3 h3=>?_⟩;have n3:=aD h3 (.lst [V.int 0,V.int 1,V.int 2,V.int 4,V.int 6]);refine ⟨wZ,fun l4 h4=>?_⟩;have n4:=aD h4 (.lst [V.ref l1,V.ref l2,V.ref l3]);obtain ⟨v,hv,r1⟩:=mG (m:=c) (V.ref l1) (V.ref l2) (V.ref l3);refine ⟨_,rfl,_,_,rfl,rfl,(by show (0:Int)<3; decide),l4,_,_,_,rfl,rfl,bM.of aB,hv,?_⟩;obtain ⟨l,ks,st,o,e,rfl,hl,gk,fk,r2⟩:∃ (l:Addr) (ks:List Int) (st:Str) (o e:Int),v=.ref l∧aR (aR (aR (aR H l1 (.lst [V.int 1,V.int 2])) l2 (.lst [V.int 0,V.int 3])) l3 (.lst [V.int 0,V.int 1,V.int 2,V.int 4,V.int 6])) l4 (.lst [V.ref l1,V.ref l2,V.ref l3]) l=some (.lst (Is ks))∧Ec ks∧gM (.listed ks) 3=some (st,o,e)∧((c%3=0∧o=0∧e=0)∨(c%3=1∧o=3∧e=2)∨(c%3=2∧o=6∧e=1)):=by
  rcases r1 with ⟨z,rfl⟩ | ⟨z,rfl⟩ | ⟨z,rfl⟩
  ·exact ⟨l1,[1,2],_,_,_,rfl,(n2.trans (n3.trans n4)) _ _ aB,Cu (by decide),Le,.inl ⟨z,rfl,rfl⟩⟩
  ·exact ⟨l2,[0,3],_,_,_,rfl,(n3.trans n4) _ _ aB,Cu (by decide),KJ,.inr (.inl ⟨z,rfl,rfl⟩)⟩
  ·exact ⟨l3,[0,1,2,4,6],_,_,_,rfl,n4 _ _ aB,Cu (by decide),MN,.inr (.inr ⟨z,rfl,rfl⟩)⟩
 have s4:=n1.trans (n2.trans (n3.trans n4));generalize aR (aR (aR (aR H l1 (.lst [V.int 1,V.int 2])) l2 (.lst [V.int 0,V.int 3])) l3 (.lst [V.int 0,V.int 1,V.int 2,V.int 4,V.int 6])) l4 (.lst [V.ref l1,V.ref l2,V.ref l3])=H4 at hl s4 ⊢;clear n1 n2 n3 n4 h1 h2 h3 h4 r1 hv;intro x dx hx hdx ndx;have nO:=cX (o1:=.own x) (o2:=.ins p.l dx []) hx hdx ndx;refine ⟨x,dx,.ref l,rfl,aB,.inl ⟨l,ks,rfl,nO _ _ hl,gk,fun t ms H5 s5 pm so ht=>⟨rfl,?_⟩⟩⟩;have ne:t≠x:=lB ht (s5 _ _ aB) fun z=>nomatch z
 have S6:aY H (aR H5 x (.ins p.l dx [("sets",.ref t)])):=(s4.trans (nO.trans s5)).upd_new (s4.free hx) _;have X6:lE p (aR H5 x (.ins p.l dx [("sets",.ref t)])) x (.listed ks):=⟨ms,pm,so,dx,t,aB,by rw [aM ne]; exact ht⟩
 generalize aR H5 x (.ins p.l dx [("sets",.ref t)])=H6 at S6 X6 ⊢;refine ⟨.ref x,3,rfl,.inr ⟨x,.listed ks,rfl,X6,gk,by decide,by decide,(fun en=>by rw [fk] at en; cases en),fun st' o' e' en d H7 s7 np=>?_⟩⟩;rw [fk] at en;cases en;refine ⟨exP,fun a na=>?_⟩;have hd:H7 d=some (.ext (XD d [("one",.int o),("other",.int e)])):=np;have nda:d≠a:=bO hd na;have n8:=aD na (.ext (nW a (.ref a_) (some d)));have ha8:aR H7 a (.ext (nW a (.ref a_) (some d))) a=some (.ext (tW a (.ref a_) d)):=aB;have hd8:=n8 _ _ hd;have s8:=(S6.trans s7).trans n8;generalize aR H7 a (.ext (nW a (.ref a_) (some d)))=H8 at ha8 hd8 s8 ⊢;refine ⟨_,rfl,a,a_,d,_,.int o,rfl,ha8,hd8,xt,xf,Tq,rfl,?_⟩;refine ⟨_,rfl,a,a_,d,_,.int e,rfl,ha8,hd8,xt,xf,Rp,rfl,?_⟩;refine ⟨_,rfl,_,rfl,tG,fun t0 ht0=>?_⟩;have m0:=aD ht0 (.tup [V.int o,V.int e]);refine ⟨tG,fun a1 ha1=>?_⟩;have na1:=aD ha1 (.tup [V.int 0,V.int 0]);refine ⟨Cv,fun b1 hb1=>?_⟩;have nb1:=aD hb1 (.lst [V.ref a1]);refine ⟨tG,fun a2 ha2=>?_⟩;have na2:=aD ha2 (.tup [V.int 3,V.int 1]);refine ⟨tG,fun a3 ha3=>?_⟩;have na3:=aD ha3 (.tup [V.int 3,V.int 2]);refine ⟨tG,fun b2 hb2=>?_⟩;have nb2:=aD hb2 (.lst [V.ref a2,V.ref a3]);refine ⟨tG,fun a4 ha4=>?_⟩;have na4:=aD ha4 (.tup [V.int 6,V.int 1]);refine ⟨Cv,fun b3 hb3=>?_⟩;have nb3:=aD hb3 (.lst [V.ref a4]);refine ⟨wZ,fun b4 hb4=>?_⟩;have nb4:=aD hb4 (.lst [V.ref b1,V.ref b2,V.ref b3]);obtain ⟨v2,hv2,r3⟩:=mG (m:=c) (V.ref b1) (V.ref b2) (V.ref b3);refine ⟨_,rfl,_,_,rfl,rfl,(by show (0:Int)<3; decide),b4,_,_,_,rfl,rfl,bM.of aB,hv2,?_⟩;have f1:=nb1.trans (na2.trans (na3.trans (nb2.trans (na4.trans (nb3.trans nb4)))));have f2:=na2.trans (na3.trans (nb2.trans (na4.trans (nb3.trans nb4))));have f3:=na3.trans (nb2.trans (na4.trans (nb3.trans nb4)));have f4:=nb2.trans (na4.trans (nb3.trans nb4));have f5:=na4.trans (nb3.trans nb4);have f6:=nb3.trans nb4;have fin:=m0.trans (na1.trans f1);have g0:=(na1.trans f1) _ _ (show aR H8 t0 (.tup [V.int o,V.int e]) t0=some (.tup [V.int o,V.int e]) from aB);have g1:=f1 _ _ (show aR (aR H8 t0 (.tup [V.int o,V.int e])) a1 (.tup [V.int 0,V.int 0]) a1=some (.tup [V.int 0,V.int 0]) from aB);have k1:=f2 _ _ (show aR _ b1 (.lst [V.ref a1]) b1=some (.lst [V.ref a1]) from aB);have g2:=f3 _ _ (show aR _ a2 (.tup [V.int 3,V.int 1]) a2=some (.tup [V.int 3,V.int 1]) from aB);have g3:=f4 _ _ (show aR _ a3 (.tup [V.int 3,V.int 2]) a3=some (.tup [V.int 3,V.int 2]) from aB);have k2:=f5 _ _ (show aR _ b2 (.lst [V.ref a2,V.ref a3]) b2=some (.lst [V.ref a2,V.ref a3]) from aB);have g4:=f6 _ _ (show aR _ a4 (.tup [V.int 6,V.int 1]) a4=some (.tup [V.int 6,V.int 1]) from aB);have k3:=nb4 _ _ (show aR _ b3 (.lst [V.ref a4]) b3=some (.lst [V.ref a4]) from aB);have sF:=s8.trans fin;generalize aR (aR (aR (aR (aR (aR (aR (aR (aR H8 t0 (.tup [V.int o,V.int e])) a1 (.tup [V.int 0,V.int 0])) b1 (.lst [V.ref a1])) a2 (.tup [V.int 3,V.int 1])) a3 (.tup [V.int 3,V.int 2])) b2 (.lst [V.ref a2,V.ref a3])) a4 (.tup [V.int 6,V.int 1])) b3 (.lst [V.ref a4])) b4 (.lst [V.ref b1,V.ref b2,V.ref b3])=H9 at g0 g1 k1 g2 g3 k2 g4 k3 sF ⊢;rcases r2 with ⟨z,rfl,rfl⟩ | ⟨z,rfl,rfl⟩ | ⟨z,rfl,rfl⟩ <;> rcases r3 with ⟨z2,rfl⟩ | ⟨z2,rfl⟩ | ⟨z2,rfl⟩ <;> first | (exfalso; omega) | skip
 ·obtain ⟨g,de,t⟩:=m8 (K:=K) g0 (as:=[a1]) (fun b hb=>by rw [Vb.mp hb]; exact ⟨_,_,g1⟩) (Vb.mpr rfl) g1;refine ⟨b1,[a1],g,rfl,bM.of k1,de,?_⟩;rw [t];exact q _ sF
 ·obtain ⟨g,de,t⟩:=m8 (K:=K) g0 (as:=[a2,a3]) (fun b hb=>by rcases Vh.mp hb with e | e; rw [e]; exact ⟨_,_,g2⟩; rw [Vb.mp e]; exact ⟨_,_,g3⟩) (V9 _ (Vb.mpr rfl)) g3;refine ⟨b2,[a2,a3],g,rfl,bM.of k2,de,?_⟩;rw [t];exact q _ sF
 ·obtain ⟨g,de,t⟩:=m8 (K:=K) g0 (as:=[a4]) (fun b hb=>by rw [Vb.mp hb]; exact ⟨_,_,g4⟩) (Vb.mpr rfl) g4;refine ⟨b3,[a4],g,rfl,bM.of k3,de,?_⟩;rw [t];exact q _ sF
theorem CT {K:PySem.W.Frag}{H:Hp}{a b:Addr}{c:Int}(h1:H a=some (.tup [.str "few",.int c]))(h2:H b=some (.tup [.str "few",.int c])):DE K H 2 (.ref a) (.ref b) true:=by
 have d:=DE.tup (K:=K) (n:=1) (fun _=>true) (jF.of h1) (jF.of h2) fun j x y hx hy=>by
  rcases j with _ | _ | j
  ·cases hx; cases hy; have:=DE.str (K:=K) (H:=H) 1 ("few" : Str) "few"; rwa [beq_self_eq_true] at this
  ·cases hx; cases hy; have:=DE.int (K:=K) (H:=H) 1 c c; rwa [beq_self_eq_true] at this
  ·exact absurd hx (by simp)
 exact d
theorem wN {K:PySem.W.Frag}{H:Hp}{a b k l:Addr}{c:Int}(h1:H a=some (.tup [.str "listed",.ref k]))(h2:H b=some (.tup [.str "listed",.ref l]))(h3:H k=some (.tup [.int c]))(h4:H l=some (.tup [.int c])):DE K H 2 (.ref a) (.ref b) true:=by
 have d2:=DE.tup (K:=K) (n:=0) (fun _=>true) (jF.of h3) (jF.of h4) fun j x y hx hy=>by
  rcases j with _ | j
  ·cases hx; cases hy; have:=DE.int (K:=K) (H:=H) 0 c c; rwa [beq_self_eq_true] at this
  ·exact absurd hx (by simp)
 have d:=DE.tup (K:=K) (n:=1) (fun _=>true) (jF.of h1) (jF.of h2) fun j x y hx hy=>by
  rcases j with _ | _ | j
  ·cases hx; cases hy; have:=DE.str (K:=K) (H:=H) 1 ("listed" : Str) "listed"; rwa [beq_self_eq_true] at this
  ·cases hx; cases hy; exact d2
  ·exact absurd hx (by simp)
 exact d
theorem Dn {n:Nat}{f:Addr}{fd:FuncData}(F:dD K "law" "law" (top 42) f fd){p:oU}(pt:Ez K p){b_ a_:Addr}{iF:Addr}{iDF:FuncData}{kOF:Nat}(U4:Mk K p.f iF)(U5:bB P w K mg base (m9 P w) kOF iF iDF ["self","count"] (DQ p b_))(U6:Binds K iDF ["self","count"] [])(R5:mg "Few" = some (.ref p.f))(Tr:kOF+1 ≤ n){iG:Addr}{iDG:FuncData}{kOG:Nat}(RN:Mk K p.g iG)(RP:bB P w K mg base (m9 P w) kOG iG iDG ["self","groups","most"] (Cj p b_))(RQ:Binds K iDG ["self","groups","most"] [])(n_:mg "Groups" = some (.ref p.g))(Qy:kOG+1 ≤ n){iL:Addr}{iDL:FuncData}{kOL:Nat}(Qz:Mk K p.l iL)(Q_:bB P w K mg base (m9 P w) kOL iL iDL ["self","sets"] (BL p b_))(RB:Binds K iDL ["self","sets"] [])(k_:mg "Listed" = some (.ref p.l))(E_:kOL+1 ≤ n){o_:Addr}{l_:FuncData}(p_:jT P w K mg base n "need_pattern" ["pattern","many"] (BR p K b_ a_) o_ l_){Um:Addr}{Uc:FuncData}(U_:mJ K p.f "told" Um)(VB:bB P w K mg base dX n Um Uc ["self"] (uY p.f))(VD:Binds K Uc ["self"] []){Uo:Addr}{Ud:FuncData}(VF:mJ K p.l "told" Uo)(VG:bB P w K mg base dX n Uo Ud ["self"] (vK p.l))(VH:Binds K Ud ["self"] []){Tc:Addr}{Sw:FuncData}(Td:gA P w K mg base n "_law_many" ["_law_script","_law_first","_law_most"] (Ej K) Tc Sw){SN:Addr}{Rx:FuncData}(SQ:gA P w K mg base n "_law_flawed" ["_law_cell"] Be SN Rx){Ry:Addr}{Rj:FuncData}(Rz:gA P w K mg base n "_law_refused" ["_law_way","_law_cell"] Bj Ry Rj){F_:Addr}{C_:FuncData}(G_:gA P w K mg base n "_law_cell_at" ["_law_script","_law_k"] (CQ K) F_ C_)(g_:mg "range" = none)(S5:mg "max" = none):bB P w K mg base dX (n+1) f fd ["_law_script"] (qM K):=by
 refine F.ok yJ (fun vs H Q E h=>?_) (fun cdv A outer s H vs Q E hr h=>?_)
 ·obtain ⟨a,ns,rfl,_⟩:=h
  rfl
 obtain ⟨a,ns,rfl,hS,hlen,q⟩:=h;have nd:=yJ.nd;have hu2:_+1+1<cLine:=Wg (Wy (by decide:2 ≤ 64) _) (cF.units hr);refine ⟨_,(aK (iV PassesOwn.never rfl (cI rfl g_ (aA (aN (pK rfl) rfl S5 w6 (aA aQ (aA (aX Td hr (aA (pv 0) (aA aQ (aA aQ aF)))) aF))) aF)) (bR (i:=1) nd rfl (Or.inl rfl)) (aK (bN (i:=2) nd rfl (Or.inl rfl) (aX G_ hr (aA (pv 0) (aA (aZ cH aQ (pv 1)) aF)))) (aK (dB (PW.pt (rJ (cJ (cD (aX Rz hr (aA (aZ bJ (pv 2) aQ) (aA (aZ cM (pv 2) aQ) aF))))) (nF (cJ (cD (aX SQ hr (aA (aZ cM (pv 2) aQ) aF))))))) (aJ (bG mQ)) bT) (aJ (dB (PW.pt (rJ (eZ (yI (n:=1) hu2) (QE.h (rD (cY U4 U5 (hr.mono Tr) rfl R5 U6 .nil rA (aC (bQ bJ (qv 2) aG) aO)) pt.cf U_ VB hr VD .nil oX)) (QE.h (eH (aC j7 (aC (bQ bJ (qv 2) aG) aO)))) (cG _)) (nF (eZ (yI (n:=1) hu2) (QE.h (rD (cY Qz Q_ (hr.mono E_) rfl k_ RB .nil rA (aC (bK (aC (bQ bJ (qv 2) aG) aO)) aO)) pt.cl VF VG hr VH .nil oX)) (QE.h (eH (aC j7 (aC (eH (aC (bQ bJ (qv 2) aG) aO)) aO)))) (cG _))))) (aJ (bG mQ)) bT))))) (zT.h (bV (qJ (vA zJ (rP p_ hr rA (aC (cY RN RP (hr.mono Qy) rfl n_ RQ .nil rA (aC (bK (aC aG (aC aG (aC aG aO)))) (aC (bK (aC aG (aC aG (aC aG (aC aG (aC aG (aC aG aO))))))) aO))) (aC aG aO))) qO (cG _)))))),?_⟩;refine ⟨_,rfl,a,ns,1,40,rfl,hS,by decide,by decide,by decide,fun j j0 j40=>?_⟩;obtain ⟨N,hN,N40⟩:∃ N:Nat,(if j > 1 then j else 1)=(N:Int)∧N ≤ 40:=⟨(if j > 1 then j else 1).toNat,by split <;> omega,by split <;> omega⟩
 refine ⟨_,_,rfl,(N:Int),congrArg (fun z=>[V.int z]) hN,by omega,by omega,?_⟩;refine gZ (n:=(N:Int).toNat) (fun i σ H'=>∃ v1 v2,σ = [some (.ref a),v1,v2]∧aY H H') ⟨none,none,rfl,aY.refl _⟩ ?turn ?done
 case turn =>
  rintro i σ H1 hi ⟨v1,v2,rfl,s1⟩;have hS1:bM K H1 a (ns.map V.int):=s1.seq hS;refine ⟨_,rfl,_,rfl,_,_,rfl,rfl,a,ns,1+(0+(i:Int)),rfl,hS1,by omega,by omega,fun cl c0 c1=>?_⟩;have a7:=V7 cl (show (7:Int)≠0 by decide);have b7:=V4 cl (show (0:Int)<7 by decide);have d7:0 ≤ cl/7:=W3 c0 (by decide);have a64:=V7 cl (show (64:Int)≠0 by decide);have b64:=V4 cl (show (0:Int)<64 by decide);refine ⟨_,rfl,_,_,rfl,rfl,(by show (0:Int)<7; decide),_,rfl,_,_,rfl,rfl,⟨by decide,by decide⟩,cl%7,cl/7,rfl,a7,b7,d7,fun H2 s2=>?_⟩;refine ⟨_,rfl,?_⟩;refine dC ?_;refine ⟨_,rfl,_,_,rfl,rfl,⟨by decide,by decide⟩,cl/49,rfl,fun H3 s3=>?_⟩;refine ⟨_,rfl,?_⟩;refine iH rfl ?_;have fU:=s1.trans (s2.trans s3);refine ⟨_,rfl,_,_,rfl,rfl,(by show (0:Int)<7; decide),fun x dx hx hdx ndx=>?_⟩;have nO:=(cX (o1:=.own x) (o2:=.ins p.f dx []) hx hdx ndx).upd_new hx (.ins p.f dx [("limit",.int (cl%7))]);refine ⟨x,dx,.int (cl%7),rfl,aB,.inl ⟨cl%7,rfl,a7,by omega,⟨rfl,?_⟩⟩⟩;refine ⟨x,dx,_,rfl,aB,rfl,x,cl%7,rfl,⟨dx,aB⟩,fun r H4 s4 hr4=>?_⟩;have jW:=(fU.trans nO).trans s4;refine ⟨_,rfl,_,_,rfl,rfl,(by show (0:Int)<7; decide),tG,fun t ht=>?_⟩;have n5:=aD ht (.tup [V.str "few",V.int (cl%7)]);refine ⟨r,t,true,rfl,rfl,CT (n5 _ _ hr4) aB,_,rfl,?_⟩;refine dC ?_;have fY:=jW.trans n5;generalize aR H4 t (.tup [V.str "few",V.int (cl%7)])=H5 at fY ⊢;refine ⟨_,rfl,_,_,rfl,rfl,(by show (0:Int)<64; decide),Cv,fun l hl=>?_⟩;have n6:=aD hl (.lst [V.int (cl%64)]);intro y dy hy hdy ndy;have nP:=cX (o1:=.own y) (o2:=.ins p.l dy []) hy hdy ndy;refine ⟨y,dy,.ref l,rfl,aB,.inl ⟨l,[cl%64],rfl,nP _ _ aB,⟨by show 1 ≤ 1; decide,.inl (by show 1<64; decide),Vx.mpr ⟨Wn,Wu⟩,fun z hz=>by rw [Vb.mp hz]; omega⟩,fun kk ms H7 s7 pm so hk=>⟨rfl,?_⟩⟩⟩;obtain rfl:ms=[cl%64]:=List.perm_singleton.mp pm;have ne:kk≠y:=lB hk (s7 _ _ aB) fun z=>nomatch z
  have S8:aY H (aR H7 y (.ins p.l dy [("sets",.ref kk)])):=(fY.trans (n6.trans (nP.trans s7))).upd_new ((fY.trans n6).free hy) _;have hk8:aR H7 y (.ins p.l dy [("sets",.ref kk)]) kk=some (.tup (Is [cl%64])):=by rw [aM ne]; exact hk
  have hy8:aR H7 y (.ins p.l dy [("sets",.ref kk)]) y=some (.ins p.l dy [("sets",.ref kk)]):=aB;generalize aR H7 y (.ins p.l dy [("sets",.ref kk)])=H8 at S8 hk8 hy8 ⊢;refine ⟨y,dy,_,rfl,hy8,rfl,y,[cl%64],rfl,⟨dy,kk,hy8,hk8⟩,fun r2 H9 s9 hr9=>?_⟩;obtain ⟨k9,hr9,hk9⟩:=hr9;refine ⟨_,rfl,_,_,rfl,rfl,(by show (0:Int)<64; decide),Cv,fun t1 ht1=>?_⟩;have nA:=aD ht1 (.tup [V.int (cl%64)]);refine ⟨tG,fun t2 ht2=>?_⟩;have nB:=aD ht2 (.tup [V.str "listed",V.ref t1]);refine ⟨r2,t2,true,rfl,rfl,wN ((nA.trans nB) _ _ hr9) aB ((nA.trans nB) _ _ hk9) (nB _ _ aB),_,rfl,?_⟩;refine iH rfl ?_;exact ⟨_,_,rfl,(S8.trans s9).trans (nA.trans nB)⟩
 case done =>
  rintro σ H1 ⟨v1,v2,rfl,s1⟩;refine ⟨wZ,fun l1 h1=>?_⟩;have n1:=aD h1 (.lst [V.int 0,V.int 0,V.int 1]);refine ⟨wR (by decide:6 ≤ 1000),fun l2 h2=>?_⟩;have n2:=aD h2 (.lst [V.int 1,V.int 2,V.int 0,V.int 0,V.int 0,V.int 0]);intro x dx hx hdx ndx;have nO:=cX (o1:=.own x) (o2:=.ins p.g dx []) hx hdx ndx;have gg:JM [0,0,1] [1,2,0,0,0,0]:=⟨by decide,by decide,by decide,rfl,by decide⟩
  refine ⟨x,dx,.ref l1,.ref l2,rfl,aB,.inl ⟨l1,l2,[0,0,1],[1,2,0,0,0,0],rfl,rfl,(n2.trans nO) _ _ aB,nO _ _ aB,gg,fun g m H3 k3 hg hm hx3=>⟨rfl,?_⟩⟩⟩;refine ⟨.ref x,3,rfl,.inr ⟨x,.groups [0,0,1] [1,2,0,0,0,0],rfl,⟨dx,g,m,hx3,hg,hm⟩,gg,by decide,by decide,fun _ H4 s4=>?_,fun st o e en=>by rw [M6] at en; cases en⟩⟩;exact ⟨rfl,q H4⟩
end
end K35
namespace L2
open PySem PySem.Spec PyProof.Rows
structure Lf (K:PySem.W.Frag)(dT:Addr)(x qual:Str)(st:Stmt)(f:Addr)(fd:FuncData):Prop where
 ex:∃ (oc:Value) (od:Option Addr) (kV doc pm:Value) (an:Option Addr) (cdv ct:Value) (osl:Array (Option Value)),
  fd=PySem.W.fnOf x qual (dW st) (cP st) (aH st) (.ref dT) kV doc pm an cdv ct∧K.lookup f=some ⟨oc,od,.func fd,osl⟩∧PySem.W.codeIn K cdv qual=true
 kp:PySem.W.keepIn K (.ref f)=true
structure TF (K:PySem.W.Frag)(x:Str)(st:Stmt)(f:Addr)(fd:FuncData):Prop where
 a:PySem.W.nsIn K mainGlobals x=some (some (.ref f))
 F:dD K x x st f fd
structure MF (K:PySem.W.Frag)(C:Addr)(m q:Str)(st:Stmt)(f:Addr)(fd:FuncData):Prop where
 a:PySem.W.findIn K (.ref C) m=some (some (.ref f))
 i:PySem.W.isFn K (.ref f)=true
 F:dD K m q st f fd
structure TD (K:PySem.W.Frag)(x:Str)(st:Stmt)(dT f:Addr)(fd:FuncData):Prop where
 a:PySem.W.nsIn K mainGlobals x=some (some (.ref f))
 F:Lf K dT x x st f fd
def Di (K:PySem.W.Frag)(l:List Str):Bool:=l.all fun x=>match PySem.W.nsIn K mainGlobals x with | some none=>true | _=>false
def Hh (mg:Str →Option Value):List Str →Prop
 | []=>True
 | x::r=>mg x=none∧Hh mg r
section
variable {P:Program}{w:World}{K:PySem.W.Frag}{mg:Str →Option Value}{base h:Heap}{x m q:Str}{st:Stmt}{f C:Addr}{fd:FuncData}{ps:List Str}{sp:Sp}{n:Nat}
theorem Hk (X:K.In h)(G:h.Ns mainGlobals mg):∀ {l:List Str},Di K l=true →Hh mg l
 | [],_=>trivial
 | y::r,e=>by
  have e':((match PySem.W.nsIn K mainGlobals y with | some none=>true | _=>false)&&Di K r)=true:=e;rw [Vc] at e';refine ⟨PySem.W.mg_none_of X G ?_,Hk X G e'.2⟩;have e1:=e'.1;revert e1;cases PySem.W.nsIn K mainGlobals y with
  | none=>intro z; cases z
  | some o=>cases o with
   | none=>intro _; rfl
   | some v=>intro z; cases z
theorem MF.mt (T:MF K C m q st f fd):mJ K C m f:=⟨T.a,T.i,T.F.kp⟩
theorem TF.cal (T:TF K x st f fd)(X:K.In h)(G:h.Ns mainGlobals mg)(g:bB P w K mg base dX n f fd ps sp)(b:Binds K fd ps []):gA P w K mg base n x ps sp f fd:=⟨g,b,T.F.kp,PySem.W.mg_of X G T.a⟩
theorem TF.calX (T:TF K x st f fd)(X:K.In h)(G:h.Ns mainGlobals mg)(g:bB P w K mg base (m9 P w) n f fd ps sp)(b:Binds K fd ps []):jT P w K mg base n x ps sp f fd:=⟨g,b,T.F.kp,PySem.W.mg_of X G T.a⟩
theorem gA.u {m:Nat}(c:gA P w K mg base n x ps sp f fd)(h:n ≤ m:=by omega):gA P w K mg base m x ps sp f fd:=c.up h
theorem jT.u {m:Nat}(c:jT P w K mg base n x ps sp f fd)(h:n ≤ m:=by omega):jT P w K mg base m x ps sp f fd:=c.up h
theorem bB.u {CX:rK}{m:Nat}(g:bB P w K mg base CX n f fd ps sp)(h:n ≤ m:=by omega):bB P w K mg base CX m f fd ps sp:=g.mono h
theorem Az {CX:rK}(_:bB P w K mg base CX n f fd ps sp)(b:Binds K fd ps []):Binds K fd ps []:=b
abbrev JL (x q:Str)(st:Stmt)(us:List Value)(r:List (Str×Value)):Prop:=∀ (kV doc pm:Value) (an:Option Addr) (cdv ct:Value),bindArgs (PySem.W.fnOf x q (dW st) (cP st) (aH st) .none kV doc pm an cdv ct) ⟨us,[]⟩=pure r
theorem dD.bd1 {a:Str}(F:dD K x q st f fd)(h:∀ u,JL x q st [u] [(a,u)]:=by intros; exact fun _ _ _ _ _ _=>rfl):Binds K fd [a] []:=F.binds fun _ _ _ _ _ _ us hl=>match us,hl with | [_],_=>h _ _ _ _ _ _ _
theorem dD.bd2 {a b:Str}(F:dD K x q st f fd)(h:∀ u v,JL x q st [u,v] [(a,u),(b,v)]:=by intros; exact fun _ _ _ _ _ _=>rfl):Binds K fd [a,b] []:=F.binds fun _ _ _ _ _ _ us hl=>match us,hl with | [_,_],_=>h _ _ _ _ _ _ _ _
theorem dD.bd3 {a b c:Str}(F:dD K x q st f fd)(h:∀ u v y,JL x q st [u,v,y] [(a,u),(b,v),(c,y)]:=by intros; exact fun _ _ _ _ _ _=>rfl):Binds K fd [a,b,c] []:=F.binds fun _ _ _ _ _ _ us hl=>match us,hl with | [_,_,_],_=>h _ _ _ _ _ _ _ _ _
theorem dD.bd4 {a b c d:Str}(F:dD K x q st f fd)(h:∀ u v y z,JL x q st [u,v,y,z] [(a,u),(b,v),(c,y),(d,z)]:=by intros; exact fun _ _ _ _ _ _=>rfl):Binds K fd [a,b,c,d] []:=F.binds fun _ _ _ _ _ _ us hl=>match us,hl with | [_,_,_,_],_=>h _ _ _ _ _ _ _ _ _ _
end
end L2
namespace K35
open PySem L2 TD TP PyProof.Rows
theorem Dh {l:W.OpenLaw}{w:World}{K:W.Frag}{h:Heap}{mg:Str →Option Value}{fa f1 f2 f3 f4 f5 f6 f7 f8 f9 f10 f11 f12 f13 f14 f15 f16 f17 f18 f19 f20 f21 f22 f23 f24 f25 f26 f27 f28 f29 f30 cFw cGr cLi b_ L_ RJ H_ a_ I_ J_ v_ u_ K_ x_ z_:Addr}{g1 g2 g3 g4 g5 g6 g7 g8 g9 g10 g11 g12 g13 g14 g15 g16 g17 g18 g19 g20 g21 g22 g23 g24 g25 g26 g27 g28 g29 g30:FuncData}(X:K.In h)(G:h.Ns mainGlobals mg)(hfa:mg "law" = some (.ref fa))
  (Uh:W.nsIn K mainGlobals "Few" = some (some (.ref cFw)))
  (Tw:W.nsIn K mainGlobals "Groups" = some (some (.ref cGr)))
  (Tz:W.nsIn K mainGlobals "Listed" = some (some (.ref cLi)))
  (T_:W.nsIn K mainGlobals "NoSets" = some (some (.ref b_)))
  (Te:W.nsIn K mainGlobals "LidError" = some (some (.ref L_)))
  (U7:W.nsIn K mainGlobals "NoBox" = some (some (.ref RJ)))
  (UG:W.nsIn K mainGlobals "NoDeed" = some (some (.ref H_)))
  (Sx:W.nsIn K mainGlobals "NoPattern" = some (some (.ref a_)))
  (UJ:W.nsIn K mainGlobals "NoPlan" = some (some (.ref I_)))
  (UL:W.nsIn K mainGlobals "NoText" = some (some (.ref J_)))
  (Tt:W.nsIn K mainGlobals "NoTable" = some (some (.ref v_)))
  (Tg:W.nsIn K mainGlobals "NoOffers" = some (some (.ref u_)))
  (UT:W.nsIn K mainGlobals "NoRule" = some (some (.ref K_)))
  (Tu:W.nsIn K mainGlobals "NoRanks" = some (some (.ref x_)))
  (Tv:W.nsIn K mainGlobals "TooMany" = some (some (.ref z_)))
  (T1:TF K "is_whole" (top 14) f1 g1)
  (T2:TF K "has_box" (top 18) f2 g2)
  (T3:TF K "boxes_of" (top 19) f3 g3)
  (T4:TF K "size_of" (top 20) f4 g4)
  (T5:TF K "with_box" (top 21) f5 g5)
  (T6:TF K "is_numbers" (top 22) f6 g6)
  (T7:TF K "is_pattern" (top 27) f7 g7)
  (T8:TF K "less_flaw" (top 28) f8 g8)
  (T9:TF K "can_grow" (top 29) f9 g9)
  (T10:TF K "sets_by_size" (top 30) f10 g10)
  (T11:TF K "more_flaw" (top 31) f11 g11)
  (T12:TF K "flaw" (top 32) f12 g12)
  (T13:TF K "need_pattern" (top 33) f13 g13)
  (T14:TF K "_law_cell_at" (top 35) f14 g14)
  (T15:TF K "_law_many" (top 36) f15 g15)
  (T16:TF K "_law_thing" (top 37) f16 g16)
  (T17:TF K "_law_spoilt" (top 38) f17 g17)
  (T18:TF K "_law_tried" (top 39) f18 g18)
  (T19:TF K "_law_refused" (top 40) f19 g19)
  (T20:TF K "_law_flawed" (top 41) f20 g20)
  (T21:TF K "law" (top 42) f21 g21)
  (T22:MF K a_ "__init__" "NoPattern.__init__" (inClass (top 10) 0) f22 g22)
  (T23:MF K cFw "__init__" "Few.__init__" (inClass (top 24) 0) f23 g23)
  (T24:MF K cFw "may" "Few.may" (inClass (top 24) 1) f24 g24)
  (T25:MF K cFw "told" "Few.told" (inClass (top 24) 2) f25 g25)
  (T26:MF K cGr "__init__" "Groups.__init__" (inClass (top 25) 0) f26 g26)
  (T27:MF K cGr "may" "Groups.may" (inClass (top 25) 1) f27 g27)
  (T28:MF K cLi "__init__" "Listed.__init__" (inClass (top 26) 0) f28 g28)
  (T29:MF K cLi "may" "Listed.may" (inClass (top 26) 1) f29 g29)
  (T30:MF K cLi "told" "Listed.told" (inClass (top 26) 2) f30 g30)
  (pt:Ez K ⟨cFw,cGr,cLi⟩)
  (cpn:Ef K ⟨cFw,cGr,cLi⟩)
  (xcS:rZ K b_)
  (exS:W.exmOne K (.ref b_) (.ref L_)=some true)
  (lkS:sG K b_ [RJ,H_,a_,I_,J_,v_,u_,K_,x_,z_])
  (xiP:uM K a_ f22)
  (xfP:zR K a_)
  (nkOne:W.findIn K (.ref a_) "one" = some none)
  (nkOther:W.findIn K (.ref a_) "other" = some none)
  (xtP:w5 K a_)
  (exP:W.exmOne K (.ref a_) (.ref a_)=some true)
  (mkFw:W.makesIn K cFw=true)
  (kcFw:W.keepIn K (.ref cFw)=true)
  (mkGr:W.makesIn K cGr=true)
  (kcGr:W.keepIn K (.ref cGr)=true)
  (mkLi:W.makesIn K cLi=true)
  (kcLi:W.keepIn K (.ref cLi)=true)
  (nkF:W.findIn K (.ref cFw) "limit" = some none)
  (nkG:W.findIn K (.ref cGr) "groups" = some none)
  (nkM:W.findIn K (.ref cGr) "most" = some none)
  (nkS:W.findIn K (.ref cLi) "sets" = some none)
  (y_:Di K ["ValueError","all","any","bool","int","isinstance","len","list","max","min","range","set","sorted","tuple"]=true)
  {RV:Tok} (SX:W.nsIn K mainGlobals "MOST_BOXES" = some (some (.int 6 RV)))
  {R6:Tok} (Sy:W.nsIn K mainGlobals "MOST_SETS" = some (some (.int 64 R6)))
  : ∃ fd:FuncData,(∀ (s:Shared) (v:Value),BindsTo s fd ⟨[v],[]⟩ [("_law_script",v)])∧∀ base:Heap,K.In base →base.Ns mainGlobals mg →bB l.prog w K mg base dX 10 fa fd ["_law_script"] (qM K):=by
 obtain ⟨p,rfl,rfl,rfl⟩:∃ p:oU,p.f=cFw∧p.g=cGr∧p.l=cLi:=⟨⟨cFw,cGr,cLi⟩,rfl,rfl,rfl⟩
 replace pt:Ez K p:=pt;replace cpn:Ef K p:=cpn;cases hfa.symm.trans (W.mg_of X G T21.a);have ⟨RK,Rk,UW,Th,UV,cC,j_,Rb,S5,U0,g_,U3,Ro,A_,_⟩:=Hk X G y_;have R5:=W.mg_of X G Uh;have n_:=W.mg_of X G Tw;have k_:=W.mg_of X G Tz;have h_:=W.mg_of X G T_;have R3:=W.mg_of X G Te;have Ss:=W.mg_of X G U7;have Rr:=W.mg_of X G UG;have i_:=W.mg_of X G Sx;have Rt:=W.mg_of X G UJ;have Ru:=W.mg_of X G UL;have Rc:=W.mg_of X G Tt;have R1:=W.mg_of X G Tg;have Rv:=W.mg_of X G UT;have Rf:=W.mg_of X G Tu;have Rg:=W.mg_of X G Tv;have d_:=W.mg_of X G SX;have e_:RelV (.int 6) (.int 6 RV):=⟨_,rfl⟩
 have M_:=W.mg_of X G Sy;have N_:RelV (.int 64) (.int 64 R6):=⟨_,rfl⟩
 refine ⟨g21,fun s v=>?_,fun base _ _=>?_⟩
 ·obtain ⟨_,_,_,_,_,_,_,_,_,rfl,_⟩:=T21.F.ex;exact .of_eq rfl
 have R {CX n f g ps sp} (z:bB l.prog w K mg base CX n f g ps sp):=z;have MFw:Mk K p.f f23:=⟨mkFw,T23.a,T23.i,kcFw⟩
 have MGr:Mk K p.g f26:=⟨mkGr,T26.a,T26.i,kcGr⟩
 have MLi:Mk K p.l f28:=⟨mkLi,T28.a,T28.i,kcLi⟩
 have mt24:=T24.mt;have mt25:=T25.mt;have mt27:=T27.mt;have mt29:=T29.mt;have mt30:=T30.mt;have G1:=R (rB (n:=0) T1.F cC Th UV);have C1:=T1.cal X G G1 T1.F.bd3;have G2:=R (uI (n:=0) T2.F );have C2:=T2.cal X G G2 T2.F.bd2;have G3:=R (sI (n:=1) T3.F C2.u g_ d_ e_);have C3:=T3.cal X G G3 T3.F.bd1;have G4:=R (tU (n:=2) T4.F C3.u j_);have C4:=T4.cal X G G4 T4.F.bd1;have G5:=R (qZ (n:=0) T5.F );have C5:=T5.cal X G G5 T5.F.bd2;have G6:=R (nZ (n:=1) T6.F C1.u Rk j_ cC Rb);have C6:=T6.cal X G G6 T6.F.bd4;have G7:=R (nQ (n:=0) T7.F pt cpn R5 n_ k_ cC);have C7:=T7.cal X G G7 T7.F.bd1;have G8:=R (qH (n:=2) T8.F C3.u g_ j_);have C8:=T8.cal X G G8 T8.F.bd1;have G9:=R (rH (n:=2) T9.F C3.u C2.u C5.u UW);have C9:=T9.cal X G G9 T9.F.bd3;have G10:=R (lL (n:=3) T10.F C4.u g_ j_ d_ e_);have C10:=T10.cal X G G10 T10.F.bd1;have G11:=R (qG (n:=4) T11.F C9.u C10.u g_ d_ e_);have C11:=T11.cal X G G11 T11.F.bd1;have G24:=R (uG (n:=3) T24.F pt.cf nkF C4.u);have b24:=Az G24 T24.F.bd2;have G27:=R (nT (n:=2) T27.F pt.cg nkG nkM C3.u Rk j_);have b27:=Az G27 T27.F.bd2;have G29:=R (nH (n:=0) T29.F pt.cl nkS);have b29:=Az G29 T29.F.bd2;have G12:=R (Av (n:=5) T12.F pt mt24 G24.u b24 mt27 G27.u b27 mt29 G29.u b29 C11.u C8.u g_);have C12:=T12.cal X G G12 T12.F.bd2;have G22:=R (fX (n:=0) T22.F xfP nkOne nkOther);have b22:=Az G22 T22.F.bd3;have G13:=R (lH (n:=6) T13.F (p:=p) h_ xcS i_ xiP G22 b22 (by omega) C12.u C7.u);have C13:=T13.calX X G G13 T13.F.bd2;have G14:=R (lJ (n:=0) T14.F j_);have C14:=T14.cal X G G14 T14.F.bd2;have G15:=R (pP (n:=1) T15.F C14.u U0 S5 j_);have C15:=T15.cal X G G15 T15.F.bd3;have G16:=R (nU (n:=0) T16.F );have C16:=T16.cal X G G16 T16.F.bd2;have G17:=R (mC (n:=1) T17.F C16.u A_ j_ Rb);have C17:=T17.cal X G G17 T17.F.bd3;have G23:=R (lK (n:=1) T23.F pt.cf nkF h_ xcS C1.u d_ e_);have b23:=Az G23 T23.F.bd2;have G26:=R (jB (n:=2) T26.F pt.cg nkG nkM h_ xcS C6.u A_ d_ e_);have b26:=Az G26 T26.F.bd3;have G28:=R (jA (n:=2) T28.F pt.cl nkS h_ xcS C6.u A_ Ro j_ U3 M_ N_);have b28:=Az G28 T28.F.bd2;have G18:=R (nR (n:=7) T18.F MFw G23 b23 R5 (by omega) MGr G26 b26 n_ (by omega) MLi G28 b28 k_ (by omega) C13.u C16.u C17.u g_);have C18:=T18.calX X G G18 T18.F.bd2;have G19:=R (lG (n:=8) T19.F h_ Ss Rr i_ Rt Ru Rc R1 Rv Rf Rg lkS R3 exS C18.u cC RK);have C19:=T19.cal X G G19 T19.F.bd2;have G20:=R (mV (n:=7) T20.F MLi G28 b28 k_ (by omega) C13.u i_ xtP xfP nkOne nkOther exP);have C20:=T20.cal X G G20 T20.F.bd1;have G25:=R (rF (n:=0) T25.F pt.cf nkF);have b25:=Az G25 T25.F.bd1;have G30:=R (m7 (n:=0) T30.F pt.cl nkS);have b30:=Az G30 T30.F.bd1;exact Dn (n:=9) T21.F pt MFw G23 b23 R5 (by omega) MGr G26 b26 n_ (by omega) MLi G28 b28 k_ (by omega) C13.u mt25 G25.u b25 mt30 G30.u b30 C15.u C20.u C19.u C14.u g_ S5
theorem walk {l:W.OpenLaw}{q:Program}{loose:List Str}{XP:(Str →Option Value) →Heap →Prop}{YP:World →Heap →Prop}{d:DefRec}{K:Params →W.Frag}(hn:l.most=some 63)(hdf:d.params.defaults=[])
  (hY:∀ (w:World) (h:Heap),YP w h →(K w.params).In h)
  (F:∀ (w:World) (mg:Str →Option Value) (fa:Addr) (h:Heap),(K w.params).In h →h.Ns mainGlobals mg →mg d.name=some (.ref fa) →
   ∃ fd:FuncData,(∀ (s:Shared) (u:Value),BindsTo s fd ⟨[u],[]⟩ [("_law_script",u)])∧∀ base:Heap,(K w.params).In base →base.Ns mainGlobals mg →bB l.prog w (K w.params) mg base dX 10 fa fd ["_law_script"] (qM (K w.params))) :
  W.WalkO q loose XP YP l.row.toRowW d [] (fun f vs=>PySem.call f vs) :=
 L2.Ai (n:=63) (k:=10) (x:="_law_script") (CX:=fun _=>dX) (sp:=fun w=>qM (K w.params)) hn (by decide) hdf ⟨rfl,by decide,by decide⟩ hY F (fun _ _ a ns hl _ hS=>⟨a,ns,rfl,hS,hl,fun _=>rfl⟩) fun _ _ _ _ _ z=>z
noncomputable section
abbrev OO:=Params →Obj
def E (P:Params)(x:Str)(t:Tok)(v:Value):DictEntry:=⟨PyData.keyHash P x,.str x t,v⟩
abbrev QQ (n q:Str)(st:Stmt)(dV kV doc pm:Value)(an:Option Addr)(cdv ct:Value):FuncData:=W.fnOf n q (dW st) (cP st) (aH st) dV kV doc pm an cdv ct
def QM (n q:Str)(st:Stmt):FuncData:={ name:=n,qualname:=q,params:=dW st,body:=.stmts (cP st),scope:=aH st,globals:=0,closure:=[],defaults:=.none,kwdefaults:=.none }
def s0  : Obj:=⟨(.type "tuple"),none,(.seq #[] 0),#[]⟩
def s1  : Obj:=⟨.none,none,(.fields #[]),#[]⟩
def s2 (x0:Str)(x1:Nat)(x3:Nat)(x5:Nat)(x6:Int)(x16:Nat)(x19:Nat)(x20:Int)(x25:Nat):Obj:=⟨(.type "code"),none,(.fields #[(.str x0 x1),(.str x0 x3),(.str "/claim/cut.py" x5),(.int x6 0),(.int 0 0),(.int 0 0),(.int 0 0),(.int 0 0),(.ref x16),(.bool false),(.int 181 0),(.ref x19),.none,.none,.none,.none,(.int x20 0),(.int x6 0),(.str "/claim/cut.py" x25)]),#[]⟩
def s3 (x0:Nat)(x2:Nat)(x3:Str)(x4:Nat):Obj:=⟨(.type "frame"),none,.plain,#[(some (.ref x0)),(some (.ref 3)),(some (.ref x2)),none,(some (.str x3 x4)),none,(some (.ref 0))]⟩
def s4  : Obj:=⟨(.type "builtin_function_or_method"),none,(.fields #[(.builtin "type.__prepare__"),(.type "type")]),#[]⟩
def s5 (P:Params)(x1:Nat)(x2:Str)(x3:Nat)(x5:Nat)(x6:Str)(x7:Nat)(x9:Nat)(x10:Int)(x11:Nat)(x13:Nat)(x14:Nat):Obj:=⟨(.type "dict"),none,(.dict #[E P "__module__" x1 (.str x2 x3),E P "__qualname__" x5 (.str x6 x7),E P "__firstlineno__" x9 (.int x10 x11),E P "__static_attributes__" x13 (.ref x14)] 4),#[]⟩
def s6 (P:Params)(x1:Nat)(x5:Nat)(x6:Int)(x7:Nat)(x8:Str)(x9:Nat)(x10:Nat)(x11:Str)(x12:Nat)(x13:Nat)(x15:Nat)(x16:Nat):Obj:=⟨(.type "dict"),none,(.dict #[E P "__module__" x1 (.str "lidprice.errors" 187),E P "__firstlineno__" x5 (.int x6 x7),E P x8 x9 (.ref x10),E P x11 x12 (.ref x13),E P "__doc__" x15 .none] x16),#[]⟩
def s7 (x0:Nat):Obj:=⟨(.type "super"),none,(.fields #[(.ref x0),(.ref x0),(.ref x0)]),#[]⟩
def s8 (x0:Nat):Obj:=⟨(.type "builtin_function_or_method"),none,(.fields #[(.builtin "object.__init_subclass__"),(.ref x0)]),#[]⟩
def s9 (x0:Nat):Obj:=⟨(.type "tuple"),none,(.seq #[(.ref x0)] 0),#[]⟩
def zP (P:Params)(x1:Nat)(x5:Nat)(x6:Int)(x7:Nat)(x9:Nat)(x10:Nat)(x12:Nat):Obj:=⟨(.type "dict"),none,(.dict #[E P "__module__" x1 (.str "lidprice.errors" 187),E P "__firstlineno__" x5 (.int x6 x7),E P "__static_attributes__" x9 (.ref x10),E P "__doc__" x12 .none] 2),#[]⟩
def xZ (x0:Str)(x2:Nat)(x4:Nat)(x6:Nat)(x8:Nat)(x10:Nat):Obj:=⟨(.type "type"),none,(.cls ⟨x0,[(.ref 24)],[(.ref x2),(.ref 24),(.type "ValueError"),(.type "Exception"),(.type "BaseException"),(.type "object")],x4,x0,true,[],[],false,none,false⟩),#[(some (.ref x6)),none,(some (.str x0 x8)),(some (.str x0 x10)),(some (.builtin "ValueError.__new__")),(some (.bool true))]⟩
def lW (x0:Str)(x1:Nat)(x2:Str)(x3:Nat)(x4:Str)(x5:Nat):Obj:=⟨(.type "tuple"),none,(.seq #[(.str x0 x1),(.str x2 x3),(.str x4 x5)] 0),#[]⟩
def fU (x0:Str)(x1:Str)(x2:Stmt):Obj:=⟨.none,none,(.func (QM x0 x1 x2)),#[]⟩
def jW (x0:Str)(x1:Nat)(x2:Str)(x3:Nat)(x5:Nat)(x6:Int)(x8:Int)(x16:Nat)(x19:Nat)(x20:Nat)(x21:Nat)(x22:Nat)(x23:Int)(x28:Nat):Obj:=⟨(.type "code"),none,(.fields #[(.str x0 x1),(.str x2 x3),(.str "/claim/cut.py" x5),(.int x6 0),(.int x8 0),(.int 0 0),(.int 0 0),(.int 3 0),(.ref x16),(.bool true),(.int 181 0),(.ref x19),.none,(.ref x20),(.ref x21),(.ref x22),(.int x23 0),(.int x6 0),(.str "/claim/cut.py" x28)]),#[]⟩
def fY (x0:Str)(x1:Str)(x2:Stmt)(x3:Str)(x4:Nat)(x5:Nat):Obj:=⟨(.type "function"),none,(.func (QQ x0 x1 x2 .none .none .none (.str x3 x4) none (.ref x5) .none)),#[]⟩
def zV (x0:Str)(x1:Nat)(x2:Str)(x3:Nat):Obj:=⟨(.type "tuple"),none,(.seq #[(.str x0 x1),(.str x2 x3)] 0),#[]⟩
def Aa (x0:Str)(x1:Nat):Obj:=⟨(.type "tuple"),none,(.seq #[(.str x0 x1)] 0),#[]⟩
def Dr (x0:Str)(x1:Nat)(x2:Str)(x3:Nat)(x5:Nat)(x6:Int)(x8:Int)(x16:Nat)(x19:Nat)(x20:Nat)(x21:Int)(x26:Nat):Obj:=⟨(.type "code"),none,(.fields #[(.str x0 x1),(.str x2 x3),(.str "/claim/cut.py" x5),(.int x6 0),(.int x8 0),(.int 0 0),(.int 0 0),(.int 3 0),(.ref x16),(.bool true),(.int 181 0),(.ref x19),.none,.none,.none,(.ref x20),(.int x21 0),(.int x6 0),(.str "/claim/cut.py" x26)]),#[]⟩
def JK (x0:Str)(x1:Nat)(x2:Str)(x3:Nat)(x4:Str)(x5:Nat)(x6:Str)(x7:Nat):Obj:=⟨(.type "tuple"),none,(.seq #[(.str x0 x1),(.str x2 x3),(.str x4 x5),(.str x6 x7)] 0),#[]⟩
def Q6:OO:=fun _=>s2 "<module>" 182 183 184 1 11 12 185 186
def Qd:OO:=fun _=>s3 13 3 "__main__" 164
def o3:OO:=fun P=>⟨(.type "dict"),none,(.dict #[E P "__name__" 165 (.str "lidprice.errors" 187),E P "__doc__" 166 .none,E P "__package__" 167 .none,E P "__loader__" 168 (.builtin "__main__.__loader__#opaque"),E P "__spec__" 169 .none,E P "__annotations__" 170 (.ref 6),E P "__builtins__" 171 (.ref 4),E P "__file__" 173 (.str "/claim/cut.py" 172),E P "__cached__" 174 .none,E P "LidError" 206 (.ref 24),E P "NoTable" 222 (.ref 37),E P "NoBox" 238 (.ref 49),E P "NoDeed" 254 (.ref 61),E P "NoSets" 270 (.ref 73),E P "NoOffers" 286 (.ref 85)] 15),#[]⟩
def Ht:OO:=fun _=>⟨.none,none,(.fields #[(.int 2 0),(.int 0 0),(.ref 20),(.int 4 0),(.int 0 0),(.ref 33),(.int 6 0),(.int 0 0),(.ref 45),(.int 8 0),(.int 0 0),(.ref 57),(.int 10 0),(.int 0 0),(.ref 69),(.int 12 0),(.int 0 0),(.ref 81)]),#[]⟩
def Pz:OO:=fun _=>⟨(.type "tuple"),none,(.seq #[(.type "ValueError")] 0),#[]⟩
def Pk:OO:=fun P=>s5 P 196 "lidprice.errors" 187 198 "LidError" 197 200 2 199 201 22
def Qv:OO:=fun _=>s2 "LidError" 191 192 193 2 18 19 194 195
def PX:OO:=fun _=>s3 20 17 "lidprice.errors" 187
def Om:OO:=fun P=>s6 P 196 200 2 199 "__static_attributes__" 201 22 "__weakref__" 203 25 204 3
def Qc:OO:=fun _=>⟨(.type "type"),none,(.cls ⟨"LidError",[(.type "ValueError")],[(.ref 24),(.type "ValueError"),(.type "Exception"),(.type "BaseException"),(.type "object")],23,"LidError",true,[],[(.ref 37),(.ref 49),(.ref 61),(.ref 73),(.ref 85)],false,none,false⟩),#[(some (.ref 15)),none,(some (.str "LidError" 189)),(some (.str "LidError" 197)),(some (.builtin "ValueError.__new__")),(some (.bool true))]⟩
def Oo:OO:=fun _=>⟨(.type "getset_descriptor"),none,(.fields #[(.str "__weakref__" 202),(.ref 24),(.builtin "ExceptionGroup.__weakref__"),.none]),#[]⟩
def PJ:OO:=fun _=>s7 24
def Pn:OO:=fun _=>s8 24
def Qm:OO:=fun _=>s9 24
def QK:OO:=fun P=>s5 P 214 "lidprice.errors" 187 216 "NoTable" 215 218 4 217 219 35
def Ph:OO:=fun _=>s2 "NoTable" 209 210 211 4 31 32 212 213
def Q4:OO:=fun _=>s3 33 30 "lidprice.errors" 187
def Oh:OO:=fun P=>zP P 214 218 4 217 219 35 220
def Oj:OO:=fun _=>xZ "NoTable" 37 36 28 207 215
def PL:OO:=fun _=>s7 37
def Q7:OO:=fun _=>s8 37
def PN:OO:=fun _=>s9 24
def Ql:OO:=fun P=>s5 P 230 "lidprice.errors" 187 232 "NoBox" 231 234 6 233 235 47
def Qt:OO:=fun _=>s2 "NoBox" 225 226 227 6 43 44 228 229
def Qf:OO:=fun _=>s3 45 42 "lidprice.errors" 187
def Ot:OO:=fun P=>zP P 230 234 6 233 235 47 236
def Oe:OO:=fun _=>xZ "NoBox" 49 48 40 223 231
def QC:OO:=fun _=>s7 49
def Qa:OO:=fun _=>s8 49
def PQ:OO:=fun _=>s9 24
def QJ:OO:=fun P=>s5 P 246 "lidprice.errors" 187 248 "NoDeed" 247 250 8 249 251 59
def PK:OO:=fun _=>s2 "NoDeed" 241 242 243 8 55 56 244 245
def QF:OO:=fun _=>s3 57 54 "lidprice.errors" 187
def Ow:OO:=fun P=>zP P 246 250 8 249 251 59 252
def Oq:OO:=fun _=>xZ "NoDeed" 61 60 52 239 247
def Q0:OO:=fun _=>s7 61
def QG:OO:=fun _=>s8 61
def QD:OO:=fun _=>s9 24
def Pq:OO:=fun P=>s5 P 262 "lidprice.errors" 187 264 "NoSets" 263 266 10 265 267 71
def Q8:OO:=fun _=>s2 "NoSets" 257 258 259 10 67 68 260 261
def QB:OO:=fun _=>s3 69 66 "lidprice.errors" 187
def Od:OO:=fun P=>zP P 262 266 10 265 267 71 268
def Ov:OO:=fun _=>xZ "NoSets" 73 72 64 255 263
def Px:OO:=fun _=>s7 73
def P0:OO:=fun _=>s8 73
def Qo:OO:=fun _=>s9 24
def Qg:OO:=fun P=>s5 P 278 "lidprice.errors" 187 280 "NoOffers" 279 282 12 281 283 83
def QW:OO:=fun _=>s2 "NoOffers" 273 274 275 12 79 80 276 277
def Pa:OO:=fun _=>s3 81 78 "lidprice.errors" 187
def O7:OO:=fun P=>zP P 278 282 12 281 283 83 284
def Oc:OO:=fun _=>xZ "NoOffers" 85 84 76 271 279
def Qh:OO:=fun _=>s7 85
def QX:OO:=fun _=>s8 85
def M3:OO:=fun P=>⟨(.type "dict"),none,(.dict #[E P "__name__" 165 (.str "lidprice.errors" 187),E P "__doc__" 166 .none,E P "__package__" 167 .none,E P "__loader__" 168 (.builtin "__main__.__loader__#opaque"),E P "__spec__" 169 .none,E P "__annotations__" 170 (.ref 6),E P "__builtins__" 171 (.ref 4),E P "__file__" 173 (.str "/claim/cut.py" 172),E P "__cached__" 174 .none,E P "LidError" 206 (.ref 24),E P "NoTable" 222 (.ref 37),E P "NoBox" 238 (.ref 49),E P "NoDeed" 254 (.ref 61),E P "NoSets" 270 (.ref 73),E P "NoOffers" 286 (.ref 85),E P "NoRule" 302 (.ref 97),E P "NoRanks" 318 (.ref 109),E P "NoText" 334 (.ref 121),E P "NoPattern" 361 (.ref 140),E P "NoPlan" 386 (.ref 159),E P "TooMany" 411 (.ref 178)] 21),#[]⟩
def Fv:OO:=fun _=>⟨.none,none,(.fields #[(.int 2 0),(.int 0 0),(.ref 20),(.int 4 0),(.int 0 0),(.ref 33),(.int 6 0),(.int 0 0),(.ref 45),(.int 8 0),(.int 0 0),(.ref 57),(.int 10 0),(.int 0 0),(.ref 69),(.int 12 0),(.int 0 0),(.ref 81),(.int 14 0),(.int 0 0),(.ref 93),(.int 16 0),(.int 0 0),(.ref 105),(.int 18 0),(.int 0 0),(.ref 117),(.int 20 0),(.int 0 0),(.ref 129),(.int 25 0),(.int 0 0),(.ref 148),(.int 29 0),(.int 0 0),(.ref 167)]),#[]⟩
def Bl:OO:=fun _=>⟨(.type "type"),none,(.cls ⟨"LidError",[(.type "ValueError")],[(.ref 24),(.type "ValueError"),(.type "Exception"),(.type "BaseException"),(.type "object")],23,"LidError",true,[],[(.ref 37),(.ref 49),(.ref 61),(.ref 73),(.ref 85),(.ref 97),(.ref 109),(.ref 121),(.ref 140),(.ref 159),(.ref 178)],false,none,false⟩),#[(some (.ref 15)),none,(some (.str "LidError" 189)),(some (.str "LidError" 197)),(some (.builtin "ValueError.__new__")),(some (.bool true))]⟩
def Q3:OO:=fun _=>s9 24
def Qn:OO:=fun P=>s5 P 294 "lidprice.errors" 187 296 "NoRule" 295 298 14 297 299 95
def Qq:OO:=fun _=>s2 "NoRule" 289 290 291 14 91 92 292 293
def Pr:OO:=fun _=>s3 93 90 "lidprice.errors" 187
def Oa:OO:=fun P=>zP P 294 298 14 297 299 95 300
def O8:OO:=fun _=>xZ "NoRule" 97 96 88 287 295
def Pg:OO:=fun _=>s7 97
def QH:OO:=fun _=>s8 97
def Ls:OO:=fun _=>s9 24
def KR:OO:=fun P=>s5 P 310 "lidprice.errors" 187 312 "NoRanks" 311 314 16 313 315 107
def Jj:OO:=fun _=>s2 "NoRanks" 305 306 307 16 103 104 308 309
def LK:OO:=fun _=>s3 105 102 "lidprice.errors" 187
def HQ:OO:=fun P=>zP P 310 314 16 313 315 107 316
def Ie:OO:=fun _=>xZ "NoRanks" 109 108 100 303 311
def Ks:OO:=fun _=>s7 109
def Jl:OO:=fun _=>s8 109
def Lg:OO:=fun _=>s9 24
def Nz:OO:=fun P=>s5 P 326 "lidprice.errors" 187 328 "NoText" 327 330 18 329 331 119
def Nh:OO:=fun _=>s2 "NoText" 321 322 323 18 115 116 324 325
def K6:OO:=fun _=>s3 117 114 "lidprice.errors" 187
def FP:OO:=fun P=>zP P 326 330 18 329 331 119 332
def Fg:OO:=fun _=>xZ "NoText" 121 120 112 319 327
def Jk:OO:=fun _=>s7 121
def Np:OO:=fun _=>s8 121
def Lz:OO:=fun _=>s9 24
def KD:OO:=fun P=>⟨(.type "dict"),none,(.dict #[E P "__module__" 342 (.str "lidprice.errors" 187),E P "__qualname__" 344 (.str "NoPattern" 343),E P "__firstlineno__" 346 (.int 20 345),E P "__init__" 355 (.ref 137),E P "__static_attributes__" 358 (.ref 138)] 5),#[]⟩
def Mp:OO:=fun _=>⟨.none,none,(.fields #[(.int 22 0),(.int 4 0),(.ref 136)]),#[]⟩
def O2:OO:=fun _=>s2 "NoPattern" 337 338 339 20 127 128 340 341
def K9:OO:=fun _=>s3 129 126 "lidprice.errors" 187
def Ny:OO:=fun _=>lW "self" 350 "one" 351 "other" 352
def O5:OO:=fun _=>fU "__init__" "NoPattern.__init__" (inClass (top 10) 0)
def Fd:OO:=fun _=>jW "__init__" 347 "NoPattern.__init__" 348 349 22 3 131 132 133 134 135 353 354
def Fb:OO:=fun _=>fY "__init__" "NoPattern.__init__" (inClass (top 10) 0) "lidprice.errors" 187 136
def Mt:OO:=fun _=>zV "one" 356 "other" 357
def HF:OO:=fun P=>s6 P 342 346 20 345 "__init__" 355 137 "__static_attributes__" 358 138 359 2
def Et:OO:=fun _=>xZ "NoPattern" 140 139 124 335 343
def Ly:OO:=fun _=>s7 140
def Ms:OO:=fun _=>s8 140
def OD:OO:=fun _=>s9 24
def Mw:OO:=fun P=>⟨(.type "dict"),none,(.dict #[E P "__module__" 369 (.str "lidprice.errors" 187),E P "__qualname__" 371 (.str "NoPlan" 370),E P "__firstlineno__" 373 (.int 25 372),E P "__init__" 381 (.ref 156),E P "__static_attributes__" 383 (.ref 157)] 5),#[]⟩
def NT:OO:=fun _=>⟨.none,none,(.fields #[(.int 27 0),(.int 4 0),(.ref 155)]),#[]⟩
def Ky:OO:=fun _=>s2 "NoPlan" 364 365 366 25 146 147 367 368
def My:OO:=fun _=>s3 148 145 "lidprice.errors" 187
def Ju:OO:=fun _=>zV "self" 377 "way" 378
def OJ:OO:=fun _=>fU "__init__" "NoPlan.__init__" (inClass (top 11) 0)
def Gh:OO:=fun _=>jW "__init__" 374 "NoPlan.__init__" 375 376 27 2 150 151 152 153 154 379 380
def HS:OO:=fun _=>fY "__init__" "NoPlan.__init__" (inClass (top 11) 0) "lidprice.errors" 187 155
def JS:OO:=fun _=>Aa "way" 382
def Fx:OO:=fun P=>s6 P 369 373 25 372 "__init__" 381 156 "__static_attributes__" 383 157 384 2
def Gi:OO:=fun _=>xZ "NoPlan" 159 158 143 362 370
def Kh:OO:=fun _=>s7 159
def NB:OO:=fun _=>s8 159
def J8:OO:=fun _=>s9 24
def Kd:OO:=fun P=>⟨(.type "dict"),none,(.dict #[E P "__module__" 394 (.str "lidprice.errors" 187),E P "__qualname__" 396 (.str "TooMany" 395),E P "__firstlineno__" 398 (.int 29 397),E P "__init__" 406 (.ref 175),E P "__static_attributes__" 408 (.ref 176)] 5),#[]⟩
def Kl:OO:=fun _=>⟨.none,none,(.fields #[(.int 31 0),(.int 4 0),(.ref 174)]),#[]⟩
def Mh:OO:=fun _=>s2 "TooMany" 389 390 391 29 165 166 392 393
def LR:OO:=fun _=>s3 167 164 "lidprice.errors" 187
def J2:OO:=fun _=>zV "self" 402 "many" 403
def Nq:OO:=fun _=>fU "__init__" "TooMany.__init__" (inClass (top 12) 0)
def Fi:OO:=fun _=>jW "__init__" 399 "TooMany.__init__" 400 401 31 2 169 170 171 172 173 404 405
def Hz:OO:=fun _=>fY "__init__" "TooMany.__init__" (inClass (top 12) 0) "lidprice.errors" 187 174
def Nb:OO:=fun _=>Aa "many" 407
def Hx:OO:=fun P=>s6 P 394 398 29 397 "__init__" 406 175 "__static_attributes__" 408 176 409 2
def Hm:OO:=fun _=>xZ "TooMany" 178 177 162 387 395
def O3:OO:=fun _=>s7 178
def Mu:OO:=fun _=>s8 178
def K8:OO:=fun P=>⟨(.type "dict"),none,(.dict #[E P "__name__" 165 (.str "lidprice.patterns" 425),E P "__doc__" 166 .none,E P "__package__" 167 .none,E P "__loader__" 168 (.builtin "__main__.__loader__#opaque"),E P "__spec__" 169 .none,E P "__annotations__" 170 (.ref 6),E P "__builtins__" 171 (.ref 4),E P "__file__" 173 (.str "/claim/cut.py" 172),E P "__cached__" 174 .none,E P "LidError" 206 (.ref 24),E P "NoTable" 222 (.ref 37),E P "NoBox" 238 (.ref 49),E P "NoDeed" 254 (.ref 61),E P "NoSets" 270 (.ref 73),E P "NoOffers" 286 (.ref 85),E P "NoRule" 302 (.ref 97),E P "NoRanks" 318 (.ref 109),E P "NoText" 334 (.ref 121),E P "NoPattern" 361 (.ref 140),E P "NoPlan" 386 (.ref 159),E P "TooMany" 411 (.ref 178),E P "is_whole" 422 (.ref 187),E P "MOST_BOXES" 424 (.int 6 423),E P "MOST_SETS" 428 (.int 64 427),E P "has_box" 436 (.ref 194),E P "boxes_of" 442 (.ref 199),E P "size_of" 449 (.ref 206),E P "with_box" 457 (.ref 213),E P "is_numbers" 463 (.ref 218),E P "Pattern" 483 (.ref 228),E P "Few" 523 (.ref 263),E P "Groups" 563 (.ref 294),E P "Listed" 603 (.ref 327)] 33),#[]⟩
def JG:OO:=fun _=>⟨.none,none,(.fields #[(.int 2 0),(.int 0 0),(.ref 20),(.int 4 0),(.int 0 0),(.ref 33),(.int 6 0),(.int 0 0),(.ref 45),(.int 8 0),(.int 0 0),(.ref 57),(.int 10 0),(.int 0 0),(.ref 69),(.int 12 0),(.int 0 0),(.ref 81),(.int 14 0),(.int 0 0),(.ref 93),(.int 16 0),(.int 0 0),(.ref 105),(.int 18 0),(.int 0 0),(.ref 117),(.int 20 0),(.int 0 0),(.ref 129),(.int 25 0),(.int 0 0),(.ref 148),(.int 29 0),(.int 0 0),(.ref 167),(.int 34 0),(.int 0 0),(.ref 186),(.int 39 0),(.int 0 0),(.ref 193),(.int 41 0),(.int 0 0),(.ref 198),(.int 43 0),(.int 0 0),(.ref 205),(.int 45 0),(.int 0 0),(.ref 212),(.int 47 0),(.int 0 0),(.ref 217),(.int 51 0),(.int 0 0),(.ref 224),(.int 53 0),(.int 0 0),(.ref 238),(.int 65 0),(.int 0 0),(.ref 271),(.int 84 0),(.int 0 0),(.ref 302)]),#[]⟩
def Jb:OO:=fun _=>lW "thing" 417 "least" 418 "most" 419
def K1:OO:=fun _=>fU "is_whole" "is_whole" (top 14)
def Hc:OO:=fun _=>jW "is_whole" 414 "is_whole" 415 416 34 3 181 182 183 184 185 420 421
def Ib:OO:=fun _=>fY "is_whole" "is_whole" (top 14) "lidprice.shares" 412 186
def Jt:OO:=fun _=>zV "kept" 432 "box" 433
def JR:OO:=fun _=>fU "has_box" "has_box" (top 18)
def Gy:OO:=fun _=>jW "has_box" 429 "has_box" 430 431 39 2 188 189 190 191 192 434 435
def JF:OO:=fun _=>fY "has_box" "has_box" (top 18) "lidprice.patterns" 425 193
def Mi:OO:=fun _=>fU "boxes_of" "boxes_of" (top 19)
def En:OO:=fun _=>Dr "boxes_of" 437 "boxes_of" 438 439 41 1 195 196 197 440 441
def Ft:OO:=fun _=>fY "boxes_of" "boxes_of" (top 19) "lidprice.patterns" 425 198
def JZ:OO:=fun _=>Aa "kept" 446
def O6:OO:=fun _=>fU "size_of" "size_of" (top 20)
def Gg:OO:=fun _=>jW "size_of" 443 "size_of" 444 445 43 1 200 201 202 203 204 447 448
def Fl:OO:=fun _=>fY "size_of" "size_of" (top 20) "lidprice.patterns" 425 205
def Ku:OO:=fun _=>zV "kept" 453 "box" 454
def Nt:OO:=fun _=>fU "with_box" "with_box" (top 21)
def Hs:OO:=fun _=>jW "with_box" 450 "with_box" 451 452 45 2 207 208 209 210 211 455 456
def Gr:OO:=fun _=>fY "with_box" "with_box" (top 21) "lidprice.patterns" 425 212
def Ln:OO:=fun _=>fU "is_numbers" "is_numbers" (top 22)
def Ff:OO:=fun _=>Dr "is_numbers" 458 "is_numbers" 459 460 47 4 214 215 216 461 462
def Ga:OO:=fun _=>fY "is_numbers" "is_numbers" (top 22) "lidprice.patterns" 425 217
def Kr:OO:=fun P=>s5 P 471 "lidprice.patterns" 425 473 "Pattern" 472 475 51 474 476 226
def MK:OO:=fun _=>s2 "Pattern" 466 467 468 51 222 223 469 470
def Ko:OO:=fun _=>s3 224 221 "lidprice.patterns" 425
def Gp:OO:=fun P=>⟨(.type "dict"),none,(.dict #[E P "__module__" 471 (.str "lidprice.patterns" 425),E P "__firstlineno__" 475 (.int 51 474),E P "__static_attributes__" 476 (.ref 226),E P "__dict__" 478 (.ref 229),E P "__weakref__" 480 (.ref 230),E P "__doc__" 481 .none] 4),#[]⟩
def Ia:OO:=fun _=>⟨(.type "type"),none,(.cls ⟨"Pattern",[(.type "object")],[(.ref 228),(.type "object")],227,"Pattern",true,[],[(.ref 263),(.ref 294),(.ref 327)],false,none,false⟩),#[none,none,(some (.str "Pattern" 464)),(some (.str "Pattern" 472)),(some (.builtin "object.__new__")),(some (.bool true))]⟩
def Fw:OO:=fun _=>⟨(.type "getset_descriptor"),none,(.fields #[(.str "__dict__" 477),(.ref 228),(.builtin "function.__dict__"),(.builtin "function.__dict__#set")]),#[]⟩
def Ho:OO:=fun _=>⟨(.type "getset_descriptor"),none,(.fields #[(.str "__weakref__" 479),(.ref 228),(.builtin "ExceptionGroup.__weakref__"),.none]),#[]⟩
def O4:OO:=fun _=>s7 228
def Jd:OO:=fun _=>s8 228
def Ji:OO:=fun _=>s9 228
def Ma:OO:=fun P=>⟨(.type "dict"),none,(.dict #[E P "__module__" 491 (.str "lidprice.patterns" 425),E P "__qualname__" 493 (.str "Few" 492),E P "__firstlineno__" 495 (.int 53 494),E P "__init__" 503 (.ref 246),E P "may" 511 (.ref 253),E P "told" 518 (.ref 260),E P "__static_attributes__" 520 (.ref 261)] 7),#[]⟩
def Jf:OO:=fun _=>⟨.none,none,(.fields #[(.int 55 0),(.int 4 0),(.ref 245),(.int 60 0),(.int 4 0),(.ref 252),(.int 63 0),(.int 4 0),(.ref 259)]),#[]⟩
def Jx:OO:=fun _=>s2 "Few" 486 487 488 53 236 237 489 490
def Lq:OO:=fun _=>s3 238 235 "lidprice.patterns" 425
def Nv:OO:=fun _=>zV "self" 499 "count" 500
def Mm:OO:=fun _=>fU "__init__" "Few.__init__" (inClass (top 24) 0)
def Ek:OO:=fun _=>jW "__init__" 496 "Few.__init__" 497 498 55 2 240 241 242 243 244 501 502
def Er:OO:=fun _=>fY "__init__" "Few.__init__" (inClass (top 24) 0) "lidprice.patterns" 425 245
def Nj:OO:=fun _=>zV "self" 507 "kept" 508
def N7:OO:=fun _=>fU "may" "Few.may" (inClass (top 24) 1)
def GK:OO:=fun _=>jW "may" 504 "Few.may" 505 506 60 2 247 248 249 250 251 509 510
def Gd:OO:=fun _=>fY "may" "Few.may" (inClass (top 24) 1) "lidprice.patterns" 425 252
def Mg:OO:=fun _=>Aa "self" 515
def Nk:OO:=fun _=>fU "told" "Few.told" (inClass (top 24) 2)
def Hq:OO:=fun _=>jW "told" 512 "Few.told" 513 514 63 1 254 255 256 257 258 516 517
def Fp:OO:=fun _=>fY "told" "Few.told" (inClass (top 24) 2) "lidprice.patterns" 425 259
def Kc:OO:=fun _=>Aa "limit" 519
def FT:OO:=fun P=>⟨(.type "dict"),none,(.dict #[E P "__module__" 491 (.str "lidprice.patterns" 425),E P "__firstlineno__" 495 (.int 53 494),E P "__init__" 503 (.ref 246),E P "may" 511 (.ref 253),E P "told" 518 (.ref 260),E P "__static_attributes__" 520 (.ref 261),E P "__doc__" 521 .none] 2),#[]⟩
def Iv:OO:=fun _=>⟨(.type "type"),none,(.cls ⟨"Few",[(.ref 228)],[(.ref 263),(.ref 228),(.type "object")],262,"Few",true,[],[],false,none,false⟩),#[(some (.ref 233)),none,(some (.str "Few" 484)),(some (.str "Few" 492)),(some (.builtin "object.__new__")),(some (.bool true))]⟩
def Km:OO:=fun _=>s7 263
def Mz:OO:=fun _=>s8 263
def KN:OO:=fun _=>s9 228
def La:OO:=fun P=>⟨(.type "dict"),none,(.dict #[E P "__module__" 531 (.str "lidprice.patterns" 425),E P "__qualname__" 533 (.str "Groups" 532),E P "__firstlineno__" 535 (.int 65 534),E P "__init__" 544 (.ref 279),E P "may" 550 (.ref 284),E P "told" 557 (.ref 291),E P "__static_attributes__" 560 (.ref 292)] 7),#[]⟩
def Jm:OO:=fun _=>⟨.none,none,(.fields #[(.int 67 0),(.int 4 0),(.ref 278),(.int 75 0),(.int 4 0),(.ref 283),(.int 82 0),(.int 4 0),(.ref 290)]),#[]⟩
def Ja:OO:=fun _=>s2 "Groups" 526 527 528 65 269 270 529 530
def Jy:OO:=fun _=>s3 271 268 "lidprice.patterns" 425
def M8:OO:=fun _=>lW "self" 539 "groups" 540 "most" 541
def KY:OO:=fun _=>fU "__init__" "Groups.__init__" (inClass (top 25) 0)
def Ep:OO:=fun _=>jW "__init__" 536 "Groups.__init__" 537 538 67 3 273 274 275 276 277 542 543
def IK:OO:=fun _=>fY "__init__" "Groups.__init__" (inClass (top 25) 0) "lidprice.patterns" 425 278
def JX:OO:=fun _=>fU "may" "Groups.may" (inClass (top 25) 1)
def Gq:OO:=fun _=>Dr "may" 545 "Groups.may" 546 547 75 2 280 281 282 548 549
def Hw:OO:=fun _=>fY "may" "Groups.may" (inClass (top 25) 1) "lidprice.patterns" 425 283
def Js:OO:=fun _=>Aa "self" 554
def JT:OO:=fun _=>fU "told" "Groups.told" (inClass (top 25) 2)
def Hv:OO:=fun _=>jW "told" 551 "Groups.told" 552 553 82 1 285 286 287 288 289 555 556
def Hu:OO:=fun _=>fY "told" "Groups.told" (inClass (top 25) 2) "lidprice.patterns" 425 290
def J4:OO:=fun _=>zV "groups" 558 "most" 559
def Eu:OO:=fun P=>⟨(.type "dict"),none,(.dict #[E P "__module__" 531 (.str "lidprice.patterns" 425),E P "__firstlineno__" 535 (.int 65 534),E P "__init__" 544 (.ref 279),E P "may" 550 (.ref 284),E P "told" 557 (.ref 291),E P "__static_attributes__" 560 (.ref 292),E P "__doc__" 561 .none] 2),#[]⟩
def JB:OO:=fun _=>⟨(.type "type"),none,(.cls ⟨"Groups",[(.ref 228)],[(.ref 294),(.ref 228),(.type "object")],293,"Groups",true,[],[],false,none,false⟩),#[(some (.ref 266)),none,(some (.str "Groups" 524)),(some (.str "Groups" 532)),(some (.builtin "object.__new__")),(some (.bool true))]⟩
def Kz:OO:=fun _=>s7 294
def MP:OO:=fun _=>s8 294
def Kf:OO:=fun _=>s9 228
def JW:OO:=fun P=>⟨(.type "dict"),none,(.dict #[E P "__module__" 571 (.str "lidprice.patterns" 425),E P "__qualname__" 573 (.str "Listed" 572),E P "__firstlineno__" 575 (.int 84 574),E P "__init__" 583 (.ref 310),E P "may" 591 (.ref 317),E P "told" 598 (.ref 324),E P "__static_attributes__" 600 (.ref 325)] 7),#[]⟩
def Lp:OO:=fun _=>⟨.none,none,(.fields #[(.int 86 0),(.int 4 0),(.ref 309),(.int 91 0),(.int 4 0),(.ref 316),(.int 94 0),(.int 4 0),(.ref 323)]),#[]⟩
def Nx:OO:=fun _=>s2 "Listed" 566 567 568 84 300 301 569 570
def JV:OO:=fun _=>s3 302 299 "lidprice.patterns" 425
def M7:OO:=fun _=>zV "self" 579 "sets" 580
def Nu:OO:=fun _=>fU "__init__" "Listed.__init__" (inClass (top 26) 0)
def Hn:OO:=fun _=>jW "__init__" 576 "Listed.__init__" 577 578 86 2 304 305 306 307 308 581 582
def Gs:OO:=fun _=>fY "__init__" "Listed.__init__" (inClass (top 26) 0) "lidprice.patterns" 425 309
def Jc:OO:=fun _=>zV "self" 587 "kept" 588
def MT:OO:=fun _=>fU "may" "Listed.may" (inClass (top 26) 1)
def Hl:OO:=fun _=>jW "may" 584 "Listed.may" 585 586 91 2 311 312 313 314 315 589 590
def GP:OO:=fun _=>fY "may" "Listed.may" (inClass (top 26) 1) "lidprice.patterns" 425 316
def Mf:OO:=fun _=>Aa "self" 595
def NK:OO:=fun _=>fU "told" "Listed.told" (inClass (top 26) 2)
def Ex:OO:=fun _=>jW "told" 592 "Listed.told" 593 594 94 1 318 319 320 321 322 596 597
def Gj:OO:=fun _=>fY "told" "Listed.told" (inClass (top 26) 2) "lidprice.patterns" 425 323
def Ke:OO:=fun _=>Aa "sets" 599
def Ij:OO:=fun P=>⟨(.type "dict"),none,(.dict #[E P "__module__" 571 (.str "lidprice.patterns" 425),E P "__firstlineno__" 575 (.int 84 574),E P "__init__" 583 (.ref 310),E P "may" 591 (.ref 317),E P "told" 598 (.ref 324),E P "__static_attributes__" 600 (.ref 325),E P "__doc__" 601 .none] 2),#[]⟩
def GD:OO:=fun _=>⟨(.type "type"),none,(.cls ⟨"Listed",[(.ref 228)],[(.ref 327),(.ref 228),(.type "object")],326,"Listed",true,[],[],false,none,false⟩),#[(some (.ref 297)),none,(some (.str "Listed" 564)),(some (.str "Listed" 572)),(some (.builtin "object.__new__")),(some (.bool true))]⟩
def Jh:OO:=fun _=>s7 327
def J0:OO:=fun _=>s8 327
def Hi:OO:=fun P=>⟨(.type "dict"),none,(.dict #[E P "__name__" 165 (.str "law_lidprice_k35_patterns_refused" 659),E P "__doc__" 166 .none,E P "__package__" 167 .none,E P "__loader__" 168 (.builtin "__main__.__loader__#opaque"),E P "__spec__" 169 .none,E P "__annotations__" 170 (.ref 6),E P "__builtins__" 171 (.ref 4),E P "__file__" 173 (.str "/claim/cut.py" 172),E P "__cached__" 174 .none,E P "LidError" 206 (.ref 24),E P "NoTable" 222 (.ref 37),E P "NoBox" 238 (.ref 49),E P "NoDeed" 254 (.ref 61),E P "NoSets" 270 (.ref 73),E P "NoOffers" 286 (.ref 85),E P "NoRule" 302 (.ref 97),E P "NoRanks" 318 (.ref 109),E P "NoText" 334 (.ref 121),E P "NoPattern" 361 (.ref 140),E P "NoPlan" 386 (.ref 159),E P "TooMany" 411 (.ref 178),E P "is_whole" 422 (.ref 187),E P "MOST_BOXES" 424 (.int 6 423),E P "MOST_SETS" 428 (.int 64 427),E P "has_box" 436 (.ref 194),E P "boxes_of" 442 (.ref 199),E P "size_of" 449 (.ref 206),E P "with_box" 457 (.ref 213),E P "is_numbers" 463 (.ref 218),E P "Pattern" 483 (.ref 228),E P "Few" 523 (.ref 263),E P "Groups" 563 (.ref 294),E P "Listed" 603 (.ref 327),E P "is_pattern" 610 (.ref 336),E P "less_flaw" 620 (.ref 343),E P "can_grow" 626 (.ref 348),E P "sets_by_size" 632 (.ref 353),E P "more_flaw" 643 (.ref 360),E P "flaw" 649 (.ref 365),E P "need_pattern" 658 (.ref 372),E P "_law_cell_at" 669 (.ref 379),E P "_law_many" 679 (.ref 386),E P "_law_thing" 688 (.ref 393),E P "_law_spoilt" 698 (.ref 400),E P "_law_tried" 704 (.ref 405),E P "_law_refused" 715 (.ref 412),E P "_law_flawed" 725 (.ref 419),E P "law" 734 (.ref 426)] 48),#[]⟩
def FQ:OO:=fun _=>⟨.none,none,(.fields #[(.int 2 0),(.int 0 0),(.ref 20),(.int 4 0),(.int 0 0),(.ref 33),(.int 6 0),(.int 0 0),(.ref 45),(.int 8 0),(.int 0 0),(.ref 57),(.int 10 0),(.int 0 0),(.ref 69),(.int 12 0),(.int 0 0),(.ref 81),(.int 14 0),(.int 0 0),(.ref 93),(.int 16 0),(.int 0 0),(.ref 105),(.int 18 0),(.int 0 0),(.ref 117),(.int 20 0),(.int 0 0),(.ref 129),(.int 25 0),(.int 0 0),(.ref 148),(.int 29 0),(.int 0 0),(.ref 167),(.int 34 0),(.int 0 0),(.ref 186),(.int 39 0),(.int 0 0),(.ref 193),(.int 41 0),(.int 0 0),(.ref 198),(.int 43 0),(.int 0 0),(.ref 205),(.int 45 0),(.int 0 0),(.ref 212),(.int 47 0),(.int 0 0),(.ref 217),(.int 51 0),(.int 0 0),(.ref 224),(.int 53 0),(.int 0 0),(.ref 238),(.int 65 0),(.int 0 0),(.ref 271),(.int 84 0),(.int 0 0),(.ref 302),(.int 96 0),(.int 0 0),(.ref 335),(.int 98 0),(.int 0 0),(.ref 342),(.int 105 0),(.int 0 0),(.ref 347),(.int 107 0),(.int 0 0),(.ref 352),(.int 113 0),(.int 0 0),(.ref 359),(.int 121 0),(.int 0 0),(.ref 364),(.int 127 0),(.int 0 0),(.ref 371),(.int 134 0),(.int 0 0),(.ref 378),(.int 141 0),(.int 0 0),(.ref 385),(.int 144 0),(.int 0 0),(.ref 392),(.int 147 0),(.int 0 0),(.ref 399),(.int 151 0),(.int 0 0),(.ref 404),(.int 168 0),(.int 0 0),(.ref 411),(.int 180 0),(.int 0 0),(.ref 418),(.int 189 0),(.int 0 0),(.ref 425)]),#[]⟩
def Kp:OO:=fun _=>Aa "thing" 607
def MJ:OO:=fun _=>fU "is_pattern" "is_pattern" (top 27)
def Iz:OO:=fun _=>jW "is_pattern" 604 "is_pattern" 605 606 96 1 330 331 332 333 334 608 609
def Gm:OO:=fun _=>fY "is_pattern" "is_pattern" (top 27) "lidprice.patterns" 425 335
def Lh:OO:=fun _=>JK "lets" 614 "one" 615 "box" 616 "other" 617
def Jr:OO:=fun _=>fU "less_flaw" "less_flaw" (top 28)
def Hy:OO:=fun _=>jW "less_flaw" 611 "less_flaw" 612 613 98 1 337 338 339 340 341 618 619
def FZ:OO:=fun _=>fY "less_flaw" "less_flaw" (top 28) "lidprice.patterns" 425 342
def Kv:OO:=fun _=>fU "can_grow" "can_grow" (top 29)
def Fz:OO:=fun _=>Dr "can_grow" 621 "can_grow" 622 623 105 3 344 345 346 624 625
def HW:OO:=fun _=>fY "can_grow" "can_grow" (top 29) "lidprice.patterns" 425 347
def Kq:OO:=fun _=>fU "sets_by_size" "sets_by_size" (top 30)
def Hj:OO:=fun _=>Dr "sets_by_size" 627 "sets_by_size" 628 629 107 1 349 350 351 630 631
def Hf:OO:=fun _=>fY "sets_by_size" "sets_by_size" (top 30) "lidprice.patterns" 425 352
def NZ:OO:=fun _=>⟨(.type "tuple"),none,(.seq #[(.str "lets" 636),(.str "by_size" 637),(.str "size" 638),(.str "other" 639),(.str "one" 640)] 0),#[]⟩
def K4:OO:=fun _=>fU "more_flaw" "more_flaw" (top 31)
def Ha:OO:=fun _=>jW "more_flaw" 633 "more_flaw" 634 635 113 1 354 355 356 357 358 641 642
def FW:OO:=fun _=>fY "more_flaw" "more_flaw" (top 31) "lidprice.patterns" 425 359
def Nf:OO:=fun _=>fU "flaw" "flaw" (top 32)
def Io:OO:=fun _=>Dr "flaw" 644 "flaw" 645 646 121 2 361 362 363 647 648
def Hr:OO:=fun _=>fY "flaw" "flaw" (top 32) "lidprice.patterns" 425 364
def Mx:OO:=fun _=>lW "pattern" 653 "many" 654 "found" 655
def K7:OO:=fun _=>fU "need_pattern" "need_pattern" (top 33)
def El:OO:=fun _=>jW "need_pattern" 650 "need_pattern" 651 652 127 2 366 367 368 369 370 656 657
def Eh:OO:=fun _=>fY "need_pattern" "need_pattern" (top 33) "lidprice.patterns" 425 371
def J1:OO:=fun _=>lW "_law_script" 664 "_law_k" 665 "_law_number" 666
def N6:OO:=fun _=>fU "_law_cell_at" "_law_cell_at" (top 35)
def HX:OO:=fun _=>jW "_law_cell_at" 661 "_law_cell_at" 662 663 134 2 373 374 375 376 377 667 668
def Gn:OO:=fun _=>fY "_law_cell_at" "_law_cell_at" (top 35) "law_lidprice_k35_patterns_refused" 659 378
def Lb:OO:=fun _=>JK "_law_script" 673 "_law_first" 674 "_law_most" 675 "_law_drawn" 676
def Li:OO:=fun _=>fU "_law_many" "_law_many" (top 36)
def FN:OO:=fun _=>jW "_law_many" 670 "_law_many" 671 672 141 3 380 381 382 383 384 677 678
def Ir:OO:=fun _=>fY "_law_many" "_law_many" (top 36) "law_lidprice_k35_patterns_refused" 659 385
def Jq:OO:=fun _=>lW "_law_cell" 683 "_law_high" 684 "_law_some" 685
def Jg:OO:=fun _=>fU "_law_thing" "_law_thing" (top 37)
def Es:OO:=fun _=>jW "_law_thing" 680 "_law_thing" 681 682 144 2 387 388 389 390 391 686 687
def Gv:OO:=fun _=>fY "_law_thing" "_law_thing" (top 37) "law_lidprice_k35_patterns_refused" 659 392
def Ka:OO:=fun _=>JK "_law_numbers" 692 "_law_cell" 693 "_law_high" 694 "_law_spoilt_here" 695
def Jv:OO:=fun _=>fU "_law_spoilt" "_law_spoilt" (top 38)
def Fj:OO:=fun _=>jW "_law_spoilt" 689 "_law_spoilt" 690 691 147 3 394 395 396 397 398 696 697
def Fy:OO:=fun _=>fY "_law_spoilt" "_law_spoilt" (top 38) "law_lidprice_k35_patterns_refused" 659 399
def Kw:OO:=fun _=>fU "_law_tried" "_law_tried" (top 39)
def HY:OO:=fun _=>Dr "_law_tried" 699 "_law_tried" 700 701 151 2 401 402 403 702 703
def Hb:OO:=fun _=>fY "_law_tried" "_law_tried" (top 39) "law_lidprice_k35_patterns_refused" 659 404
def Jz:OO:=fun _=>⟨(.type "tuple"),none,(.seq #[(.str "_law_way" 708),(.str "_law_cell" 709),(.str "_law_caught" 710),(.str "e" 711),(.str "_law_others" 712)] 0),#[]⟩
def Mv:OO:=fun _=>fU "_law_refused" "_law_refused" (top 40)
def JD:OO:=fun _=>jW "_law_refused" 705 "_law_refused" 706 707 168 2 406 407 408 409 410 713 714
def Ey:OO:=fun _=>fY "_law_refused" "_law_refused" (top 40) "law_lidprice_k35_patterns_refused" 659 411
def KH:OO:=fun _=>JK "_law_cell" 719 "_law_one" 720 "_law_other" 721 "e" 722
def Lw:OO:=fun _=>fU "_law_flawed" "_law_flawed" (top 41)
def IW:OO:=fun _=>jW "_law_flawed" 716 "_law_flawed" 717 718 180 1 413 414 415 416 417 723 724
def Im:OO:=fun _=>fY "_law_flawed" "_law_flawed" (top 41) "law_lidprice_k35_patterns_refused" 659 418
def O1:OO:=fun _=>lW "_law_script" 729 "_law_k" 730 "_law_cell" 731
def Kg:OO:=fun _=>fU "law" "law" (top 42)
def Gu:OO:=fun _=>jW "law" 726 "law" 727 728 189 1 420 421 422 423 424 732 733
def Fe:OO:=fun _=>fY "law" "law" (top 42) "law_lidprice_k35_patterns_refused" 659 425
def l0 (P:Params):List Obj:=W.boot_o_0 P::W.boot_o_1 P::W.boot_o_2 P::W.boot_o_3 P::W.boot_o_4 P::W.boot_o_5 P::W.boot_o_6 P::W.boot_o_7 P::W.boot_o_8 P::W.boot_o_9 P::W.boot_o_10 P::s0::s1::Q6 P::Qd P::[]
def t0 (P:Params):W.BT:=L2.bt 14 (l0 P)
def l1 (P:Params):List Obj:=L2.sets (l0 P) [(3,o3 P),(12,Ht P)]++(Pz P::s4::Pk P::s0::s1::Qv P::PX P::s0::Om P::Qc P::Oo P::PJ P::Pn P::Qm P::s4::QK P::s0::s1::Ph P::Q4 P::s0::Oh P::Oj P::PL P::Q7 P::PN P::s4::Ql P::s0::s1::Qt P::Qf P::s0::Ot P::Oe P::QC P::Qa P::PQ P::s4::QJ P::s0::s1::PK P::QF P::s0::Ow P::Oq P::Q0 P::QG P::QD P::s4::Pq P::s0::s1::Q8 P::QB P::s0::Od P::Ov P::Px P::P0 P::Qo P::s4::Qg P::s0::s1::QW P::Pa P::s0::O7 P::Oc P::Qh P::QX P::[])
def t1 (P:Params):W.BT:=L2.bt 14 (l1 P)
def l2 (P:Params):List Obj:=L2.sets (l1 P) [(3,M3 P),(12,Fv P),(24,Bl P)]++(Q3 P::s4::Qn P::s0::s1::Qq P::Pr P::s0::Oa P::O8 P::Pg P::QH P::Ls P::s4::KR P::s0::s1::Jj P::LK P::s0::HQ P::Ie P::Ks P::Jl P::Lg P::s4::Nz P::s0::s1::Nh P::K6 P::s0::FP P::Fg P::Jk P::Np P::Lz P::s4::KD P::s0::Mp P::O2 P::K9 P::s0::s1::Ny P::s0::O5 P::Fd P::Fb P::Mt P::HF P::Et P::Ly P::Ms P::OD P::s4::Mw P::s0::NT P::Ky P::My P::s0::s1::Ju P::s0::OJ P::Gh P::HS P::JS P::Fx P::Gi P::Kh P::NB P::J8 P::s4::Kd P::s0::Kl P::Mh P::LR P::s0::s1::J2 P::s0::Nq P::Fi P::Hz P::Nb P::Hx P::Hm P::O3 P::Mu P::[])
def t2 (P:Params):W.BT:=L2.bt 14 (l2 P)
def l3 (P:Params):List Obj:=L2.sets (l2 P) [(3,K8 P),(12,JG P)]++(s0::s1::Jb P::s0::K1 P::Hc P::Ib P::s0::s1::Jt P::s0::JR P::Gy P::JF P::s0::s1::Mi P::En P::Ft P::s0::s1::JZ P::s0::O6 P::Gg P::Fl P::s0::s1::Ku P::s0::Nt P::Hs P::Gr P::s0::s1::Ln P::Ff P::Ga P::s0::s4::Kr P::s0::s1::MK P::Ko P::s0::Gp P::Ia P::Fw P::Ho P::O4 P::Jd P::Ji P::s4::Ma P::s0::Jf P::Jx P::Lq P::s0::s1::Nv P::s0::Mm P::Ek P::Er P::s0::s1::Nj P::s0::N7 P::GK P::Gd P::s0::s1::Mg P::s0::Nk P::Hq P::Fp P::Kc P::FT P::Iv P::Km P::Mz P::KN P::s4::La P::s0::Jm P::Ja P::Jy P::s0::s1::M8 P::s0::KY P::Ep P::IK P::s0::s1::JX P::Gq P::Hw P::s0::s1::Js P::s0::JT P::Hv P::Hu P::J4 P::Eu P::JB P::Kz P::MP P::Kf P::s4::JW P::s0::Lp P::Nx P::JV P::s0::s1::M7 P::s0::Nu P::Hn P::Gs P::s0::s1::Jc P::s0::MT P::Hl P::GP P::s0::s1::Mf P::s0::NK P::Ex P::Gj P::Ke P::Ij P::GD P::Jh P::J0 P::[])
def t3 (P:Params):W.BT:=L2.bt 14 (l3 P)
def l4 (P:Params):List Obj:=L2.sets (l3 P) [(3,Hi P),(12,FQ P)]++(s0::s1::Kp P::s0::MJ P::Iz P::Gm P::s0::s1::Lh P::s0::Jr P::Hy P::FZ P::s0::s1::Kv P::Fz P::HW P::s0::s1::Kq P::Hj P::Hf P::s0::s1::NZ P::s0::K4 P::Ha P::FW P::s0::s1::Nf P::Io P::Hr P::s0::s1::Mx P::s0::K7 P::El P::Eh P::s0::s1::J1 P::s0::N6 P::HX P::Gn P::s0::s1::Lb P::s0::Li P::FN P::Ir P::s0::s1::Jq P::s0::Jg P::Es P::Gv P::s0::s1::Ka P::s0::Jv P::Fj P::Fy P::s0::s1::Kw P::HY P::Hb P::s0::s1::Jz P::s0::Mv P::JD P::Ey P::s0::s1::KH P::s0::Lw P::IW P::Im P::s0::s1::O1 P::s0::Kg P::Gu P::Fe P::[])
def t4 (P:Params):W.BT:=L2.bt 14 (l4 P)
def qD:Env:={ scope:=PySem.Challenge.pw_lidprice_k35_patterns_refused.main.scope,locals:=mainNs,globals:=mainNs,cells:=[],code:=(.ref 13),frame:=some 14 }
def g1:List Stmt:=[top 0,top 1,top 2,top 3,top 4,top 5,top 6]
def g2:List Stmt:=[top 7,top 8,top 9,top 10,top 11,top 12]
def g3:List Stmt:=[top 13,top 14,top 15,top 16,top 17,top 18,top 19,top 20,top 21,top 22,top 23,top 24,top 25,top 26]
def g4:List Stmt:=[top 27,top 28,top 29,top 30,top 31,top 32,top 33,top 34,top 35,top 36,top 37,top 38,top 39,top 40,top 41,top 42]
def gs:List Stmt:=g1++(g2++(g3++(g4++[])))
def eQ:Code:=.body gs qD
theorem Mq (w:World)(os:OsState):W.segRunT PySem.treeTable PySem.Challenge.pw_lidprice_k35_patterns_refused w 11 (some (.ref 6)) 1 1261 (qT (t0 w.params) 15 187 os) (W.piecesOf g1 qD eQ ⟨0,0,0,0⟩ [W.topFrame ⟨0,0,0,0⟩])=some (.next,qT (t1 w.params) 88 287 os,eQ,⟨12,0,13,8⟩):=by kernel_rfl
theorem LQ (w:World)(os:OsState):W.segRunT PySem.treeTable PySem.Challenge.pw_lidprice_k35_patterns_refused w 11 (some (.ref 6)) 1 1377 (qT (t1 w.params) 88 287 os) (W.piecesOf g2 qD eQ ⟨12,0,13,8⟩ [W.topFrame ⟨0,0,0,0⟩])=some (.next,qT (t2 w.params) 181 412 os,eQ,⟨29,0,32,24⟩):=by kernel_rfl
theorem Ld (w:World)(os:OsState):W.segRunT PySem.treeTable PySem.Challenge.pw_lidprice_k35_patterns_refused w 11 (some (.ref 6)) 1 1321 (qT (t2 w.params) 181 412 os) (W.piecesOf g3 qD eQ ⟨29,0,32,24⟩ [W.topFrame ⟨0,0,0,0⟩])=some (.next,qT (t3 w.params) 330 604 os,eQ,⟨84,0,95,36⟩):=by kernel_rfl
theorem M4 (w:World)(os:OsState):W.segRunT PySem.treeTable PySem.Challenge.pw_lidprice_k35_patterns_refused w 11 (some (.ref 6)) 1 461 (qT (t3 w.params) 330 604 os) (W.piecesOf g4 qD eQ ⟨84,0,95,36⟩ [W.topFrame ⟨0,0,0,0⟩])=some (.next,qT (t4 w.params) 427 735 os,eQ,⟨189,0,196,73⟩):=by kernel_rfl
theorem KQ (w:World)(os:OsState):W.topRun PySem.treeTable PySem.Challenge.pw_lidprice_k35_patterns_refused w 11 (some (.ref 6)) 2 (qT (t4 w.params) 427 735 os).abs (W.restOf [] qD eQ ⟨189,0,196,73⟩ [W.topFrame ⟨0,0,0,0⟩])=some (qT (t4 w.params) 427 735 os).abs:=by kernel_rfl
theorem K5 (w:World)(os:OsState):W.topGo PySem.treeTable PySem.Challenge.pw_lidprice_k35_patterns_refused w 11 (some (.ref 6)) 12 ⟨W.boot_heap w.params,Wl [],W.boot_drawn,W.boot_toks,os⟩ (W.topStub PySem.Challenge.pw_lidprice_k35_patterns_refused)=some ((qT (t0 w.params) 15 187 os).abs,⟨denote PySem.treeTable (.body gs qD),eQ,⟨0,0,0,0⟩,[W.topFrame ⟨0,0,0,0⟩]⟩):=by kernel_rfl
theorem KC (w:World)(os:OsState):W.segRun PySem.treeTable PySem.Challenge.pw_lidprice_k35_patterns_refused w 11 (some (.ref 6)) 1 1 (qT (t0 w.params) 15 187 os).abs (W.blockOf gs qD eQ ⟨0,0,0,0⟩ [W.topFrame ⟨0,0,0,0⟩])=some (.next,(qT (t0 w.params) 15 187 os).abs,eQ,⟨0,0,0,0⟩):=by kernel_rfl
def pD (P:Params):W.Frag :=
(nat_lit 2,W.boot_o_2 P) ::
(nat_lit 3,Hi P) ::
(nat_lit 23,Om P) ::
(nat_lit 24,Bl P) ::
(nat_lit 25,Oo P) ::
(nat_lit 36,Oh P) ::
(nat_lit 37,Oj P) ::
(nat_lit 48,Ot P) ::
(nat_lit 49,Oe P) ::
(nat_lit 60,Ow P) ::
(nat_lit 61,Oq P) ::
(nat_lit 72,Od P) ::
(nat_lit 73,Ov P) ::
(nat_lit 84,O7 P) ::
(nat_lit 85,Oc P) ::
(nat_lit 96,Oa P) ::
(nat_lit 97,O8 P) ::
(nat_lit 108,HQ P) ::
(nat_lit 109,Ie P) ::
(nat_lit 120,FP P) ::
(nat_lit 121,Fg P) ::
(nat_lit 136,Fd P) ::
(nat_lit 137,Fb P) ::
(nat_lit 139,HF P) ::
(nat_lit 140,Et P) ::
(nat_lit 155,Gh P) ::
(nat_lit 156,HS P) ::
(nat_lit 158,Fx P) ::
(nat_lit 159,Gi P) ::
(nat_lit 174,Fi P) ::
(nat_lit 175,Hz P) ::
(nat_lit 177,Hx P) ::
(nat_lit 178,Hm P) ::
(nat_lit 186,Hc P) ::
(nat_lit 187,Ib P) ::
(nat_lit 193,Gy P) ::
(nat_lit 194,JF P) ::
(nat_lit 198,En P) ::
(nat_lit 199,Ft P) ::
(nat_lit 205,Gg P) ::
(nat_lit 206,Fl P) ::
(nat_lit 212,Hs P) ::
(nat_lit 213,Gr P) ::
(nat_lit 217,Ff P) ::
(nat_lit 218,Ga P) ::
(nat_lit 227,Gp P) ::
(nat_lit 228,Ia P) ::
(nat_lit 229,Fw P) ::
(nat_lit 230,Ho P) ::
(nat_lit 245,Ek P) ::
(nat_lit 246,Er P) ::
(nat_lit 252,GK P) ::
(nat_lit 253,Gd P) ::
(nat_lit 259,Hq P) ::
(nat_lit 260,Fp P) ::
(nat_lit 262,FT P) ::
(nat_lit 263,Iv P) ::
(nat_lit 278,Ep P) ::
(nat_lit 279,IK P) ::
(nat_lit 283,Gq P) ::
(nat_lit 284,Hw P) ::
(nat_lit 290,Hv P) ::
(nat_lit 291,Hu P) ::
(nat_lit 293,Eu P) ::
(nat_lit 294,JB P) ::
(nat_lit 309,Hn P) ::
(nat_lit 310,Gs P) ::
(nat_lit 316,Hl P) ::
(nat_lit 317,GP P) ::
(nat_lit 323,Ex P) ::
(nat_lit 324,Gj P) ::
(nat_lit 326,Ij P) ::
(nat_lit 327,GD P) ::
(nat_lit 335,Iz P) ::
(nat_lit 336,Gm P) ::
(nat_lit 342,Hy P) ::
(nat_lit 343,FZ P) ::
(nat_lit 347,Fz P) ::
(nat_lit 348,HW P) ::
(nat_lit 352,Hj P) ::
(nat_lit 353,Hf P) ::
(nat_lit 359,Ha P) ::
(nat_lit 360,FW P) ::
(nat_lit 364,Io P) ::
(nat_lit 365,Hr P) ::
(nat_lit 371,El P) ::
(nat_lit 372,Eh P) ::
(nat_lit 378,HX P) ::
(nat_lit 379,Gn P) ::
(nat_lit 385,FN P) ::
(nat_lit 386,Ir P) ::
(nat_lit 392,Es P) ::
(nat_lit 393,Gv P) ::
(nat_lit 399,Fj P) ::
(nat_lit 400,Fy P) ::
(nat_lit 404,HY P) ::
(nat_lit 405,Hb P) ::
(nat_lit 411,JD P) ::
(nat_lit 412,Ey P) ::
(nat_lit 418,IW P) ::
(nat_lit 419,Im P) ::
(nat_lit 425,Gu P) ::
(nat_lit 426,Fe P)::[]
def Eb:List Addr:=2::3::23::24::25::36::37::48::49::60::61::72::73::84::85::96::97::108::109::120::121::136::137::139::140::155::156::158::159::174::175::177::178::186::187::193::194::198::199::205::206::212::213::217::218::227::228::229::230::245::246::252::253::259::260::262::263::278::279::283::284::290::291::293::294::309::310::316::317::323::324::326::327::335::336::342::343::347::348::352::353::359::360::364::365::371::372::378::379::385::386::392::393::399::400::404::405::411::412::418::419::425::426::[]
theorem sW:∀ P,Eb=(pD P).map (·.1):=fun _=>by kernel_rfl
def vw:Program:={ PySem.Challenge.pw_lidprice_k35_patterns_refused with main:={ (PySem.Challenge.pw_lidprice_k35_patterns_refused).main with body:=[top 1,top 2,top 3,top 4,top 5,top 6,top 7,top 8,top 9,top 10,top 11,top 12,top 14,top 15,top 17,top 18,top 19,top 20,top 21,top 22,top 23,top 24,top 25,top 26,top 27,top 28,top 29,top 30,top 31,top 32,top 33,top 35,top 36,top 37,top 38,top 39,top 40,top 41,top 42] } }
def Oi (s:Shared):Bool:=W.xlAt vw [] s&&W.recOk (W.RowW.records (W.OpenRow.toRowW (W.OpenLaw.row PySem.Challenge.rw_lidprice_k35_patterns_refused))) s
theorem Ei:W.LeftO PySem.Challenge.pw_lidprice_k35_patterns_refused vw [] Oi (W.Hook.obs (W.kHook pD Eb sW)) (W.Hook.val (W.kHook pD Eb sW)) 9558 :=
 L2.zA (Tb:=t0) (Tf:=t4) (nf:=427) (kf:=735) (env:=qD) (C:=eQ) (gs:=gs) (m0:=11) (ann:=(some (.ref 6))) (by kernel_rfl) (by decide) (fun _=>by kernel_rfl) (fun _=>by kernel_rfl) K5 KC (c:=1261+(1377+(1321+(461+(2))))) (fun w os=>L2.lR (Mq w os) (L2.lR (LQ w os) (L2.lR (Ld w os) (L2.lR (M4 w os) (KQ w os))))) (by decide) (fun _=>by kernel_rfl)
end
end K35
open PySem PySem.W PyProof.Rows
set_option maxRecDepth 100000 in
set_option maxHeartbeats 0 in
theorem PySem.Challenge.cw_lidprice_k35_patterns_refused_holds : PySem.Challenge.rw_lidprice_k35_patterns_refused.Holds := by
 w_on
 refine PySem.W.holds_law K35.Ii fun said=>?_;refine PySem.W.holds_open (N:=9558) (q:=K35.vw) (loose:=[]) (Xt:=K35.Oi) (XP:=PySem.W.XL K35.vw [])
  (Yf:=PySem.W.Hook.obs (PySem.W.kHook K35.pD K35.Eb K35.sW)) (Ya:=PySem.W.Hook.val (PySem.W.kHook K35.pD K35.Eb K35.sW))
  (YP:=PySem.W.Hook.says (PySem.W.kHook K35.pD K35.Eb K35.sW)) K35.Ei
  (PySem.W.Hook.of _) (PySem.W.Hook.keeps _) (fun s e=>PySem.W.xl_of s (Ww.mp e).1) PySem.W.XL.keeps
  (by rfl) (by rfl) (by rfl) (fun s e=>PySem.W.recFacts_of (Ww.mp e).2)
  (by rfl) (by first | assumption | decide +kernel) (by decide +kernel)
  ⟨rfl,rfl,rfl,rfl,rfl,by decide +kernel⟩ ?hw ?hc
 case hw=>w_witness2
 k_fill
 refine K35.walk (l:=PySem.Challenge.rw_lidprice_k35_patterns_refused) rfl rfl (fun w h Y=>by first | exact PySem.W.kIn_of Y | exact PySem.W.km_in_of Y) ?F
 case F =>
  intro w mg fa h KX G hmg;apply K35.Dh KX G hmg
  all_goals first | k_is | kit_is | exact ⟨by k_is,L2.yM (by k_is) (by k_is) (by k_is)⟩ | exact ⟨by k_is,by k_is,L2.yM (by k_is) (by k_is) (by k_is)⟩ | (refine ⟨?_,?_,⟨?_,?_,?_,?_⟩,⟨?_,?_,?_,?_⟩,⟨?_,?_,?_,?_⟩,?_,?_,?_,?_,?_,?_,?_,?_,?_,?_,?_,?_⟩ <;> first | k_is | kit_is | kernel_rfl | (unfold L2.cB; kernel_rfl) | decide) | (refine TP.Ef.of ?_ <;> first | k_is | kit_is | kernel_rfl | (unfold L2.cB; kernel_rfl) | decide) | (refine ⟨?_⟩ <;> first | k_is | kit_is | kernel_rfl | (unfold L2.cB; kernel_rfl) | decide) | (refine TP.sG.of ⟨?_,?_,?_,?_,?_,?_,?_,?_⟩ ?_ ?_ ?_ <;> first | k_is | kit_is | kernel_rfl | (unfold L2.cB; kernel_rfl) | decide) | (refine ⟨?_,?_,?_⟩ <;> first | k_is | kit_is | kernel_rfl | (unfold L2.cB; kernel_rfl) | decide) | (refine ⟨?_,?_,?_,?_,?_,?_,?_,?_⟩ <;> first | k_is | kit_is | kernel_rfl | (unfold L2.cB; kernel_rfl) | decide) | kernel_rfl | exact rfl | decide
