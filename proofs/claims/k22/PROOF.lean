import PyProof.Rows.All
import Wide.All
import OpenK.AllK
import Wide.FinOn
import Lean
import PyProof.EqAt
import PyProof.EqKinds
import PyProof.TupleCall
import PyProof.NeKinds
import KE.IntBitsLaws
import KE.KRevIter
import KE.KSortKey
import KE.KLam
import KE.KNestM
import KE.KDictList
import PyProof.ConsumeWalk
import PyProof.ZipIter
import PyProof.Rows.Range3
import PyProof.CollectWalk
import PyProof.ListNew
import KE.KUnpack
import PyProof.Rows.SetFrom
import PySem.Challenge.RW_lidprice_k22_cases_refused
set_option Elab.async false
set_option linter.all false
set_option maxRecDepth 100000
namespace L2
open PySem PySem.Spec PyProof.Rows
abbrev dG:=Sum Int Str
def wM:dG->Value->Bool
 | .inl k,v=>Value.isInt k v
 | .inr x,v=>Value.isStrOf x v
def aBU (w:World):dG->Int
 | .inl k=>hashInt k
 | .inr x=>hashStr w x
theorem eE:∀ {k:dG}{v:Value},wM k v=true->(∃ i t,k=Sum.inl i /\ v=Value.int i t) ∨ (∃ x t,k=Sum.inr x /\ v=Value.str x t)
 | .inl i,v,h=>by
  obtain ⟨t,e⟩:=Value.isInt_shape (k:=i) (v:=v) h
  exact .inl ⟨i,t,rfl,e⟩
 | .inr x,v,h=>by
  obtain ⟨t,e⟩:=Value.isStrOf_shape (x:=x) (v:=v) h
  exact .inr ⟨x,t,rfl,e⟩
theorem Gi (i:Int) (t:Tok):wM (.inl i) (.int i t)=true:=by simp [wM,Value.isInt]
theorem Hr (x:Str) (t:Tok):wM (.inr x) (.str x t)=true:=by simp [wM,Value.isStrOf]
theorem Pk (a b:Int):decide ((Sum.inl a:dG)=Sum.inl b)=(a == b):=by
 by_cases e:a=b
 ·subst e; simp
 ·have h:¬ (Sum.inl a:dG)=Sum.inl b:=fun q=>e (Sum.inl.inj q)
  rw [decide_eq_false h]
  exact (beq_eq_false_iff_ne.mpr e).symm
theorem Ob (a b:Str):decide ((Sum.inr a:dG)=Sum.inr b)=decide (a=b):=by
 by_cases e:a=b
 ·subst e; simp
 ·have h:¬ (Sum.inr a:dG)=Sum.inr b:=fun q=>e (Sum.inr.inj q)
  rw [decide_eq_false h,decide_eq_false e]
theorem O4 (a:Int) (b:Str):decide ((Sum.inl a:dG)=Sum.inr b)=false:=decide_eq_false (fun q=>nomatch q)
theorem QL (a:Str) (b:Int):decide ((Sum.inr a:dG)=Sum.inl b)=false:=decide_eq_false (fun q=>nomatch q)
def dZ (prog:Program) (w:World):PySem.KeyKind prog w dG where
 is:=wM
 hash:=aBU w
 inj:=fun v a b ha hb=>by
  rcases eE ha with ⟨i,t,rfl,rfl⟩ | ⟨x,t,rfl,rfl⟩
  ·rcases eE hb with ⟨j,u,rfl,e⟩ | ⟨y,u,rfl,e⟩
   ·injection e with e1 _; rw [e1]
   ·exact nomatch e
  ·rcases eE hb with ⟨j,u,rfl,e⟩ | ⟨y,u,rfl,e⟩
   ·exact nomatch e
   ·injection e with e1 _; rw [e1]
 byValue:=fun k v h=>by
  rcases eE h with ⟨i,t,rfl,rfl⟩ | ⟨x,t,rfl,rfl⟩ <;> rfl
 pyHash:=fun hv h=>by
  rcases eE hv with ⟨i,t,rfl,rfl⟩ | ⟨x,t,rfl,rfl⟩
  ·exact wpAny_pyHash_int h
  ·exact wpAny_pyHash_str h
 eqBool:=fun hu hv h=>by
  rcases eE hu with ⟨i,t,rfl,rfl⟩ | ⟨x,t,rfl,rfl⟩
  ·rcases eE hv with ⟨j,u,rfl,rfl⟩ | ⟨y,u,rfl,rfl⟩
   ·rw [Pk] at h; exact wpAny_eqBool_int h
   ·rw [O4] at h; exact SeqAt.EqAt.int_str i t y u _ _ _ _ h
  ·rcases eE hv with ⟨j,u,rfl,rfl⟩ | ⟨y,u,rfl,rfl⟩
   ·rw [QL] at h; exact SeqAt.EqAt.str_int x t j u _ _ _ _ h
   ·rw [Ob] at h; exact wpAny_eqBool_str h
 «strs»:=fun k x t v h=>by
  rcases eE h with ⟨i,u,rfl,e⟩ | ⟨y,u,rfl,e⟩
  ·exact nomatch e
  ·injection e with e1 _
   subst e1
   cases v <;> rfl
theorem BP (prog:Program) (w:World) (i:Int) (t:Tok):(dZ prog w).is (.inl i) (.int i t)=true:=Gi i t
theorem Cg (prog:Program) (w:World) (x:Str) (t:Tok):(dZ prog w).is (.inr x) (.str x t)=true:=Hr x t
end L2
namespace L2
open PySem PySem.Spec PyProof.Rows
inductive V where
 | non | bl (b:Bool) | int (i:Int) | str (x:Str) | byt (b:Array UInt8) | flt (b:UInt64) | ref (a:Addr) | ty (n:String)
 deriving DecidableEq
def bG:V->Value->Prop
 | .non,u=>u=Value.none
 | .bl b,u=>u=Value.bool b
 | .int i,u=>∃ t,u=Value.int i t
 | .str x,u=>∃ t,u=Value.str x t
 | .byt b,u=>∃ t,u=Value.bytes b t
 | .flt b,u=>∃ t,u=Value.float b t
 | .ref a,u=>u=Value.ref a
 | .ty n,u=>u=Value.type n
abbrev bI:List V->List Value->Prop:=Paired bG
theorem bI.length {xs:List V}{us:List Value} (r:bI xs us):xs.length=us.length:=Paired.length r
theorem bI.get:∀ {xs:List V}{us:List Value}{i:Nat}{x:V},bI xs us->xs[i]? = some x->∃ u,us[i]? = some u /\ bG x u
 | _,_,_,_,.nil,e=>by simp at e
 | _,_,0,_,.cons r _,e=>by simp at e; subst e; exact ⟨_,rfl,r⟩
 | _,_,i + 1,x,.cons _ t,e=>by
  obtain ⟨u,h1,h2⟩:=bI.get (i:=i) (x:=x) t (by simpa using e)
  exact ⟨u,by simpa using h1,h2⟩
theorem bI.set {x:V}{u:Value} (r:bG x u):∀ {xs:List V}{us:List Value} (i:Nat),bI xs us->bI (xs.set i x) (us.set i u)
 | _,_,_,.nil=>.nil
 | _,_,0,.cons _ t=>.cons r t
 | _,_,i + 1,.cons q t=>.cons q (bI.set r i t)
theorem bI.append:∀ {xs ys:List V}{us ws:List Value},bI xs us->bI ys ws->bI (xs ++ ys) (us ++ ws)
 | _,_,_,_,.nil,s=>s
 | _,_,_,_,.cons r t,s=>.cons r (bI.append t s)
theorem bI.take:∀ {xs:List V}{us:List Value} (n:Nat),bI xs us->bI (xs.take n) (us.take n)
 | _,_,0,_=>.nil
 | _,_,_ + 1,.nil=>.nil
 | _,_,n + 1,.cons r t=>.cons r (bI.take n t)
theorem bI.drop:∀ {xs:List V}{us:List Value} (n:Nat),bI xs us->bI (xs.drop n) (us.drop n)
 | _,_,0,r=>r
 | _,_,_ + 1,.nil=>.nil
 | _,_,n + 1,.cons _ t=>bI.drop n t
theorem bI.none_of:∀ {xs:List V}{us:List Value}{i:Nat},bI xs us->xs[i]? = none->us[i]? = none:=fun {xs us i} r e=>by
 have h1:=r.length
 have h2:xs.length <= i:=List.getElem?_eq_none_iff.mp e
 exact List.getElem?_eq_none_iff.mpr (by omega)
def lQ:Option V->Option Value->Prop
 | some v,some u=>bG v u
 | none,none=>True
 | _,_=>False
def KV {κ : Type}:List (κ × V)->List (κ × Value)->Prop:=Paired fun (p:κ × V) (q:κ × Value)=>p.1=q.1 /\ bG p.2 q.2
def kV:dG->V
 | .inl i=>.int i
 | .inr x=>.str x
inductive HO where
 | lst (xs:List V)
 | tup (xs:List V)
 | dK (kvs:List (dG × V)) | dT (kvs:List (List dG × V))
 | set (S:Int->Bool) (n:Nat)
 | ins (C dx:Addr) (fs:List (Str × V))
 | own (x:Addr)
 | xd (fs:List (Str × V))
 | met (f x:Addr)
 | rng (lo hi:Int)
 | frz (o:Obj) (u:HO)
 | tbl (ps:Array Value)
 | ext (φ : Heap->Prop)
abbrev Hp:=Addr->Option HO
def aU (H:Hp) (a:Addr) (o:HO):Hp:=fun b=>if b=a then some o else H b
theorem aB {H:Hp}{a:Addr}{o:HO}:aU H a o a=some o:=by unfold aU; rw [if_pos rfl]
theorem aL {H:Hp}{a b:Addr}{o:HO} (h:b ≠ a):aU H a o b=H b:=by unfold aU; rw [if_neg h]
theorem bJ {H:Hp}{a b:Addr}{o u:HO} (h:H a=some o) (h':H b=some u) (d:o ≠ u):a ≠ b:=by
 intro e; subst e; rw [h] at h'; exact d (Option.some.inj h')
theorem aR {H:Hp}{a b:Addr}{o:HO} (h:H a=some o) (h':H b=none):a ≠ b:=by
 intro e; subst e; rw [h] at h'; cases h'
section
variable (P:Program) (w:World)
def cY (H:Hp) (h:Heap) (a:Addr):HO->Prop
 | .lst xs=>xs.length <= sizeLine /\ ∃ (its:List Value) (n:Nat),bI xs its /\ h.get? a=some { cls:=.type "list",data:=.seq its.toArray n }
 | .tup xs=>xs.length <= sizeLine /\ ∃ its:List Value,bI xs its /\ IsTup h a its.toArray
 | .dK kvs=>kvs.length <= sizeLine /\ (a == sysModules)=false /\ ∃ vs,KV kvs vs /\ h.DictOf (dZ P w) a vs
 | .dT kvs=>kvs.length <= sizeLine /\ (a == sysModules)=false /\ ∃ xs:List (List dG × Addr × Value),
   Paired (fun (p:List dG × V) (q:List dG × Addr × Value)=>p.1=q.1 /\ H q.2.1=some (.tup (p.1.map kV)) /\ bG p.2 q.2.2) kvs xs ∧
   ∃ o es ep,h.get? a=some o /\ o.ExactDict /\ o.data = .dict es ep /\ es.toList=xs.map (entryOfKey (tupleKind (dZ P w))) /\ (xs.map (·.1)).Nodup
 | .set S n=>h.SetOf (intKind P w) a S n
 | .ins C dx fs=>H dx=some (.own a) /\ fs.length <= 1000 /\ dx ≠ a /\ h.get? a=some (PySem.W.instObj C dx) ∧
   ∃ mA,h.Ns1 dx mA /\ (∀ f,lQ (fs.lookup f) (mA f)) /\ PySem.Within mA (fs.map (·.1))
 | .own _=>∃ o,h.get? a=some o
 | .xd fs=>∃ mA,h.Ns1 a mA /\ ∀ f,lQ (fs.lookup f) (mA f)
 | .rng lo hi=>∃ t u v,h.get? a=some { cls:=.type "range",data:=.fields #[.int lo t,.int hi u,.int 1 v] }
 | .frz o u=>h.get? a=some o /\ cY H h a u
 | .tbl ps=>h.get? a=some { cls:=.none,data:=.fields ps }
 | .met f x=>h.get? a=some (PySem.W.methodObj (.ref f) (.ref x))
 | .ext φ=>φ h /\ (∃ o,h.get? a=some o) /\ ∀ h1 h2:Heap,φ h1->(∀ o,h1.get? a=some o->h2.get? a=some o)->φ h2
def mY (H:Hp) (h:Heap):Prop:=∀ a o,H a=some o->cY P w H h a o
end
section
variable {P:Program}{w:World}{H H':Hp}{h h':Heap}{a:Addr}{o:HO}
theorem cY.lt (x:cY P w H h a o):a < h.objs.size:=by
 cases o with
 | lst xs=>obtain ⟨_,_,_,_,e⟩:=x; exact Heap.lt_size e
 | tup xs=>obtain ⟨_,_,_,p⟩:=x; exact p.lt
 | dK kvs=>obtain ⟨_,_,_,_,o,_,_,e,_⟩:=x; exact Heap.lt_size e
 | dT kvs=>obtain ⟨_,_,_,_,o,_,_,e,_⟩:=x; exact Heap.lt_size e
 | set S n=>obtain ⟨o,_,_,_,e,_⟩:=x; exact Heap.lt_size e
 | ins C dx fs=>obtain ⟨_,_,_,e,_⟩:=x; exact Heap.lt_size e
 | own y=>obtain ⟨_,e⟩:=x; exact Heap.lt_size e
 | xd fs=>obtain ⟨_,⟨_,_,_,e,_⟩,_⟩:=x; exact Heap.lt_size e
 | rng lo hi=>obtain ⟨_,_,_,e⟩:=x; exact Heap.lt_size e
 | frz ob u=>obtain ⟨e,_⟩:=x; exact Heap.lt_size e
 | tbl ps=>exact Heap.lt_size (show h.get? a=some _ from x)
 | met f y=>exact Heap.lt_size (show h.get? a=some _ from x)
 | ext φ=>obtain ⟨_,⟨_,e⟩,_⟩:=x; exact Heap.lt_size e
theorem Paired.mapP {α β : Type}{F G:α->β->Prop}:∀ {l₁ : List α}{l₂ : List β},Paired F l₁ l₂->(∀ a b,F a b->G a b)->Paired G l₁ l₂
 | _,_,.nil,_=>.nil
 | _,_,.cons r t,f=>.cons (f _ _ r) (Paired.mapP t f)
theorem cY.stay (x:cY P w H h a o) (k:∀ b u,(b=a ∨ H b=some (.own a))->h.get? b=some u->h'.get? b=some u)
  (ho:∀ b,H b=some (.own a)->H' b=some (.own a)) (ht:∀ b xs,H b=some (.tup xs)->H' b=some (.tup xs)):cY P w H' h' a o:=by
 induction o with
 | lst xs=>obtain ⟨z,its,n,r,e⟩:=x; exact ⟨z,its,n,r,k _ _ (.inl rfl) e⟩
 | tup xs=>obtain ⟨z,its,r,ob,e,c⟩:=x; exact ⟨z,its,r,ob,k _ _ (.inl rfl) e,c⟩
 | dK kvs=>obtain ⟨z,y,vs,r,ob,es,ep,e,c⟩:=x; exact ⟨z,y,vs,r,ob,es,ep,k _ _ (.inl rfl) e,c⟩
 | dT kvs =>
  obtain ⟨z,y,xs,r,ob,es,ep,e,c⟩:=x
  exact ⟨z,y,xs,Paired.mapP r fun p q z=>⟨z.1,ht _ _ z.2.1,z.2.2⟩,ob,es,ep,k _ _ (.inl rfl) e,c⟩
 | set S n=>obtain ⟨ob,es,ep,t,e,c⟩:=x; exact ⟨ob,es,ep,t,k _ _ (.inl rfl) e,c⟩
 | ins C dx fs =>
  obtain ⟨d,z,ne,e,mA,⟨od,es,ep,e2,c⟩,r⟩:=x
  exact ⟨ho _ d,z,ne,k _ _ (.inl rfl) e,mA,⟨od,es,ep,k _ _ (.inr d) e2,c⟩,r⟩
 | own y=>obtain ⟨ob,e⟩:=x; exact ⟨ob,k _ _ (.inl rfl) e⟩
 | xd fs=>obtain ⟨mA,⟨od,es,ep,e,c⟩,r⟩:=x; exact ⟨mA,⟨od,es,ep,k _ _ (.inl rfl) e,c⟩,r⟩
 | rng lo hi=>obtain ⟨t,u,v,e⟩:=x; exact ⟨t,u,v,k _ _ (.inl rfl) e⟩
 | frz ob u ih=>obtain ⟨e,q⟩:=x; exact ⟨k _ _ (.inl rfl) e,ih q⟩
 | tbl ps =>
  have e:h.get? a=some { cls:=.none,data:=.fields ps }:=x
  show h'.get? a=some { cls:=.none,data:=.fields ps }
  exact k a _ (.inl rfl) e
 | met f y =>
  have e:h.get? a=some (PySem.W.methodObj (.ref f) (.ref y)):=x
  show h'.get? a=some (PySem.W.methodObj (.ref f) (.ref y))
  exact k a _ (.inl rfl) e
 | ext φ=>obtain ⟨p,⟨o,e⟩,st⟩:=x; exact ⟨st _ _ p fun o q=>k _ _ (.inl rfl) q,⟨o,k _ _ (.inl rfl) e⟩,st⟩
theorem mY.lt (x:mY P w H h) (e:H a=some o):a < h.objs.size:=(x a o e).lt
theorem mY.fresh (x:mY P w H h) (e:h.objs.size <= a):H a=none:=by
 cases q:H a with
 | none=>rfl
 | some u=>exact absurd (Nat.lt_of_lt_of_le (x.lt q) e) (Nat.lt_irrefl _)
theorem mY.kept (x:mY P w H h) (k:∀ b u,h.get? b=some u->h'.get? b=some u):mY P w H h':=fun a o e =>
 (x a o e).stay (fun b u _ q=>k b u q) (fun _ q=>q) fun _ _ q=>q
theorem mY.laid (x:mY P w H h) (k:∀ b u,h.get? b=some u->h'.get? b=some u) (hp:h.objs.size <= a) (new:cY P w (aU H a o) h' a o):mY P w (aU H a o) h':=fun b u e=>by
 have hn:=x.fresh hp
 by_cases hb:b=a
 ·subst hb; rw [aB] at e; cases e; exact new
 ·rw [aL hb] at e
  exact (x b u e).stay (fun c v _ q=>k c v q) (fun c q=>by rw [aL (aR q hn)]; exact q) fun c xs q=>by rw [aL (aR q hn)]; exact q
end
def Rd (H:Hp) (a:Addr) (u:HO):Prop:=H a=some u ∨ ∃ o,H a=some (.frz o u)
theorem Rd.of {H:Hp}{a:Addr}{u:HO} (h:H a=some u):Rd H a u:=.inl h
theorem Rd.ok {P:Program}{w:World}{H:Hp}{h:Heap}{a:Addr}{u:HO} (r:Rd H a u) (x:mY P w H h):cY P w H h a u:=by
 rcases r with r | ⟨o,r⟩
 ·exact x a u r
 ·obtain ⟨_,q⟩:=x a _ r
  exact q
def Ub:Option HO->Prop
 | some (.lst _)=>True
 | some (.dK _)=>True
 | some (.dT _)=>True
 | some (.set _ _)=>True
 | some (.ins _ _ _)=>True
 | some (.ext _)=>True
 | _=>False
section
variable {P:Program}{w:World}{H:Hp}{h h':Heap}{x e:Addr}{o':HO}
theorem mY.write (ok:mY P w H h) (mu:Ub (H x)) (he:e=x ∨ H e=some (.own x)) (k:∀ b u,b ≠ e->h.get? b=some u->h'.get? b=some u) (heo:∃ u,h'.get? e=some u)
  (new:cY P w (aU H x o') h' x o'):mY P w (aU H x o') h':=fun b u q=>by
 have nown:∀ c y,H c=some (.own y)->c ≠ x:=fun c y r z=>by subst z; rw [r] at mu; exact mu
 have ntup:∀ c xs,H c=some (.tup xs)->c ≠ x:=fun c xs r z=>by subst z; rw [r] at mu; exact mu
 by_cases hb:b=x
 ·subst hb; rw [aB] at q; cases q; exact new
 ·rw [aL hb] at q
  by_cases hbe:b=e
  ·have q':H b=some (.own x):=by
    rcases he with z | z
    ·exact absurd (hbe.trans z) hb
    ·rw [hbe]; exact z
   rw [q] at q'; cases q'
   obtain ⟨v,hv⟩:=heo
   exact ⟨v,by rw [hbe]; exact hv⟩
  ·refine (ok b u q).stay (fun c v hc r=>k c v ?_ r) (fun c r=>by rw [aL (nown c b r)]; exact r) fun c xs r=>by rw [aL (ntup c xs r)]; exact r
   rcases hc with rfl | hc
   ·exact hbe
   ·rintro rfl
    rcases he with z | z
    ·exact nown c b hc z
    ·rw [hc] at z; cases z; exact hb rfl
end
structure Un (fs ex:List Addr) (H H':Hp) (h h':Heap):Prop where
 keep:∀ b o,h.get? b=some o->H b=none->b ∉ fs->b ∉ ex->h'.get? b=some o
 slot:∀ b o,h.get? b=some o->H b=none->b ∈ fs->b ∉ ex->∃ sl,h'.get? b=some { o with slots:=sl }
 free:∀ b o,h.get? b=some o->H b=none->b ∉ ex->H' b=none
 there:∀ b o,h.get? b=some o->b ∉ ex->∃ o',h'.get? b=some o'
 tups:∀ b xs,H b=some (.tup xs)->H' b=some (.tup xs)
 frzs:∀ b o u,H b=some (.frz o u)->H' b=some (.frz o u)
 tbls:∀ b ps,H b=some (.tbl ps)->∃ more,H' b=some (.tbl (ps ++ more))
section
variable {fs fs' ex ex':List Addr}{H H1 H2:Hp}{h h1 h2 h':Heap}{a x e:Addr}{o:HO}
theorem Un.any (u:Un fs ex H H1 h h1) {b:Addr}{ob:Obj} (q:h.get? b=some ob) (n:H b=none) (hx:b ∉ ex):∃ sl,h1.get? b=some { ob with slots:=sl }:=by
 by_cases hb:b ∈ fs
 ·exact u.slot b ob q n hb hx
 ·exact ⟨ob.slots,u.keep b ob q n hb hx⟩
theorem Un.trans (a:Un fs ex H H1 h h1) (b:Un fs ex H1 H2 h1 h2):Un fs ex H H2 h h2 where
 keep:=fun c ob q n hc hx=>b.keep c ob (a.keep c ob q n hc hx) (a.free c ob q n hx) hc hx
 slot:=fun c ob q n hc hx=>by
  obtain ⟨sl,e1⟩:=a.slot c ob q n hc hx
  obtain ⟨sl',e2⟩:=b.slot c _ e1 (a.free c ob q n hx) hc hx
  exact ⟨sl',e2⟩
 free:=fun c ob q n hx=>by
  obtain ⟨o',e1⟩:=a.there c ob q hx
  exact b.free c o' e1 (a.free c ob q n hx) hx
 there:=fun c ob q hx=>by
  obtain ⟨o',e1⟩:=a.there c ob q hx
  exact b.there c o' e1 hx
 tups:=fun c xs q=>b.tups c xs (a.tups c xs q)
 frzs:=fun c ob xs q=>b.frzs c ob xs (a.frzs c ob xs q)
 tbls:=fun c ps q=>by
  obtain ⟨m1,e1⟩:=a.tbls c ps q
  obtain ⟨m2,e2⟩:=b.tbls c _ e1
  exact ⟨m1 ++ m2,by rw [e2,Array.append_assoc]⟩
theorem Un.kept (k:∀ b u,h.get? b=some u->h'.get? b=some u):Un fs ex H H h h' :=
 ⟨fun b ob q _ _ _=>k b ob q,fun b ob q _ _ _=>⟨ob.slots,k b ob q⟩,fun _ _ _ n _=>n,fun b ob q _=>⟨ob,k b ob q⟩,fun _ _ q=>q,fun _ _ _ q=>q,fun _ ps q=>⟨#[],by rw [q]; simp⟩⟩
theorem Un.refl:Un fs ex H H h h:=Un.kept fun _ _ q=>q
theorem Un.laid (k:∀ b u,h.get? b=some u->h'.get? b=some u) (hp:h.objs.size <= a) (hn:H a=none):Un fs ex H (aU H a o) h h' where
 keep:=fun b u q _ _ _=>k b u q
 slot:=fun b u q _ _ _=>⟨u.slots,k b u q⟩
 free:=fun b u q n _=>by rw [aL (Nat.ne_of_lt (Nat.lt_of_lt_of_le (Heap.lt_size q) hp))]; exact n
 there:=fun b u q _=>⟨u,k b u q⟩
 tups:=fun b xs q=>by rw [aL (aR q hn)]; exact q
 frzs:=fun b u xs q=>by rw [aL (aR q hn)]; exact q
 tbls:=fun b ps q=>⟨#[],by rw [aL (aR q hn),q]; simp⟩
theorem Un.write (mu:Ub (H x)) (he:e=x ∨ H e=some (.own x)) (k:∀ b u,b ≠ e->h.get? b=some u->h'.get? b=some u) (heo:∃ u,h'.get? e=some u):Un fs ex H (aU H x o) h h':=by
 have hx:∀ b,H b=none->b ≠ x:=fun b n z=>by subst z; rw [n] at mu; exact mu
 have hb:∀ b,H b=none->b ≠ e:=fun b n z=>by
  subst z
  rcases he with r | r
  ·exact hx b n r
  ·rw [n] at r; cases r
 have hm:∀ b u,H b=some u->¬ Ub (some u)->b ≠ x:=fun b u q nm z=>by subst z; rw [q] at mu; exact nm mu
 refine ⟨fun b u q n _ _=>k b u (hb b n) q,fun b u q n _ _=>⟨u.slots,k b u (hb b n) q⟩,fun b u q n _=>by rw [aL (hx b n)]; exact n,fun b u q _=>?_,
  fun b xs q=>by rw [aL (hm b _ q fun z=>z)]; exact q,fun b u xs q=>by rw [aL (hm b _ q fun z=>z)]; exact q,fun b ps q=>⟨#[],by rw [aL (hm b _ q fun z=>z),q]; simp⟩⟩
 by_cases hbe:b=e
 ·subst hbe; exact heo
 ·exact ⟨u,k b u hbe q⟩
theorem Un.mono (u:Un fs ex H H1 h h1) (hs:∀ b ∈ fs,b ∈ fs') (hx:∀ b ∈ ex,b ∈ ex'):Un fs' ex' H H1 h h1 :=
 ⟨fun b ob q n hb he=>u.keep b ob q n (fun z=>hb (hs b z)) fun z=>he (hx b z),fun _ _ q n _ he=>u.any q n fun z=>he (hx _ z),fun b ob q n he=>u.free b ob q n fun z=>he (hx b z),fun b ob q he=>u.there b ob q fun z=>he (hx b z),u.tups,u.frzs,u.tbls⟩
end
def ZR (h:Heap) (H:Hp):List Addr:=(List.range h.objs.size).filter fun a=>(H a).isSome
def wA (h:Heap) (H:Hp):Heap:=PySem.W.hideAll h (ZR h H)
theorem Hj (h:Heap) (H:Hp):(wA h H).objs.size=h.objs.size:=PySem.W.hideAll_size _ _
theorem Il {h:Heap}{H:Hp}{b:Addr}{o:Obj} (e:h.get? b=some o) (n:H b=none):(wA h H).get? b=some o :=
 PySem.W.hideAll_get _ e fun hm=>by
  have q:(H b).isSome=true:=(List.mem_filter.mp hm).2
  rw [n] at q; simp at q
theorem Mm {h:Heap}{H:Hp}{b:Addr}{o:Obj} (e:(wA h H).get? b=some o):h.get? b=some o /\ H b=none:=by
 have e':h.get? b=some o:=PySem.W.of_hideAll (ZR h H) e
 refine ⟨e',?_⟩
 cases q:H b with
 | none=>rfl
 | some x =>
  have hm:b ∈ ZR h H:=List.mem_filter.mpr ⟨List.mem_range.mpr (Heap.lt_size e'),by simp [q]⟩
  have z:(wA h H).get? b=none:=PySem.W.hideAll_none (ZR h H) hm
  rw [z] at e; cases e
def Lq (g h:Heap) (L:Addr):List (Addr × Obj):=(List.range h.objs.size).filterMap fun a=>if a=L ∨ (g.get? a).isSome=true then none else (h.get? a).map fun o=>(a,o)
def j4 (g h:Heap) (L d:Addr):List (Addr × Obj):=(Lq g h L).filter fun p=>decide (p.1 ≠ d)
end L2
namespace L2
open PySem PySem.Spec PyProof.Rows
structure Mod (K:PySem.W.Frag) (mg:Str->Option Value) (base:Heap):Prop where
 kin:K.In base
 glob:base.Ns mainGlobals mg
 blt:∃ mb,base.Ns builtinsNs mb /\ ∀ x:Str,x ≠ "__name__" -> mb x=bootBuiltins x
 nolimit:base.NoLimit
structure Cx where
 prog:Program
 w:World
 K:PySem.W.Frag
 mg:Str->Option Value
 base:Heap
 A:Around
 N:List Str
 s₀ : Shared
 H₀ : Hp
 env:Env
 outer:List Env
 stack:List Env
 ex:List Addr
 fn:Str->Bool
 calm:Bool
 pn:List (Addr × Obj)
 xe:Value->Shared->Prop
def qD (l:List Env):List Addr:=l.filterMap (·.frame)
abbrev Cx.fs (X:Cx):List Addr:=qD X.outer
def ZS (sc:Scope) (x:Str):Prop:=sc.names.lookup x=some .local ∨ sc.names.lookup x=some .cell ∨ sc.names.lookup x=some .free
def YM (sc:Scope) (x:Str):Prop:=sc.names.lookup x=some .local ∨ sc.names.lookup x=some .cell
def aBw (env:Env) (h:Heap) (m:Str->Option Value) (x:Str) (u:Value):Prop :=
 (env.kindOf x=some .local /\ m x=some u) ∨ ((env.kindOf x=some .cell ∨ env.kindOf x=some .free) /\ ∃ c,env.cells.lookup x=some c /\ h.IsCell c (some u))
structure Cx.Ok (X:Cx):Prop where
 mod:Mod X.K X.mg X.base
 kind:X.env.scope.kind = .function
 glob:X.env.globals=mainGlobals
 blt:X.env.builtins=builtinsNs
 above:X.s₀.heap.objs.size <= X.env.locals
 inj:∀ x y c,X.env.cells.lookup x=some c->X.env.cells.lookup y=some c->x=y
 has:∀ x,(X.env.kindOf x=some .cell ∨ X.env.kindOf x=some .free)->∃ c,X.env.cells.lookup x=some c
 cab:∀ x c,X.fn x=true->X.env.cells.lookup x=some c->X.s₀.heap.objs.size <= c
 hd:X.calm=true->X.A.handled=none
 frames:X.A.frames=some X.stack
 stk:X.stack=X.outer ∨ (X.stack=X.env :: X.outer /\ X.env.frame=some X.env.locals)
 exf:∀ b ∈ X.ex,b ≠ X.env.locals /\ ∀ x c,X.env.cells.lookup x=some c->c ≠ b
 bs:∀ b o,X.base.get? b=some o->X.s₀.heap.get? b=some o /\ X.H₀ b=none
 bsz:X.base.objs.size <= X.s₀.heap.objs.size
 noex:∀ b o,X.base.get? b=some o->b ∉ X.ex
 exfs:∀ b ∈ X.ex,b ∉ X.fs
 funs:X.s₀.heap.FunFrames X.base X.outer
 frf:∀ b ∈ X.fs,X.H₀ b=none
structure aX (X:Cx) (pins:List (Addr × Obj)) (σ : List (Option V)) (H:Hp) (s:Shared):Prop where
 ok:X.Ok
 os:s.os=X.s₀.os
 bare:AllBare s.gens
 base:Un X.fs X.ex X.H₀ H X.s₀.heap s.heap
 loc:∃ m,s.heap.Ns X.env.locals m /\ ∀ (i:Nat) (x:Str) (v:V),X.N[i]? = some x->σ[i]? = some (some v)->ZS X.env.scope x->∃ u,bG v u /\ aBw X.env s.heap m x u
 cell:∀ x c,X.env.cells.lookup x=some c->∃ v,s.heap.IsCell c v
 free:H X.env.locals=none
 freeC:∀ x c,X.env.cells.lookup x=some c->H c=none
 pin:∀ p ∈ X.pn ++ pins,s.heap.get? p.1=some p.2 /\ H p.1=none /\ p.1 ≠ X.env.locals /\ p.1 ∉ X.fs /\ ∀ v,p.2.data ≠ .cell v
 hok:mY X.prog X.w H s.heap
 len:σ.length=X.N.length
section
variable {X:Cx}{pins:List (Addr × Obj)}{σ : List (Option V)}{H H':Hp}{s:Shared}{h':Heap}
theorem Cx.Ok.nofr (ok:X.Ok) {b:Addr}{o:Obj} (e:X.base.get? b=some o):b ∉ X.fs:=fun hb=>by
 have:=(ok.funs.mem hb).1
 rw [e] at this; cases this
theorem aX.bs (I:aX X pins σ H s):∀ b o,X.base.get? b=some o->s.heap.get? b=some o /\ H b=none:=fun b o e =>
 ⟨I.base.keep b o (I.ok.bs b o e).1 (I.ok.bs b o e).2 (I.ok.nofr e) (I.ok.noex b o e),I.base.free b o (I.ok.bs b o e).1 (I.ok.bs b o e).2 (I.ok.noex b o e)⟩
theorem aX.bk (I:aX X pins σ H s):∀ b o,X.base.get? b=some o->s.heap.get? b=some o:=fun b o e=>(I.bs b o e).1
theorem aX.mod (I:aX X pins σ H s):Mod X.K X.mg X.base:=I.ok.mod
theorem aX.kIn (I:aX X pins σ H s):X.K.In s.heap:=I.ok.mod.kin.keeps I.bk
theorem aX.nolimit (I:aX X pins σ H s):s.heap.NoLimit:=I.ok.mod.nolimit.keeps I.bk
theorem aX.fr (I:aX X pins σ H s):∃ m,Fr X.base X.env.locals s.heap m :=
 let ⟨m,hn,_⟩:=I.loc
 ⟨m,hn,I.bk,Nat.le_trans I.ok.bsz I.ok.above⟩
theorem aX.lt (I:aX X pins σ H s):X.env.locals < s.heap.objs.size:=let ⟨_,hn,_⟩:=I.loc; hn.lt
theorem aX.sz (I:aX X pins σ H s):X.s₀.heap.objs.size <= s.heap.objs.size:=Nat.le_trans I.ok.above (Nat.le_of_lt I.lt)
theorem aX.nofs (I:aX X pins σ H s) {a:Addr} (h:s.heap.objs.size <= a):a ∉ X.fs:=fun hb=>by
 obtain ⟨_,o,ho,_⟩:=I.ok.funs.mem hb
 exact absurd (Nat.lt_of_lt_of_le (Heap.lt_size ho) (Nat.le_trans I.sz h)) (Nat.lt_irrefl _)
theorem aX.cne (I:aX X pins σ H s):∀ x c,X.env.cells.lookup x=some c->c ≠ X.env.locals:=fun x c e z=>by
 obtain ⟨v,o,ho,hd⟩:=I.cell x c e
 obtain ⟨m,⟨o',es,ep,ho',hd',_⟩,_⟩:=I.loc
 rw [z,ho'] at ho; cases ho; rw [hd'] at hd; cases hd
theorem aX.funs (I:aX X pins σ H s):s.heap.FunFrames X.base X.outer:=by
 have all:∀ (l:List Env),(∀ b ∈ qD l,b ∈ X.fs)->X.s₀.heap.FunFrames X.base l->s.heap.FunFrames X.base l:=by
  intro l
  induction l with
  | nil=>intro _ _; trivial
  | cons env r ih =>
   intro hs hl
   obtain ⟨hk,⟨L,o,hf,hn,ho,hd⟩,hr⟩:=hl
   have hL:L ∈ X.fs:=hs L (by unfold qD; rw [List.filterMap_cons,hf]; exact List.mem_cons_self)
   obtain ⟨sl,e⟩:=I.base.slot L o ho (I.ok.frf L hL) hL fun z=>I.ok.exfs L z hL
   exact ⟨hk,⟨L,_,hf,hn,e,hd⟩,ih (fun b hb=>hs b (by unfold qD; rw [List.filterMap_cons,hf]; exact List.mem_cons_of_mem _ hb)) hr⟩
 exact all X.outer (fun _ hb=>hb) I.ok.funs
theorem aX.stack (I:aX X pins σ H s):s.heap.FunFrames X.base X.stack:=by
 rcases I.ok.stk with e | ⟨e,hf⟩
 ·rw [e]; exact I.funs
 ·rw [e]
  obtain ⟨m,hn,_⟩:=I.loc
  refine .cons (by rw [I.ok.kind]; decide) hf hn ?_ I.funs
  exact Heap.get?_none_of_le (Nat.le_trans I.ok.bsz I.ok.above)
theorem aX.stkSub (I:aX X pins σ H s):∀ b ∈ qD X.stack,b ∈ X.env.locals :: X.fs:=fun b hb=>by
 rcases I.ok.stk with e | ⟨e,hf⟩
 ·rw [e] at hb; exact List.mem_cons_of_mem _ hb
 ·rw [e] at hb
  unfold qD at hb
  rw [List.filterMap_cons,hf] at hb
  exact hb
theorem aX.stkFree (I:aX X pins σ H s):∀ b ∈ qD X.stack,H b=none:=fun b hb=>by
 rcases List.mem_cons.mp (I.stkSub b hb) with e | hb
 ·rw [e]; exact I.free
 ·obtain ⟨_,o,ho,_⟩:=I.ok.funs.mem hb
  exact I.base.free b o ho (I.ok.frf b hb) fun z=>I.ok.exfs b z hb
theorem aX.step {g':Array GenState}{t':Nat}{d':Drawn}{ch:List Addr} (I:aX X pins σ H s)
  (hch:∀ b ∈ ch,(b ∈ X.ex ∨ X.s₀.heap.objs.size <= b) /\ b ≠ X.env.locals /\ (∀ x c,X.env.cells.lookup x=some c->c ≠ b) /\ ∀ p ∈ X.pn ++ pins,p.1 ≠ b)
  (keep:∀ b o,b ≠ X.env.locals->b ∉ X.fs->b ∉ ch->s.heap.get? b=some o->H b=none->h'.get? b=some o)
  (slot:∀ b o,b ≠ X.env.locals->b ∈ X.fs->b ∉ ch->s.heap.get? b=some o->H b=none->∃ sl,h'.get? b=some { o with slots:=sl }) (free:∀ b o,b ∉ ch->s.heap.get? b=some o->H b=none->H' b=none)
  (there:∀ b o,b ∉ ch->s.heap.get? b=some o->∃ o',h'.get? b=some o')
  (tups:∀ b xs,H b=some (.tup xs)->H' b=some (.tup xs)) (frzs:∀ b o u,H b=some (.frz o u)->H' b=some (.frz o u)) (tbls:∀ b ps,H b=some (.tbl ps)->∃ more,H' b=some (.tbl (ps ++ more)))
  (ns:∀ m,s.heap.Ns X.env.locals m->h'.Ns X.env.locals m) (hok:mY X.prog X.w H' h') (hg:AllBare g') :
  aX X pins σ H' { s with heap:=h',gens:=g',drawn:=d',toks:=t' }:=by
 have neL:∀ b o,X.s₀.heap.get? b=some o->b ≠ X.env.locals:=fun b o e=>Nat.ne_of_lt (Nat.lt_of_lt_of_le (Heap.lt_size e) I.ok.above)
 have neC:∀ b o,X.s₀.heap.get? b=some o->b ∉ X.ex->b ∉ ch:=fun b o e hx hb=>by
  rcases (hch b hb).1 with z | z
  ·exact hx z
  ·exact absurd (Nat.lt_of_lt_of_le (Heap.lt_size e) z) (Nat.lt_irrefl _)
 have cellK:∀ x c,X.env.cells.lookup x=some c->∀ v,s.heap.IsCell c v->h'.IsCell c v:=fun x c e v ⟨o,ho,hd⟩=>by
  have nch:c ∉ ch:=fun z=>(hch c z).2.2.1 x c e rfl
  by_cases hc:c ∈ X.fs
  ·obtain ⟨sl,q⟩:=slot c o (I.cne x c e) hc nch ho (I.freeC x c e)
   exact ⟨_,q,hd⟩
  ·exact ⟨o,keep c o (I.cne x c e) hc nch ho (I.freeC x c e),hd⟩
 refine ⟨I.ok,I.os,hg,⟨fun b o e n hb hx=>?_,fun b o e n hb hx=>?_,fun b o e n hx=>?_,fun b o e hx=>?_,fun b xs e=>tups b xs (I.base.tups b xs e),fun b o xs e=>frzs b o xs (I.base.frzs b o xs e),fun b ps e=>?_⟩,?_,fun x c e=>?_,?_,fun x c e=>?_,fun p hp=>?_,hok,I.len⟩
 ·exact keep b o (neL b o e) hb (neC b o e hx) (I.base.keep b o e n hb hx) (I.base.free b o e n hx)
 ·obtain ⟨sl,e1⟩:=I.base.slot b o e n hb hx
  obtain ⟨sl',e2⟩:=slot b _ (neL b o e) hb (neC b o e hx) e1 (I.base.free b o e n hx)
  exact ⟨sl',e2⟩
 ·obtain ⟨o',e1⟩:=I.base.there b o e hx
  exact free b o' (neC b o e hx) e1 (I.base.free b o e n hx)
 ·obtain ⟨o',e1⟩:=I.base.there b o e hx
  exact there b o' (neC b o e hx) e1
 ·obtain ⟨m1,e1⟩:=I.base.tbls b ps e
  obtain ⟨m2,e2⟩:=tbls b _ e1
  exact ⟨m1 ++ m2,by rw [e2,Array.append_assoc]⟩
 ·obtain ⟨m,hn,hl⟩:=I.loc
  refine ⟨m,ns m hn,fun i x v e1 e2 e3=>?_⟩
  obtain ⟨u,r,l⟩:=hl i x v e1 e2 e3
  refine ⟨u,r,?_⟩
  rcases l with l | ⟨k,c,e,z⟩
  ·exact .inl l
  ·exact .inr ⟨k,c,e,cellK x c e _ z⟩
 ·obtain ⟨v,z⟩:=I.cell x c e
  exact ⟨v,cellK x c e v z⟩
 ·obtain ⟨m,⟨o,_,_,ho,_⟩,_⟩:=I.loc
  exact free _ o (fun z=>(hch _ z).2.1 rfl) ho I.free
 ·obtain ⟨v,o,ho,hd⟩:=I.cell x c e
  exact free c o (fun z=>(hch c z).2.2.1 x c e rfl) ho (I.freeC x c e)
 ·obtain ⟨e,n,ne,nf,d⟩:=I.pin p hp
  have nch:p.1 ∉ ch:=fun z=>(hch p.1 z).2.2.2 p hp rfl
  exact ⟨keep p.1 p.2 ne nf nch e n,free p.1 p.2 nch e n,ne,nf,d⟩
theorem aX.un {t':Nat} (I:aX X pins σ H s) (u:Un X.fs [] H H' s.heap h') (hok:mY X.prog X.w H' h'):aX X pins σ H' { s with heap:=h',toks:=t' }:=by
 obtain ⟨m,⟨o,es,ep,ho,r⟩,_⟩:=id I.loc
 obtain ⟨sl,hL⟩:=u.any ho I.free (by simp)
 exact I.step (g':=s.gens) (d':=s.drawn) (ch:=[]) (fun _ z=>nomatch z) (fun b o _ hb _ e n=>u.keep b o e n hb (by simp)) (fun b o _ hb _ e n=>u.slot b o e n hb (by simp)) (fun b o _ e n=>u.free b o e n (by simp)) (fun b o _ e=>u.there b o e (by simp)) u.tups u.frzs u.tbls (fun m' hm=>by
  obtain ⟨o',es',ep',ho',r'⟩:=hm
  rw [ho] at ho'; cases ho'
  exact ⟨_,es',ep',hL,r'⟩) hok I.bare
theorem aX.call {g':Array GenState}{t':Nat}{d':Drawn}{ch:List Addr} (I:aX X pins σ H s) (u:Un (qD X.stack) ch H H' s.heap h') (hok:mY X.prog X.w H' h') (hg:AllBare g')
  (hch:∀ b ∈ ch,(b ∈ X.ex ∨ X.s₀.heap.objs.size <= b) /\ b ≠ X.env.locals /\ (∀ x c,X.env.cells.lookup x=some c->c ≠ b) /\ ∀ p ∈ X.pn ++ pins,p.1 ≠ b) :
  aX X pins σ H' { s with heap:=h',gens:=g',drawn:=d',toks:=t' }:=by
 obtain ⟨m,⟨o,es,ep,ho,r⟩,_⟩:=id I.loc
 obtain ⟨sl,hL⟩:=u.any ho I.free fun z=>(hch _ z).2.1 rfl
 exact I.step (ch:=ch) hch (fun b o hL hb hc e n=>u.keep b o e n (fun z=>(List.mem_cons.mp (I.stkSub b z)).elim hL hb) hc) (fun b o _ _ hc e n=>u.any e n hc) (fun b o hc e n=>u.free b o e n hc) (fun b o hc e=>u.there b o e hc) u.tups u.frzs u.tbls (fun m' hm=>by
  obtain ⟨o',es',ep',ho',r'⟩:=hm
  rw [ho] at ho'; cases ho'
  exact ⟨_,es',ep',hL,r'⟩) hok hg
theorem aX.turned {t':Nat}{it:Addr} (I:aX X pins σ H s) (k:∀ b o,b ≠ it->s.heap.get? b=some o->h'.get? b=some o) (hn:H it=none) (hL:it ≠ X.env.locals)
  (h1:it ∈ X.ex ∨ X.s₀.heap.objs.size <= it) (h2:∀ x c,X.env.cells.lookup x=some c->c ≠ it) (h3:∀ p ∈ X.pn ++ pins,p.1 ≠ it):aX X pins σ H { s with heap:=h',toks:=t' }:=by
 have nit:∀ b u,H b=some u->b ≠ it:=fun b u e z=>by rw [z,hn] at e; cases e
 refine I.step (g':=s.gens) (d':=s.drawn) (ch:=[it]) (fun b hb=>?_) (fun b o _ _ hc e _=>k b o (fun z=>hc (by simp [z])) e) (fun b o _ _ hc e _=>⟨o.slots,k b o (fun z=>hc (by simp [z])) e⟩) (fun _ _ _ _ n=>n)
  (fun b o hc e=>⟨o,k b o (fun z=>hc (by simp [z])) e⟩) (fun _ _ e=>e) (fun _ _ _ e=>e) (fun b ps e=>⟨#[],by rw [e]; simp⟩) (fun m hm=>?_) (fun b u e=>?_) I.bare
 ·have e:b=it:=by simpa using hb
  subst e
  exact ⟨h1,hL,h2,h3⟩
 ·obtain ⟨o,es,ep,ho,r⟩:=hm
  exact ⟨o,es,ep,k _ o (Ne.symm hL) ho,r⟩
 ·refine (I.hok b u e).stay (fun c v hc q=>k c v ?_ q) (fun _ q=>q) fun _ _ q=>q
  rcases hc with z | z
  ·rw [z]; exact nit b u e
  ·exact nit c _ z
theorem aX.tok (I:aX X pins σ H s) (t:Nat):aX X pins σ H { s with toks:=t }:=I.un (h':=s.heap) (t':=t) Un.refl I.hok
theorem aX.kept {t':Nat} (I:aX X pins σ H s) (k:∀ b u,s.heap.get? b=some u->h'.get? b=some u):aX X pins σ H { s with heap:=h',toks:=t' }:=I.un (Un.kept k) (I.hok.kept k)
theorem aX.laid {a:Addr}{o:HO}{t':Nat} (I:aX X pins σ H s) (k:∀ b u,s.heap.get? b=some u->h'.get? b=some u) (hp:s.heap.objs.size <= a) (new:cY X.prog X.w (aU H a o) h' a o) :
  aX X pins σ (aU H a o) { s with heap:=h',toks:=t' }:=I.un (Un.laid k hp (I.hok.fresh hp)) (I.hok.laid k hp new)
theorem aX.write {x e:Addr}{o:HO}{t':Nat} (I:aX X pins σ H s) (mu:Ub (H x)) (he:e=x ∨ H e=some (.own x)) (k:∀ b u,b ≠ e->s.heap.get? b=some u->h'.get? b=some u) (heo:∃ u,h'.get? e=some u)
  (new:cY X.prog X.w (aU H x o) h' x o):aX X pins σ (aU H x o) { s with heap:=h',toks:=t' }:=I.un (Un.write mu he k heo) (I.hok.write mu he k heo new)
theorem aX.weak {σ':List (Option V)} (I:aX X pins σ H s) (hl:σ'.length = σ.length) (w:∀ (i:Nat) v,σ'[i]? = some (some v)->σ[i]? = some (some v)):aX X pins σ' H s :=
 ⟨I.ok,I.os,I.bare,I.base,let ⟨m,hn,hl'⟩:=I.loc; ⟨m,hn,fun i x v e1 e2 e3=>hl' i x v e1 (w i v e2) e3⟩,I.cell,I.free,I.freeC,I.pin,I.hok,hl.trans I.len⟩
theorem aX.pins_of {pins':List (Addr × Obj)} (I:aX X pins σ H s) (h:∀ p ∈ pins',s.heap.get? p.1=some p.2 /\ H p.1=none /\ p.1 ≠ X.env.locals /\ p.1 ∉ X.fs /\ ∀ v,p.2.data ≠ .cell v):aX X pins' σ H s :=
 ⟨I.ok,I.os,I.bare,I.base,I.loc,I.cell,I.free,I.freeC,fun p hp=>(List.mem_append.mp hp).elim (fun z=>I.pin p (List.mem_append_left _ z)) (h p),I.hok,I.len⟩
theorem uC {N:List Str} (hN:N.Nodup) {i j:Nat}{x:Str} (a:N[i]? = some x) (b:N[j]? = some x):i=j:=by
 obtain ⟨h1,e1⟩:=List.getElem?_eq_some_iff.mp a
 obtain ⟨h2,e2⟩:=List.getElem?_eq_some_iff.mp b
 exact (List.getElem_inj hN).mp (e1.trans e2.symm)
theorem nT {M:Model}{A:Around}{E:Value->Shared->Prop}{i:Nat}{x:Str}{v:V}{u:Value}{Q:Unit->Shared->Prop} (I:aX X pins σ H s) (hN:X.N.Nodup) (hi:X.N[i]? = some x) (hx:YM X.env.scope x) (r:bG v u)
  (h:∀ s',aX X pins (σ.set i (some v)) H s'->(∃ a,Heap.SameBut a s.heap s'.heap /\ (a=X.env.locals ∨ X.env.cells.lookup x=some a))->Q () s') (hf:X.fn x=true ∨ X.env.scope.names.lookup x=some .local:=by first | exact .inl rfl | exact .inr rfl | assumption):wpAny M A (storeName X.env x u) Q E s:=by
 obtain ⟨m,hn,hl⟩:=id I.loc
 have hcls:(X.env.scope.kind == .class || (X.env.scope.kind == .module && X.env.locals != X.env.globals))=false:=by rw [I.ok.kind]; rfl
 have hiσ : i < σ.length:=by rw [I.len]; exact (List.getElem?_eq_some_iff.mp hi).1
 have cne:=I.cne
 have tracked:∀ {a:Addr}{h':Heap},(∃ o,s.heap.get? a=some o /\ H a=none)->Heap.SameBut a s.heap h'->mY X.prog X.w H h':=fun {a h'} ha hs b ob e=>by
  obtain ⟨_,_,hfree⟩:=ha
  refine (I.hok b ob e).stay (fun c w' hc q=>(hs.2 c ?_).trans q) (fun _ q=>q) fun _ _ q=>q
  rintro rfl
  rcases hc with rfl | hc
  ·rw [hfree] at e; cases e
  ·rw [hfree] at hc; cases hc
 rcases hx with hk | hk
 ·refine wpAny_storeName_local hk hn (fun h' hn' hs=>?_) hcls
  obtain ⟨oL,_,_,hoL,_⟩:=id hn
  refine h _ ⟨I.ok,I.os,I.bare,⟨fun b o e n hb hx=>?_,fun b o e n hb hx=>?_,I.base.free,fun b o e hx=>?_,I.base.tups,I.base.frzs,I.base.tbls⟩,⟨_,hn',fun j y v' e1 e2 e3=>?_⟩,fun y c e=>?_,I.free,I.freeC,fun p hp=>?_,tracked ⟨oL,hoL,I.free⟩ hs,by simpa using I.len⟩ ⟨_,hs,.inl rfl⟩
  ·exact (hs.2 b (Nat.ne_of_lt (Nat.lt_of_lt_of_le (Heap.lt_size e) I.ok.above))).trans (I.base.keep b o e n hb hx)
  ·obtain ⟨sl,e1⟩:=I.base.slot b o e n hb hx
   exact ⟨sl,(hs.2 b (Nat.ne_of_lt (Nat.lt_of_lt_of_le (Heap.lt_size e) I.ok.above))).trans e1⟩
  ·obtain ⟨o',e1⟩:=I.base.there b o e hx
   exact ⟨o',(hs.2 b (Nat.ne_of_lt (Nat.lt_of_lt_of_le (Heap.lt_size e) I.ok.above))).trans e1⟩
  ·by_cases hj:j=i
   ·subst hj
    rw [hi] at e1; cases e1
    rw [List.getElem?_set_self hiσ] at e2
    cases e2
    exact ⟨u,r,.inl ⟨hk,by simp⟩⟩
   ·rw [List.getElem?_set_ne (Ne.symm hj)] at e2
    obtain ⟨u',r',q⟩:=hl j y v' e1 e2 e3
    refine ⟨u',r',?_⟩
    rcases q with ⟨k,e⟩ | ⟨k,c,e,z⟩
    ·refine .inl ⟨k,?_⟩
     have:y ≠ x:=fun e=>hj (uC hN e1 (e ▸ hi))
     simp [this,e]
    ·exact .inr ⟨k,c,e,z.sameBut hs (cne y c e)⟩
  ·obtain ⟨w',z⟩:=I.cell y c e
   exact ⟨w',z.sameBut hs (cne y c e)⟩
  ·obtain ⟨e,n,ne,nf,d⟩:=I.pin p hp
   exact ⟨(hs.2 p.1 ne).trans e,n,ne,nf,d⟩
 ·have hfn:X.fn x=true:=by
   rcases hf with z | z
   ·exact z
   ·rw [z] at hk; cases hk
  obtain ⟨c,hc⟩:=I.ok.has x (.inl hk)
  obtain ⟨w',z⟩:=I.cell x c hc
  refine wpAny_storeName_cell I.ok.kind hk hc z (fun h' hc' hs=>?_)
  obtain ⟨oc,hoc,hocd⟩:=id z
  refine h { s with heap:=h' } ⟨I.ok,I.os,I.bare,⟨fun b o e n hb hx=>?_,fun b o e n hb hx=>?_,I.base.free,fun b o e hx=>?_,I.base.tups,I.base.frzs,I.base.tbls⟩,⟨m,hn.sameBut hs (Ne.symm (cne x c hc)),fun j y v' e1 e2 e3=>?_⟩,fun y c' e=>?_,I.free,I.freeC,fun p hp=>?_,tracked ⟨oc,hoc,I.freeC x c hc⟩ hs,by simpa using I.len⟩ ⟨c,hs,.inr hc⟩
  ·exact (hs.2 b (Nat.ne_of_lt (Nat.lt_of_lt_of_le (Heap.lt_size e) (I.ok.cab x c hfn hc)))).trans (I.base.keep b o e n hb hx)
  ·obtain ⟨sl,e1⟩:=I.base.slot b o e n hb hx
   exact ⟨sl,(hs.2 b (Nat.ne_of_lt (Nat.lt_of_lt_of_le (Heap.lt_size e) (I.ok.cab x c hfn hc)))).trans e1⟩
  ·obtain ⟨o',e1⟩:=I.base.there b o e hx
   exact ⟨o',(hs.2 b (Nat.ne_of_lt (Nat.lt_of_lt_of_le (Heap.lt_size e) (I.ok.cab x c hfn hc)))).trans e1⟩
  ·by_cases hj:j=i
   ·subst hj
    rw [hi] at e1; cases e1
    rw [List.getElem?_set_self hiσ] at e2
    cases e2
    exact ⟨u,r,.inr ⟨.inl hk,c,hc,hc'⟩⟩
   ·rw [List.getElem?_set_ne (Ne.symm hj)] at e2
    obtain ⟨u',r',q⟩:=hl j y v' e1 e2 e3
    refine ⟨u',r',?_⟩
    rcases q with q | ⟨k,c',e,z'⟩
    ·exact .inl q
    ·refine .inr ⟨k,c',e,z'.sameBut hs ?_⟩
     rintro rfl
     exact hj (uC hN e1 (I.ok.inj _ _ _ e hc ▸ hi))
  ·by_cases hcc:c'=c
   ·subst hcc; exact ⟨_,hc'⟩
   ·obtain ⟨w2,z2⟩:=I.cell y c' e
    exact ⟨w2,z2.sameBut hs hcc⟩
  ·obtain ⟨e,n,ne,nf,d⟩:=I.pin p hp
   refine ⟨(hs.2 p.1 ?_).trans e,n,ne,nf,d⟩
   intro q
   rw [q,hoc] at e
   have q':oc=p.2:=Option.some.inj e
   exact d w' (by rw [<- q']; exact hocd)
theorem Bs {M:Model}{A:Around}{E:Value->Shared->Prop}{i:Nat}{x:Str}{v:V}{u:Value}{Q:Unit->Shared->Prop} (I:aX X pins σ H s) (hN:X.N.Nodup) (hi:X.N[i]? = some x) (hx:YM X.env.scope x) (r:bG v u)
  (h:∀ s',aX X pins (σ.set i (some v)) H s'->Q () s') (hf:X.fn x=true ∨ X.env.scope.names.lookup x=some .local:=by first | exact .inl rfl | exact .inr rfl | assumption):wpAny M A (storeName X.env x u) Q E s :=
 nT I hN hi hx r (fun s' I' _=>h s' I') hf
theorem aX.call' {s':Shared}{ch:List Addr} (I:aX X pins σ H s) (ho:s'.os=s.os) (u:Un (qD X.stack) ch H H' s.heap s'.heap) (hok:mY X.prog X.w H' s'.heap) (hg:AllBare s'.gens)
  (hch:∀ b ∈ ch,(b ∈ X.ex ∨ X.s₀.heap.objs.size <= b) /\ b ≠ X.env.locals /\ (∀ x c,X.env.cells.lookup x=some c->c ≠ b) /\ ∀ p ∈ X.pn ++ pins,p.1 ≠ b):aX X pins σ H' s':=by
 obtain ⟨h',g',d',t',o'⟩:=s'
 have e:o'=s.os:=ho
 subst e
 exact I.call (g':=g') (t':=t') (d':=d') u hok hg hch
end
abbrev XK:=Value->Option Addr->Hp->Prop
abbrev St:=List (Option V)
abbrev VK:=V->Hp->Prop
abbrev TE:=St->Hp->VK->Prop
abbrev TT:=St->Hp->(Bool->Hp->Prop)->Prop
abbrev TA:=St->Hp->(List V->Hp->Prop)->Prop
structure sO where
 nx:St->Hp->Prop
 rt:VK
 bk:St->Hp->Prop:=fun _ _=>False
 ct:St->Hp->Prop:=fun _ _=>False
abbrev TS:=sO->St->Hp->Prop
def EP (X:Cx) (pins:List (Addr × Obj)) (σ : St) (Q:VK) (u:Value) (s':Shared):Prop:=∃ v H',aX X pins σ H' s' /\ bG v u /\ Q v H'
def TP (X:Cx) (pins:List (Addr × Obj)) (σ : St) (Q:Bool->Hp->Prop) (b:Bool) (s':Shared):Prop:=∃ H',aX X pins σ H' s' /\ Q b H'
def AP (X:Cx) (pins:List (Addr × Obj)) (σ : St) (Q:List V->Hp->Prop) (us:List Value) (s':Shared):Prop:=∃ vs H',aX X pins σ H' s' /\ bI vs us /\ Q vs H'
def SP (X:Cx) (pins:List (Addr × Obj)) (D:sO) (f:Flow) (s':Shared):Prop :=
 match f with
 | .next=>∃ σ' H',aX X pins σ' H' s' /\ D.nx σ' H'
 | .brk=>∃ σ' H',aX X pins σ' H' s' /\ D.bk σ' H'
 | .cont=>∃ σ' H',aX X pins σ' H' s' /\ D.ct σ' H'
 | .ret u=>∃ v σ' H',aX X pins σ' H' s' /\ bG v u /\ D.rt v H'
def PE (X:Cx) (e:Expr) (t:TE):Prop :=
 ∀ (pins:List (Addr × Obj)) (s:Shared) (σ : St) (H:Hp) (Q:VK),aX X pins σ H s->t σ H Q->wpAny (model X.prog X.w) X.A (eval e X.env) (EP X pins σ Q) X.xe s
def PT (X:Cx) (e:Expr) (t:TT):Prop :=
 ∀ (pins:List (Addr × Obj)) (s:Shared) (σ : St) (H:Hp) (Q:Bool->Hp->Prop),aX X pins σ H s->t σ H Q->wpAny (model X.prog X.w) X.A (isTrue e X.env (eval e X.env)) (TP X pins σ Q) X.xe s
def PW (X:Cx) (e:Expr) (t:TT):Prop :=
 ∀ (whole:Sem Value) (pins:List (Addr × Obj)) (s:Shared) (σ : St) (H:Hp) (Q:Bool->Hp->Prop),aX X pins σ H s->t σ H Q->wpAny (model X.prog X.w) X.A (isTrue e X.env whole) (TP X pins σ Q) X.xe s
theorem PW.pt {X:Cx}{e:Expr}{t:TT} (h:PW X e t):PT X e t:=h _
def PA (X:Cx) (es:List Expr) (t:TA):Prop :=
 ∀ (pos:Pos) (pins:List (Addr × Obj)) (s:Shared) (σ : St) (H:Hp) (Q:List V->Hp->Prop),aX X pins σ H s->t σ H Q->wpAny (model X.prog X.w) X.A (spliced (backTo pos (starEach es X.env))) (AP X pins σ Q) X.xe s
def PS (X:Cx) (st:Stmt) (t:TS):Prop :=
 ∀ (pins:List (Addr × Obj)) (s:Shared) (σ : St) (H:Hp) (D:sO),aX X pins σ H s->t D σ H->wpAny (model X.prog X.w) X.A (exec st X.env) (SP X pins D) X.xe s
def oZ (X:Cx) (st:List Stmt) (t:TS):Prop :=
 ∀ (pins:List (Addr × Obj)) (s:Shared) (σ : St) (H:Hp) (D:sO),aX X pins σ H s->t D σ H->wpAny (model X.prog X.w) X.A (execs st X.env) (SP X pins D) X.xe s
theorem d8 {α : Type}{t:Sem α}{Q Q':α->Shared->Prop}{M:Model}{A:Around}{E:Value->Shared->Prop}{s:Shared} (h:wpAny M A t Q E s) (hQ:∀ a s,Q a s->Q' a s):wpAny M A t Q' E s:=wpAny_mono h hQ fun _ _ x=>x
end L2
namespace L2
open PySem PySem.Spec PyProof.Rows
section
variable {X:Cx}
def HN (i:Nat):TE:=fun σ H Q=>∃ v,σ[i]? = some (some v) /\ Q v H
def tC (v:V):TE:=fun _ H Q=>Q v H
theorem Ik {i:Nat}{x:Str}{pos:Pos} (hN:X.N[i]? = some x) (hv:ZS X.env.scope x) (hd:(x == ("__debug__" : Str))=false:=by decide) (hcd:(x == ("__classdict__" : Str))=false:=by decide):PE X (.Name x pos) (HN i):=by
 intro pins s σ H Q I h
 obtain ⟨v,e,h⟩:=h
 obtain ⟨m,hn,hl⟩:=I.loc
 obtain ⟨u,r,l⟩:=hl i x v hN e hv
 have fin:EP X pins σ Q u s:=⟨v,H,I,r,h⟩
 rcases l with ⟨hk,hm⟩ | ⟨hk,c,hc,hcell⟩
 ·exact wpAny_Name (wpAny_loadName_local I.ok.kind hk hn hm fin) hd
 ·rcases hk with hk | hk
  ·exact wpAny_Name (wpAny_loadName_cell I.ok.kind hk hc hcell fin) hd
  ·exact wpAny_Name (wpAny_loadName_free I.ok.kind hk hc hcell fin hcd) hd
theorem aH {i j pos}:PE X (.Constant (.int i) j pos) (tC (.int i)):=fun _ _ _ H _ I h=>wpAny_Constant_int ⟨.int i,H,I.tok _,⟨_,rfl⟩,h⟩
theorem lR {b j pos}:PE X (.Constant (.bool b) j pos) (tC (.bl b)):=fun _ _ _ H _ I h=>Constant_bool ⟨.bl b,H,I,rfl,h⟩
theorem qK {j pos}:PE X (.Constant .none j pos) (tC .non):=fun _ _ _ H _ I h=>Constant_none ⟨.non,H,I,rfl,h⟩
theorem lA {x j pos}:PE X (.Constant (.str x) j pos) (tC (.str x)):=fun _ _ _ H _ I h=>Calls.Constant_str ⟨.str x,H,I.tok _,⟨_,rfl⟩,h⟩
def Gl (X:Cx) (x:Str):Prop:=X.env.kindOf x=some .globalImplicit
theorem m8 {E:Value->Shared->Prop}{pins:List (Addr × Obj)}{s:Shared}{σ : St}{H:Hp}{x:Str}{u:Value}{pos:Pos}{Q:Value->Shared->Prop} (I:aX X pins σ H s) (hg:Gl X x) (hm:X.mg x=some u) (h:Q u s)
  (hd:(x == ("__debug__" : Str))=false:=by decide):wpAny (model X.prog X.w) X.A (eval (.Name x pos) X.env) Q E s :=
 Calls.Name_function_global I.ok.kind hg (Calls.loadGlobal_global (by rw [I.ok.glob]; exact I.mod.glob.keeps I.bk) hm h) hd
theorem qM {E:Value->Shared->Prop}{pins:List (Addr × Obj)}{s:Shared}{σ : St}{H:Hp}{x:Str}{u:Value}{pos:Pos}{Q:Value->Shared->Prop} (I:aX X pins σ H s) (hg:Gl X x) (hm:X.mg x=none) (hv:bootBuiltins x=some u) (h:Q u s)
  (hn:x ≠ "__name__":=by decide) (hd:(x == ("__debug__" : Str))=false:=by decide):wpAny (model X.prog X.w) X.A (eval (.Name x pos) X.env) Q E s:=by
 obtain ⟨mb,h1,h2⟩:=I.mod.blt
 exact Calls.Name_function_global I.ok.kind hg (Calls.loadGlobal_builtin (by rw [I.ok.glob]; exact I.mod.glob.keeps I.bk) hm (by rw [I.ok.blt]; exact h1.keeps I.bk) ((h2 x hn).trans hv) h) hd
theorem dB {x:Str}{v:V}{u:Value}{pos:Pos} (hg:Gl X x) (hm:X.mg x=some u) (r:bG v u) (hd:(x == ("__debug__" : Str))=false:=by decide):PE X (.Name x pos) (tC v) :=
 fun _ _ _ H _ I h=>m8 I hg hm ⟨v,H,I,r,h⟩ hd
theorem mZ {x:Str}{v:V}{u:Value}{pos:Pos} (hg:Gl X x) (hm:X.mg x=none) (hv:bootBuiltins x=some u) (r:bG v u) (hn:x ≠ "__name__":=by decide) (hd:(x == ("__debug__" : Str))=false:=by decide):PE X (.Name x pos) (tC v) :=
 fun _ _ _ H _ I h=>qM I hg hm hv ⟨v,H,I,r,h⟩ hn hd
variable {a b:Expr}{ta tb:TE}{pos:Pos}
def tB (t:TE):TT:=fun σ H Q=>t σ H fun x H1=>∃ c,x = .bl c /\ Q c H1
theorem fK {e:Expr}{t:TE} (h:PE X e t) (he:∀ whole,isTrue e X.env whole=(do let v <- whole; standAt e.pos; holding [v] (truthy v)):=by intro _; rfl):PT X e (tB t):=by
 intro pins s σ H Q I hw
 refine isTrue_plain (d8 (h pins s σ H _ I hw) fun v s1 ⟨x,H1,I1,r1,q1⟩=>?_) (he _)
 obtain ⟨d,rfl,q⟩:=q1
 cases r1
 exact wpAny_truthy_bool ⟨H1,I1,q⟩
variable {tA tB':TT}{j4:List Expr}
def aAn (t u:TT):TT:=fun σ H Q=>t σ H fun c H1=>if c=true then u σ H1 Q else Q false H1
def tOr (t u:TT):TT:=fun σ H Q=>t σ H fun c H1=>if c=true then Q true H1 else u σ H1 Q
def aBM (t:TT):TT:=fun σ H Q=>t σ H fun c H1=>Q (!c) H1
theorem La (ha:PT X a tA):PW X (.BoolOp .And [a] pos) tA:=by
 intro wh pins s σ H Q I h
 refine isTrue_and (d8 (ha pins s σ H Q I h) fun c s1 e=>?_)
 cases c with
 | true=>exact isTrue_and_nil e
 | false=>exact e
theorem mG (ha:PT X a tA):PW X (.BoolOp .Or [a] pos) tA:=by
 intro wh pins s σ H Q I h
 refine isTrue_or (d8 (ha pins s σ H Q I h) fun c s1 e=>?_)
 cases c with
 | false=>exact isTrue_or_nil e
 | true=>exact e
theorem QC (ha:PT X a tA) (hb:PW X (.BoolOp .And (b :: j4) pos) tB'):PW X (.BoolOp .And (a :: b :: j4) pos) (aAn tA tB'):=by
 intro wh pins s σ H Q I h
 refine isTrue_and (d8 (ha pins s σ H _ I h) fun c s1 ⟨H1,I1,q1⟩=>?_)
 cases c with
 | true=>exact hb wh pins s1 σ H1 Q I1 q1
 | false=>exact ⟨H1,I1,q1⟩
theorem rN (ha:PT X a tA) (hb:PW X (.BoolOp .Or (b :: j4) pos) tB'):PW X (.BoolOp .Or (a :: b :: j4) pos) (tOr tA tB'):=by
 intro wh pins s σ H Q I h
 refine isTrue_or (d8 (ha pins s σ H _ I h) fun c s1 ⟨H1,I1,q1⟩=>?_)
 cases c with
 | true=>exact ⟨H1,I1,q1⟩
 | false=>exact hb wh pins s1 σ H1 Q I1 q1
theorem fW (ha:PT X a tA):PT X (.UnaryOp .Not a pos) (aBM tA):=by
 intro pins s σ H Q I h
 exact isTrue_not (ha pins s σ H (fun c H1=>Q (!c) H1) I h)
def XS (ta tb:TE):TE:=fun σ H Q=>ta σ H fun x H1=>∃ c,x = .bl c /\ if c=true then tb σ H1 Q else Q (.bl false) H1
def aAT (ta tb:TE):TE:=fun σ H Q=>ta σ H fun x H1=>∃ c,x = .bl c /\ if c=true then Q (.bl true) H1 else tb σ H1 Q
def Rk (ta:TE):TE:=fun σ H Q=>ta σ H fun x H1=>∃ c,x = .bl c /\ Q (.bl (!c)) H1
theorem Aa {op}{t:TE} (h:PE X a t):PE X (.BoolOp op [a] pos) t:=fun pins s σ H Q I hw=>BoolOp_one (h pins s σ H Q I hw)
theorem zO (ha:PE X a ta) (hb:PE X (.BoolOp .And (b :: j4) pos) tb):PE X (.BoolOp .And (a :: b :: j4) pos) (XS ta tb):=by
 intro pins s σ H Q I h
 refine BoolOp_and (d8 (ha pins s σ H _ I h) fun v s1 ⟨x,H1,I1,r1,q1⟩=>?_)
 obtain ⟨c,rfl,q1⟩:=q1
 cases r1
 refine wpAny_truthy_bool ?_
 cases c with
 | true=>exact hb pins s1 σ H1 Q I1 q1
 | false=>exact ⟨.bl false,H1,I1,rfl,q1⟩
theorem ZJ (ha:PE X a ta) (hb:PE X (.BoolOp .Or (b :: j4) pos) tb):PE X (.BoolOp .Or (a :: b :: j4) pos) (aAT ta tb):=by
 intro pins s σ H Q I h
 refine BoolOp_or (d8 (ha pins s σ H _ I h) fun v s1 ⟨x,H1,I1,r1,q1⟩=>?_)
 obtain ⟨c,rfl,q1⟩:=q1
 cases r1
 refine wpAny_truthy_bool ?_
 cases c with
 | false=>exact hb pins s1 σ H1 Q I1 q1
 | true=>exact ⟨.bl true,H1,I1,rfl,q1⟩
theorem QR (ha:PE X a ta):PE X (.UnaryOp .Not a pos) (Rk ta):=by
 intro pins s σ H Q I h
 refine UnaryOp_ (d8 (ha pins s σ H _ I h) fun v s1 ⟨x,H1,I1,r1,q1⟩=>?_)
 obtain ⟨c,rfl,q1⟩:=q1
 cases r1
 exact not_of (wpAny_truthy_bool ⟨.bl (!c),H1,I1,rfl,q1⟩)
def tIf (t:TT) (ta tb:TE):TE:=fun σ H Q=>t σ H fun c H1=>if c=true then ta σ H1 Q else tb σ H1 Q
theorem Bm {c:Expr} (hc:PT X c tA) (ha:PE X a ta) (hb:PE X b tb):PE X (.IfExp c a b pos) (tIf tA ta tb):=by
 intro pins s σ H Q I h
 refine wpAny_IfExp (d8 (hc pins s σ H _ I h) fun d s1 ⟨H1,I1,q1⟩=>?_)
 cases d with
 | true=>exact ha pins s1 σ H1 Q I1 q1
 | false=>exact hb pins s1 σ H1 Q I1 q1
end
end L2
namespace L2
open PySem PySem.Spec PyProof.Rows
def bO (K:PySem.W.Frag) (H:Hp) (a:Addr) (xs:List V):Prop :=
 Rd H a (.lst xs) ∨
  ∃ (o:Obj) (its:Array Value) (n:Nat),K.lookup a=some o /\ o.cls = .type "list" /\ o.dict=none /\ o.data = .seq its n /\ its.size <= sizeLine /\ bI xs its.toList
def cN (K:PySem.W.Frag) (H:Hp) (a:Addr) (xs:List V):Prop :=
 Rd H a (.tup xs) ∨
  ∃ (o:Obj) (its:Array Value) (n:Nat),K.lookup a=some o /\ o.cls = .type "tuple" /\ o.data = .seq its n /\ its.size <= sizeLine /\ bI xs its.toList
def aBD:Value->Option V
 | .none=>some .non
 | .bool b=>some (.bl b)
 | .int i _=>some (.int i)
 | .str x _=>some (.str x)
 | .bytes b _=>some (.byt b)
 | .float b _=>some (.flt b)
 | .ref a=>some (.ref a)
 | .type n=>some (.ty n)
 | _=>none
theorem bG.abs {x:V}{u:Value} (r:bG x u):aBD u=some x:=by
 cases x with
 | non=>cases r; rfl
 | bl _=>cases r; rfl
 | int _=>obtain ⟨t,rfl⟩:=r; rfl
 | str _=>obtain ⟨t,rfl⟩:=r; rfl
 | byt _=>obtain ⟨t,rfl⟩:=r; rfl
 | flt _=>obtain ⟨t,rfl⟩:=r; rfl
 | ref _=>cases r; rfl
 | ty _=>cases r; rfl
theorem bG.inj {x y:V}{u:Value} (r:bG x u) (q:bG y u):x=y:=Option.some.inj (r.abs.symm.trans q.abs)
theorem bI.inj:∀ {xs ys:List V}{us:List Value},bI xs us->bI ys us->xs=ys
 | _,_,_,.nil,.nil=>rfl
 | _,_,_,.cons r t,.cons r' t'=>by rw [r.inj r',bI.inj t t']
section
variable {X:Cx}{pins:List (Addr × Obj)}{σ : St}{H:Hp}{s:Shared}{a:Addr}{xs ys:List V}
theorem bO.of {K:PySem.W.Frag} (h:H a=some (.lst xs)):bO K H a xs:=.inl (.inl h)
theorem cN.of {K:PySem.W.Frag} (h:H a=some (.tup xs)):cN K H a xs:=.inl (.inl h)
theorem aX.list (I:aX X pins σ H s) (h:bO X.K H a xs):∃ its:List Value,bI xs its /\ PlainL s.heap a its.toArray /\ xs.length <= sizeLine:=by
 rcases h with h | ⟨o,its,n,hk,hc,hd,hs,hz,r⟩
 ·obtain ⟨z,its,n,r,e⟩:=h.ok I.hok
  exact ⟨its,r,⟨_,n,e,rfl,rfl,rfl⟩,z⟩
 ·refine ⟨its.toList,r,⟨o,n,I.kIn a o hk,hc,hd,by simpa using hs⟩,?_⟩
  have e:=r.length
  simp only [Array.length_toList] at e
  omega
theorem aX.tuple (I:aX X pins σ H s) (h:cN X.K H a xs):∃ its:List Value,bI xs its /\ IsTup s.heap a its.toArray /\ xs.length <= sizeLine:=by
 rcases h with h | ⟨o,its,n,hk,hc,hs,hz,r⟩
 ·obtain ⟨z,its,r,p⟩:=h.ok I.hok
  exact ⟨its,r,p,z⟩
 ·refine ⟨its.toList,r,⟨o,I.kIn a o hk,hc,n,by simpa using hs⟩,?_⟩
  have e:=r.length
  simp only [Array.length_toList] at e
  omega
theorem aX.list_inj (I:aX X pins σ H s) (h:bO X.K H a xs) (h':bO X.K H a ys):xs=ys:=by
 obtain ⟨its,r,⟨o,n,e,_,_,d⟩,_⟩:=I.list h
 obtain ⟨its',r',⟨o',n',e',_,_,d'⟩,_⟩:=I.list h'
 rw [e] at e'; cases e'
 rw [d] at d'
 injection d' with d1 _
 have:its=its':=by simpa using congrArg Array.toList d1
 subst this
 exact r.inj r'
theorem aX.tuple_inj (I:aX X pins σ H s) (h:cN X.K H a xs) (h':cN X.K H a ys):xs=ys:=by
 obtain ⟨its,r,⟨o,e,_,n,d⟩,_⟩:=I.tuple h
 obtain ⟨its',r',⟨o',e',_,n',d'⟩,_⟩:=I.tuple h'
 rw [e] at e'; cases e'
 rw [d] at d'
 injection d' with d1 _
 have:its=its':=by simpa using congrArg Array.toList d1
 subst this
 exact r.inj r'
end
abbrev Cx.wish (X:Cx) (E:Value->Shared->Prop):Cx:={ X with xe:=E }
abbrev Cx.nox (X:Cx):Cx:=X.wish fun _ _=>False
theorem Cx.Ok.wish {X:Cx} (ok:X.Ok) (E:Value->Shared->Prop):(X.wish E).Ok :=
 ⟨ok.mod,ok.kind,ok.glob,ok.blt,ok.above,ok.inj,ok.has,ok.cab,ok.hd,ok.frames,ok.stk,ok.exf,ok.bs,ok.bsz,ok.noex,ok.exfs,ok.funs,ok.frf⟩
theorem Cx.Ok.unwish {X:Cx}{E:Value->Shared->Prop} (ok:(X.wish E).Ok):X.Ok :=
 ⟨ok.mod,ok.kind,ok.glob,ok.blt,ok.above,ok.inj,ok.has,ok.cab,ok.hd,ok.frames,ok.stk,ok.exf,ok.bs,ok.bsz,ok.noex,ok.exfs,ok.funs,ok.frf⟩
section
variable {X:Cx}{pins:List (Addr × Obj)}{σ : St}{H:Hp}{s:Shared}{E:Value->Shared->Prop}
theorem aX.wish (I:aX X pins σ H s) (E:Value->Shared->Prop):aX (X.wish E) pins σ H s:=⟨I.ok.wish E,I.os,I.bare,I.base,I.loc,I.cell,I.free,I.freeC,I.pin,I.hok,I.len⟩
theorem aX.unwish (I:aX (X.wish E) pins σ H s):aX X pins σ H s:=⟨I.ok.unwish,I.os,I.bare,I.base,I.loc,I.cell,I.free,I.freeC,I.pin,I.hok,I.len⟩
theorem SP.unwish {D:sO}{f:Flow}{s':Shared} (h:SP (X.wish E) pins D f s'):SP X pins D f s':=by
 cases f with
 | next=>obtain ⟨σ',H',I,q⟩:=h; exact ⟨σ',H',I.unwish,q⟩
 | brk=>obtain ⟨σ',H',I,q⟩:=h; exact ⟨σ',H',I.unwish,q⟩
 | cont=>obtain ⟨σ',H',I,q⟩:=h; exact ⟨σ',H',I.unwish,q⟩
 | ret u=>obtain ⟨v,σ',H',I,r,q⟩:=h; exact ⟨v,σ',H',I.unwish,r,q⟩
theorem PE.nox {e:Expr}{t:TE} (h:PE X.nox e t):PE X e t:=fun pins s σ H Q I hw =>
 wpAny_mono (h pins s σ H Q (I.wish _) hw) (fun _ _ ⟨v,H',I',r,q⟩=>⟨v,H',I'.unwish,r,q⟩) fun _ _ z=>False.elim z
theorem PT.nox {e:Expr}{t:TT} (h:PT X.nox e t):PT X e t:=fun pins s σ H Q I hw =>
 wpAny_mono (h pins s σ H Q (I.wish _) hw) (fun _ _ ⟨H',I',q⟩=>⟨H',I'.unwish,q⟩) fun _ _ z=>False.elim z
theorem oZ.nox {st:List Stmt}{t:TS} (h:oZ X.nox st t):oZ X st t:=fun pins s σ H D I hw =>
 wpAny_mono (h pins s σ H D (I.wish _) hw) (fun _ _ q=>q.unwish) fun _ _ z=>False.elim z
end
section
variable {X:Cx}{st:Stmt}{j4:List Stmt}{t u:TS}{e:Expr}{te:TE}{pos:Pos}
def YG:TS:=fun D σ H=>D.nx σ H
def XX (t u:TS):TS:=fun D σ H=>t { D with nx:=u D } σ H
theorem bY:oZ X [] YG:=fun _ _ σ H _ I h=>wpAny_execs_nil ⟨σ,H,I,h⟩
theorem aG (h1:PS X st t) (h2:oZ X j4 u):oZ X (st :: j4) (XX t u):=by
 intro pins s σ H D I h
 refine wpAny_execs_cons (d8 (h1 pins s σ H { D with nx:=u D } I h) fun f s1 q=>?_)
 cases f with
 | next =>
  obtain ⟨σ',H',I',q⟩:=q
  exact h2 pins s1 σ' H' D I' q
 | ret v=>exact q
 | brk=>exact q
 | cont=>exact q
theorem aJ (h1:PS X st t):oZ X [st] t:=by
 intro pins s σ H D I h
 refine wpAny_execs_cons (d8 (h1 pins s σ H D I h) fun f s1 q=>?_)
 cases f with
 | next=>exact wpAny_execs_nil q
 | ret v=>exact q
 | brk=>exact q
 | cont=>exact q
def Ox:TS:=fun D σ H=>D.bk σ H
theorem Kl:PS X (.Break pos) Ox:=fun _ _ σ H _ I h=>wpAny_Break ⟨σ,H,I,h⟩
theorem aX.quiet {pins:List (Addr × Obj)}{σ : St}{H:Hp}{s:Shared} (I:aX X pins σ H s):interactive X.env=false:=by simp [interactive,I.ok.kind]
def YT (te:TE):TS:=fun D σ H=>te σ H fun _ H1=>D.nx σ H1
theorem eF (he:PE X e te) (hs:swapsWith e none pos.line X.env=pure false:=by rfl):PS X (.Expr e pos) (YT te):=by
 intro pins s σ H D I h
 exact wpAny_Expr_any (d8 (he pins s σ H _ I h) fun v s1 ⟨x,H1,I1,r1,q1⟩=>⟨σ,H1,I1,q1⟩) I.quiet hs
def Tz (te:TE):TS:=fun D σ H=>te σ H D.rt
theorem aW (he:PE X e te):PS X (.Return (some e) pos) (Tz te):=by
 intro pins s σ H D I h
 exact wpAny_Return_some (d8 (he pins s σ H _ I h) fun v s1 ⟨x,H1,I1,r1,q1⟩=>⟨x,σ,H1,I1,r1,q1⟩)
def aAL (c:TT) (t u:TS):TS:=fun D σ H=>c σ H fun b H1=>if b=true then t D σ H1 else u D σ H1
theorem dO {c:Expr}{a b:List Stmt}{tc:TT} (hc:PT X c tc) (ha:oZ X a t) (hb:oZ X b u):PS X (.If c a b pos) (aAL tc t u):=by
 intro pins s σ H D I h
 refine wpAny_If (d8 (hc pins s σ H _ I h) fun d s1 ⟨H1,I1,q1⟩=>?_)
 cases d with
 | true=>exact ha pins s1 σ H1 D I1 q1
 | false=>exact hb pins s1 σ H1 D I1 q1
def PX:TS:=fun _ _ _=>False
theorem xZ {sts:List Stmt}:oZ X sts PX:=fun _ _ _ _ _ _ h=>h.elim
end
abbrev TG:=V->St->Hp->(St->Hp->Prop)->Prop
abbrev Nj:=List V->St->Hp->(St->Hp->Prop)->Prop
def PG (X:Cx) (target:Expr) (t:TG):Prop :=
 ∀ (pins:List (Addr × Obj)) (s:Shared) (σ : St) (H:Hp) (v:V) (u:Value) (Q:St->Hp->Prop),aX X pins σ H s->bG v u->t v σ H Q ->
  wpAny (model X.prog X.w) X.A (assign target X.env u) (fun _ s'=>∃ σ' H',aX X pins σ' H' s' /\ Q σ' H') X.xe s
def RQ (X:Cx) (ts:List Expr) (t:Nj):Prop :=
 ∀ (pins:List (Addr × Obj)) (s:Shared) (σ : St) (H:Hp) (vs:List V) (us:List Value) (Q:St->Hp->Prop),aX X pins σ H s->bI vs us->t vs σ H Q ->
  wpAny (model X.prog X.w) X.A (assignInOrder ((assignEach ts X.env).map (·.2)) us) (fun _ s'=>∃ σ' H',aX X pins σ' H' s' /\ Q σ' H') X.xe s
abbrev Qg:=V->V->V->Hp->(Hp->Prop)->Prop
def Rm (X:Cx) (t:Qg):Prop :=
 ∀ (pins:List (Addr × Obj)) (s:Shared) (σ : St) (H:Hp) (o i v:V) (ov iv u:Value) (Q:Hp->Prop),aX X pins σ H s->bG o ov->bG i iv->bG v u->t o i v H Q ->
  wpAny (model X.prog X.w) X.A (setItem ov iv u) (fun _ s'=>∃ H',aX X pins σ H' s' /\ Q H') X.xe s
section
variable {X:Cx}{pos:Pos}
def xK (i:Nat):TG:=fun v σ H Q=>Q (σ.set i (some v)) H
theorem bA {i:Nat}{x:Str} (hN:X.N.Nodup) (hi:X.N[i]? = some x) (hx:YM X.env.scope x) (hf:X.fn x=true ∨ X.env.scope.names.lookup x=some .local:=by first | exact .inl rfl | exact .inr rfl | assumption):PG X (.Name x pos) (xK i):=by
 intro pins s σ H v u Q I r h
 exact wpAny_assign_Name (Bs I hN hi hx r (fun s' I'=>⟨_,H,I',h⟩) hf)
def aAr:Nj:=fun vs σ H Q=>vs=[] /\ Q σ H
def RL (t:TG) (u:Nj):Nj:=fun vs σ H Q=>∃ v r,vs=v :: r /\ t v σ H fun σ' H'=>u r σ' H' Q
theorem fM:RQ X [] aAr:=by
 intro pins s σ H vs us Q I r h
 obtain ⟨e,h⟩:=h
 subst e
 cases r
 exact assignInOrder_nil ⟨σ,H,I,h⟩
theorem bM {e:Expr}{es:List Expr}{t:TG}{u:Nj} (h1:PG X e t) (h2:RQ X es u)
  (hs:(assignEach (e :: es) X.env).map (·.2)=assign e X.env :: (assignEach es X.env).map (·.2):=by rfl):RQ X (e :: es) (RL t u):=by
 intro pins s σ H vs us Q I r h
 obtain ⟨v,vr,e1,h⟩:=h
 subst e1
 cases r with
 | cons r rr =>
  rw [hs]
  refine assignInOrder_cons (d8 (h1 pins s σ H _ _ _ I r h) fun _ s1 ⟨σ1,H1,I1,q1⟩=>?_)
  exact h2 pins s1 σ1 H1 _ _ Q I1 rr q1
def WN (K:PySem.W.Frag) (n:Nat) (t:Nj):TG:=fun v σ H Q=>∃ a xs,v = .ref a /\ cN K H a xs /\ xs.length=n /\ t xs σ H Q
theorem zA {es:List Expr}{k:Nat}{t:Nj}{n:Nat} (hc:X.calm=true) (h:RQ X es t)
  (hn:(assignEach es X.env).length=n:=by rfl) (hst:(assignEach es X.env).findIdx? (·.1)=none:=by rfl):PG X (.Tuple es k pos) (WN X.K n t):=by
 intro pins s σ H v u Q I r hw
 obtain ⟨a,xs,e1,hq,hl,hw⟩:=hw
 subst e1
 cases r
 obtain ⟨its,rv,ht,hz⟩:=I.tuple hq
 refine assign_Tuple_tuple (I.ok.hd hc) ht (by simp [hn,<- hl,rv.length]) hst fun h' hx=>?_
 have I1:aX X pins σ H { s with heap:=h' }:=I.kept (t':=s.toks) fun b o e=>hx b o (Nat.ne_of_lt (Heap.lt_size e)) e
 exact h pins _ σ H xs _ Q I1 (by simpa using rv) hw
def Zt (to ti:TE) (t:Qg):TG:=fun v σ H Q=>to σ H fun o H1=>ti σ H1 fun i H2=>t o i v H2 fun H3=>Q σ H3
theorem Ia {o i:Expr}{to ti:TE}{t:Qg} (ho:PE X o to) (hi:PE X i ti) (hs:Rm X t)
  (ha:∀ v,assign (.Subscript o i pos) X.env v=(do
   let ov <- holding [v] (eval o X.env)
   let iv <- holding [v,ov] (eval i X.env)
   standAt pos
   holding [v,ov,iv] (setItem ov iv v)
   release [v,ov,iv] []):=by intro _; rfl):PG X (.Subscript o i pos) (Zt to ti t):=by
 intro pins s σ H v u Q I r h
 rw [ha]
 refine wpAny_bind (wpAny_holding (d8 (ho pins s σ H _ I h) fun ov s1 ⟨x,H1,I1,r1,q1⟩=>?_))
 refine wpAny_bind (wpAny_holding (d8 (hi pins s1 σ H1 _ I1 q1) fun iv s2 ⟨y,H2,I2,r2,q2⟩=>?_))
 refine wpAny_bind (wpAny_standAt (wpAny_bind (wpAny_holding (d8 (hs pins s2 σ H2 x y v ov iv u _ I2 r1 r2 r q2) fun _ s3 ⟨H3,I3,q3⟩=>?_))))
 exact wpAny_release ⟨σ,H3,I3,q3⟩
def Q3 (te:TE) (g:TG):TS:=fun D σ H=>te σ H fun x H1=>g x σ H1 D.nx
theorem JW {tg e:Expr}{te:TE}{g:TG} (he:PE X e te) (hg:PG X tg g) (hs:swapsWithSole [tg] e pos.line X.env=pure false:=by rfl) (hw:swappedStores [tg] e X.env=pure none:=by rfl)
  (h1:(assignEach [tg] X.env).map (·.2)=[assign tg X.env]:=by rfl):PS X (.Assign [tg] e pos) (Q3 te g):=by
 intro pins s σ H D I h
 refine wpAny_Assign_stores (d8 (he pins s σ H _ I h) fun v s1 ⟨x,H1,I1,r1,q1⟩=>?_) hs hw
 rw [h1]
 exact d8 (hg pins s1 σ H1 x v _ I1 r1 q1) fun _ s2 q=>q
theorem aV {i:Nat}{x:Str}{e:Expr}{te:TE}{pos':Pos} (hN:X.N.Nodup) (hi:X.N[i]? = some x) (hx:YM X.env.scope x) (he:PE X e te) (hs:swapsWith e (some (.Name x pos')) pos.line X.env=pure false:=by rfl) (hf:X.fn x=true ∨ X.env.scope.names.lookup x=some .local:=by first | exact .inl rfl | exact .inr rfl | assumption) :
  PS X (.Assign [.Name x pos'] e pos) (Q3 te (xK i)):=by
 intro pins s σ H D I h
 refine wpAny_Assign_Name (d8 (he pins s σ H _ I h) fun v s1 ⟨y,H1,I1,r1,q1⟩=>?_) hs
 exact Bs I1 hN hi hx r1 (fun s2 I2=>⟨_,H1,I2,q1⟩) hf
end
section
variable {X:Cx}{pos:Pos}
def JC (c:TT) (tb:TS):TS:=fun D σ H=>∃ W:Nat->St->Hp->Prop,(∃ m,W m σ H) /\ ∀ m σ H,W m σ H ->
 c σ H fun b H1=>if b=true then ∃ N:St->Hp->Prop,(∀ σ' H',N σ' H'->∃ m',m' < m /\ W m' σ' H') /\ tb { D with nx:=N,ct:=N,bk:=D.nx } σ H1 else D.nx σ H1
theorem Ig {c:Expr}{body:List Stmt}{tc:TT}{tb:TS} (hp:PassesOwn (model X.prog X.w) X.A X.env X.xe) (hc:PT X c tc) (hb:oZ X body tb):PS X (.While c body [] pos) (JC tc tb):=by
 intro pins s σ H D I h
 obtain ⟨W,⟨m0,w0⟩,turn⟩:=h
 refine wpAny_While (codeAny_whileLoop (fun n s'=>∃ σ' H',aX X pins σ' H' s' /\ W n σ' H') ?_ m0 ⟨σ,H,I,w0⟩)
 rintro n s1 ⟨σ1,H1,I1,w1⟩
 refine wpAny_passesOwn hp (d8 (hc pins s1 σ1 H1 _ I1 (turn n σ1 H1 w1)) fun b s2 ⟨H2,I2,q2⟩=>?_)
 cases b with
 | true =>
  obtain ⟨N,hN,q2⟩:=q2
  rw [if_pos rfl]
  refine wpAny_passesOwn hp (d8 (hb pins s2 σ1 H2 _ I2 q2) fun f s3 q3=>?_)
  cases f with
  | next =>
   obtain ⟨σ3,H3,I3,n3⟩:=q3
   obtain ⟨m',hm,w3⟩:=hN σ3 H3 n3
   exact ⟨m',hm,σ3,H3,I3,w3⟩
  | cont =>
   obtain ⟨σ3,H3,I3,n3⟩:=q3
   obtain ⟨m',hm,w3⟩:=hN σ3 H3 n3
   exact ⟨m',hm,σ3,H3,I3,w3⟩
  | brk=>exact q3
  | ret v=>exact q3
 | false =>
  rw [if_neg Bool.false_ne_true]
  exact wpAny_execs_nil ⟨σ1,H2,I2,q2⟩
end
structure It where
 go:Nat->Hp->Prop
 yld:Nat->Hp->V->Hp->Prop
 stop:Nat->Hp->Prop
def j7 (X:Cx) (pins:List (Addr × Obj)) (H:Hp) (b:Addr):Prop :=
 H b=none /\ b ≠ X.env.locals /\ b ∉ X.fs /\ (b ∈ X.ex ∨ X.s₀.heap.objs.size <= b) /\ (∀ x c,X.env.cells.lookup x=some c->c ≠ b) /\ ∀ p ∈ X.pn ++ pins,p.1 ≠ b
theorem aX.fpOk {X:Cx}{pins:List (Addr × Obj)}{σ : St}{H H':Hp}{s:Shared}{b:Addr} (I:aX X pins σ H s) (hb:s.heap.objs.size <= b) (hn:H' b=none):j7 X pins H' b:=by
 refine ⟨hn,Nat.ne_of_gt (Nat.lt_of_lt_of_le I.lt hb),I.nofs hb,.inr (Nat.le_trans I.sz hb),fun x c e z=>?_,fun p hp z=>?_⟩
 ·obtain ⟨v,q⟩:=I.cell x c e
  exact absurd (Nat.lt_of_lt_of_le q.lt (by rw [z]; exact hb)) (Nat.lt_irrefl _)
 ·exact absurd (Nat.lt_of_lt_of_le (Heap.lt_size (I.pin p hp).1) (by rw [z]; exact hb)) (Nat.lt_irrefl _)
structure De (P:Program) (w:World) (K:PySem.W.Frag) (tg:Expr) (J:It) (fp:List Addr) (it:Addr) (tn:Nat->Heap->Prop):Prop where
 mem:it ∈ fp
 obj:∀ i h,tn i h->∀ b ∈ fp,∃ o,h.get? b=some o /\ ∀ v,o.data ≠ .cell v
 keep:∀ i h h',tn i h->(∀ b ∈ fp,∀ o,h.get? b=some o->h'.get? b=some o)->tn i h'
 item:∀ (X:Cx),X.prog=P->X.w=w->X.K=K->X.calm=true->∀ (i:Nat) (pins:List (Addr × Obj)) (s:Shared) (σ : St) (H:Hp) (E:Value->Shared->Prop),aX X pins σ H s->(∀ b ∈ fp,j7 X pins H b)->tn i s.heap->J.go i H ->
  wpAny (model P w) X.A (pyNext (.ref it)) (fun r s1=>∃ u,r=some u ∧
   wpAny (model P w) X.A (letOwnedTupleGo tg (.ref it) u) (fun _ s2=>∃ x H',aX X pins σ H' s2 /\ bG x u /\ J.yld i H x H' /\ tn (i + 1) s2.heap /\ ∀ b ∈ fp,H' b=none) E s1) E s
 done:∀ (X:Cx),X.prog=P->X.w=w->X.K=K->X.calm=true->∀ (i:Nat) (pins:List (Addr × Obj)) (s:Shared) (σ : St) (H:Hp) (E:Value->Shared->Prop),aX X pins σ H s->(∀ b ∈ fp,j7 X pins H b)->tn i s.heap->J.stop i H ->
  wpAny (model P w) X.A (pyNext (.ref it)) (fun r s1=>r=none /\ aX X pins σ H s1) E s
 self:∀ (A:Around) (i:Nat) (s:Shared) (Q:Value->Shared->Prop) (E:Value->Shared->Prop),tn i s.heap->Q (.ref it) s->wpAny (model P w) A (pyIter (.ref it)) Q E s
abbrev TI:=St->Hp->(It->Hp->Prop)->Prop
def Zj (X:Cx) (pins:List (Addr × Obj)) (σ : St) (tg:Expr) (R:It->Hp->Prop) (itv:Value) (s2:Shared):Prop :=
 ∃ (it:Addr) (fp:List Addr) (tn:Nat->Heap->Prop) (J:It) (H':Hp),itv = .ref it /\ aX X pins σ H' s2 /\ De X.prog X.w X.K tg J fp it tn /\ tn 0 s2.heap /\ (∀ b ∈ fp,j7 X pins H' b) /\ R J H'
def PI (X:Cx) (tg iter:Expr) (wi:TI):Prop :=
 ∀ (pins:List (Addr × Obj)) (s:Shared) (σ : St) (H:Hp) (R:It->Hp->Prop),aX X pins σ H s->wi σ H R ->
  wpAny (model X.prog X.w) X.A (eval iter X.env) (fun v s1=>wpAny (model X.prog X.w) X.A (pyIter v) (Zj X pins σ tg R) X.xe s1) X.xe s
theorem BK {M:Model}{A:Around}{E:Value->Shared->Prop}{s:Shared}{tg:Expr}{it:Addr}{u:Value}{o:Obj}{n:String}{vs:Array Value}{Q:Unit->Shared->Prop} (ho:s.heap.get? it=some o) (hc:o.cls = .type n) (hd:o.data = .fields vs)
  (hn:["enumerate","zip","dict_itemiterator","dict_reverseitemiterator","odict_iterator","itertools.zip_longest","itertools.pairwise"].contains n=false) (hQ:Q () s):wpAny M A (letOwnedTupleGo tg (.ref it) u) Q E s:=by
 unfold letOwnedTupleGo
 cases tg <;> first
  | exact wpAny_pure hQ
  | (cases u <;> first
    | exact wpAny_pure hQ
    | (refine wpAny_bind (wpAny_load ho ?_); rw [hc,hd]; show wpAny M A (if (["enumerate","zip","dict_itemiterator","dict_reverseitemiterator","odict_iterator","itertools.zip_longest","itertools.pairwise"].contains n && vs[0]? == some (rawInt _))=true then _ else _) Q E s; rw [if_neg (by intro h; rw [hn,Bool.false_and] at h; cases h)]; exact wpAny_pure hQ))
def Qk (K:PySem.W.Frag) (a:Addr):It :=
 ⟨fun i H=>∃ xs x,bO K H a xs /\ xs[i]? = some x,fun i H x H'=>H'=H /\ ∀ xs,bO K H a xs->xs[i]? = some x,fun i H=>∃ xs,bO K H a xs /\ xs.length <= i⟩
def Itt (K:PySem.W.Frag) (a:Addr):It :=
 ⟨fun i H=>∃ xs x,cN K H a xs /\ xs[i]? = some x,fun i H x H'=>H'=H /\ ∀ xs,cN K H a xs->xs[i]? = some x,fun i H=>∃ xs,cN K H a xs /\ xs.length <= i⟩
def PP (lo:Int) (n:Nat):It:=⟨fun i _=>i < n,fun i H x H'=>H'=H /\ x = .int (lo + i),fun i _=>n <= i⟩
theorem Hq {P:Program}{w:World}{K:PySem.W.Frag}{tg:Expr} (a it:Addr):De P w K tg (Qk K a) [it] it (fun i h=>h.IsListIter it a i) where
 mem:=by simp
 obj:=fun i h st b hb=>by
  have e:b=it:=by simpa using hb
  subst e
  obtain ⟨o,e,c,d⟩:=st
  exact ⟨o,e,fun v z=>by rw [d] at z; cases z⟩
 keep:=fun i h h' st k=>st.at fun o e=>k it (by simp) o e
 item:=by
  intro X hP hw hK hc i pins s σ H E I hf st hg
  subst hP hw hK
  obtain ⟨xs,x,hq,hx⟩:=hg
  obtain ⟨its,rv,p,hz⟩:=I.list hq
  obtain ⟨u,hu,ru⟩:=rv.get hx
  obtain ⟨f0,f1,f2,f3,f4,f5⟩:=hf it (by simp)
  refine wpAny_pyNext_list_item st p.isList (x:=u) (by simpa using hu) fun h' st' sb=>?_
  have I1:aX X pins σ H { s with heap:=h' }:=I.turned (t':=s.toks) (fun b o hb e=>(sb.2 b hb).trans e) f0 f1 f3 f4 f5
  obtain ⟨o,e,c,d⟩:=id st'
  exact ⟨u,rfl,BK (s:={ s with heap:=h' }) e c d (by decide) ⟨x,H,I1,ru,⟨rfl,fun ys hy=>by rw [I.list_inj hy hq]; exact hx⟩,st',fun b hb=>(hf b hb).1⟩⟩
 done:=by
  intro X hP hw hK hc i pins s σ H E I hf st hg
  subst hP hw hK
  obtain ⟨xs,hq,hx⟩:=hg
  obtain ⟨its,rv,p,hz⟩:=I.list hq
  obtain ⟨f0,f1,f2,f3,f4,f5⟩:=hf it (by simp)
  have hl:=rv.length
  exact wpAny_pyNext_list_end (I.ok.hd hc) st p.isList (by simp; omega) fun h' eb=>⟨rfl,I.turned (t':=s.toks) (fun b o hb e=>eb b o hb e) f0 f1 f3 f4 f5⟩
 self:=fun _ _ _ _ _ st h=>wpAny_pyIter_listiter st h
theorem DR {P:Program}{w:World}{K:PySem.W.Frag}{tg:Expr} (a it:Addr):De P w K tg (Itt K a) [it] it (fun i h=>h.IsTupleIter it a i) where
 mem:=by simp
 obj:=fun i h st b hb=>by
  have e:b=it:=by simpa using hb
  subst e
  obtain ⟨o,e,c,d⟩:=st
  exact ⟨o,e,fun v z=>by rw [d] at z; cases z⟩
 keep:=fun i h h' st k=>st.at fun o e=>k it (by simp) o e
 item:=by
  intro X hP hw hK hc i pins s σ H E I hf st hg
  subst hP hw hK
  obtain ⟨xs,x,hq,hx⟩:=hg
  obtain ⟨its,rv,p,hz⟩:=I.tuple hq
  obtain ⟨u,hu,ru⟩:=rv.get hx
  obtain ⟨f0,f1,f2,f3,f4,f5⟩:=hf it (by simp)
  refine wpAny_pyNext_tuple_item st (show s.heap.IsTuple a its.toArray from p) (x:=u) (by simpa using hu) fun h' st' sb=>?_
  have I1:aX X pins σ H { s with heap:=h' }:=I.turned (t':=s.toks) (fun b o hb e=>(sb.2 b hb).trans e) f0 f1 f3 f4 f5
  obtain ⟨o,e,c,d⟩:=id st'
  exact ⟨u,rfl,BK (s:={ s with heap:=h' }) e c d (by decide) ⟨x,H,I1,ru,⟨rfl,fun ys hy=>by rw [I.tuple_inj hy hq]; exact hx⟩,st',fun b hb=>(hf b hb).1⟩⟩
 done:=by
  intro X hP hw hK hc i pins s σ H E I hf st hg
  subst hP hw hK
  obtain ⟨xs,hq,hx⟩:=hg
  obtain ⟨its,rv,p,hz⟩:=I.tuple hq
  obtain ⟨f0,f1,f2,f3,f4,f5⟩:=hf it (by simp)
  have hl:=rv.length
  exact wpAny_pyNext_tuple_end (I.ok.hd hc) st (show s.heap.IsTuple a its.toArray from p) (by simp; omega) fun h' eb=>⟨rfl,I.turned (t':=s.toks) (fun b o hb e=>eb b o hb e) f0 f1 f3 f4 f5⟩
 self:=fun _ _ _ _ _ st h=>wpAny_pyIter_tupleiter st h
theorem Ds {P:Program}{w:World}{K:PySem.W.Frag}{tg:Expr} (it:Addr) (lo:Int) (n:Nat):De P w K tg (PP lo n) [it] it (fun i h=>IsRangeIter h it (lo + (i:Nat) * 1) ((n:Int) - (i:Nat)) 1) where
 mem:=by simp
 obj:=fun i h st b hb=>by
  have e:b=it:=by simpa using hb
  subst e
  exact ⟨_,st,fun v z=>by
   have z':Data.fields _=Data.cell v:=z
   cases z'⟩
 keep:=fun i h h' st k=>k it (by simp) _ st
 item:=by
  intro X hP hw hK hc i pins s σ H E I hf st hg
  subst hP hw hK
  obtain ⟨f0,f1,f2,f3,f4,f5⟩:=hf it (by simp)
  have W:=Walks.range (prog:=X.prog) (w:=X.w) (I.ok.hd hc) it lo 1 n
  refine W.item i s _ _ hg st fun v h' tk hv st' kk=>?_
  obtain ⟨t,rfl⟩:=hv
  have I1:aX X pins σ H { s with heap:=h',toks:=tk }:=I.turned (fun b o hb e=>kk b o (by simpa using hb) e) f0 f1 f3 f4 f5
  refine ⟨_,rfl,BK (s:={ s with heap:=h',toks:=tk }) (n:="range_iterator") st' rfl rfl (by decide) ⟨.int (lo + i),H,I1,⟨t,?_⟩,⟨rfl,rfl⟩,st',fun b hb=>(hf b hb).1⟩⟩
  rw [Int.mul_one]
 done:=by
  intro X hP hw hK hc i pins s σ H E I hf st hg
  subst hP hw hK
  obtain ⟨f0,f1,f2,f3,f4,f5⟩:=hf it (by simp)
  exact wpAny_pyNext_range_end (I.ok.hd hc) st (by have:n <= i:=hg; omega) fun h' eb=>⟨rfl,I.turned (t':=s.toks) (fun b o hb e=>eb b o hb e) f0 f1 f3 f4 f5⟩
 self:=fun _ _ _ _ _ st h=>wpAny_pyIter_rangeiter st h
end L2
namespace L2
open PySem PySem.Spec PyProof.Rows
section
variable {X:Cx}{tg:Expr}
def Su (K:PySem.W.Frag) (tl:TE):TI:=fun σ H R=>tl σ H fun x H1=>∃ a,x = .ref a /\ (∃ xs,bO K H1 a xs) /\ R (Qk K a) H1
def aA9 (K:PySem.W.Frag) (tl:TE):TI:=fun σ H R=>tl σ H fun x H1=>∃ a,x = .ref a /\ (∃ xs,cN K H1 a xs) /\ R (Itt K a) H1
theorem cV {l:Expr}{tl:TE} (hl:PE X l tl):PI X tg l (Su X.K tl):=by
 intro pins s σ H R I h
 refine d8 (hl pins s σ H _ I h) fun v s1 ⟨x,H1,I1,r1,q1⟩=>?_
 obtain ⟨a,e,⟨xs,hq⟩,q⟩:=q1
 subst e
 cases r1
 obtain ⟨its,rv,p,hz⟩:=I1.list hq
 refine wpAny_pyIter_list p.isList ?_
 refine ⟨s1.heap.objs.size,[s1.heap.objs.size],_,_,H1,rfl,I1.kept (t':=s1.toks) fun b o e=>Heap.get?_push_of_some _ e,Hq a _,⟨_,Heap.get?_push_size _ rfl,rfl,rfl⟩,fun b hb=>?_,q⟩
 have e:b=s1.heap.objs.size:=by simpa using hb
 subst e
 exact I1.fpOk (Nat.le_refl _) (I1.hok.fresh (Nat.le_refl _))
theorem En {l:Expr}{tl:TE} (hl:PE X l tl):PI X tg l (aA9 X.K tl):=by
 intro pins s σ H R I h
 refine d8 (hl pins s σ H _ I h) fun v s1 ⟨x,H1,I1,r1,q1⟩=>?_
 obtain ⟨a,e,⟨xs,hq⟩,q⟩:=q1
 subst e
 cases r1
 obtain ⟨its,rv,p,hz⟩:=I1.tuple hq
 refine wpAny_pyIter_tuple (show s1.heap.IsTuple a its.toArray from p) ?_
 refine ⟨s1.heap.objs.size,[s1.heap.objs.size],_,_,H1,rfl,I1.kept (t':=s1.toks) fun b o e=>Heap.get?_push_of_some _ e,DR a _,⟨_,Heap.get?_push_size _ rfl,rfl,rfl⟩,fun b hb=>?_,q⟩
 have e:b=s1.heap.objs.size:=by simpa using hb
 subst e
 exact I1.fpOk (Nat.le_refl _) (I1.hok.fresh (Nat.le_refl _))
theorem Ir {pins:List (Addr × Obj)}{σ : St}{H:Hp}{s:Shared}{R:It->Hp->Prop}{E:Value->Shared->Prop}{lo hi:Int}{t u v:Tok}{tk:Nat} (I:aX X pins σ H s) (h1:-(2 ^ 62) <= lo) (h2:lo < 2 ^ 62) (h3:-(2 ^ 62) <= hi) (h4:hi < 2 ^ 62)
  (q:R (PP lo (hi - lo).toNat) H):wpAny (model X.prog X.w) X.A (pyIter (.ref s.heap.objs.size)) (Zj X pins σ tg R) E { s with heap:=s.heap.push { cls:=.type "range",data:=.fields #[.int lo t,.int hi u,.int 1 v] },toks:=tk }:=by
 refine wpAny_pyIter_range (IsRange.new ..) (small_one h1 h2 h3 h4) ?_
 have I1:aX X pins σ H { s with heap:=s.heap.push { cls:=.type "range",data:=.fields #[.int lo t,.int hi u,.int 1 v] },toks:=tk }:=I.kept fun b o e=>Heap.get?_push_of_some _ e
 refine ⟨(s.heap.push { cls:=.type "range",data:=.fields #[.int lo t,.int hi u,.int 1 v] }).objs.size,[(s.heap.push { cls:=.type "range",data:=.fields #[.int lo t,.int hi u,.int 1 v] }).objs.size],_,_,H,rfl,
  I1.kept (t':=tk) fun b o e=>Heap.get?_push_of_some _ e,Ds _ lo (hi - lo).toNat,?_,fun b hb=>?_,q⟩
 ·have e1:lo + ((0:Nat):Int) * 1=lo:=by simp
  have e2:(((hi - lo).toNat:Nat):Int) - ((0:Nat):Int)=Builtin.Range.rangeSize lo hi 1:=by rw [rangeSize_one]; split <;> omega
  show IsRangeIter _ _ (lo + ((0:Nat):Int) * 1) ((((hi - lo).toNat:Nat):Int) - ((0:Nat):Int)) 1
  rw [e1,e2]
  exact Heap.get?_push_size _ rfl
 ·have e:b=(s.heap.push { cls:=.type "range",data:=.fields #[.int lo t,.int hi u,.int 1 v] }).objs.size:=by simpa using hb
  subst e
  exact I1.fpOk (Nat.le_refl _) (I1.hok.fresh (Nat.le_refl _))
def XM (ta:TA):TI:=fun σ H R=>ta σ H fun vs H1=>∃ j:Int,vs=[.int j] /\ -(2 ^ 62) <= j /\ j < 2 ^ 62 /\ R (PP 0 j.toNat) H1
theorem gD {a:Expr}{ta:TA}{p pos:Pos} (hg:Gl X "range") (hm:X.mg "range" = none) (ha:PA X [a] ta) (hs:starEach [a] X.env=[(false,eval a X.env)]:=by rfl):PI X tg (.Call (.Name "range" p) [a] [] pos) (XM ta):=by
 intro pins s σ H R I h
 refine Call_ (qM I hg hm boot_range (PyProof.Rows.callWith_type1 (d8 (ha pos pins s σ H _ I h) fun us s1 ⟨vs,H1,I1,r1,q1⟩=>?_) hs rfl))
 obtain ⟨j,e,q1,q2,q⟩:=q1
 subst e
 cases r1 with
 | cons r rr =>
  cases rr
  obtain ⟨t,rfl⟩:=r
  exact call_range_1 (Ir I1 (by omega) (by omega) q1 q2 (by simpa using q))
def aBg (wi:TI) (g:TG) (tb:TS):TS:=fun D σ H=>wi σ H fun J H1=>∃ W:Nat->Nat->St->Hp->Prop,(∃ m,W 0 m σ H1) /\ ∀ i m σ H,W i m σ H ->
 (J.stop i H /\ D.nx σ H) ∨ (J.go i H /\ ∃ N:St->Hp->Prop,(∀ σ' H',N σ' H'->∃ m',m' < m /\ W (i + 1) m' σ' H') /\ ∀ x H',J.yld i H x H'->g x σ H' fun σ2 H2=>tb { D with nx:=N,ct:=N,bk:=D.nx } σ2 H2)
def uZ (fp:List Addr) (h:Heap):List (Addr × Obj):=fp.filterMap fun b=>(h.get? b).map fun o=>(b,o)
theorem lG {fp:List Addr}{h:Heap}{b:Addr}{o:Obj} (hb:b ∈ fp) (e:h.get? b=some o):(b,o) ∈ uZ fp h:=List.mem_filterMap.mpr ⟨b,hb,by rw [e]; rfl⟩
theorem Gm {fp:List Addr}{h:Heap}{p:Addr × Obj} (hp:p ∈ uZ fp h):p.1 ∈ fp /\ h.get? p.1=some p.2:=by
 obtain ⟨b,hb,e⟩:=List.mem_filterMap.mp hp
 cases q:h.get? b with
 | none=>rw [q] at e; cases e
 | some o =>
  rw [q] at e
  have e':(b,o)=p:=Option.some.inj e
  subst e'
  exact ⟨hb,q⟩
theorem aX.pinned {pins:List (Addr × Obj)}{σ : St}{H:Hp}{s:Shared}{fp:List Addr} (I:aX X pins σ H s) (hf:∀ b ∈ fp,j7 X pins H b) (ho:∀ b ∈ fp,∃ o,s.heap.get? b=some o /\ ∀ v,o.data ≠ .cell v):aX X (pins ++ uZ fp s.heap) σ H s :=
 I.pins_of fun p hp=>(List.mem_append.mp hp).elim (fun z=>I.pin p (List.mem_append_right _ z)) fun z=>by
  obtain ⟨hb,e⟩:=Gm z
  obtain ⟨f0,f1,f2,_⟩:=hf p.1 hb
  obtain ⟨o,e',d⟩:=ho p.1 hb
  rw [e] at e'; cases e'
  exact ⟨e,f0,f1,f2,d⟩
theorem aX.unpinned {pins pl:List (Addr × Obj)}{σ : St}{H:Hp}{s:Shared} (I:aX X (pins ++ pl) σ H s):aX X pins σ H s:=I.pins_of fun p hp=>I.pin p (List.mem_append_right _ (List.mem_append_left _ hp))
theorem lH {iter:Expr}{body:List Stmt}{wi:TI}{g:TG}{tb:TS}{pos:Pos} (hp:PassesOwn (model X.prog X.w) X.A X.env X.xe) (hc:X.calm=true) (hi:PI X tg iter wi) (hg:PG X tg g) (hb:oZ X body tb)
  (hs:∀ x,foldedSetIterable iter X.env x=pure x:=by intro _; rfl):PS X (.For tg iter body [] pos) (aBg wi g tb):=by
 intro pins s σ H D I h
 refine wpAny_For (d8 (hi pins s σ H _ I h) fun v s1 h1=>d8 h1 fun itv s2 h2=>?_) hs
 obtain ⟨it,fp,tn,J,H2,e,I2,T,st2,f2,W,⟨m0,w0⟩,turn⟩:=h2
 subst e
 have stat:∀ {H':Hp},(∀ b ∈ fp,H' b=none)->∀ b ∈ fp,j7 X pins H' b:=fun hn b hb=>⟨hn b hb,(f2 b hb).2⟩
 refine codeAny_forLoop_any (fun n s'=>∃ i σ' H',aX X pins σ' H' s' /\ tn i s'.heap /\ (∀ b ∈ fp,H' b=none) /\ W i n σ' H') ?_ m0 ⟨0,σ,H2,I2,st2,fun b hb=>(f2 b hb).1,w0⟩
 rintro n s3 ⟨i,σ3,H3,I3,st3,fr3,w3⟩
 rcases turn i n σ3 H3 w3 with ⟨stop,qn⟩ | ⟨go,N,hN,step⟩
 ·refine wpAny_passesOwn hp (d8 (T.done X rfl rfl rfl hc i pins s3 σ3 H3 X.xe I3 (stat fr3) st3 stop) fun r s4 ⟨hr,I4⟩=>?_)
  subst hr
  exact wpAny_execs_nil ⟨σ3,H3,I4,qn⟩
 ·refine wpAny_passesOwn hp (d8 (T.item X rfl rfl rfl hc i pins s3 σ3 H3 X.xe I3 (stat fr3) st3 go) fun r s4 ⟨u,hr,h4⟩=>?_)
  subst hr
  refine wpAny_passesOwn hp (d8 h4 fun _ s5 ⟨x,H5,I5,r5,y5,st5,fr5⟩=>?_)
  have I5':=I5.pinned (stat fr5) (T.obj _ _ st5)
  refine wpAny_passesOwn hp (d8 (hg _ s5 σ3 H5 x u _ I5' r5 (step x H5 y5)) fun _ s6 ⟨σ6,H6,I6,q6⟩=>?_)
  refine wpAny_passesOwn hp (d8 (hb _ s6 σ6 H6 _ I6 q6) fun f s7 q7=>?_)
  have again:∀ {σ7:St}{H7:Hp},aX X (pins ++ uZ fp s5.heap) σ7 H7 s7->N σ7 H7->∃ m,m < n /\ ∃ i σ' H',aX X pins σ' H' s7 /\ tn i s7.heap /\ (∀ b ∈ fp,H' b=none) /\ W i m σ' H':=fun {σ7 H7} I7 n7=>by
   obtain ⟨m',hm,w7⟩:=hN σ7 H7 n7
   refine ⟨m',hm,i + 1,σ7,H7,I7.unpinned,T.keep _ _ _ st5 fun b hb o e=>(I7.pin (b,o) (List.mem_append_right _ (List.mem_append_right _ (lG hb e)))).1,fun b hb=>?_,w7⟩
   obtain ⟨o,e,d⟩:=T.obj _ _ st5 b hb
   exact (I7.pin (b,o) (List.mem_append_right _ (List.mem_append_right _ (lG hb e)))).2.1
  cases f with
  | next=>obtain ⟨σ7,H7,I7,n7⟩:=q7; exact again I7 n7
  | cont=>obtain ⟨σ7,H7,I7,n7⟩:=q7; exact again I7 n7
  | brk=>obtain ⟨σ7,H7,I7,q7⟩:=q7; exact ⟨σ7,H7,I7.unpinned,q7⟩
  | ret v=>obtain ⟨x7,σ7,H7,I7,r7,q7⟩:=q7; exact ⟨x7,σ7,H7,I7.unpinned,r7,q7⟩
end
theorem lU {K:PySem.W.Frag}{a:Addr}{xs:List V}{g:TG}{tb:TS}{D:sO}{σ : St}{H:Hp} (Pv:Nat->St->Hp->Prop) (h0:Pv 0 σ H) (hl:∀ i σ H,i <= xs.length->Pv i σ H->bO K H a xs)
  (hs:∀ i x σ H,xs[i]? = some x->Pv i σ H->g x σ H fun σ2 H2=>tb { D with nx:=Pv (i + 1),ct:=Pv (i + 1),bk:=D.nx } σ2 H2) (hd:∀ σ H,Pv xs.length σ H->D.nx σ H) :
  ∃ W:Nat->Nat->St->Hp->Prop,(∃ m,W 0 m σ H) /\ ∀ i m σ H,W i m σ H ->
   ((Qk K a).stop i H /\ D.nx σ H) ∨ ((Qk K a).go i H /\ ∃ N:St->Hp->Prop,(∀ σ' H',N σ' H'->∃ m',m' < m /\ W (i + 1) m' σ' H') /\ ∀ x H',(Qk K a).yld i H x H'->g x σ H' fun σ2 H2=>tb { D with nx:=N,ct:=N,bk:=D.nx } σ2 H2):=by
 refine ⟨fun i m σ H=>m=xs.length - i /\ i <= xs.length /\ Pv i σ H,⟨xs.length,by simp,Nat.zero_le _,h0⟩,?_⟩
 rintro i m σ H ⟨rfl,hi,p⟩
 have q:=hl i σ H hi p
 by_cases hlt:i < xs.length
 ·refine .inr ⟨⟨xs,xs[i],q,by simp [hlt]⟩,Pv (i + 1),fun σ' H' p'=>⟨xs.length - (i + 1),by omega,rfl,hlt,p'⟩,fun x H' y=>?_⟩
  obtain ⟨e,y⟩:=y
  subst e
  exact hs i x σ _ (y xs q) p
 ·have e:i=xs.length:=by omega
  subst e
  exact .inl ⟨⟨xs,q,Nat.le_refl _⟩,hd σ H p⟩
theorem wR {lo:Int}{n:Nat}{g:TG}{tb:TS}{D:sO}{σ : St}{H:Hp} (Pv:Nat->St->Hp->Prop) (h0:Pv 0 σ H)
  (hs:∀ i σ H,i < n->Pv i σ H->g (.int (lo + i)) σ H fun σ2 H2=>tb { D with nx:=Pv (i + 1),ct:=Pv (i + 1),bk:=D.nx } σ2 H2) (hd:∀ σ H,Pv n σ H->D.nx σ H) :
  ∃ W:Nat->Nat->St->Hp->Prop,(∃ m,W 0 m σ H) /\ ∀ i m σ H,W i m σ H ->
   ((PP lo n).stop i H /\ D.nx σ H) ∨ ((PP lo n).go i H /\ ∃ N:St->Hp->Prop,(∀ σ' H',N σ' H'->∃ m',m' < m /\ W (i + 1) m' σ' H') /\ ∀ x H',(PP lo n).yld i H x H'->g x σ H' fun σ2 H2=>tb { D with nx:=N,ct:=N,bk:=D.nx } σ2 H2):=by
 refine ⟨fun i m σ H=>m=n - i /\ i <= n /\ Pv i σ H,⟨n,by simp,Nat.zero_le _,h0⟩,?_⟩
 rintro i m σ H ⟨rfl,hi,p⟩
 by_cases hlt:i < n
 ·refine .inr ⟨hlt,Pv (i + 1),fun σ' H' p'=>⟨n - (i + 1),by omega,rfl,hlt,p'⟩,fun x H' y=>?_⟩
  obtain ⟨e,y⟩:=y
  subst e y
  exact hs i σ _ hlt p
 ·have e:i=n:=by omega
  subst e
  exact .inl ⟨Nat.le_refl _,hd σ H p⟩
theorem Jv {c:TT}{tb:TS}{D:sO}{σ : St}{H:Hp} (Pv:St->Hp->Prop) (μ : St->Hp->Nat) (h0:Pv σ H)
  (hs:∀ σ H,Pv σ H->c σ H fun b H1=>if b=true then tb { D with nx:=fun σ' H'=>Pv σ' H' /\ μ σ' H' < μ σ H,ct:=fun σ' H'=>Pv σ' H' /\ μ σ' H' < μ σ H,bk:=D.nx } σ H1 else D.nx σ H1)
  (mono:∀ σ H Q Q',(∀ b H1,Q b H1->Q' b H1)->c σ H Q->c σ H Q'):JC c tb D σ H:=by
 refine ⟨fun m σ H=>m = μ σ H /\ Pv σ H,⟨_,rfl,h0⟩,?_⟩
 rintro m σ H ⟨rfl,p⟩
 refine mono σ H _ _ (fun b H1 q=>?_) (hs σ H p)
 cases b with
 | true=>exact ⟨_,fun σ' H' ⟨p',l⟩=>⟨_,l,rfl,p'⟩,q⟩
 | false=>exact q
end L2
namespace L2
open PySem PySem.Spec PyProof.Rows
abbrev R2:=V->V->Hp->VK->Prop
def nY (X:Cx) (f:Value->Value->Sem Value) (r:R2):Prop :=
 ∀ (pins:List (Addr × Obj)) (s:Shared) (σ : St) (H:Hp) (x y:V) (v u:Value) (Q:VK),aX X pins σ H s->bG x v->bG y u->r x y H Q ->
  wpAny (model X.prog X.w) X.A (f v u) (EP X pins σ Q) X.xe s
def UnR (X:Cx) (f:Value->Sem Value) (r:V->Hp->VK->Prop):Prop :=
 ∀ (pins:List (Addr × Obj)) (s:Shared) (σ : St) (H:Hp) (x:V) (v:Value) (Q:VK),aX X pins σ H s->bG x v->r x H Q ->
  wpAny (model X.prog X.w) X.A (f v) (EP X pins σ Q) X.xe s
def iM (X:Cx) (f:Value) (r:List V->Hp->VK->Prop):Prop :=
 ∀ (pins:List (Addr × Obj)) (s:Shared) (σ : St) (H:Hp) (xs:List V) (us:List Value) (Q:VK),aX X pins σ H s->bI xs us->r xs H Q ->
  wpAny (model X.prog X.w) X.A (call f us) (EP X pins σ Q) X.xe s
def X5 (r:R2) (ta tb:TE):TE:=fun σ H Q=>ta σ H fun x H1=>tb σ H1 fun y H2=>r x y H2 Q
def tUn (r:V->Hp->VK->Prop) (ta:TE):TE:=fun σ H Q=>ta σ H fun x H1=>r x H1 Q
def rI (C:Int->Int->Prop) (g:Int->Int->V):R2:=fun x y H Q=>∃ i j,x = .int i /\ y = .int j /\ C i j /\ Q (g i j) H
def Q7 (g:Int->Int->V):R2:=fun x y H Q=>∃ i j,x = .int i /\ y = .int j /\ Q (g i j) H
def rU (g:Int->V):V->Hp->VK->Prop:=fun x H Q=>∃ i,x = .int i /\ Q (g i) H
section
variable {X:Cx}{a b c:Expr}{ta tb tc:TE}{pos:Pos}
theorem Oh (ha:PE X a ta) (hb:PE X b tb) {pins:List (Addr × Obj)}{s:Shared}{σ : St}{H:Hp}{R:V->V->Hp->Prop} (I:aX X pins σ H s)
  (h:ta σ H fun x H1=>tb σ H1 fun y H2=>R x y H2) {Q:Value->Shared->Prop}{f:Value->Value->Sem Value}
  (hf:∀ v u s2 x y H2,aX X pins σ H2 s2->bG x v->bG y u->R x y H2->wpAny (model X.prog X.w) X.A (f v u) Q X.xe s2) :
  wpAny (model X.prog X.w) X.A (eval a X.env) (fun v s₁=>wpAny (model X.prog X.w) X.A (eval b X.env) (fun u s₂=>wpAny (model X.prog X.w) X.A (f v u) Q X.xe s₂) X.xe s₁) X.xe s:=by
 refine d8 (ha pins s σ H _ I h) fun v s1 ⟨x,H1,I1,r1,q1⟩=>?_
 refine d8 (hb pins s1 σ H1 _ I1 q1) fun u s2 ⟨y,H2,I2,r2,q2⟩=>?_
 exact hf v u s2 x y H2 I2 r1 r2 q2
theorem aQ {op:Operator}{r:R2} (ho:nY X (binaryOp op) r) (ha:PE X a ta) (hb:PE X b tb):PE X (.BinOp a op b pos) (X5 r ta tb):=by
 intro pins s σ H Q I h
 exact wpAny_BinOp (Oh ha hb I h fun v u s2 x y H2 I2 rx ry q=>ho pins s2 σ H2 x y v u Q I2 rx ry q)
theorem Jb {op:UnaryOp}{r:V->Hp->VK->Prop} (ho:UnR X (unaryOp op) r) (ha:PE X a ta):PE X (.UnaryOp op a pos) (tUn r ta):=by
 intro pins s σ H Q I h
 exact UnaryOp_ (d8 (ha pins s σ H _ I h) fun v s1 ⟨x,H1,I1,r1,q1⟩=>ho pins s1 σ H1 x v Q I1 r1 q1)
theorem Pz {f:Value->Value->Sem Value}{C:Int->Int->Prop}{g:Int->Int->Int}
  (rule:∀ (i j:Int) (t u:Tok) (s:Shared) (Q:Value->Shared->Prop) (E:Value->Shared->Prop),C i j->Q (.int (g i j) s.toks) { s with toks:=s.toks + 1 }->wpAny (model X.prog X.w) X.A (f (.int i t) (.int j u)) Q E s) :
  nY X f (rI C fun i j=>.int (g i j)):=by
 intro pins s σ H x y v u Q I rx ry h
 obtain ⟨i,j,rfl,rfl,hc,q⟩:=h
 obtain ⟨t,rfl⟩:=rx
 obtain ⟨t',rfl⟩:=ry
 exact rule i j t t' s _ _ hc ⟨.int (g i j),H,I.tok _,⟨_,rfl⟩,q⟩
theorem Wd {f:Value->Value->Sem Value}{g:Int->Int->Int}
  (rule:∀ (i j:Int) (t u:Tok) (s:Shared) (Q:Value->Shared->Prop) (E:Value->Shared->Prop),Q (.int (g i j) s.toks) { s with toks:=s.toks + 1 }->wpAny (model X.prog X.w) X.A (f (.int i t) (.int j u)) Q E s) :
  nY X f (Q7 fun i j=>.int (g i j)):=by
 intro pins s σ H x y v u Q I rx ry h
 obtain ⟨i,j,rfl,rfl,q⟩:=h
 obtain ⟨t,rfl⟩:=rx
 obtain ⟨t',rfl⟩:=ry
 exact rule i j t t' s _ _ ⟨.int (g i j),H,I.tok _,⟨_,rfl⟩,q⟩
theorem Oa {f:Value->Value->Sem Value}{g:Int->Int->Bool}
  (rule:∀ (i j:Int) (t u:Tok) (s:Shared) (Q:Value->Shared->Prop) (E:Value->Shared->Prop),Q (.bool (g i j)) s->wpAny (model X.prog X.w) X.A (f (.int i t) (.int j u)) Q E s) :
  nY X f (Q7 fun i j=>.bl (g i j)):=by
 intro pins s σ H x y v u Q I rx ry h
 obtain ⟨i,j,rfl,rfl,q⟩:=h
 obtain ⟨t,rfl⟩:=rx
 obtain ⟨t',rfl⟩:=ry
 exact rule i j t t' s _ _ ⟨.bl (g i j),H,I,rfl,q⟩
def aAF (i j:Int):Prop:=0 < j /\ j < 1073741824
def Od (i j:Int):Prop:=0 <= j /\ j <= 1000000 /\ i.natAbs < 2 ^ 64
def QZ (i j:Int):Prop:=(-(2 ^ 64) < i /\ i < 2 ^ 64) ∨ (-(2 ^ 64) < j /\ j < 2 ^ 64)
theorem QZ.ok {i j:Int} (h:QZ i j):IntMulOk i j:=by
 rcases h with ⟨h1,h2⟩ | ⟨h1,h2⟩
 ·exact .of_left (intBits_le_64 h1 h2)
 ·exact .of_right (intBits_le_64 h1 h2)
theorem fP:nY X (binaryOp .Add) (Q7 fun i j=>.int (i + j)):=Wd fun _ _ _ _ _ _ _ q=>add_int q
theorem lC:nY X (binaryOp .Sub) (Q7 fun i j=>.int (i - j)):=Wd fun _ _ _ _ _ _ _ q=>sub_int q
theorem QH:nY X (binaryOp .Mult) (rI QZ fun i j=>.int (i * j)):=Pz fun _ _ _ _ _ _ _ hc q=>mul_int q hc.ok
theorem jL:nY X (binaryOp .FloorDiv) (rI aAF fun i j=>.int (i / j)):=Pz fun i j _ _ _ _ _ hc q=>by
 have h1:(0:Int) < j:=hc.1
 have h2:j < 1073741824:=hc.2
 exact floordiv_int (by omega) (by rw [Int.fdiv_eq_ediv_of_nonneg i (by omega)]; exact q) (.inl (PyProof.noPylong_small (by omega)))
theorem dH:nY X (binaryOp .Mod) (rI (fun _ j=>0 < j) fun i j=>.int (i % j)):=Pz fun i j _ _ _ _ _ hc q=>by
 have h1:(0:Int) < j:=hc
 exact mod_int' (by omega) (by rw [Int.fmod_eq_emod_of_nonneg i (by omega)]; exact q)
theorem Mr:nY X (binaryOp .Mod) (rI (fun _ j=>j ≠ 0) fun i j=>.int (i.fmod j)):=Pz fun _ _ _ _ _ _ _ hc q=>mod_int' hc q
theorem zQ:nY X (binaryOp .Pow) (rI Od fun i j=>.int (i ^ j.toNat)):=Pz fun _ _ _ _ _ _ _ hc q=>pow_int_small hc.1 hc.2.1 hc.2.2 q
theorem unI {f:Value->Sem Value}{g:Int->Int}
  (rule:∀ (i:Int) (t:Tok) (s:Shared) (Q:Value->Shared->Prop) (E:Value->Shared->Prop),Q (.int (g i) s.toks) { s with toks:=s.toks + 1 }->wpAny (model X.prog X.w) X.A (f (.int i t)) Q E s) :
  UnR X f (rU fun i=>.int (g i)):=by
 intro pins s σ H x v Q I rx h
 obtain ⟨i,rfl,q⟩:=h
 obtain ⟨t,rfl⟩:=rx
 exact rule i t s _ _ ⟨.int (g i),H,I.tok _,⟨_,rfl⟩,q⟩
theorem Ek:UnR X (unaryOp .USub) (rU fun i=>.int (-i)):=unI fun _ _ _ _ _ q=>neg_int q
end
def VM:V->V->Bool
 | .non,.non=>true | .non,.int _=>true | .int _,.non=>true | .non,.bl _=>true | .bl _,.non=>true | .non,.str _=>true | .str _,.non=>true
 | .int _,.int _=>true | .bl _,.bl _=>true | .str _,.str _=>true | .byt _,.byt _=>true
 | .int _,.str _=>true | .str _,.int _=>true | .bl _,.str _=>true | .str _,.bl _=>true
 | _,_=>false
def rEq:R2:=fun x y H Q=>VM x y=true /\ Q (.bl (decide (x=y))) H
def rNe:R2:=fun x y H Q=>VM x y=true /\ Q (.bl (!decide (x=y))) H
theorem tG {i j:Int}:decide (V.int i=V.int j)=(i == j):=by
 rw [Bool.eq_iff_iff]
 simp
theorem Jp {i j:Bool}:decide (V.bl i=V.bl j)=(i == j):=by
 rw [Bool.eq_iff_iff]
 simp
theorem GK {i j:Str}:decide (V.str i=V.str j)=(i == j):=by
 rw [Bool.eq_iff_iff]
 simp
theorem FJ {i j:Array UInt8}:decide (V.byt i=V.byt j)=(i.toList == j.toList):=by
 rw [Bool.eq_iff_iff]
 cases i
 cases j
 simp
section
variable {X:Cx}{a b c:Expr}{ta tb tc:TE}{pos:Pos}
theorem cD {pins:List (Addr × Obj)}{σ : St}{H:Hp}{s:Shared}{Q:VK}{k k':Bool} (I:aX X pins σ H s) (q:Q (.bl k) H) (e:k=k'):EP X pins σ Q (.bool k') s:=by
 subst e
 exact ⟨.bl k,H,I,rfl,q⟩
theorem jX:nY X (compareOp .Eq) rEq:=by
 intro pins s σ H x y v u Q I rx ry h
 obtain ⟨hs,q⟩:=h
 cases x with
 | non =>
  cases rx
  cases y with
  | non=>cases ry; exact PySem.EqNone.eq_none_none (cD I q (by simp))
  | bl j=>cases ry; exact PySem.EqNone.eq_none_bool (cD I q (by simp))
  | int j=>obtain ⟨t',rfl⟩:=ry; exact PySem.EqNone.eq_none_int (cD I q (by simp))
  | str j=>obtain ⟨t',rfl⟩:=ry; exact PySem.EqNone.eq_none_str (cD I q (by simp))
  | _=>exact absurd (show false=true from hs) Bool.false_ne_true
 | bl i =>
  cases rx
  cases y with
  | non=>cases ry; exact PySem.EqNone.eq_bool_none (cD I q (by simp))
  | bl j=>cases ry; exact eq_bool (cD I q Jp)
  | str j=>obtain ⟨t',rfl⟩:=ry; exact PySem.EqMixed.eq_bool_str (cD I q (by simp))
  | _=>exact absurd (show false=true from hs) Bool.false_ne_true
 | int i =>
  obtain ⟨t,rfl⟩:=rx
  cases y with
  | non=>cases ry; exact PySem.EqNone.eq_int_none (cD I q (by simp))
  | int j=>obtain ⟨t',rfl⟩:=ry; exact eq_int (cD I q tG)
  | str j=>obtain ⟨t',rfl⟩:=ry; exact PySem.EqMixed.eq_int_str (cD I q (by simp))
  | _=>exact absurd (show false=true from hs) Bool.false_ne_true
 | str i =>
  obtain ⟨t,rfl⟩:=rx
  cases y with
  | non=>cases ry; exact PySem.EqNone.eq_str_none (cD I q (by simp))
  | bl j=>cases ry; exact PySem.EqMixed.eq_str_bool (cD I q (by simp))
  | int j=>obtain ⟨t',rfl⟩:=ry; exact PySem.EqMixed.eq_str_int (cD I q (by simp))
  | str j=>obtain ⟨t',rfl⟩:=ry; exact eq_str (cD I q GK)
  | _=>exact absurd (show false=true from hs) Bool.false_ne_true
 | byt i =>
  obtain ⟨t,rfl⟩:=rx
  cases y with
  | byt j=>obtain ⟨t',rfl⟩:=ry; exact PySem.W.eq_bytes (cD I q FJ)
  | _=>exact absurd (show false=true from hs) Bool.false_ne_true
 | _=>cases y <;> exact absurd (show false=true from hs) Bool.false_ne_true
theorem Nt:nY X (compareOp .NotEq) rNe:=by
 intro pins s σ H x y v u Q I rx ry h
 obtain ⟨hs,q⟩:=h
 cases x with
 | non =>
  cases rx
  cases y with
  | non=>cases ry; exact PySem.EqNone.ne_none_none (cD I q (by simp))
  | bl j=>cases ry; exact PySem.EqNone.ne_none_bool (cD I q (by simp))
  | int j=>obtain ⟨t',rfl⟩:=ry; exact PySem.EqNone.ne_none_int (cD I q (by simp))
  | str j=>obtain ⟨t',rfl⟩:=ry; exact PySem.EqNone.ne_none_str (cD I q (by simp))
  | _=>exact absurd (show false=true from hs) Bool.false_ne_true
 | bl i =>
  cases rx
  cases y with
  | non=>cases ry; exact PySem.EqNone.ne_bool_none (cD I q (by simp))
  | bl j=>cases ry; exact ne_bool (cD I q (congrArg not Jp))
  | str j=>obtain ⟨t',rfl⟩:=ry; exact PySem.EqMixed.ne_bool_str (cD I q (by simp))
  | _=>exact absurd (show false=true from hs) Bool.false_ne_true
 | int i =>
  obtain ⟨t,rfl⟩:=rx
  cases y with
  | non=>cases ry; exact PySem.EqNone.ne_int_none (cD I q (by simp))
  | int j=>obtain ⟨t',rfl⟩:=ry; exact ne_int (cD I q (congrArg not tG))
  | str j=>obtain ⟨t',rfl⟩:=ry; exact PySem.EqMixed.ne_int_str (cD I q (by simp))
  | _=>exact absurd (show false=true from hs) Bool.false_ne_true
 | str i =>
  obtain ⟨t,rfl⟩:=rx
  cases y with
  | non=>cases ry; exact PySem.EqNone.ne_str_none (cD I q (by simp))
  | bl j=>cases ry; exact PySem.EqMixed.ne_str_bool (cD I q (by simp))
  | int j=>obtain ⟨t',rfl⟩:=ry; exact PySem.EqMixed.ne_str_int (cD I q (by simp))
  | str j=>obtain ⟨t',rfl⟩:=ry; exact ne_str (cD I q (congrArg not GK))
  | _=>exact absurd (show false=true from hs) Bool.false_ne_true
 | byt i =>
  obtain ⟨t,rfl⟩:=rx
  cases y with
  | byt j=>obtain ⟨t',rfl⟩:=ry; exact PySem.W.ne_bytes (cD I q (congrArg not FJ))
  | _=>exact absurd (show false=true from hs) Bool.false_ne_true
 | _=>cases y <;> exact absurd (show false=true from hs) Bool.false_ne_true
theorem Bo:nY X (compareOp .Lt) (Q7 fun i j=>.bl (decide (i < j))):=Oa fun _ _ _ _ _ _ _ q=>lt_int q
theorem tX:nY X (compareOp .LtE) (Q7 fun i j=>.bl (decide (i <= j))):=Oa fun _ _ _ _ _ _ _ q=>le_int q
theorem GD:nY X (compareOp .Gt) (Q7 fun i j=>.bl (decide (j < i))):=Oa fun _ _ _ _ _ _ _ q=>gt_int q
theorem PN:nY X (compareOp .Is) (fun x y H Q=>y = .non /\ Q (.bl (decide (x = .non))) H):=by
 intro pins s σ H x y v u Q I rx ry h
 obtain ⟨rfl,q⟩:=h
 cases ry
 refine is_none_gen (cD I q ?_)
 cases x <;> first
  | (cases rx; rfl)
  | (obtain ⟨t,rfl⟩:=rx; rfl)
theorem cO (b:Expr) {op:CmpOp} (h:op ≠ .In:=by decide) (h2:op ≠ .NotIn:=by decide):behindInMarks op b=false:=by
 have e1:(op == CmpOp.In)=false:=by cases op <;> first | rfl | exact absurd rfl h
 have e2:(op == CmpOp.NotIn)=false:=by cases op <;> first | rfl | exact absurd rfl h2
 cases b <;> simp [behindInMarks,e1,e2]
theorem pK {op:CmpOp}{r:R2} (ho:nY X (compareOp op) r) (ha:PE X a ta) (hb:PE X b tb) (hm:behindInMarks op b=false):PE X (.Compare a [op] [b] pos) (X5 r ta tb):=by
 intro pins s σ H Q I h
 exact wpAny_Compare1 (Oh ha hb I h fun v u s2 x y H2 I2 rx ry q=>ho pins s2 σ H2 x y v u Q I2 rx ry q) hm
def OD (t:TE):TT:=fun σ H Q=>t σ H fun x H'=>∃ k,x = .bl k /\ Q k H'
theorem bZ {op:CmpOp}{r:R2} (ho:nY X (compareOp op) r) (ha:PE X a ta) (hb:PE X b tb) (hm:behindInMarks op b=false):PT X (.Compare a [op] [b] pos) (OD (X5 r ta tb)):=by
 intro pins s σ H Q I h
 refine wpAny_isTrue_Compare1 (d8 (ha pins s σ H _ I h) fun v s1 ⟨x,H1,I1,r1,q1⟩=>d8 (hb pins s1 σ H1 _ I1 q1) fun u s2 ⟨y,H2,I2,r2,q2⟩ =>
  d8 (ho pins s2 σ H2 x y v u _ I2 r1 r2 q2) fun c s3 ⟨z,H3,I3,r3,k,e,q3⟩=>?_) hm
 subst e
 cases r3
 exact wpAny_truthy_bool ⟨H3,I3,q3⟩
def Ku (r r':R2) (ta tb tc:TE):TE:=fun σ H Q=>ta σ H fun x H1=>tb σ H1 fun y H2=>r x y H2 fun z H3=>∃ k,z = .bl k ∧
 (if k=true then tc σ H3 fun w' H4=>r' y w' H4 Q else Q (.bl false) H3)
theorem KD {op op':CmpOp}{r r':R2} (ho:nY X (compareOp op) r) (ho':nY X (compareOp op') r') (ha:PE X a ta) (hb:PE X b tb) (hc:PE X c tc)
  (hm:lastMarks [op,op'] [b,c]=false:=by with_unfolding_all rfl):PE X (.Compare a [op,op'] [b,c] pos) (Ku r r' ta tb tc):=by
 intro pins s σ H Q I h
 refine Compare_chain (d8 (ha pins s σ H _ I h) fun v s1 ⟨x,H1,I1,r1,q1⟩=>chain_link (d8 (hb pins s1 σ H1 _ I1 q1) fun u s2 ⟨y,H2,I2,r2,q2⟩ =>
  d8 (ho pins s2 σ H2 x y v u _ I2 r1 r2 q2) fun d s3 ⟨z,H3,I3,r3,k,e,q3⟩=>?_)) hm
 subst e
 cases r3
 refine wpAny_truthy_bool ?_
 cases k with
 | false=>exact ite_ff ⟨.bl false,H3,I3,rfl,q3⟩
 | true=>exact ite_tt (chain_last (d8 (hc pins s3 σ H3 _ I3 q3) fun w' s4 ⟨z',H4,I4,r4,q4⟩=>ho' pins s4 σ H4 y z' u w' Q I4 r2 r4 q4))
theorem CG {op op':CmpOp}{r r':R2} (ho:nY X (compareOp op) r) (ho':nY X (compareOp op') r') (ha:PE X a ta) (hb:PE X b tb) (hc:PE X c tc)
  (hm:lastMarks [op,op'] [b,c]=false:=by with_unfolding_all rfl):PT X (.Compare a [op,op'] [b,c] pos) (OD (Ku r r' ta tb tc)):=by
 intro pins s σ H Q I h
 refine isTrue_chain (d8 (ha pins s σ H _ I h) fun v s1 ⟨x,H1,I1,r1,q1⟩=>test_link (d8 (hb pins s1 σ H1 _ I1 q1) fun u s2 ⟨y,H2,I2,r2,q2⟩ =>
  d8 (ho pins s2 σ H2 x y v u _ I2 r1 r2 q2) fun d s3 ⟨z,H3,I3,r3,k,e,q3⟩=>?_)) hm
 subst e
 cases r3
 refine wpAny_truthy_bool ?_
 cases k with
 | false =>
  obtain ⟨k',e',q'⟩:=q3
  cases e'
  exact ite_ff ⟨H3,I3,q'⟩
 | true =>
  refine ite_tt (test_last (d8 (hc pins s3 σ H3 _ I3 q3) fun w' s4 ⟨z',H4,I4,r4,q4⟩=>d8 (ho' pins s4 σ H4 y z' u w' _ I4 r2 r4 q4) fun d' s5 ⟨z2,H5,I5,r5,k2,e2,q5⟩=>?_))
  subst e2
  cases r5
  exact wpAny_truthy_bool ⟨H5,I5,q5⟩
theorem zW:(sizeLine:Nat) < 2 ^ 63:=by rw [sizeLine_eq]; decide
theorem jW {x:V}{us:List Value} (r:bI [x] us):∃ u,us=[u] /\ bG x u:=by
 cases r with
 | cons r1 r2=>cases r2; exact ⟨_,rfl,r1⟩
theorem GJ {x y:V}{us:List Value} (r:bI [x,y] us):∃ u w',us=[u,w'] /\ bG x u /\ bG y w':=by
 cases r with
 | cons r1 r2 =>
  cases r2 with
  | cons r3 r4=>cases r4; exact ⟨_,_,rfl,r1,r3⟩
theorem JT:iM X (.builtin "abs") (fun xs H Q=>∃ i,xs=[.int i] /\ Q (.int (if i < 0 then -i else i)) H):=by
 intro pins s σ H xs us Q I r h
 obtain ⟨i,rfl,q⟩:=h
 obtain ⟨u,rfl,t,rfl⟩:=jW r
 exact call_abs_int fun u tk=>⟨.int (if i < 0 then -i else i),H,I.tok _,⟨_,rfl⟩,q⟩
theorem Hm (hc:X.calm=true):iM X (.builtin "min") (fun xs H Q=>∃ i j,xs=[.int i,.int j] /\ Q (.int (if j < i then j else i)) H):=by
 intro pins s σ H xs us Q I r h
 obtain ⟨i,j,rfl,q⟩:=h
 obtain ⟨u,w',rfl,⟨t,rfl⟩,⟨t',rfl⟩⟩:=GJ r
 refine min_two_ints (I.ok.hd hc) fun h' tk k=>⟨_,H,I.kept k,?_,q⟩
 by_cases hj:j < i
 ·rw [if_pos hj,if_pos hj]; exact ⟨_,rfl⟩
 ·rw [if_neg hj,if_neg hj]; exact ⟨_,rfl⟩
theorem Hd:iM X (.type "int") (fun xs H Q=>(∃ i,xs=[.int i] /\ Q (.int i) H) ∨ ∃ k,xs=[.bl k] /\ Q (.int (if k then 1 else 0)) H):=by
 intro pins s σ H xs us Q I r h
 rcases h with ⟨i,rfl,q⟩ | ⟨k,rfl,q⟩
 ·obtain ⟨u,rfl,t,rfl⟩:=jW r
  exact call_int_int ⟨.int i,H,I,⟨_,rfl⟩,q⟩
 ·obtain ⟨u,rfl,r1⟩:=jW r
  cases r1
  exact call_int_bool ⟨.int (if k then 1 else 0),H,I.tok _,⟨_,rfl⟩,q⟩
theorem yH:iM X (.type "str") (fun xs H Q=>∃ i,xs=[.int i] /\ i.natAbs.log2 < 1920 /\ Q (.str (toString i)) H):=by
 intro pins s σ H xs us Q I r h
 obtain ⟨i,rfl,hz,q⟩:=h
 obtain ⟨u,rfl,t,rfl⟩:=jW r
 exact PySem.P.str_of_int hz ⟨.str _,H,I.tok _,⟨_,rfl⟩,q⟩
end
end L2
namespace L2
open PySem PySem.Spec PyProof.Rows
structure Ec (h:Heap) (x dx C:Addr) (mA:Str->Option Value):Prop where
 obj:h.get? x=some (PySem.W.instObj C dx)
 ns:h.Ns1 dx mA
 ne:dx ≠ x
theorem HJ {h:Heap}{dx:Addr}{mA:Str->Option Value} (n:h.Ns1 dx mA):∃ od,h.get? dx=some od /\ ∀ name,PySem.W.lookIn name od=some (mA name):=by
 obtain ⟨o,es,ep,ho,hd,hk,_,hm⟩:=n
 refine ⟨o,ho,fun name=>?_⟩
 have e:=hm name
 unfold nsFind findBy at e
 rw [<- Array.find?_toList] at e
 unfold PySem.W.lookIn
 rw [hd]
 dsimp only
 split
 ·rename_i y q
  rw [q] at e
  exact congrArg some e
 ·rename_i q
  rw [q] at e
  have a:es.toList.any (·.refKey)=false:=by
   rw [List.any_eq_false]
   intro y hy
   obtain ⟨z,t,hkey⟩:=hk y (Array.mem_toList_iff.mp hy)
   simp [DictEntry.refKey,hkey]
  have a':¬ es.toList.any (·.refKey)=true:=by rw [a]; exact Bool.false_ne_true
  rw [if_neg a']
  exact congrArg some e
theorem Ec.look {h:Heap}{x dx C:Addr}{mA:Str->Option Value} (I:Ec h x dx C mA):∃ od,PySem.W.InstAt h x (PySem.W.instObj C dx) C (some od) /\ ∀ name,PySem.W.lookIn name od=some (mA name) :=
 let ⟨od,ho,hl⟩:=HJ I.ns
 ⟨od,⟨I.obj,rfl,rfl,ho⟩,hl⟩
section
variable {prog:Program}{w:World}{A:Around}{E:Value->Shared->Prop}{s:Shared}{K:PySem.W.Frag}{x dx C f:Addr}{mA:Str->Option Value}{name:Str}{v:Value}
theorem M4 {expr:Bool}{Q:Value->Shared->Prop} (X:K.In s.heap) (I:Ec s.heap x dx C mA) (hg:PySem.W.plainGet K C name=true) (hh:PySem.W.hasDictIn K C=true)
  (ha:PySem.W.findIn K (.ref C) name=some none) (hv:mA name=some v) (hv':PySem.W.handedIn v=true) (h:Q v { s with toks:=s.toks + 1 }) :
  wpAny (model prog w) A (getAttr (.ref x) name expr) Q E s:=by
 obtain ⟨od,J,hl⟩:=I.look
 exact PySem.W.get_value X J (PySem.W.plainGet_of hg).1 (PySem.W.findObj_own hh ha rfl (by rw [hl,hv])) hv' h
theorem Io {pl:Sem Bool}{Q:Value × List Value->Shared->Prop} (X:K.In s.heap) (I:Ec s.heap x dx C mA) (hg:PySem.W.plainGet K C name=true)
  (hf:PySem.W.findIn K (.ref C) name=some (some (.ref f))) (ht:PySem.W.isFn K (.ref f)=true) (hv:mA name=none) (h:Q (.ref f,[.ref x]) s) :
  wpAny (model prog w) A (getMethod (.ref x) name pl) Q E s:=by
 obtain ⟨od,J,hl⟩:=I.look
 exact PySem.W.method_fn X J (PySem.W.plainGet_of hg).1 (PySem.W.plainGet_of hg).2 hf (beq_iff_eq.mp ht) (by show (PySem.W.lookIn name od).map (·.isSome)=some false; rw [hl,hv]; rfl) h
theorem Mq {ns:List Str}{Q:Unit->Shared->Prop} (X:K.In s.heap) (I:Ec s.heap x dx C mA)
  (hs:PySem.W.findIn K (.ref C) "__setattr__" = some (some (.builtin "object.__setattr__"))) (hp:PySem.W.plainOver K C=true) (ht:PySem.W.takerIn K C name=some none) (hh:PySem.W.hasDictIn K C=true)
  (hw:PySem.Within mA ns) (hsz:ns.length <= sizeLine)
  (h:∀ h',Ec h' x dx C (fun y=>if y=name then some v else mA y)->Heap.SameBut dx s.heap h'->Q () { s with heap:=h',toks:=s.toks + 2 }) :
  wpAny (model prog w) A (setAttr (.ref x) name v) Q E s:=by
 obtain ⟨od,J,hl⟩:=I.look
 refine PySem.W.set_plain X J hs (PySem.W.osa_open (s:={ s with toks:=s.toks + 1 }) (r:=none) X J hp ht fun b=>?_)
 obtain ⟨cd,hc,hd'⟩:=PySem.W.any_some hh
 have hx:s.heap.get? x=some ⟨.ref C,some dx,.plain,#[]⟩:=I.obj
 refine wpAny_bind (wpAny_pure (wpAny_bind (wpAny_bind (wpAny_loadPart hx (wpAny_bind (PySem.W.Looks.here (s:={ s with toks:=s.toks + 1 }) (PySem.W.looks_clsIn X hc) ?_))))))
 rw [hd']
 refine wpAny_pure (a:=some dx) (wpAny_bind (wpAny_pure (wpAny_bind ?_)))
 refine wpAny_nsSet1 (s:={ s with toks:=s.toks + 1 }) I.ns fun h' hn2 hs2=>?_
 obtain ⟨oD,esD,epD,hoD,hdD,hcD⟩:=hn2.count (PySem.Within.cons name v hw)
 refine wpAny_bind (wpAny_lookBehind hoD (by rw [hdD]; exact pastItsLine_dict (Nat.le_trans hcD (by rw [List.length_cons]; omega))) ?_)
 exact wpAny_pure (h _ ⟨(hs2.2 _ (Ne.symm I.ne)).trans I.obj,hn2,I.ne⟩ hs2)
theorem Ji {R:Result->Shared->Prop}{vs:List Value}{kw:List (Str × Value)} (X:K.In s.heap) (hm:PySem.W.makesIn K C=true)
  (hi:PySem.W.findIn K (.ref C) "__init__" = some (some (.ref f))) (hf:PySem.W.typeIn K (.ref f)=some (.type "function"))
  (h:codeAny (model prog w) (A.under (.builtin "type.__call__" ⟨.ref C :: vs,kw⟩)) (.call (.ref f) ⟨.ref (s.heap.objs.size + 1) :: vs,kw⟩) (PySem.W.InitBack (s.heap.objs.size + 1) R)
   { s with heap:=(s.heap.push PySem.W.emptyDict).push (PySem.W.instObj C s.heap.objs.size) }) :
  codeAny (model prog w) A (.call (.ref C) ⟨vs,kw⟩) R s:=by
 obtain ⟨hh,g,d,t,os⟩:=s
 exact PySem.W.make_core (PySem.W.makes_of X hm) (PySem.W.looks_findIn X hi) (fun self=>PySem.W.bind_fn X self hf) (.inl rfl) h
end
def bN (f:Str) (v:V):List (Str × V)->List (Str × V)
 | []=>[(f,v)]
 | (g,x) :: r=>if g=f then (g,v) :: r else (g,x) :: bN f v r
theorem rT (f g:Str) (v:V):∀ fs:List (Str × V),(bN f v fs).lookup g=if g=f then some v else fs.lookup g
 | []=>by
  show List.lookup g [(f,v)]=_
  by_cases h:g=f
  ·have hb:(g == f)=true:=beq_iff_eq.mpr h
   simp only [List.lookup,hb,if_pos h]
  ·have hb:(g == f)=false:=beq_eq_false_iff_ne.mpr h
   simp only [List.lookup,hb,if_neg h]
 | (k,x) :: r=>by
  have ih:=rT f g v r
  rw [show bN f v ((k,x) :: r)=(if k=f then (k,v) :: r else (k,x) :: bN f v r) from rfl]
  by_cases hk:k=f
  ·rw [if_pos hk]
   by_cases h:g=k
   ·have hb:(g == k)=true:=beq_iff_eq.mpr h
    simp only [List.lookup,hb,if_pos (h.trans hk)]
   ·have hb:(g == k)=false:=beq_eq_false_iff_ne.mpr h
    simp only [List.lookup,hb,if_neg (fun e:g=f=>h (e.trans hk.symm))]
  ·rw [if_neg hk]
   by_cases h:g=k
   ·have hb:(g == k)=true:=beq_iff_eq.mpr h
    simp only [List.lookup,hb,if_neg (fun e:g=f=>hk (h.symm.trans e))]
   ·have hb:(g == k)=false:=beq_eq_false_iff_ne.mpr h
    simp only [List.lookup,hb]
    exact ih
theorem qZ (f:Str) (v:V):∀ fs:List (Str × V),f ∈ (bN f v fs).map (·.1) /\ ∀ g,g ∈ fs.map (·.1)->g ∈ (bN f v fs).map (·.1)
 | []=>⟨by simp [bN],fun g h=>by simp at h⟩
 | (k,x) :: r=>by
  obtain ⟨i1,i2⟩:=qZ f v r
  rw [show bN f v ((k,x) :: r)=(if k=f then (k,v) :: r else (k,x) :: bN f v r) from rfl]
  by_cases hk:k=f
  ·rw [if_pos hk]
   subst hk
   exact ⟨by simp,fun g h=>by simpa using h⟩
  ·rw [if_neg hk]
   refine ⟨?_,fun g h=>?_⟩
   ·rw [List.map_cons]
    exact List.mem_cons_of_mem _ i1
   ·rw [List.map_cons] at h ⊢
    rcases List.mem_cons.mp h with e | e
    ·exact List.mem_cons.mpr (.inl e)
    ·exact List.mem_cons_of_mem _ (i2 g e)
theorem rJ (f:Str) (v:V):∀ fs:List (Str × V),(bN f v fs).length <= fs.length + 1
 | []=>by simp [bN]
 | (k,x) :: r=>by
  have ih:=rJ f v r
  rw [show bN f v ((k,x) :: r)=(if k=f then (k,v) :: r else (k,x) :: bN f v r) from rfl]
  by_cases hk:k=f
  ·rw [if_pos hk,List.length_cons,List.length_cons]; omega
  ·rw [if_neg hk,List.length_cons,List.length_cons]; omega
theorem lQ.some_of {v:V}{o:Option Value} (r:lQ (some v) o):∃ u,o=some u /\ bG v u:=by
 cases o with
 | none=>exact (show False from r).elim
 | some u=>exact ⟨u,rfl,r⟩
theorem lQ.none_of {o:Option Value} (r:lQ none o):o=none:=by
 cases o with
 | none=>rfl
 | some u=>exact (show False from r).elim
theorem Hk {v:V}{u:Value} (r:bG v u):PySem.W.handedIn u=true:=by
 cases v with
 | non=>cases (show u=Value.none from r); rfl
 | bl b=>cases (show u=Value.bool b from r); rfl
 | int i=>obtain ⟨t,e⟩:=(show ∃ t,u=Value.int i t from r); cases e; rfl
 | str x=>obtain ⟨t,e⟩:=(show ∃ t,u=Value.str x t from r); cases e; rfl
 | byt b=>obtain ⟨t,e⟩:=(show ∃ t,u=Value.bytes b t from r); cases e; rfl
 | flt b=>obtain ⟨t,e⟩:=(show ∃ t,u=Value.float b t from r); cases e; rfl
 | ref a=>cases (show u=Value.ref a from r); rfl
 | ty n=>cases (show u=Value.type n from r); rfl
section
variable {P:Program}{w:World}{H H':Hp}{h h':Heap}{a C dx:Addr}{fs fs':List (Str × V)}
theorem sW (hok:mY P w H h) (e:H a=some (.ins C dx fs)):∃ mA,Ec h a dx C mA /\ (∀ f,lQ (fs.lookup f) (mA f)) /\ PySem.Within mA (fs.map (·.1)) /\ fs.length <= 1000 /\ H dx=some (.own a):=by
 obtain ⟨d,z,ne,ob,mA,n,r,q⟩:=(show cY P w H h a (.ins C dx fs) from hok a _ e)
 exact ⟨mA,⟨ob,n,ne⟩,r,q,z,d⟩
end
structure zR (K:PySem.W.Frag) (C:Addr):Prop where
 pg:PySem.W.plainGet K C Str.empty=true
 hd:PySem.W.hasDictIn K C=true
 po:PySem.W.plainOver K C=true
 sa:PySem.W.findIn K (.ref C) "__setattr__" = some (some (.builtin "object.__setattr__"))
theorem zR.get {K:PySem.W.Frag}{C:Addr} (c:zR K C) (f:Str):PySem.W.plainGet K C f=true:=c.pg
def bV (K:PySem.W.Frag) (C:Addr) (f:Str):Prop:=PySem.W.findIn K (.ref C) f=some none
theorem bV.taker {K:PySem.W.Frag}{C:Addr}{f:Str} (n:bV K C f):PySem.W.takerIn K C f=some none:=by
 unfold PySem.W.takerIn
 rw [show PySem.W.findIn K (.ref C) f=some none from n]
 rfl
structure Con (K:PySem.W.Frag) (C:Addr) (f:Str) (v:V) (u:Value):Prop where
 at_:PySem.W.findIn K (.ref C) f=some (some u)
 rel:bG v u
 get:PySem.W.specialIn K u "__get__" = some none
 cp:PySem.W.copiedNames.contains f=false
structure cB (K:PySem.W.Frag) (C:Addr) (m:Str) (f:Addr):Prop where
 at_:PySem.W.findIn K (.ref C) m=some (some (.ref f))
 fn:PySem.W.isFn K (.ref f)=true
 kp:PySem.W.keepIn K (.ref f)=true
section
variable {X:Cx}{pins:List (Addr × Obj)}{σ : St}{H:Hp}{s:Shared}{a C dx:Addr}{fs:List (Str × V)}{f:Str}{v:V}{A:Around}{E:Value->Shared->Prop}
theorem Dv {b:Bool}{Q:Value->Shared->Prop} (I:aX X pins σ H s) (e:H a=some (.ins C dx fs)) (c:zR X.K C) (n:bV X.K C f) (l:fs.lookup f=some v)
  (h:∀ u s',aX X pins σ H s'->bG v u->Q u s'):wpAny (model X.prog X.w) A (getAttr (.ref a) f b) Q E s:=by
 obtain ⟨mA,O,r,_,_,_⟩:=sW I.hok e
 obtain ⟨u,hu,ru⟩:=lQ.some_of (v:=v) (o:=mA f) (by rw [<- l]; exact r f)
 exact M4 I.kIn O (c.get f) c.hd n hu (Hk ru) (h u _ (I.tok _) ru)
theorem tM {m:Str}{g:Addr}{pl:Sem Bool}{Q:Value × List Value->Shared->Prop} (I:aX X pins σ H s) (e:H a=some (.ins C dx fs)) (c:zR X.K C) (k:cB X.K C m g) (l:fs.lookup m=none)
  (h:Q (.ref g,[.ref a]) s):wpAny (model X.prog X.w) A (getMethod (.ref a) m pl) Q E s:=by
 obtain ⟨mA,O,r,_,_,_⟩:=sW I.hok e
 have hn:mA m=none:=lQ.none_of (by rw [<- l]; exact r m)
 exact Io I.kIn O (c.get m) k.at_ k.fn hn h
theorem DY {y:V}{u:Value}{Q:Unit->Shared->Prop} (I:aX X pins σ H s) (e:H a=some (.ins C dx fs)) (c:zR X.K C) (n:bV X.K C f) (hl:fs.length < 1000) (ry:bG y u)
  (h:∀ s',aX X pins σ (aU H a (.ins C dx (bN f y fs))) s'->Q () s'):wpAny (model X.prog X.w) A (setAttr (.ref a) f u) Q E s:=by
 obtain ⟨mA,O,r,wi,_,ho⟩:=sW I.hok e
 have hz:(fs.map (·.1)).length <= sizeLine:=by rw [List.length_map,sizeLine_eq]; omega
 refine Mq I.kIn O c.sa c.po n.taker c.hd wi hz fun h' O' sb=>h _ ?_
 have hd:∃ o,h'.get? dx=some o:=let ⟨o,_,_,e',_⟩:=O'.ns; ⟨o,e'⟩
 refine I.write (x:=a) (e:=dx) (by rw [e]; exact True.intro) (.inr ho) (fun b q hb z=>(sb.2 b hb).trans z) hd ?_
 refine ⟨by rw [aL O.ne]; exact ho,?_,O.ne,O'.obj,_,O'.ns,fun g=>?_,fun g hg=>?_⟩
 ·have:=rJ f y fs; omega
 ·show lQ ((bN f y fs).lookup g) (if g=f then some u else mA g)
  rw [rT]
  by_cases q:g=f
  ·rw [if_pos q,if_pos q]; exact ry
  ·rw [if_neg q,if_neg q]; exact r g
 ·by_cases q:g=f
  ·rw [q]; exact (qZ f y fs).1
  ·refine (qZ f y fs).2 g (wi g fun z=>hg ?_)
   show (if g=f then some u else mA g)=none
   rw [if_neg q]; exact z
theorem aX.made (I:aX X pins σ H s):aX X pins σ (aU (aU H s.heap.objs.size (.own (s.heap.objs.size + 1))) (s.heap.objs.size + 1) (.ins C s.heap.objs.size []))
  { s with heap:=(s.heap.push PySem.W.emptyDict).push (PySem.W.instObj C s.heap.objs.size) }:=by
 have e1:(s.heap.push PySem.W.emptyDict).get? s.heap.objs.size=some PySem.W.emptyDict:=Heap.get?_push_size s.heap rfl
 have e2:((s.heap.push PySem.W.emptyDict).push (PySem.W.instObj C s.heap.objs.size)).get? (s.heap.objs.size + 1)=some (PySem.W.instObj C s.heap.objs.size):=by
  have:=Heap.get?_push_size (s.heap.push PySem.W.emptyDict) (o:=PySem.W.instObj C s.heap.objs.size) rfl
  rwa [Heap.size_push] at this
 have e3:(s.heap.push PySem.W.emptyDict).Ns s.heap.objs.size (fun _=>none):=⟨PySem.W.emptyDict,#[],_,e1,rfl,(fun e he=>absurd he (by simp)),fun _=>rfl⟩
 have I1:=I.laid (a:=s.heap.objs.size) (o:=.own (s.heap.objs.size + 1)) (h':=s.heap.push PySem.W.emptyDict) (t':=s.toks) (fun b u q=>Heap.get?_push_of_some _ q) (Nat.le_refl _) ⟨_,e1⟩
 refine I1.laid (a:=s.heap.objs.size + 1) (o:=.ins C s.heap.objs.size []) (t':=s.toks) (fun b u q=>Heap.get?_push_of_some _ q) (Nat.le_of_eq (Heap.size_push _ _)) ?_
 have ne:s.heap.objs.size ≠ s.heap.objs.size + 1:=Nat.ne_of_lt (Nat.lt_succ_self _)
 refine ⟨by rw [aL ne,aB],Nat.zero_le _,ne,e2,fun _=>none,(Heap.Ns1.of_empty e3).at fun o q=>Heap.get?_push_of_some _ q,fun _=>True.intro,fun y hy=>absurd rfl hy⟩
theorem MP {prog:Program}{w:World}{env:Env}{e:Expr}{f:Str}{pos:Pos}{s:Shared}{Q:Value->Shared->Prop} (hb:attributeBase e f env (eval e env)=eval e env)
  (h:wpAny (model prog w) A (eval e env) (fun o s₁=>wpAny (model prog w) A (getAttr o f true) Q E s₁) E s):wpAny (model prog w) A (eval (.Attribute e f pos) env) Q E s :=
 Attribute_any_ h (by rw [arm_eval_Attribute,hb])
end
def Qt (K:PySem.W.Frag) (ta:TE) (f:Str):TE:=fun σ H Q=>ta σ H fun x H1=>∃ a C dx fs v,x = .ref a /\ H1 a=some (.ins C dx fs) /\ zR K C /\ bV K C f /\ fs.lookup f=some v /\ Q v H1
def aB4 (K:PySem.W.Frag) (ta tv:TE) (f:Str):TS:=fun D σ H=>tv σ H fun y H1=>ta σ H1 fun x H2=>∃ a C dx fs,x = .ref a /\ H2 a=some (.ins C dx fs) /\ zR K C /\ bV K C f /\ fs.length < 1000 ∧
 D.nx σ (aU H2 a (.ins C dx (bN f y fs)))
section
variable {X:Cx}{o e value:Expr}{f:Str}{pos pos' tpos:Pos}{ta tv:TE}
theorem cL (he:PE X e ta) (hb:attributeBase e f X.env (eval e X.env)=eval e X.env):PE X (.Attribute e f pos) (Qt X.K ta f):=by
 intro pins s σ H Q I h
 refine MP hb (d8 (he pins s σ H _ I h) fun u s1 ⟨x,H1,I1,rx,a,C,dx,fs,v,ex,ea,c,n,l,q⟩=>?_)
 subst ex
 obtain rfl:u=Value.ref a:=rx
 exact Dv I1 ea c n l fun u' s2 I2 ru=>⟨v,H1,I2,ru,q⟩
theorem eO (ha:PE X o ta) (hv:PE X value tv) (hs:swapsWith value (some (.Attribute o f pos')) pos.line X.env=pure false):PS X (.Assign [.Attribute o f pos'] value pos) (aB4 X.K ta tv f):=by
 intro pins s σ H D I h
 refine plainObj_wpAny_Assign_Attribute (d8 (hv pins s σ H _ I h) fun u s1 ⟨y,H1,I1,ry,q⟩=>d8 (ha pins s1 σ H1 _ I1 q) fun ov s2 ⟨x,H2,I2,rx,a,C,dx,fs,ex,ea,c,n,l,q2⟩=>?_) hs
 subst ex
 obtain rfl:ov=Value.ref a:=rx
 exact DY I2 ea c n l ry fun s3 I3=>⟨σ,_,I3,q2⟩
end
section
variable {X:Cx}{pins:List (Addr × Obj)}{σ : St}{H:Hp}{s:Shared}{A:Around}{E:Value->Shared->Prop}{Q:Value->Shared->Prop}{c:Value}{b:Bool}
inductive gF (K:PySem.W.Frag) (H:Hp):V->Value->Prop where
 | non:gF K H .non (.type "NoneType")
 | bl (x:Bool):gF K H (.bl x) (.type "bool")
 | int (i:Int):gF K H (.int i) (.type "int")
 | str (x:Str):gF K H (.str x) (.type "str")
 | flt (x:UInt64):gF K H (.flt x) (.type "float")
 | lst {a:Addr}{xs:List V} (e:H a=some (.lst xs)):gF K H (.ref a) (.type "list")
 | frz {a:Addr}{o:Obj}{xs:List V} (e:H a=some (.frz o (.lst xs))):gF K H (.ref a) (.type "list")
 | tup {a:Addr}{xs:List V} (e:H a=some (.tup xs)):gF K H (.ref a) (.type "tuple")
 | dK {a:Addr}{kvs:List (dG × V)} (e:H a=some (.dK kvs)):gF K H (.ref a) (.type "dict")
 | dT {a:Addr}{kvs:List (List dG × V)} (e:H a=some (.dT kvs)):gF K H (.ref a) (.type "dict")
 | ins {a C dx:Addr}{fs:List (Str × V)} (e:H a=some (.ins C dx fs)) (cl:zR K C) (ha:PySem.W.findIn K (.ref C) "__class__" = some (some (.builtin "object.__class__")))
   (hn:PySem.W.specialIn K (.builtin "object.__class__") "__get__" = some (some (.builtin "getset_descriptor.__get__"))) (htk:PySem.W.takesIn K (.builtin "object.__class__")=some true)
   (hm:PySem.W.mroIn K C (.type "object")=some true):gF K H (.ref a) (.ref C)
theorem yD {x:V}{u t:Value} (I:aX X pins σ H s) (rx:bG x u) (ty:gF X.K H x t) (e:PySem.W.kitOne X.K t c=some b) (h:∀ tk,Q (.bool b) { s with toks:=tk }) :
  wpAny (model X.prog X.w) A (call (.builtin "isinstance") [u,c]) Q E s:=by
 cases ty with
 | non=>cases (show u=Value.none from rx); exact PySem.W.kia_one PySem.W.kitx_none I.kIn True.intro e (fun z=>nomatch z) h
 | bl y=>cases (show u=Value.bool y from rx); exact PySem.W.kia_one PySem.W.kitx_bool I.kIn True.intro e (fun z=>nomatch z) h
 | int i=>obtain ⟨t,q⟩:=(show ∃ t,u=Value.int i t from rx); cases q; exact PySem.W.kia_one PySem.W.kitx_int I.kIn True.intro e (fun z=>nomatch z) h
 | str y=>obtain ⟨t,q⟩:=(show ∃ t,u=Value.str y t from rx); cases q; exact PySem.W.kia_one PySem.W.kitx_str I.kIn True.intro e (fun z=>nomatch z) h
 | flt y=>obtain ⟨t,q⟩:=(show ∃ t,u=Value.float y t from rx); cases q; exact PySem.W.kia_one PySem.W.kitx_float I.kIn True.intro e (fun z=>nomatch z) h
 | @lst a xs ea =>
  cases (show u=Value.ref a from rx)
  obtain ⟨_,_,n,_,h1⟩:=(show cY X.prog X.w H s.heap a (.lst xs) from I.hok a _ ea)
  exact PySem.W.kia_one PySem.W.kitx_list I.kIn ⟨_,h1,rfl⟩ e (fun z=>nomatch z) h
 | @frz a ob xs ea =>
  cases (show u=Value.ref a from rx)
  obtain ⟨_,_,_,n,_,h1⟩:=(show cY X.prog X.w H s.heap a (.frz ob (.lst xs)) from I.hok a _ ea)
  exact PySem.W.kia_one PySem.W.kitx_list I.kIn ⟨_,h1,rfl⟩ e (fun z=>nomatch z) h
 | @tup a xs ea =>
  cases (show u=Value.ref a from rx)
  obtain ⟨_,_,_,p⟩:=(show cY X.prog X.w H s.heap a (.tup xs) from I.hok a _ ea)
  obtain ⟨o,h1,h2,_⟩:=p
  exact PySem.W.kia_one PySem.W.kitx_tuple I.kIn ⟨o,h1,h2⟩ e (fun z=>nomatch z) h
 | @dK a kvs ea =>
  cases (show u=Value.ref a from rx)
  obtain ⟨_,_,vs,_,p⟩:=(show cY X.prog X.w H s.heap a (.dK kvs) from I.hok a _ ea)
  obtain ⟨o,es,ep,h1,h2,_⟩:=p
  exact PySem.W.kia_one PySem.W.kitx_dict I.kIn ⟨o,h1,h2.1⟩ e (fun z=>nomatch z) h
 | @dT a kvs ea =>
  cases (show u=Value.ref a from rx)
  obtain ⟨_,_,xs,_,o,es,ep,h1,h2,_⟩:=(show cY X.prog X.w H s.heap a (.dT kvs) from I.hok a _ ea)
  exact PySem.W.kia_one PySem.W.kitx_dict I.kIn ⟨o,h1,h2.1⟩ e (fun z=>nomatch z) h
 | @ins a C dx fs ea cl ha hn htk hm =>
  cases (show u=Value.ref a from rx)
  obtain ⟨mA,O,_⟩:=sW I.hok ea
  obtain ⟨od,J,_⟩:=O.look
  exact PySem.W.kia_one (PySem.W.kitx_own (cl.get _) cl.hd ha hn htk hm) I.kIn J e (fun z=>nomatch z) h
end
end L2
namespace L2
open PySem PySem.Spec PyProof.Rows
structure fG (k:Nat) (A:Around):Prop where
 hd:A.handled=none
 dp:A.depth + 3 * k + 5 < recursionLimit
 un:A.units + 16 * k + 200 < cLine
theorem fG.mono {j k:Nat}{A:Around} (r:fG k A) (h:j <= k):fG j A:=⟨r.hd,by have:=r.dp; omega,by have:=r.un; omega⟩
theorem fG.deeper {k:Nat}{A:Around} (r:fG (k + 1) A) (env:Env):fG k (A.deeper env) :=
 ⟨r.hd,by have:=r.dp; show A.depth + 1 + 3 * k + 5 < _; omega,by have:=r.un; show A.units + 3 + 16 * k + 200 < _; omega⟩
theorem fG.in1 {k:Nat}{A:Around} (r:fG (k + 1) A):fG k A.in1 :=
 ⟨r.hd,by have:=r.dp; show A.depth + 3 * k + 5 < _; omega,by have:=r.un; show A.units + 1 + 16 * k + 200 < _; omega⟩
theorem Dg {A:Around}{C:Addr}{us:List Value}{kw:List (Str × Value)}:(A.under (.builtin "type.__call__" ⟨.ref C :: us,kw⟩)).depth=A.depth + 1:=by
 first | rfl | simp [Around.under,Code.weight,Code.isCreation,Code.isGuard,Code.isCaller,Code.frames,Code.isFrame,guardIds]
theorem Eh {A:Around}{C:Addr}{us:List Value}{kw:List (Str × Value)}:(A.under (.builtin "type.__call__" ⟨.ref C :: us,kw⟩)).units=A.units + 1:=by
 first | rfl | simp [Around.under,Code.cUnits,Code.frames,Code.isFrame]
theorem fG.make {k:Nat}{A:Around} (r:fG (k + 1) A) (C:Addr) (us:List Value) (kw:List (Str × Value)):fG k (A.under (.builtin "type.__call__" ⟨.ref C :: us,kw⟩)) :=
 ⟨r.hd,by have:=r.dp; rw [Dg]; omega,by have:=r.un; rw [Eh]; omega⟩
theorem fG.depth {k:Nat}{A:Around} (r:fG k A):A.depth < recursionLimit:=by have:=r.dp; omega
theorem fG.units {k:Nat}{A:Around} (r:fG k A):A.units + 64 < cLine:=by have:=r.un; omega
def DN:TA:=fun _ H Q=>Q [] H
def Ij (ta:TE) (tr:TA):TA:=fun σ H Q=>ta σ H fun x H1=>tr σ H1 fun xs H2=>Q (x :: xs) H2
section
variable {X:Cx}{e:Expr}{es:List Expr}{te:TE}{t:TA}{pos:Pos}
theorem aC:PA X [] DN:=fun _ _ _ _ H Q I h=>Calls.spliced_nil ⟨[],H,I,.nil,h⟩
theorem aA (ha:PE X e te) (hr:PA X es t) (hs:starEach (e :: es) X.env=(false,eval e X.env) :: starEach es X.env:=by rfl):PA X (e :: es) (Ij te t):=by
 intro pos pins s σ H Q I h
 rw [hs]
 show wpAny _ _ (spliced ((false,eval e X.env) :: backTo pos (starEach es X.env))) _ _ s
 refine Calls.spliced_cons (d8 (ha pins s σ H _ I h) fun u s1 ⟨x,H1,I1,r1,q1⟩=>?_)
 exact d8 (hr pos pins s1 σ H1 _ I1 q1) fun us s2 ⟨xs,H2,I2,r2,q2⟩=>⟨x :: xs,H2,I2,.cons r1 r2,q2⟩
def aBo (t:TA):TE:=fun σ H Q=>t σ H fun xs H1=>xs.length <= sizeLine /\ ∀ p,H1 p=none->Q (.ref p) (aU H1 p (.tup xs))
def aAu (t:TA):TE:=fun σ H Q=>t σ H fun xs H1=>xs.length <= sizeLine /\ ∀ p,H1 p=none->Q (.ref p) (aU H1 p (.lst xs))
theorem eU {x1} (h:PA X es t):PE X (.Tuple es x1 pos) (aBo t):=by
 intro pins s σ H Q I hq
 refine wpAny_Tuple_spliced (d8 (h pos pins s σ H _ I hq) fun us s1 ⟨xs,H1,I1,r,z,q⟩=>⟨by rw [<- r.length]; exact z,?_⟩)
 have hf:H1 s1.heap.objs.size=none:=I1.hok.fresh (Nat.le_refl _)
 refine ⟨.ref s1.heap.objs.size,aU H1 s1.heap.objs.size (.tup xs),I1.laid (t':=s1.toks) (fun b u e=>Heap.get?_push_of_some _ e) (Nat.le_refl _) ?_,rfl,q _ hf⟩
 exact ⟨z,us,r,⟨_,Heap.get?_push_size _ rfl,rfl,_,rfl⟩⟩
theorem dU (h:PA X es t):PE X (.List es pos) (aAu t):=by
 intro pins s σ H Q I hq
 refine wpAny_List_spliced (d8 (h pos pins s σ H _ I hq) fun us s1 ⟨xs,H1,I1,r,z,q⟩=>⟨by rw [<- r.length]; exact z,?_⟩)
 have hf:H1 s1.heap.objs.size=none:=I1.hok.fresh (Nat.le_refl _)
 refine ⟨.ref s1.heap.objs.size,aU H1 s1.heap.objs.size (.lst xs),I1.laid (t':=s1.toks) (fun b u e=>Heap.get?_push_of_some _ e) (Nat.le_refl _) ?_,rfl,q _ hf⟩
 exact ⟨z,us,0,r,Heap.get?_push_size _ rfl⟩
end
abbrev Sp:=List V->Hp->VK->XK->Prop
abbrev zT:=List Env->Hp->Shared->XK->Value->Shared->Prop
structure vZ (P:Program) (w:World) (K:PySem.W.Frag) (mg:Str->Option Value) (base:Heap) (A:Around) (outer:List Env) (s:Shared) (H:Hp):Prop where
 frames:A.frames=some outer
 mod:Mod K mg base
 bs:∀ b o,base.get? b=some o->s.heap.get? b=some o /\ H b=none
 bsz:base.objs.size <= s.heap.objs.size
 funs:s.heap.FunFrames base outer
 frf:∀ b ∈ qD outer,H b=none
 hok:mY P w H s.heap
 bare:AllBare s.gens
def CE (outer:List Env) (P:Program) (w:World) (H:Hp) (s:Shared) (Q:VK) (u:Value) (s':Shared):Prop :=
 ∃ v H',s'.os=s.os /\ AllBare s'.gens /\ Un (qD outer) [] H H' s.heap s'.heap /\ mY P w H' s'.heap /\ bG v u /\ Q v H'
def CR (CX:zT) (outer:List Env) (P:Program) (w:World) (H:Hp) (s:Shared) (Q:VK) (E:XK) (r:Result) (s':Shared):Prop :=
 match r with
 | .ok (.ret u)=>CE outer P w H s Q u s'
 | .ok _=>False
 | .error e=>CX outer H s E e s'
structure aP (P:Program) (w:World) (K:PySem.W.Frag) (mg:Str->Option Value) (base:Heap) (CX:zT) (k:Nat) (f:Addr) (fd:FuncData) (ps:List Str) (sp:Sp):Prop where
 len:∀ vs H Q E,sp vs H Q E->vs.length=ps.length
 run:∀ (A:Around) (outer:List Env) (s:Shared) (H:Hp) (args:Args) (us:List Value) (vs:List V) (Q:VK) (E:XK),fG k A->vZ P w K mg base A outer s H->BindsTo s fd args (ps.zip us)->bI vs us->sp vs H Q E ->
  codeAny (model P w) A (.call (.ref f) args) (CR CX outer P w H s Q E) s
theorem aP.mono {P:Program}{w:World}{K:PySem.W.Frag}{mg:Str->Option Value}{base:Heap}{CX:zT}{j k:Nat}{f:Addr}{fd:FuncData}{ps:List Str}{sp:Sp} (F:aP P w K mg base CX j f fd ps sp) (h:j <= k) :
  aP P w K mg base CX k f fd ps sp:=⟨F.len,fun A outer s H args us vs Q E hr=>F.run A outer s H args us vs Q E (hr.mono h)⟩
theorem aP.imp {P:Program}{w:World}{K:PySem.W.Frag}{mg:Str->Option Value}{base:Heap}{CX:zT}{k:Nat}{f:Addr}{fd:FuncData}{ps:List Str}{sp sp':Sp} (F:aP P w K mg base CX k f fd ps sp)
  (h:∀ vs H Q E,sp' vs H Q E->sp vs H Q E):aP P w K mg base CX k f fd ps sp' :=
 ⟨fun vs H Q E q=>F.len vs H Q E (h _ _ _ _ q),fun A outer s H args us vs Q E hr he hb hv hs=>F.run A outer s H args us vs Q E hr he hb hv (h _ _ _ _ hs)⟩
theorem vZ.make {P:Program}{w:World}{K:PySem.W.Frag}{mg:Str->Option Value}{base:Heap}{A:Around}{outer:List Env}{s:Shared}{H:Hp} (e:vZ P w K mg base A outer s H) (C:Addr) (us:List Value) (kw:List (Str × Value)) :
  vZ P w K mg base (A.under (.builtin "type.__call__" ⟨.ref C :: us,kw⟩)) outer s H:=⟨by first | exact e.frames | (simpa [Around.under,Code.envs,Code.isFrame,pushEnvs] using e.frames),e.mod,e.bs,e.bsz,e.funs,e.frf,e.hok,e.bare⟩
theorem vZ.in1 {P:Program}{w:World}{K:PySem.W.Frag}{mg:Str->Option Value}{base:Heap}{A:Around}{outer:List Env}{s:Shared}{H:Hp} (e:vZ P w K mg base A outer s H) :
  vZ P w K mg base A.in1 outer s H:=⟨e.frames,e.mod,e.bs,e.bsz,e.funs,e.frf,e.hok,e.bare⟩
section
variable {X:Cx}{pins:List (Addr × Obj)}{σ : St}{H:Hp}{s s':Shared}
theorem aX.env0 (I:aX X pins σ H s):vZ X.prog X.w X.K X.mg X.base X.A X.stack s H :=
 ⟨I.ok.frames,I.ok.mod,I.bs,Nat.le_trans I.ok.bsz I.sz,I.stack,I.stkFree,I.hok,I.bare⟩
theorem aX.after {Q:VK}{u:Value} (I:aX X pins σ H s) (h:CE X.stack X.prog X.w H s Q u s'):EP X pins σ Q u s':=by
 obtain ⟨v,H',os,bare,un,hok,r,q⟩:=h
 obtain ⟨hh,g,d,t,os'⟩:=s'
 obtain rfl:os'=s.os:=os
 exact ⟨v,H',I.call (h':=hh) (g':=g) (d':=d) (t':=t) (ch:=[]) un hok bare (fun b z=>absurd z (by simp)),r,q⟩
end
def Bt (sp:Sp) (dvs:List V) (E:XK) (t:TA):TE:=fun σ H Q=>t σ H fun vs H1=>sp (vs ++ dvs) H1 Q E
def xM (C:Addr) (m:Str) (sp:Sp) (dvs:List V) (E:XK) (ta:TE) (t:TA):TE:=fun σ H Q=>ta σ H fun x H1=>∃ a dx fs,x = .ref a /\ H1 a=some (.ins C dx fs) /\ fs.lookup m=none ∧
 t σ H1 fun vs H2=>sp (x :: (vs ++ dvs)) H2 Q E
def Vz (C:Addr) (sp:Sp) (dvs:List V) (E:XK) (t:TA):TE:=fun σ H Q=>t σ H fun vs H1=>∀ x dx,H1 x=none->H1 dx=none->dx ≠ x ->
 sp (.ref x :: (vs ++ dvs)) (aU (aU H1 dx (.own x)) x (.ins C dx [])) (fun v H2=>v = .non /\ Q (.ref x) H2) E
def aY (K:PySem.W.Frag) (fd:FuncData) (ps:List Str) (ds:List Value):Prop :=
 ∀ (s:Shared) (us:List Value),K.In s.heap->(us ++ ds).length=ps.length->BindsTo s fd ⟨us,[]⟩ (ps.zip (us ++ ds))
theorem aY.all {K:PySem.W.Frag}{fd:FuncData}{ps:List Str} (h:∀ us:List Value,us.length=ps.length->bindArgs fd ⟨us,[]⟩ = pure (ps.zip us)):aY K fd ps []:=fun s us _ hl=>by
 rw [List.append_nil] at hl ⊢
 exact .of_eq (h us hl)
def iR (CX:zT) (X:Cx) (E:XK):Prop:=∀ (pins:List (Addr × Obj)) (σ : St) (H:Hp) (s:Shared) (e:Value) (s':Shared),aX X pins σ H s->CX X.stack H s E e s'->X.xe e s'
section
variable {X:Cx}{CX:zT}{k:Nat}{f C:Addr}{fd:FuncData}{ps:List Str}{sp:Sp}{dvs:List V}{ds:List Value}{E:XK}{x m:Str}{p pos apos:Pos}{e o:Expr}{es:List Expr}{ta:TE}{t:TA}
theorem zZ {pins:List (Addr × Obj)}{σ : St}{H:Hp}{s:Shared}{Q:VK}{us:List Value}{vs:List V} (F:aP X.prog X.w X.K X.mg X.base CX k f fd ps sp) (hr:fG k X.A) (hb:aY X.K fd ps ds) (hd:bI dvs ds) (hx:iR CX X E)
  (I:aX X pins σ H s) (r:bI vs us) (h:sp (vs ++ dvs) H Q E):wpAny (model X.prog X.w) X.A (call (.ref f) us) (EP X pins σ Q) X.xe s:=by
 have r2:bI (vs ++ dvs) (us ++ ds):=r.append hd
 have hl:(us ++ ds).length=ps.length:=by rw [<- r2.length]; exact F.len _ _ _ _ h
 refine wpAny_call (codeAny_mono (F.run X.A X.stack s H ⟨us,[]⟩ (us ++ ds) (vs ++ dvs) Q E hr I.env0 (hb s us I.kIn hl) r2 h) fun r s' hq=>?_)
 cases r with
 | error e=>exact hx pins σ H s e s' I hq
 | ok fl =>
  cases fl with
  | ret u=>exact I.after hq
  | next=>exact False.elim hq
  | brk=>exact False.elim hq
  | cont=>exact False.elim hq
theorem Af (F:aP X.prog X.w X.K X.mg X.base CX k f fd ps sp) (hr:fG k X.A) (hg:Gl X x) (hm:X.mg x=some (.ref f)) (hk:PySem.W.keepIn X.K (.ref f)=true) (hb:aY X.K fd ps ds) (hd:bI dvs ds) (hx:iR CX X E)
  (ha:PA X (e :: es) t) (hdb:(x == ("__debug__" : Str))=false:=by decide) (he:starEach (e :: es) X.env=(false,eval e X.env) :: starEach es X.env:=by rfl) (hpl:(backTo pos (starEach es X.env)).any (·.1)=false:=by rfl) :
  PE X (.Call (.Name x p) (e :: es) [] pos) (Bt sp dvs E t):=by
 intro pins s σ H Q I h
 refine wpAny_Call_Name_kw (m8 I hg hm ?_ hdb)
 refine PySem.W.callWith_K (h₀:=X.base) I.ok.mod.kin hk (d8 (ha pos pins s σ H _ I h) fun us s1 ⟨vs,H1,I1,r,q⟩=>⟨I1.kIn,?_⟩) he hpl
 exact zZ F hr hb hd hx I1 r q
theorem bR {pl:Sem Bool} (he:PE X o ta) (c:zR X.K C) (hm:cB X.K C m f) (F:aP X.prog X.w X.K X.mg X.base CX k f fd ps sp) (hr:fG k X.A) (hb:aY X.K fd ps ds) (hd:bI dvs ds) (hx:iR CX X E) (ha:PA X (e :: es) t)
  (hst:starEach (e :: es) X.env=(false,eval e X.env) :: starEach es X.env:=by rfl) (hpl:(backTo pos (starEach es X.env)).any (·.1)=false:=by rfl)
  (ht:eval (.Call (.Attribute o m apos) (e :: es) [] pos) X.env=(do
   let ov <- eval o X.env
   standAt apos.atName
   let (f,first) <- holding [ov] (getMethod ov m pl)
   callWith pos f first (backTo pos (starEach (e :: es) X.env)) (backToKw pos (keywordEach [] X.env))):=by rfl) :
  PE X (.Call (.Attribute o m apos) (e :: es) [] pos) (xM C m sp dvs E ta t):=by
 intro pins s σ H Q I h
 refine PySem.W.methodCall_KW (pl:=pl) (d8 (he pins s σ H _ I h) fun u s1 ⟨x,H1,I1,rx,a,dx,fs,ex,ea,l,q⟩=>?_) ht
 subst ex
 obtain rfl:u=Value.ref a:=rx
 refine tM I1 ea c hm l ?_
 refine PySem.W.callWith_K (first:=[.ref a]) (h₀:=X.base) I.ok.mod.kin hm.kp (d8 (ha pos pins s1 σ H1 _ I1 q) fun us s2 ⟨vs,H2,I2,r,q2⟩=>⟨I2.kIn,?_⟩) hst hpl
 exact zZ (us:=.ref a :: us) (vs:=.ref a :: vs) F hr hb hd hx I2 (.cons rfl r) q2
theorem bK {pl:Sem Bool} (he:PE X o ta) (c:zR X.K C) (hm:cB X.K C m f) (F:aP X.prog X.w X.K X.mg X.base CX k f fd ps sp) (hr:fG k X.A) (hb:aY X.K fd ps ds) (hd:bI dvs ds) (hx:iR CX X E)
  (ht:eval (.Call (.Attribute o m apos) [] [] pos) X.env=(do
   let ov <- eval o X.env
   standAt apos.atName
   let (f,first) <- holding [ov] (getMethod ov m pl)
   callWith pos f first (backTo pos (starEach [] X.env)) (backToKw pos (keywordEach [] X.env))):=by rfl) :
  PE X (.Call (.Attribute o m apos) [] [] pos) (xM C m sp dvs E ta DN):=by
 intro pins s σ H Q I h
 refine PySem.W.methodCall_KW (pl:=pl) (d8 (he pins s σ H _ I h) fun u s1 ⟨x,H1,I1,rx,a,dx,fs,ex,ea,l,q⟩=>?_) ht
 subst ex
 obtain rfl:u=Value.ref a:=rx
 refine tM I1 ea c hm l ?_
 exact PySem.W.callWith_K0 (first:=[.ref a]) I1.kIn hm.kp (zZ (us:=[.ref a]) (vs:=[.ref a]) F hr hb hd hx I1 (.cons rfl .nil) q)
structure Mk (K:PySem.W.Frag) (C f:Addr):Prop where
 makes:PySem.W.makesIn K C=true
 init:PySem.W.findIn K (.ref C) "__init__" = some (some (.ref f))
 fn:PySem.W.isFn K (.ref f)=true
 kp:PySem.W.keepIn K (.ref C)=true
theorem JM {pins:List (Addr × Obj)}{σ : St}{H:Hp}{s:Shared}{Q:VK}{us:List Value}{vs:List V} (M:Mk X.K C f) (F:aP X.prog X.w X.K X.mg X.base CX k f fd ps sp) (hr:fG (k + 1) X.A) (hb:aY X.K fd ps ds) (hd:bI dvs ds)
  (hx:iR CX X E) (I:aX X pins σ H s) (r:bI vs us)
  (h:∀ x dx,H x=none->H dx=none->dx ≠ x->sp (.ref x :: (vs ++ dvs)) (aU (aU H dx (.own x)) x (.ins C dx [])) (fun v H2=>v = .non /\ Q (.ref x) H2) E) :
  wpAny (model X.prog X.w) X.A (call (.ref C) us) (EP X pins σ Q) X.xe s:=by
 have hq:=h (s.heap.objs.size + 1) s.heap.objs.size (I.hok.fresh (Nat.le_succ _)) (I.hok.fresh (Nat.le_refl _)) (Nat.ne_of_lt (Nat.lt_succ_self _))
 have I2:=aX.made (C:=C) I
 have r2:bI (V.ref (s.heap.objs.size + 1) :: (vs ++ dvs)) (Value.ref (s.heap.objs.size + 1) :: (us ++ ds)):=.cons rfl (r.append hd)
 have hl:(Value.ref (s.heap.objs.size + 1) :: us ++ ds).length=ps.length:=by
  have e:=r2.length
  rw [F.len _ _ _ _ hq] at e
  exact e.symm
 refine wpAny_call (Ji (f:=f) I.kIn M.makes M.init (beq_iff_eq.mp M.fn) (codeAny_mono (F.run _ X.stack _ _ ⟨Value.ref (s.heap.objs.size + 1) :: us,[]⟩ (Value.ref (s.heap.objs.size + 1) :: (us ++ ds)) _ _ E (hr.make C us [])
  (I2.env0.make C us []) (hb _ (Value.ref (s.heap.objs.size + 1) :: us) I2.kIn hl) r2 hq) fun r s' hq'=>?_))
 cases r with
 | error e=>exact hx pins σ _ _ e s' I2 hq'
 | ok fl =>
  cases fl with
  | ret u =>
   obtain ⟨v,H',I3,rv,ev,q3⟩:=I2.after hq'
   subst ev
   exact ⟨rv,⟨V.ref (s.heap.objs.size + 1),H',I3,rfl,q3⟩⟩
  | next=>exact False.elim hq'
  | brk=>exact False.elim hq'
  | cont=>exact False.elim hq'
theorem pN (M:Mk X.K C f) (F:aP X.prog X.w X.K X.mg X.base CX k f fd ps sp) (hr:fG (k + 1) X.A) (hg:Gl X x) (hm:X.mg x=some (.ref C)) (hb:aY X.K fd ps ds) (hd:bI dvs ds) (hx:iR CX X E)
  (ha:PA X (e :: es) t) (hdb:(x == ("__debug__" : Str))=false:=by decide) (he:starEach (e :: es) X.env=(false,eval e X.env) :: starEach es X.env:=by rfl) (hpl:(backTo pos (starEach es X.env)).any (·.1)=false:=by rfl) :
  PE X (.Call (.Name x p) (e :: es) [] pos) (Vz C sp dvs E t):=by
 intro pins s σ H Q I h
 refine wpAny_Call_Name_kw (m8 I hg hm ?_ hdb)
 refine PySem.W.callWith_K (h₀:=X.base) I.ok.mod.kin M.kp (d8 (ha pos pins s σ H _ I h) fun us s1 ⟨vs,H1,I1,r,q⟩=>⟨I1.kIn,?_⟩) he hpl
 exact JM M F hr hb hd hx I1 r q
end
section
variable {X:Cx}{CX:zT}{k:Nat}{f C:Addr}{fd:FuncData}{ps ks:List Str}{sp:Sp}{E:XK}{x m:Str}{p pos apos kpos:Pos}{e o:Expr}{es:List Expr}{kws:List Keyword}{te ta:TE}{t tk:TA}{nm:Option Str}
structure aBI (K:PySem.W.Frag) (fd:FuncData) (ps ks:List Str) (g:List Value->List Value->List Value) (gV:List V->List V->List V):Prop where
 to:∀ (s:Shared) (us ws:List Value),K.In s.heap->(g us ws).length=ps.length->BindsTo s fd ⟨us,ks.zip ws⟩ (ps.zip (g us ws))
 rel:∀ {vs:List V}{us:List Value}{zs:List V}{ws:List Value},bI vs us->bI zs ws->bI (gV vs zs) (g us ws)
variable {g:List Value->List Value->List Value}{gV:List V->List V->List V}
end
structure aO (N P:List Str) (sc:Scope):Prop where
 kind:sc.kind = .function
 co:sc.isCoroutine=false
 gen:sc.isGenerator=false
 nd:N.Nodup
 pre:N.take P.length=P
 par:∀ x ∈ P,sc.names.lookup x=some .local ∨ sc.names.lookup x=some .cell
 nofree:∀ y ∈ sc.names,y.2 ≠ .free
theorem wO {kindOf:Str->Option NameKind}{x:Str}:∀ {binds:List (Str × Value)}{m:Str->Option Value},(∀ v,(x,v) ∉ binds)->bindL kindOf binds m x=m x
 | [],_,_=>rfl
 | (n,v) :: r,m,h=>by
  unfold bindL
  rw [wO fun w hw=>h w (List.mem_cons_of_mem _ hw)]
  split
  ·have:x ≠ n:=by rintro rfl; exact h v List.mem_cons_self
   simp [this]
  ·rfl
theorem xX {kindOf:Str->Option NameKind}{x:Str}:∀ {binds:List (Str × Value)}{m:Str->Option Value},(∀ v,(x,v) ∉ binds)->bindC kindOf binds m x=m x
 | [],_,_=>rfl
 | (n,v) :: r,m,h=>by
  unfold bindC
  rw [xX fun w hw=>h w (List.mem_cons_of_mem _ hw)]
  split
  ·rfl
  ·have:x ≠ n:=by rintro rfl; exact h v List.mem_cons_self
   simp [this]
theorem wY {kindOf:Str->Option NameKind}{x:Str}{v:Value}:∀ {P:List Str}{vs:List Value}{i:Nat}{m:Str->Option Value},P.Nodup->P[i]? = some x->vs[i]? = some v->kindOf x=some .local ->
  bindL kindOf (P.zip vs) m x=some v
 | [],_,_,_,_,h,_,_=>by simp at h
 | _ :: _,[],_,_,_,_,h,_=>by simp at h
 | p :: P,w :: vs,0,m,nd,h1,h2,hk=>by
  simp at h1 h2; subst h1; subst h2
  show bindL kindOf ((p,w) :: P.zip vs) m p=_
  unfold bindL
  rw [wO fun v hv=>(List.nodup_cons.mp nd).1 (List.of_mem_zip hv).1,if_pos hk]
  simp
 | p :: P,w :: vs,i + 1,m,nd,h1,h2,hk=>by
  show bindL kindOf ((p,w) :: P.zip vs) m x=_
  unfold bindL
  exact wY (i:=i) (List.nodup_cons.mp nd).2 (by simpa using h1) (by simpa using h2) hk
theorem wW {kindOf:Str->Option NameKind}{x:Str}{v:Value}:∀ {P:List Str}{vs:List Value}{i:Nat}{m:Str->Option Value},P.Nodup->P[i]? = some x->vs[i]? = some v->kindOf x ≠ some .local ->
  bindC kindOf (P.zip vs) m x=some v
 | [],_,_,_,_,h,_,_=>by simp at h
 | _ :: _,[],_,_,_,_,h,_=>by simp at h
 | p :: P,w :: vs,0,m,nd,h1,h2,hk=>by
  simp at h1 h2; subst h1; subst h2
  show bindC kindOf ((p,w) :: P.zip vs) m p=_
  unfold bindC
  rw [xX fun v hv=>(List.nodup_cons.mp nd).1 (List.of_mem_zip hv).1,if_neg hk]
  simp
 | p :: P,w :: vs,i + 1,m,nd,h1,h2,hk=>by
  show bindC kindOf ((p,w) :: P.zip vs) m x=_
  unfold bindC
  exact wW (i:=i) (List.nodup_cons.mp nd).2 (by simpa using h1) (by simpa using h2) hk
def start (N:List Str) (vs:List V):St:=vs.map some ++ List.replicate (N.length - vs.length) none
def pA (CX:zT) (P:Program) (w:World) (K:PySem.W.Frag) (mg:Str->Option Value) (base:Heap) (N:List Str) (qual:Str) (scope:Scope) (f:Addr) (cd:Value) (A:Around) (outer:List Env) (s:Shared) (H:Hp) (E:XK):Cx where
 prog:=P
 w:=w
 K:=K
 mg:=mg
 base:=base
 A:=A.deeper (envOfC qual scope s.heap.objs.size f cd)
 N:=N
 s₀:=s
 H₀:=H
 env:=envOfC qual scope s.heap.objs.size f cd
 outer:=outer
 stack:=envOfC qual scope s.heap.objs.size f cd :: outer
 ex:=[]
 calm:=true
 fn:=fun _=>true
 pn:=[]
 xe:=fun e s'=>wpAny (model P w) (A.deeper (envOfC qual scope s.heap.objs.size f cd)) (leaving (envOfC qual scope s.heap.objs.size f cd) e) (fun _ s''=>CX outer H s E e s'') (fun e' s''=>CX outer H s E e' s'') s'
theorem Bk {sc:Scope}{n:Nat}{x:Str} (h:sc.names.lookup x=some .cell):∃ c,(cellsFrom n sc.names []).lookup x=some c:=by
 have q:=PySem.W.cellsFrom_some sc.names n [] (.inl h)
 exact Option.isSome_iff_exists.mp q
theorem xO {CX:zT}{P:Program}{w:World}{K:PySem.W.Frag}{mg:Str->Option Value}{base:Heap}{N ps:List Str}{qual:Str}{scope:Scope}{f:Addr}{cd:Value}{A:Around}{outer:List Env}{s s1:Shared}{H:Hp}{E:XK}{us:List Value}{vs:List V}
  (S:aO N ps scope) (hd:A.handled=none) (e0:vZ P w K mg base A outer s H) (hl:vs.length=ps.length) (r:bI vs us)
  (x:InCallC s s.heap.objs.size (bindL (envOfC qual scope s.heap.objs.size f cd).kindOf (ps.zip us) fun _=>none) (cellsFrom (s.heap.objs.size + 1) scope.names []) (bindC (envOfC qual scope s.heap.objs.size f cd).kindOf (ps.zip us) fun _=>none) s1) :
  aX (pA CX P w K mg base N qual scope f cd A outer s H E) [] (start N vs) H s1:=by
 have hpl:ps.length <= N.length:=by have:=congrArg List.length S.pre; rw [List.length_take] at this; omega
 obtain ⟨h1,tk,rfl,hk⟩:=x.done
 have noA:∀ b:Addr,b ∉ (pA CX P w K mg base N qual scope f cd A outer s H E).ex:=fun b z=>absurd (show b ∈ ([]:List Addr) from z) (by simp)
 refine ⟨⟨e0.mod,S.kind,rfl,rfl,Nat.le_refl _,fun y z c h1 h2=>?_,fun y hy=>?_,fun y c _ h=>?_,fun _=>hd,Around.frames_deeper e0.frames,.inr ⟨rfl,rfl⟩,fun b z=>absurd z (noA b),e0.bs,e0.bsz,fun b _ _=>noA b,fun b z=>absurd z (noA b),e0.funs,e0.frf⟩,
  rfl,e0.bare,Un.kept hk,⟨_,x.toInCall.ns,fun i y v h1 h2 h3=>?_⟩,fun y c h=>⟨_,x.cell y c h⟩,e0.hok.fresh (Nat.le_refl _),fun y c h=>?_,fun p hp=>absurd (show p ∈ ([]:List (Addr × Obj)) from hp) (by simp),e0.hok.kept hk,?_⟩
 ·exact name_of_addr x.apart (PySem.mem_of_lookup h1) (PySem.mem_of_lookup h2)
 ·have hy:scope.names.lookup y=some .cell ∨ scope.names.lookup y=some .free:=hy
  rcases hy with hy | hy
  ·exact Bk hy
  ·exact absurd rfl (S.nofree _ (PySem.mem_of_lookup hy))
 ·exact Nat.le_of_lt (x.above y c (PySem.mem_of_lookup h))
 ·have hi:i < vs.length:=by
   unfold start at h2
   by_cases hi:i < vs.length
   ·exact hi
   ·rw [List.getElem?_append_right (by simpa using hi)] at h2
    rw [List.getElem?_replicate] at h2
    split at h2 <;> cases h2
  have ha:vs[i]? = some v:=by
   unfold start at h2
   rw [List.getElem?_append_left (by simpa using hi),List.getElem?_map] at h2
   cases e:vs[i]? with
   | none=>rw [e] at h2; cases h2
   | some a=>rw [e] at h2; cases h2; rfl
  obtain ⟨u,hu,rv⟩:=r.get ha
  have hp:ps[i]? = some y:=by
   rw [<- S.pre,List.getElem?_take_of_lt (by omega)]; exact h1
  have ndP:ps.Nodup:=by rw [<- S.pre]; exact S.nd.sublist (List.take_sublist _ _)
  refine ⟨u,rv,?_⟩
  rcases S.par y (List.mem_of_getElem? hp) with k | k
  ·exact .inl ⟨k,wY ndP hp hu k⟩
  ·obtain ⟨c,e⟩:=Bk (n:=s.heap.objs.size + 1) k
   refine .inr ⟨.inl k,c,e,?_⟩
   have q:=x.cell y c e
   rw [wW ndP hp hu (by show scope.names.lookup y ≠ _; rw [k]; decide)] at q
   exact q
 ·exact e0.hok.fresh (Nat.le_of_lt (x.above y c (PySem.mem_of_lookup h)))
 ·unfold start
  show _=N.length
  rw [List.length_append,List.length_map,List.length_replicate]
  omega
theorem Ey {CX:zT}{P:Program}{w:World}{K:PySem.W.Frag}{mg:Str->Option Value}{base:Heap}{k:Nat}{f:Addr}{name qual:Str}{params:Arguments}{body:List Stmt}{scope:Scope}{dV kV doc pm cdv ct oc:Value}{an od:Option Addr}
  {osl:Array (Option Value)}{N ps:List Str}{sp:Sp} (lk:K.lookup f=some ⟨oc,od,.func (PySem.W.fnOf name qual params body scope dV kV doc pm an cdv ct),osl⟩) (hcd:PySem.W.codeIn K cdv qual=true) (S:aO N ps scope)
  (len:∀ vs H Q E,sp vs H Q E->vs.length=ps.length)
  (hbody:∀ (A:Around) (outer:List Env) (s:Shared) (H:Hp) (vs:List V) (Q:VK) (E:XK),fG k (A.deeper (envOfC qual scope s.heap.objs.size f cdv))->sp vs H Q E ->
   ∃ t,oZ (pA CX P w K mg base N qual scope f cdv A outer s H E) body t /\ t { nx:=fun _ H'=>Q .non H',rt:=Q } (start N vs) H) :
  aP P w K mg base CX (k + 1) f (PySem.W.fnOf name qual params body scope dV kV doc pm an cdv ct) ps sp:=by
 refine ⟨len,fun A outer s H args us vs Q E hr e0 hb r hsp=>?_⟩
 have hl:=len _ _ _ _ hsp
 have KX:K.In s.heap:=e0.mod.kin.keeps fun b o e=>(e0.bs b o e).1
 have lim:s.heap.NoLimit:=e0.mod.nolimit.keeps fun b o e=>(e0.bs b o e).1
 have hkind:∀ y ∈ ps.zip us,scope.names.lookup y.1=some .local ∨ (scope.names.lookup y.1=some .cell /\ ((cellsFrom (s.heap.objs.size + 1) scope.names []).lookup y.1).isSome=true):=fun ⟨n,v⟩ hy=>by
  rcases S.par n (List.of_mem_zip hy).1 with q | q
  ·exact .inl q
  ·exact .inr ⟨q,PySem.W.cellsFrom_some _ _ _ (.inl q)⟩
 refine codeAny_call_function hr.depth (KX _ _ lk) rfl S.co S.gen rfl (PySem.W.codeRec_of KX hcd) (hb _ _ _ _ ?_)
 refine wpAny_newFunctionEnv_cells S.kind hkind fun env he s1 x=>?_
 subst he
 refine ⟨lim.keeps x.toInCall.keep,codeAny_func ?_⟩
 obtain ⟨t,ht,hq⟩:=hbody A outer s H vs Q E (hr.deeper _) hsp
 have I:aX (pA CX P w K mg base N qual scope f cdv A outer s H E) [] (start N vs) H s1:=xO S hr.hd e0 hl r x
 refine wpAny_mono (ht [] s1 (start N vs) H _ I hq) (fun fl s' hs=>?_) fun e s' hs=>hs
 have fin:∀ {σ':St}{H':Hp}{v:V}{u:Value},aX (pA CX P w K mg base N qual scope f cdv A outer s H E) [] σ' H' s'->bG v u->Q v H'->CE outer P w H s Q u s' :=
  fun {σ' H' v u} J rv q=>⟨v,H',J.os,J.bare,J.base,J.hok,rv,q⟩
 cases fl with
 | ret u =>
  obtain ⟨v,σ',H',J,rv,q⟩:=hs
  exact fin J rv q
 | next =>
  obtain ⟨σ',H',J,q⟩:=hs
  exact fin (v:=V.non) (u:=Value.none) J rfl q
 | brk =>
  obtain ⟨_,_,_,q⟩:=hs
  exact False.elim q
 | cont =>
  obtain ⟨_,_,_,q⟩:=hs
  exact False.elim q
end L2
namespace L2
open PySem PySem.Spec PyProof.Rows
section
variable {X:Cx}{x:Str}{p pos:Pos}{e:Expr}{es:List Expr}{t:TA}{id T:String}{r:List V->Hp->VK->Prop}
def tCB (r:List V->Hp->VK->Prop) (t:TA):TE:=fun σ H Q=>t σ H fun vs H1=>r vs H1 Q
theorem bB (hc:iM X (.builtin id) r) (hg:Gl X x) (hm:X.mg x=none) (hv:bootBuiltins x=some (.builtin id)) (ha:PA X (e :: es) t) (hn:x ≠ "__name__":=by decide) (hdb:(x == ("__debug__" : Str))=false:=by decide)
  (he:starEach (e :: es) X.env=(false,eval e X.env) :: starEach es X.env:=by rfl) (hpl:(backTo pos (starEach es X.env)).any (·.1)=false:=by rfl):PE X (.Call (.Name x p) (e :: es) [] pos) (tCB r t):=by
 intro pins s σ H Q I h
 refine wpAny_Call_Name_kw (qM I hg hm hv ?_ hn hdb)
 exact PyProof.Rows.callWith_builtin1 (d8 (ha pos pins s σ H _ I h) fun us s1 ⟨vs,H1,I1,r1,q1⟩=>hc pins s1 σ H1 vs us Q I1 r1 q1) he hpl
theorem c7 (hc:iM X (.type T) r) (hg:Gl X x) (hm:X.mg x=none) (hv:bootBuiltins x=some (.type T)) (ha:PA X (e :: es) t) (hn:x ≠ "__name__":=by decide) (hdb:(x == ("__debug__" : Str))=false:=by decide)
  (he:starEach (e :: es) X.env=(false,eval e X.env) :: starEach es X.env:=by rfl) (hpl:(backTo pos (starEach es X.env)).any (·.1)=false:=by rfl):PE X (.Call (.Name x p) (e :: es) [] pos) (tCB r t):=by
 intro pins s σ H Q I h
 refine wpAny_Call_Name_kw (qM I hg hm hv ?_ hn hdb)
 exact PyProof.Rows.callWith_type1 (d8 (ha pos pins s σ H _ I h) fun us s1 ⟨vs,H1,I1,r1,q1⟩=>hc pins s1 σ H1 vs us Q I1 r1 q1) he hpl
end
end L2
namespace HT
open PySem PyProof.Rows
section
open PySem.SeqAt
open PySem.AutoSeq1 (wpAny_loadPart')
open PySem.MeetsSeq PySem.MeetsSeq2 PySem.MeetsSeq3
end
section
variable {prog:Program}{w:World}{A:Around}{E:Value->Shared->Prop}{s:Shared}
theorem Lj {t b:Addr}{vs ws:List Value}{Q:Value->Shared->Prop} (ht:IsTup s.heap t vs.toArray) (hb:IsTup s.heap b ws.toArray) (hv:vs ≠ [])
  (h1:ws=[]->Q (.ref t) s) (h2:ws ≠ []->Q (.ref s.heap.objs.size) { s with heap:=s.heap.push { cls:=.type "tuple",data:=.seq (vs ++ ws).toArray } })
  (hsz:vs.length + ws.length <= sizeLine):wpAny (model prog w) A (binaryOp .Add (.ref t) (.ref b)) Q E s:=by
 obtain ⟨⟨cls,dd,data,sl⟩,ho,hc,n,hd⟩:=id ht
 obtain ⟨⟨cls2,dd2,data2,sl2⟩,ho2,hc2,n2,hd2⟩:=id hb
 simp only at hc hd hc2 hd2
 subst hc hd hc2 hd2
 have e:vs.toArray ++ ws.toArray=(vs ++ ws).toArray:=by simp
 by_cases hw:ws=[]
 ·exact concat_meets ⟨_,ho,rfl⟩ ⟨_,ho2,rfl⟩ noFill_tuple_add seq_tuple_add PySem.F.slot_tuple_add PySem.F.entry_tuple_add (PySem.F.args_tuple_add_2 _ _)
   (tuple_addW1 t b vs.toArray ws.toArray n n2 dd dd2 sl sl2 (by simpa using hv) (by simp [hw])) ⟨ho,ho2,h1 hw⟩
 ·refine concat_meets ⟨_,ho,rfl⟩ ⟨_,ho2,rfl⟩ noFill_tuple_add seq_tuple_add PySem.F.slot_tuple_add PySem.F.entry_tuple_add (PySem.F.args_tuple_add_2 _ _)
   (tuple_addW2 t b vs.toArray ws.toArray n n2 dd dd2 sl sl2 (by simpa using hv) (by simpa using hw) (by rw [List.size_toArray,List.size_toArray]; exact hsz)) ⟨ho,ho2,?_⟩
  rw [e]
  exact h2 hw
def gO (n d:Nat):Option Int->Nat
 | none=>d
 | some v=>if v < 0 then (v + (n:Int)).toNat else min v.toNat n
theorem mX (n d k:Nat):gO n d (some (k:Int))=min k n:=by
 show (if (k:Int) < 0 then ((k:Int) + (n:Int)).toNat else min (k:Int).toNat n)=min k n
 rw [if_neg (by omega),Int.toNat_natCast]
theorem Pb (n d:Nat) (hd:d <= n) (o:Option Int):gO n d o <= n:=by
 cases o with
 | none=>exact hd
 | some v =>
  show (if v < 0 then (v + (n:Int)).toNat else min v.toNat n) <= n
  by_cases hv:v < 0
  ·rw [if_pos hv]; omega
  ·rw [if_neg hv]; exact Nat.min_le_right _ _
theorem FN (v:Int) (n d:Nat):(if v < 0 then max (v + (n:Int)) 0 else min v (n:Int))=((gO n d (some v):Nat):Int):=by
 show (if v < 0 then max (v + (n:Int)) 0 else min v (n:Int))=(((if v < 0 then (v + (n:Int)).toNat else min v.toNat n):Nat):Int)
 by_cases hv:v < 0
 ·simp only [if_pos hv]; omega
 ·simp only [if_neg hv]; omega
theorem Dz (lo hi:Option Int) (n:Nat):Builtin.Slice.sliceAdjust lo hi 1 (n:Int)=(((gO n 0 lo:Nat):Int),((gO n n hi:Nat):Int)):=by
 have h1:¬ ((1:Int) < 0):=by omega
 unfold Builtin.Slice.sliceAdjust
 simp only [h1,if_false]
 refine Prod.ext ?_ ?_
 ·cases lo with
  | none=>rfl
  | some v=>exact FN v n 0
 ·cases hi with
  | none=>rfl
  | some v=>exact FN v n n
theorem DK (i j:Nat):Builtin.Slice.slicePlaces (i:Int) (j:Int) 1=j - i:=by
 unfold Builtin.Slice.slicePlaces
 have h1:(1:Int) > 0:=by omega
 simp only [h1,if_true,Int.ediv_one]
 split <;> omega
theorem tK {v:Value}{o:Option Int}{Q:Option Int->Shared->Prop} (p:IsPart v o) (h:Q o s):wpAny (model prog w) A (Builtin.Slice.slicePartIndex v) Q E s:=by
 cases p with
 | none=>exact slicePart_none h
 | int i t=>exact slicePart_int h
theorem qP {sl:Addr}{vl vu:Value}{lo hi:Option Int}{n:Nat}{Q:Int × Int × Nat->Shared->Prop} (hs:s.heap.IsSliceOf sl vl vu .none) (pl:IsPart vl lo) (pu:IsPart vu hi)
  (h:Q (((gO n 0 lo:Nat):Int),1,gO n n hi - gO n 0 lo) s):wpAny (model prog w) A (Builtin.Slice.sliceApplied (.ref sl) (pure (n:Int))) Q E s:=by
 obtain ⟨os,hos,hcs,hds⟩:=id hs
 unfold Builtin.Slice.sliceApplied Builtin.Slice.sliceFields
 refine wpAny_bind (wpAny_bind (wpAny_field hos hds (x:=vl) rfl (wpAny_bind (wpAny_field hos hds (x:=vu) rfl (wpAny_bind (wpAny_field hos hds (x:=.none) rfl (wpAny_pure ?_)))))))
 refine wpAny_bind (slicePart_none ?_)
 show wpAny _ _ (if ((1:Int) == 0)=true then _ else _) _ _ s
 rw [if_neg (by decide)]
 refine wpAny_bind (tK pl (wpAny_bind (tK pu (wpAny_bind (wpAny_pure ?_)))))
 show wpAny _ _ (match Builtin.Slice.sliceAdjust lo hi 1 (n:Int) with | (lo,hi)=>pure (lo,(1:Int),Builtin.Slice.slicePlaces lo hi 1)) _ _ s
 rw [Dz lo hi n]
 show wpAny _ _ (pure (((gO n 0 lo:Nat):Int),(1:Int),Builtin.Slice.slicePlaces ((gO n 0 lo:Nat):Int) ((gO n n hi:Nat):Int) 1)) _ _ s
 rw [DK]
 exact wpAny_pure h
theorem Ip (xs:Array Value) (i k:Nat):((List.range k).filterMap fun (m:Nat)=>xs[((i:Int) + (m:Int) * 1).toNat]?).toArray=((xs.toList.drop i).take k).toArray:=by
 have e:(fun (m:Nat)=>xs[((i:Int) + (m:Int) * 1).toNat]?)=fun m=>xs[i + m]?:=by
  funext m
  have:((i:Int) + (m:Int) * 1).toNat=i + m:=by omega
  rw [this]
 rw [e]
 have:=pick_run xs i k
 rw [List.filterMap_map] at this
 have e2:((fun x=>xs[x]?) ∘ fun x=>i + x)=fun m=>xs[i + m]?:=rfl
 rw [e2] at this
 rw [this]
theorem pY {t sl:Addr}{items:Array Value}{vl vu:Value}{lo hi:Option Int}{Q:Value->Shared->Prop} (ht:IsTup s.heap t items) (hs:s.heap.IsSliceOf sl vl vu .none) (pl:IsPart vl lo) (pu:IsPart vu hi)
  (hw:¬ (gO items.size 0 lo=0 /\ gO items.size items.size hi=items.size))
  (h:Q (.ref s.heap.objs.size) { s with heap:=s.heap.push { cls:=.type "tuple",data:=.seq ((items.toList.drop (gO items.size 0 lo)).take (gO items.size items.size hi - gO items.size 0 lo)).toArray } })
  (hsz:items.size <= sizeLine):wpAny (model prog w) A (getItem (.ref t) (.ref sl)) Q E s:=by
 have htake:sizeOk (.seq ((items.toList.drop (gO items.size 0 lo)).take (gO items.size items.size hi - gO items.size 0 lo)).toArray):=by
  show ((items.toList.drop (gO items.size 0 lo)).take (gO items.size items.size hi - gO items.size 0 lo)).toArray.size <= sizeLine
  rw [List.size_toArray,List.length_take,List.length_drop,Array.length_toList]
  omega
 have hj:gO items.size items.size hi <= items.size:=Pb _ _ (Nat.le_refl _) hi
 obtain ⟨os,hos,hcs,hds⟩:=id hs
 have hTs:s.TypeIs (.ref sl) "slice":=⟨os,hos,hcs⟩
 unfold getItem
 try with_reducible refine wpAny_holding ?_
 first | refine wpAny_bind (wpAny_pure ?_) | skip
 refine wpAny_bind (wpAny_sequenceKey ht.typeIs (by decide) ?_)
 refine wpAny_bind (wpAny_callSpecial?_slot (name:=Str.ofString "__getitem__") ht.typeIs PyProof.Rows.slot_tuple_getitem
  (wpAny_call_entry PyProof.Rows.slot_tuple_getitem ht.typeIs entry_tuple_getitem ?_ (args_tuple_getitem _ _)))
 show wpAny _ _ (Builtin.Tuple.tupleItemsOf (.ref t) >>= _) _ _ s
 refine wpAny_bind (tupleItemsOf_ ht ?_)
 refine wpAny_bind (wpAny_typeOf hTs ?_)
 rw [if_pos (by decide)]
 refine wpAny_bind (qP hs pl pu ?_)
 have hno:¬ ((((gO items.size 0 lo:Nat):Int) == 0 && (1:Int) == 1 && (gO items.size items.size hi - gO items.size 0 lo) == items.size)=true):=by
  intro q
  rw [Bool.and_eq_true,Bool.and_eq_true] at q
  have q1:((gO items.size 0 lo:Nat):Int)=0:=eq_of_beq q.1.1
  have q2:gO items.size items.size hi - gO items.size 0 lo=items.size:=eq_of_beq q.2
  exact hw ⟨by omega,by omega⟩
 show wpAny _ _ (if (((gO items.size 0 lo:Nat):Int) == 0 && (1:Int) == 1 && (gO items.size items.size hi - gO items.size 0 lo) == items.size)=true then _ else _) _ _ s
 rw [if_neg hno,Ip]
 first
  | exact wpAny_bind (m:=Builtin.Tuple.tupleExact _) (wpAny_newObj_type (wpAny_pure ⟨_,rfl,wpAny_pure h⟩) htake)
  | exact wpAny_bind (m:=Builtin.Tuple.tupleExact _) (wpAny_newObj_type (wpAny_bind (wpAny_pure (wpAny_pure ⟨_,rfl,wpAny_pure h⟩))) htake)
  | exact wpAny_bind (wpAny_bind (m:=Builtin.Tuple.tupleExact _) (wpAny_newObj_type (wpAny_pure (wpAny_pure ⟨_,rfl,wpAny_pure h⟩)) htake))
  | exact wpAny_bind (wpAny_bind (m:=Builtin.Tuple.tupleExact _) (wpAny_newObj_type (wpAny_pure ⟨_,rfl,wpAny_pure h⟩) htake))
end
end HT
namespace L2
open PySem PySem.Spec PyProof.Rows
abbrev TO:=St->Hp->(Option Int->Hp->Prop)->Prop
def PO (X:Cx) (e:Option Expr) (t:TO):Prop :=
 ∀ (pins:List (Addr × Obj)) (s:Shared) (σ : St) (H:Hp) (Q:Option Int->Hp->Prop),aX X pins σ H s->t σ H Q ->
  wpAny (model X.prog X.w) X.A (evalPart e X.env) (fun u s'=>∃ o H',aX X pins σ H' s' /\ IsPart u o /\ Q o H') X.xe s
def M3:TO:=fun _ H Q=>Q none H
def Rq (t:TE):TO:=fun σ H Q=>t σ H fun x H1=>∃ i,x = .int i /\ Q (some i) H1
theorem uD {ns:List Int}:∀ {us:List Value},bI (ns.map V.int) us->IntsAre us ns:=by
 induction ns with
 | nil=>intro us r; rw [List.map_nil] at r; cases r; exact .nil
 | cons n ns ih =>
  intro us r
  rw [List.map_cons] at r
  cases r with
  | cons r1 r2 =>
   obtain ⟨t,e⟩:=r1
   subst e
   exact .cons n t (ih r2)
section
variable {X:Cx}{e:Expr}{te:TE}{lo hi:Option Expr}{tl th:TO}{pos p2:Pos}
theorem Fl:PO X none M3:=by
 intro pins s σ H Q I h
 rw [evalPart_none]
 exact wpAny_pure ⟨none,H,I,.none,h⟩
theorem nU (h:PE X e te):PO X (some e) (Rq te):=by
 intro pins s σ H Q I hw
 rw [evalPart_some]
 refine d8 (h pins s σ H _ I hw) fun u s1 ⟨x,H1,I1,r1,q1⟩=>?_
 obtain ⟨i,rfl,q⟩:=q1
 obtain ⟨t,rfl⟩:=r1
 exact ⟨some i,H1,I1,.int i t,q⟩
def Za (X:Cx) (r:V->Option Int->Option Int->Hp->VK->Prop):Prop :=
 ∀ (pins:List (Addr × Obj)) (s:Shared) (σ : St) (H:Hp) (x:V) (v vl vu:Value) (lo hi:Option Int) (sl:Addr) (Q:VK),aX X pins σ H s->bG x v->s.heap.IsSliceOf sl vl vu .none->IsPart vl lo->IsPart vu hi->r x lo hi H Q ->
  ∃ T id,typeLookup (.type T) "__getitem__" = pure (some (.builtin id)) /\ s.TypeIs v T /\ wpAny (model X.prog X.w) X.A (getItem v (.ref sl)) (EP X pins σ Q) X.xe s
def tSl (r:V->Option Int->Option Int->Hp->VK->Prop) (te:TE) (tl th:TO):TE:=fun σ H Q=>te σ H fun x H1=>tl σ H1 fun l H2=>th σ H2 fun u H3=>r x l u H3 Q
theorem o9 {r:V->Option Int->Option Int->Hp->VK->Prop} (hr:Za X r) (he:PE X e te) (hl:PO X lo tl) (hu:PO X hi th):PE X (.Subscript e (.Slice lo hi none p2) pos) (tSl r te tl th):=by
 intro pins s σ H Q I h
 refine Subscript_ (d8 (he pins s σ H _ I h) fun v s1 ⟨x,H1,I1,r1,q1⟩=>?_)
 refine wpAny_Slice (d8 (hl pins s1 σ H1 _ I1 q1) fun vl s2 ⟨l,H2,I2,pl,q2⟩=>d8 (hu pins s2 σ H2 _ I2 q2) fun vu s3 ⟨u,H3,I3,pu,q3⟩=>?_)
 rw [evalPart_none]
 refine wpAny_pure ?_
 have I4:aX X pins σ H3 { s3 with heap:=s3.heap.push { cls:=.type "slice",data:=.fields #[vl,vu,.none] } }:=I3.kept (t':=s3.toks) fun b ob q=>Heap.get?_push_of_some _ q
 obtain ⟨T,id,hT,ht,hg⟩:=hr pins { s3 with heap:=s3.heap.push { cls:=.type "slice",data:=.fields #[vl,vu,.none] } } σ H3 x v vl vu l u s3.heap.objs.size Q I4 r1 (Heap.IsSliceOf.new ..) pl pu q3
 show wpAny (model X.prog X.w) X.A (subscriptTail e (.Slice lo hi none p2) v (.ref s3.heap.objs.size)) (EP X pins σ Q) X.xe { s3 with heap:=s3.heap.push { cls:=.type "slice",data:=.fields #[vl,vu,.none] } }
 exact tail_any (ops:=[.ref s3.heap.objs.size,v]) ht hT hg (by with_unfolding_all rfl)
def gJ (xs:List V) (lo hi:Option Int):List V:=(xs.drop (HT.gO xs.length 0 lo)).take (HT.gO xs.length xs.length hi - HT.gO xs.length 0 lo)
theorem rH (xs:List V) (lo hi:Option Int):(gJ xs lo hi).length <= xs.length:=by
 unfold gJ
 rw [List.length_take,List.length_drop]
 omega
def aAw (K:PySem.W.Frag):V->Option Int->Option Int->Hp->VK->Prop:=fun x lo hi H Q=>∃ a xs,x = .ref a /\ cN K H a xs ∧
 ¬ (HT.gO xs.length 0 lo=0 /\ HT.gO xs.length xs.length hi=xs.length) /\ ∀ p,H p=none->Q (.ref p) (aU H p (.tup (gJ xs lo hi)))
theorem KY:Za X (aAw X.K):=by
 intro pins s σ H x v vl vu lo hi sl Q I rx hs pl pu h
 obtain ⟨a,xs,rfl,hx,hw,q⟩:=h
 cases rx
 obtain ⟨its,r,ht,hz⟩:=I.tuple hx
 have hlen:its.toArray.size=xs.length:=by rw [List.size_toArray]; exact r.length.symm
 refine ⟨"tuple",_,PyProof.Rows.slot_tuple_getitem.lookup,ht.typeIs,?_⟩
 refine HT.pY ht hs pl pu (by rw [hlen]; exact hw) ?_ (by rw [hlen]; exact hz)
 rw [hlen]
 refine ⟨.ref s.heap.objs.size,_,I.laid (t':=s.toks) (o:=.tup (gJ xs lo hi)) (fun b ob q=>Heap.get?_push_of_some _ q) (Nat.le_refl _) ?_,rfl,q _ (I.hok.fresh (Nat.le_refl _))⟩
 exact ⟨Nat.le_trans (rH xs lo hi) hz,_,(r.drop (HT.gO xs.length 0 lo)).take (HT.gO xs.length xs.length hi - HT.gO xs.length 0 lo),IsTup.new _ _⟩
def Y4 (K:PySem.W.Frag):R2:=fun x y H Q=>∃ a b xs ys,x = .ref a /\ y = .ref b /\ cN K H a xs /\ cN K H b ys /\ xs ≠ [] /\ xs.length + ys.length <= sizeLine ∧
 (ys=[]->Q (.ref a) H) /\ (ys ≠ []->∀ p,H p=none->Q (.ref p) (aU H p (.tup (xs ++ ys))))
theorem bI.nil_iff {xs:List V}{us:List Value} (r:bI xs us):us=[] ↔ xs=[]:=by
 cases r with
 | nil=>simp
 | cons _ _=>simp
theorem Lh:nY X (binaryOp .Add) (Y4 X.K):=by
 intro pins s σ H x y v u Q I rx ry h
 obtain ⟨a,b,xs,ys,rfl,rfl,ha,hb,hx,hz,q1,q2⟩:=h
 cases rx
 cases ry
 obtain ⟨its,r1,p1,_⟩:=I.tuple ha
 obtain ⟨its2,r2,p2,_⟩:=I.tuple hb
 refine HT.Lj p1 p2 (fun z=>hx (r1.nil_iff.mp z)) (fun z=>⟨.ref a,H,I,rfl,q1 (r2.nil_iff.mp z)⟩) (fun z=>?_) (by rw [<- r1.length,<- r2.length]; exact hz)
 refine ⟨.ref s.heap.objs.size,_,I.laid (t':=s.toks) (o:=.tup (xs ++ ys)) (fun b ob q=>Heap.get?_push_of_some _ q) (Nat.le_refl _) ?_,rfl,q2 (fun w=>z (r2.nil_iff.mpr w)) _ (I.hok.fresh (Nat.le_refl _))⟩
 exact ⟨by rw [List.length_append]; exact hz,_,r1.append r2,IsTup.new _ _⟩
end
end L2
namespace L2
open PySem PySem.Spec PyProof.Rows
def QV (n:Nat) (i:Int):Option Nat:=if 0 <= i then (if i < n then some i.toNat else none) else if -(n:Int) <= i then some (i + n).toNat else none
def Hz {α : Type} (xs:List α) (i:Int):Option α:=(QV xs.length i).bind fun j=>xs[j]?
theorem Fw {n:Nat}{i:Int}{j:Nat} (h:QV n i=some j):seqIndex? i n=some j /\ j < n /\ -(n:Int) <= i /\ i < n:=by
 unfold QV at h
 by_cases h0:0 <= i
 ·rw [if_pos h0] at h
  by_cases h1:i < n
  ·rw [if_pos h1] at h
   have e:i.toNat=j:=Option.some.inj h
   exact ⟨by rw [seqIndex_of h0 h1,e],by omega,by omega,h1⟩
  ·rw [if_neg h1] at h; cases h
 ·rw [if_neg h0] at h
  by_cases h1:-(n:Int) <= i
  ·rw [if_pos h1] at h
   have e:(i + n).toNat=j:=Option.some.inj h
   exact ⟨by rw [seqIndex_neg (by omega) h1,e],by omega,h1,by omega⟩
  ·rw [if_neg h1] at h; cases h
theorem Gb {α : Type}{xs:List α}{i:Int}{v:α} (h:Hz xs i=some v):∃ j,seqIndex? i xs.length=some j /\ xs[j]? = some v /\ j < xs.length /\ -(xs.length:Int) <= i /\ i < xs.length:=by
 unfold Hz at h
 cases e:QV xs.length i with
 | none=>rw [e] at h; cases h
 | some j =>
  rw [e] at h
  obtain ⟨h1,h2,h3,h4⟩:=Fw e
  exact ⟨j,h1,h,h2,h3,h4⟩
theorem fD {α : Type}{xs:List α}{j:Nat}{v:α} (h:xs[j]? = some v):Hz xs (j:Int)=some v:=by
 have hj:j < xs.length:=(List.getElem?_eq_some_iff.mp h).1
 have e:QV xs.length (j:Int)=some j:=by
  unfold QV
  rw [if_pos (by omega),if_pos (by omega)]; simp
 unfold Hz; rw [e]; exact h
def Li (b:Expr):Prop:=∀ o i,subscripted b false o i=operate [o,i] (getItem o i)
def RJ (X:Cx) (r:R2):Prop :=
 ∀ (value slice:Expr) (pins:List (Addr × Obj)) (s:Shared) (σ : St) (H:Hp) (x y:V) (v u:Value) (Q:VK),aX X pins σ H s->bG x v->bG y u->r x y H Q ->
  subscripted slice false v u=operate [v,u] (getItem v u)->wpAny (model X.prog X.w) X.A (subscriptTail value slice v u) (EP X pins σ Q) X.xe s
def MtR (X:Cx) (id:String) (r:V->List V->Hp->VK->Prop):Prop :=
 ∀ (pins:List (Addr × Obj)) (s:Shared) (σ : St) (H:Hp) (x:V) (xs:List V) (v:Value) (us:List Value) (Q:VK),aX X pins σ H s->bG x v->bI xs us->r x xs H Q ->
  wpAny (model X.prog X.w) X.A (call (.builtin id) (v :: us)) (EP X pins σ Q) X.xe s
section
variable {X:Cx}{a b:Expr}{ta tb:TE}{pos:Pos}
theorem bU {r:R2} (hr:RJ X r) (ha:PE X a ta) (hb:PE X b tb) (hs:Li b):PE X (.Subscript a b pos) (X5 r ta tb):=by
 intro pins s σ H Q I h
 exact Subscript_ (Oh ha hb I h fun v u s2 x y H2 I2 rx ry q=>hr a b pins s2 σ H2 x y v u Q I2 rx ry q (hs _ _))
def Wi (K:PySem.W.Frag):R2:=fun x y H Q=>∃ p xs i v,x = .ref p /\ y = .int i /\ bO K H p xs /\ Hz xs i=some v /\ Q v H
def Xo (K:PySem.W.Frag):R2:=fun x y H Q=>∃ p xs i v,x = .ref p /\ y = .int i /\ cN K H p xs /\ Hz xs i=some v /\ Q v H
theorem dI:RJ X (Wi X.K):=by
 intro value slice pins s σ H x y v u Q I rx ry h hs
 obtain ⟨p,xs,i,z,rfl,rfl,hq,he,q⟩:=h
 cases rx
 obtain ⟨t,rfl⟩:=ry
 obtain ⟨its,r,pl,hz⟩:=I.list hq
 obtain ⟨j,h1,h2,h3,h4,h5⟩:=Gb he
 obtain ⟨w,ew,rw'⟩:=r.get h2
 have hl:=r.length
 have hn:=zW
 have fin:EP X pins σ Q w s:=⟨z,H,I,rw',q⟩
 by_cases h0:0 <= i
 ·have hj:i.toNat=j:=by
   rw [seqIndex_of h0 h5] at h1
   exact Option.some.inj h1
  exact item_listR pl.isList h0 (by omega) (by rw [hj]; simpa using ew) fin hs
 ·have hj:(i + (its.toArray.size:Int)).toNat=j:=by
   rw [seqIndex_neg (by omega) h4] at h1
   rw [List.size_toArray,<- hl]
   exact Option.some.inj h1
  exact subscriptTail_builtinR (x:=w) pl.isList.typeIs slot_list_getitem.lookup
   (wpAny_getItem_list_neg (Q:=fun r s'=>r=w /\ EP X pins σ Q r s') pl.isList (by omega) (by rw [List.size_toArray] <;> omega) (by omega) (by rw [hj]; simpa using ew) ⟨rfl,fin⟩) hs
theorem eV:RJ X (Xo X.K):=by
 intro value slice pins s σ H x y v u Q I rx ry h hs
 obtain ⟨p,xs,i,z,rfl,rfl,hq,he,q⟩:=h
 cases rx
 obtain ⟨t,rfl⟩:=ry
 obtain ⟨its,r,pl,hz⟩:=I.tuple hq
 obtain ⟨j,h1,h2,h3,h4,h5⟩:=Gb he
 obtain ⟨w,ew,rw'⟩:=r.get h2
 have hl:=r.length
 have hn:=zW
 have fin:EP X pins σ Q w s:=⟨z,H,I,rw',q⟩
 exact subscriptTail_builtinR (x:=w) pl.typeIs slot_tuple_getitem.lookup
  (getItem_tuple (j:=j) (Q:=fun r s'=>r=w /\ EP X pins σ Q r s') pl (by omega) (by omega) (by rw [List.size_toArray,<- hl]; exact h1) (by simpa using ew) ⟨rfl,fin⟩) hs
theorem Du (its:List Value) (n j:Nat) (u:Value):Obj.mapSeq (·.setIfInBounds j u) { cls:=.type "list",data:=.seq its.toArray n } = { cls:=.type "list",data:=.seq (its.set j u).toArray n }:=by
 simp [Obj.mapSeq]
theorem aX.lst {pins:List (Addr × Obj)}{σ : St}{H:Hp}{s:Shared}{p:Addr}{xs:List V} (I:aX X pins σ H s) (h:H p=some (.lst xs)) :
  ∃ (its:List Value) (n:Nat),bI xs its /\ s.heap.get? p=some { cls:=.type "list",data:=.seq its.toArray n } /\ xs.length <= sizeLine:=by
 obtain ⟨z,its,n,r,e⟩:=I.hok p _ h
 exact ⟨its,n,r,e,z⟩
theorem aX.lstUpd {pins:List (Addr × Obj)}{σ : St}{H:Hp}{s:Shared}{p:Addr}{xs ys:List V}{its its':List Value}{n n':Nat}{f:Obj->Obj} (I:aX X pins σ H s) (h:H p=some (.lst xs))
  (ho:s.heap.get? p=some { cls:=.type "list",data:=.seq its.toArray n }) (hf:f { cls:=.type "list",data:=.seq its.toArray n } = { cls:=.type "list",data:=.seq its'.toArray n' }) (r:bI ys its') (hz:ys.length <= sizeLine) (t:Nat) :
  aX X pins σ (aU H p (.lst ys)) { s with heap:=s.heap.update p f,toks:=t }:=by
 have e:(s.heap.update p f).get? p=some { cls:=.type "list",data:=.seq its'.toArray n' }:=by
  rw [Heap.get?_update_self f ho (by rw [hf] <;> rfl),hf]
 refine I.write (x:=p) (e:=p) (by rw [h]; trivial) (.inl rfl) (fun b u hb q=>(Heap.get?_update_other _ _ (Ne.symm hb)).trans q) ⟨_,e⟩ ?_
 exact ⟨hz,its',n',r,e⟩
def Ur:V->V->V->Hp->(Hp->Prop)->Prop:=fun o i v H Q=>∃ p xs k j,o = .ref p /\ i = .int k /\ H p=some (.lst xs) /\ QV xs.length k=some j /\ Q (aU H p (.lst (xs.set j v)))
theorem Bf:Rm X Ur:=by
 intro pins s σ H o i v ov iv u Q I ro ri rv h
 obtain ⟨p,xs,k,j,rfl,rfl,hp,hj,q⟩:=h
 cases ro
 obtain ⟨t,rfl⟩:=ri
 obtain ⟨its,n,r,ho,hz⟩:=I.lst hp
 obtain ⟨h1,h2,h3,h4⟩:=Fw hj
 have hl:=r.length
 have hn:=zW
 have I':aX X pins σ (aU H p (.lst (xs.set j v))) { s with heap:=s.heap.update p (Obj.mapSeq (·.setIfInBounds j u)) } :=
  I.lstUpd hp ho (Du its n j u) (r.set rv j) (by rw [List.length_set]; exact hz) s.toks
 by_cases h0:0 <= k
 ·have hk:k.toNat=j:=by
   rw [seqIndex_of h0 h4] at h1
   exact Option.some.inj h1
  exact PySem.W.ki_setAt ho h0 (by omega) (by rw [List.size_toArray,<- hl]; exact h4) (by rw [hk]; exact ⟨_,I',q⟩)
 ·have hk:(k + (its.toArray.size:Int)).toNat=j:=by
   rw [seqIndex_neg (by omega) h3] at h1
   rw [List.size_toArray,<- hl]
   exact Option.some.inj h1
  exact PySem.W.ki_setBack ho (by omega) (by rw [List.size_toArray,<- hl]; exact h3) (by omega) (by rw [hk]; exact ⟨_,I',q⟩)
theorem zH (lo hi:Option Int) (n:Nat):(sliceBounds lo hi none n).1=((HT.gO n 0 lo:Nat):Int) /\ (sliceBounds lo hi none n).2.1=((HT.gO n n hi:Nat):Int) /\ (sliceBounds lo hi none n).2.2=1:=by
 refine ⟨?_,?_,rfl⟩
 ·cases lo with
  | none=>simp [sliceBounds,HT.gO]
  | some i =>
   simp only [sliceBounds,HT.gO,Option.getD_none,show (1:Int) > 0 by decide,if_true]
   by_cases h:i < 0
   ·simp only [h,if_true] <;> omega
   ·simp only [h,if_false] <;> omega
 ·cases hi with
  | none=>simp [sliceBounds,HT.gO]
  | some i =>
   simp only [sliceBounds,HT.gO,Option.getD_none,show (1:Int) > 0 by decide,if_true]
   by_cases h:i < 0
   ·simp only [h,if_true] <;> omega
   ·simp only [h,if_false] <;> omega
theorem wK (its:List Value) (lo hi:Option Int):slicePick its.toArray lo hi none=((its.drop (HT.gO its.length 0 lo)).take (HT.gO its.length its.length hi - HT.gO its.length 0 lo)).toArray:=by
 obtain ⟨h1,h2,h3⟩:=zH lo hi its.toArray.size
 unfold slicePick
 rw [h1,h2,h3]
 simp only [sliceRange_one,pick_run,List.size_toArray] <;> rfl
def aAd (K:PySem.W.Frag):V->Option Int->Option Int->Hp->VK->Prop:=fun x lo hi H Q=>∃ a xs,x = .ref a /\ bO K H a xs /\ ∀ p,H p=none->Q (.ref p) (aU H p (.lst (gJ xs lo hi)))
theorem Ex:Za X (aAd X.K):=by
 intro pins s σ H x v vl vu lo hi sl Q I rx hs pl pu h
 obtain ⟨a,xs,rfl,hx,q⟩:=h
 cases rx
 obtain ⟨its,r,ht,hz⟩:=I.list hx
 have hlen:=r.length
 refine ⟨"list",_,slot_list_getitem.lookup,ht.isList.typeIs,?_⟩
 refine wpAny_getItem_list_slice ht.isList hs pl pu .none (by simp) ?_ (by rw [List.size_toArray] <;> omega)
 rw [wK,<- hlen]
 refine ⟨.ref s.heap.objs.size,_,I.laid (t':=s.toks) (o:=.lst (gJ xs lo hi)) (fun b ob q=>Heap.get?_push_of_some _ q) (Nat.le_refl _) ?_,rfl,q _ (I.hok.fresh (Nat.le_refl _))⟩
 exact ⟨Nat.le_trans (rH xs lo hi) hz,_,0,(r.drop (HT.gO xs.length 0 lo)).take (HT.gO xs.length xs.length hi - HT.gO xs.length 0 lo),Heap.get?_push_size _ rfl⟩
def pR:V->Bool
 | .non=>true
 | .bl _=>true
 | .int _=>true
 | .str _=>true
 | _=>false
def Nv:V->V->Bool
 | .non,.non=>true
 | .bl a,.bl b=>a == b
 | .bl a,.int b=>(if a then 1 else 0) == b
 | .int a,.bl b=>a == (if b then 1 else 0)
 | .int a,.int b=>a == b
 | .str a,.str b=>a == b
 | _,_=>false
theorem QM {A:Around}{s:Shared}{y x:V}{u v:Value} (ry:bG y u) (rx:bG x v) (fy:pR y=true) (fx:pR x=true):SeqAt.EqAt A s u v (Nv y x):=by
 cases y with
 | non =>
  cases ry
  cases x with
  | non=>cases rx; exact SeqAt.EqAt.same _
  | bl b=>cases rx; exact SeqAt.EqAt.none_bool b
  | int b=>obtain ⟨t,rfl⟩:=rx; exact SeqAt.EqAt.none_int b t
  | str b=>obtain ⟨t,rfl⟩:=rx; exact SeqAt.EqAt.none_str b t
  | _=>exact absurd (show false=true from fx) Bool.false_ne_true
 | bl a =>
  cases ry
  cases x with
  | non=>cases rx; exact SeqAt.EqAt.bool_none a
  | bl b=>cases rx; exact SeqAt.EqAt.bool_bool a b
  | int b=>obtain ⟨t,rfl⟩:=rx; exact SeqAt.EqAt.bool_int a b t
  | str b=>obtain ⟨t,rfl⟩:=rx; exact SeqAt.EqAt.bool_str a b t
  | _=>exact absurd (show false=true from fx) Bool.false_ne_true
 | int a =>
  obtain ⟨t',rfl⟩:=ry
  cases x with
  | non=>cases rx; exact SeqAt.EqAt.int_none a t'
  | bl b=>cases rx; exact SeqAt.EqAt.int_bool a t' b
  | int b=>obtain ⟨t,rfl⟩:=rx; exact SeqAt.EqAt.int_int a t' b t
  | str b=>obtain ⟨t,rfl⟩:=rx; exact SeqAt.EqAt.int_str a t' b t
  | _=>exact absurd (show false=true from fx) Bool.false_ne_true
 | str a =>
  obtain ⟨t',rfl⟩:=ry
  cases x with
  | non=>cases rx; exact SeqAt.EqAt.str_none a t'
  | bl b=>cases rx; exact SeqAt.EqAt.str_bool a t' b
  | int b=>obtain ⟨t,rfl⟩:=rx; exact SeqAt.EqAt.str_int a t' b t
  | str b=>obtain ⟨t,rfl⟩:=rx; exact SeqAt.EqAt.str_str a t' b t
  | _=>exact absurd (show false=true from fx) Bool.false_ne_true
 | _=>exact absurd (show false=true from fy) Bool.false_ne_true
def Dq (x:V) (u:Value):Bool:=match u with
 | .none=>Nv .non x
 | .bool b=>Nv (.bl b) x
 | .int i _=>Nv (.int i) x
 | .str z _=>Nv (.str z) x
 | _=>false
theorem Ii {x y:V}{u:Value} (r:bG y u) (f:pR y=true):Dq x u=Nv y x:=by
 cases y with
 | non=>cases r; rfl
 | bl b=>cases r; rfl
 | int i=>obtain ⟨t,rfl⟩:=r; rfl
 | str z=>obtain ⟨t,rfl⟩:=r; rfl
 | _=>exact absurd (show false=true from f) Bool.false_ne_true
theorem qC {x:V}:∀ {xs:List V}{us:List Value},bI xs us->xs.all pR=true->us.any (Dq x)=xs.any fun y=>Nv y x
 | _,_,.nil,_=>rfl
 | y :: xs,u :: us,.cons r t,f=>by
  rw [List.all_cons,Bool.and_eq_true] at f
  rw [List.any_cons,List.any_cons,Ii r f.1,qC t f.2]
theorem lZ {A:Around}{s:Shared}{x:V}{v:Value} (rx:bG x v) (fx:pR x=true):∀ {xs:List V}{us:List Value},bI xs us->xs.all pR=true->∀ u ∈ us,SeqAt.EqAt A s u v (Dq x u)
 | _,_,.nil,_=>fun u hu=>by cases hu
 | y :: xs,u :: us,.cons r t,f=>fun u' hu=>by
  rw [List.all_cons,Bool.and_eq_true] at f
  rcases List.mem_cons.mp hu with rfl | hu
  ·rw [Ii r f.1]; exact QM r rx f.1 fx
  ·exact lZ rx fx t f.2 u' hu
def ZV (x:V) (xs:List V):Bool:=xs.any fun y=>Nv y x
def rIn (K:PySem.W.Frag) (neg:Bool):R2:=fun x y H Q=>∃ p xs,y = .ref p /\ (bO K H p xs ∨ cN K H p xs) /\ pR x=true /\ xs.all pR=true /\ Q (.bl (if neg then !ZV x xs else ZV x xs)) H
theorem HX:nY X (compareOp .In) (rIn X.K false):=by
 intro pins s σ H x y v u Q I rx ry h
 obtain ⟨p,xs,rfl,hq,fx,fs,q⟩:=h
 cases ry
 rcases hq with hq | hq
 ·obtain ⟨its,r,pl,hz⟩:=I.list hq
  refine SeqAt.in_listAt (Dq x) pl.isList (fun w hw=>lZ rx fx r fs w (by simpa using hw)) ⟨.bl _,H,I,rfl,?_⟩
  rw [show its.toArray.any (Dq x)=its.any (Dq x) by simp,qC r fs]
  exact q
 ·obtain ⟨its,r,pl,hz⟩:=I.tuple hq
  refine SeqAt.in_tupleAt (Dq x) pl (fun w hw=>lZ rx fx r fs w (by simpa using hw)) ⟨.bl _,H,I,rfl,?_⟩
  rw [show its.toArray.any (Dq x)=its.any (Dq x) by simp,qC r fs]
  exact q
theorem yV:nY X (compareOp .NotIn) (rIn X.K true):=by
 intro pins s σ H x y v u Q I rx ry h
 obtain ⟨p,xs,rfl,hq,fx,fs,q⟩:=h
 cases ry
 rcases hq with hq | hq
 ·obtain ⟨its,r,pl,hz⟩:=I.list hq
  refine SeqAt.notIn_listAt (Dq x) pl.isList (fun w hw=>lZ rx fx r fs w (by simpa using hw)) ⟨.bl _,H,I,rfl,?_⟩
  rw [show its.toArray.any (Dq x)=its.any (Dq x) by simp,qC r fs]
  exact q
 ·obtain ⟨its,r,pl,hz⟩:=I.tuple hq
  refine SeqAt.notIn_tupleAt (Dq x) pl (fun w hw=>lZ rx fx r fs w (by simpa using hw)) ⟨.bl _,H,I,rfl,?_⟩
  rw [show its.toArray.any (Dq x)=its.any (Dq x) by simp,qC r fs]
  exact q
theorem dD:iM X (.builtin "len") (fun xs H Q=>∃ p ys,xs=[.ref p] /\ (bO X.K H p ys ∨ cN X.K H p ys) /\ Q (.int ys.length) H):=by
 intro pins s σ H xs us Q I r h
 obtain ⟨p,ys,rfl,hq,q⟩:=h
 obtain ⟨u,rfl,rx⟩:=jW r
 cases rx
 have hn:=zW
 rcases hq with hq | hq
 ·obtain ⟨its,r',pl,hz⟩:=I.list hq
  have hlen:=r'.length
  exact Calls.call_len_list pl.isList (by simp only [List.size_toArray] <;> omega) ⟨.int ys.length,H,I.tok _,⟨s.toks + 1,by rw [List.size_toArray,hlen]⟩,q⟩
 ·obtain ⟨its,r',pl,hz⟩:=I.tuple hq
  have hlen:=r'.length
  exact len_tuple pl (by simp only [List.size_toArray] <;> omega) ⟨.int ys.length,H,I.tok _,⟨s.toks + 1,by rw [List.size_toArray,hlen]⟩,q⟩
theorem kJ:iM X (.type "list") (fun xs H Q=>∃ p ys,xs=[.ref p] /\ (bO X.K H p ys ∨ cN X.K H p ys) /\ ∀ l,H l=none->Q (.ref l) (aU H l (.lst ys))):=by
 intro pins s σ H xs us Q I r h
 obtain ⟨p,ys,rfl,hq,q⟩:=h
 obtain ⟨u,rfl,rx⟩:=jW r
 cases rx
 have fin:∀ (its:List Value),bI ys its->ys.length <= sizeLine->∀ (h':Heap) (c':Nat),(∀ b o',s.heap.get? b=some o'->h'.get? b=some o') ->
   h'.get? s.heap.objs.size=some { cls:=.type "list",dict:=none,data:=.seq its.toArray c',slots:=#[] }->EP X pins σ Q (.ref s.heap.objs.size) { s with heap:=h' }:=fun its r' hz h' c' kp e =>
  ⟨.ref s.heap.objs.size,_,I.laid (t':=s.toks) kp (Nat.le_refl _) (show cY X.prog X.w _ h' _ (.lst ys) from ⟨hz,its,c',r',e⟩),rfl,q _ (I.hok.fresh (Nat.le_refl _))⟩
 rcases hq with hq | hq
 ·obtain ⟨its,r',pl,hz⟩:=I.list hq
  have hlen:=r'.length
  obtain ⟨o,ho,hc,n,hd⟩:=pl.isList
  exact call_list_seq p (.inl rfl) ho hc hd (fun h' c' kp e=>fin its r' hz h' c' kp e) (by simp only [List.size_toArray] <;> omega)
 ·obtain ⟨its,r',pl,hz⟩:=I.tuple hq
  have hlen:=r'.length
  obtain ⟨o,ho,hc,n,hd⟩:=pl
  exact call_list_seq p (.inr rfl) ho hc hd (fun h' c' kp e=>fin its r' hz h' c' kp e) (by simp only [List.size_toArray] <;> omega)
theorem vX:iM X (.type "tuple") (fun xs H Q=>∃ p ys,xs=[.ref p] /\ ((bO X.K H p ys /\ ∀ l,H l=none->Q (.ref l) (aU H l (.tup ys))) ∨ (cN X.K H p ys /\ Q (.ref p) H))):=by
 intro pins s σ H xs us Q I r h
 obtain ⟨p,ys,rfl,h⟩:=h
 obtain ⟨u,rfl,rx⟩:=jW r
 cases rx
 rcases h with ⟨hq,q⟩ | ⟨hq,q⟩
 ·obtain ⟨its,r',pl,hz⟩:=I.list hq
  have hlen:=r'.length
  refine call_tuple_list pl.isList (fun h' kp=>?_) (by simp only [List.size_toArray] <;> omega)
  have I1:aX X pins σ H { s with heap:=h' }:=I.kept (t':=s.toks) kp
  have I2:aX X pins σ (aU H h'.objs.size (.tup ys)) { s with heap:=h'.push { cls:=.type "tuple",data:=.seq its.toArray } } :=
   I1.laid (t':=s.toks) (fun b o e=>Heap.get?_push_of_some _ e) (Nat.le_refl _) (show cY X.prog X.w _ _ _ (.tup ys) from ⟨hz,its,r',IsTup.new _ _⟩)
  exact ⟨.ref h'.objs.size,_,I2,rfl,q _ (I1.hok.fresh (Nat.le_refl _))⟩
 ·obtain ⟨its,r',pl,hz⟩:=I.tuple hq
  exact call_tuple_same pl ⟨.ref p,H,I,rfl,q⟩
def tyV (K:PySem.W.Frag) (T:String) (x:V) (H:Hp):Prop:=match x with
 | .str _=>T = "str"
 | .int _=>T = "int"
 | .ref p=>(T = "list" /\ ∃ xs,bO K H p xs) ∨ (T = "tuple" /\ ∃ o,K.lookup p=some o /\ o.cls = .type "tuple" /\ o.dict=none) ∨
   (T = "dict" /\ ((∃ kvs,H p=some (.dK kvs)) ∨ ∃ kvs,H p=some (.dT kvs))) ∨ (T = "set" /\ ∃ S n,H p=some (.set S n))
 | _=>False
theorem O8 {pins:List (Addr × Obj)}{σ : St}{H:Hp}{s:Shared}{T:String}{x:V}{v:Value} (I:aX X pins σ H s) (r:bG x v) (ty:tyV X.K T x H) :
  s.TypeIs v T /\ ∀ a,v = .ref a->∃ ob,s.heap.get? a=some ob /\ ob.dict=none:=by
 cases x with
 | str z =>
  obtain ⟨t,rfl⟩:=r
  cases (show T = "str" from ty)
  exact ⟨typeIs_str s z t,fun _ e=>nomatch e⟩
 | int i =>
  obtain ⟨t,rfl⟩:=r
  cases (show T = "int" from ty)
  exact ⟨typeIs_int s i t,fun _ e=>nomatch e⟩
 | ref p =>
  cases r
  rcases ty with ⟨rfl,xs,hq⟩ | ⟨rfl,o,hk,hc,hd⟩ | ⟨rfl,hk⟩ | ⟨rfl,S,n,hk⟩
  ·obtain ⟨its,_,pl,_⟩:=I.list hq
   refine ⟨pl.isList.typeIs,fun a e=>?_⟩
   cases e
   obtain ⟨o,n,e,c,hd,_⟩:=pl
   exact ⟨o,e,hd⟩
  ·refine ⟨⟨o,I.kIn p o hk,hc⟩,fun a e=>?_⟩
   cases e
   exact ⟨o,I.kIn _ o hk,hd⟩
  ·have z:∃ o,s.heap.get? p=some o /\ o.ExactDict:=by
    rcases hk with ⟨kvs,hk⟩ | ⟨kvs,hk⟩
    ·obtain ⟨_,_,_,_,o,_,_,e,ex,_⟩:=I.hok p _ hk
     exact ⟨o,e,ex⟩
    ·obtain ⟨_,_,_,_,o,_,_,e,ex,_⟩:=I.hok p _ hk
     exact ⟨o,e,ex⟩
   obtain ⟨o,e,ex⟩:=z
   refine ⟨⟨o,e,ex.1⟩,fun a e2=>?_⟩
   cases e2
   exact ⟨o,e,ex.2.1⟩
  ·obtain ⟨o,_,_,_,e,ex,_⟩:=I.hok p _ hk
   refine ⟨⟨o,e,ex.1⟩,fun a e2=>?_⟩
   cases e2
   exact ⟨o,e,ex.2.1⟩
 | _=>exact False.elim ty
def tBM (K:PySem.W.Frag) (T:String) (r:V->List V->Hp->VK->Prop) (to:TE) (t:TA):TE:=fun σ H Q=>to σ H fun x H1=>tyV K T x H1 /\ t σ H1 fun xs H2=>r x xs H2 Q
variable {o e:Expr}{es:List Expr}{to:TE}{t:TA}{name:Str}{apos cpos:Pos}{T id:String}{r:V->List V->Hp->VK->Prop}
theorem Bv (pa:PlainAttrs T) (slot:Slot T name id) (hty:typeOf (.builtin id)=pure (.type "method_descriptor")) (hm:MtR X id r) (ho:PE X o to) (ha:PA X (e :: es) t)
  (hbase:attributeBase o name X.env (eval o X.env)=eval o X.env:=by rfl)
  (hfew:((backTo cpos (starEach (e :: es) X.env)).all (fun x=>!x.1) && (backToKw cpos (keywordEach [] X.env)).all (fun x=>x.1.isSome)
   && decide ((e :: es).length + ([]:List Keyword).length + (if ([]:List Keyword).isEmpty then 0 else 1) < 30))=true:=by rfl)
  (hline:(apos.endLine == cpos.line)=true:=by rfl) (hs:starEach (e :: es) X.env=(false,eval e X.env) :: starEach es X.env:=by rfl) (hplain:(backTo cpos (starEach es X.env)).any (·.1)=false:=by rfl) :
  PE X (.Call (.Attribute o name apos) (e :: es) [] cpos) (tBM X.K T r to t):=by
 intro pins s σ H Q I h
 refine wpAny_Call_method_late hbase hfew hline rfl (d8 (ho pins s σ H _ I h) fun v s1 ⟨x,H1,I1,r1,ty,q1⟩=>?_)
 obtain ⟨h1,h2⟩:=O8 I1 r1 ty
 refine ⟨T,id,pa,slot,hty,h1,h2,?_⟩
 have hA:=ha cpos pins s1 σ H1 _ I1 q1
 rw [hs] at hA ⊢
 refine Calls.callWith_builtin (by show (false || (backTo cpos (starEach es X.env)).any (·.1))=false; rw [hplain] <;> rfl) (Calls.evalArgs_plain ?_)
 exact d8 hA fun us s2 ⟨vs,H2,I2,r2,q2⟩=>hm pins s2 σ H2 x vs v us Q I2 r1 r2 q2
end
end L2
namespace L2
open PySem PySem.Spec PyProof.Rows
def Z2 (X:Cx) (id:String) (r:V->List V->Hp->VK->Prop):Prop :=
 ∀ (pins:List (Addr × Obj)) (s:Shared) (σ : St) (H:Hp) (x:V) (xs:List V) (v:Value) (us:List Value) (Q:VK),aX X pins σ H s->bG x v->bI xs us->r x xs H Q ->
  wpAny (model X.prog X.w) X.A (call (.builtin id) (v :: us)) (EP X pins σ Q) X.xe s
theorem bI.one:∀ {x:V}{us:List Value},bI [x] us->∃ u,us=[u] /\ bG x u
 | _,_,.cons r .nil=>⟨_,rfl,r⟩
theorem bI.two:∀ {x y:V}{us:List Value},bI [x,y] us->∃ u v,us=[u,v] /\ bG x u /\ bG y v
 | _,_,_,.cons r (.cons q .nil)=>⟨_,_,rfl,r,q⟩
theorem bI.zero:∀ {us:List Value},bI [] us->us=[]
 | _,.nil=>rfl
theorem bI.reverse {xs:List V}{us:List Value} (h:bI xs us):bI xs.reverse us.reverse:=by
 induction h with
 | nil=>exact .nil
 | cons r t ih=>rw [List.reverse_cons,List.reverse_cons]; exact bI.append ih (.cons r .nil)
theorem bI.rep {xs:List V}{us:List Value} (h:bI xs us):∀ k:Nat,bI (List.replicate k xs).flatten (List.replicate k us).flatten
 | 0=>.nil
 | k + 1=>by
  rw [List.replicate_succ,List.replicate_succ,List.flatten_cons,List.flatten_cons]
  exact bI.append h (bI.rep h k)
theorem wU (its:List Value):∀ (k:Nat) (acc:List Value),
  List.foldl (fun x1 x2=>x1 ++ x2) acc.toArray (List.replicate k its.toArray)=(acc ++ (List.replicate k its).flatten).toArray
 | 0,acc=>by simp
 | k + 1,acc=>by
  have e:acc.toArray ++ its.toArray=(acc ++ its).toArray:=by simp
  have e2:(acc ++ its) ++ (List.replicate k its).flatten=acc ++ (List.replicate (k + 1) its).flatten:=by
   rw [List.replicate_succ,List.flatten_cons,List.append_assoc]
  rw [<- e2,<- wU its k (acc ++ its),<- e,List.replicate_succ,List.foldl_cons]
section
variable {X:Cx}{pins:List (Addr × Obj)}{σ : St}{H:Hp}{s:Shared}{l b:Addr}{xs ys zs:List V}
theorem aX.lset {its its':List Value}{n:Nat}{f:Array Value->Array Value}{t':Nat} (I:aX X pins σ H s) (hH:H l=some (.lst xs))
  (e:s.heap.get? l=some { cls:=.type "list",data:=.seq its.toArray n }) (hf:f its.toArray=its'.toArray) (hv:bI ys its') (hz:ys.length <= sizeLine) :
  aX X pins σ (aU H l (.lst ys)) { s with heap:=s.heap.update l (Obj.mapSeq f),toks:=t' }:=by
 have q:=PySem.IsL.update e f
 rw [hf] at q
 refine I.write (x:=l) (e:=l) (by rw [hH]; exact trivial) (.inl rfl) (fun b' u hb hu=>(Heap.get?_update_other s.heap (Obj.mapSeq f) (Ne.symm hb)).trans hu) ⟨_,q⟩ ?_
 exact ⟨hz,its',_,hv,q⟩
theorem aX.lnew {its:List Value}{t':Nat} (I:aX X pins σ H s) (hv:bI ys its) (hz:ys.length <= sizeLine) :
  aX X pins σ (aU H s.heap.objs.size (.lst ys)) { s with heap:=s.heap.push { cls:=.type "list",data:=.seq its.toArray },toks:=t' } :=
 I.laid (fun _ _ q=>Heap.get?_push_of_some _ q) (Nat.le_refl _) ⟨hz,its,0,hv,Heap.get?_push_size _ rfl⟩
theorem aX.fresh (I:aX X pins σ H s):H s.heap.objs.size=none:=I.hok.fresh (Nat.le_refl _)
theorem aX.lstM (I:aX X pins σ H s) (hH:H l=some (.lst xs)):xs.length <= sizeLine /\ ∃ (its:List Value) (n:Nat),bI xs its /\ xs.length=its.length /\ s.heap.get? l=some { cls:=.type "list",data:=.seq its.toArray n }:=by
 obtain ⟨z,its,n,r,e⟩:=I.hok l _ hH
 exact ⟨z,its,n,r,r.length,e⟩
theorem Be {n:Nat} (h:n <= sizeLine):Builtin.List.listTooLong n=false:=by
 unfold Builtin.List.listTooLong
 exact decide_eq_false (by omega)
end
section
variable {X:Cx}
def MT:V->List V->Hp->VK->Prop:=fun x vs H Q=>∃ l xs y,x = .ref l /\ vs=[y] /\ H l=some (.lst xs) /\ xs.length < sizeLine /\ Q .non (aU H l (.lst (xs ++ [y])))
theorem nF:Z2 X "list.append" MT:=by
 intro pins s σ H x vs v us Q I rx rv h
 obtain ⟨l,xs,y,rfl,rfl,hH,hz,q⟩:=h
 cases rx
 obtain ⟨u,rfl,ru⟩:=rv.one
 obtain ⟨z,its,n,r,hl,e⟩:=I.lstM hH
 refine call_meets F.slot_list_append ⟨_,e,rfl⟩ F.entry_list_append (F.args_list_append_2 _ _) (PySem.list_append l its.toArray n u (by rw [List.size_toArray]; omega)) ⟨e,?_⟩
 refine ⟨.non,_,I.lset (its':=its ++ [u]) hH e (by simp) (r.append (.cons ru .nil)) ?_,rfl,q⟩
 rw [List.length_append,List.length_singleton]
 omega
def M7:V->List V->Hp->VK->Prop:=fun x vs H Q=>∃ l b xs zs,x = .ref l /\ vs=[.ref b] /\ H l=some (.lst xs) /\ H b=some (.lst zs) /\ xs.length + zs.length <= sizeLine /\ Q .non (aU H l (.lst (xs ++ zs)))
theorem Gj:Z2 X "list.extend" M7:=by
 intro pins s σ H x vs v us Q I rx rv h
 obtain ⟨l,b,xs,zs,rfl,rfl,hH,hB,hz,q⟩:=h
 cases rx
 obtain ⟨u,rfl,ru⟩:=rv.one
 cases ru
 obtain ⟨z,its,n,r,hl,e⟩:=I.lstM hH
 obtain ⟨z2,its2,n2,r2,hl2,e2⟩:=I.lstM hB
 have hsz:its.toArray.size + its2.toArray.size <= sizeLine:=by rw [List.size_toArray,List.size_toArray]; omega
 have hlong:¬ (!its.toArray.isEmpty && Builtin.List.listTooLong (its.toArray.size + its2.toArray.size))=true:=by
  rw [Be hsz,Bool.and_false]
  exact Bool.false_ne_true
 refine call_meets F.slot_list_extend ⟨_,e,rfl⟩ F.entry_list_extend (F.args_list_extend_2 _ _)
  (AutoSeq1.list_extend_list_list_0 l its.toArray n b its2.toArray n2 hlong (by rw [List.size_toArray]; omega) (by omega)) ⟨e,e2,?_⟩
 refine ⟨.non,_,I.lset (its':=its ++ its2) hH e (by simp) (r.append r2) ?_,rfl,q⟩
 rw [List.length_append]
 omega
def aBy:R2:=fun x y H Q=>∃ l b xs zs,x = .ref l /\ y = .ref b /\ H l=some (.lst xs) /\ H b=some (.lst zs) /\ xs.length + zs.length <= sizeLine /\ ∀ p,H p=none->Q (.ref p) (aU H p (.lst (xs ++ zs)))
theorem vA:nY X (binaryOp .Add) aBy:=by
 intro pins s σ H x y v u Q I rx ry h
 obtain ⟨l,b,xs,zs,rfl,rfl,hH,hB,hz,q⟩:=h
 cases rx
 cases ry
 obtain ⟨z,its,n,r,hl,e⟩:=I.lstM hH
 obtain ⟨z2,its2,n2,r2,hl2,e2⟩:=I.lstM hB
 refine PySem.P.add_list e e2 ?_ (by rw [List.size_toArray,List.size_toArray]; omega)
 have ea:its.toArray ++ its2.toArray=(its ++ its2).toArray:=by simp
 rw [ea]
 exact ⟨.ref _,_,I.lnew (t':=s.toks) (r.append r2) (by rw [List.length_append]; omega),rfl,q _ I.fresh⟩
def aBz:R2:=fun x y H Q=>∃ l k xs,x = .ref l /\ y = .int k /\ H l=some (.lst xs) /\ -(2 ^ 63) <= k /\ k < 2 ^ 63 /\ xs.length * k.toNat <= sizeLine ∧
 ∀ p,H p=none->Q (.ref p) (aU H p (.lst (List.replicate k.toNat xs).flatten))
theorem zU {α : Type} (xs:List α) (k:Nat):(List.replicate k xs).flatten.length=k * xs.length:=by
 induction k with
 | zero=>simp
 | succ k ih=>rw [List.replicate_succ,List.flatten_cons,List.length_append,ih,Nat.succ_mul,Nat.add_comm]
theorem Qj:nY X (binaryOp .Mult) aBz:=by
 intro pins s σ H x y v u Q I rx ry h
 obtain ⟨l,k,xs,rfl,rfl,hH,h1,h2,hz,q⟩:=h
 cases rx
 obtain ⟨t,rfl⟩:=ry
 obtain ⟨z,its,n,r,hl,e⟩:=I.lstM hH
 have hlen:its.toArray.size * k.toNat <= sizeLine:=by rw [List.size_toArray,<- hl]; exact hz
 have hcap:¬ its.toArray.size * k.toNat > (2 ^ 63 - 1) / 8:=by
  have:(sizeLine:Nat) <= (2 ^ 63 - 1) / 8:=by decide
  omega
 have hfit:¬ (!Builtin.List.listFitsIndex k)=true:=by
  rw [fitsIndex_both h1 h2]
  exact Bool.false_ne_true
 have hlong:¬ Builtin.List.listTooLong (its.toArray.size * k.toNat)=true:=by
  rw [Be hlen]
  exact Bool.false_ne_true
 have hnew:List.foldl (fun x1 x2=>x1 ++ x2) #[] (List.replicate (if its.toArray.isEmpty=true then 0 else k.toNat) its.toArray)=(List.replicate k.toNat its).flatten.toArray:=by
  have f0:∀ m:Nat,List.foldl (fun x1 x2=>x1 ++ x2) #[] (List.replicate m its.toArray)=(List.replicate m its).flatten.toArray:=fun m=>by
   have:=wU its m []
   rw [List.nil_append] at this
   exact this
  rw [f0]
  cases its with
  | nil=>simp
  | cons a r'=>rw [if_neg (by simp)]
 refine wpAny_binaryOp_repeat_ref (T:="list") (U:="int") (by decide) ⟨_,e,rfl⟩ (fun s'=>typeIs_int s' k t) noFill_list_mul F.fills_int_mul F.slot_int_rmul repeat_list F.slot_int_index.lookup
  (call_meets F.slot_int_rmul (typeIs_int s k t) F.entry_int_rmul (F.args_int_rmul_2 _ _) (int___rmul___int_list k t l its.toArray n)
   ⟨e,rfl,⟨_,e,rfl⟩,call_meets F.slot_list_mul ⟨_,e,rfl⟩ F.entry_list_mul (F.args_list_mul_2 _ _) (AutoListH.list___mul___list_int_3 l its.toArray n k t hfit hcap hlong) ⟨e,?_⟩⟩)
 rw [hnew]
 exact ⟨.ref _,_,I.lnew (t':=s.toks) (r.rep k.toNat) (by rw [zU,Nat.mul_comm]; exact hz),rfl,q _ I.fresh⟩
end
section
variable {prog:Program}{w:World}{A:Around}{E:Value->Shared->Prop}{s:Shared}
end
section
variable {X:Cx}
end
end L2
namespace Att
open PySem PySem.W PySem.Calls PyProof.Rows
theorem sH {P:Params}{h:Heap}:∀ (ns:List Int) (vs:List Value),WellAll P h vs (ns.map WData.int)->IntsAre vs ns:=by
 intro ns
 induction ns with
 | nil =>
  intro vs w
  rw [List.map_nil] at w
  cases w
  exact .nil
 | cons n ns ih =>
  intro vs w
  rw [List.map_cons] at w
  cases w with
  | cons a b =>
   cases a
   exact .cons _ _ (ih _ b)
theorem Hs {l:OpenLaw}{n:Nat} (hn:l.most=some n) {P:Params}{h:Heap}{args:List WData}{vals:List Value}
  (hpre:l.row.toRowW.claim.pre args=true) (hwl:WellAll P h vals args) :
  ∃ a vs ns,vals=[Value.ref a] /\ args=[WData.list (ns.map WData.int)] /\ h.get? a=some { cls:=.type "list",data:=.seq vs.toArray } /\ IntsAre vs ns /\ ns.length <= n:=by
 have hsh:WShape.hasAll [] args [.list .int]=true:=(pre_splitW hpre).1
 have hc:l.pre.holds [] { args:=args } = true:=(pre_splitW hpre).2
 obtain ⟨d,r,rfl,h1,h2⟩:=hasAllW_cons hsh
 obtain rfl:=hasAllW_nil h2
 obtain ⟨xs,rfl,h3⟩:=hasW_list h1
 obtain ⟨ns,rfl⟩:=items_int h3
 have hlen:ns.length <= n:=by
  unfold OpenLaw.pre at hc
  have h4:(WTm.not (.lt (.lit (.int (n:Int))) (.len (.arg 0)))).holds [] { args:=[.list (ns.map .int)] } = true:=by
   have h4:=(holds_andW hc).1
   rw [hn] at h4
   exact h4
  have h5:=condW_of h4 (w_not (w_lt w_lit (w_len_list (w_arg rfl))))
  rw [List.length_map] at h5
  refine Nat.le_of_not_lt fun q=>?_
  have q':(n:Int) < ((ns.length:Nat):Int):=by omega
  first
   | (rw [decide_eq_true q'] at h5; exact absurd h5 (by decide))
   | (simp at h5; omega)
 cases hwl with
 | cons w1 w2 =>
  cases w2
  cases w1 with
  | list ho hall=>exact ⟨_,_,ns,rfl,rfl,ho,sH ns _ hall,hlen⟩
theorem Hh (l:OpenLaw) (args:List WData):l.row.toRowW.claim.post args (.bool true) args=true :=
 postW_of (r:=l.row.toRowW) (X:=(true == true))
  (show WShape.has [] (.bool true) .bool=true by first | rfl | decide | simp [WShape.has,WShape.arms,WShape.armsAll])
  (show (WTm.eq .res (.lit (.bool true))).value [] { args:=args,res:=some (.bool true),after:=args } = some (.bool (true == true)) from w_eq_bool (w_res rfl) w_lit) rfl
theorem Cd {l:OpenLaw}{n:Nat}{q:Program}{loose:List Str}{XP:(Str->Option Value)->Heap->Prop}{YP:World->Heap->Prop}{d:DefRec}
  (hn:l.most=some n) (hdf:d.params.defaults=[])
  (call:∀ (w:World) (s₀ s₁ : Shared) (mg mb:Str->Option Value) (fa:Addr) (o:Obj) (pm cd doc:Value) (a:Addr) (vs:List Value) (ns:List Int),
   Ground q loose [] XP w s₀ mg mb s₁.heap->YP w s₁.heap ->
   s₁.heap.get? fa=some o->o.data = .func (docDef d.name d.params d.body d.scope pm cd doc)->s₁.heap.CodeRec cd d.name->mg d.name=some (.ref fa) ->
   s₁.heap.get? a=some { cls:=.type "list",data:=.seq vs.toArray }->IntsAre vs ns->ns.length <= n->s₁.gens = #[] ->
   codeAny (model l.prog w) callerA (.call (.ref fa) ⟨[.ref a],[]⟩) (fun r s'=>r = .ok (.ret (.bool true)) /\ OldK s₁.heap s'.heap /\ s'.os=s₁.os /\ AllBare s'.gens) s₁) :
  WalkO q loose XP YP l.row.toRowW d [] (fun f vs=>PySem.call f vs):=by
 intro w s₀ s₁ mg mb G Y fa o pm cd doc dV kV ho hd hcd hD hmg hg args vals as hpre hlay hrd hwl hlo
 obtain rfl:dV = .none:=Dflts.none hD hdf
 obtain rfl:kV = .none:=Dflts.noKw hD
 obtain ⟨a,vs,ns,rfl,rfl,hobj,hints,hlen⟩:=Hs hn hpre hwl
 refine enter_call (codeAny_mono (call w s₀ s₁ mg mb fa o pm cd doc a vs ns G Y ho (fd_plain hd) hcd hmg hobj hints hlen hg) fun r s' hq=>?_)
 obtain ⟨rfl,h2,h3,h4⟩:=hq
 exact ⟨.inl ⟨.bool true,.bool true,[],rfl,fun _=>rfl,.bool true,Hh l _,fun _=>⟨List.Pairwise.nil,fun _ hm=>(nomatch hm)⟩⟩,h2,h3,h4⟩
section
variable {prog:Program}{w:World}{A:Around}{E:Value->Shared->Prop}{s:Shared}{K:Frag}
end
end Att
namespace L2
open PySem PySem.Spec PyProof.Rows
theorem xV:∀ {vs:List Value}{ns:List Int},IntsAre vs ns->bI (ns.map V.int) vs
 | _,_,.nil=>.nil
 | _,_,.cons n t h=>.cons ⟨t,rfl⟩ (xV h)
end L2
namespace L2
open PySem PySem.Spec PyProof.Rows
end L2
namespace L2
open PySem PySem.Spec PyProof.Rows
def aD (s:Stmt) (j:Nat):Stmt:=match s with
 | .ClassDef _ _ _ body _ _ _ _ _ _ _=>body.getD j (.Pass ⟨0,0,0,0⟩)
 | _=>.Pass ⟨0,0,0,0⟩
def iD (s:Stmt):Arguments:=match s with
 | .FunctionDef _ a _ _ _ _ _ _ _ _=>a
 | _=>{ posonlyargs:=[],args:=[],vararg:=none,kwonlyargs:=[],kw_defaults:=[],kwarg:=none,defaults:=[] }
def eZ (s:Stmt):List Stmt:=match s with
 | .FunctionDef _ _ b _ _ _ _ _ _ _=>b
 | _=>[]
def aK (s:Stmt):Scope:=match s with
 | .FunctionDef _ _ _ _ _ _ sc _ _ _=>sc
 | _=>{ kind:=.function,names:=[],isGenerator:=false,isCoroutine:=false }
abbrev dM:zT:=fun _ _ _ _ _ _=>False
abbrev E0:XK:=fun _ _ _=>False
theorem cT {X:Cx}:iR dM X E0:=fun _ _ _ _ _ _ _ h=>h.elim
structure eN (K:PySem.W.Frag) (x qual:Str) (st:Stmt) (f:Addr) (fd:FuncData):Prop where
 ex:∃ (oc:Value) (od:Option Addr) (kV doc pm:Value) (an:Option Addr) (cdv ct:Value) (osl:Array (Option Value)),
  fd=PySem.W.fnOf x qual (iD st) (eZ st) (aK st) .none kV doc pm an cdv ct /\ K.lookup f=some ⟨oc,od,.func fd,osl⟩ /\ PySem.W.codeIn K cdv qual=true
 kp:PySem.W.keepIn K (.ref f)=true
section
variable {P:Program}{w:World}{K:PySem.W.Frag}{mg:Str->Option Value}{base:Heap}
theorem eN.ok {x qual:Str}{st:Stmt}{f:Addr}{fd:FuncData}{N ps:List Str}{k:Nat}{sp:Sp} (F:eN K x qual st f fd) (S:aO N ps (aK st)) (len:∀ vs H Q E,sp vs H Q E->vs.length=ps.length)
  (hbody:∀ (cdv:Value) (A:Around) (outer:List Env) (s:Shared) (H:Hp) (vs:List V) (Q:VK) (E:XK),fG k (A.deeper (envOfC qual (aK st) s.heap.objs.size f cdv))->sp vs H Q E ->
   ∃ t,oZ (pA dM P w K mg base N qual (aK st) f cdv A outer s H E).nox (eZ st) t /\ t { nx:=fun _ H'=>Q .non H',rt:=Q } (start N vs) H):aP P w K mg base dM (k + 1) f fd ps sp:=by
 obtain ⟨oc,od,kV,doc,pm,an,cdv,ct,osl,rfl,lk,hcd⟩:=F.ex
 refine Ey lk hcd S len fun A outer s H vs Q E hr hsp=>?_
 obtain ⟨t,h,q⟩:=hbody cdv A outer s H vs Q E hr hsp
 exact ⟨t,h.nox,q⟩
theorem eN.binds {x qual:Str}{st:Stmt}{f:Addr}{fd:FuncData}{ps:List Str} (F:eN K x qual st f fd)
  (h:∀ (kV doc pm:Value) (an:Option Addr) (cdv ct:Value) (us:List Value),us.length=ps.length->bindArgs (PySem.W.fnOf x qual (iD st) (eZ st) (aK st) .none kV doc pm an cdv ct) ⟨us,[]⟩ = pure (ps.zip us)):aY K fd ps []:=by
 obtain ⟨oc,od,kV,doc,pm,an,cdv,ct,osl,rfl,lk,hcd⟩:=F.ex
 exact .all (h kV doc pm an cdv ct)
theorem JQ {x qual:Str}{st:Stmt}{f:Addr}{oc:Value}{od an:Option Addr}{osl:Array (Option Value)}{kV doc pm cdv ct:Value} (l:K.lookup f=some ⟨oc,od,.func (PySem.W.fnOf x qual (iD st) (eZ st) (aK st) .none kV doc pm an cdv ct),osl⟩)
  (c:PySem.W.codeIn K cdv qual=true) (k:PySem.W.keepIn K (.ref f)=true):eN K x qual st f (PySem.W.fnOf x qual (iD st) (eZ st) (aK st) .none kV doc pm an cdv ct):=⟨⟨oc,od,kV,doc,pm,an,cdv,ct,osl,rfl,l,c⟩,k⟩
end
theorem TQ {A:Around}{k:Nat} (hr:fG k A):A.units + 1 < cLine:=Nat.lt_of_le_of_lt (Nat.add_le_add_left (by decide:1 <= 64) _) hr.units
theorem aZ {n:Nat} (h:n <= 1000):n < sizeLine:=Nat.lt_of_le_of_lt h (by decide)
section
variable {X:Cx}
theorem pv (i:Nat) {x:Str}{pos:Pos} (hN:X.N[i]? = some x:=by rfl) (hv:ZS X.env.scope x:=by first | exact Or.inl rfl | exact Or.inr (Or.inl rfl) | exact Or.inr (Or.inr rfl)) (hd:(x == ("__debug__" : Str))=false:=by decide)
  (hcd:(x == ("__classdict__" : Str))=false:=by decide):PE X (.Name x pos) (HN i):=Ik hN hv hd hcd
end
theorem gA {A B:Prop} (h:B):if false=true then A else B:=by
 rw [if_neg Bool.false_ne_true]
 exact h
theorem fX {A B:Prop} (h:A):if true=true then A else B:=by
 rw [if_pos rfl]
 exact h
theorem nW {c A B:Prop} [Decidable c] (h1:c->A) (h2:¬ c->B):if c then A else B:=by
 by_cases h:c
 ·rw [if_pos h]
  exact h1 h
 ·rw [if_neg h]
  exact h2 h
def aN (H H':Hp):Prop:=∀ b o,H b=some o->H' b=some o
theorem aN.refl (H:Hp):aN H H:=fun _ _ h=>h
theorem aN.trans {H H1 H2:Hp} (a:aN H H1) (b:aN H1 H2):aN H H2:=fun c o h=>b c o (a c o h)
theorem aN.free {H H':Hp} (e:aN H H') {l:Addr} (h:H' l=Option.none):H l=Option.none:=by
 cases q:H l with
 | none=>rfl
 | some o =>
  rw [e l o q] at h
  cases h
theorem aN.seq {K:PySem.W.Frag}{H H':Hp}{a:Addr}{xs:List V} (e:aN H H') (h:bO K H a xs):bO K H' a xs:=by
 rcases h with (h | ⟨o,h⟩) | h
 ·exact .inl (.inl (e _ _ h))
 ·exact .inl (.inr ⟨o,e _ _ h⟩)
 ·exact .inr h
end L2
namespace L2
open PySem PySem.Spec PyProof.Rows
section
variable {κ : Type} [DecidableEq κ]
def lD (kvs:List (κ × V)) (k:κ):Option V:=(kvs.find? fun kv=>decide (kv.1=k)).map (·.2)
def lV (kvs:List (κ × V)) (k:κ) (v:V):List (κ × V) :=
 if (kvs.any fun kv=>decide (kv.1=k))=true then kvs.map (fun kv=>if kv.1=k then (kv.1,v) else kv) else kvs ++ [(k,v)]
def O2 (kvs:List (κ × V)) (k:κ):List (κ × V):=kvs.filter fun kv=>decide (kv.1 ≠ k)
theorem vI {p:κ × V}{r:List (κ × V)}{k:κ} (e:p.1=k):lD (p :: r) k=some p.2:=by simp [lD,List.find?_cons,e]
theorem u5 {p:κ × V}{r:List (κ × V)}{k:κ} (e:¬ p.1=k):lD (p :: r) k=lD r k:=by simp [lD,List.find?_cons,e]
theorem uN (k:κ):∀ kvs:List (κ × V),(kvs.any fun kv=>decide (kv.1=k))=(lD kvs k).isSome
 | []=>rfl
 | p :: r=>by
  rw [List.any_cons]
  by_cases e:p.1=k
  ·simp only [vI e,decide_eq_true e,Bool.true_or,Option.isSome_some]
  ·rw [u5 e,decide_eq_false e,Bool.false_or]; exact uN k r
theorem mV (kvs:List (κ × V)) (k:κ) (v:V):(lV kvs k v).length <= kvs.length + 1:=by
 unfold lV
 split
 ·rw [List.length_map]; omega
 ·rw [List.length_append,List.length_cons,List.length_nil]; omega
theorem lQ.isSome_eq {o:Option V}{u:Option Value} (r:lQ o u):o.isSome=u.isSome:=by
 cases o with
 | none=>cases u with
  | none=>rfl
  | some _=>exact (show False from r).elim
 | some _=>cases u with
  | none=>exact (show False from r).elim
  | some _=>rfl
theorem lQ.getD {o:Option V}{u:Option Value}{d:V}{d':Value} (r:lQ o u) (rd:bG d d'):bG (o.getD d) (u.getD d'):=by
 cases o with
 | none=>cases u with
  | none=>exact rd
  | some _=>exact (show False from r).elim
 | some _=>cases u with
  | none=>exact (show False from r).elim
  | some _=>exact r
theorem KV.val {kvs:List (κ × V)}{vs:List (κ × Value)} (r:KV kvs vs) (k:κ):lQ (lD kvs k) (valueAt vs k):=by
 unfold KV at r
 induction r with
 | nil=>exact True.intro
 | @cons p q ps qs h t ih =>
  obtain ⟨h1,h2⟩:=h
  by_cases e:p.1=k
  ·have e':q.1=k:=h1.symm.trans e
   have b:valueAt (q :: qs) k=some q.2:=by simp [valueAt,List.find?_cons,e']
   rw [vI e,b]; exact h2
  ·have e':¬ q.1=k:=fun z=>e (h1.trans z)
   have b:valueAt (q :: qs) k=valueAt qs k:=by simp [valueAt,List.find?_cons,e']
   rw [u5 e,b]; exact ih
theorem KV.any {kvs:List (κ × V)}{vs:List (κ × Value)} (r:KV kvs vs) (k:κ):(kvs.any fun kv=>decide (kv.1=k))=vs.any fun kv=>decide (kv.1=k):=by
 unfold KV at r
 induction r with
 | nil=>rfl
 | cons h t ih=>rw [List.any_cons,List.any_cons,ih,h.1]
theorem KV.repl {kvs:List (κ × V)}{vs:List (κ × Value)} (r:KV kvs vs) (k:κ) {y:V}{u:Value} (ry:bG y u) :
  KV (kvs.map fun kv=>if kv.1=k then (kv.1,y) else kv) (vs.map fun kv=>if kv.1=k then (kv.1,u) else kv):=by
 unfold KV at r ⊢
 induction r with
 | nil=>exact .nil
 | @cons p q ps qs h t ih =>
  rw [List.map_cons,List.map_cons]
  refine .cons ?_ ih
  obtain ⟨h1,h2⟩:=h
  by_cases e:p.1=k
  ·rw [if_pos e,if_pos (h1.symm.trans e)]; exact ⟨h1,ry⟩
  ·rw [if_neg e,if_neg (fun z=>e (h1.trans z))]; exact ⟨h1,h2⟩
theorem KV.put {kvs:List (κ × V)}{vs:List (κ × Value)} (r:KV kvs vs) (k:κ) {y:V}{u:Value} (ry:bG y u):KV (lV kvs k y) (stored vs k u):=by
 unfold lV stored
 rw [r.any k]
 by_cases e:(vs.any fun kv=>decide (kv.1=k))=true
 ·rw [if_pos e,if_pos e]; exact r.repl k ry
 ·rw [if_neg e,if_neg e]; exact Paired.snoc r ⟨rfl,ry⟩
theorem KV.drop {kvs:List (κ × V)}{vs:List (κ × Value)} (r:KV kvs vs) (k:κ):KV (O2 kvs k) (without vs k):=by
 unfold KV at r ⊢
 unfold O2 without
 induction r with
 | nil=>exact .nil
 | @cons p q ps qs h t ih =>
  obtain ⟨h1,h2⟩:=h
  rw [List.filter_cons,List.filter_cons]
  by_cases e:p.1=k
  ·have a:¬ decide (p.1 ≠ k)=true:=by simp [e]
   have b:¬ decide (q.1 ≠ k)=true:=by simp [h1.symm.trans e]
   rw [if_neg a,if_neg b]; exact ih
  ·have e':¬ q.1=k:=fun z=>e (h1.trans z)
   have a:decide (p.1 ≠ k)=true:=by simp [e]
   have b:decide (q.1 ≠ k)=true:=by simp [e']
   rw [if_pos a,if_pos b]; exact .cons ⟨h1,h2⟩ ih
theorem KV.keys {kvs:List (κ × V)}{vs:List (κ × Value)} (r:KV kvs vs):kvs.map (·.1)=vs.map (·.1):=by
 unfold KV at r
 induction r with
 | nil=>rfl
 | cons h t ih=>rw [List.map_cons,List.map_cons,ih,h.1]
theorem KV.length {kvs:List (κ × V)}{vs:List (κ × Value)} (r:KV kvs vs):kvs.length=vs.length:=Paired.length r
end
theorem Fv {P:Program}{w:World}{k:dG}{u:Value} (r:bG (kV k) u):(dZ P w).is k u=true:=by
 cases k with
 | inl i=>obtain ⟨t,e⟩:=(show ∃ t,u=Value.int i t from r); subst e; exact BP P w i t
 | inr x=>obtain ⟨t,e⟩:=(show ∃ t,u=Value.str x t from r); subst e; exact Cg P w x t
theorem xY {P:Program}{w:World}:∀ {ks:List dG}{us:List Value},bI (ks.map kV) us->ItemsAre (dZ P w) ks us
 | [],_,r=>by rw [List.map_nil] at r; cases r; exact .nil
 | k :: ks,_,r=>by
  rw [List.map_cons] at r
  cases r with
  | cons h t=>exact .cons (Fv h) (xY t)
abbrev KT (H:Hp):List (List dG × V)->List (List dG × Addr × Value)->Prop:=Paired fun p q=>p.1=q.1 /\ H q.2.1=some (.tup (p.1.map kV)) /\ bG p.2 q.2.2
theorem KT.val {H:Hp}{kvs:List (List dG × V)}{xs:List (List dG × Addr × Value)} (r:KT H kvs xs) (k:List dG):lQ (lD kvs k) ((atKey xs k).map (·.2)):=by
 induction r with
 | nil=>exact True.intro
 | @cons p q ps qs h t ih =>
  obtain ⟨h1,_,h2⟩:=h
  by_cases e:p.1=k
  ·have e':q.1=k:=h1.symm.trans e
   have b:atKey (q :: qs) k=some q.2:=by simp [atKey,List.find?_cons,e']
   rw [vI e,b]; exact h2
  ·have e':¬ q.1=k:=fun z=>e (h1.trans z)
   have b:atKey (q :: qs) k=atKey qs k:=by simp [atKey,List.find?_cons,e']
   rw [u5 e,b]; exact ih
theorem KT.repl {H:Hp}{kvs:List (List dG × V)}{xs:List (List dG × Addr × Value)} (r:KT H kvs xs) (k:List dG) {y:V}{u:Value} (ry:bG y u) :
  KT H (kvs.map fun kv=>if kv.1=k then (kv.1,y) else kv) (xs.map (putAt k u)):=by
 induction r with
 | nil=>exact .nil
 | @cons p q ps qs h t ih =>
  rw [List.map_cons,List.map_cons]
  refine .cons ?_ ih
  obtain ⟨h1,h2,h3⟩:=h
  unfold putAt
  by_cases e:p.1=k
  ·rw [if_pos e,if_pos (h1.symm.trans e)]; exact ⟨h1,h2,ry⟩
  ·rw [if_neg e,if_neg (fun z=>e (h1.trans z))]; exact ⟨h1,h2,h3⟩
theorem KT.put {H:Hp}{kvs:List (List dG × V)}{xs:List (List dG × Addr × Value)} (r:KT H kvs xs) (k:List dG) {b:Addr}{y:V}{u:Value} (hb:H b=some (.tup (k.map kV))) (ry:bG y u) :
  KT H (lV kvs k y) (storedH xs k b u):=by
 have e:(kvs.any fun kv=>decide (kv.1=k))=(atKey xs k).isSome:=by
  rw [uN,(r.val k).isSome_eq,Option.isSome_map]
 unfold lV storedH
 rw [e]
 by_cases q:(atKey xs k).isSome=true
 ·rw [if_pos q,if_pos q]; exact r.repl k ry
 ·rw [if_neg q,if_neg q]; exact Paired.snoc r ⟨rfl,hb,ry⟩
theorem KT.keeps {H H':Hp}{kvs:List (List dG × V)}{xs:List (List dG × Addr × Value)} (r:KT H kvs xs) (ht:∀ b ys,H b=some (.tup ys)->H' b=some (.tup ys)):KT H' kvs xs :=
 Paired.mapP r fun _ _ z=>⟨z.1,ht _ _ z.2.1,z.2.2⟩
section
variable {P:Program}{w:World}{H:Hp}{h:Heap}{a:Addr}
theorem N6 {u:HO} (ok:mY P w H h) (e:Rd H a u):cY P w H h a u:=e.ok ok
theorem Cv {kvs:List (dG × V)} (ok:mY P w H h) (e:Rd H a (.dK kvs)):kvs.length <= sizeLine /\ (a == sysModules)=false /\ ∃ vs,KV kvs vs /\ h.DictOf (dZ P w) a vs :=
 show cY P w H h a (.dK kvs) from N6 ok e
theorem Xc {kvs:List (dG × V)} (ok:mY P w H h) (e:H a=some (.dK kvs)):kvs.length <= sizeLine /\ (a == sysModules)=false /\ ∃ vs,KV kvs vs /\ h.DictOf (dZ P w) a vs:=Cv ok (.inl e)
theorem yN {ks:List dG} (ok:mY P w H h) (e:H a=some (.tup (ks.map kV))):(tupleKind (dZ P w)).is h ks a:=by
 obtain ⟨_,its,r,o,h1,h2,n,h3⟩:=(show cY P w H h a (.tup (ks.map kV)) from ok a _ e)
 exact ⟨o,its.toArray,n,h1,h2,h3,by simpa using xY r⟩
theorem Ar {kvs:List (List dG × V)} (ok:mY P w H h) (e:Rd H a (.dT kvs)):kvs.length <= sizeLine /\ (a == sysModules)=false ∧
  ∃ xs,KT H kvs xs /\ h.DictOfH (tupleKind (dZ P w)) a xs:=by
 obtain ⟨z,y,xs,r,o,es,ep,h1,h2,h3,h4,h5⟩:=(show cY P w H h a (.dT kvs) from N6 ok e)
 refine ⟨z,y,xs,r,o,es,ep,h1,h2,h3,h4,fun x hx=>?_,h5⟩
 have all:∀ {l:List (List dG × V)}{m:List (List dG × Addr × Value)},KT H l m->∀ x ∈ m,(tupleKind (dZ P w)).is h x.1 x.2.1:=by
  intro l m q
  induction q with
  | nil=>intro x hx; exact nomatch hx
  | @cons p q ps qs hq t ih =>
   intro x hx
   rcases List.mem_cons.mp hx with e | hx
   ·subst e
    exact yN ok (by rw [<- hq.1]; exact hq.2.1)
   ·exact ih x hx
 exact all r x hx
theorem Wn {kvs:List (List dG × V)} (ok:mY P w H h) (e:H a=some (.dT kvs)):kvs.length <= sizeLine /\ (a == sysModules)=false ∧
  ∃ xs,KT H kvs xs /\ h.DictOfH (tupleKind (dZ P w)) a xs:=Ar ok (.inl e)
end
def wH (H:Hp) (a:Addr) (y:V) (r:Option V):Prop :=
 (∃ kvs k,Rd H a (.dK kvs) /\ y=kV k /\ r=lD kvs k) ∨ ∃ kvs k b,Rd H a (.dT kvs) /\ y = .ref b /\ H b=some (.tup (k.map kV)) /\ r=lD kvs k
def Eb (H:Hp) (a:Addr) (y v:V) (H':Hp):Prop :=
 (∃ kvs k,H a=some (.dK kvs) /\ y=kV k /\ kvs.length < sizeLine /\ H'=aU H a (.dK (lV kvs k v))) ∨
 ∃ kvs k b,H a=some (.dT kvs) /\ y = .ref b /\ H b=some (.tup (k.map kV)) /\ kvs.length < sizeLine /\ H'=aU H a (.dT (lV kvs k v))
theorem wH.k {H:Hp}{a:Addr}{kvs:List (dG × V)}{k:dG} (e:H a=some (.dK kvs)):wH H a (kV k) (lD kvs k):=.inl ⟨kvs,k,.inl e,rfl,rfl⟩
theorem wH.t {H:Hp}{a b:Addr}{kvs:List (List dG × V)}{k:List dG} (e:H a=some (.dT kvs)) (eb:H b=some (.tup (k.map kV))):wH H a (.ref b) (lD kvs k):=.inr ⟨kvs,k,b,.inl e,rfl,eb,rfl⟩
theorem Eb.k {H:Hp}{a:Addr}{kvs:List (dG × V)}{k:dG}{v:V} (e:H a=some (.dK kvs)) (hl:kvs.length < sizeLine):Eb H a (kV k) v (aU H a (.dK (lV kvs k v))):=.inl ⟨kvs,k,e,rfl,hl,rfl⟩
theorem Eb.t {H:Hp}{a b:Addr}{kvs:List (List dG × V)}{k:List dG}{v:V} (e:H a=some (.dT kvs)) (eb:H b=some (.tup (k.map kV))) (hl:kvs.length < sizeLine) :
  Eb H a (.ref b) v (aU H a (.dT (lV kvs k v))):=.inr ⟨kvs,k,b,e,rfl,eb,hl,rfl⟩
section
variable {X:Cx}{pins:List (Addr × Obj)}{σ : St}{H:Hp}{s:Shared}{a:Addr}{y v:V}{u r:Value}{o:Option V}{A:Around}{E:Value->Shared->Prop}
theorem aX.big (I:aX X pins σ H s):sysModules < s.heap.objs.size:=by
 have h:mainGlobals < s.heap.objs.size:=(I.mod.glob.keeps I.bk).lt
 exact Nat.lt_trans (by decide) h
theorem Hg {Q:Value->Shared->Prop} (hu:A.units + 1 < cLine) (I:aX X pins σ H s) (g:wH H a y (some v)) (ry:bG y u) (h:∀ w' s',aX X pins σ H s'->bG v w'->Q w' s') :
  wpAny (model X.prog X.w) A (getItem (.ref a) u) Q E s:=by
 rcases g with ⟨kvs,k,e,ey,l⟩ | ⟨kvs,k,b,e,ey,eb,l⟩
 ·subst ey
  obtain ⟨z,hd,vs,rel,dd⟩:=Cv I.hok e
  obtain ⟨w',hw,rw'⟩:=lQ.some_of (v:=v) (o:=valueAt vs k) (by rw [l]; exact rel.val k)
  exact wpAny_getItem_of (Fv ry) dd.mapOf hw (h w' _ (I.tok _) rw')
 ·subst ey
  cases (show u=Value.ref b from ry)
  obtain ⟨z,hd,xs,rel,dd⟩:=Ar I.hok e
  obtain ⟨w',hw,rw'⟩:=lQ.some_of (v:=v) (o:=(atKey xs k).map (·.2)) (by rw [l]; exact rel.val k)
  obtain ⟨p,hp,hp2⟩:=Option.map_eq_some_iff.mp hw
  refine wpAny_getItem_heap (tupleKind_room_in1 hu) (yN I.hok eb) dd hp ?_
  rw [hp2]
  exact h w' _ (I.tok _) rw'
theorem Fi {h':Heap}{t':Nat}{ob:HO} (I:aX X pins σ H s) (mu:Ub (H a)) (hs:Heap.SameBut a s.heap h') (he:∃ q,h'.get? a=some q) (new:cY X.prog X.w (aU H a ob) h' a ob) :
  aX X pins σ (aU H a ob) { s with heap:=h',toks:=t' } :=
 I.write (x:=a) (e:=a) mu (.inl rfl) (fun b q hb z=>(hs.2 b hb).trans z) he new
theorem Py {P:Program}{w:World}{H':Hp}{h':Heap}{kvs:List (dG × V)}{vs:List (dG × Value)} (z:kvs.length <= sizeLine) (hd:(a == sysModules)=false) (rel:KV kvs vs) (dd:h'.DictOf (dZ P w) a vs) :
  cY P w H' h' a (.dK kvs):=⟨z,hd,vs,rel,dd⟩
theorem Hi {H':Hp}{Q:Unit->Shared->Prop} (hu:A.units + 1 < cLine) (I:aX X pins σ H s) (g:Eb H a y v H') (ry:bG y u) (rv:bG v r) (h:∀ s',aX X pins σ H' s'->Q () s') :
  wpAny (model X.prog X.w) A (setItem (.ref a) u r) Q E s:=by
 rcases g with ⟨kvs,k,e,ey,l,eH⟩ | ⟨kvs,k,b,e,ey,eb,l,eH⟩
 ·subst ey eH
  obtain ⟨z,hd,vs,rel,dd⟩:=Xc I.hok e
  have hz:vs.length <= sizeLine:=by rw [<- rel.length]; exact z
  have hl:(lV kvs k v).length <= sizeLine:=by have:=mV kvs k v; omega
  refine wpAny_setItem_pairs (hsz:=hz) (Fv ry) dd fun h' dd' hs=>h _ ?_
  have he:∃ q,h'.get? a=some q:=let ⟨q,_,_,hq,_⟩:=dd'; ⟨q,hq⟩
  exact Fi I (by rw [e]; exact True.intro) hs he (Py hl hd (rel.put k rv) dd')
 ·subst ey eH
  cases (show u=Value.ref b from ry)
  obtain ⟨z,hd,xs,rel,dd⟩:=Wn I.hok e
  have hz:xs.length <= sizeLine:=by rw [<- Paired.length rel]; exact z
  have hl:(lV kvs k v).length <= sizeLine:=by have:=mV kvs k v; omega
  refine wpAny_setItem_heap (hsz:=hz) (tupleKind_room_in1 hu) (yN I.hok eb) dd fun h' dd' hs=>h _ ?_
  obtain ⟨q,es,ep,hq,h2,h3,h4,_,h5⟩:=dd'
  refine Fi I (by rw [e]; exact True.intro) hs ⟨q,hq⟩ ⟨hl,hd,_,(rel.put k eb rv).keeps fun c ys ec=>?_,q,es,ep,hq,h2,h3,h4,h5⟩
  rw [aL (bJ ec e (fun z=>nomatch z))]
  exact ec
end
section
variable {X:Cx}{pins:List (Addr × Obj)}{σ : St}{H:Hp}{s:Shared}{a:Addr}{kvs:List (dG × V)}{k:dG}{u:Value}{A:Around}{E:Value->Shared->Prop}
end
def Wu (i:Expr):Prop:=∀ ov iv,subscripted i false ov iv=operate [ov,iv] (getItem ov iv)
theorem Mu {prog:Program}{w:World}{A:Around}{E:Value->Shared->Prop}{s:Shared}{env:Env}{value slice:Expr}{pos:Pos}{T id:String}{Q:Value->Shared->Prop}
  (hl:typeLookup (.type T) "__getitem__" = pure (some (.builtin id))) (hs:Wu slice)
  (h:wpAny (model prog w) A (eval value env) (fun o s₁=>wpAny (model prog w) A (eval slice env) (fun i s₂=>s₂.TypeIs o T /\ wpAny (model prog w) A (getItem o i) Q E s₂) E s₁) E s) :
  wpAny (model prog w) A (eval (.Subscript value slice pos) env) Q E s:=by
 refine Subscript_ (wpAny_mono h (fun o s₁ h₁=>wpAny_mono h₁ (fun i s₂ h₂=>?_) fun _ _ x=>x) fun _ _ x=>x)
 obtain ⟨hT,h₂⟩:=h₂
 unfold subscriptTail
 refine wpAny_bind ?_
 rw [getitemInPython_of_ne hT.not_modules]
 refine wpAny_bind (wpAny_specialOf hT hl ?_)
 have fin:wpAny (model prog w) A (subscripted slice false o i) (fun r s₃=>wpAny (model prog w) A (letTemporaryGo value o r >>= fun _=>pure r) Q E s₃) E s₂:=by
  rw [hs o i]
  exact wpAny_operating (wpAny_mono h₂ (fun r s₃ h₃=>wpAny_bind (wpAny_letTemporaryGo (wpAny_pure h₃))) fun _ _ x=>x)
 first
  | exact wpAny_pure (wpAny_bind fin)
  | exact wpAny_bind (wpAny_pure (wpAny_bind fin))
  | exact wpAny_bind fin
theorem Bg {X:Cx}{pins:List (Addr × Obj)}{σ : St}{H:Hp}{s:Shared}{a:Addr}{y:V}{o:Option V} (I:aX X pins σ H s) (g:wH H a y o):s.TypeIs (.ref a) "dict":=by
 rcases g with ⟨kvs,k,e,_,_⟩ | ⟨kvs,k,b,e,_,_,_⟩
 ·obtain ⟨_,_,vs,_,dd⟩:=Cv I.hok e
  exact dd.typeIs
 ·obtain ⟨_,_,xs,_,dd⟩:=Ar I.hok e
  exact dd.typeIs
def Xy (td ty:TE):TE:=fun σ H Q=>td σ H fun x H1=>ty σ H1 fun y H2=>∃ a v,x = .ref a /\ wH H2 a y (some v) /\ Q v H2
def Ut (td ty tv:TE):TS:=fun D σ H=>tv σ H fun v H1=>td σ H1 fun x H2=>ty σ H2 fun y H3=>∃ a H4,x = .ref a /\ Eb H3 a y v H4 /\ D.nx σ H4
section
variable {X:Cx}{o i e value:Expr}{pos pos' tpos:Pos}{td ty tv:TE}
theorem Gf (hu:X.A.units + 1 < cLine) (ho:PE X o td) (hi:PE X i ty) (hs:Wu i):PE X (.Subscript o i pos) (Xy td ty):=by
 intro pins s σ H Q I h
 refine Mu PySem.F.slot_dict_getitem.lookup hs (d8 (ho pins s σ H _ I h) fun u s1 ⟨x,H1,I1,rx,q1⟩=>d8 (hi pins s1 σ H1 _ I1 q1) fun iv s2 ⟨y,H2,I2,ry,a,v,ex,g,q2⟩=>?_)
 subst ex
 obtain rfl:u=Value.ref a:=rx
 exact ⟨Bg I2 g,Hg hu I2 g ry fun w' s3 I3 rw'=>⟨v,H2,I3,rw',q2⟩⟩
theorem M6 (hu:X.A.units + 1 < cLine) (ho:PE X o td) (hi:PE X i ty) (hv:PE X value tv) (hs:swapsWith value (some (.Subscript o i pos')) pos.line X.env=pure false) :
  PS X (.Assign [.Subscript o i pos'] value pos) (Ut td ty tv):=by
 intro pins s σ H D I h
 refine wpAny_Assign_Subscript (d8 (hv pins s σ H _ I h) fun r s1 ⟨v,H1,I1,rv,q1⟩=>d8 (ho pins s1 σ H1 _ I1 q1) fun u s2 ⟨x,H2,I2,rx,q2⟩=>d8 (hi pins s2 σ H2 _ I2 q2) fun iv s3 ⟨y,H3,I3,ry,a,H4,ex,g,q3⟩=>?_) hs
 subst ex
 obtain rfl:u=Value.ref a:=rx
 exact Hi hu I3 g ry rv fun s4 I4=>⟨σ,H4,I4,q3⟩
end
theorem Jq {P:Program}{w:World}{H:Hp} (h:Heap) (hb:sysModules < h.objs.size):cY P w H (h.push { cls:=.type "dict",data:=.dict #[] }) h.objs.size (.dK []) :=
 ⟨Nat.zero_le _,beq_eq_false_iff_ne.mpr (Ne.symm (Nat.ne_of_lt hb)),[],.nil,Heap.DictOf.new h⟩
theorem Ja {P:Program}{w:World}{H:Hp} (h:Heap) (hb:sysModules < h.objs.size):cY P w H (h.push { cls:=.type "dict",data:=.dict #[] }) h.objs.size (.dT []) :=
 ⟨Nat.zero_le _,beq_eq_false_iff_ne.mpr (Ne.symm (Nat.ne_of_lt hb)),[],.nil,_,#[],0,Heap.get?_push_size _ rfl,⟨rfl,rfl,rfl⟩,rfl,rfl,List.nodup_nil⟩
def O3:TE:=fun _ H Q=>∀ p,H p=none->Q (.ref p) (aU H p (.dK []))
def Q4:TE:=fun _ H Q=>∀ p,H p=none->Q (.ref p) (aU H p (.dT []))
section
variable {X:Cx}{pos:Pos}
theorem CJ:PE X (.Dict [] [] pos) O3:=fun pins s σ H Q I h =>
 wpAny_Dict_empty ⟨.ref s.heap.objs.size,_,I.laid (a:=s.heap.objs.size) (o:=.dK []) (t':=s.toks) (fun _ _ q=>Heap.get?_push_of_some _ q) (Nat.le_refl _) (Jq s.heap I.big),rfl,h _ (I.hok.fresh (Nat.le_refl _))⟩
theorem J1:PE X (.Dict [] [] pos) Q4:=fun pins s σ H Q I h =>
 wpAny_Dict_empty ⟨.ref s.heap.objs.size,_,I.laid (a:=s.heap.objs.size) (o:=.dT []) (t':=s.toks) (fun _ _ q=>Heap.get?_push_of_some _ q) (Nat.le_refl _) (Ja s.heap I.big),rfl,h _ (I.hok.fresh (Nat.le_refl _))⟩
end
def JS:List (TE × TE)->St->Hp->(List (V × V)->Hp->Prop)->Prop
 | [],_,H,Q=>Q [] H
 | (tk,tv) :: r,σ,H,Q=>tk σ H fun x H1=>tv σ H1 fun y H2=>JS r σ H2 fun ps H3=>Q ((x,y) :: ps) H3
abbrev VV:List (V × V)->List (Value × Value)->Prop:=Paired fun p q=>bG p.1 q.1 /\ bG p.2 q.2
def PPs (X:Cx) (pos:Pos) (keys:List (Option Expr)) (values:List Expr) (trs:List (TE × TE)):Prop :=
 ∀ (pins:List (Addr × Obj)) (s:Shared) (σ : St) (H:Hp) (Q:List (V × V)->Hp->Prop),aX X pins σ H s->JS trs σ H Q ->
  wpAny (model X.prog X.w) X.A (evalPairs (pairTrees keys values X.env pos)) (fun vs s'=>∃ ps H',aX X pins σ H' s' /\ VV ps vs /\ Q ps H') X.xe s
structure M1 (X:Cx) (o:Expr) (m:Str) (apos:Pos) (e:Expr) (cpos:Pos):Prop where
 base:attributeBase o m X.env (eval o X.env)=eval o X.env
 few:((backTo cpos (starEach [e] X.env)).all (fun x=>!x.1) && (backToKw cpos (keywordEach [] X.env)).all (fun x=>x.1.isSome)
  && decide (([e]:List Expr).length + ([]:List Keyword).length + (if ([]:List Keyword).isEmpty then 0 else 1) < 30))=true
 line:(apos.endLine == cpos.line)=true
 trees:backTo cpos (starEach [e] X.env)=[(false,eval e X.env)]
structure M2 (X:Cx) (o:Expr) (m:Str) (apos:Pos) (e f:Expr) (cpos:Pos):Prop where
 base:attributeBase o m X.env (eval o X.env)=eval o X.env
 few:((backTo cpos (starEach [e,f] X.env)).all (fun x=>!x.1) && (backToKw cpos (keywordEach [] X.env)).all (fun x=>x.1.isSome)
  && decide (([e,f]:List Expr).length + ([]:List Keyword).length + (if ([]:List Keyword).isEmpty then 0 else 1) < 30))=true
 line:(apos.endLine == cpos.line)=true
 trees:backTo cpos (starEach [e,f] X.env)=[(false,eval e X.env),(false,eval f X.env)]
def IsD (H:Hp) (a:Addr):Prop:=(∃ kvs,Rd H a (.dK kvs)) ∨ ∃ kvs,Rd H a (.dT kvs)
theorem Qf {X:Cx}{pins:List (Addr × Obj)}{σ : St}{H:Hp}{s:Shared}{a:Addr} (I:aX X pins σ H s) (d:IsD H a) :
  s.TypeIs (.ref a) "dict" /\ (∀ b,Value.ref a = .ref b->∃ ob,s.heap.get? b=some ob /\ ob.dict=none) /\ (a == sysModules)=false:=by
 rcases d with ⟨kvs,e⟩ | ⟨kvs,e⟩
 ·obtain ⟨_,hd,vs,_,dd⟩:=Cv I.hok e
  refine ⟨dd.typeIs,fun b q=>?_,hd⟩
  cases q
  obtain ⟨ob,_,_,h1,h2,_⟩:=dd
  exact ⟨ob,h1,h2.2.1⟩
 ·obtain ⟨_,hd,xs,_,dd⟩:=Ar I.hok e
  refine ⟨dd.typeIs,fun b q=>?_,hd⟩
  cases q
  obtain ⟨ob,_,_,h1,h2,_⟩:=dd
  exact ⟨ob,h1,h2.2.1⟩
section
variable {X:Cx}{pins:List (Addr × Obj)}{σ : St}{H:Hp}{s:Shared}{a:Addr}{y d:V}{u r:Value}{o:Option V}{A:Around}{E:Value->Shared->Prop}
theorem Pa {Q:Value->Shared->Prop} (hu:A.units + 1 < cLine) (I:aX X pins σ H s) (g:wH H a y o) (ry:bG y u) (rd:bG d r) (h:∀ w' s',aX X pins σ H s'->bG (o.getD d) w'->Q w' s') :
  wpAny (model X.prog X.w) A (call (.builtin "dict.get") [.ref a,u,r]) Q E s:=by
 rcases g with ⟨kvs,k,e,ey,l⟩ | ⟨kvs,k,b,e,ey,eb,l⟩
 ·subst ey
  obtain ⟨z,hd,vs,rel,dd⟩:=Cv I.hok e
  refine call_meetsIn PySem.F.slot_dict_get dd.typeIs PySem.F.entry_dict_get (PySem.F.args_dict_get_3 _ _ _) (meets_dict_get_default (dZ X.prog X.w) a (Fv ry) hd r) ⟨_,dd.mapOf,h _ _ (I.tok _) ?_⟩
  rw [l]
  exact (rel.val k).getD rd
 ·subst ey
  cases (show u=Value.ref b from ry)
  obtain ⟨z,hd,xs,rel,dd⟩:=Ar I.hok e
  refine call_meetsIn PySem.F.slot_dict_get dd.typeIs PySem.F.entry_dict_get (PySem.F.args_dict_get_3 _ _ _) (meetsH_dict_get_default (tupleKind (dZ X.prog X.w)) a b hd r) ⟨tupleKind_room_in1 hu,k,xs,yN I.hok eb,dd,h _ _ (I.tok _) ?_⟩
  rw [l]
  exact (rel.val k).getD rd
end
def PJ (td ty tx:TE):TE:=fun σ H Q=>td σ H fun x H1=>∃ a,x = .ref a /\ IsD H1 a /\ ty σ H1 fun y H2=>tx σ H2 fun z H3=>∃ o,wH H3 a y o /\ Q (o.getD z) H3
section
variable {X:Cx}{o e f:Expr}{apos cpos:Pos}{td ty tx:TE}
theorem Ko (hu:X.A.units + 1 < cLine) (ho:PE X o td) (he:PE X e ty) (hf:PE X f tx) (m:M2 X o "get" apos e f cpos):PE X (.Call (.Attribute o "get" apos) [e,f] [] cpos) (PJ td ty tx):=by
 intro pins s σ H Q I h
 refine wpAny_Call_method m.base m.few m.line PySem.F.plainAttrs_dict PySem.F.slot_dict_get PySem.F.type_dict_get (d8 (ho pins s σ H _ I h) fun u s1 ⟨x,H1,I1,rx,a,ex,d,q1⟩=>?_)
 subst ex
 obtain rfl:u=Value.ref a:=rx
 obtain ⟨t1,t2,_⟩:=Qf I1 d
 refine ⟨t1,t2,?_⟩
 rw [m.trees]
 refine Calls.callWith_builtin rfl (Calls.evalArgs_plain (Calls.spliced_cons (d8 (he pins s1 σ H1 _ I1 q1) fun iv s2 ⟨y,H2,I2,ry,q2⟩ =>
  Calls.spliced_cons (d8 (hf pins s2 σ H2 _ I2 q2) fun fv s3 ⟨z,H3,I3,rz,ov,g,q3⟩=>Calls.spliced_nil ?_))))
 exact Pa hu I3 g ry rz fun w' s4 I4 rw'=>⟨_,H3,I4,rw',q3⟩
end
section
variable {X:Cx}{pins:List (Addr × Obj)}{σ : St}{H:Hp}{s:Shared}{a:Addr}{kvs:List (dG × V)}{A:Around}{E:Value->Shared->Prop}
end
section
variable {X:Cx}{pins:List (Addr × Obj)}{σ : St}{H:Hp}{s:Shared}{a:Addr}{y:V}{u:Value}{A:Around}{E:Value->Shared->Prop}
end
end L2
namespace L2
open PySem PySem.Spec PyProof.Rows
section
variable {X:Cx}
end
section
variable {κ : Type} [DecidableEq κ]
theorem J3 {kvs:List (κ × V)}{k:κ} (h:lD kvs k=none):¬ k ∈ kvs.map (·.1):=by
 intro m
 obtain ⟨p,hp,e⟩:=List.mem_map.mp m
 have q:(kvs.any fun kv=>decide (kv.1=k))=true:=List.any_eq_true.mpr ⟨p,hp,decide_eq_true e⟩
 rw [uN,h] at q
 exact absurd q (by simp)
end
end L2
namespace PySem
section
variable {prog:Program}{w:World}{A:Around}{E:Value->Shared->Prop}{R:Result->Shared->Prop}{s:Shared}
theorem yX {elt target iter:Expr}{ifs:List Expr}{scope:Scope}{pos:Pos}{it acc:Value}{env:Env} (I:Nat->Shared->Prop)
  (turn:∀ n s,I n s->∀ E':Value->Shared->Prop,wpAny (model prog w) A (pyNext it) (fun r s₁=>match r with
   | none=>R (.ok .next) s₁
   | some v=>wpAny (model prog w) A (letOwnedTupleGo target it v) (fun _ s₁'=>wpAny (model prog w) A (assign target env v) (fun _ s₂ =>
     wpAny (model prog w) A (forIn ifs true fun c r=>if r=true then do let ok <- isTrue c env (eval c env); pure (ForInStep.yield ok) else pure (ForInStep.yield r)) (fun ok s₃ =>
      if ok=true then wpAny (model prog w) A (eval elt env) (fun x s₄ =>
       wpAny (model prog w) A (call (.builtin "list.append") [acc,x]) (fun _ s₅=>∃ m,m < n /\ I m s₅) E' s₄) E' s₃
      else ∃ m,m < n /\ I m s₃) E' s₂) E' s₁') E' s₁) E' s)
  (n:Nat) (h:I n s) :
  codeAny (model prog w) A (.compLoop (.ListComp elt [⟨target,iter,ifs,0⟩] scope pos) 0 it acc env) R s:=by
 refine codeAny_loop rfl I (fun n s hI=>?_) n h
 show wpAny _ A ((compTurn (.ListComp elt [⟨target,iter,ifs,0⟩] scope pos) 0 it acc env).onRaise (fun x=>do noteFrame x env; theTreesLotGoes x)) _ _ s
 refine wpAny_noted ?_
 rw [compTurn_list]
 refine wpAny_bind (wpAny_standAt (wpAny_bind (wpAny_mono (turn n s hI _) (fun r s₁ h₁=>?_) fun _ _ h'=>h')))
 cases r with
 | none=>exact wpAny_pure h₁
 | some v =>
  refine wpAny_bind (wpAny_mono h₁ (fun _ s₁' h₁'=>?_) fun _ _ h'=>h')
  refine wpAny_bind (wpAny_mono h₁' (fun _ s₂ h₂=>wpAny_bind (wpAny_mono h₂ (fun ok s₃ h₃=>?_) fun _ _ h'=>h')) fun _ _ h'=>h')
  cases ok with
  | false=>exact wpAny_pure ⟨rfl,h₃⟩
  | true =>
   exact wpAny_bind (wpAny_bind (wpAny_mono h₃ (fun x s₄ h₄=>wpAny_bind (wpAny_mono h₄ (fun _ s₅ h₅=>wpAny_pure (wpAny_pure ⟨rfl,h₅⟩)) fun _ _ h'=>h')) fun _ _ h'=>h'))
end
end PySem
namespace PySem
def fH (env:Env):List (Str × NameKind)->List (Str × Addr)->List (Str × Addr)
 | [],cs=>cs
 | (n,k) :: r,cs=>fH env r (if k == .free then (match env.cells.lookup n with | some a=>(n,a) :: cs | none=>cs) else cs)
theorem qR {scope:Scope}{env:Env} (h:∀ y ∈ scope.names,y.2 = .free->∃ c,env.cells.lookup y.1=some c):closureFor scope env=pure (fH env scope.names []):=by
 unfold closureFor
 have key:∀ (l:List (Str × NameKind)) (cs:List (Str × Addr)),(∀ y ∈ l,y.2 = .free->∃ c,env.cells.lookup y.1=some c) ->
   (forIn l cs fun x r=>(match x with
    | (name,kind)=>if (kind == NameKind.free)=true then (do let a <- cellOf env name; pure (ForInStep.yield ((name,a) :: r))) else pure (ForInStep.yield r):Sem (ForInStep (List (Str × Addr)))))=(pure (fH env l cs):Sem _):=by
  intro l
  induction l with
  | nil=>intro cs _; rfl
  | cons y r ih =>
   intro cs hy
   obtain ⟨n,k⟩:=y
   rw [List.forIn_cons]
   by_cases hk:(k == NameKind.free)=true
   ·obtain ⟨c,hc⟩:=hy (n,k) List.mem_cons_self (by simpa using hk)
    have e:cellOf env n=pure c:=by unfold cellOf; rw [hc]
    simp only [hk,if_true,e,pure_bind]
    rw [ih _ fun z hz=>hy z (List.mem_cons_of_mem _ hz)]
    show _=pure (fH env r (if (k == NameKind.free)=true then (match env.cells.lookup n with | some a=>(n,a) :: cs | none=>cs) else cs))
    rw [if_pos hk,hc]
   ·have hk2:(k == NameKind.free)=false:=by simpa using hk
    simp only [hk2,Bool.false_eq_true,if_false,pure_bind]
    rw [ih _ fun z hz=>hy z (List.mem_cons_of_mem _ hz)]
    show _=pure (fH env r (if (k == NameKind.free)=true then (match env.cells.lookup n with | some a=>(n,a) :: cs | none=>cs) else cs))
    rw [if_neg hk]
 have k2:=key scope.names [] h
 simp only [bind_pure]
 first
  | exact k2
  | (rw [<- k2]; rfl)
theorem qL {env:Env}:∀ (l:List (Str × NameKind)) (cs:List (Str × Addr)) (p:Str × Addr),p ∈ fH env l cs->p ∈ cs ∨ env.cells.lookup p.1=some p.2
 | [],_,_,h=>.inl h
 | (n,k) :: r,cs,p,h=>by
  rcases qL r _ p h with q | q
  ·by_cases hk:(k == NameKind.free)=true
   ·rw [if_pos hk] at q
    cases e:env.cells.lookup n with
    | none=>rw [e] at q; exact .inl q
    | some a =>
     rw [e] at q
     rcases List.mem_cons.mp q with z | z
     ·subst z; exact .inr e
     ·exact .inl z
   ·rw [if_neg hk] at q; exact .inl q
  ·exact .inr q
theorem xC {env:Env}:∀ (l:List (Str × NameKind)) (cs:List (Str × Addr)) (p:Str × Addr),p ∈ cs->p ∈ fH env l cs
 | [],_,_,h=>h
 | (n,k) :: r,cs,p,h=>by
  refine xC r _ p ?_
  by_cases hk:(k == NameKind.free)=true
  ·rw [if_pos hk]
   cases e:env.cells.lookup n with
   | none=>exact h
   | some a=>exact List.mem_cons_of_mem _ h
  ·rw [if_neg hk]; exact h
theorem qW {env:Env}{n:Str}{c:Addr} (e:env.cells.lookup n=some c):∀ (l:List (Str × NameKind)) (cs:List (Str × Addr)),(n,NameKind.free) ∈ l->(n,c) ∈ fH env l cs
 | [],_,h=>nomatch h
 | (m,k) :: r,cs,h=>by
  rcases List.mem_cons.mp h with z | z
  ·cases z
   refine xC r _ _ ?_
   rw [if_pos (by rfl),e]
   exact List.mem_cons_self
  ·exact qW e r _ z
theorem jR {β : Type}{n:Str}{c:β}:∀ {l:List (Str × β)},(n,c) ∈ l->∃ d,l.lookup n=some d
 | [],h=>nomatch h
 | (m,d) :: r,h=>by
  cases q:n == m with
  | true=>exact ⟨d,by simp only [List.lookup_cons,q]⟩
  | false =>
   rcases List.mem_cons.mp h with z | z
   ·cases z
    simp at q
   ·obtain ⟨d',e⟩:=jR z
    exact ⟨d',by simp only [List.lookup_cons,q,e]⟩
theorem iG {env:Env}:∀ {names:List (Str × NameKind)}{x:Str}{k:NameKind},
  (names.map fun (n,k)=>if (k == NameKind.free && env.scope.kind == .function && env.kindOf n == some .cell) then (n,NameKind.cell) else (n,k)).lookup x=some k ->
  ∃ k',names.lookup x=some k' /\ (k'=k ∨ (k' = .free /\ k = .cell))
 | [],_,_,h=>by simp at h
 | (n,j) :: r,x,k,h=>by
  cases hx:x == n with
  | true =>
   refine ⟨j,by simp only [List.lookup_cons,hx],?_⟩
   by_cases hc:(j == NameKind.free && env.scope.kind == .function && env.kindOf n == some .cell)=true
   ·simp only [List.map_cons,if_pos hc,List.lookup_cons,hx] at h
    cases h
    refine .inr ⟨?_,rfl⟩
    simp only [Bool.and_eq_true,beq_iff_eq] at hc
    exact hc.1.1
   ·simp only [List.map_cons,if_neg hc,List.lookup_cons,hx] at h
    cases h
    exact .inl rfl
  | false =>
   by_cases hc:(j == NameKind.free && env.scope.kind == .function && env.kindOf n == some .cell)=true
   ·simp only [List.map_cons,if_pos hc,List.lookup_cons,hx] at h
    obtain ⟨k',e1,e2⟩:=iG h
    exact ⟨k',by simp only [List.lookup_cons,hx,e1],e2⟩
   ·simp only [List.map_cons,if_neg hc,List.lookup_cons,hx] at h
    obtain ⟨k',e1,e2⟩:=iG h
    exact ⟨k',by simp only [List.lookup_cons,hx,e1],e2⟩
end PySem
namespace L2
open PySem PySem.Spec PyProof.Rows
open Builtin.Int (intBits)
section
variable {X:Cx}
def JH (i j:Int):Prop:=intBits i + intBits j <= 134217728
def Ve (i j:Int):Prop:=j ≠ 0 /\ intBits j <= 9000
theorem d7:nY X (binaryOp .Mult) (rI JH fun i j=>.int (i * j)):=Pz fun _ _ _ _ _ _ _ hc q=>mul_int q (IntMulOk.of_le (Nat.le_refl _) (Nat.le_refl _) hc)
theorem yK {j:Int} (h0:j ≠ 0) (h:intBits j <= 9000):j.natAbs.log2 < 9000:=by
 unfold Builtin.Int.intBits at h
 have e:(j == 0)=false:=by simpa using h0
 rw [e] at h
 simp only [Bool.false_eq_true,if_false] at h
 omega
theorem jA:nY X (binaryOp .FloorDiv) (rI Ve fun i j=>.int (i.fdiv j)):=Pz fun _ _ _ _ _ _ _ hc q=>floordiv_int hc.1 q (.inl (PyProof.noPylong_of_log2 (yK hc.1 hc.2)))
theorem iI {T:String}:iM X (.builtin "isinstance") (fun xs H Q=>∃ x t b,xs=[x,.ty T] /\ gF X.K H x t /\ PySem.W.kitOne X.K t (.type T)=some b /\ Q (.bl b) H):=by
 intro pins s σ H xs us Q I r h
 obtain ⟨x,t,b,rfl,ty,e,q⟩:=h
 obtain ⟨u,w',rfl,rx,rt⟩:=GJ r
 cases (show w'=Value.type T from rt)
 exact yD I rx ty e fun tk=>⟨.bl b,H,I.tok _,rfl,q⟩
theorem gF.tupS {K:PySem.W.Frag}{H:Hp}{a:Addr}{xs:List V} (e:H a=some (.tup xs)):gF K H (.ref a) (.type "tuple"):=.tup e
theorem iB {α : Type}{l:List α}{d:α}{i:Nat} (h:i < l.length):l.getD i d=l[i]:=by simp [h]
end
structure bT (sc scope:Scope):Prop where
 kind:scope.kind = .function
 nocell:∀ y ∈ scope.names,y.2 ≠ .cell
 loc:∀ y ∈ scope.names,y.2 = .local->scope.names.lookup y.1=some .local
 free:∀ y ∈ scope.names,y.2 = .free->sc.names.lookup y.1=some .cell ∨ sc.names.lookup y.1=some .free
def Ew (sc scope:Scope):Bool:=(scope.kind == .function) && scope.names.all fun y=>(y.2 != .cell) && ((y.2 != .local) || (scope.names.lookup y.1 == some .local)) && ((y.2 != .free) || (sc.names.lookup y.1 == some .cell) || (sc.names.lookup y.1 == some .free))
theorem bT.of {sc scope:Scope} (h:Ew sc scope=true):bT sc scope:=by
 unfold Ew at h
 rw [Bool.and_eq_true,List.all_eq_true] at h
 obtain ⟨hk,h⟩:=h
 refine ⟨eq_of_beq hk,fun y hy=>?_,fun y hy e=>?_,fun y hy e=>?_⟩
 ·have q:=h y hy
  simp only [Bool.and_eq_true,bne_iff_ne] at q
  exact q.1.1
 ·have q:=h y hy
  simp only [Bool.and_eq_true,Bool.or_eq_true,bne_iff_ne,beq_iff_eq] at q
  exact q.1.2.resolve_left fun z=>z e
 ·have q:=h y hy
  simp only [Bool.and_eq_true,Bool.or_eq_true,bne_iff_ne,beq_iff_eq] at q
  rcases q.2 with (z | z) | z
  ·exact absurd e z
  ·exact .inl z
  ·exact .inr z
structure NL (N M:List Str) (scope:Scope):Prop where
 len:M.length=N.length
 loc:∀ (j:Nat) x,M[j]? = some x->scope.names.lookup x ≠ some .local
 free:∀ (j:Nat) x,M[j]? = some x->scope.names.lookup x=some .free->N[j]? = some x
def nlB (scope:Scope):List Str->List Str->Bool
 | [],[]=>true
 | x :: M,y :: N=>(scope.names.lookup x != some .local) && ((scope.names.lookup x != some .free) || x == y) && nlB scope M N
 | _,_=>false
theorem NL.of {scope:Scope}:∀ {N M:List Str},nlB scope M N=true->NL N M scope
 | [],[],_=>⟨rfl,fun j x h=>by simp at h,fun j x h=>by simp at h⟩
 | [],_ :: _,h=>by cases h
 | _ :: _,[],h=>by cases h
 | y :: N,x :: M,h=>by
  have h':((scope.names.lookup x != some .local) && ((scope.names.lookup x != some .free) || x == y) && nlB scope M N)=true:=h
  simp only [Bool.and_eq_true,Bool.or_eq_true,bne_iff_ne,beq_iff_eq] at h'
  obtain ⟨⟨h1,h2⟩,h3⟩:=h'
  have q:=NL.of h3
  refine ⟨by simp [q.len],fun j z e=>?_,fun j z e f=>?_⟩
  ·cases j with
   | zero=>simp at e; subst e; exact h1
   | succ j=>exact q.loc j z (by simpa using e)
  ·cases j with
   | zero =>
    simp at e; subst e
    rcases h2 with w | w
    ·exact absurd f w
    ·simp [w]
   | succ j=>simpa using q.free j z (by simpa using e) f
def eY (X:Cx) (ls M:List Str) (scope:Scope) (C:Addr) (fp:List Addr) (s:Shared) (H:Hp):Cx where
 prog:=X.prog
 w:=X.w
 K:=X.K
 mg:=X.mg
 base:=X.base
 A:=X.A
 N:=ls ++ M
 s₀:=s
 H₀:=H
 env:=compEnvC scope (fH X.env scope.names []) C X.env
 outer:=X.stack
 stack:=X.stack
 ex:=fp
 fn:=fun _=>false
 calm:=X.calm
 pn:=[]
 xe:=fun _ _=>False
def Ti (Y:Cx) (ifs:List Expr) (c:TT):Prop :=
 ∀ (pins:List (Addr × Obj)) (s:Shared) (σ : St) (H:Hp) (Q:Bool->Hp->Prop),aX Y pins σ H s->c σ H Q ->
  wpAny (model Y.prog Y.w) Y.A (forIn ifs true fun c r=>if r=true then do let ok <- isTrue c Y.env (eval c Y.env); pure (ForInStep.yield ok) else pure (ForInStep.yield r)) (TP Y pins σ Q) Y.xe s
def Ot:TT:=fun _ H Q=>Q true H
theorem cG {Y:Cx}:Ti Y [] Ot:=fun _ _ _ H _ I h=>wpAny_tests_nil ⟨H,I,h⟩
theorem Lg {Y:Cx}{e:Expr}{c:TT} (h:PT Y e c):Ti Y [e] c:=fun pins s σ H Q I hw=>wpAny_tests_one (h pins s σ H Q I hw)
def By (k:Nat) (J:It) (g:TG) (c:TT) (te:TE) (σ : St) (H1:Hp) (D:Addr) (Q:VK):Prop :=
 ∃ W:Nat->Nat->St->Hp->Prop,(∃ m,W 0 m (List.replicate k none ++ σ) (aU H1 D (.lst []))) /\ ∀ i m τ H,W i m τ H ->
  (J.stop i H /\ Q (.ref D) H) ∨ (J.go i H /\ ∀ x H',J.yld i H x H'->g x τ H' fun τ2 H2=>c τ2 H2 fun b H3=>if b=true then te τ2 H3 fun y H4=>∃ ys m',m' < m /\ H4 D=some (.lst ys) /\ ys.length < sizeLine /\ W (i + 1) m' τ2 (aU H4 D (.lst (ys ++ [y]))) else ∃ m',m' < m /\ W (i + 1) m' τ2 H3)
def NK (k:Nat) (wi:TI) (g:TG) (c:TT) (te:TE):TE:=fun σ H Q=>wi σ H fun J H1=>∀ D,H1 D=none->By k J g c te σ H1 D Q
structure Ln (X:Cx) (pins:List (Addr × Obj)) (H:Hp) (C:Addr) (s:Shared):Prop where
 ns:∃ m,s.heap.Ns C m
 none:H C=none
 ne:C ≠ X.env.locals
 young:X.s₀.heap.objs.size <= C
 cells:∀ x c,X.env.cells.lookup x=some c->c ≠ C
 pins:∀ p ∈ X.pn ++ pins,p.1 ≠ C
theorem aX.gone {X:Cx}{pins:List (Addr × Obj)}{σ : St}{H:Hp}{C:Addr}{s:Shared}{h':Heap} (I:aX X pins σ H s) (o:Ln X pins H C s) (hs:Heap.SameBut C s.heap h'):aX X pins σ H { s with heap:=h' } :=
 I.turned (t':=s.toks) (it:=C) (fun b ob hb e=>(hs.2 b hb).trans e) o.none o.ne (.inr o.young) o.cells o.pins
section
variable {X:Cx}{elt tg iter:Expr}{ifs:List Expr}{scope:Scope}{pos:Pos}{ls M:List Str}{g:TG}{c:TT}{te:TE}
theorem wV {J:It}{fp:List Addr}{tn:Nat->Heap->Prop}{it:Addr}{pins:List (Addr × Obj)}{σ : St}{H2:Hp}{s2:Shared}{Qe:VK}{RR:Value->Addr->Result->Shared->Prop}{E:Value->Shared->Prop}
  (hc:X.calm=true) (S:bT X.env.scope scope) (nl:NL X.N M scope)
  (hb:∀ C fp s H,PG (eY X ls M scope C fp s H) tg g /\ Ti (eY X ls M scope C fp s H) ifs c /\ PE (eY X ls M scope C fp s H) elt te)
  (I2:aX X pins σ H2 s2) (T:De X.prog X.w X.K tg J fp it tn) (st2:tn 0 s2.heap) (f2:∀ b ∈ fp,j7 X pins H2 b)
  (hW:∀ D,H2 D=none->By ls.length J g c te σ H2 D Qe)
  (hRR:∀ D C H' s',aX X pins σ H' s'->Ln X pins H' C s'->Qe (.ref D) H'->RR (.ref D) C (.ok .next) s') :
  wpAny (model X.prog X.w) X.A (newList []) (fun acc s₃=>wpAny (model X.prog X.w) X.A (newFunctionEnv scope X.env.globals (fH X.env scope.names []) [] X.env.qual none .none (some X.env)) (fun cenv s₄ =>
   codeAny (model X.prog X.w) X.A (.compStart (.ListComp elt [⟨tg,iter,ifs,0⟩] scope pos) 0 (.ref it) acc { cenv with scope:=relabel scope X.env }) (RR acc cenv.locals) s₄) E s₃) E s2:=by
 refine wpAny_newObj_type (wpAny_newFunctionEnv S.nocell (by intro y hy; simp at hy) (fun h₁ hns₁ hsb₁=>?_) S.kind)
 dsimp only at hns₁ hsb₁ ⊢
 have I3:aX X pins σ (aU H2 s2.heap.objs.size (.lst [])) { s2 with heap:=s2.heap.push { cls:=.type "list",dict:=none,data:=.seq ([]:List Value).toArray },toks:=s2.toks } :=
  I2.laid (fun _ _ q=>Heap.get?_push_of_some _ q) (Nat.le_refl _) ⟨Nat.zero_le _,[],0,.nil,Heap.get?_push_size _ rfl⟩
 have hfreshD:H2 s2.heap.objs.size=none:=I2.hok.fresh (Nat.le_refl _)
 generalize hHH:s2.heap.push { cls:=.type "list",dict:=none,data:=.seq ([]:List Value).toArray } = HH at hns₁ hsb₁ I3 ⊢
 have up:∀ b o,s2.heap.get? b=some o->HH.get? b=some o:=fun b o e=>by rw [<- hHH]; exact Heap.get?_push_of_some _ e
 have old:∀ b o,HH.get? b=some o->h₁.get? b=some o:=fun b o e=>hsb₁.extBut b o (Nat.ne_of_lt (Heap.lt_size e)) (Heap.get?_push_of_some _ e)
 generalize hH3:aU H2 s2.heap.objs.size (.lst [])=H3 at I3
 have f3:∀ b ∈ fp,j7 X pins H3 b:=fun b hb=>by
  obtain ⟨f0,fr⟩:=f2 b hb
  refine ⟨?_,fr⟩
  obtain ⟨o,e,_⟩:=T.obj 0 _ st2 b hb
  rw [<- hH3,aL (Nat.ne_of_lt (Heap.lt_size e))]
  exact f0
 have fplt:∀ b ∈ fp,b < HH.objs.size:=fun b hb=>by
  obtain ⟨o,e,_⟩:=T.obj 0 _ st2 b hb
  exact Heap.lt_size (up b o e)
 have sub:∀ x a,(fH X.env scope.names []).lookup x=some a->X.env.cells.lookup x=some a:=fun x a e=>by
  rcases qL _ _ _ (PySem.mem_of_lookup e) with z | z
  ·exact absurd z (by simp)
  ·exact z
 have kin:∀ x,scope.names.lookup x=some .free->X.env.kindOf x=some .cell ∨ X.env.kindOf x=some .free:=fun x e=>S.free (x,.free) (PySem.mem_of_lookup e) rfl
 have has:∀ x a,scope.names.lookup x=some .free->X.env.cells.lookup x=some a->(fH X.env scope.names []).lookup x=some a:=fun x a e ec=>by
  obtain ⟨d,hd⟩:=jR (qW ec scope.names [] (PySem.mem_of_lookup e))
  have:=sub x d hd
  rw [ec] at this
  cases this
  exact hd
 have rel:∀ x k,(relabel scope X.env).names.lookup x=some k->(k = .cell ∨ k = .free)->scope.names.lookup x=some .free:=fun x k e hk=>by
  obtain ⟨k',e1,e2⟩:=iG (show (scope.names.map fun (n,k)=>if (k == NameKind.free && X.env.scope.kind == .function && X.env.kindOf n == some .cell) then (n,NameKind.cell) else (n,k)).lookup x=some k from e)
  rcases e2 with e2 | ⟨e2,_⟩
  ·subst e2
   rcases hk with hk | hk
   ·subst hk; exact absurd rfl (S.nocell _ (PySem.mem_of_lookup e1))
   ·subst hk; exact e1
  ·subst e2; exact e1
 have okY:(eY X ls M scope HH.objs.size fp { s2 with heap:=HH,toks:=s2.toks } H3).Ok:=by
  refine ⟨I3.ok.mod,S.kind,I3.ok.glob,I3.ok.blt,Nat.le_refl _,fun x y a h1 h2=>I3.ok.inj x y a (sub x a h1) (sub y a h2),fun x hx=>?_,(fun x a h=>nomatch h),I3.ok.hd,I3.ok.frames,.inl rfl,fun b hb'=>⟨Nat.ne_of_lt (fplt b hb'),fun x a e=>(f3 b hb').2.2.2.2.1 x a (sub x a e)⟩,
   I3.bs,Nat.le_trans I3.ok.bsz I3.sz,fun b o e hb'=>?_,fun b hb' hs=>?_,I3.stack,I3.stkFree⟩
  ·have hf:scope.names.lookup x=some .free:=by
    rcases hx with hx | hx
    ·exact rel x _ hx (.inl rfl)
    ·exact rel x _ hx (.inr rfl)
   obtain ⟨a,ea⟩:=I3.ok.has x (kin x hf)
   exact ⟨a,has x a hf ea⟩
  ·rcases (f3 b hb').2.2.2.1 with z | z
   ·exact I3.ok.noex b o e z
   ·exact absurd (Nat.lt_of_lt_of_le (Heap.lt_size e) (Nat.le_trans I3.ok.bsz z)) (Nat.lt_irrefl _)
  ·rcases List.mem_cons.mp (I3.stkSub b hs) with z | z
   ·exact (f3 b hb').2.1 z
   ·exact (f3 b hb').2.2.1 z
 have IY:aX (eY X ls M scope HH.objs.size fp { s2 with heap:=HH,toks:=s2.toks } H3) [] (List.replicate ls.length none ++ σ) H3 { s2 with heap:=h₁,toks:=s2.toks + ([]:List (Str × Value)).length }:=by
  refine ⟨okY,rfl,I2.bare,Un.kept old,⟨_,hns₁,fun i x v e1 e2 e3=>?_⟩,fun x a e=>?_,I3.hok.fresh (Nat.le_refl _),fun x a e=>I3.freeC x a (sub x a e),fun p hp=>absurd (show p ∈ ([]:List (Addr × Obj)) from hp) (by simp),I3.hok.kept old,?_⟩
  ·have hi:ls.length <= i:=by
    by_cases hi:ls.length <= i
    ·exact hi
    ·rw [List.getElem?_append_left (by simp; omega),List.getElem?_replicate] at e2
     split at e2 <;> cases e2
   rw [List.getElem?_append_right (by simpa using hi),List.length_replicate] at e2
   have e0:M[i - ls.length]? = some x:=by
    have z:(ls ++ M)[i]? = some x:=e1
    rw [List.getElem?_append_right hi] at z
    exact z
   have hnl:=nl.loc _ x e0
   have hf:scope.names.lookup x=some .free:=by
    rcases e3 with e3 | e3 | e3
    ·obtain ⟨k',q1,q2⟩:=iG (show (scope.names.map fun (n,k)=>if (k == NameKind.free && X.env.scope.kind == .function && X.env.kindOf n == some .cell) then (n,NameKind.cell) else (n,k)).lookup x=some .local from e3)
     rcases q2 with q2 | ⟨_,q2⟩
     ·subst q2; exact absurd q1 hnl
     ·cases q2
    ·exact rel x _ e3 (.inl rfl)
    ·exact rel x _ e3 (.inr rfl)
   have e1':=nl.free _ x e0 hf
   have hk:=kin x hf
   obtain ⟨m,hn,hl⟩:=I3.loc
   obtain ⟨u,ru,lk⟩:=hl (i - ls.length) x v e1' e2 (hk.elim (fun z=>.inr (.inl z)) fun z=>.inr (.inr z))
   refine ⟨u,ru,?_⟩
   rcases lk with ⟨z,_⟩ | ⟨_,a,ea,hcell⟩
   ·rcases hk with hk | hk <;> (rw [hk] at z; cases z)
   ·obtain ⟨o,eo,hd⟩:=hcell
    refine .inr ⟨?_,a,has x a hf ea,⟨o,old a o eo,hd⟩⟩
    rcases e3 with e3 | e3 | e3
    ·obtain ⟨k',q1,q2⟩:=iG (show (scope.names.map fun (n,k)=>if (k == NameKind.free && X.env.scope.kind == .function && X.env.kindOf n == some .cell) then (n,NameKind.cell) else (n,k)).lookup x=some .local from e3)
     rcases q2 with q2 | ⟨_,q2⟩
     ·subst q2; exact absurd q1 hnl
     ·cases q2
    ·exact .inl e3
    ·exact .inr e3
  ·obtain ⟨v,o,eo,hd⟩:=I3.cell x a (sub x a e)
   exact ⟨v,o,old a o eo,hd⟩
  ·show (List.replicate ls.length none ++ σ).length=(ls ++ M).length
   rw [List.length_append,List.length_append,List.length_replicate,I3.len,nl.len]
 have st1:tn 0 h₁:=T.keep 0 _ _ st2 fun b _ o e=>old b o (up b o e)
 obtain ⟨hPG,hPT,hPE⟩:=hb HH.objs.size fp { s2 with heap:=HH,toks:=s2.toks } H3
 obtain ⟨W,⟨m0,w0⟩,turn⟩:=hW s2.heap.objs.size hfreshD
 rw [hH3] at w0
 have back:∀ {τ : St}{H':Hp}{s':Shared},aX (eY X ls M scope HH.objs.size fp { s2 with heap:=HH,toks:=s2.toks } H3) [] τ H' s'->aX X pins σ H' s' /\ Ln X pins H' HH.objs.size s':=fun {τ H' s'} J=>by
  refine ⟨I3.call' (ch:=fp) J.os J.base J.hok J.bare fun b hb'=>?_,?_⟩
  ·obtain ⟨_,g1,g2,g3,g4,g5⟩:=f3 b hb'
   exact ⟨g3,g1,g4,g5⟩
  ·obtain ⟨m,hn,_⟩:=J.loc
   refine ⟨⟨m,hn⟩,J.free,Ne.symm (Nat.ne_of_lt I3.lt),I3.sz,fun x a e=>?_,fun p hp=>Nat.ne_of_lt (Heap.lt_size (I3.pin p hp).1)⟩
   obtain ⟨v,q⟩:=I3.cell x a e
   exact Nat.ne_of_lt q.lt
 have stat:∀ {H':Hp},(∀ b ∈ fp,H' b=none)->∀ b ∈ fp,j7 (eY X ls M scope HH.objs.size fp { s2 with heap:=HH,toks:=s2.toks } H3) [] H' b:=fun {H'} hn b hb'=>by
  obtain ⟨_,g1,g2,g3,g4,g5⟩:=f3 b hb'
  refine ⟨hn b hb',Nat.ne_of_lt (fplt b hb'),fun hs=>?_,.inl hb',fun x a e=>g4 x a (sub x a e),fun p hp=>absurd (show p ∈ ([]:List (Addr × Obj)) from hp) (by simp)⟩
  rcases List.mem_cons.mp (I3.stkSub b hs) with z | z
  ·exact g1 z
  ·exact g2 z
 have loop:∀ s₃ : Shared,s₃ = { s2 with heap:=h₁,toks:=s2.toks + ([]:List (Str × Value)).length } ->
   codeAny (model X.prog X.w) X.A (.compLoop (.ListComp elt [⟨tg,iter,ifs,0⟩] scope pos) 0 (.ref it) (.ref s2.heap.objs.size) (compEnvC scope (fH X.env scope.names []) HH.objs.size X.env)) (RR (.ref s2.heap.objs.size) HH.objs.size) s₃:=by
  rintro s₃ rfl
  refine yX (fun n s'=>∃ i τ H',aX (eY X ls M scope HH.objs.size fp { s2 with heap:=HH,toks:=s2.toks } H3) [] τ H' s' /\ tn i s'.heap /\ (∀ b ∈ fp,H' b=none) /\ W i n τ H') ?_ m0 ⟨0,_,H3,IY,st1,fun b hb'=>(f3 b hb').1,w0⟩
  rintro n s3 ⟨i,τ,H',I4,st4,fr4,w4⟩ E'
  rcases turn i n τ H' w4 with ⟨stop,qn⟩ | ⟨go,step⟩
  ·refine d8 (T.done (eY X ls M scope HH.objs.size fp { s2 with heap:=HH,toks:=s2.toks } H3) rfl rfl rfl hc i [] s3 τ H' E' I4 (stat fr4) st4 stop) fun r s4 ⟨hr,I5⟩=>?_
   subst hr
   obtain ⟨b1,b2⟩:=back I5
   exact hRR _ _ H' s4 b1 b2 qn
  ·refine d8 (T.item (eY X ls M scope HH.objs.size fp { s2 with heap:=HH,toks:=s2.toks } H3) rfl rfl rfl hc i [] s3 τ H' E' I4 (stat fr4) st4 go) fun r s4 ⟨u,hr,h4⟩=>?_
   subst hr
   refine d8 h4 fun _ s5 ⟨x,H5,I5,r5,y5,st5,fr5⟩=>?_
   have I5':=I5.pinned (stat fr5) (T.obj _ _ st5)
   refine wpAny_mono (hPG _ s5 τ H5 x u _ I5' r5 (step x H5 y5)) (fun _ s6 ⟨σ6,H6,I6,q6⟩=>?_) fun _ _ z=>z.elim
   refine wpAny_mono (hPT _ s6 σ6 H6 _ I6 q6) (fun ok s7 ⟨H7,I7,q7⟩=>?_) fun _ _ z=>z.elim
   have again:∀ {σ8:St}{H8:Hp}{s8:Shared}{m':Nat},aX (eY X ls M scope HH.objs.size fp { s2 with heap:=HH,toks:=s2.toks } H3) ([] ++ uZ fp s5.heap) σ8 H8 s8->m' < n->W (i + 1) m' σ8 H8 ->
     ∃ m,m < n /\ ∃ i τ H',aX (eY X ls M scope HH.objs.size fp { s2 with heap:=HH,toks:=s2.toks } H3) [] τ H' s8 /\ tn i s8.heap /\ (∀ b ∈ fp,H' b=none) /\ W i m τ H':=fun {σ8 H8 s8 m'} I8 hm w8=>by
    refine ⟨m',hm,i + 1,σ8,H8,I8.unpinned,T.keep _ _ _ st5 fun b hb' o e=>(I8.pin (b,o) (List.mem_append_right _ (List.mem_append_right _ (lG hb' e)))).1,fun b hb'=>?_,w8⟩
    obtain ⟨o,e,d⟩:=T.obj _ _ st5 b hb'
    exact (I8.pin (b,o) (List.mem_append_right _ (List.mem_append_right _ (lG hb' e)))).2.1
   cases ok with
   | false =>
    rw [if_neg Bool.false_ne_true] at q7 ⊢
    obtain ⟨m',hm,w7⟩:=q7
    exact again I7 hm w7
   | true =>
    rw [if_pos rfl] at q7 ⊢
    refine wpAny_mono (hPE _ s7 σ6 H7 _ I7 q7) (fun yv s8 ⟨y,H8,I8,r8,ys,m',hm,hD,hz,w8⟩=>?_) fun _ _ z=>z.elim
    refine wpAny_mono (nF (X:=(eY X ls M scope HH.objs.size fp { s2 with heap:=HH,toks:=s2.toks } H3)) _ s8 σ6 H8 (.ref s2.heap.objs.size) [y] (.ref s2.heap.objs.size) [yv] (fun _ H9=>W (i + 1) m' σ6 H9) I8 rfl (.cons r8 .nil) ⟨_,ys,y,rfl,rfl,hD,hz,w8⟩) (fun _ s9 ⟨_,H9,I9,_,w9⟩=>?_) fun _ _ z=>z.elim
    exact again I9 hm w9
 exact codeAny_compStart_list (loop _ rfl) (T.self _ 0 _ _ _ st1 (loop _ rfl))
theorem Ed (S:bT X.env.scope scope) (ok:X.Ok):closureFor scope X.env=pure (fH X.env scope.names []) :=
 qR fun y hy e=>ok.has y.1 (S.free y hy e)
theorem cH {wi:TI} (hc:X.calm=true) (S:bT X.env.scope scope) (nl:NL X.N M scope) (hi:PI X tg iter wi)
  (hb:∀ C fp s H,PG (eY X ls M scope C fp s H) tg g /\ Ti (eY X ls M scope C fp s H) ifs c /\ PE (eY X ls M scope C fp s H) elt te)
  (hs:∀ x,foldedSetIterable iter X.env x=pure x:=by intro _; rfl):PE X (.ListComp elt [⟨tg,iter,ifs,0⟩] scope pos) (NK ls.length wi g c te):=by
 intro pins s σ H Q I h
 rw [eval_ListComp]
 refine wpAny_comprehension_free (use:=none) rfl hs (Ed S I.ok) S.kind S.loc (d8 (hi pins s σ H _ I h) fun xv s1 h1=>d8 h1 fun itv s2 h2=>?_)
 obtain ⟨it,fp,tn,J,H2,e,I2,T,st2,f2,hW⟩:=h2
 subst e
 refine wV (RR:=fun acc C=>compPost (model X.prog X.w) X.A X.xe none (EP X pins σ Q) acc C) (Qe:=Q) hc S nl hb I2 T st2 f2 hW fun D C H' s' I' o q=>?_
 exact ⟨o.ns.choose,o.ns.choose_spec,fun h' hs'=>⟨.ref D,H',I'.gone o hs',rfl,q⟩⟩
theorem Ld {wi:TI}{i:Nat}{y:Str}{py spos:Pos} (hc:X.calm=true) (S:bT X.env.scope scope) (nl:NL X.N M scope) (hN:X.N.Nodup) (hiy:X.N[i]? = some y) (hy:YM X.env.scope y)
  (hi:PI X tg iter wi) (hb:∀ C fp s H,PG (eY X ls M scope C fp s H) tg g /\ Ti (eY X ls M scope C fp s H) ifs c /\ PE (eY X ls M scope C fp s H) elt te)
  (hsw:swapsWith (.ListComp elt [⟨tg,iter,ifs,0⟩] scope pos) (some (.Name y py)) spos.line X.env=pure true:=by rfl)
  (hs:∀ x,foldedSetIterable iter X.env x=pure x:=by intro _; rfl) (hf:X.fn y=true ∨ X.env.scope.names.lookup y=some .local:=by first | exact .inl rfl | exact .inr rfl) :
  PS X (.Assign [.Name y py] (.ListComp elt [⟨tg,iter,ifs,0⟩] scope pos) spos) (Q3 (NK ls.length wi g c te) (xK i)):=by
 intro pins s σ H D I h
 rw [exec_Assign_Name_used _ _ _ _ hsw]
 refine wpAny_bind (wpAny_standAt (wpAny_bind ?_))
 show wpAny _ X.A (do let _ <- comprehension (.ListComp elt [⟨tg,iter,ifs,0⟩] scope pos) scope X.env _ (newList []) false (eval iter X.env) (some (assign (.Name y py) X.env))) _ _ s
 refine wpAny_bind (wpAny_mono (wpAny_comprehension_free (use:=some (assign (.Name y py) X.env)) (Q:=fun _ s'=>SP X pins D .next s') rfl hs (Ed S I.ok) S.kind S.loc (d8 (hi pins s σ H _ I h) fun xv s1 h1=>d8 h1 fun itv s2 h2=>?_)) (fun _ s' hq=>wpAny_pure (wpAny_pure hq)) fun _ _ e=>e)
 obtain ⟨it,fp,tn,J,H2,e,I2,T,st2,f2,hW⟩:=h2
 subst e
 refine wV (RR:=fun acc C=>compPost (model X.prog X.w) X.A X.xe (some (assign (.Name y py) X.env)) (fun _ s'=>SP X pins D .next s') acc C) hc S nl hb I2 T st2 f2 hW fun Dl C H' s' I' o q=>?_
 show wpAny _ X.A (assign (.Name y py) X.env (.ref Dl)) _ _ _
 refine wpAny_assign_Name (nT I' hN hiy hy (v:=.ref Dl) rfl (fun s'' I'' ⟨a,hsa,ha⟩=>?_) hf)
 have hCa:C ≠ a:=by
  rcases ha with z | z
  ·rw [z]; exact o.ne
  ·exact Ne.symm (o.cells y a z)
 obtain ⟨m,hm⟩:=o.ns
 have o2:Ln X pins H' C s'':=⟨⟨m,hm.sameBut hsa hCa⟩,o.none,o.ne,o.young,o.cells,o.pins⟩
 exact ⟨m,hm.sameBut hsa hCa,fun h' hs'=>⟨_,H',I''.gone o2 hs',q⟩⟩
end
def CW (n:Nat) (Pv:Nat->St->Hp->Prop) (i m:Nat) (τ : St) (H:Hp):Prop:=m=n - i /\ i <= n /\ Pv i τ H
theorem bH {n i m:Nat}{Pv:Nat->St->Hp->Prop}{τ : St}{H4:Hp}{D:Addr}{ys:List V}{y:V} (hm:m=n - i) (hi:i < n) (e1:H4 D=some (.lst ys)) (e2:ys.length < sizeLine) (p:Pv (i + 1) τ (aU H4 D (.lst (ys ++ [y])))) :
  ∃ ys m',m' < m /\ H4 D=some (.lst ys) /\ ys.length < sizeLine /\ CW n Pv (i + 1) m' τ (aU H4 D (.lst (ys ++ [y]))):=⟨ys,n - (i + 1),by omega,e1,e2,rfl,hi,p⟩
theorem HS {n i m:Nat}{Pv:Nat->St->Hp->Prop}{τ : St}{H3:Hp} (hm:m=n - i) (hi:i < n) (p:Pv (i + 1) τ H3):∃ m',m' < m /\ CW n Pv (i + 1) m' τ H3:=⟨n - (i + 1),by omega,rfl,hi,p⟩
theorem gU {k:Nat}{lo:Int}{n:Nat}{g:TG}{c:TT}{te:TE}{σ : St}{H1:Hp}{D:Addr}{Q:VK} (Pv:Nat->St->Hp->Prop) (h0:Pv 0 (List.replicate k none ++ σ) (aU H1 D (.lst [])))
  (hs:∀ i m τ H,m=n - i->i < n->Pv i τ H->g (.int (lo + i)) τ H fun τ2 H2=>c τ2 H2 fun b H3=>if b=true then te τ2 H3 fun y H4=>∃ ys m',m' < m /\ H4 D=some (.lst ys) /\ ys.length < sizeLine /\ CW n Pv (i + 1) m' τ2 (aU H4 D (.lst (ys ++ [y]))) else ∃ m',m' < m /\ CW n Pv (i + 1) m' τ2 H3)
  (hd:∀ τ H,Pv n τ H->Q (.ref D) H):By k (PP lo n) g c te σ H1 D Q:=by
 refine ⟨CW n Pv,⟨n,rfl,Nat.zero_le _,h0⟩,?_⟩
 rintro i m τ H ⟨hm,hi,p⟩
 by_cases hlt:i < n
 ·refine .inr ⟨hlt,fun x H' y=>?_⟩
  obtain ⟨e,y⟩:=y
  subst e y
  exact hs i m τ _ hm hlt p
 ·have e:i=n:=by omega
  subst e
  exact .inl ⟨Nat.le_refl _,hd τ H p⟩
theorem cM {K:PySem.W.Frag}{a:Addr}{xs:List V}{k:Nat}{g:TG}{c:TT}{te:TE}{σ : St}{H1:Hp}{D:Addr}{Q:VK} (Pv:Nat->St->Hp->Prop) (h0:Pv 0 (List.replicate k none ++ σ) (aU H1 D (.lst [])))
  (hl:∀ i τ H,i <= xs.length->Pv i τ H->bO K H a xs)
  (hs:∀ i m x τ H,m=xs.length - i->i < xs.length->xs[i]? = some x->Pv i τ H->g x τ H fun τ2 H2=>c τ2 H2 fun b H3=>if b=true then te τ2 H3 fun y H4=>∃ ys m',m' < m /\ H4 D=some (.lst ys) /\ ys.length < sizeLine /\ CW xs.length Pv (i + 1) m' τ2 (aU H4 D (.lst (ys ++ [y]))) else ∃ m',m' < m /\ CW xs.length Pv (i + 1) m' τ2 H3)
  (hd:∀ τ H,Pv xs.length τ H->Q (.ref D) H):By k (Qk K a) g c te σ H1 D Q:=by
 refine ⟨CW xs.length Pv,⟨xs.length,rfl,Nat.zero_le _,h0⟩,?_⟩
 rintro i m τ H ⟨hm,hi,p⟩
 have q:=hl i τ H hi p
 by_cases hlt:i < xs.length
 ·refine .inr ⟨⟨xs,xs[i],q,by simp [hlt]⟩,fun x H' y=>?_⟩
  obtain ⟨e,y⟩:=y
  subst e
  exact hs i m x τ _ hm hlt (y xs q) p
 ·have e:i=xs.length:=by omega
  subst e
  exact .inl ⟨⟨xs,q,Nat.le_refl _⟩,hd τ H p⟩
theorem fL {τ : St}{H:Hp}{A B:Hp->Prop} (h:A H):Ot τ H (fun b H3=>if b=true then A H3 else B H3):=by
 show (if true=true then A H else B H)
 rw [if_pos rfl]
 exact h
theorem CV {c:Bool}{A B:Prop} (h:c=true) (a:A):if c=true then A else B:=by
 rw [if_pos h]
 exact a
theorem uB {c:Bool}{A B:Prop} (h:c=false) (b:B):if c=true then A else B:=by
 rw [if_neg (by rw [h]; exact Bool.false_ne_true)]
 exact b
theorem Jo:bootBuiltins "int" = some (.type "int"):=by decide +kernel
theorem Lf:bootBuiltins "bool" = some (.type "bool"):=by decide +kernel
theorem Oq:bootBuiltins "str" = some (.type "str"):=by decide +kernel
theorem m5:bootBuiltins "list" = some (.type "list"):=by decide +kernel
theorem gH:bootBuiltins "tuple" = some (.type "tuple"):=by decide +kernel
theorem kW:bootBuiltins "len" = some (.builtin "len"):=by decide +kernel
theorem Q9:bootBuiltins "abs" = some (.builtin "abs"):=by decide +kernel
theorem bC:bootBuiltins "isinstance" = some (.builtin "isinstance"):=by decide +kernel
theorem u0:bootBuiltins "sum" = some (.builtin "sum"):=by decide +kernel
theorem KR:bootBuiltins "max" = some (.builtin "max"):=by decide +kernel
theorem QF:bootBuiltins "min" = some (.builtin "min"):=by decide +kernel
theorem HD:bootBuiltins "sorted" = some (.builtin "sorted"):=by decide +kernel
theorem J4:bootBuiltins "all" = some (.builtin "all"):=by decide +kernel
def Dy:List Str->Bool
 | []=>true
 | x :: r=>(r.all fun y=>x != y) && Dy r
theorem cU:∀ {l:List Str},Dy l=true->l.Nodup
 | [],_=>.nil
 | x :: r,h=>by
  have h':((r.all fun y=>x != y) && Dy r)=true:=h
  rw [Bool.and_eq_true,List.all_eq_true] at h'
  refine List.nodup_cons.mpr ⟨fun z=>?_,cU h'.2⟩
  have:=h'.1 x z
  simp at this
structure gG (P:Program) (w:World) (K:PySem.W.Frag) (mg:Str->Option Value) (base:Heap) (n:Nat) (x:Str) (ps:List Str) (sp:Sp) (g:Addr) (gd:FuncData):Prop where
 ok:aP P w K mg base dM n g gd ps sp
 bi:aY K gd ps []
 kp:PySem.W.keepIn K (.ref g)=true
 at_:mg x=some (.ref g)
theorem gG.up {P:Program}{w:World}{K:PySem.W.Frag}{mg:Str->Option Value}{base:Heap}{n m:Nat}{x:Str}{ps:List Str}{sp:Sp}{g:Addr}{gd:FuncData} (c:gG P w K mg base n x ps sp g gd) (h:n <= m):gG P w K mg base m x ps sp g gd:=⟨c.ok.mono h,c.bi,c.kp,c.at_⟩
theorem aM {X:Cx}{n:Nat}{x:Str}{ps:List Str}{sp:Sp}{g:Addr}{gd:FuncData}{p pos:Pos}{e:Expr}{es:List Expr}{t:TA} (c:gG X.prog X.w X.K X.mg X.base n x ps sp g gd) (hr:fG n X.A) (ha:PA X (e :: es) t) (hg:Gl X x:=by rfl)
  (hd:(x == ("__debug__" : Str))=false:=by decide) (he:starEach (e :: es) X.env=(false,eval e X.env) :: starEach es X.env:=by rfl) (hpl:(backTo pos (starEach es X.env)).any (·.1)=false:=by rfl) :
  PE X (.Call (.Name x p) (e :: es) [] pos) (Bt sp [] E0 t):=Af c.ok hr hg c.at_ c.kp c.bi .nil cT ha hd he hpl
theorem aN.tup {K:PySem.W.Frag}{H H':Hp}{a:Addr}{xs:List V} (e:aN H H') (h:cN K H a xs):cN K H' a xs:=by
 rcases h with (h | ⟨o,h⟩) | h
 ·exact .inl (.inl (e _ _ h))
 ·exact .inl (.inr ⟨o,e _ _ h⟩)
 ·exact .inr h
theorem aF {H:Hp}{p:Addr} (h:H p=none) (o:HO):aN H (aU H p o):=fun b u q=>by rw [aL (aR q h)]; exact q
theorem aN.upd_new {H H':Hp}{p:Addr} (s:aN H H') (h:H p=none) (o:HO):aN H (aU H' p o):=fun b u q=>by rw [aL (aR q h)]; exact s b u q
theorem KZ {L:List Int}{i:Int} (h0:0 <= i) (h1:i < (L.length:Int)):Hz (L.map V.int) i=some (.int (L.getD i.toNat 0)):=by
 have hi:i.toNat < L.length:=by omega
 have e:i=((i.toNat:Nat):Int):=by omega
 have q:Hz (L.map V.int) ((i.toNat:Nat):Int)=some (.int (L.getD i.toNat 0)):=fD (by rw [List.getElem?_map,List.getElem?_eq_getElem hi,iB hi] <;> rfl)
 rw [<- e] at q
 exact q
end L2
namespace L2
open PySem PySem.Spec PyProof.Rows
section
variable {X:Cx}{pins:List (Addr × Obj)}{σ : St}{H:Hp}{s:Shared}
theorem aX.track {a:Addr}{o:HO} (I:aX X pins σ H s) (f:j7 X pins H a) (hy:X.s₀.heap.objs.size <= a) (new:cY X.prog X.w (aU H a o) s.heap a o):aX X pins σ (aU H a o) s:=by
 obtain ⟨f0,f1,f2,f3,f4,f5⟩:=f
 have ne:∀ b u,H b=some u->b ≠ a:=fun b u e=>aR e f0
 refine ⟨I.ok,I.os,I.bare,⟨I.base.keep,I.base.slot,fun b ob e n hx=>?_,I.base.there,fun b xs e=>?_,fun b ob u e=>?_,fun b ps e=>?_⟩,I.loc,I.cell,?_,fun x c e=>?_,fun p hp=>?_,fun b u e=>?_,I.len⟩
 ·rw [aL (Nat.ne_of_lt (Nat.lt_of_lt_of_le (Heap.lt_size e) hy))]
  exact I.base.free b ob e n hx
 ·have q:=I.base.tups b xs e
  rw [aL (ne _ _ q)]; exact q
 ·have q:=I.base.frzs b ob u e
  rw [aL (ne _ _ q)]; exact q
 ·obtain ⟨m,q⟩:=I.base.tbls b ps e
  exact ⟨m,by rw [aL (ne _ _ q)]; exact q⟩
 ·rw [aL (Ne.symm f1)]; exact I.free
 ·rw [aL (f4 x c e)]; exact I.freeC x c e
 ·obtain ⟨g1,g2,g3,g4,g5⟩:=I.pin p hp
  exact ⟨g1,by rw [aL (f5 p hp)]; exact g2,g3,g4,g5⟩
 ·by_cases hb:b=a
  ·subst hb; rw [aB] at e; cases e; exact new
  ·rw [aL hb] at e
   exact (I.hok b u e).stay (fun _ _ _ q=>q) (fun c q=>by rw [aL (ne _ _ q)]; exact q) fun c xs q=>by rw [aL (ne _ _ q)]; exact q
theorem j7.pin {b:Addr}{o:Obj} (f:j7 X pins H b) (e:s.heap.get? b=some o) (d:∀ v,o.data ≠ .cell v):s.heap.get? b=some o /\ H b=none /\ b ≠ X.env.locals /\ b ∉ X.fs /\ ∀ v,o.data ≠ .cell v:=⟨e,f.1,f.2.1,f.2.2.1,d⟩
def Lr (X:Cx) (pins:List (Addr × Obj)) (σ : St) (H:Hp) (A:Around) (f v:Value) (k:Int):Prop :=
 ∀ (more:List (Addr × Obj)) (s:Shared),aX X (pins ++ more) σ H s->wpAny (model X.prog X.w) A (call f [v]) (fun r s'=>(∃ t,r=Value.int k t) /\ aX X (pins ++ more) σ H s') (fun _ _=>False) s
variable {A:Around}{E:Value->Shared->Prop}{P:PySem.Fin->Shared->Prop}{a kS:Addr}{b:Bool}{vs:List Value}{kz:List Int}{keys:Array Value}{e e1:Nat}{f:Value}
theorem Ci {st:SortSt} (I:aX X pins σ H s) (fk:j7 X pins H kS) (fa:j7 X pins H a) (hka:kS ≠ a) (ek:s.heap.get? kS=some (seqObj "list" keys e)) (ea:s.heap.get? a=some (seqObj "list" #[] e1))
  (hk:IntsAre keys.toList kz) (hlen:kz.length=vs.length) (h64:vs.length < 64) (hp:(arrOf st).Perm (keys.zip vs.toArray)) (hs:SortedTo (arrOf st) (arrOf st).size) (hfl:failedOf st=none)
  (done:∀ s' out c,aX X pins σ H s'->s'.heap.get? a=some (seqObj "list" out c)->KskOut b kz vs out.toList->P (.done (.ret .none)) s') :
  wpAny (model X.prog X.w) A (ksk_tail a b e1 (.ref kS) st) P E s:=by
 have hsz:keys.size=vs.length:=by
  have h1:=hk.length
  rw [Array.length_toList] at h1
  omega
 have hsz2:(arrOf st).size=vs.length:=by
  have z:(arrOf st).size=(keys.zip vs.toArray).size:=hp.size_eq
  have z2:(keys.zip vs.toArray).size=vs.length:=by rw [Array.size_zip,hsz]; simp
  exact z.trans z2
 have ko:=ksk_out (b:=b) hk hp hs
 have hout:(if b=true then ((arrOf st).map (·.2)).reverse else (arrOf st).map (·.2)).size=vs.length:=by
  cases b <;> simp [hsz2]
 generalize hO:(if b=true then ((arrOf st).map (·.2)).reverse else (arrOf st).map (·.2))=out at ko hout
 have I1:aX X pins σ H { s with heap:=s.heap.update kS (Obj.mapSeq fun _=>(#[]:Array Value)) } :=
  I.turned (t':=s.toks) (fun b o hb q=>((Heap.SameBut.update s.heap kS _).2 b hb).trans q) fk.1 fk.2.1 fk.2.2.2.1 fk.2.2.2.2.1 fk.2.2.2.2.2
 have ea1:(s.heap.update kS (Obj.mapSeq fun _=>(#[]:Array Value))).get? a=some (seqObj "list" #[] e1):=((Heap.SameBut.update s.heap kS _).2 a (Ne.symm hka)).trans ea
 have I2:aX X pins σ H { s with heap:=(s.heap.update kS (Obj.mapSeq fun _=>(#[]:Array Value))).update a (Obj.mapSeq fun _=>out) } :=
  I1.turned (t':=s.toks) (fun b o hb q=>((Heap.SameBut.update _ a _).2 b hb).trans q) fa.1 fa.2.1 fa.2.2.2.1 fa.2.2.2.2.1 fa.2.2.2.2.2
 unfold ksk_tail
 dsimp only
 refine wpAny_bind (listUpdate_at ek rfl ?_ (by rw [hsz]; exact Nat.le_trans (Nat.le_of_lt h64) (by decide)) (Nat.zero_le _))
 refine wpAny_bind (wpAny_letGo ?_)
 refine wpAny_bind (seqEpoch_at ea1 rfl ?_)
 rw [hO]
 refine wpAny_bind (listUpdate_at ea1 rfl ?_ (Nat.zero_le _) (by rw [hout]; exact Nat.le_trans (Nat.le_of_lt h64) (by decide)))
 rw [hfl]
 simp only [bne_self_eq_false,Bool.false_eq_true,if_false]
 exact wpAny_pure (done _ out _ I2 (get?_update_seq ea1 fun _=>out) ko)
theorem Ma (I:aX X pins σ H s) (fk:j7 X pins H kS) (fa:j7 X pins H a) (hka:kS ≠ a) (ek:s.heap.get? kS=some (seqObj "list" keys e)) (ea:s.heap.get? a=some (seqObj "list" #[] e1))
  (hk:IntsAre keys.toList kz) (hlen:kz.length=vs.length) (h64:vs.length < 64)
  (done:∀ s' out c,aX X pins σ H s'->s'.heap.get? a=some (seqObj "list" out c)->KskOut false kz vs out.toList->P (.done (.ret .none)) s') :
  wpAny (model X.prog X.w) A (ksk_end a false vs.toArray e1 (.ref kS) keys) P E s:=by
 have hsz:keys.size=vs.length:=by
  have h1:=hk.length
  rw [Array.length_toList] at h1
  omega
 have hzs:(keys.zip vs.toArray).size=vs.length:=by rw [Array.size_zip,hsz,List.size_toArray]; omega
 unfold ksk_end
 dsimp only
 simp only [Bool.false_eq_true,if_false]
 by_cases h2:vs.toArray.size < 2
 ·rw [if_pos h2,if_pos h2]
  refine wpAny_bind (wpAny_pure ?_)
  rw [StateT.run_pure]
  refine wpAny_bind (wpAny_pure ?_)
  refine Ci (st:=SortSt.mk' general' (keys.zip vs.toArray) #[] 7 none) I fk fa hka ek ea hk hlen h64 (Array.Perm.refl _) (fun i j hij hj=>?_) rfl done
  have hj':j < (keys.zip vs.toArray).size:=hj
  rw [hzs] at hj'
  rw [List.size_toArray] at h2
  have z:i=j:=by omega
  rw [z]
  exact Int.le_refl _
 ·rw [if_neg h2,if_neg h2]
  rw [List.size_toArray] at h2
  rw [ksk_kind hk (by omega)]
  refine wpAny_bind (wpAny_pure ?_)
  refine wpAny_bind (wpAny_mono (wpS_sortRuns (a₀:=keys.zip vs.toArray) (st:=SortSt.mk' oneType' (keys.zip vs.toArray) #[] 7 none)
   (Q:=fun _ t=>(arrOf t).Perm (keys.zip vs.toArray) /\ failedOf t=none /\ SortedTo (arrOf t) (keys.zip vs.toArray).size)
   (ksk_intKeys hk) ⟨Array.Perm.refl _,rfl,rfl,rfl⟩ (by omega) (by omega) fun t z1 z2 z3=>⟨z1,z2,z3⟩) ?_ fun _ _ z=>z)
  rintro ⟨⟨⟩,t⟩ s2 ⟨rfl,p1,p2,p3⟩
  exact Ci I fk fa hka ek ea hk hlen h64 p1 (by rw [p1.size_eq]; exact p3) p2 done
theorem Jg (I:aX X pins σ H s) (fk:j7 X pins H kS) (fa:j7 X pins H a) (hka:kS ≠ a) (ek:s.heap.get? kS=some (seqObj "list" #[] 0)) (ea:s.heap.get? a=some (seqObj "list" #[] e1))
  (hlen:kz.length=vs.length) (h64:vs.length < 64) (turn:∀ (i:Nat) v k,vs[i]? = some v->kz[i]? = some k->Lr X pins σ H A f v k)
  (done:∀ s' out c,aX X pins σ H s'->s'.heap.get? a=some (seqObj "list" out c)->KskOut false kz vs out.toList->P (.done (.ret .none)) s') :
  wpAny (model X.prog X.w) A (ksk_rest a f false vs.toArray e1 (.ref kS)) P E s:=by
 unfold ksk_rest
 refine wpAny_bind (wpAny_rule ?_)
 rw [List.forIn_toArray]
 refine wpAny_bind (ksk_fold (fun i s'=>aX X pins σ H s' /\ s'.heap.get? a=some (seqObj "list" #[] e1) /\ ∃ kA e,s'.heap.get? kS=some (seqObj "list" kA e) /\ IntsAre kA.toList (kz.take i)) vs 0 s ⟨I,ea,#[],0,ek,by simpa using IntsAre.nil⟩ ?step ?fin)
 case step =>
  rintro j x s1 hx ⟨I1,ea1,kA,e,ek1,hk⟩
  rw [Nat.zero_add] at hk ⊢
  have hj:j < vs.length:=(List.getElem?_eq_some_iff.mp hx).1
  have hkj:kz[j]? = some kz[j]:=List.getElem?_eq_getElem (by omega)
  have hz:kA.size <= vs.length:=by
   have h1:=hk.length
   rw [Array.length_toList,List.length_take] at h1
   omega
  have I2:aX X (pins ++ [(kS,seqObj "list" kA e),(a,seqObj "list" #[] e1)]) σ H s1:=I1.pins_of fun p hp=>by
   rcases List.mem_append.mp hp with z | z
   ·exact I1.pin p (List.mem_append_right _ z)
   ·rcases List.mem_cons.mp z with z | z
    ·subst z; exact fk.pin ek1 fun v q=>nomatch q
    ·rw [List.mem_singleton.mp z]; exact fa.pin ea1 fun v q=>nomatch q
  refine wpAny_bind (wpAny_attempt (wpAny_mono (turn j x _ hx hkj _ s1 I2) (fun v s2 h2=>?_) fun _ _ z=>z.elim))
  obtain ⟨⟨t,rfl⟩,I3⟩:=h2
  have ek2:=(I3.pin (kS,seqObj "list" kA e) (List.mem_append_right _ (List.mem_append_right _ (.head _)))).1
  have ea2:=(I3.pin (a,seqObj "list" #[] e1) (List.mem_append_right _ (List.mem_append_right _ (.tail _ (.head _))))).1
  have I4:=I3.unpinned
  refine wpAny_bind (listUpdate_at ek2 rfl ?_ (Nat.le_trans hz (Nat.le_trans (Nat.le_of_lt h64) (by decide))) (Nat.le_trans (Nat.le_of_eq (Array.size_push ..)) (Nat.succ_le_succ (Nat.le_trans hz (Nat.le_trans (Nat.le_of_lt h64) (by decide))))))
  refine wpAny_pure ⟨rfl,I4.turned (t':=s2.toks) (fun b o hb q=>((Heap.SameBut.update s2.heap kS _).2 b hb).trans q) fk.1 fk.2.1 fk.2.2.2.1 fk.2.2.2.2.1 fk.2.2.2.2.2,((Heap.SameBut.update s2.heap kS _).2 a (Ne.symm hka)).trans ea2,kA.push (.int kz[j] t),_,get?_update_seq ek2 (·.push (.int kz[j] t)),?_⟩
  have q1:kz.take (j + 1)=kz.take j ++ [kz[j]]:=by rw [List.take_add_one,hkj]; rfl
  rw [q1,Array.toList_push]
  exact ksk_snoc hk
 case fin =>
  rintro s1 ⟨I1,ea1,kA,e,ek1,hk⟩
  have hk':IntsAre kA.toList kz:=by
   rw [Nat.zero_add,<- hlen,List.take_length] at hk
   exact hk
  exact wpAny_bind (listItems_at ek1 rfl (Ma I1 fk fa hka ek1 ea1 hk' hlen h64 done))
end
end L2
namespace L2
open PySem PySem.Spec PyProof.Rows
section
variable {X:Cx}{pins:List (Addr × Obj)}{σ : St}{H:Hp}{s:Shared}{A:Around}{E:Value->Shared->Prop}{P:PySem.Fin->Shared->Prop}{a:Addr}{vs:List Value}{kz:List Int}{n:Nat}{f:Value}
theorem JP (I:aX X pins σ H s) (fa:j7 X pins H a) (ea:s.heap.get? a=some (seqObj "list" vs.toArray n)) (hlen:kz.length=vs.length) (h64:vs.length < 64)
  (turn:∀ (i:Nat) v k,vs[i]? = some v->kz[i]? = some k->Lr X pins σ H A f v k)
  (done:∀ s' out c,aX X pins σ H s'->s'.heap.get? a=some (seqObj "list" out c)->KskOut false kz vs out.toList->P (.done (.ret .none)) s') :
  wpAny (model X.prog X.w) A (ksk_tree a f false) P E s:=by
 have I1:aX X pins σ H { s with heap:=s.heap.update a (Obj.mapSeq fun _=>(#[]:Array Value)) } :=
  I.turned (t':=s.toks) (fun b o hb q=>((Heap.SameBut.update s.heap a _).2 b hb).trans q) fa.1 fa.2.1 fa.2.2.2.1 fa.2.2.2.2.1 fa.2.2.2.2.2
 have ea1:=get?_update_seq ea fun _=>(#[]:Array Value)
 generalize hh:s.heap.update a (Obj.mapSeq fun _=>(#[]:Array Value))=h1 at I1 ea1
 have I2:aX X pins σ H { s with heap:=(h1.push (seqObj "tuple" vs.toArray 0)).push (seqObj "list" #[] 0) } :=
  I1.kept (t':=s.toks) fun b o q=>Heap.get?_push_of_some _ (Heap.get?_push_of_some _ q)
 have hlt:a < h1.objs.size:=Heap.lt_size ea1
 have hsz:(h1.push (seqObj "tuple" vs.toArray 0)).objs.size=h1.objs.size + 1:=size_push' _ _
 have h64':vs.length <= sizeLine:=Nat.le_trans (Nat.le_of_lt h64) (by decide)
 unfold ksk_tree
 refine wpAny_bind (listItems_at ea rfl ?_)
 refine wpAny_bind (listUpdate_at ea rfl ?_ (by rw [List.size_toArray]; exact h64') (Nat.zero_le _))
 rw [hh]
 refine wpAny_bind (seqEpoch_at (s:={ s with heap:=h1 }) ea1 rfl ?_)
 refine wpAny_bind (wpAny_newTuple ?_ (by simpa using h64'))
 refine wpAny_bind (wpAny_newList ?_ (Nat.zero_le _))
 refine wpAny_holding ?_
 refine Jg (s:={ s with heap:=(h1.push (seqObj "tuple" vs.toArray 0)).push (seqObj "list" #[] 0) }) (kS:=(h1.push (seqObj "tuple" vs.toArray 0)).objs.size) I2 ?_ fa ?_ (Heap.get?_push_size _ rfl) (Heap.get?_push_of_some _ (Heap.get?_push_of_some _ ea1)) hlen h64 turn done
 ·exact I1.fpOk (by rw [hsz]; exact Nat.le_succ _) (I1.hok.fresh (by rw [hsz]; exact Nat.le_succ _))
 ·rw [hsz]
  exact Nat.ne_of_gt (Nat.lt_succ_of_lt hlt)
def NT:Value->Addr
 | .ref a=>a
 | _=>0
theorem xG:∀ {qs:List Addr}{vs:List Value},bI (qs.map V.ref) vs->vs=qs.map Value.ref
 | [],_,h=>by cases h; rfl
 | q :: qs,_,h=>by
  cases h with
  | cons r t=>rw [xG t,show _=Value.ref q from r]; rfl
theorem qY:∀ (qs:List Addr),bI (qs.map V.ref) (qs.map Value.ref)
 | []=>.nil
 | q :: qs=>.cons rfl (qY qs)
theorem Hu {kz:List Int}{qs:List Addr}{out:List Value} (h:KskOut false kz (qs.map Value.ref) out):∃ ps:List (Int × Addr),ps.Perm (kz.zip qs) /\ out=ps.map (fun p=>Value.ref p.2) /\ ps.Pairwise (fun p q=>p.1 <= q.1):=by
 obtain ⟨ps,hp,ho,hs⟩:=h
 have e0:kz.zip (qs.map Value.ref)=(kz.zip qs).map fun p=>(p.1,Value.ref p.2):=by rw [List.zip_map_right]; exact List.map_congr_left fun ⟨x,y⟩ _=>rfl
 rw [e0] at hp
 have mem:∀ p ∈ ps,p.2=Value.ref (NT p.2):=fun p hm=>by
  obtain ⟨q,_,rfl⟩:=List.mem_map.mp (hp.mem_iff.mp hm)
  rfl
 refine ⟨ps.map fun p=>(p.1,NT p.2),?_,?_,?_⟩
 ·have z:=hp.map fun p=>(p.1,NT p.2)
  rw [List.map_map] at z
  have e1:(kz.zip qs).map ((fun p=>(p.1,NT p.2)) ∘ fun p=>(p.1,Value.ref p.2))=kz.zip qs:=by
   conv=>rhs; rw [<- List.map_id (kz.zip qs)]
   exact List.map_congr_left fun ⟨x,y⟩ _=>rfl
  rw [e1] at z
  exact z
 ·rw [ho,List.map_map]
  exact List.map_congr_left fun p hm=>mem p hm
 ·rw [List.pairwise_map]
  exact hs
theorem K9 {l fa:Addr}{qs:List Addr}{Q:VK} (I:aX X pins σ H s) (hS:bO X.K H l (qs.map V.ref)) (hlen:kz.length=qs.length) (h64:qs.length < 64)
  (turn:∀ (i:Nat) q k,qs[i]? = some q->kz[i]? = some k->Lr X pins σ H X.A.in1.in1 (.ref fa) (.ref q) k)
  (done:∀ D (ps:List (Int × Addr)),H D=none->ps.Perm (kz.zip qs)->ps.Pairwise (fun p q=>p.1 <= q.1)->Q (.ref D) (aU H D (.lst (ps.map fun p=>V.ref p.2)))) :
  wpAny (model X.prog X.w) X.A (call (.builtin "sorted") [.ref l] [(Str.ofString "key",.ref fa)]) (EP X pins σ Q) E s:=by
 obtain ⟨its,rv,pl,hz⟩:=I.list hS
 have ei:=xG rv
 subst ei
 have hl64:(qs.map Value.ref).length < 64:=by rw [List.length_map]; exact h64
 have h64':(qs.map Value.ref).length <= sizeLine:=Nat.le_trans (Nat.le_of_lt hl64) (by decide)
 refine call_function_entry_kw kind_sorted plain_sorted entry_sorted (ksk_s1 _ _) ?_
 unfold Builtin.«sorted»
 refine wpAny_bind (m:=checkCount "sorted" 1 1 _) (wpAny_pure ?_)
 refine wpAny_bind (collect_list pl.isList ?_ h64')
 refine wpAny_bind (wpAny_newList ?_ h64')
 have up:∀ b o,s.heap.get? b=some o->((s.heap.push (seqObj "list" #[] 0)).update s.heap.objs.size (Obj.mapSeq (· ++ (qs.map Value.ref).toArray))).get? b=some o:=fun b o q =>
  ((Heap.SameBut.update (s.heap.push (seqObj "list" #[] 0)) s.heap.objs.size _).2 b (Nat.ne_of_lt (Heap.lt_size q))).trans (Heap.get?_push_of_some _ q)
 have hsz:((s.heap.push (seqObj "list" #[] 0)).update s.heap.objs.size (Obj.mapSeq (· ++ (qs.map Value.ref).toArray))).objs.size=s.heap.objs.size + 1:=by rw [Heap.size_update,size_push']
 generalize (s.heap.push (seqObj "list" #[] 0)).update s.heap.objs.size (Obj.mapSeq (· ++ (qs.map Value.ref).toArray))=h1 at up hsz
 have I1:aX X pins σ H { s with heap:=h1.push (seqObj "list" (qs.map Value.ref).toArray 0) }:=I.kept (t':=s.toks) fun b o q=>Heap.get?_push_of_some _ (up b o q)
 have fr:H h1.objs.size=none:=I.hok.fresh (by rw [hsz]; exact Nat.le_succ _)
 have fp:j7 X pins H h1.objs.size:=I.fpOk (by rw [hsz]; exact Nat.le_succ _) fr
 have yo:X.s₀.heap.objs.size <= h1.objs.size:=Nat.le_trans I.sz (by rw [hsz]; exact Nat.le_succ _)
 have ea:(h1.push (seqObj "list" (qs.map Value.ref).toArray 0)).get? h1.objs.size=some (seqObj "list" (qs.map Value.ref).toArray 0):=Heap.get?_push_size _ rfl
 refine wpAny_bind (wpAny_holding (wpAny_call_entry_kw PyProof.Rows.slot_list_sort ⟨_,ea,rfl⟩ PyProof.Rows.entry_list_sort ?body (ksk_l1 _ _)))
 case body =>
  show wpAny (model X.prog X.w) X.A.in1.in1 (Builtin.«list.sort» ⟨[.ref h1.objs.size],[(Str.ofString "key",.ref fa)]⟩) _ _ _
  rw [ksk_t1]
  refine JP (kz:=kz) (s:={ s with heap:=h1.push (seqObj "list" (qs.map Value.ref).toArray 0) }) I1 fp ea (by rw [List.length_map]; exact hlen) hl64 (fun i v k hv hk=>?_) fun s2 out c I2 e2 ko=>⟨_,rfl,?_⟩
  ·rw [List.getElem?_map] at hv
   cases eq:qs[i]? with
   | none=>rw [eq] at hv; cases hv
   | some q =>
    rw [eq] at hv
    cases hv
    exact turn i q k eq hk
  ·obtain ⟨ps,hp,ho,hs⟩:=Hu ko
   have hpl:ps.length=qs.length:=by
    rw [hp.length_eq,List.length_zip,hlen,Nat.min_self]
   refine wpAny_pure ⟨_,rfl,.ref h1.objs.size,_,I2.track (o:=.lst (ps.map fun p=>V.ref p.2)) fp yo ⟨?_,out.toList,c,?_,?_⟩,rfl,done _ ps fr hp hs⟩
   ·rw [List.length_map,hpl]
    exact Nat.le_trans (Nat.le_of_lt h64) (by decide)
   ·rw [ho]
    have z:=qY (ps.map Prod.snd)
    rw [List.map_map,List.map_map] at z
    exact z
   ·rw [Array.toArray_toList]
    exact e2
end
end L2
namespace L2
open PySem PySem.Spec PyProof.Rows
def Gh (X:Cx) (A:Around) (p:Str) (M:List Str) (scope:Scope) (qual:Str) (f c':Addr) (s:Shared) (H:Hp):Cx where
 prog:=X.prog
 w:=X.w
 K:=X.K
 mg:=X.mg
 base:=X.base
 A:=A.deeper (PySem.W.envX qual scope s.heap.objs.size f (.ref c') (fH X.env scope.names []))
 N:=p :: M
 s₀:=s
 H₀:=H
 env:=PySem.W.envX qual scope s.heap.objs.size f (.ref c') (fH X.env scope.names [])
 outer:=X.stack
 stack:=PySem.W.envX qual scope s.heap.objs.size f (.ref c') (fH X.env scope.names []) :: X.stack
 ex:=[]
 fn:=fun _=>false
 calm:=true
 pn:=[]
 xe:=fun _ _=>False
abbrev uR (c':Addr) (qual:Str):HO:=.ext fun h=>h.CodeRec (.ref c') qual
section
variable {X:Cx}{pins:List (Addr × Obj)}{σ : St}{H:Hp}{A:Around}{p qual:Str}{M:List Str}{scope:Scope}{params:Arguments}{body:Expr}{pm ctv:Value}{c' f:Addr}{te:TE}
theorem Mh (hA:A.frames=some X.stack) (hd:A.handled=none) (hdep:A.depth < recursionLimit) (S:bT X.env.scope scope) (nl:NL X.N M scope) (hp:scope.names.lookup p=some .local)
  (hco:scope.isCoroutine=false) (hgen:scope.isGenerator=false) (hbind:∀ (cl:List (Str × Addr)) (pm cdv ctv u:Value),bindArgs (PySem.W.kla_fn "<lambda>" qual params body scope cl pm cdv ctv) ⟨[u],[]⟩ = pure [(p,u)])
  (hb:∀ f c' s H,PE (Gh X A p M scope qual f c' s H) body te) {x:V}{u:Value}{k:Int} (rx:bG x u) (hf:(f,PySem.W.kla_obj "<lambda>" qual params body scope (fH X.env scope.names []) pm c' ctv) ∈ pins)
  (hcr:H c'=some (uR c' qual)) (h:te (some x :: σ) H fun r H'=>r = .int k /\ H'=H):Lr X pins σ H A (.ref f) u k:=by
 intro more s I
 have hcd:s.heap.CodeRec (.ref c') qual:=(I.hok c' _ hcr).1
 have ho:=(I.pin _ (List.mem_append_right _ (List.mem_append_left _ hf))).1
 have sub:∀ x a,(fH X.env scope.names []).lookup x=some a->X.env.cells.lookup x=some a:=fun x a e=>by
  rcases qL _ _ _ (PySem.mem_of_lookup e) with z | z
  ·exact absurd z (by simp)
  ·exact z
 have kin:∀ x,scope.names.lookup x=some .free->X.env.kindOf x=some .cell ∨ X.env.kindOf x=some .free:=fun x e=>S.free (x,.free) (PySem.mem_of_lookup e) rfl
 have has:∀ x a,scope.names.lookup x=some .free->X.env.cells.lookup x=some a->(fH X.env scope.names []).lookup x=some a:=fun x a e ec=>by
  obtain ⟨d,hd⟩:=jR (qW ec scope.names [] (PySem.mem_of_lookup e))
  have:=sub x d hd
  rw [ec] at this
  cases this
  exact hd
 have nocell:∀ x,scope.names.lookup x ≠ some .cell:=fun x e=>S.nocell _ (PySem.mem_of_lookup e) rfl
 refine wpAny_call (PySem.W.kla_callFunE hdep ho rfl hco hgen rfl hcd ?_)
 rw [hbind]
 refine wpAny_pure (wpAny_newFunctionEnv S.nocell (fun y hy=>?_) (fun h₁ hns hsb=>⟨?_,?_⟩) S.kind)
 ·rw [List.mem_singleton.mp hy]; exact hp
 ·exact I.nolimit.keeps fun b o e=>hsb.extBut b o (Nat.ne_of_lt (Heap.lt_size e)) (Heap.get?_push_of_some _ e)
 have old:∀ b o,s.heap.get? b=some o->h₁.get? b=some o:=fun b o e=>hsb.extBut b o (Nat.ne_of_lt (Heap.lt_size e)) (Heap.get?_push_of_some _ e)
 have okY:(Gh X A p M scope qual f c' s H).Ok:=by
  refine ⟨I.ok.mod,S.kind,rfl,rfl,Nat.le_refl _,fun x y a h1 h2=>I.ok.inj x y a (sub x a h1) (sub y a h2),fun x hx=>?_,(fun x a h=>nomatch h),fun _=>hd,Around.frames_deeper hA,.inr ⟨rfl,rfl⟩,(fun b hb'=>nomatch hb'),
   I.bs,Nat.le_trans I.ok.bsz I.sz,(fun b o e hb'=>nomatch hb'),(fun b hb'=>nomatch hb'),I.stack,I.stkFree⟩
  have hf:scope.names.lookup x=some .free:=by
   rcases hx with hx | hx
   ·exact absurd hx (nocell x)
   ·exact hx
  obtain ⟨a,ea⟩:=I.ok.has x (kin x hf)
  exact ⟨a,has x a hf ea⟩
 have IY:aX (Gh X A p M scope qual f c' s H) [] (some x :: σ) H { s with heap:=h₁,toks:=s.toks + [(p,u)].length }:=by
  refine ⟨okY,rfl,I.bare,Un.kept old,⟨_,hns,fun i y v e1 e2 e3=>?_⟩,fun y a e=>?_,I.hok.fresh (Nat.le_refl _),fun y a e=>I.freeC y a (sub y a e),(fun q hq=>nomatch hq),I.hok.kept old,?_⟩
  ·cases i with
   | zero =>
    have e1':some p=some y:=e1
    have e2':some (some x)=some (some v):=e2
    cases e1'
    cases e2'
    refine ⟨u,rx,.inl ⟨hp,?_⟩⟩
    show List.lookup p [(p,u)]=some u
    simp
   | succ i =>
    have e0:M[i]? = some y:=e1
    have e2':σ[i]? = some (some v):=e2
    have hf:scope.names.lookup y=some .free:=by
     rcases e3 with e3 | e3 | e3
     ·exact absurd e3 (nl.loc _ y e0)
     ·exact absurd e3 (nocell y)
     ·exact e3
    have hk:=kin y hf
    obtain ⟨m,hn,hl⟩:=I.loc
    obtain ⟨z,rz,lk⟩:=hl i y v (nl.free _ y e0 hf) e2' (hk.elim (fun z=>.inr (.inl z)) fun z=>.inr (.inr z))
    refine ⟨z,rz,.inr ⟨.inr hf,?_⟩⟩
    rcases lk with ⟨q,_⟩ | ⟨_,a,ea,o,eo,hdd⟩
    ·rcases hk with hk | hk <;> (rw [hk] at q; cases q)
    ·exact ⟨a,has y a hf ea,o,old a o eo,hdd⟩
  ·obtain ⟨v,o,eo,hdd⟩:=I.cell y a (sub y a e)
   exact ⟨v,o,old a o eo,hdd⟩
  ·show σ.length + 1=M.length + 1
   rw [I.len,nl.len]
 refine PySem.W.kla_codeExpr (wpAny_mono (hb f c' s H [] _ (some x :: σ) H _ IY h) (fun r s2 h2=>?_) fun _ _ z=>z.elim)
 obtain ⟨v,H2,J,rv,hv,hH⟩:=h2
 subst hv hH
 exact ⟨rv,I.call' (ch:=[]) J.os J.base J.hok J.bare (fun b hb'=>nomatch hb')⟩
end
end L2
namespace L2
open PySem PySem.Spec PyProof.Rows
def Pu (pos:Pos) (c':Addr):Array Value:=#[rawInt pos.line,rawInt pos.col,.ref c']
def Qn (P:Addr) (pos:Pos) (qual:Str) (c':Addr) (H:Hp):Prop:=H P=some (.tbl (Pu pos c')) /\ H c'=some (uR c' qual)
def eX (P:Addr) (pos:Pos) (qual:Str) (H:Hp):Prop:=H P=some (.tbl #[]) ∨ ∃ c',Qn P pos qual c' H
def cA (P:Addr) (H H':Hp):Prop:=∀ b o,b ≠ P->H b=some o->H' b=some o
theorem cA.refl {P:Addr} (H:Hp):cA P H H:=fun _ _ _ e=>e
theorem cA.trans {P:Addr}{H H1 H2:Hp} (a:cA P H H1) (b:cA P H1 H2):cA P H H2:=fun c o n e=>b c o n (a c o n e)
theorem aN.toT {P:Addr}{H H':Hp} (a:aN H H'):cA P H H':=fun b o _ e=>a b o e
theorem cA.free {P:Addr}{H H':Hp} (a:cA P H H') {l:Addr} (h:H' l=none) (hP:∃ ps,H' P=some (.tbl ps)):H l=none:=by
 cases q:H l with
 | none=>rfl
 | some o =>
  by_cases e:l=P
  ·obtain ⟨ps,z⟩:=hP
   rw [e,z] at h; cases h
  ·rw [a l o e q] at h; cases h
theorem cA.upd_new {P:Addr}{H H':Hp}{p:Addr} (s:cA P H H') (h:H p=none) (o:HO):cA P H (aU H' p o):=fun b u n q=>by rw [aL (aR q h)]; exact s b u n q
theorem eX.at_ {P:Addr}{pos:Pos}{qual:Str}{H:Hp} (t:eX P pos qual H):∃ ps,H P=some (.tbl ps):=by
 rcases t with t | ⟨c,t,_⟩
 ·exact ⟨_,t⟩
 ·exact ⟨_,t⟩
theorem cA.get {P:Addr}{pos:Pos}{qual:Str}{H H':Hp} (a:cA P H H') (t:eX P pos qual H) {b:Addr}{o:HO} (e:H b=some o) (n:∀ ps,o ≠ .tbl ps):H' b=some o:=by
 obtain ⟨ps,z⟩:=t.at_
 exact a b o (bJ e z (n ps)) e
theorem eX.same {P:Addr}{pos:Pos}{qual:Str}{H H':Hp} (t:eX P pos qual H) (s:aN H H'):eX P pos qual H':=by
 rcases t with t | ⟨c,t,u⟩
 ·exact .inl (s _ _ t)
 ·exact .inr ⟨c,s _ _ t,s _ _ u⟩
theorem cA.lst {K:PySem.W.Frag}{P:Addr}{pos:Pos}{qual:Str}{H H':Hp} (a:cA P H H') (t:eX P pos qual H) {b:Addr}{xs:List V} (h:bO K H b xs):bO K H' b xs:=by
 rcases h with (h | ⟨o,h⟩) | h
 ·exact .inl (.inl (a.get t h fun _ z=>nomatch z))
 ·exact .inl (.inr ⟨o,a.get t h fun _ z=>nomatch z⟩)
 ·exact .inr h
theorem Ht {h h':Heap}{mg:Str->Option Value}{P:Addr} (b:h.BuiltinsAt mg P) (k:∀ a o,h.get? a=some o->h'.get? a=some o):h'.BuiltinsAt mg P:=by
 obtain ⟨bm,o,b1,b2,b3,b4,b5,b6⟩:=b
 exact ⟨bm,o,b1,b2,b3,b4,k _ _ b5,b6⟩
theorem zE {c':Addr}{qual:Str}:∀ h1 h2:Heap,h1.CodeRec (.ref c') qual->(∀ o,h1.get? c'=some o->h2.get? c'=some o)->h2.CodeRec (.ref c') qual:=fun h1 h2 ⟨c,oc,vs,t,e,g,r⟩ k=>by
 cases e
 exact ⟨_,oc,vs,t,rfl,k _ g,r⟩
section
variable {X:Cx}{pins:List (Addr × Obj)}{σ : St}{H:Hp}{s:Shared}{E:Value->Shared->Prop}{c P:Addr}{pos:Pos}{params:Arguments}{body:Expr}{scope:Scope}{Q:Value->Shared->Prop}
theorem Ju (I:aX X pins σ H s) (hcode:X.env.code = .ref c) (C:PySem.W.CodeHd X.base c P) (B:X.base.BuiltinsAt X.mg P) (T:eX P pos (X.env.qual ++ "<lambda>") H) (S:bT X.env.scope scope) (hdef:defaultsOf params X.env=([],[]))
  (q:∀ f c' pm ctv H' s',cA P H H'->Qn P pos (X.env.qual ++ "<lambda>") c' H'->aX X (pins ++ [(f,PySem.W.kla_obj "<lambda>" (X.env.qual ++ "<lambda>") params body scope (fH X.env scope.names []) pm c' ctv)]) σ H' s'->Q (.ref f) s') :
  wpAny (model X.prog X.w) X.A (eval (.Lambda params body scope pos) X.env) Q E s:=by
 have hcl:=Ed S I.ok
 have hg:=I.ok.mod.glob.keeps I.bk
 have hB:=Ht B I.bk
 obtain ⟨ps0,hP0⟩:=T.at_
 have hgP:mainGlobals ≠ P:=fun z=>by
  obtain ⟨o,es,ep,e,_⟩:=I.ok.mod.glob
  have:=(I.bs _ o e).2
  rw [z,hP0] at this
  cases this
 refine PySem.W.kla_eval hdef ?_
 rcases T with T | ⟨c',T,U⟩
 ·have hP:s.heap.get? P=some (PySem.W.tabObj #[]):=I.hok P _ T
  refine PySem.W.kla_makeFunction (mg:=X.mg) hcl I.ok.glob hg hcode (C.keeps I.bk) hP trivial rfl hgP hB fun c' ctv h' tk hx hge hlt hrec htb=>?_
  have cn:H c'=none:=I.hok.fresh hge
  have cP:c' ≠ P:=Ne.symm (aR T cn)
  have new1:∀ b o,b ≠ P->s.heap.get? b=some o->(h'.push (PySem.W.kla_obj "<lambda>" (X.env.qual ++ "<lambda>") params body scope (fH X.env scope.names []) ((X.mg "__name__").getD .none) c' ctv)).get? b=some o:=fun b o hb e=>Heap.get?_push_of_some _ (hx b o hb e)
  have nP:∀ b,H b=none->b ≠ P:=fun b n z=>by rw [z,T] at n; cases n
  have ups:∀ b u,H b=some u->(∀ ps,u ≠ .tbl ps)->aU (aU H P (.tbl (Pu pos c'))) c' (uR c' (X.env.qual ++ "<lambda>")) b=some u:=fun b u e nt=>by
   rw [aL (aR e cn),aL (bJ e T (nt _))]; exact e
  have hfresh:H h'.objs.size=none:=I.hok.fresh (Nat.le_trans hge (Nat.le_of_lt hlt))
  have I1:aX X pins σ (aU (aU H P (.tbl (Pu pos c'))) c' (uR c' (X.env.qual ++ "<lambda>"))) { s with heap:=h'.push (PySem.W.kla_obj "<lambda>" (X.env.qual ++ "<lambda>") params body scope (fH X.env scope.names []) ((X.mg "__name__").getD .none) c' ctv),toks:=tk }:=by
   refine I.un (t':=tk) ⟨fun b o e n _ _=>new1 b o (nP b n) e,fun b o e n _ _=>⟨o.slots,new1 b o (nP b n) e⟩,fun b o e n _=>?_,fun b o e _=>?_,fun b xs e=>ups b _ e (fun _ z=>nomatch z),fun b o u e=>ups b _ e (fun _ z=>nomatch z),fun b ps e=>?_⟩ fun b u e=>?_
   ·rw [aL (Nat.ne_of_lt (Nat.lt_of_lt_of_le (Heap.lt_size e) hge)),aL (nP b n)]; exact n
   ·by_cases z:b=P
    ·rw [z]; exact ⟨_,Heap.get?_push_of_some _ htb⟩
    ·exact ⟨o,new1 b o z e⟩
   ·by_cases z:b=P
    ·rw [z,T] at e
     cases e
     refine ⟨Pu pos c',?_⟩
     rw [z,aL (Ne.symm cP),aB]
     simp
    ·exact ⟨#[],by rw [aL (aR e cn),aL z,e]; simp⟩
   ·by_cases z:b=c'
    ·subst z
     rw [aB] at e
     cases e
     obtain ⟨c2,oc,vs,t,e2,g2,r2⟩:=hrec
     cases e2
     exact ⟨⟨_,oc,vs,t,rfl,Heap.get?_push_of_some _ g2,r2⟩,⟨oc,Heap.get?_push_of_some _ g2⟩,zE⟩
    ·rw [aL z] at e
     by_cases z2:b=P
     ·subst z2
      rw [aB] at e
      cases e
      have q2:=Heap.get?_push_of_some (PySem.W.kla_obj "<lambda>" (X.env.qual ++ "<lambda>") params body scope (fH X.env scope.names []) ((X.mg "__name__").getD .none) c' ctv) htb
      rw [Array.empty_append] at q2
      exact q2
     ·rw [aL z2] at e
      refine (I.hok b u e).stay (fun d v hd r=>new1 d v ?_ r) (fun d r=>ups d _ r fun _ z=>nomatch z) fun d xs r=>ups d _ r fun _ z=>nomatch z
      rcases hd with z3 | z3
      ·rw [z3]; exact z2
      ·exact bJ z3 T fun z=>nomatch z
  refine q _ c' ((X.mg "__name__").getD .none) ctv _ _ (fun b o n e=>?_) ⟨?_,aB⟩ (I1.pins_of fun p hp=>?_)
  ·rw [aL (aR e cn),aL n]; exact e
  ·rw [aL (Ne.symm cP),aB]
  ·rcases List.mem_append.mp hp with z | z
   ·exact I1.pin p (List.mem_append_right _ z)
   ·rw [List.mem_singleton.mp z]
    have fp:=I.fpOk (H':=aU (aU H P (.tbl (Pu pos c'))) c' (uR c' (X.env.qual ++ "<lambda>"))) (b:=h'.objs.size) (Nat.le_trans hge (Nat.le_of_lt hlt)) (by rw [aL (Nat.ne_of_gt hlt),aL (nP _ hfresh)]; exact hfresh)
    exact ⟨Heap.get?_push_size _ rfl,fp.1,fp.2.1,fp.2.2.1,fun v z=>nomatch z⟩
 ·have hP:s.heap.get? P=some (PySem.W.tabObj (Pu pos c')):=I.hok P _ T
  have am:codeAmong pos (Pu pos c').toList=some (.ref c'):=by
   show codeAmong pos [rawInt pos.line,rawInt pos.col,.ref c']=some (.ref c')
   simp [codeAmong,rawInt]
  refine PySem.W.kla_makeFunctionHit (mg:=X.mg) hcl I.ok.glob hg hcode (C.keeps I.bk) hP trivial am hB fun ctv h' tk hk hsz=>?_
  have I1:aX X pins σ H { s with heap:=h'.push (PySem.W.kla_obj "<lambda>" (X.env.qual ++ "<lambda>") params body scope (fH X.env scope.names []) ((X.mg "__name__").getD .none) c' ctv),toks:=tk }:=I.kept (t':=tk) fun b o e=>Heap.get?_push_of_some _ (hk b o e)
  refine q _ c' ((X.mg "__name__").getD .none) ctv H _ (cA.refl H) ⟨T,U⟩ (I1.pins_of fun p hp=>?_)
  rcases List.mem_append.mp hp with z | z
  ·exact I1.pin p (List.mem_append_right _ z)
  ·rw [List.mem_singleton.mp z]
   have fp:=I.fpOk (H':=H) (b:=h'.objs.size) hsz (I.hok.fresh hsz)
   exact ⟨Heap.get?_push_size _ rfl,fp.1,fp.2.1,fp.2.2.1,fun v z=>nomatch z⟩
end
end L2
namespace L2
open PySem PySem.Spec PyProof.Rows
def QX (K:PySem.W.Frag) (P:Addr) (pos:Pos) (qual:Str) (tl tb:TE):TE:=fun σ H Q=>tl σ H fun x H1=>∃ (l:Addr) (qs:List Addr) (kz:List Int),x = .ref l /\ bO K H1 l (qs.map V.ref) /\ kz.length=qs.length /\ qs.length < 64 /\ eX P pos qual H1 ∧
 ∀ H2 c',cA P H1 H2->Qn P pos qual c' H2->(∀ (i:Nat) q k,qs[i]? = some q->kz[i]? = some k->tb (some (.ref q) :: σ) H2 fun r H'=>r = .int k /\ H'=H2) ∧
  ∀ D (ps:List (Int × Addr)),H2 D=none->ps.Perm (kz.zip qs)->ps.Pairwise (fun p q=>p.1 <= q.1)->Q (.ref D) (aU H2 D (.lst (ps.map fun p=>V.ref p.2)))
theorem Jh {X:Cx}{c P:Addr}{k:Nat}{p:Str}{M:List Str}{scope:Scope}{params:Arguments}{body e:Expr}{p0 pos lpos kpos:Pos}{tl tb:TE} (hr:fG k X.A) (hc:X.calm=true) (hg:Gl X "sorted") (hm:X.mg "sorted" = none)
  (hcode:X.env.code = .ref c) (C:PySem.W.CodeHd X.base c P) (B:X.base.BuiltinsAt X.mg P) (S:bT X.env.scope scope) (nl:NL X.N M scope) (hp:scope.names.lookup p=some .local) (hco:scope.isCoroutine=false) (hgen:scope.isGenerator=false)
  (he:PE X e tl) (hb:∀ A f c' s H,PE (Gh X A p M scope (X.env.qual ++ "<lambda>") f c' s H) body tb)
  (hdef:defaultsOf params X.env=([],[]):=by rfl)
  (hbind:∀ (cl:List (Str × Addr)) (pm cdv ctv u:Value),bindArgs (PySem.W.kla_fn "<lambda>" (X.env.qual ++ "<lambda>") params body scope cl pm cdv ctv) ⟨[u],[]⟩ = pure [(p,u)]:=by intro _ _ _ _ _; rfl)
  (hs:starEach [e] X.env=[(false,eval e X.env)]:=by rfl) :
  PE X (.Call (.Name "sorted" p0) [e] [⟨some "key",.Lambda params body scope lpos,kpos⟩] pos) (QX X.K P lpos (X.env.qual ++ "<lambda>") tl tb):=by
 intro pins s σ H Q I h
 refine wpAny_Call_Name_kw (qM I hg hm HD ?_ (by decide) (by decide))
 refine callWith_kw (d8 (aA he aC hs pos pins s σ H (fun vs H1=>∃ x,vs=[x] /\ ∃ (l:Addr) (qs:List Addr) (kz:List Int),x = .ref l /\ bO X.K H1 l (qs.map V.ref) /\ kz.length=qs.length /\ qs.length < 64 /\ eX P lpos (X.env.qual ++ "<lambda>") H1 ∧
  ∀ H2 c',cA P H1 H2->Qn P lpos (X.env.qual ++ "<lambda>") c' H2->(∀ (i:Nat) q k,qs[i]? = some q->kz[i]? = some k->tb (some (.ref q) :: σ) H2 fun r H'=>r = .int k /\ H'=H2) ∧
   ∀ D (ps:List (Int × Addr)),H2 D=none->ps.Perm (kz.zip qs)->ps.Pairwise (fun p q=>p.1 <= q.1)->Q (.ref D) (aU H2 D (.lst (ps.map fun p=>V.ref p.2)))) I ?_) fun us s1 ⟨vs,H1,I1,r1,x,ev,l,qs,kz,ex,hS,hlen,h64,hT,q1⟩=>?_) ?_ ?_ rfl rfl
 ·show tl σ H fun x H1=>_
  have mono:=h
  exact (show tl σ H fun x H1=>∃ x',[x]=[x'] /\ _ from by
   have e1:(fun (x:V) (H1:Hp)=>∃ x',[x]=[x'] /\ ∃ (l:Addr) (qs:List Addr) (kz:List Int),x' = .ref l /\ bO X.K H1 l (qs.map V.ref) /\ kz.length=qs.length /\ qs.length < 64 /\ eX P lpos (X.env.qual ++ "<lambda>") H1 ∧
  ∀ H2 c',cA P H1 H2->Qn P lpos (X.env.qual ++ "<lambda>") c' H2->(∀ (i:Nat) q k,qs[i]? = some q->kz[i]? = some k->tb (some (.ref q) :: σ) H2 fun r H'=>r = .int k /\ H'=H2) ∧
   ∀ D (ps:List (Int × Addr)),H2 D=none->ps.Perm (kz.zip qs)->ps.Pairwise (fun p q=>p.1 <= q.1)->Q (.ref D) (aU H2 D (.lst (ps.map fun p=>V.ref p.2))))=fun x H1=>∃ (l:Addr) (qs:List Addr) (kz:List Int),x = .ref l /\ bO X.K H1 l (qs.map V.ref) /\ kz.length=qs.length /\ qs.length < 64 /\ eX P lpos (X.env.qual ++ "<lambda>") H1 ∧
  ∀ H2 c',cA P H1 H2->Qn P lpos (X.env.qual ++ "<lambda>") c' H2->(∀ (i:Nat) q k,qs[i]? = some q->kz[i]? = some k->tb (some (.ref q) :: σ) H2 fun r H'=>r = .int k /\ H'=H2) ∧
   ∀ D (ps:List (Int × Addr)),H2 D=none->ps.Perm (kz.zip qs)->ps.Pairwise (fun p q=>p.1 <= q.1)->Q (.ref D) (aU H2 D (.lst (ps.map fun p=>V.ref p.2))):=by
    funext x H1
    refine propext ⟨?_,?_⟩
    ·rintro ⟨x',z,r⟩
     injection z with z
     subst z
     exact r
    ·intro r
     exact ⟨x,rfl,r⟩
   rw [e1]
   exact mono)
 ·subst ev ex
  obtain ⟨u,rfl,ru⟩:=jW r1
  cases (show u=Value.ref l from ru)
  show wpAny _ _ (evalAll [do let v <- eval (.Lambda params body scope lpos) X.env; standAt pos; pure v]) _ _ s1
  refine wpAny_evalAll_cons (wpAny_bind (Ju I1 hcode C B hT S hdef fun f c' pm ctv H2 s2 st hit I2=>wpAny_bind (wpAny_standAt (wpAny_pure (wpAny_evalAll_nil ?_)))))
  obtain ⟨q2,q3⟩:=q1 H2 c' st hit
  have fin:=K9 (E:=X.xe) (Q:=Q) (fa:=f) (kz:=kz) I2 (cA.lst st hT hS) hlen h64 (fun i q k eq ek=>Mh (A:=X.A.in1.in1) I2.ok.frames (I2.ok.hd hc) hr.depth S nl hp hco hgen hbind (hb X.A.in1.in1) (x:=.ref q) rfl (List.mem_append_right _ (.head _)) hit.2 (q2 i q k eq ek)) fun D ps hD hp hs=>q3 D ps hD hp hs
  exact d8 fin fun r s3 ⟨v,H3,I3,rv,qv⟩=>⟨v,H3,I3.unpinned,rv,qv⟩
 ·show backTo pos (starEach [e] X.env)=(false,eval e X.env) :: _
  rw [hs]
  rfl
 ·rw [hs]
  rfl
theorem eN.okc {P:Program}{w:World}{K:PySem.W.Frag}{mg:Str->Option Value}{base:Heap}{x qual:Str}{st:Stmt}{f c:Addr}{fd:FuncData}{N ps:List Str}{k:Nat}{sp:Sp} (F:eN K x qual st f fd) (hc:fd.code = .ref c) (S:aO N ps (aK st)) (len:∀ vs H Q E,sp vs H Q E->vs.length=ps.length)
  (hbody:∀ (A:Around) (outer:List Env) (s:Shared) (H:Hp) (vs:List V) (Q:VK) (E:XK),fG k (A.deeper (envOfC qual (aK st) s.heap.objs.size f (.ref c)))->sp vs H Q E ->
   ∃ t,oZ (pA dM P w K mg base N qual (aK st) f (.ref c) A outer s H E).nox (eZ st) t /\ t { nx:=fun _ H'=>Q .non H',rt:=Q } (start N vs) H):aP P w K mg base dM (k + 1) f fd ps sp:=by
 obtain ⟨oc,od,kV,doc,pm,an,cdv,ct,osl,rfl,lk,hcd⟩:=F.ex
 cases (show cdv=Value.ref c from hc)
 refine Ey lk hcd S len fun A outer s H vs Q E hr hsp=>?_
 obtain ⟨t,h,q⟩:=hbody A outer s H vs Q E hr hsp
 exact ⟨t,h.nox,q⟩
end L2
namespace L2
open PySem PySem.W
def ev {α : Type}:List α->List α
 | []=>[]
 | [a]=>[a]
 | a :: _ :: r=>a :: ev r
def od {α : Type}:List α->List α
 | []=>[]
 | [_]=>[]
 | _ :: b :: r=>b :: od r
def bt:Nat->List Obj->BT
 | 0,_=>.nil
 | _ + 1,[]=>.nil
 | n + 1,o :: r=>.node o (bt n (ev r)) (bt n (od r))
def Hc (l:List Obj):List (Nat × Obj)->List Obj
 | []=>l
 | p :: r=>Hc (l.set p.1 p.2) r
noncomputable def yG (T:BT) (n k:Nat) (os:OsState):SharedT:=⟨T,n,{},Array.mk [],boot_drawn,k,os⟩
theorem pZ {tb:String->Option Builtin}{p:Program}{w:World}{m0:Nat}{ann:Option Value}{env:Env}{q:Pos}{n N:Nat}{s s':SharedT}{r:Shared}{l j4:List Stmt}{c:Code}{pos p':Pos}
  (h:segRunT tb p w m0 ann 1 n s (piecesOf l env c pos [topFrame q])=some (.next,s',c,p')) (k:topRun tb p w m0 ann N s'.abs (restOf j4 env c p' [topFrame q])=some r):topRun tb p w m0 ann (n + N) s.abs (restOf (l ++ j4) env c pos [topFrame q])=some r :=
 piece_app (segRun_of h) k
theorem Ib {p q:Program}{loose:List Str}{Xt:Shared->Bool}{α : Type}{Yf:Shared->α}{Ya:World->α}{N:Nat}{Tb Tf:Params->BT}{nb nf ka kf:Nat}{env:Env}{C:Code}{gs:List Stmt}{posA posB qp:Pos}{m0:Nat}{ann:Option Value}{a b c:Nat}
  (e1:opening p=plainProg p.main.scope.names) (h6:Nat.ble 600 N=true) (e2:∀ s,fenceModules? p s=some s)
  (size:∀ w:World,((boot_heap w.params).isNs mainGlobals && (Array.mk []:Array GenState).size == 0,(boot_heap w.params).objs.size,(boot_heap w.params).nsMap mainGlobals "__annotations__")=(true,m0,ann))
  (pre:∀ (w:World) (os:OsState),topGo treeTable p w m0 ann a ⟨boot_heap w.params,Array.mk [],boot_drawn,boot_toks,os⟩ (topStub p)=some ((yG (Tb w.params) nb ka os).abs,⟨denote treeTable (.body gs env),C,posA,[topFrame qp]⟩))
  (blk:∀ (w:World) (os:OsState),segRun treeTable p w m0 ann 1 b (yG (Tb w.params) nb ka os).abs (blockOf gs env C posA [topFrame qp])=some (.next,(yG (Tb w.params) nb ka os).abs,C,posB))
  (run:∀ (w:World) (os:OsState),topRun treeTable p w m0 ann c (yG (Tb w.params) nb ka os).abs (restOf gs env C posB [topFrame qp])=some (yG (Tf w.params) nf kf os).abs)
  (le:Nat.ble (a + (b + c)) N=true)
  (looks:∀ w:World,(fun os=>((staticsOk (importedModules p.main.body) (boot_heap w.params) (absHeap (Tf w.params) nf {}) && namesBound p (absHeap (Tf w.params) nf {}) && gensDone ⟨absHeap (Tf w.params) nf {},Array.mk [],boot_drawn,kf,os⟩ && laidKept (boot_heap w.params) (absHeap (Tf w.params) nf {})),
    openSeen q loose (importedModules p.main.body) Xt true ⟨absHeap (Tf w.params) nf {},Array.mk [],boot_drawn,kf,os⟩,Yf ⟨absHeap (Tf w.params) nf {},Array.mk [],boot_drawn,kf,os⟩))=fun _=>(true,openGood q loose,Ya w)):LeftO p q loose Xt Yf Ya N :=
 LeftO.of_pieces (H₁:=fun P=>absHeap (Tf P) nf {}) (boot_open e1 h6 e2) size (fun w os=>go_top (pre w os) (piece_block (blk w os) (run w os))) le looks
end L2
namespace L2
open PySem PySem.Spec PyProof.Rows
inductive DE (K:PySem.W.Frag) (H:Hp):Nat->V->V->Bool->Prop
 | int (n:Nat) (i j:Int):DE K H n (.int i) (.int j) (i == j)
 | bl (n:Nat) (i j:Bool):DE K H n (.bl i) (.bl j) (i == j)
 | str (n:Nat) (i j:Str):DE K H n (.str i) (.str j) (i == j)
 | tup {n:Nat}{a b:Addr}{xs ys:List V} (e:Nat->Bool) (ha:cN K H a xs) (hb:cN K H b ys) (h:∀ (j:Nat) x y,xs[j]? = some x->ys[j]? = some y->DE K H n x y (e j)) :
   DE K H (n + 1) (.ref a) (.ref b) ((List.range (min xs.length ys.length)).all e && xs.length == ys.length)
 | lst {n:Nat}{a b:Addr}{xs ys:List V} (e:Nat->Bool) (ha:bO K H a xs) (hb:bO K H b ys) (hl:xs.length=ys.length) (h:∀ (j:Nat) x y,xs[j]? = some x->ys[j]? = some y->DE K H n x y (e j)) :
   DE K H (n + 1) (.ref a) (.ref b) ((List.range xs.length).all e)
 | lstN {n:Nat}{a b:Addr}{xs ys:List V} (ha:bO K H a xs) (hb:bO K H b ys) (hl:xs.length ≠ ys.length):DE K H (n + 1) (.ref a) (.ref b) false
section
variable {X:Cx}{pins:List (Addr × Obj)}{σ : St}{H:Hp}{s:Shared}
theorem DE.self (I:aX X pins σ H s) {n:Nat}{x y:V}{k:Bool} (d:DE X.K H n x y k):x=y->k=true:=by
 induction d with
 | int n i j=>intro e; cases e; simp
 | bl n i j=>intro e; cases e; simp
 | str n i j=>intro e; cases e; simp
 | @tup n a b xs ys e ha hb h ih =>
  intro z
  cases z
  have q:=I.tuple_inj ha hb
  subst q
  rw [Bool.and_eq_true]
  refine ⟨List.all_eq_true.mpr fun j hj=>?_,by simp⟩
  rw [List.mem_range,Nat.min_self] at hj
  exact ih j _ _ (List.getElem?_eq_getElem hj) (List.getElem?_eq_getElem hj) rfl
 | @lst n a b xs ys e ha hb hl h ih =>
  intro z
  cases z
  have q:=I.list_inj ha hb
  subst q
  refine List.all_eq_true.mpr fun j hj=>?_
  rw [List.mem_range] at hj
  exact ih j _ _ (List.getElem?_eq_getElem hj) (List.getElem?_eq_getElem hj) rfl
 | @lstN n a b xs ys ha hb hl =>
  intro z
  cases z
  exact absurd (congrArg List.length (I.list_inj ha hb)) hl
theorem fZ {xs:List V}{its:List Value} (r:bI xs its) {j:Nat} (hj:j < its.length):∃ x,xs[j]? = some x /\ bG x its[j]:=by
 have hl:=r.length
 obtain ⟨u,hu,ru⟩:=r.get (List.getElem?_eq_getElem (l:=xs) (i:=j) (by omega))
 rw [List.getElem?_eq_getElem hj] at hu
 cases hu
 exact ⟨_,List.getElem?_eq_getElem (by omega),ru⟩
theorem gW (A:Around):A.in1.units=A.units + 1:=rfl
theorem DE.eqAt (I:aX X pins σ H s) {n:Nat}{x y:V}{k:Bool} (d:DE X.K H n x y k):∀ (A:Around) (u v:Value),A.units + n < cLine->bG x u->bG y v->PySem.SeqAt.EqAt A s u v k:=by
 induction d with
 | int n i j =>
  intro A u v _ ru rv
  obtain ⟨t,rfl⟩:=ru
  obtain ⟨t',rfl⟩:=rv
  exact PySem.SeqAt.EqAt.int_int _ _ _ _
 | bl n i j =>
  intro A u v _ ru rv
  cases (show u=Value.bool i from ru)
  cases (show v=Value.bool j from rv)
  exact PySem.SeqAt.EqAt.bool_bool _ _
 | str n i j =>
  intro A u v _ ru rv
  obtain ⟨t,rfl⟩:=ru
  obtain ⟨t',rfl⟩:=rv
  exact PySem.SeqAt.EqAt.str_str _ _ _ _
 | @tup n a b xs ys e ha hb h ih =>
  intro A u v hu ru rv
  cases (show u=Value.ref a from ru)
  cases (show v=Value.ref b from rv)
  by_cases hab:a=b
  ·have q:=(DE.tup e ha hb h).self I (by rw [hab])
   rw [q]
   subst hab
   exact PySem.SeqAt.EqAt.same _
  ·obtain ⟨its,r1,p1,_⟩:=I.tuple ha
   obtain ⟨its2,r2,p2,_⟩:=I.tuple hb
   refine PySem.SeqAt.EqAt.of_refs hab ?_
   have q:=PySem.SeqAt.RcAt.tuples (A:=A) (e:=e) (show s.heap.IsTuple a its.toArray from p1) (show s.heap.IsTuple b its2.toArray from p2) (by omega) (fun j h1 h2=>by
    obtain ⟨x,ex,rx⟩:=fZ r1 (j:=j) (by simpa using h1)
    obtain ⟨y,ey,ry⟩:=fZ r2 (j:=j) (by simpa using h2)
    rw [List.getElem_toArray,List.getElem_toArray]
    exact ih j x y ex ey A.in1 _ _ (by rw [gW]; omega) rx ry)
   rw [List.size_toArray,List.size_toArray,<- r1.length,<- r2.length] at q
   exact q
 | @lst n a b xs ys e ha hb hl h ih =>
  intro A u v hu ru rv
  cases (show u=Value.ref a from ru)
  cases (show v=Value.ref b from rv)
  by_cases hab:a=b
  ·have q:=(DE.lst e ha hb hl h).self I (by rw [hab])
   rw [q]
   subst hab
   exact PySem.SeqAt.EqAt.same _
  ·obtain ⟨its,r1,p1,_⟩:=I.list ha
   obtain ⟨its2,r2,p2,_⟩:=I.list hb
   refine PySem.SeqAt.EqAt.of_refs hab ?_
   have q:=PySem.SeqAt.RcAt.lists (A:=A) (e:=e) p1.isList p2.isList (by rw [List.size_toArray,List.size_toArray,<- r1.length,<- r2.length]; exact hl) (by omega) (fun j h1 h2=>by
    obtain ⟨x,ex,rx⟩:=fZ r1 (j:=j) (by simpa using h1)
    obtain ⟨y,ey,ry⟩:=fZ r2 (j:=j) (by simpa using h2)
    rw [List.getElem_toArray,List.getElem_toArray]
    exact ih j x y ex ey A.in1 _ _ (by rw [gW]; omega) rx ry)
   rw [List.size_toArray,<- r1.length] at q
   exact q
 | @lstN n a b xs ys ha hb hl =>
  intro A u v hu ru rv
  cases (show u=Value.ref a from ru)
  cases (show v=Value.ref b from rv)
  have hab:a ≠ b:=fun z=>by subst z; exact hl (congrArg List.length (I.list_inj ha hb))
  obtain ⟨its,r1,p1,_⟩:=I.list ha
  obtain ⟨its2,r2,p2,_⟩:=I.list hb
  refine PySem.SeqAt.EqAt.of_refs hab (PySem.SeqAt.RcAt.lists_lengths p1.isList p2.isList ?_ (by omega))
  rw [List.size_toArray,List.size_toArray,<- r1.length,<- r2.length]
  simpa using hl
def aCk (K:PySem.W.Frag) (n:Nat):R2:=fun x y H Q=>∃ a b k,x = .ref a /\ y = .ref b /\ DE K H (n + 1) x y k /\ Q (.bl k) H
theorem QG {n:Nat} (hu:X.A.units + n + 1 < cLine):nY X (compareOp .Eq) (aCk X.K n):=by
 intro pins s σ H x y v u Q I rx ry h
 obtain ⟨a,b,k,rfl,rfl,d,q⟩:=h
 cases (show v=Value.ref a from rx)
 cases (show u=Value.ref b from ry)
 cases d with
 | @tup n a b xs ys e ha hb h =>
  obtain ⟨its,r1,p1,_⟩:=I.tuple ha
  obtain ⟨its2,r2,p2,_⟩:=I.tuple hb
  refine PySem.SeqAt.eq_tupleAt (e:=e) (show s.heap.IsTuple a its.toArray from p1) (show s.heap.IsTuple b its2.toArray from p2) (by omega) (fun j h1 h2=>by
    obtain ⟨x,ex,rx⟩:=fZ r1 (j:=j) (by simpa using h1)
    obtain ⟨y,ey,ry⟩:=fZ r2 (j:=j) (by simpa using h2)
    rw [List.getElem_toArray,List.getElem_toArray]
    exact (h j x y ex ey).eqAt I X.A.in1 _ _ (by rw [gW]; omega) rx ry) ?_
  rw [List.size_toArray,List.size_toArray,<- r1.length,<- r2.length]
  exact ⟨.bl _,H,I,rfl,q⟩
 | @lst n a b xs ys e ha hb hl h =>
  obtain ⟨its,r1,p1,_⟩:=I.list ha
  obtain ⟨its2,r2,p2,_⟩:=I.list hb
  refine PySem.SeqAt.eq_listAt (e:=e) p1.isList p2.isList (by rw [List.size_toArray,List.size_toArray,<- r1.length,<- r2.length]; exact hl) (by omega) (fun j h1 h2=>by
    obtain ⟨x,ex,rx⟩:=fZ r1 (j:=j) (by simpa using h1)
    obtain ⟨y,ey,ry⟩:=fZ r2 (j:=j) (by simpa using h2)
    rw [List.getElem_toArray,List.getElem_toArray]
    exact (h j x y ex ey).eqAt I X.A.in1 _ _ (by rw [gW]; omega) rx ry) ?_
  rw [List.size_toArray,<- r1.length]
  exact ⟨.bl _,H,I,rfl,q⟩
 | @lstN n a b xs ys ha hb hl =>
  obtain ⟨its,r1,p1,_⟩:=I.list ha
  obtain ⟨its2,r2,p2,_⟩:=I.list hb
  exact PySem.SeqAt.eq_list_lengthsAt p1.isList p2.isList (by rw [List.size_toArray,List.size_toArray,<- r1.length,<- r2.length]; simpa using hl) (by omega) ⟨.bl _,H,I,rfl,q⟩
end
end L2
namespace L2
open PySem PySem.Spec PyProof.Rows
section
variable {X:Cx}
theorem mL (hc:X.calm=true):iM X (.builtin "sum") (fun xs H Q=>∃ (a:Addr) (ns:List Int),xs=[.ref a] /\ bO X.K H a (ns.map V.int) /\ Q (.int ns.sum) H):=by
 intro pins s σ H xs us Q I r h
 obtain ⟨a,ns,rfl,hS,q⟩:=h
 obtain ⟨u,rfl,ru⟩:=jW r
 cases (show u=Value.ref a from ru)
 obtain ⟨its,rv,p,hz⟩:=I.list hS
 have hi:=uD rv
 obtain ⟨zs,e⟩:=(IntsAre.allInts hi).items
 have hl:=p.isList
 rw [e] at hl
 refine sum_intListG (I.ok.hd hc) hl fun h' tk t' hk=>⟨.int ns.sum,H,I.kept hk,⟨t',?_⟩,q⟩
 have n1:=nums_intItems (xs:=zs)
 rw [<- e,show its.toArray.toList=its from rfl,IntsAre.numsOf hi] at n1
 rw [preSum_eq,List.take_of_length_le (by simp),<- n1]
section
variable {prog:Program}{w:World}{A:Around}{E:Value->Shared->Prop}{s:Shared}{d it:Addr}{od:Obj}{es:Array DictEntry}{ep i:Nat}
theorem yC {Q:Value->Shared->Prop} (hd:(d == sysModules)=false) (ho:s.heap.get? d=some od) (hx:od.ExactDict) (hdat:od.data = .dict es ep)
  (hQ:Q (.ref s.heap.objs.size) { s with heap:=s.heap.push { cls:=.type "dict_keyiterator",data:=.fields #[.ref d,.int 0 0,.int es.size 0,.int ep 0] } }) :
  wpAny (model prog w) A (pyIter (.ref d)) Q E s:=by
 have ty:s.TypeIs (.ref d) "dict":=⟨od,ho,hx.1⟩
 apply wpAny_pyIter_slot ty F.slot_dict_iter
 refine wpAny_call_entry F.slot_dict_iter ty F.entry_dict_iter ?body (F.args_dict_iter_1 _)
 case body =>
  unfold Builtin.«dict.__iter__»
  apply wpAny_bind
  unfold Builtin.Dict.dictSlotNone
  refine wpAny_bind (wpAny_notOrdered_dict ty (wpAny_pure (a:=Value.ref d) ?_))
  show wpAny _ _ (Builtin.Dict.showsAll d >>= fun _=>_) _ _ s
  unfold Builtin.Dict.showsAll
  rw [hd,if_neg Bool.false_ne_true]
  refine wpAny_bind (wpAny_pure (wpAny_bind (wpAny_dictEntries ho hdat (wpAny_bind (wpAny_dictEpoch ho hdat ?_)))))
  refine wpAny_bind (wpAny_newObj_type (wpAny_pure ⟨_,rfl,"dict_keyiterator",_,⟨_,Heap.get?_push_size _ rfl,rfl⟩,F.slot_dict_keyiterator_next.lookup,?_⟩))
  simpa only [rawInt] using hQ
theorem wN {e:DictEntry}{Q:Option Value->Shared->Prop} (hit:s.heap.IsKeyIter it d i es.size ep) (ho:s.heap.get? d=some od) (hdat:od.data = .dict es ep) (hx:es[i]? = some e)
  (hQ:∀ h',h'.IsKeyIter it d (i + 1) es.size ep->Heap.SameBut it s.heap h'->Q (some e.key) { s with heap:=h' }):wpAny (model prog w) A (pyNext (.ref it)) Q E s:=by
 obtain ⟨oi,hoi,hci,hdi⟩:=id hit
 have ty:=hit.typeIs
 have own:Builtin.Dict_items.ownsTuple "dict_keyiterator" = false:=by decide
 unfold pyNext
 apply wpAny_bind
 apply wpAny_attempt
 refine wpAny_callSpecial?_slot (name:=Str.ofString "__next__") ty F.slot_dict_keyiterator_next ?call
 case call =>
  refine wpAny_call_entry F.slot_dict_keyiterator_next ty F.entry_dict_keyiterator_next ?body (F.args_dict_keyiterator_next_1 _)
  case body =>
   refine wpAny_bind (wpAny_pure (wpAny_bind (wpAny_bind ?_)))
   refine wpAny_bind (wpAny_typeNameOfWhole_keyiter ty (wpAny_pure (wpAny_bind (wpAny_fieldsOf hoi hdi ?_))))
   simp only [own,Bool.false_eq_true,if_false]
   show wpAny _ _ (if (Value.ref d == Value.none)=true then _ else _) _ _ s
   rw [if_neg (fun z:(Value.ref d == Value.none)=true=>Bool.false_ne_true z)]
   refine wpAny_bind (wpAny_pure (wpAny_bind (wpAny_dictEntries ho hdat ?_)))
   rw [if_neg (by simp)]
   refine wpAny_bind (wpAny_pure (wpAny_bind (wpAny_dictEpoch ho hdat ?_)))
   rw [if_neg (by simp)]
   apply wpAny_pure
   have neg:¬ ((i:Int) < 0):=by omega
   simp only [neg,if_false,Int.toNat_natCast,hx]
   refine wpAny_bind (wpAny_bind (wpAny_typeNameOfWhole_keyiter ty (wpAny_pure (wpAny_bind (wpAny_isOneOf_keyiter ty ?_)))))
   show wpAny _ _ (setField (.ref it) 1 (rawInt ((i:Int) + 1)) >>= fun _=>_) _ _ s
   refine wpAny_bind (wpAny_setField hoi hdi (by simp) ?_)
   have nx:(s.heap.update it (Obj.mapFields (·.setIfInBounds 1 (rawInt ((i:Int) + 1))))).IsKeyIter it d (i + 1) es.size ep :=
    ⟨_,Heap.get?_update_self _ hoi (Obj.isFreed_of_fields (Obj.data_mapFields hdi _)),(Obj.cls_mapFields ..).trans hci,by rw [Obj.data_mapFields hdi]; simp [rawInt]⟩
   refine wpAny_bind (wpAny_holding (wpAny_bind (wpAny_isOneOf_keyiter (s:={ s with heap:=s.heap.update it (Obj.mapFields (·.setIfInBounds 1 (rawInt ((i:Int) + 1)))) }) nx.typeIs ?_)))
   show wpAny _ _ (pure e.key) _ _ _
   exact wpAny_pure (wpAny_pure ⟨_,rfl,wpAny_pure (hQ _ nx (Heap.SameBut.update ..))⟩)
theorem Bw {Q:Option Value->Shared->Prop} (hh:A.handled=none) (hit:s.heap.IsKeyIter it d i es.size ep) (ho:s.heap.get? d=some od) (hdat:od.data = .dict es ep) (hx:es.size <= i)
  (hQ:∀ h',Heap.ExtBut it s.heap h'->Q none { s with heap:=h' }):wpAny (model prog w) A (pyNext (.ref it)) Q E s:=by
 obtain ⟨oi,hoi,hci,hdi⟩:=id hit
 have ty:=hit.typeIs
 have own:Builtin.Dict_items.ownsTuple "dict_keyiterator" = false:=by decide
 unfold pyNext
 apply wpAny_bind
 apply wpAny_attempt
 refine wpAny_callSpecial?_slot (name:=Str.ofString "__next__") ty F.slot_dict_keyiterator_next ?call
 case call =>
  refine wpAny_call_entry F.slot_dict_keyiterator_next ty F.entry_dict_keyiterator_next ?body (F.args_dict_keyiterator_next_1 _)
  case body =>
   refine wpAny_bind (wpAny_pure (wpAny_bind (wpAny_bind ?_)))
   refine wpAny_bind (wpAny_typeNameOfWhole_keyiter ty (wpAny_pure (wpAny_bind (wpAny_fieldsOf hoi hdi ?_))))
   simp only [own,Bool.false_eq_true,if_false]
   show wpAny _ _ (if (Value.ref d == Value.none)=true then _ else _) _ _ s
   rw [if_neg (fun z:(Value.ref d == Value.none)=true=>Bool.false_ne_true z)]
   refine wpAny_bind (wpAny_pure (wpAny_bind (wpAny_dictEntries ho hdat ?_)))
   rw [if_neg (by simp)]
   refine wpAny_bind (wpAny_pure (wpAny_bind (wpAny_dictEpoch ho hdat ?_)))
   rw [if_neg (by simp)]
   apply wpAny_pure
   have neg:¬ ((i:Int) < 0):=by omega
   simp only [neg,if_false,Int.toNat_natCast,Array.getElem?_eq_none hx]
   refine wpAny_bind (wpAny_bind (wpAny_typeNameOfWhole_keyiter ty (wpAny_pure ?_)))
   show wpAny _ _ (setField (.ref it) 0 .none >>= fun _=>_) _ _ s
   refine wpAny_bind (wpAny_setField hoi hdi (by simp) ?_)
   show wpAny _ _ (newExc (.type "StopIteration") [] >>= fun _=>_) _ _ _
   apply wpAny_bind
   simp only [newExc,newTuple]
   refine wpAny_bind (wpAny_newObj_type (wpAny_bind (m:=firstArgMember _ _) (wpAny_of_eq (a:=Value.none) (by first | rfl | (simp only [firstArgMember]; rfl)) (wpAny_newObj_type ?_ (by size_fits)))) (by size_fits))
   simp only [raiseNew]
   refine wpAny_bind (wpAny_handled ?_)
   rw [show A.in1.handled=Option.none from hh]
   refine wpAny_bind (wpAny_pure (wpAny_throw ?thr))
   apply wpAny_bind
   refine wpAny_isInstance (T:="StopIteration") (b:=true) ⟨_,Heap.get?_push_size _ rfl,rfl⟩ isSubtype_stop ?ends
   exact wpAny_pure (hQ _ (((Heap.SameBut.update ..).extBut.push _).push _))
end
def Pr (a:Addr) (o:Obj) (kvs:List (List dG × V)):It :=
 ⟨fun i H=>H a=some (.frz o (.dT kvs)) /\ i < kvs.length,fun i H x H'=>H'=H /\ ∃ k v q,kvs[i]? = some (k,v) /\ x = .ref q /\ H q=some (.tup (k.map kV)),fun i H=>H a=some (.frz o (.dT kvs)) /\ kvs.length <= i⟩
theorem Eg {P:Program}{w:World}{H:Hp}{h:Heap}{a:Addr}{o:Obj}{kvs:List (List dG × V)} (ok:mY P w H h) (e:H a=some (.frz o (.dT kvs))) :
  h.get? a=some o /\ o.ExactDict /\ ∃ es ep,o.data = .dict es ep /\ es.size=kvs.length /\ ∀ (i:Nat) k v,kvs[i]? = some (k,v)->∃ q ent,es[i]? = some ent /\ ent.key = .ref q /\ H q=some (.tup (k.map kV)):=by
 obtain ⟨e1,z,y,xs,r,ob,es,ep,e2,ex,hd,he,nd⟩:=ok a _ e
 rw [e1] at e2
 cases e2
 have hl:kvs.length=xs.length:=Paired.length r
 refine ⟨e1,ex,es,ep,hd,?_,fun i k v hk=>?_⟩
 ·rw [<- Array.length_toList,he,List.length_map,hl]
 ·have get:∀ {l1:List (List dG × V)}{l2:List (List dG × Addr × Value)}{i:Nat}{k:List dG}{v:V},Paired (fun (p:List dG × V) (q:List dG × Addr × Value)=>p.1=q.1 /\ H q.2.1=some (.tup (p.1.map kV)) /\ bG p.2 q.2.2) l1 l2->l1[i]? = some (k,v) ->
    ∃ q:List dG × Addr × Value,l2[i]? = some q /\ H q.2.1=some (.tup (k.map kV)):=by
   intro l1 l2 i k v r
   induction r generalizing i with
   | nil=>intro z; simp at z
   | cons h t ih =>
    intro z
    cases i with
    | zero=>simp at z; subst z; exact ⟨_,rfl,h.2.1⟩
    | succ j=>exact ih (by simpa using z)
  obtain ⟨q,hq,ht⟩:=get r hk
  refine ⟨q.2.1,entryOfKey (tupleKind (dZ P w)) q,?_,rfl,ht⟩
  rw [<- Array.getElem?_toList,he,List.getElem?_map,hq]
  rfl
theorem Gp {P:Program}{w:World}{K:PySem.W.Frag}{tg:Expr} (a it:Addr) (o:Obj) (kvs:List (List dG × V)) (es:Array DictEntry) (ep:Nat) (hd:o.data = .dict es ep) :
  De P w K tg (Pr a o kvs) [it] it (fun i h=>h.IsKeyIter it a i es.size ep) where
 mem:=by simp
 obj:=fun i h st b hb=>by
  have e:b=it:=by simpa using hb
  subst e
  obtain ⟨o,e,c,d⟩:=st
  exact ⟨o,e,fun v z=>by rw [d] at z; cases z⟩
 keep:=fun i h h' st k=>st.at fun o e=>k it (by simp) o e
 item:=by
  intro X hP hw hK hc i pins s σ H E I hf st hg
  subst hP hw hK
  obtain ⟨hH,hi⟩:=hg
  obtain ⟨e1,ex,es',ep',hd',hsz,get⟩:=Eg I.hok hH
  rw [hd] at hd'
  cases hd'
  obtain ⟨q,ent,hent,hkey,ht⟩:=get i _ _ (List.getElem?_eq_getElem hi)
  obtain ⟨f0,f1,f2,f3,f4,f5⟩:=hf it (by simp)
  refine wN st e1 hd hent fun h' st' sb=>?_
  have I1:aX X pins σ H { s with heap:=h' }:=I.turned (t':=s.toks) (fun b o hb e=>(sb.2 b hb).trans e) f0 f1 f3 f4 f5
  obtain ⟨oo,e,c,d⟩:=id st'
  exact ⟨_,rfl,BK (s:={ s with heap:=h' }) e c d (by decide) ⟨.ref q,H,I1,hkey,⟨rfl,_,_,q,List.getElem?_eq_getElem hi,rfl,ht⟩,st',fun b hb=>(hf b hb).1⟩⟩
 done:=by
  intro X hP hw hK hc i pins s σ H E I hf st hg
  subst hP hw hK
  obtain ⟨hH,hi⟩:=hg
  obtain ⟨e1,ex,es',ep',hd',hsz,get⟩:=Eg I.hok hH
  rw [hd] at hd'
  cases hd'
  obtain ⟨f0,f1,f2,f3,f4,f5⟩:=hf it (by simp)
  exact Bw (I.ok.hd hc) st e1 hd (by omega) fun h' eb=>⟨rfl,I.turned (t':=s.toks) (fun b o hb e=>eb b o hb e) f0 f1 f3 f4 f5⟩
 self:=fun _ _ _ _ _ st h=>wpAny_pyIter_keyiter st h
theorem aX.freeze {pins:List (Addr × Obj)}{σ : St}{H:Hp}{s:Shared}{a:Addr}{kvs:List (List dG × V)} (I:aX X pins σ H s) (e:H a=some (.dT kvs)):∃ o,s.heap.get? a=some o /\ aX X pins σ (aU H a (.frz o (.dT kvs))) s:=by
 have ok:=I.hok a _ e
 obtain ⟨z,y,xs,r,ob,es,ep,e2,c⟩:=id ok
 refine ⟨ob,e2,?_⟩
 refine I.write (x:=a) (e:=a) (h':=s.heap) (t':=s.toks) (by rw [e]; exact trivial) (.inl rfl) (fun _ _ _ q=>q) ⟨_,e2⟩ ⟨e2,?_⟩
 refine ok.stay (fun _ _ _ q=>q) (fun b q=>?_) fun b ys q=>?_
 ·rw [aL (fun w=>by rw [w,e] at q; cases q)]; exact q
 ·rw [aL (fun w=>by rw [w,e] at q; cases q)]; exact q
def Sq (tl:TE):TI:=fun σ H R=>tl σ H fun x H1=>∃ a kvs,x = .ref a /\ ((H1 a=some (.dT kvs) /\ ∀ o,R (Pr a o kvs) (aU H1 a (.frz o (.dT kvs)))) ∨ ∃ o,H1 a=some (.frz o (.dT kvs)) /\ R (Pr a o kvs) H1)
theorem Eu {pins:List (Addr × Obj)}{σ : St}{H:Hp}{s:Shared}{tg:Expr}{a:Addr}{o:Obj}{kvs:List (List dG × V)}{R:It->Hp->Prop} (I:aX X pins σ H s) (e:H a=some (.frz o (.dT kvs))) (q:R (Pr a o kvs) H) :
  wpAny (model X.prog X.w) X.A (pyIter (.ref a)) (Zj X pins σ tg R) X.xe s:=by
 obtain ⟨e1,ex,es,ep,hd,hsz,get⟩:=Eg I.hok e
 obtain ⟨_,_,y,_⟩:=I.hok a _ e
 refine yC y e1 ex hd ?_
 refine ⟨s.heap.objs.size,[s.heap.objs.size],_,_,H,rfl,I.kept (t':=s.toks) fun b o e=>Heap.get?_push_of_some _ e,Gp a _ o kvs es ep hd,⟨_,Heap.get?_push_size _ rfl,rfl,rfl⟩,fun b hb=>?_,q⟩
 have e:b=s.heap.objs.size:=by simpa using hb
 subst e
 exact I.fpOk (Nat.le_refl _) (I.hok.fresh (Nat.le_refl _))
theorem Mp {tg l:Expr}{tl:TE} (hl:PE X l tl):PI X tg l (Sq tl):=by
 intro pins s σ H R I h
 refine d8 (hl pins s σ H _ I h) fun v s1 ⟨x,H1,I1,r1,q1⟩=>?_
 obtain ⟨a,kvs,rfl,q1⟩:=q1
 cases (show v=Value.ref a from r1)
 rcases q1 with ⟨e,q⟩ | ⟨o,e,q⟩
 ·obtain ⟨o,_,I2⟩:=I1.freeze e
  exact Eu I2 aB (q o)
 ·exact Eu I1 e q
def Y7 (K:PySem.W.Frag) (a:Addr) (xs:List V):It :=
 ⟨fun i H=>i < xs.length /\ bO K H a xs,fun i H x H'=>H'=H /\ xs[xs.length - 1 - i]? = some x,fun i H=>xs.length <= i⟩
theorem KN {P:Program}{w:World}{K:PySem.W.Frag}{tg:Expr} (a it:Addr) (xs:List V):De P w K tg (Y7 K a xs) [it] it (fun i h=>i <= xs.length /\ h.IsRevIter it a ((xs.length:Int) - 1 - (i:Int))) where
 mem:=by simp
 obj:=fun i h st b hb=>by
  have e:b=it:=by simpa using hb
  subst e
  obtain ⟨_,o,e,c,d⟩:=st
  exact ⟨o,e,fun v z=>by rw [d] at z; cases z⟩
 keep:=fun i h h' st k=>⟨st.1,st.2.at fun o e=>k it (by simp) o e⟩
 item:=by
  intro X hP hw hK hc i pins s σ H E I hf st hg
  subst hP hw hK
  obtain ⟨hi,hS⟩:=hg
  obtain ⟨_,st⟩:=st
  obtain ⟨its,rv,p,hz⟩:=I.list hS
  have hix:xs.length - 1 - i < xs.length:=by omega
  obtain ⟨u,hu,ru⟩:=rv.get (List.getElem?_eq_getElem hix)
  have ei:(xs.length:Int) - 1 - (i:Int)=((xs.length - 1 - i:Nat):Int):=by omega
  rw [ei] at st
  obtain ⟨f0,f1,f2,f3,f4,f5⟩:=hf it (by simp)
  refine wpAny_pyNext_rev_item st p.isList (x:=u) (by simpa using hu) fun h' st' sb=>?_
  have I1:aX X pins σ H { s with heap:=h' }:=I.turned (t':=s.toks) (fun b o hb e=>(sb.2 b hb).trans e) f0 f1 f3 f4 f5
  obtain ⟨o,e,c,d⟩:=id st'
  refine ⟨u,rfl,BK (s:={ s with heap:=h' }) e c d (by decide) ⟨_,H,I1,ru,⟨rfl,List.getElem?_eq_getElem hix⟩,⟨hi,?_⟩,fun b hb=>(hf b hb).1⟩⟩
  have ej:(xs.length:Int) - 1 - ((i + 1:Nat):Int)=((xs.length - 1 - i:Nat):Int) - 1:=by omega
  rw [ej]
  exact st'
 done:=by
  intro X hP hw hK hc i pins s σ H E I hf st hg
  subst hP hw hK
  obtain ⟨hi,st⟩:=st
  have hg:xs.length <= i:=hg
  have ei:(xs.length:Int) - 1 - (i:Int) = -1:=by omega
  rw [ei] at st
  obtain ⟨f0,f1,f2,f3,f4,f5⟩:=hf it (by simp)
  exact wpAny_pyNext_rev_end (I.ok.hd hc) st fun h' eb=>⟨rfl,I.turned (t':=s.toks) (fun b o hb e=>eb b o hb e) f0 f1 f3 f4 f5⟩
 self:=fun _ _ _ _ _ st h=>wpAny_pyIter_revIter st.2 h
def aAM (K:PySem.W.Frag) (ta:TA):TI:=fun σ H R=>ta σ H fun vs H1=>∃ a xs,vs=[.ref a] /\ bO K H1 a xs /\ R (Y7 K a xs) H1
theorem Cu:bootBuiltins "reversed" = some (.type "reversed"):=by decide +kernel
theorem Q8 {tg a:Expr}{ta:TA}{p pos:Pos} (hg:Gl X "reversed") (hm:X.mg "reversed" = none) (ha:PA X [a] ta) (hs:starEach [a] X.env=[(false,eval a X.env)]:=by rfl):PI X tg (.Call (.Name "reversed" p) [a] [] pos) (aAM X.K ta):=by
 intro pins s σ H R I h
 refine Call_ (qM I hg hm Cu (PyProof.Rows.callWith_type1 (d8 (ha pos pins s σ H _ I h) fun us s1 ⟨vs,H1,I1,r1,q1⟩=>?_) hs rfl))
 obtain ⟨b,xs,e,hS,q⟩:=q1
 subst e
 obtain ⟨u,rfl,ru⟩:=jW r1
 cases (show u=Value.ref b from ru)
 obtain ⟨its,rv,pl,hz⟩:=I1.list hS
 refine call_reversed_list pl.isList ?_
 have hsz:its.toArray.size=xs.length:=by rw [List.size_toArray]; exact rv.length.symm
 rw [hsz]
 have st:Heap.IsRevIter (s1.heap.push (revObj b ((xs.length:Int) - 1))) s1.heap.objs.size b ((xs.length:Int) - 1 - ((0:Nat):Int)):=by
  rw [show (xs.length:Int) - 1 - ((0:Nat):Int)=(xs.length:Int) - 1 by omega]
  exact ⟨_,Heap.get?_push_size _ rfl,rfl,rfl⟩
 have I2:aX X pins σ H1 { s1 with heap:=s1.heap.push (revObj b ((xs.length:Int) - 1)) }:=I1.kept (t':=s1.toks) fun b o e=>Heap.get?_push_of_some _ e
 refine wpAny_pyIter_revIter (s:={ s1 with heap:=s1.heap.push (revObj b ((xs.length:Int) - 1)) }) st ?_
 refine ⟨s1.heap.objs.size,[s1.heap.objs.size],_,_,H1,rfl,I2,KN b _ xs,⟨Nat.zero_le _,st⟩,fun c hc=>?_,q⟩
 have e:c=s1.heap.objs.size:=by simpa using hc
 subst e
 exact I1.fpOk (Nat.le_refl _) (I1.hok.fresh (Nat.le_refl _))
end
theorem lB {X:Cx}{K:PySem.W.Frag} (h:X.K=K):RJ X (Xo K):=by subst h; exact eV
theorem uO {X:Cx}{K:PySem.W.Frag} (h:X.K=K):RJ X (Wi K):=by subst h; exact dI
theorem gK {X:Cx}{K:PySem.W.Frag} (hK:X.K=K) {pos:Pos}{es:List Expr}{k:Nat}{t:Nj}{n:Nat} (hc:X.calm=true) (h:RQ X es t)
  (hn:(assignEach es X.env).length=n:=by rfl) (hst:(assignEach es X.env).findIdx? (·.1)=none:=by rfl):PG X (.Tuple es k pos) (WN K n t):=by
 subst hK
 exact zA hc h hn hst
theorem Jk {a:Addr}{o:Obj}{kvs:List (List dG × V)}{g:TG}{tb:TS}{D:sO}{σ : St}{H:Hp} (Pv:Nat->St->Hp->Prop) (h0:Pv 0 σ H) (hl:∀ i σ H,i <= kvs.length->Pv i σ H->H a=some (.frz o (.dT kvs)))
  (hs:∀ i k v q σ H,kvs[i]? = some (k,v)->H q=some (.tup (k.map kV))->Pv i σ H->g (.ref q) σ H fun σ2 H2=>tb { D with nx:=Pv (i + 1),ct:=Pv (i + 1),bk:=D.nx } σ2 H2) (hd:∀ σ H,Pv kvs.length σ H->D.nx σ H) :
  ∃ W:Nat->Nat->St->Hp->Prop,(∃ m,W 0 m σ H) /\ ∀ i m σ H,W i m σ H ->
   ((Pr a o kvs).stop i H /\ D.nx σ H) ∨ ((Pr a o kvs).go i H /\ ∃ N:St->Hp->Prop,(∀ σ' H',N σ' H'->∃ m',m' < m /\ W (i + 1) m' σ' H') /\ ∀ x H',(Pr a o kvs).yld i H x H'->g x σ H' fun σ2 H2=>tb { D with nx:=N,ct:=N,bk:=D.nx } σ2 H2):=by
 refine ⟨fun i m σ H=>m=kvs.length - i /\ i <= kvs.length /\ Pv i σ H,⟨kvs.length,by simp,Nat.zero_le _,h0⟩,?_⟩
 rintro i m σ H ⟨rfl,hi,p⟩
 have q:=hl i σ H hi p
 by_cases hlt:i < kvs.length
 ·refine .inr ⟨⟨q,hlt⟩,Pv (i + 1),fun σ' H' p'=>⟨kvs.length - (i + 1),by omega,rfl,hlt,p'⟩,fun x H' y=>?_⟩
  obtain ⟨e,k,v,z,hk,ex,ht⟩:=y
  subst e ex
  exact hs i k v z σ _ hk ht p
 ·have e:i=kvs.length:=by omega
  subst e
  exact .inl ⟨⟨q,Nat.le_refl _⟩,hd σ H p⟩
end L2
namespace L2
open PySem PySem.Spec PyProof.Rows
theorem HY {Pg:Program}{w:World}{K:PySem.W.Frag}{mg mb:Str->Option Value}{CX:zT}{k:Nat}{fa a P c:Addr}{fd:FuncData}{x:Str}{sp:Sp}{s₁ : Shared}{vs:List Value}{ns:List Int}
  (KX:K.In s₁.heap) (hns:s₁.heap.Ns mainGlobals mg) (hb:s₁.heap.Ns builtinsNs mb) (hbb:∀ x:Str,x ≠ "__name__" -> mb x=bootBuiltins x) (hlim:s₁.heap.NoLimit) (hg:s₁.gens = #[])
  (ha:s₁.heap.get? a=some { cls:=.type "list",data:=.seq vs.toArray }) (hi:IntsAre vs ns) (hl:ns.length <= sizeLine) (hr:fG k callerA)
  (hP:s₁.heap.get? P=some (PySem.W.tabObj #[])) (hC:PySem.W.CodeHd s₁.heap c P) (hB:∃ bm ob,mg "__builtins__" = some (.ref bm) /\ bm ≠ builtinsNs /\ s₁.heap.get? bm=some ob /\ ob.cls = .type "module" /\ ob.dict=some builtinsNs /\ ob.data = .plain)
  (hKP:K.lookup P=none) (hCK:∀ h,K.In h->PySem.W.CodeHd h c P)
  (F:∀ base:Heap,K.In base->base.Ns mainGlobals mg->PySem.W.CodeHd base c P->base.BuiltinsAt mg P->aP Pg w K mg base CX k fa fd [x] sp) (hbind:∀ (s:Shared) (u:Value),BindsTo s fd ⟨[u],[]⟩ [(x,u)])
  (hsp:∀ H:Hp,H P=some (.tbl #[])->bO K H a (ns.map V.int)->sp [.ref a] H (fun v _=>v = .bl true) fun _ _ _=>False)
  (hCX:∀ H e s',CX [] H s₁ (fun _ _ _=>False) e s'->False) :
  codeAny (model Pg w) callerA (.call (.ref fa) ⟨[.ref a],[]⟩) (fun r s'=>r = .ok (.ret (.bool true)) /\ OldK s₁.heap s'.heap /\ s'.os=s₁.os /\ AllBare s'.gens) s₁:=by
 have rv:=xV hi
 have lenV:=hi.length
 have haP:a ≠ P:=fun z=>by rw [z,hP] at ha; cases ha
 have core:∀ H:Hp,H P=some (.tbl #[])->(∀ b,b ≠ P->H b=none ∨ ∃ xs,b=a /\ H b=some (.frz { cls:=.type "list",data:=.seq vs.toArray } (.lst xs)))->bO K H a (ns.map V.int)->mY Pg w H s₁.heap->(H a ≠ none->K.lookup a=none) ->
   codeAny (model Pg w) callerA (.call (.ref fa) ⟨[.ref a],[]⟩) (fun r s'=>r = .ok (.ret (.bool true)) /\ OldK s₁.heap s'.heap /\ s'.os=s₁.os /\ AllBare s'.gens) s₁:=by
  intro H hHP hO hS hok hK
  have base_of:∀ {b:Addr}{o:Obj},s₁.heap.get? b=some o->H b=none->(wA s₁.heap H).get? b=some o:=fun e n=>Il e n
  have free:∀ {b:Addr}{o:Obj},s₁.heap.get? b=some o->(∀ xs n,o.data ≠ .seq xs n)->b ≠ P->H b=none:=fun {b o} e d nP=>by
   rcases hO b nP with z | ⟨xs,z,_⟩
   ·exact z
   ·rw [z,ha] at e
    cases e
    exact absurd rfl (d _ _)
  have ndP:∀ {b:Addr}{o:Obj}{es:Array DictEntry}{ep:Nat},s₁.heap.get? b=some o->o.data = .dict es ep->b ≠ P:=fun {b o es ep} e d z=>by
   rw [z,hP] at e
   cases e
   have d':Data.fields #[]=Data.dict es ep:=d
   cases d'
  have nsK:∀ {b:Addr}{m:Str->Option Value},s₁.heap.Ns b m->(wA s₁.heap H).Ns b m:=fun {b m} ⟨o,es,ep,e,d,r⟩=>⟨o,es,ep,base_of e (free e (fun xs n z=>by rw [d] at z; cases z) (ndP e d)),d,r⟩
  have hKb:K.In (wA s₁.heap H):=fun b o e=>base_of (KX b o e) (by
   by_cases z:b=P
   ·rw [z,hKP] at e; cases e
   ·rcases hO b z with q | ⟨xs,q,r⟩
    ·exact q
    ·subst q
     rw [hK (by rw [r]; simp)] at e; cases e)
  have hM:Mod K mg (wA s₁.heap H):=⟨hKb,nsK hns,⟨mb,nsK hb,hbb⟩,let ⟨mc,h1,h2⟩:=hlim; ⟨mc,nsK h1,h2⟩⟩
  have e0:vZ Pg w K mg (wA s₁.heap H) callerA [] s₁ H:=⟨rfl,hM,fun b o e=>Mm e,Nat.le_of_eq (Hj _ _),trivial,fun b hb=>absurd (show b ∈ ([]:List Addr) from hb) (by simp),hok,.of_eq hg⟩
  have hBA:(wA s₁.heap H).BuiltinsAt mg P:=by
   obtain ⟨bm,ob,b1,b2,b3,b4,b5,b6⟩:=hB
   have nP:bm ≠ P:=fun z=>by rw [z,hP] at b3; cases b3; cases b4
   have nG:bm ≠ mainGlobals:=fun z=>by
    obtain ⟨o,es,ep,e,d,_⟩:=hns
    rw [z,e] at b3
    cases b3
    rw [d] at b6
    cases b6
   exact ⟨bm,ob,b1,b2,nG,nP,base_of b3 (free b3 (fun xs n z=>by rw [b6] at z; cases z) nP),b4,b5,b6⟩
  refine codeAny_mono ((F _ hKb (nsK hns) (hCK _ hKb) hBA).run callerA [] s₁ H ⟨[.ref a],[]⟩ [.ref a] [.ref a] _ _ hr e0 (hbind s₁ (.ref a)) (.cons rfl .nil) (hsp H hHP hS)) fun r s' h=>?_
  cases r with
  | error e=>exact (hCX H e s' h).elim
  | ok fl =>
   cases fl with
   | next=>exact False.elim h
   | brk=>exact False.elim h
   | cont=>exact False.elim h
   | ret u =>
    obtain ⟨v,H',os,bare,un,hok',r',q⟩:=h
    have q':v = .bl true:=q
    subst q'
    obtain rfl:u=Value.bool true:=r'
    have keep:∀ b o,b ≠ P->s₁.heap.get? b=some o->s'.heap.get? b=some o:=fun b o nP e=>by
     rcases hO b nP with z | ⟨xs,z1,z⟩
     ·exact un.keep b o e z (by intro z; exact absurd (show b ∈ ([]:List Addr) from z) (by simp)) (by simp)
     ·obtain ⟨e1,_⟩:=hok b _ z
      obtain ⟨e2,_⟩:=hok' b _ (un.frzs b _ _ z)
      rw [e] at e1; cases e1
      exact e2
    obtain ⟨more,hm⟩:=un.tbls P #[] hHP
    have hP':s'.heap.get? P=some { cls:=.none,data:=.fields (#[] ++ more) }:=hok' P _ hm
    refine ⟨rfl,⟨fun b o e=>?_,fun b o e=>?_⟩,os,bare⟩
    ·by_cases z:b=P
     ·subst z
      rw [hP] at e
      cases e
      exact .inr (.inl ⟨(hC.tab hP).isCodeTable,rfl,#[],more,rfl,hP'⟩)
     ·exact .inl (keep b o z e)
    ·by_cases z:b=P
     ·subst z; exact ⟨_,hP'⟩
     ·exact ⟨o,keep b o z e⟩
 cases hk:K.lookup a with
 | some o =>
  have e:=KX a o hk
  rw [ha] at e
  cases e
  refine core (fun b=>if b=P then some (.tbl #[]) else none) (if_pos rfl) (fun b z=>.inl (if_neg z)) (.inr ⟨_,vs.toArray,_,hk,rfl,rfl,rfl,by rw [List.size_toArray,lenV]; exact hl,by simpa using rv⟩) (fun b u z=>?_) fun z=>absurd (if_neg haP) z
  by_cases hb:b=P
  ·have z':=(if_pos hb).symm.trans z
   cases z'
   subst hb
   exact hP
  ·have z':=(if_neg hb).symm.trans z
   cases z'
 | none =>
  refine core (fun b=>if b=P then some (.tbl #[]) else if b=a then some (.frz { cls:=.type "list",data:=.seq vs.toArray } (.lst (ns.map V.int))) else none) (if_pos rfl) (fun b z=>?_) (.inl (.inr ⟨{ cls:=.type "list",data:=.seq vs.toArray },(if_neg haP).trans (if_pos rfl)⟩)) (fun b u z=>?_) fun _=>hk
  ·by_cases hb:b=a
   ·exact .inr ⟨_,hb,(if_neg z).trans (if_pos hb)⟩
   ·exact .inl ((if_neg z).trans (if_neg hb))
  ·by_cases hb:b=P
   ·have z':=(if_pos hb).symm.trans z
    cases z'
    subst hb
    exact hP
   ·have z1:=(if_neg hb).symm.trans z
    by_cases hb2:b=a
    ·have z':=(if_pos hb2).symm.trans z1
     cases z'
     subst hb2
     exact ⟨ha,by rw [List.length_map]; exact hl,vs,_,rv,ha⟩
    ·have z':=(if_neg hb2).symm.trans z1
     cases z'
theorem Jf {l:PySem.W.OpenLaw}{n k:Nat}{q:Program}{loose:List Str}{XP:(Str->Option Value)->Heap->Prop}{YP:World->Heap->Prop}{d d0:DefRec}{K:Params->PySem.W.Frag}{CX:World->zT}{sp:World->Addr->Sp}{x x0:Str}
  (hn:l.most=some n) (hn2:n <= sizeLine) (hdf:d.params.defaults=[]) (hr:fG k callerA)
  (h0:(recsOf q).find? (fun e=>e.name == x0)=some d0)
  (hY:∀ (w:World) (h:Heap),YP w h->(K w.params).In h)
  (F:∀ (w:World) (mg:Str->Option Value) (fa:Addr) (h:Heap),(K w.params).In h->h.Ns mainGlobals mg->mg d.name=some (.ref fa) ->
   ∃ (fd:FuncData) (c P:Addr),(∀ (s:Shared) (u:Value),BindsTo s fd ⟨[u],[]⟩ [(x,u)]) /\ PySem.W.tabIn (K w.params) x0=some (c,P) /\ PySem.W.codeHdIn (K w.params) c P=true /\ (K w.params).lookup P=none ∧
    ∀ base:Heap,(K w.params).In base->base.Ns mainGlobals mg->PySem.W.CodeHd base c P->base.BuiltinsAt mg P->aP l.prog w (K w.params) mg base (CX w) k fa fd [x] (sp w P))
  (hsp:∀ (w:World) (H:Hp) (a P:Addr) (ns:List Int),ns.length <= n->H P=some (.tbl #[])->bO (K w.params) H a (ns.map V.int)->sp w P [.ref a] H (fun v _=>v = .bl true) fun _ _ _=>False)
  (hCX:∀ (w:World) (H:Hp) (s:Shared) (e:Value) (s':Shared),CX w [] H s (fun _ _ _=>False) e s'->False) :
  PySem.W.WalkO q loose XP YP l.row.toRowW d [] (fun f vs=>PySem.call f vs):=by
 refine Att.Cd hn hdf fun w s₀ s₁ mg mb fa o pm cd doc a vs ns G Y ho hd hcd hmg hobj hints hlen hg=>?_
 have KX:=hY w _ Y
 obtain ⟨fd,c,P,hb,ht,hcd,hkp,hF⟩:=F w mg fa _ KX G.T.g hmg
 obtain ⟨hC,hP⟩:=PySem.W.tab_of G.T KX h0 ht
 exact HY KX G.T.g G.T.b G.T.builtins G.T.nolimit hg hobj hints (Nat.le_trans hlen hn2) hr hP hC G.T.bmain hkp (fun h X=>PySem.W.codeHd_of_K X hcd) hF hb (fun H hO hS=>hsp w H a P ns hlen hO hS) fun H e s'=>hCX w H s₁ e s'
end L2
namespace L2
open PySem PySem.Spec PyProof.Rows
theorem xU {X:Cx} (hc:X.calm=true):iM X (.builtin "max") (fun xs H Q=>∃ (a:Addr) (ns:List Int),xs=[.ref a] /\ bO X.K H a (ns.map V.int) /\ ns ≠ [] /\ ∀ M,M ∈ ns->(∀ n ∈ ns,n <= M)->Q (.int M) H):=by
 intro pins s σ H xs us Q I r h
 obtain ⟨a,ns,rfl,hS,hne,q⟩:=h
 obtain ⟨u,rfl,ru⟩:=jW r
 cases (show u=Value.ref a from ru)
 obtain ⟨its,rv,p,hz⟩:=I.list hS
 have hi:=uD rv
 obtain ⟨zs,e⟩:=(IntsAre.allInts hi).items
 have hl:=p.isList
 rw [e] at hl
 have hns:ns=zs.toList.map (·.1):=by
  have n1:=nums_intItems (xs:=zs)
  rw [<- e,show its.toArray.toList=its from rfl,IntsAre.numsOf hi] at n1
  exact n1
 have hsz:0 < zs.size:=by
  rcases Nat.eq_zero_or_pos zs.size with z | z
  ·exfalso
   apply hne
   rw [hns]
   have:zs = #[]:=Array.eq_empty_of_size_eq_zero z
   rw [this]
   rfl
  ·exact z
 refine max_intList (I.ok.hd hc) hl hsz fun v h' tk hv hk=>?_
 obtain ⟨t,rfl⟩:=intItems_at hv
 obtain ⟨h1,h2⟩:=argBest_gt (numAt zs) (zs.size - 1)
 refine ⟨.int _,H,I.kept hk,⟨t,rfl⟩,q _ ?_ fun n hn=>?_⟩
 ·rw [hns,numAt_eq]; exact getD_mem (by rw [List.length_map,Array.length_toList]; omega)
 ·rw [hns] at hn
  obtain ⟨j,hj,rfl⟩:=mem_getD hn
  rw [List.length_map,Array.length_toList] at hj
  rw [<- numAt_eq]; exact h2 j (by omega)
theorem Oz {P:Program}{w:World}{H:Hp}{h:Heap}{a:Addr}{kvs:List (List dG × V)} (ok:cY P w H h a (.dT kvs)) :
  (a == sysModules)=false /\ ∃ o,h.get? a=some o /\ o.ExactDict /\ ∃ es ep,o.data = .dict es ep /\ es.size=kvs.length /\ ∀ (i:Nat) k v,kvs[i]? = some (k,v)->∃ q ent,es[i]? = some ent /\ ent.key = .ref q /\ H q=some (.tup (k.map kV)):=by
 obtain ⟨z,y,xs,r,ob,es,ep,e2,ex,hd,he,nd⟩:=ok
 have hl:kvs.length=xs.length:=Paired.length r
 refine ⟨y,ob,e2,ex,es,ep,hd,?_,fun i k v hk=>?_⟩
 ·rw [<- Array.length_toList,he,List.length_map,hl]
 ·have get:∀ {l1:List (List dG × V)}{l2:List (List dG × Addr × Value)}{i:Nat}{k:List dG}{v:V},Paired (fun (p:List dG × V) (q:List dG × Addr × Value)=>p.1=q.1 /\ H q.2.1=some (.tup (p.1.map kV)) /\ bG p.2 q.2.2) l1 l2->l1[i]? = some (k,v) ->
    ∃ q:List dG × Addr × Value,l2[i]? = some q /\ H q.2.1=some (.tup (k.map kV)):=by
   intro l1 l2 i k v r
   induction r generalizing i with
   | nil=>intro z; simp at z
   | cons h t ih =>
    intro z
    cases i with
    | zero=>simp at z; subst z; exact ⟨_,rfl,h.2.1⟩
    | succ j=>exact ih (by simpa using z)
  obtain ⟨q,hq,ht⟩:=get r hk
  refine ⟨q.2.1,entryOfKey (tupleKind (dZ P w)) q,?_,rfl,ht⟩
  rw [<- Array.getElem?_toList,he,List.getElem?_map,hq]
  rfl
theorem Gz {P:Program}{w:World}{A:Around} (hh:A.handled=none) (it d:Addr) (hne:it ≠ d) (o:Obj) (es:Array DictEntry) (ep:Nat) (hd:o.data = .dict es ep) :
  Walks P w A it [it,d] [it] es.size (fun i v=>∃ ent,es[i]? = some ent /\ ent.key=v) (fun i h=>h.IsKeyIter it d i es.size ep /\ h.get? d=some o) where
 sub:=fun b hb=>by rw [List.mem_singleton.mp hb]; exact .head _
 frame:=fun i h h' st k=>⟨st.1.at fun o e=>k it (.head _) o e,k d (.tail _ (.head _)) _ st.2⟩
 item:=fun i s Q E hi st hQ=>by
  refine wN st.1 st.2 hd (Array.getElem?_eq_getElem hi) fun h' st' sb=>?_
  exact hQ _ h' s.toks ⟨_,Array.getElem?_eq_getElem hi,rfl⟩ ⟨st',(sb.2 d (Ne.symm hne)).trans st.2⟩ fun b o hb e=>(sb.2 b (fun z=>hb (by rw [z]; exact .head _))).trans e
 done:=fun s Q E st hQ=>by
  refine Bw hh st.1 st.2 hd (Nat.le_refl _) fun h' eb=>?_
  exact hQ h' s.toks fun b o hb e=>eb b o (fun z=>hb (by rw [z]; exact .head _)) e
 self:=fun i s Q E st hQ=>wpAny_pyIter_keyiter st.1 hQ
theorem Jt {P:Program}{w:World} (d:Addr) (lo:(d == sysModules)=false) (o:Obj) (ex:o.ExactDict) (es:Array DictEntry) (ep:Nat) (hd:o.data = .dict es ep) :
  PySem.W.KdlSrc P w "dict" d d es.size (fun i v=>∃ ent,es[i]? = some ent /\ ent.key=v) (fun h=>h.get? d=some o) where
 type:=fun s e=>⟨o,e,ex.1⟩
 there:=fun h e=>⟨Heap.lt_size e,Heap.lt_size e⟩
 keep:=fun h h' e k=>k d (.inl rfl) o e
 notList:=by decide
 notTuple:=by decide
 hint:=fun A E s Q e hq=>PySem.W.kdl_hint_dict ⟨o,e,ex.1⟩ hq
 iter:=fun A s hh e=>⟨_,_,(fun E Q hq=>yC lo e ex hd hq),Gz hh _ d (Nat.ne_of_gt (Heap.lt_size e)) o es ep hd,⟨⟨_,Heap.get?_push_size _ rfl,rfl,rfl⟩,Heap.get?_push_of_some _ e⟩⟩
theorem DW {X:Cx} (hc:X.calm=true):iM X (.type "list") (fun xs H Q=>∃ (d:Addr) (kvs:List (List dG × V)),xs=[.ref d] /\ (H d=some (.dT kvs) ∨ ∃ o,H d=some (.frz o (.dT kvs))) ∧
  ∀ (l:Addr) (qs:List Addr),H l=none->qs.length=kvs.length->(∀ (i:Nat) k v,kvs[i]? = some (k,v)->∃ q,qs[i]? = some q /\ H q=some (.tup (k.map kV)))->Q (.ref l) (aU H l (.lst (qs.map V.ref)))):=by
 intro pins s σ H xs us Q I r h
 obtain ⟨d,kvs,rfl,hD,q⟩:=h
 obtain ⟨u,rfl,ru⟩:=jW r
 cases (show u=Value.ref d from ru)
 have ok:cY X.prog X.w H s.heap d (.dT kvs):=by
  rcases hD with e | ⟨o,e⟩
  ·exact I.hok d _ e
  ·exact (I.hok d _ e).2
 have hz:kvs.length <= sizeLine:=ok.1
 obtain ⟨lo,o,e,ex,es,ep,hd,hsz,get⟩:=Oz ok
 refine PySem.W.kdl_call (Jt d lo o ex es ep hd) (I.ok.hd hc) e (by rw [hsz]; exact hz) fun h' tk acc c hk hl hacc=>?_
 have key:∀ (i:Nat),i < kvs.length->∃ q,acc.toList[i]? = some (Value.ref q) /\ ∀ k v,kvs[i]? = some (k,v)->H q=some (.tup (k.map kV)):=fun i hi=>by
  have hia:i < acc.size:=by rw [hacc.1,hsz]; exact hi
  obtain ⟨ent,e1,e2⟩:=hacc.2 i _ (Array.getElem?_eq_getElem hia)
  obtain ⟨q,ent',e3,e4,e5⟩:=get i _ _ (List.getElem?_eq_getElem hi)
  rw [e1] at e3
  cases e3
  refine ⟨q,?_,fun k v ek=>?_⟩
  ·rw [Array.getElem?_toList,Array.getElem?_eq_getElem hia,<- e2,e4]
  ·rw [List.getElem?_eq_getElem hi] at ek
   have ek:=Option.some.inj ek
   have:kvs[i].1=k:=by rw [ek]
   rw [<- this]
   exact e5
 have hla:acc.toList.length=kvs.length:=by rw [Array.length_toList,hacc.1,hsz]
 have eacc:acc.toList=(acc.toList.map NT).map Value.ref:=by
  refine List.ext_getElem? fun i=>?_
  rw [List.getElem?_map,List.getElem?_map]
  by_cases hi:i < kvs.length
  ·obtain ⟨q,e1,_⟩:=key i hi
   rw [e1]
   rfl
  ·rw [List.getElem?_eq_none (by omega)]
   rfl
 refine ⟨.ref s.heap.objs.size,_,I.laid (t':=tk) hk (Nat.le_refl _) (show cY X.prog X.w _ h' _ (.lst ((acc.toList.map NT).map V.ref)) from ⟨?_,acc.toList,c,?_,?_⟩),rfl,q _ (acc.toList.map NT) (I.hok.fresh (Nat.le_refl _)) (by rw [List.length_map,hla]) fun i k v ek=>?_⟩
 ·rw [List.length_map,List.length_map,hla]; exact hz
 ·have z:=qY (acc.toList.map NT)
  rw [<- eacc] at z
  exact z
 ·rw [Array.toArray_toList]; exact hl
 ·have hi:=(List.getElem?_eq_some_iff.mp ek).1
  obtain ⟨q2,e1,e2⟩:=key i hi
  exact ⟨q2,by rw [List.getElem?_map,e1]; rfl,e2 k v ek⟩
end L2
namespace Fr
theorem Jw (a b:Int):Int.gcd b (a.fmod b)=Int.gcd a b:=by
 rw [Int.fmod_def,Int.gcd_sub_mul_left_right,Int.gcd_comm]
theorem Hx {a b:Int} (hb:b ≠ 0):(a.fmod b).natAbs < b.natAbs:=by
 rcases Int.lt_or_gt_of_ne hb with h | h
 ·have e:a.fmod b = -((-a).fmod (-b)):=by
   rw [Int.fmod_def,Int.fmod_def,Int.neg_fdiv_neg,Int.neg_mul]
   omega
  have h1:=Int.fmod_nonneg_of_pos (-a) (show (0:Int) < -b by omega)
  have h2:=Int.fmod_lt_of_pos (-a) (show (0:Int) < -b by omega)
  omega
 ·have h1:=Int.fmod_nonneg_of_pos a h
  have h2:=Int.fmod_lt_of_pos a h
  omega
def dv (t b:Int):Int:=if b < 0 then -(Int.gcd t b:Int) else (Int.gcd t b:Int)
def sh (t b:Int):Int × Int:=(t.fdiv (dv t b),b.fdiv (dv t b))
structure jG (t b:Int):Prop where
 pos:0 < b
 red:Int.gcd t b=1
theorem qJ (t b:Int):(dv t b).natAbs=Int.gcd t b:=by unfold dv; split <;> omega
theorem NZ {t b:Int} (hb:b ≠ 0):dv t b ≠ 0:=by
 have:=Int.gcd_pos_of_ne_zero_right t hb
 have e:=qJ t b
 omega
theorem Cq (t b:Int):dv t b ∣ t:=by
 have h:=Int.gcd_dvd_left t b
 unfold dv
 split
 ·exact Int.neg_dvd.mpr h
 ·exact h
theorem zP (t b:Int):dv t b ∣ b:=by
 have h:=Int.gcd_dvd_right t b
 unfold dv
 split
 ·exact Int.neg_dvd.mpr h
 ·exact h
theorem Dn (t b:Int):(sh t b).1 * dv t b=t:=Int.fdiv_mul_cancel (Cq t b)
theorem zX (t b:Int):(sh t b).2 * dv t b=b:=Int.fdiv_mul_cancel (zP t b)
theorem lX (t b:Int):(sh t b).1 * b=t * (sh t b).2:=by
 have h1:=Dn t b
 have h2:=zX t b
 generalize (sh t b).1=x at *
 generalize (sh t b).2=y at *
 generalize dv t b=d at *
 rw [<- h1,<- h2]
 rw [Int.mul_assoc x d y,Int.mul_comm d y]
theorem Ej {t b:Int} (hb:b ≠ 0):0 < (sh t b).2:=by
 have h2:=zX t b
 have g:=Int.gcd_pos_of_ne_zero_right t hb
 rcases Int.lt_or_gt_of_ne hb with h | h
 ·have e:dv t b < 0:=by unfold dv; rw [if_pos h]; omega
  rcases (by omega:0 < (sh t b).2 ∨ (sh t b).2 <= 0) with q | q
  ·exact q
  ·have:=Int.mul_nonneg_of_nonpos_of_nonpos q (Int.le_of_lt e)
   omega
 ·have e:0 < dv t b:=by unfold dv; rw [if_neg (by omega)]; omega
  rcases (by omega:0 < (sh t b).2 ∨ (sh t b).2 <= 0) with q | q
  ·exact q
  ·have:=Int.mul_nonpos_of_nonpos_of_nonneg q (Int.le_of_lt e)
   omega
theorem Ei {t b:Int} (hb:b ≠ 0):Int.gcd (sh t b).1 (sh t b).2=1:=by
 have h:=Int.gcd_mul_right (sh t b).1 (dv t b) (sh t b).2
 rw [Dn,zX,qJ] at h
 have g:=Int.gcd_pos_of_ne_zero_right t hb
 have:1 * Int.gcd t b=Int.gcd (sh t b).1 (sh t b).2 * Int.gcd t b:=by omega
 exact (Nat.eq_of_mul_eq_mul_right g this).symm
theorem Jr {t b:Int} (hb:b ≠ 0):jG (sh t b).1 (sh t b).2:=⟨Ej hb,Ei hb⟩
theorem ZL {a b d:Int} (g:Int.gcd a b=1) (h:b ∣ a * d):b ∣ d:=by
 have h1:=Int.natAbs_dvd_natAbs.mpr h
 rw [Int.natAbs_mul] at h1
 have h2:Nat.Coprime b.natAbs a.natAbs:=by
  show Nat.gcd b.natAbs a.natAbs=1
  rw [Nat.gcd_comm]
  exact g
 exact Int.natAbs_dvd_natAbs.mp (h2.dvd_of_dvd_mul_left h1)
theorem Di {a b c d:Int} (p:jG a b) (q:jG c d) (e:a * d=c * b):a=c /\ b=d:=by
 have pp:=p.pos
 have qp:=q.pos
 have h1:b ∣ d:=by
  have:b ∣ a * d:=⟨c,by rw [e,Int.mul_comm]⟩
  exact ZL p.red this
 have h2:d ∣ b:=by
  have:d ∣ c * b:=⟨a,by rw [<- e,Int.mul_comm]⟩
  exact ZL q.red this
 have hbd:b=d:=Int.dvd_antisymm (Int.le_of_lt pp) (Int.le_of_lt qp) h1 h2
 subst hbd
 exact ⟨Int.eq_of_mul_eq_mul_right (by omega) e,rfl⟩
end Fr
namespace Tb
structure Rw where
 t:Int
 b:Int
 w:Int
def T (B:Int) (r:Rw):Int:=r.t * (B / r.b)
def mx (x:Int):Int:=if 0 < x then x else 0
def S (B l0 l1:Int) (rs:List Rw):Int:=(rs.map fun r=>r.w * mx (T B r * l1 - l0 * B)).sum
def WT (B:Int) (rs:List Rw):Int:=(rs.map fun r=>r.w * T B r).sum
def W (rs:List Rw):Int:=(rs.map (·.w)).sum
structure CM (B:Int) (rs:List Rw):Prop where
 pos:0 < B
 dv:∀ r ∈ rs,0 < r.b /\ r.b ∣ B
theorem gY (r:Rw) (rs:List Rw):W (r :: rs)=r.w + W rs:=by simp [W]
theorem tD (B:Int) (r:Rw) (rs:List Rw):WT B (r :: rs)=r.w * T B r + WT B rs:=by simp [WT]
theorem tV (B l0 l1:Int) (r:Rw) (rs:List Rw):S B l0 l1 (r :: rs)=r.w * mx (T B r * l1 - l0 * B) + S B l0 l1 rs:=by simp [S]
theorem Bd (B l0 l1:Int) (xs ys:List Rw):S B l0 l1 (xs ++ ys)=S B l0 l1 xs + S B l0 l1 ys:=by simp [S]
theorem BL (xs ys:List Rw):W (xs ++ ys)=W xs + W ys:=by simp [W]
theorem ZW {B b:Int} (hb:0 < b) (hB:0 < B) (h:b ∣ B):∃ c,0 < c /\ B=b * c /\ B / b=c:=by
 obtain ⟨c,e⟩:=h
 have hc:0 < c:=by
  rcases (by omega:0 < c ∨ c <= 0) with z | z
  ·exact z
  ·have:=Int.mul_nonpos_of_nonneg_of_nonpos (Int.le_of_lt hb) z
   omega
 refine ⟨c,hc,e,?_⟩
 rw [e,Int.mul_comm,Int.mul_ediv_cancel _ (by omega)]
theorem Er {B:Int}{r:Rw} (hb:0 < r.b) (hB:0 < B) (h:r.b ∣ B):T B r * r.b=r.t * B:=by
 obtain ⟨c,hc,e,q⟩:=ZW hb hB h
 unfold T
 rw [q,e]
 grind
theorem An {c x:Int} (hc:0 < c):0 < c * x ↔ 0 < x:=by
 constructor
 ·intro h
  rcases (by omega:0 < x ∨ x <= 0) with z | z
  ·exact z
  ·have:=Int.mul_nonpos_of_nonneg_of_nonpos (Int.le_of_lt hc) z
   omega
 ·intro h
  exact Int.mul_pos hc h
theorem Gs {B l0 l1:Int}{r:Rw} (hb:0 < r.b) (hB:0 < B) (h:r.b ∣ B):0 < T B r * l1 - l0 * B ↔ l0 * r.b < r.t * l1:=by
 obtain ⟨c,hc,e,q⟩:=ZW hb hB h
 have e2:T B r * l1 - l0 * B=c * (r.t * l1 - l0 * r.b):=by
  unfold T
  rw [q,e]
  grind
 rw [e2,An hc]
 omega
theorem VF (x:Int):0 <= mx x:=by unfold mx; split <;> omega
theorem RV (x:Int):x <= mx x:=by unfold mx; split <;> omega
theorem YD {B l0 l1 ws tops:Int} (hw:0 < ws) (hl:0 < l1) (hc:l0 * (ws * B)=tops * l1):∀ {hi:List Rw},(∀ r ∈ hi,tops <= T B r * ws)->ws * S B l0 l1 hi=l1 * (ws * WT B hi - tops * W hi)
 | [],_=>by simp [S,WT,W]
 | r :: hi,h=>by
  have ih:=YD hw hl hc (fun x hx=>h x (List.mem_cons_of_mem _ hx))
  have hr:=h r List.mem_cons_self
  have e:ws * (T B r * l1 - l0 * B)=l1 * (T B r * ws - tops):=by grind
  have m:mx (T B r * l1 - l0 * B)=T B r * l1 - l0 * B:=by
   unfold mx
   split
   ·rfl
   ·rename_i n
    have h1:0 <= l1 * (T B r * ws - tops):=Int.mul_nonneg (Int.le_of_lt hl) (by omega)
    rw [<- e] at h1
    rcases (by omega:T B r * l1 - l0 * B=0 ∨ T B r * l1 - l0 * B < 0) with z | z
    ·omega
    ·have:=Int.mul_neg_of_pos_of_neg hw z
     omega
  rw [tV,tD,gY,m]
  have a1:ws * (r.w * (T B r * l1 - l0 * B) + S B l0 l1 hi)=r.w * (ws * (T B r * l1 - l0 * B)) + ws * S B l0 l1 hi:=by grind
  rw [a1,e,ih]
  grind
theorem S8 {B l0 l1 ws tops:Int} (hw:0 < ws) (hl:0 < l1) (hc:l0 * (ws * B)=tops * l1):∀ {lo:List Rw},(∀ r ∈ lo,T B r * ws <= tops)->S B l0 l1 lo=0
 | [],_=>by simp [S]
 | r :: lo,h=>by
  have ih:=S8 hw hl hc (fun x hx=>h x (List.mem_cons_of_mem _ hx))
  have hr:=h r List.mem_cons_self
  have e:ws * (T B r * l1 - l0 * B)=l1 * (T B r * ws - tops):=by grind
  have m:mx (T B r * l1 - l0 * B)=0:=by
   unfold mx
   split
   ·rename_i n
    have h1:=Int.mul_pos hw n
    have h2:l1 * (T B r * ws - tops) <= 0:=Int.mul_nonpos_of_nonneg_of_nonpos (Int.le_of_lt hl) (by omega)
    omega
   ·rfl
  rw [tV,m,ih]
  simp
theorem Gq {B l0 l1 ws tops P:Int}{lo hi:List Rw} (hw:0 < ws) (hl:0 < l1) (hc:l0 * (ws * B)=tops * l1) (ew:ws=W hi) (et:tops=WT B hi - P) (h1:∀ r ∈ hi,tops <= T B r * ws) (h2:∀ r ∈ lo,T B r * ws <= tops) :
  S B l0 l1 (lo ++ hi)=P * l1:=by
 have a:=YD hw hl hc h1
 have b:=S8 hw hl hc h2
 rw [Bd,b,Int.zero_add]
 have:ws * S B l0 l1 hi=ws * (P * l1):=by rw [a,<- ew]; grind
 exact Int.eq_of_mul_eq_mul_left (by omega) this
theorem XH (B m0 m1:Int):∀ {hi:List Rw},(∀ r ∈ hi,0 <= r.w)->m1 * WT B hi - m0 * B * W hi <= S B m0 m1 hi
 | [],_=>by simp [S,WT,W]
 | r :: hi,h=>by
  have ih:=XH B m0 m1 (fun x hx=>h x (List.mem_cons_of_mem _ hx))
  have hr:=h r List.mem_cons_self
  have g:=Int.mul_le_mul_of_nonneg_left (RV (T B r * m1 - m0 * B)) hr
  rw [tV,tD,gY]
  have e:m1 * (r.w * T B r + WT B hi) - m0 * B * (r.w + W hi)=r.w * (T B r * m1 - m0 * B) + (m1 * WT B hi - m0 * B * W hi):=by grind
  rw [e]
  omega
theorem U5 (B m0 m1:Int):∀ {lo:List Rw},(∀ r ∈ lo,0 <= r.w)->0 <= S B m0 m1 lo
 | [],_=>by simp [S]
 | r :: lo,h=>by
  have ih:=U5 B m0 m1 (fun x hx=>h x (List.mem_cons_of_mem _ hx))
  have g:=Int.mul_nonneg (h r List.mem_cons_self) (VF (T B r * m1 - m0 * B))
  rw [tV]
  omega
theorem Df {B l0 l1 m0 m1 ws tops P:Int}{lo hi:List Rw} (hB:0 < B) (hw:0 < ws) (hl:0 < l1) (hc:l0 * (ws * B)=tops * l1) (ew:ws=W hi) (et:tops=WT B hi - P)
  (hp:∀ r ∈ lo ++ hi,0 <= r.w) (lt:m0 * l1 < l0 * m1):P * m1 < S B m0 m1 (lo ++ hi):=by
 have a:=XH B m0 m1 (hi:=hi) (fun r hr=>hp r (List.mem_append_right _ hr))
 have b:=U5 B m0 m1 (lo:=lo) (fun r hr=>hp r (List.mem_append_left _ hr))
 rw [Bd]
 have q:=Int.mul_lt_mul_of_pos_left lt (Int.mul_pos hw hB)
 have e1:ws * B * (m0 * l1)=l1 * (m0 * B * ws):=by grind
 have e2:ws * B * (l0 * m1)=l1 * (m1 * tops):=by grind
 rw [e1,e2] at q
 have q2:m0 * B * ws < m1 * tops:=Int.lt_of_mul_lt_mul_left q (Int.le_of_lt hl)
 have e3:m1 * WT B hi - m0 * B * W hi=m1 * tops + P * m1 - m0 * B * ws:=by rw [<- ew]; grind
 omega
def Le (x y:Rw):Prop:=x.t * y.b <= y.t * x.b
theorem Ow {B:Int}{x y:Rw} (hB:0 < B) (hx:0 < x.b) (hy:0 < y.b) (dx:x.b ∣ B) (dy:y.b ∣ B) (h:Le x y):T B x <= T B y:=by
 have e1:=Er hx hB dx
 have e2:=Er hy hB dy
 have g:=Int.mul_le_mul_of_nonneg_left h (Int.le_of_lt hB)
 have k:(x.b * y.b) * T B x <= (x.b * y.b) * T B y:=by
  have a1:(x.b * y.b) * T B x=B * (x.t * y.b):=by grind
  have a2:(x.b * y.b) * T B y=B * (y.t * x.b):=by grind
  rw [a1,a2]
  exact g
 exact Int.le_of_mul_le_mul_left k (Int.mul_pos hx hy)
structure Lp (B P:Int) (rs:List Rw) (i:Nat) (tops ws:Int):Prop where
 le:i <= rs.length
 ew:ws=W (rs.drop (rs.length - i))
 et:tops=WT B (rs.drop (rs.length - i)) - P
 hi:0 < i->∀ r ∈ rs.drop (rs.length - i),tops <= T B r * ws
 z:P=0->i <= 1
theorem Lp.start {B P:Int}{rs:List Rw} (e:0 <= P):Lp B P rs 0 (-P) 0:=by
 refine ⟨Nat.zero_le _,?_,?_,fun h=>absurd h (by omega),fun _=>by omega⟩
 ·simp [W]
 ·simp [WT]
structure QQ (B:Int) (rs:List Rw):Prop where
 cm:CM B rs
 w:∀ r ∈ rs,1 <= r.w
 so:rs.Pairwise Le
theorem K5:∀ {rs:List Rw},(∀ r ∈ rs,1 <= r.w)->rs ≠ []->0 < W rs
 | [],_,h=>absurd rfl h
 | [r],h,_=>by
  have:=h r List.mem_cons_self
  simp [W]
  omega
 | r :: s :: rs,h,_=>by
  have:=h r List.mem_cons_self
  have q:=K5 (rs:=s :: rs) (fun x hx=>h x (List.mem_cons_of_mem _ hx)) (by simp)
  rw [gY]
  omega
theorem qI {rs:List Rw}{i:Nat} (h:i < rs.length):∃ r,rs[rs.length - 1 - i]? = some r /\ rs.drop (rs.length - (i + 1))=r :: rs.drop (rs.length - i) /\ r ∈ rs:=by
 have hk:rs.length - 1 - i < rs.length:=by omega
 refine ⟨rs[rs.length - 1 - i],List.getElem?_eq_getElem hk,?_,List.getElem_mem hk⟩
 have e1:rs.length - (i + 1)=rs.length - 1 - i:=by omega
 have e2:rs.length - i=rs.length - 1 - i + 1:=by omega
 rw [e1,e2]
 exact List.drop_eq_getElem_cons hk
theorem QQ.mono {B:Int}{rs:List Rw} (tb:QQ B rs) {x y:Rw} (hx:x ∈ rs) (hy:y ∈ rs) (h:Le x y):T B x <= T B y :=
 Ow tb.cm.pos (tb.cm.dv x hx).1 (tb.cm.dv y hy).1 (tb.cm.dv x hx).2 (tb.cm.dv y hy).2 h
theorem Lp.ws_pos {B P tops ws:Int}{rs:List Rw}{i:Nat} (tb:QQ B rs) (l:Lp B P rs i tops ws) (h:0 < i):0 < ws:=by
 rw [l.ew]
 have:=l.le
 refine K5 (fun r hr=>tb.w r (List.mem_of_mem_drop hr)) ?_
 intro e
 have:=congrArg List.length e
 simp at this
 omega
theorem Lp.next {B P tops ws:Int}{rs:List Rw}{i:Nat}{r:Rw} (tb:QQ B rs) (hP:0 <= P) (l:Lp B P rs i tops ws) (hi:i < rs.length) (hr:rs[rs.length - 1 - i]? = some r) (go:¬ (0 < ws /\ T B r * ws <= tops)) :
  Lp B P rs (i + 1) (tops + r.w * T B r) (ws + r.w):=by
 obtain ⟨r',e1,e2,hm⟩:=qI hi
 rw [hr] at e1
 cases e1
 have hw:=tb.w r hm
 have last:tops <= T B r * ws:=by
  by_cases h0:0 < i
  ·have:=l.ws_pos tb h0
   omega
  ·have z:i=0:=by omega
   subst z
   have a:=l.ew
   have b:=l.et
   simp [W] at a
   simp [WT] at b
   rw [a,b]
   omega
 have mine:tops + r.w * T B r <= T B r * (ws + r.w):=by
  have:T B r * (ws + r.w)=T B r * ws + r.w * T B r:=by grind
  omega
 have wp:0 < ws + r.w:=by
  by_cases h0:0 < i
  ·have:=l.ws_pos tb h0
   omega
  ·have z:i=0:=by omega
   subst z
   have a:=l.ew
   simp [W] at a
   omega
 refine ⟨hi,?_,?_,fun _ x hx=>?_,fun p0=>?_⟩
 ·rw [e2,gY,<- l.ew]; omega
 ·rw [e2,tD,l.et]; omega
 ·rw [e2] at hx
  rcases List.mem_cons.mp hx with z | z
  ·subst z; exact mine
  ·have pw:(r :: rs.drop (rs.length - i)).Pairwise Le:=by
    rw [<- e2]
    exact tb.so.sublist (List.drop_sublist _ _)
   have le:=(List.pairwise_cons.mp pw).1 x z
   have tm:=tb.mono hm (List.mem_of_mem_drop z) le
   have:=Int.mul_le_mul_of_nonneg_right tm (Int.le_of_lt wp)
   omega
 ·have k:=l.z p0
  rcases (by omega:i=0 ∨ i=1) with z | z
  ·omega
  ·exfalso
   subst z
   apply go
   have wp1:=l.ws_pos tb (by decide)
   refine ⟨wp1,?_⟩
   obtain ⟨r2,f1,f2,fm⟩:=qI (rs:=rs) (i:=0) (by omega)
   have f3:rs.drop (rs.length - 1)=[r2]:=by
    have:rs.drop (rs.length - 0)=[]:=by simp
    rw [f2,this]
   have a:=l.ew
   have b:=l.et
   rw [f3] at a b
   simp [W] at a
   simp [WT] at b
   have pw:(r :: rs.drop (rs.length - 1)).Pairwise Le:=by
    rw [<- e2]
    exact tb.so.sublist (List.drop_sublist _ _)
   have le:=(List.pairwise_cons.mp pw).1 r2 (by rw [f3]; exact List.mem_cons_self)
   have tm:=tb.mono hm fm le
   have:=Int.mul_le_mul_of_nonneg_right tm (Int.le_of_lt wp1)
   rw [b,a] at *
   have e:T B r2 * r2.w=r2.w * T B r2:=Int.mul_comm _ _
   omega
structure Lv (B P l0 l1:Int) (rs:List Rw):Prop where
 pos:0 < l1
 has:S B l0 l1 rs=P * l1
 more:∀ m0 m1:Int,m0 * l1 < l0 * m1->P * m1 < S B m0 m1 rs
theorem Lp.ends {B P tops ws l0 l1:Int}{rs:List Rw}{i:Nat} (tb:QQ B rs) (l:Lp B P rs i tops ws) (h0:0 < i) (stop:i=rs.length ∨ ∃ r,rs[rs.length - 1 - i]? = some r /\ i < rs.length /\ T B r * ws <= tops)
  (hl:0 < l1) (hc:l0 * (ws * B)=tops * l1):Lv B P l0 l1 rs:=by
 have wp:=l.ws_pos tb h0
 have e:rs=rs.take (rs.length - i) ++ rs.drop (rs.length - i):=(List.take_append_drop _ _).symm
 have lo:∀ r ∈ rs.take (rs.length - i),T B r * ws <= tops:=by
  rcases stop with z | ⟨r,hr,hi,ht⟩
  ·subst z
   simp
  ·intro x hx
   obtain ⟨j,hj,ex⟩:=List.mem_iff_getElem.mp hx
   rw [List.length_take] at hj
   rw [List.getElem_take] at ex
   have hk:rs.length - 1 - i < rs.length:=by omega
   rw [List.getElem?_eq_getElem hk] at hr
   have er:=Option.some.inj hr
   have tm:T B x <= T B r:=by
    by_cases ej:j=rs.length - 1 - i
    ·subst ej
     rw [<- ex,<- er]
     exact Int.le_refl _
    ·have le:=List.pairwise_iff_getElem.mp tb.so j (rs.length - 1 - i) (by omega) hk (by omega)
     rw [ex,er] at le
     exact tb.mono (by rw [<- ex]; exact List.getElem_mem _) (by rw [<- er]; exact List.getElem_mem _) le
   have:=Int.mul_le_mul_of_nonneg_right tm (Int.le_of_lt wp)
   omega
 refine ⟨hl,?_,fun m0 m1 lt=>?_⟩
 ·rw [e]
  exact Gq wp hl hc l.ew l.et (l.hi h0) lo
 ·rw [e]
  exact Df tb.cm.pos wp hl hc l.ew l.et (fun r hr=>by rw [<- e] at hr; have:=tb.w r hr; omega) lt
theorem Lp.zero {B tops ws:Int}{rs:List Rw}{i:Nat} (tb:QQ B rs) (fr:∀ r ∈ rs,Fr.jG r.t r.b) (l:Lp B 0 rs i tops ws) (h0:0 < i):∃ r,rs[rs.length - 1]? = some r /\ (Fr.sh tops (ws * B))=(r.t,r.b):=by
 have k:=l.z rfl
 have z:i=1:=by omega
 subst z
 have hle:=l.le
 obtain ⟨r2,f1,f2,fm⟩:=qI (rs:=rs) (i:=0) (by omega)
 have f3:rs.drop (rs.length - 1)=[r2]:=by
  have:rs.drop (rs.length - 0)=[]:=by simp
  rw [f2,this]
 have a:=l.ew
 have b:=l.et
 rw [f3] at a b
 simp [W] at a
 simp [WT] at b
 have hw:=tb.w r2 fm
 have hB:=tb.cm.pos
 have hb:=(tb.cm.dv r2 fm).1
 refine ⟨r2,by simpa using f1,?_⟩
 have ne:ws * B ≠ 0:=Int.ne_of_gt (Int.mul_pos (by omega) hB)
 have cr:=Fr.lX tops (ws * B)
 have tm:=Er hb hB (tb.cm.dv r2 fm).2
 have ok:=Fr.Jr (t:=tops) ne
 have q:(Fr.sh tops (ws * B)).1 * r2.b=r2.t * (Fr.sh tops (ws * B)).2:=by
  generalize (Fr.sh tops (ws * B)).1=x at *
  generalize (Fr.sh tops (ws * B)).2=y at *
  rw [a,b] at cr
  have:(r2.w * B) * (x * r2.b)=(r2.w * B) * (r2.t * y):=by grind
  exact Int.eq_of_mul_eq_mul_left (Int.ne_of_gt (Int.mul_pos (by omega) hB)) this
 obtain ⟨u1,u2⟩:=Fr.Di ok (fr r2 fm) q
 exact Prod.ext u1 u2
end Tb
namespace Tb
def Wt (ps:List Rw) (t b:Int):Int:=(ps.map fun r=>if r.t=t /\ r.b=b then r.w else 0).sum
def tH (ps:List Rw) (t b:Int):Prop:=∃ p ∈ ps,p.t=t /\ p.b=b
def Lt (x y:Rw):Prop:=x.t * y.b < y.t * x.b
structure Aw (ps ys:List Rw):Prop where
 lt:ys.Pairwise Lt
 fr:∀ y ∈ ys,Fr.jG y.t y.b
 has:∀ t b,tH ys t b ↔ tH ps t b
 d:∃ d,0 < d /\ ∀ y ∈ ys,Wt ps y.t y.b=y.w * d
 one:∀ e:Int,(∀ y ∈ ys,e ∣ y.w)->e ∣ 1
theorem Oo (t b:Int):Wt [] t b=0:=rfl
theorem kZ (r:Rw) (ps:List Rw) (t b:Int):Wt (r :: ps) t b=(if r.t=t /\ r.b=b then r.w else 0) + Wt ps t b:=by simp [Wt]
theorem xR (ps qs:List Rw) (t b:Int):Wt (ps ++ qs) t b=Wt ps t b + Wt qs t b:=by simp [Wt]
theorem kO {ps qs:List Rw}{t b:Int}:tH (ps ++ qs) t b ↔ tH ps t b ∨ tH qs t b:=by
 constructor
 ·rintro ⟨p,hp,e⟩
  rcases List.mem_append.mp hp with z | z
  ·exact .inl ⟨p,z,e⟩
  ·exact .inr ⟨p,z,e⟩
 ·rintro (⟨p,hp,e⟩ | ⟨p,hp,e⟩)
  ·exact ⟨p,List.mem_append_left _ hp,e⟩
  ·exact ⟨p,List.mem_append_right _ hp,e⟩
theorem jF {r:Rw}{ps:List Rw}{t b:Int}:tH (r :: ps) t b ↔ (r.t=t /\ r.b=b) ∨ tH ps t b:=by
 constructor
 ·rintro ⟨p,hp,e⟩
  rcases List.mem_cons.mp hp with z | z
  ·subst z; exact .inl e
  ·exact .inr ⟨p,z,e⟩
 ·rintro (e | ⟨p,hp,e⟩)
  ·exact ⟨r,List.mem_cons_self,e⟩
  ·exact ⟨p,List.mem_cons_of_mem _ hp,e⟩
theorem sZ {t b:Int}:¬ tH [] t b:=by rintro ⟨p,hp,_⟩; cases hp
theorem Et:∀ {ps:List Rw}{t b:Int},¬ tH ps t b->Wt ps t b=0
 | [],_,_,_=>rfl
 | r :: ps,t,b,h=>by
  rw [kZ,if_neg fun e=>h (jF.mpr (.inl e)),Et fun e=>h (jF.mpr (.inr e))]
  rfl
theorem NP:∀ {ps:List Rw} (t b:Int),(∀ r ∈ ps,1 <= r.w)->0 <= Wt ps t b
 | [],_,_,_=>Int.le_refl 0
 | r :: ps,t,b,h=>by
  have:=NP t b fun x hx=>h x (List.mem_cons_of_mem _ hx)
  have hr:=h r List.mem_cons_self
  rw [kZ]
  split <;> omega
theorem z8:∀ {ps:List Rw}{t b:Int},(∀ r ∈ ps,1 <= r.w)->tH ps t b->1 <= Wt ps t b
 | [],_,_,_,h=>absurd h sZ
 | r :: ps,t,b,h,q=>by
  have hr:=h r List.mem_cons_self
  have hn:=NP t b fun x hx=>h x (List.mem_cons_of_mem _ hx)
  rw [kZ]
  split
  ·omega
  ·rename_i ne
   rcases jF.mp q with z | z
   ·exact absurd z ne
   ·have:=z8 (fun x hx=>h x (List.mem_cons_of_mem _ hx)) z
    omega
theorem Nb:∀ {ps:List Rw} (t b:Int),(∀ r ∈ ps,1 <= r.w)->Wt ps t b <= W ps
 | [],_,_,_=>Int.le_refl 0
 | r :: ps,t,b,h=>by
  have hr:=h r List.mem_cons_self
  have:=Nb t b fun x hx=>h x (List.mem_cons_of_mem _ hx)
  rw [kZ,gY]
  split <;> omega
theorem Jd {x y:Rw} (h:Lt x y) (e1:x.t=y.t) (e2:x.b=y.b):False:=by
 unfold Lt at h
 rw [e1,e2] at h
 omega
theorem Kf {t b u c m:Int} (hb:0 < b) (hc:0 < c) (bm:b <= m) (cm:c <= m) (lt:t * c < u * b):(t * (m * m)).fdiv b < (u * (m * m)).fdiv c:=by
 have hm:0 < m:=by omega
 rw [Int.fdiv_eq_ediv_of_nonneg _ (Int.le_of_lt hb),Int.fdiv_eq_ediv_of_nonneg _ (Int.le_of_lt hc)]
 have k1:(t * (m * m)) / b * b <= t * (m * m):=Int.ediv_mul_le _ (Int.ne_of_gt hb)
 have hbc:b * c <= m * m:=Int.mul_le_mul bm cm (Int.le_of_lt hc) (Int.le_of_lt hm)
 have h1:(t * c + 1) * (m * m) <= u * b * (m * m):=Int.mul_le_mul_of_nonneg_right (by omega) (Int.le_of_lt (Int.mul_pos hm hm))
 suffices h:(t * (m * m)) / b + 1 <= (u * (m * m)) / c by omega
 refine (Int.le_ediv_iff_mul_le hc).mpr ?_
 have h2:b * (((t * (m * m)) / b + 1) * c) <= b * (u * (m * m)):=by
  have e1:b * (((t * (m * m)) / b + 1) * c)=c * ((t * (m * m)) / b * b) + b * c:=by grind
  have e2:b * (u * (m * m))=u * b * (m * m):=by grind
  have e3:(t * c + 1) * (m * m)=c * (t * (m * m)) + m * m:=by grind
  have h3:=Int.mul_le_mul_of_nonneg_left k1 (Int.le_of_lt hc)
  omega
 exact Int.le_of_mul_le_mul_left h2 hb
def u9 (ns:List Int):Int:=ns.foldl (fun d n=>((Int.gcd d n:Nat):Int)) 0
theorem Hy (ns:List Int) (n:Int):u9 (ns ++ [n])=((Int.gcd (u9 ns) n:Nat):Int):=by unfold u9; rw [List.foldl_append]; rfl
theorem vC:∀ (ns:List Int) (d:Int),(ns.foldl (fun d n=>((Int.gcd d n:Nat):Int)) d ∣ d) /\ (∀ n ∈ ns,ns.foldl (fun d n=>((Int.gcd d n:Nat):Int)) d ∣ n) /\ ∀ e:Int,e ∣ d->(∀ n ∈ ns,e ∣ n)->e ∣ ns.foldl (fun d n=>((Int.gcd d n:Nat):Int)) d
 | [],d=>⟨Int.dvd_refl d,(fun _ h=>nomatch h),fun e h _=>h⟩
 | n :: ns,d=>by
  obtain ⟨a,b,c⟩:=vC ns ((Int.gcd d n:Nat):Int)
  refine ⟨Int.dvd_trans a (Int.gcd_dvd_left d n),fun k hk=>?_,fun e he hn=>c e (Int.dvd_coe_gcd he (hn n List.mem_cons_self)) fun k hk=>hn k (List.mem_cons_of_mem _ hk)⟩
  rcases List.mem_cons.mp hk with z | z
  ·subst z; exact Int.dvd_trans a (Int.gcd_dvd_right d k)
  ·exact b k z
theorem tY {ns:List Int}{n:Int} (h:n ∈ ns):u9 ns ∣ n:=(vC ns 0).2.1 n h
theorem Do {ns:List Int}{e:Int} (h:∀ n ∈ ns,e ∣ n):e ∣ u9 ns:=(vC ns 0).2.2 e (Int.dvd_zero e) h
theorem Ge:∀ (ns:List Int) (d:Int),0 <= d->0 <= ns.foldl (fun d n=>((Int.gcd d n:Nat):Int)) d
 | [],_,h=>h
 | n :: ns,d,_=>Ge ns _ (Int.natCast_nonneg _)
theorem KH {ns:List Int}{n:Int} (h:n ∈ ns) (hn:1 <= n):0 < u9 ns:=by
 have h0:0 <= u9 ns:=Ge ns 0 (Int.le_refl 0)
 rcases (by omega:0 < u9 ns ∨ u9 ns=0) with z | z
 ·exact z
 ·have:=tY h
  rw [z] at this
  have:=Int.zero_dvd.mp this
  omega
end Tb
set_option maxHeartbeats 4000000
namespace TD
open PySem L2
open Builtin.Int (intBits)
structure dY where
 p:Addr
 q:Addr
 t:Int
 b:Int
 w:Int
def dY.r (x:dY):Tb.Rw:=⟨x.t,x.b,x.w⟩
def jB (H:Hp) (x:dY):Prop:=H x.p=some (.tup [.ref x.q,.int x.w]) /\ H x.q=some (.tup [.int x.t,.int x.b])
def jK (xs:List dY):List V:=xs.map fun x=>V.ref x.p
structure fY (H:Hp) (a:Addr) (xs:List dY):Prop where
 lst:H a=some (.lst (jK xs))
 rows:∀ x ∈ xs,jB H x
def dX (xs:List dY):List Tb.Rw:=xs.map dY.r
theorem jB.same {H H':Hp}{x:dY} (s:aN H H') (h:jB H x):jB H' x:=⟨s _ _ h.1,s _ _ h.2⟩
theorem fY.same {H H':Hp}{a:Addr}{xs:List dY} (s:aN H H') (h:fY H a xs):fY H' a xs:=⟨s _ _ h.lst,fun x hx=>(h.rows x hx).same s⟩
theorem cX (xs:List dY):(jK xs).length=xs.length:=List.length_map _
theorem fC (xs:List dY):(dX xs).length=xs.length:=List.length_map _
theorem m7 {xs:List dY}{i:Nat}{v:V} (h:(jK xs)[i]? = some v):∃ x,xs[i]? = some x /\ v = .ref x.p:=by
 unfold jK at h
 rw [List.getElem?_map] at h
 cases e:xs[i]? with
 | none=>rw [e] at h; cases h
 | some x=>rw [e] at h; cases h; exact ⟨x,rfl,rfl⟩
theorem nM (xs:List dY) (y:dY):jK (xs ++ [y])=jK xs ++ [V.ref y.p]:=by unfold jK; rw [List.map_append]; rfl
theorem jV (xs:List dY) (y:dY):dX (xs ++ [y])=dX xs ++ [y.r]:=by unfold dX; rw [List.map_append]; rfl
theorem DP (xs ys:List dY):dX (xs ++ ys)=dX xs ++ dX ys:=by unfold dX; rw [List.map_append]
theorem bL {α : Type}{xs:List α}{i:Nat}{x:α} (h:xs[i]? = some x):xs.take (i + 1)=xs.take i ++ [x]:=by
 rw [List.take_add_one,h]
 rfl
theorem jB.over {H:Hp}{a:Addr}{xs zs:List V}{x:dY} (h:jB H x) (e:H a=some (.lst xs)):jB (aU H a (.lst zs)) x :=
 ⟨by rw [aL (bJ h.1 e fun z=>nomatch z)]; exact h.1,by rw [aL (bJ h.2 e fun z=>nomatch z)]; exact h.2⟩
theorem MK:1 <= sizeLine:=Nat.le_of_lt (aZ (by decide))
theorem vY:2 <= sizeLine:=Nat.le_of_lt (aZ (by decide))
theorem Ky:3 <= sizeLine:=Nat.le_of_lt (aZ (by decide))
theorem gP {m n:Nat}{x y:Int} (hx:intBits x <= m) (hy:intBits y <= n) (h:m + n <= 134217728):JH x y:=Nat.le_trans (Nat.add_le_add hx hy) h
theorem gM {K:PySem.W.Frag} (T:String):PySem.W.kitOne K (.type T) (.type T)=some true:=by
 unfold PySem.W.kitOne
 rw [if_pos (beq_self_eq_true _)]
theorem Ac {K:PySem.W.Frag}:PySem.W.kitOne K (.type "int") (.type "bool")=some false:=by rfl
structure Rs where
 q:Addr
 t:Int
 b:Int
def lN (rs:List Rs):List V:=rs.map fun r=>V.ref r.q
def Ql (x y:Rs):Prop:=x.t * y.b < y.t * x.b
def LeR (x y:Rs):Prop:=x.t * y.b <= y.t * x.b
def jP (r:Rs):List dG:=[.inl r.t,.inl r.b]
def PQ (H:Hp) (r:Rs):Prop:=H r.q=some (.tup [.int r.t,.int r.b])
theorem pH (rs:List Rs):(lN rs).length=rs.length:=List.length_map _
theorem Mj (rs:List Rs):lN rs=(rs.map (·.q)).map V.ref:=by unfold lN; rw [List.map_map]; rfl
theorem BX {rs:List Rs}{i:Nat}{v:V} (h:(lN rs)[i]? = some v):∃ x,rs[i]? = some x /\ v = .ref x.q:=by
 unfold lN at h
 rw [List.getElem?_map] at h
 cases e:rs[i]? with
 | none=>rw [e] at h; cases h
 | some x=>rw [e] at h; cases h; exact ⟨x,rfl,rfl⟩
theorem tE {x:Rs}{t b:Int}:jP x=[.inl t,.inl b] ↔ x.t=t /\ x.b=b:=by
 unfold jP
 constructor
 ·intro h
  injection h with h1 h2
  injection h2 with h2 _
  injection h1 with h1
  injection h2 with h2
  exact ⟨h1,h2⟩
 ·rintro ⟨rfl,rfl⟩; rfl
theorem Uz {x y:Rs} (fx:Fr.jG x.t x.b) (fy:Fr.jG y.t y.b) (h:LeR x y) (ne:jP x ≠ jP y):Ql x y:=by
 unfold LeR at h
 unfold Ql
 rcases (by omega:x.t * y.b < y.t * x.b ∨ x.t * y.b=y.t * x.b) with z | z
 ·exact z
 ·obtain ⟨e1,e2⟩:=Fr.Di fx fy z
  exact absurd (tE.mpr ⟨e1,e2⟩) ne
structure Dk (ps:List Tb.Rw) (kvs:List (List dG × V)):Prop where
 nd:(kvs.map (·.1)).Nodup
 en:∀ kv ∈ kvs,∃ t b,kv=([.inl t,.inl b],.int (Tb.Wt ps t b)) /\ Tb.tH ps t b
 all:∀ t b,Tb.tH ps t b->([Sum.inl t,Sum.inl b]:List dG) ∈ kvs.map (·.1)
theorem Dk.nil:Dk [] []:=⟨List.nodup_nil,(fun _ h=>nomatch h),fun t b h=>absurd h Tb.sZ⟩
theorem uX {kvs:List (List dG × V)}{k:List dG}{v:V} (h:lD kvs k=some v):(k,v) ∈ kvs:=by
 unfold lD at h
 cases e:kvs.find? fun kv=>decide (kv.1=k) with
 | none=>rw [e] at h; cases h
 | some kv =>
  rw [e] at h
  have h1:kv.2=v:=Option.some.inj h
  have h2:=List.find?_some e
  have h3:kv.1=k:=of_decide_eq_true h2
  rw [<- h1,<- h3]
  exact List.mem_of_find?_eq_some e
theorem Es {t b t' b':Int} (h:([Sum.inl t,Sum.inl b]:List dG)=[.inl t',.inl b']):t=t' /\ b=b':=by
 injection h with h1 h2
 injection h2 with h2 _
 injection h1 with h1
 injection h2 with h2
 exact ⟨h1,h2⟩
theorem Dk.val {ps:List Tb.Rw}{kvs:List (List dG × V)} (d:Dk ps kvs) {t b:Int} (h:Tb.tH ps t b):lD kvs [.inl t,.inl b]=some (.int (Tb.Wt ps t b)):=by
 cases e:lD kvs [.inl t,.inl b] with
 | none=>exact absurd (d.all t b h) (J3 e)
 | some v =>
  obtain ⟨t',b',e2,_⟩:=d.en _ (uX e)
  injection e2 with e3 e4
  obtain ⟨rfl,rfl⟩:=Es e3
  rw [e4]
theorem Dk.get {ps:List Tb.Rw}{kvs:List (List dG × V)} (d:Dk ps kvs) (t b:Int):(lD kvs [.inl t,.inl b]).getD (.int 0) = .int (Tb.Wt ps t b):=by
 by_cases h:Tb.tH ps t b
 ·rw [d.val h]; rfl
 ·cases e:lD kvs [.inl t,.inl b] with
  | none=>rw [Tb.Et h]; rfl
  | some v =>
   obtain ⟨t',b',e2,h2⟩:=d.en _ (uX e)
   injection e2 with e3 e4
   obtain ⟨rfl,rfl⟩:=Es e3
   exact absurd h2 h
theorem JV {kvs:List (List dG × V)}{k:List dG}{v:V}{kv:List dG × V} (h:kv ∈ lV kvs k v):kv=(k,v) ∨ (kv ∈ kvs /\ kv.1 ≠ k):=by
 unfold lV at h
 split at h
 ·obtain ⟨x,hx,e⟩:=List.mem_map.mp h
  split at e
  ·rename_i ek
   left
   rw [<- e,ek]
  ·rename_i ek
   right
   rw [<- e]
   exact ⟨hx,ek⟩
 ·rename_i na
  rcases List.mem_append.mp h with z | z
  ·right
   refine ⟨z,fun ek=>na ?_⟩
   exact List.any_eq_true.mpr ⟨kv,z,decide_eq_true ek⟩
  ·exact .inl (by simpa using z)
theorem xT {kvs:List (List dG × V)}{k:List dG}{v:V}:(lV kvs k v).map (·.1)=if (kvs.any fun kv=>decide (kv.1=k))=true then kvs.map (·.1) else kvs.map (·.1) ++ [k]:=by
 unfold lV
 split
 ·rw [List.map_map]
  refine List.map_congr_left fun x _=>?_
  show (if x.1=k then (x.1,v) else x).1=x.1
  split <;> rfl
 ·rw [List.map_append]; rfl
theorem Dk.put {ps:List Tb.Rw}{kvs:List (List dG × V)} (d:Dk ps kvs) (x:Tb.Rw):Dk (ps ++ [x]) (lV kvs [.inl x.t,.inl x.b] (.int (Tb.Wt ps x.t x.b + x.w))):=by
 have hx:∀ t b,Tb.Wt [x] t b=if x.t=t /\ x.b=b then x.w else 0:=fun t b=>by rw [Tb.kZ,Tb.Oo,Int.add_zero]
 refine ⟨?_,fun kv hkv=>?_,fun t b h=>?_⟩
 ·rw [xT]
  split
  ·exact d.nd
  ·rename_i na
   refine List.nodup_append.mpr ⟨d.nd,List.nodup_cons.mpr ⟨List.not_mem_nil,List.nodup_nil⟩,fun y hy z hz=>?_⟩
   rw [List.mem_singleton.mp hz]
   rintro rfl
   obtain ⟨kv,hkv,e⟩:=List.mem_map.mp hy
   exact na (List.any_eq_true.mpr ⟨kv,hkv,decide_eq_true e⟩)
 ·rcases JV hkv with z | ⟨z,ne⟩
  ·refine ⟨x.t,x.b,?_,Tb.kO.mpr (.inr ⟨x,List.mem_cons_self,rfl,rfl⟩)⟩
   rw [z,Tb.xR,hx,if_pos ⟨rfl,rfl⟩]
  ·obtain ⟨t,b,e,h⟩:=d.en kv z
   refine ⟨t,b,?_,Tb.kO.mpr (.inl h)⟩
   rw [Tb.xR,hx,if_neg ?_,Int.add_zero]
   ·exact e
   ·rintro ⟨rfl,rfl⟩
    exact ne (by rw [e])
 ·rw [xT]
  have key:([Sum.inl t,Sum.inl b]:List dG) ∈ kvs.map (·.1) ∨ ([Sum.inl t,Sum.inl b]:List dG)=[.inl x.t,.inl x.b]:=by
   rcases Tb.kO.mp h with z | ⟨p,hp,e1,e2⟩
   ·exact .inl (d.all t b z)
   ·right
    rw [List.mem_singleton.mp hp] at e1 e2
    rw [e1,e2]
  split
  ·rename_i ya
   rcases key with z | z
   ·exact z
   ·obtain ⟨kv,hkv,e⟩:=List.any_eq_true.mp ya
    rw [z,<- of_decide_eq_true e]
    exact List.mem_map.mpr ⟨kv,hkv,rfl⟩
  ·rcases key with z | z
   ·exact List.mem_append_left _ z
   ·rw [z]; exact List.mem_append_right _ (.head _)
def wOf (kv:List dG × V):Int:=match kv.2 with | .int w=>w | _=>0
def iT (kvs:List (List dG × V)):Int:=Tb.u9 (kvs.map wOf)
theorem Dk.wOf {ps:List Tb.Rw}{kvs:List (List dG × V)} (d:Dk ps kvs) {t b:Int} (h:Tb.tH ps t b):Tb.Wt ps t b ∈ kvs.map TD.wOf:=by
 have m:=uX (d.val h)
 exact List.mem_map.mpr ⟨_,m,rfl⟩
theorem Dk.ne {ps:List Tb.Rw}{kvs:List (List dG × V)} (d:Dk ps kvs) (h:ps ≠ []):kvs ≠ []:=by
 cases ps with
 | nil=>exact absurd rfl h
 | cons p ps =>
  intro e
  have:=d.all p.t p.b (Tb.jF.mpr (.inl ⟨rfl,rfl⟩))
  rw [e] at this
  cases this
theorem Dk.div_pos {ps:List Tb.Rw}{kvs:List (List dG × V)} (d:Dk ps kvs) (h:ps ≠ []) (hw:∀ p ∈ ps,1 <= p.w):0 < iT kvs:=by
 cases ps with
 | nil=>exact absurd rfl h
 | cons p ps =>
  have hp:Tb.tH (p :: ps) p.t p.b:=Tb.jF.mpr (.inl ⟨rfl,rfl⟩)
  exact Tb.KH (d.wOf hp) (Tb.z8 hw hp)
theorem MN {w d:Int} (hd:0 < d) (hw:1 <= w) (h:d ∣ w):w=w.fdiv d * d /\ 1 <= w.fdiv d /\ w.fdiv d <= w:=by
 obtain ⟨c,e⟩:=h
 have ec:w.fdiv d=c:=by
  have h:=Int.mul_fdiv_cancel_left (a:=d) c (Int.ne_of_gt hd)
  rw [<- e] at h
  exact h
 rw [ec]
 have cp:0 < c:=by
  rcases (by omega:0 < c ∨ c <= 0) with z | z
  ·exact z
  ·have:=Int.mul_nonpos_of_nonneg_of_nonpos (Int.le_of_lt hd) z
   omega
 have:=Int.mul_le_mul_of_nonneg_right (show (1:Int) <= d by omega) (Int.le_of_lt cp)
 refine ⟨by rw [e,Int.mul_comm],by omega,by omega⟩
theorem Qc {ps:List Tb.Rw}{kvs:List (List dG × V)}{rs:List Rs}{ys:List dY} (d:Dk ps kvs) (hw:∀ p ∈ ps,1 <= p.w) (hf:∀ p ∈ ps,Fr.jG p.t p.b) (hne:ps ≠ []) (pr:(rs.map jP).Perm (kvs.map (·.1))) (so:rs.Pairwise Ql)
  (ey:ys.map (fun y=>Rs.mk y.q y.t y.b)=rs) (yw:∀ y ∈ ys,y.w=(Tb.Wt ps y.t y.b).fdiv (iT kvs)):Tb.Aw ps (dX ys) /\ ∀ y ∈ ys,1 <= y.w /\ y.w <= Tb.Wt ps y.t y.b:=by
 have dp:=d.div_pos hne hw
 have yk:∀ y ∈ ys,Tb.tH ps y.t y.b:=fun y hy=>by
  have h1:jP (Rs.mk y.q y.t y.b) ∈ rs.map jP:=by
   rw [<- ey]
   exact List.mem_map.mpr ⟨_,List.mem_map.mpr ⟨y,hy,rfl⟩,rfl⟩
  obtain ⟨kv,hkv,e⟩:=List.mem_map.mp (pr.mem_iff.mp h1)
  obtain ⟨t,b,e2,h⟩:=d.en kv hkv
  rw [e2] at e
  obtain ⟨e3,e4⟩:=tE.mp e.symm
  have e3:y.t=t:=e3
  have e4:y.b=b:=e4
  rw [e3,e4]
  exact h
 have pb:∀ y ∈ ys,Tb.Wt ps y.t y.b=y.w * iT kvs /\ 1 <= y.w /\ y.w <= Tb.Wt ps y.t y.b:=fun y hy=>by
  rw [yw y hy]
  exact MN dp (Tb.z8 hw (yk y hy)) (Tb.tY (d.wOf (yk y hy)))
 have back:∀ t b,Tb.tH ps t b->∃ y ∈ ys,y.t=t /\ y.b=b:=fun t b h=>by
  obtain ⟨r,hr,e⟩:=List.mem_map.mp (pr.mem_iff.mpr (d.all t b h))
  rw [<- ey] at hr
  obtain ⟨y,hy,rfl⟩:=List.mem_map.mp hr
  exact ⟨y,hy,tE.mp e⟩
 refine ⟨⟨?_,fun y hy=>?_,fun t b=>?_,⟨iT kvs,dp,fun y hy=>?_⟩,fun e he=>?_⟩,fun y hy=>(pb y hy).2⟩
 ·have h:(ys.map fun y=>Rs.mk y.q y.t y.b).Pairwise Ql:=by rw [ey]; exact so
  unfold dX
  rw [List.pairwise_map] at h ⊢
  exact h
 ·obtain ⟨z,hz,rfl⟩:=List.mem_map.mp hy
  obtain ⟨p,hp,e1,e2⟩:=yk z hz
  have:=hf p hp
  rw [e1,e2] at this
  exact this
 ·constructor
  ·rintro ⟨y,hy,rfl,rfl⟩
   obtain ⟨z,hz,rfl⟩:=List.mem_map.mp hy
   exact yk z hz
  ·intro h
   obtain ⟨y,hy,e1,e2⟩:=back t b h
   exact ⟨y.r,List.mem_map.mpr ⟨y,hy,rfl⟩,e1,e2⟩
 ·obtain ⟨z,hz,rfl⟩:=List.mem_map.mp hy
  exact (pb z hz).1
 ·have g:e * iT kvs ∣ iT kvs:=by
   refine Tb.Do fun n hn=>?_
   obtain ⟨kv,hkv,rfl⟩:=List.mem_map.mp hn
   obtain ⟨t,b,e2,h⟩:=d.en kv hkv
   obtain ⟨y,hy,rfl,rfl⟩:=back t b h
   have q:=(pb y hy).1
   have q2:=he y.r (List.mem_map.mpr ⟨y,hy,rfl⟩)
   rw [e2]
   show e * iT kvs ∣ Tb.Wt ps y.t y.b
   rw [q]
   exact Int.mul_dvd_mul_right _ q2
  have g2:e * iT kvs ∣ 1 * iT kvs:=by rw [Int.one_mul]; exact g
  exact Int.dvd_of_mul_dvd_mul_right (Int.ne_of_gt dp) g2
theorem HR {α β : Type}{f:α->β}:∀ {x m:List β},x.Perm m->∀ l:List α,x=l.map f->∃ l':List α,l'.Perm l /\ m=l'.map f:=by
 intro x m h
 induction h with
 | nil=>intro l e; exact ⟨l,.refl _,e⟩
 | cons a p ih =>
  intro l e
  cases l with
  | nil=>cases e
  | cons b l =>
   injection e with e1 e2
   obtain ⟨l',p',e'⟩:=ih l e2
   exact ⟨b :: l',p'.cons b,by rw [List.map_cons,<- e1,<- e']⟩
 | swap a b t =>
  intro l e
  match l,e with
  | c :: d :: l,e =>
   injection e with e1 e2
   injection e2 with e2 e3
   exact ⟨d :: c :: l,.swap ..,by rw [List.map_cons,List.map_cons,<- e1,<- e2,<- e3]⟩
 | trans p q ih1 ih2 =>
  intro l e
  obtain ⟨l1,p1,e1⟩:=ih1 l e
  obtain ⟨l2,p2,e2⟩:=ih2 l1 e1
  exact ⟨l2,p2.trans p1,e2⟩
def J2 (m:Int) (r:Rs):Int:=(r.t * (m * m)).fdiv r.b
theorem Ak {β : Type} (f:Rs->β) (g:Rs->Addr):∀ rs:List Rs,(rs.map f).zip (rs.map g)=rs.map fun r=>(f r,g r)
 | []=>rfl
 | r :: rs=>by simp [Ak f g rs]
theorem Lz {m:Int}{rs:List Rs}{ps:List (Int × Addr)} (hp:ps.Perm ((rs.map (J2 m)).zip (rs.map (·.q)))) (hs:ps.Pairwise fun p q=>p.1 <= q.1) (nd:(rs.map jP).Nodup) (fr:∀ r ∈ rs,Fr.jG r.t r.b) (hm:∀ r ∈ rs,r.b <= m) :
  ∃ rs':List Rs,rs'.Perm rs /\ ps.map (fun p=>V.ref p.2)=lN rs' /\ rs'.Pairwise Ql:=by
 rw [Ak] at hp
 obtain ⟨rs',p',e⟩:=HR hp.symm rs rfl
 refine ⟨rs',p',?_,?_⟩
 ·rw [e,List.map_map]; rfl
 ·have nd':(rs'.map jP).Nodup:=(p'.map jP).nodup_iff.mpr nd
  rw [e,List.pairwise_map] at hs
  have nd2:rs'.Pairwise fun x y=>jP x ≠ jP y:=List.pairwise_map.mp nd'
  refine (hs.and nd2).imp_of_mem fun {x y} hx hy h=>?_
  have fx:=fr x (p'.mem_iff.mp hx)
  have fy:=fr y (p'.mem_iff.mp hy)
  refine Uz fx fy ?_ h.2
  unfold LeR
  rcases (by omega:x.t * y.b <= y.t * x.b ∨ y.t * x.b < x.t * y.b) with z | z
  ·exact z
  ·have:=Tb.Kf fy.pos fx.pos (hm y (p'.mem_iff.mp hy)) (hm x (p'.mem_iff.mp hx)) z
   have h1:J2 m x <= J2 m y:=h.1
   unfold J2 at h1
   omega
end TD
namespace L2
open PySem PySem.Spec PyProof.Rows
end L2
namespace TD
open PySem L2
open Builtin.Int (intBits)
def dJ (m n:Int):Int:=m * (n.fdiv ((Int.gcd m n:Nat):Int))
def dF (ns:List Int):Int:=ns.foldl dJ 1
theorem Dh {m n:Int} (hm:0 < m) (hn:0 < n):0 < dJ m n /\ m ∣ dJ m n /\ n ∣ dJ m n:=by
 have hg:0 < ((Int.gcd m n:Nat):Int):=by have:=Int.gcd_pos_of_ne_zero_right m (Int.ne_of_gt hn); omega
 obtain ⟨c,hc⟩:=Int.gcd_dvd_right m n
 obtain ⟨d,hd⟩:=Int.gcd_dvd_left m n
 have e:n.fdiv ((Int.gcd m n:Nat):Int)=c:=by
  have h:=Int.mul_fdiv_cancel_left (a:=((Int.gcd m n:Nat):Int)) c (by omega)
  rw [<- hc] at h
  exact h
 have cp:0 < c:=by
  rcases (by omega:0 < c ∨ c <= 0) with z | z
  ·exact z
  ·have:=Int.mul_nonpos_of_nonneg_of_nonpos (Int.le_of_lt hg) z
   omega
 unfold dJ
 rw [e]
 refine ⟨Int.mul_pos hm cp,⟨c,rfl⟩,⟨d,?_⟩⟩
 generalize ((Int.gcd m n:Nat):Int)=g at *
 rw [hc,hd]
 grind
theorem Ay:∀ (ns:List Int) (m:Int),0 < m->(∀ n ∈ ns,0 < n)->0 < ns.foldl dJ m /\ m ∣ ns.foldl dJ m /\ ∀ n ∈ ns,n ∣ ns.foldl dJ m
 | [],m,hm,_=>⟨hm,Int.dvd_refl m,fun _ h=>nomatch h⟩
 | n :: ns,m,hm,h=>by
  obtain ⟨a,b,c⟩:=Dh hm (h n List.mem_cons_self)
  obtain ⟨x,y,z⟩:=Ay ns (dJ m n) a fun k hk=>h k (List.mem_cons_of_mem _ hk)
  refine ⟨x,Int.dvd_trans b y,fun k hk=>?_⟩
  rcases List.mem_cons.mp hk with e | e
  ·subst e; exact Int.dvd_trans c y
  ·exact z k e
theorem FP {ns:List Int} (h:∀ n ∈ ns,0 < n):0 < dF ns /\ ∀ n ∈ ns,n ∣ dF ns:=by
 obtain ⟨a,_,c⟩:=Ay ns 1 (by decide) h
 exact ⟨a,c⟩
theorem BV:∀ (ns:List Int) (m:Int) (k:Nat),intBits m <= k->intBits (ns.foldl dJ m) <= k + (ns.map intBits).sum
 | [],m,k,h=>by simpa using h
 | n :: ns,m,k,h=>by
  have h1:intBits (dJ m n) <= k + intBits n:=PySem.intBits_mul_le h (PySem.intBits_fdiv_le (Nat.le_refl _))
  have:=BV ns (dJ m n) _ h1
  simp only [List.map_cons,List.sum_cons]
  show intBits (ns.foldl dJ (dJ m n)) <= _
  omega
theorem w6 (ns:List Int):intBits (dF ns) <= 1 + (ns.map intBits).sum:=BV ns 1 1 (by decide)
theorem Gy (ns:List Int) (n:Int):dF (ns ++ [n])=dJ (dF ns) n:=by unfold dF; rw [List.foldl_append]; rfl
theorem Cz (ns:List Int) (i:Nat):((ns.take i).map intBits).sum <= (ns.map intBits).sum:=by
 have e:ns.map intBits=(ns.take i).map intBits ++ (ns.drop i).map intBits:=by rw [<- List.map_append,List.take_append_drop]
 rw [e,List.sum_append]
 omega
theorem oY {k:Nat}:∀ {l:List Nat},(∀ n ∈ l,n <= k)->l.sum <= k * l.length
 | [],_=>by simp
 | n :: l,h=>by
  have a:=oY (l:=l) fun m hm=>h m (List.mem_cons_of_mem _ hm)
  have b:=h n List.mem_cons_self
  simp only [List.sum_cons,List.length_cons]
  rw [Nat.mul_add,Nat.mul_one]
  omega
def Ml:Sp:=fun vs H Q _=>∃ a b:Int,vs=[.int a,.int b] /\ Q (.int ((Int.gcd a b:Nat):Int)) H
def yQ:Sp:=fun vs H Q _=>∃ t b:Int,vs=[.int t,.int b] /\ b ≠ 0 /\ intBits b <= 9000 /\ ∀ p H',aN H H'->H' p=some (.tup [.int (Fr.sh t b).1,.int (Fr.sh t b).2])->Q (.ref p) H'
structure Sz (a b c d:Int):Prop where
 a:intBits a <= 10000
 b:intBits b <= 10000
 c:intBits c <= 10000
 d:intBits d <= 10000
def Fd (K:PySem.W.Frag):Sp:=fun vs H Q _=>∃ p q a b c d,vs=[.ref p,.ref q] /\ cN K H p [.int a,.int b] /\ cN K H q [.int c,.int d] /\ Sz a b c d /\ Q (.bl (decide (a * d < c * b))) H
def Px (K:PySem.W.Frag):Sp:=fun vs H Q _=>∃ (a:Addr) (ns:List Int),vs=[.ref a] /\ bO K H a (ns.map V.int) /\ (∀ n ∈ ns,0 < n) /\ (∀ n ∈ ns,intBits n <= 9000) /\ (ns.map intBits).sum <= 200000 /\ Q (.int (dF ns)) H
def cI (xs:List dY):Int:=(xs.map dY.w).sum
def QB:Sp:=fun vs H Q _=>∃ (a:Addr) (xs:List dY),vs=[.ref a] /\ fY H a xs /\ xs.length <= 1000 /\ ∀ H',aN H H'->Q (.int (cI xs)) H'
def kY:Str:=("rising" : Str) ++ ".<locals>." ++ "<lambda>"
def Kq (K:PySem.W.Frag) (P:Addr) (lp:Pos):Sp:=fun vs H Q _=>∃ (a:Addr) (rs:List Rs),vs=[.ref a] /\ bO K H a (lN rs) /\ rs ≠ [] /\ rs.length < 64 /\ (∀ r ∈ rs,PQ H r /\ Fr.jG r.t r.b /\ intBits r.t <= 4000 /\ intBits r.b <= 4000) /\ (rs.map jP).Nodup /\ eX P lp kY H ∧
 ∀ (D:Addr) (H':Hp) (rs':List Rs),cA P H H'->eX P lp kY H'->H' D=some (.lst (lN rs'))->rs'.Perm rs->rs'.Pairwise Ql->Q (.ref D) H'
def Ck:Int:=2 ^ 4000
def PB (xs:List dY):Prop:=∀ x ∈ xs,Fr.jG x.t x.b /\ intBits x.t <= 4000 /\ intBits x.b <= 4000 /\ 1 <= x.w /\ x.w <= Ck
structure Gk (ps:List Tb.Rw) (ys:List dY):Prop where
 tab:Tb.Aw ps (dX ys)
 w:∀ y ∈ ys,1 <= y.w /\ y.w <= Tb.Wt ps y.t y.b
def Dj (P:Addr) (lp:Pos):Sp:=fun vs H Q _=>∃ (a:Addr) (xs:List dY),vs=[.ref a] /\ fY H a xs /\ xs ≠ [] /\ xs.length < 64 /\ PB xs /\ eX P lp kY H ∧
 ∀ (r:Addr) (H':Hp) (ys:List dY),cA P H H'->eX P lp kY H'->H r=none->fY H' r ys->Gk (dX xs) ys->ys.length <= xs.length->Q (.ref r) H'
theorem PB.ps {xs:List dY} (h:PB xs):(∀ p ∈ dX xs,1 <= p.w) /\ ∀ p ∈ dX xs,Fr.jG p.t p.b:=by
 refine ⟨fun p hp=>?_,fun p hp=>?_⟩ <;>
 ·obtain ⟨x,hx,rfl⟩:=List.mem_map.mp hp
  first | exact (h x hx).2.2.2.1 | exact (h x hx).1
theorem qQ (xs:List dY):cI xs=Tb.W (dX xs):=by
 unfold cI Tb.W dX
 rw [List.map_map]
 rfl
theorem Tc {m:Int} (hm:0 <= m):∀ {ps:List Tb.Rw},(∀ p ∈ ps,1 <= p.w /\ p.w <= m)->0 <= Tb.W ps /\ Tb.W ps <= m * (ps.length:Int)
 | [],_=>by simp [Tb.W]
 | p :: ps,h=>by
  obtain ⟨a,b⟩:=Tc hm (ps:=ps) fun y hy=>h y (List.mem_cons_of_mem _ hy)
  obtain ⟨c,d⟩:=h p List.mem_cons_self
  have f:m * ((p :: ps).length:Int)=m + m * (ps.length:Int):=by rw [List.length_cons]; grind
  rw [Tb.gY]
  omega
theorem Gk.key {ps:List Tb.Rw}{ys:List dY} (o:Gk ps ys) {y:dY} (hy:y ∈ ys):∃ p ∈ ps,p.t=y.t /\ p.b=y.b:=(o.tab.has y.t y.b).mp ⟨y.r,List.mem_map.mpr ⟨y,hy,rfl⟩,rfl,rfl⟩
theorem Gk.ne {ps:List Tb.Rw}{ys:List dY} (o:Gk ps ys) (h:ps ≠ []):ys ≠ []:=by
 rintro rfl
 cases ps with
 | nil=>exact h rfl
 | cons p ps=>exact Tb.sZ ((o.tab.has p.t p.b).mpr (Tb.jF.mpr (.inl ⟨rfl,rfl⟩)))
theorem Jm {ps:List Tb.Rw}{kvs:List (List dG × V)} (d:Dk ps kvs) (hne:ps ≠ []) (hw:∀ p ∈ ps,1 <= p.w /\ p.w <= Ck) (hl:ps.length <= 1000):intBits (iT kvs) <= 9000:=by
 have dp:=d.div_pos hne fun p hp=>(hw p hp).1
 cases ps with
 | nil=>exact absurd rfl hne
 | cons p ps =>
  have hp:Tb.tH (p :: ps) p.t p.b:=Tb.jF.mpr (.inl ⟨rfl,rfl⟩)
  have w1:=Tb.z8 (fun p hp=>(hw p hp).1) hp
  have w2:=Tb.Nb p.t p.b (ps:=p :: ps) fun p hp=>(hw p hp).1
  have w3:=(Tc (by decide) hw).2
  have dv:=Int.le_of_dvd (by omega) (Tb.tY (d.wOf hp))
  have dv:iT kvs <= Tb.Wt (p :: ps) p.t p.b:=dv
  refine PySem.intBits_le_iff.mpr ?_
  have e:Ck * (((p :: ps).length:Nat):Int) <= Ck * 1000:=Int.mul_le_mul_of_nonneg_left (by omega) (by decide)
  have e2:Ck * 1000 < ((2 ^ 9000:Nat):Int):=by decide +kernel
  omega
end TD
namespace Sd
structure Fq (t b N k:Int):Prop where
 fr:Fr.jG t b
 dv:b ∣ N
 lo:-(k * b) <= t
 hi:t <= k * b
theorem jH {a b c:Int} (h:a <= b) (hc:0 <= c):a * c <= b * c:=Int.mul_le_mul_of_nonneg_right h hc
theorem Fq.mono {t b N k N' k':Int} (f:Fq t b N k) (h:N ∣ N') (hk:k <= k'):Fq t b N' k':=by
 have p:=Int.le_of_lt f.fr.pos
 have e:=jH hk p
 exact ⟨f.fr,Int.dvd_trans f.dv h,by have:=f.lo; omega,by have:=f.hi; omega⟩
theorem Qa {t b u N:Int} (hb:0 < b) (e:t * N=u * b):(Fr.sh t b).2 ∣ N:=by
 have hn:b ≠ 0:=Int.ne_of_gt hb
 have cr:=Fr.lX t b
 refine Fr.ZL (a:=(Fr.sh t b).1) (Fr.Ei hn) ⟨u,?_⟩
 have h:(Fr.sh t b).1 * N * b=(Fr.sh t b).2 * u * b:=by
  have h1:(Fr.sh t b).1 * N * b=((Fr.sh t b).1 * b) * N:=by grind
  have h2:(Fr.sh t b).2 * u * b=(Fr.sh t b).2 * (u * b):=by grind
  rw [h1,h2,cr,<- e]
  grind
 exact Int.eq_of_mul_eq_mul_right hn h
theorem Ng {t b u N k:Int} (hb:0 < b) (e:t * N=u * b) (lo:-(k * b) <= t) (hi:t <= k * b):Fq (Fr.sh t b).1 (Fr.sh t b).2 N k:=by
 have hn:b ≠ 0:=Int.ne_of_gt hb
 have cr:=Fr.lX t b
 have yp:=Int.le_of_lt (Fr.Ej (t:=t) hn)
 refine ⟨Fr.Jr hn,Qa hb e,?_,?_⟩
 ·have h:=jH lo yp
  rw [<- cr] at h
  refine Int.le_of_mul_le_mul_right (a:=b) ?_ hb
  have:-(k * (Fr.sh t b).2) * b = -(k * b) * (Fr.sh t b).2:=by grind
  rw [this]
  exact h
 ·have h:=jH hi yp
  rw [<- cr] at h
  refine Int.le_of_mul_le_mul_right (a:=b) ?_ hb
  have:k * (Fr.sh t b).2 * b=k * b * (Fr.sh t b).2:=by grind
  rw [this]
  exact h
def tms (x y:Int × Int):Int × Int:=Fr.sh (x.1 * y.1) (x.2 * y.2)
abbrev FQ (x:Int × Int) (N k:Int):Prop:=Fq x.1 x.2 N k
theorem FQ.tms {x y:Int × Int}{M N k:Int} (f:FQ x M 1) (h0:0 <= x.1) (g:FQ y N k) (hk:0 <= k):FQ (tms x y) (M * N) k:=by
 obtain ⟨n1,e1⟩:=f.dv
 obtain ⟨n2,e2⟩:=g.dv
 have xp:=f.fr.pos
 have yp:=g.fr.pos
 have x1:=f.hi
 have kp:0 <= k * y.2:=Int.mul_nonneg hk (Int.le_of_lt yp)
 refine Ng (u:=x.1 * n1 * (y.1 * n2)) (Int.mul_pos xp yp) ?_ ?_ ?_
 ·rw [e1,e2]
  grind
 ·have a:=Int.mul_le_mul_of_nonneg_left g.lo h0
  have b:=jH x1 kp
  have c:x.1 * -(k * y.2) = -(x.1 * (k * y.2)):=by grind
  have d:k * (x.2 * y.2)=1 * x.2 * (k * y.2):=by grind
  rw [d]
  rw [c] at a
  omega
 ·have a:=Int.mul_le_mul_of_nonneg_left g.hi h0
  have b:=jH x1 kp
  have d:k * (x.2 * y.2)=1 * x.2 * (k * y.2):=by grind
  rw [d]
  omega
inductive Sd where
 | en (v:Int)
 | st (p:Int) (rs:List (Int × Sd))
inductive Ok:Sd->Nat->Nat->Prop
 | en {v:Int}{d m:Nat} (h0:0 <= v) (h9:v <= 1000000000) (hm:1 <= m):Ok (.en v) d m
 | st {p:Int}{rs:List (Int × Sd)}{d m:Nat}{f:Int × Sd->Nat} (h0:0 <= p) (h9:p <= 1000000000) (ne:rs ≠ []) (l4:rs.length <= 4) (w:∀ r ∈ rs,1 <= r.1 /\ r.1 <= 1000) (sub:∀ r ∈ rs,Ok r.2 d (f r)) (hk:(rs.map f).sum <= m):Ok (.st p rs) (d + 1) m
def gR (rs:List (Int × Sd)):Int:=(rs.map (·.1)).sum
def fQ:List Int->Int
 | []=>1
 | n :: ns=>n * fQ ns
theorem nA:∀ {l:List Int},(∀ n ∈ l,0 < n)->0 < fQ l
 | [],_=>by decide
 | n :: l,h=>Int.mul_pos (h n List.mem_cons_self) (nA fun m hm=>h m (List.mem_cons_of_mem _ hm))
theorem qG:∀ {l:List Int}{n:Int},n ∈ l->n ∣ fQ l
 | m :: l,n,h=>by
  rcases List.mem_cons.mp h with e | e
  ·subst e; exact ⟨_,rfl⟩
  ·exact Int.dvd_trans (qG e) ⟨m,by show m * fQ l=fQ l * m; grind⟩
theorem cJ (n:Nat):(0:Int) < 2 ^ n:=Int.pow_pos (by decide)
theorem Bl {e:Nat}:∀ {l:List Int},(∀ n ∈ l,0 < n /\ n <= 2 ^ e)->fQ l <= 2 ^ (l.length * e)
 | [],_=>by simp [fQ]
 | n :: l,h=>by
  have ih:=Bl (l:=l) fun m hm=>h m (List.mem_cons_of_mem _ hm)
  have hn:=h n List.mem_cons_self
  have pp:=nA (l:=l) fun m hm=>(h m (List.mem_cons_of_mem _ hm)).1
  show n * fQ l <= _
  rw [List.length_cons,Nat.succ_mul,Nat.add_comm,Int.pow_add]
  exact Int.le_trans (Int.mul_le_mul_of_nonneg_right hn.2 (Int.le_of_lt pp)) (Int.mul_le_mul_of_nonneg_left ih (Int.le_of_lt (cJ e)))
theorem NB:∀ {rs:List (Int × Sd)},(∀ r ∈ rs,1 <= r.1 /\ r.1 <= 1000)->(rs.length:Int) <= gR rs /\ gR rs <= 1000 * (rs.length:Int)
 | [],_=>by decide
 | r :: rs,h=>by
  have ih:=NB (rs:=rs) fun x hx=>h x (List.mem_cons_of_mem _ hx)
  have hr:=h r List.mem_cons_self
  have e:gR (r :: rs)=r.1 + gR rs:=by unfold gR; rw [List.map_cons,List.sum_cons]
  rw [e,List.length_cons]
  push_cast
  omega
theorem eG {a b:Nat} (h:a <= b):(2:Int) ^ a <= 2 ^ b:=by
 obtain ⟨c,rfl⟩:=Nat.exists_eq_add_of_le h
 rw [Int.pow_add]
 have h1:(1:Int) <= 2 ^ c:=by have:=cJ c; omega
 have:=Int.mul_le_mul_of_nonneg_left h1 (Int.le_of_lt (cJ a))
 omega
theorem PK {rs:List (Int × Sd)} (ne:rs ≠ []) (w:∀ r ∈ rs,1 <= r.1 /\ r.1 <= 1000) (l4:rs.length <= 4):1 <= gR rs /\ gR rs <= 4000:=by
 have:=NB w
 have:0 < rs.length:=List.length_pos_iff.mpr ne
 omega
theorem Ok.m1 {s:Sd}{d m:Nat} (ok:Ok s d m):1 <= m:=by
 induction ok with
 | en _ _ h=>exact h
 | @st p rs d m k h0 h9 ne l4 w sub hk ih =>
  cases rs with
  | nil=>exact absurd rfl ne
  | cons r rs =>
   have h1:=ih r List.mem_cons_self
   rw [List.map_cons,List.sum_cons] at hk
   omega
theorem M9 {α : Type}{f:α->Nat}{m:Nat}:∀ {l:List α},(l.map f).sum <= m->∀ x ∈ l,f x <= m
 | y :: l,h,x,hx=>by
  rw [List.map_cons,List.sum_cons] at h
  rcases List.mem_cons.mp hx with e | e
  ·subst e; omega
  ·exact M9 (l:=l) (by omega) x e
def kB:Nat->Int
 | 0=>2147483648
 | d + 1=>1000000000 + 4 * kB d
structure Lv (l:Int × Int):Prop where
 fr:Fr.jG l.1 l.2
 b:l.2 <= 2 ^ 10
 lo:-(2147483648 * l.2) <= l.1
 hi:l.1 <= 2147483648 * l.2
theorem Lv.fq {l:Int × Int} (h:Lv l):FQ l l.2 2147483648:=⟨h.fr,Int.dvd_refl _,h.lo,h.hi⟩
theorem fr1 (v:Int):Fr.jG v 1:=⟨by decide,by simp⟩
end Sd
namespace L2
open PySem PySem.Spec PyProof.Rows
theorem Gu (bs:List Bool):(List.range bs.length).all (fun i=>bs.getD i false)=bs.all id:=by
 rw [Bool.eq_iff_iff]
 simp only [List.all_eq_true,List.mem_range]
 constructor
 ·intro h b hb
  obtain ⟨i,hi,e⟩:=List.mem_iff_getElem.mp hb
  have q:=h i hi
  rw [iB hi,e] at q
  exact q
 ·intro h i hi
  rw [iB hi]
  exact h _ (List.getElem_mem hi)
section
variable {X:Cx}{K:PySem.W.Frag}
theorem Q6 {us:List Value}{bs:List Bool} (h:bI (bs.map V.bl) us) {i:Nat}{v:Value} (e:us[i]? = some v):v = .bool (bs.getD i false):=by
 have hl:=h.length
 rw [List.length_map] at hl
 have hi:i < us.length:=(List.getElem?_eq_some_iff.mp e).1
 have e2:(bs.map V.bl)[i]? = some (.bl (bs.getD i false)):=by
  rw [List.getElem?_map,List.getElem?_eq_getElem (by omega),iB (by omega)]
  rfl
 obtain ⟨u,hu,r⟩:=h.get e2
 rw [e] at hu
 cases hu
 exact r
theorem xB (hK:X.K=K) (hc:X.calm=true):iM X (.builtin "all") (fun xs H Q=>∃ (a:Addr) (bs:List Bool),xs=[.ref a] /\ bO K H a (bs.map V.bl) /\ Q (.bl (bs.all id)) H):=by
 subst hK
 intro pins s σ H xs us Q I r h
 obtain ⟨a,bs,rfl,hS,q⟩:=h
 obtain ⟨u,rfl,ru⟩:=jW r
 cases (show u=Value.ref a from ru)
 obtain ⟨its,rv,pl,hz⟩:=I.list hS
 have lt:a < s.heap.objs.size:=by obtain ⟨o,e,_⟩:=pl.isList; exact Heap.lt_size e
 have hl:=rv.length
 rw [List.length_map] at hl
 refine call_all_walk (wpAny_pyIter_list pl.isList ⟨s.heap.objs.size,_,_,_,_,_,fun i=>bs.getD i false,rfl,Walks.list (A:=X.A.in1) (I.ok.hd hc) s.heap.objs.size a (Nat.ne_of_lt lt) its.toArray,⟨⟨_,Heap.get?_push_size _ rfl,rfl,rfl⟩,pl.isList.push _⟩,?_,fun h' tk hk=>?_⟩)
 ·intro i v s' Q' E' hv hQ
  have e:=Q6 rv (i:=i) (v:=v) (by simpa using hv)
  rw [e]
  exact wpAny_truthy_bool hQ
 ·refine ⟨.bl (bs.all id),H,I.kept (t':=tk) fun b o e=>hk b o (fun z=>?_) (Heap.get?_push_of_some _ e),?_,q⟩
  ·rw [List.mem_singleton.mp z] at e
   exact absurd (Heap.lt_size e) (Nat.lt_irrefl _)
  ·show Value.bool _=Value.bool _
   rw [List.size_toArray,<- hl,Gu]
end
end L2
namespace L2
open PySem PySem.Spec PyProof.Rows
structure M5 (K:PySem.W.Frag) (C:Addr) (m:Str) (f:Addr):Prop where
 ga:PySem.W.specialIn K (.ref C) "__getattribute__" = some (some (.builtin "type.__getattribute__"))
 rd:PySem.W.readsIn K C (.type "type")=true
 at_:PySem.W.findCls K (.ref C) (.type "type") m=some (.val (.ref f))
 hd:PySem.W.handedIn (.ref f)=true
 kp:PySem.W.keepIn K (.ref f)=true
section
variable {X:Cx}{CX:zT}{C f:Addr}{fd:FuncData}{k:Nat}{x m:Str}{ps:List Str}{ds:List Value}{dvs:List V}{sp:Sp}{E:XK}{e:Expr}{es:List Expr}{t:TA}{p apos pos:Pos}
theorem Ep {pl:Sem Bool} (hg:Gl X x) (hm:X.mg x=some (.ref C)) (c:M5 X.K C m f) (F:aP X.prog X.w X.K X.mg X.base CX k f fd ps sp) (hr:fG k X.A) (hb:aY X.K fd ps ds) (hd:bI dvs ds) (hx:iR CX X E) (ha:PA X (e :: es) t)
  (hdb:(x == ("__debug__" : Str))=false:=by decide)
  (hst:starEach (e :: es) X.env=(false,eval e X.env) :: starEach es X.env:=by rfl) (hpl:(backTo pos (starEach es X.env)).any (·.1)=false:=by rfl)
  (ht:eval (.Call (.Attribute (.Name x p) m apos) (e :: es) [] pos) X.env=(do
   let ov <- eval (.Name x p) X.env
   standAt apos.atName
   let (f,first) <- holding [ov] (getMethod ov m pl)
   callWith pos f first (backTo pos (starEach (e :: es) X.env)) (backToKw pos (keywordEach [] X.env))):=by rfl) :
  PE X (.Call (.Attribute (.Name x p) m apos) (e :: es) [] pos) (Bt sp dvs E t):=by
 intro pins s σ H Q I h
 refine PySem.W.methodCall_KW (pl:=pl) (m8 I hg hm ?_ hdb) ht
 refine PySem.W.method_cls I.kIn c.ga (PySem.W.cls_value I.kIn c.rd c.at_ c.hd ?_)
 have I2:=I.tok (s.toks + 1)
 refine PySem.W.callWith_K (first:=[]) (h₀:=X.base) I.ok.mod.kin c.kp (d8 (ha pos pins _ σ H _ I2 h) fun us s1 ⟨vs,H1,I1,r,q⟩=>⟨I1.kIn,?_⟩) hst hpl
 exact zZ F hr hb hd hx I1 r q
theorem fU {e:Expr}{t u:TE} (h1:PE X e t) (h2:PE X e u):PE X e (fun σ H Q=>t σ H Q ∨ u σ H Q):=fun pins s σ H Q I h=>h.elim (h1 pins s σ H Q I) (h2 pins s σ H Q I)
theorem pB {K:PySem.W.Frag} (hK:X.K=K):iM X (.builtin "isinstance") (fun xs H Q=>∃ (x:V) (C:Addr) (t:Value) (b:Bool),xs=[x,.ref C] /\ gF K H x t /\ PySem.W.kitOne K t (.ref C)=some b /\ Q (.bl b) H):=by
 subst hK
 intro pins s σ H xs us Q I r h
 obtain ⟨x,C,t,b,rfl,ty,e,q⟩:=h
 obtain ⟨u,w',rfl,rx,rt⟩:=GJ r
 cases (show w'=Value.ref C from rt)
 exact yD I rx ty e fun tk=>⟨.bl b,H,I.tok _,rfl,q⟩
end
end L2
namespace L2
open PySem PySem.Spec PyProof.Rows
def jJ (P:Program) (w:World):zT:=fun outer H s E e s' =>
 ∃ (a:Addr) (cls a0:Value) (H':Hp) (B:Heap),e = .ref a /\ s'.os=s.os /\ AllBare s'.gens /\ Un (qD outer) [] H H' s.heap s'.heap /\ mY P w H' s'.heap /\ Heap.FlyingW B outer a cls a0 s'.heap ∧
  (∀ b o,s.heap.get? b=some o->b ∉ qD outer->∃ o',B.get? b=some o') /\ (∀ b u,H' b=some u->∃ o',B.get? b=some o') /\ E cls none H'
section
variable {P:Program}{w:World}{H H':Hp}{B h0 h1 h2:Heap}{fs:List Addr}
theorem Fx (b1:B.StaysIn h1) (b2:B.StaysIn h2) {b:Addr}{o:Obj} (q:h1.get? b=some o) (x:∃ o',B.get? b=some o'):h2.get? b=some o:=by
 obtain ⟨o',e⟩:=x
 have:=b1 b o' e
 rw [q] at this
 cases this
 exact b2 b _ e
theorem Em (u:Un fs [] H H' h0 h1) (b1:B.StaysIn h1) (b2:B.StaysIn h2) (up:h1.UpToSlots h2) (nf:∀ b ∈ fs,∃ o,h1.get? b=some o /\ ∀ vs,o.data ≠ .fields vs)
  (hB:∀ b o,h0.get? b=some o->b ∉ fs->∃ o',B.get? b=some o'):Un fs [] H H' h0 h2:=by
 refine ⟨fun b o q n hb hx=>Fx b1 b2 (u.keep b o q n hb hx) (hB b o q hb),fun b o q n hb hx=>?_,u.free,fun b o q hx=>?_,u.tups,u.frzs,u.tbls⟩
 ·obtain ⟨sl,e⟩:=u.slot b o q n hb hx
  obtain ⟨o1,e1,d1⟩:=nf b hb
  rw [e] at e1
  cases e1
  obtain ⟨sl2,e2⟩:=up b _ e d1
  exact ⟨sl2,e2⟩
 ·by_cases hb:b ∈ fs
  ·obtain ⟨o1,e1,d1⟩:=nf b hb
   obtain ⟨sl2,e2⟩:=up b _ e1 d1
   exact ⟨_,e2⟩
  ·obtain ⟨o1,e1⟩:=hB b o q hb
   exact ⟨_,b2 b _ e1⟩
theorem zK (x:mY P w H h1) (b1:B.StaysIn h1) (b2:B.StaysIn h2) (hH:∀ b u,H b=some u->∃ o',B.get? b=some o'):mY P w H h2:=fun a o e =>
 (x a o e).stay (fun b u hb q=>Fx b1 b2 q (by
  rcases hb with rfl | hb
  ·exact hH _ _ e
  ·exact hH _ _ hb)) (fun _ q=>q) fun _ _ q=>q
end
theorem K6 {P:Program}{w:World}{H:Hp}{h:Heap}{b:Addr}{u:HO} (x:cY P w H h b u) (z:h.get? b=none):False:=by
 cases u with
 | lst xs=>obtain ⟨_,_,_,_,e⟩:=x; rw [z] at e; cases e
 | tup xs=>obtain ⟨_,_,_,_,e,_⟩:=x; rw [z] at e; cases e
 | dK kvs=>obtain ⟨_,_,_,_,o,_,_,e,_⟩:=x; rw [z] at e; cases e
 | dT kvs=>obtain ⟨_,_,_,_,o,_,_,e,_⟩:=x; rw [z] at e; cases e
 | set S n=>obtain ⟨o,_,_,_,e,_⟩:=x; rw [z] at e; cases e
 | ins C dx fs=>obtain ⟨_,_,_,e,_⟩:=x; rw [z] at e; cases e
 | own y=>obtain ⟨_,e⟩:=x; rw [z] at e; cases e
 | xd fs=>obtain ⟨_,⟨_,_,_,e,_⟩,_⟩:=x; rw [z] at e; cases e
 | rng lo hi=>obtain ⟨_,_,_,e⟩:=x; rw [z] at e; cases e
 | frz ob v=>obtain ⟨e,_⟩:=x; rw [z] at e; cases e
 | tbl ps=>have e:=(show h.get? b=some _ from x); rw [z] at e; cases e
 | met f y=>have e:=(show h.get? b=some _ from x); rw [z] at e; cases e
 | ext φ=>obtain ⟨_,⟨_,e⟩,_⟩:=x; rw [z] at e; cases e
theorem yU {env:Env}{outer:List Env}{L b:Addr} (hf:env.frame=some L):b ∈ qD (env :: outer) ↔ b=L ∨ b ∈ qD outer:=by
 unfold qD
 rw [List.filterMap_cons,hf]
 exact List.mem_cons
structure rZ (K:PySem.W.Frag) (C:Addr):Prop where
 isx:PySem.W.excIn K C ([.type "ValueError",.type "Exception",.type "BaseException",.type "object"]) "ValueError.__new__" = true
section
variable {X:Cx}
def JL (X:Cx) (E:XK):Prop:=∀ (pins:List (Addr × Obj)) (σ : St) (H:Hp) (s:Shared) (h':Heap) (e:Addr) (cls:Value) (args:List Value),aX X pins σ H s->Heap.MadeExcOf s.heap h' e cls args->E cls none H ->
 X.xe (.ref e) { s with heap:=h' }
end
section
variable {P:Program}{w:World}{K:PySem.W.Frag}{mg:Str->Option Value}{base:Heap}{N:List Str}{qual:Str}{scope:Scope}{f:Addr}{cd:Value}{A:Around}{outer:List Env}{s:Shared}{H:Hp}{E:XK}
theorem gC:JL (pA (jJ P w) P w K mg base N qual scope f cd A outer s H E) E:=by
 intro pins σ H1 s1 h' e cls args I mk hE
 have hfr:=I.ok.frames
 have hst:=I.stack
 have nsz:∀ b o,s.heap.get? b=some o->b ≠ s.heap.objs.size:=fun b o q z=>absurd (Heap.lt_size q) (by rw [z]; exact Nat.lt_irrefl _)
 have hide:∀ b o,s1.heap.get? b=some o->b ∉ qD (envOfC qual scope s.heap.objs.size f cd :: outer)->(PySem.W.hideAll s1.heap (qD (envOfC qual scope s.heap.objs.size f cd :: outer))).get? b=some o:=fun b o q hb=>PySem.W.hideAll_get _ q hb
 have inS:∀ b o,s.heap.get? b=some o->b ∉ qD outer->∃ o',(PySem.W.hideAll s1.heap (qD (envOfC qual scope s.heap.objs.size f cd :: outer))).get? b=some o':=fun b o q hb=>by
  obtain ⟨o',e'⟩:=I.base.there b o q (by show b ∉ ([]:List Addr); simp)
  exact ⟨o',hide b o' e' fun z=>((yU rfl).mp z).elim (nsz b o q) hb⟩
 have inH:∀ b u,H1 b=some u->∃ o',(PySem.W.hideAll s1.heap (qD (envOfC qual scope s.heap.objs.size f cd :: outer))).get? b=some o':=fun b u q=>by
  have lt:=I.hok.lt q
  obtain ⟨o',e'⟩ : ∃ o',s1.heap.get? b=some o':=by
   have:=I.hok b u q
   cases z:s1.heap.get? b with
   | some o'=>exact ⟨o',rfl⟩
   | none=>exact (K6 this z).elim
  refine ⟨o',hide b o' e' fun z=>?_⟩
  have:=I.stkFree b z
  rw [q] at this
  cases this
 show wpAny (model P w) (A.deeper (envOfC qual scope s.heap.objs.size f cd)) (leaving (envOfC qual scope s.heap.objs.size f cd) (.ref e)) _ _ _
 refine wpAny_leaves_madeW (h:=s1.heap) (base:=PySem.W.hideAll s1.heap (qD (envOfC qual scope s.heap.objs.size f cd :: outer))) hfr rfl (fun b o q=>PySem.W.of_hideAll _ q)
  (PySem.W.funFrames_hide hst fun env he b hb=>List.mem_filterMap.mpr ⟨env,he,hb⟩) mk fun h'' t fl _ _ up=>?_
 have b1:Heap.StaysIn (PySem.W.hideAll s1.heap (qD (envOfC qual scope s.heap.objs.size f cd :: outer))) h':=fun b o q=>mk.keeps _ _ (PySem.W.of_hideAll _ q)
 refine ⟨e,cls,.ref t,H1,_,rfl,I.os,I.bare,?_,zK (I.hok.kept mk.keeps) b1 fl.1 inH,fl,inS,inH,hE⟩
 have u1:Un (qD outer) [] H H1 s.heap h':=Un.trans (show Un (qD outer) [] H H1 s.heap s1.heap from I.base) (Un.kept mk.keeps)
 refine Em u1 b1 fl.1 up (fun b hb=>?_) inS
 obtain ⟨_,o,ho,hd⟩:=I.funs.mem hb
 exact ⟨o,mk.keeps _ _ ho,hd⟩
theorem fV:iR (jJ P w) (pA (jJ P w) P w K mg base N qual scope f cd A outer s H E) E:=by
 rintro pins σ H1 s1 e s' I ⟨a,cls,a0,H',B,rfl,hos,hg,un,hok,fl,inB,inH,hE⟩
 have nsz:∀ b o,s.heap.get? b=some o->b ≠ s.heap.objs.size:=fun b o q z=>absurd (Heap.lt_size q) (by rw [z]; exact Nat.lt_irrefl _)
 have J:=I.call' (s':=s') (H':=H') (ch:=[]) hos un hok hg (fun b z=>absurd z (by simp))
 have inS:∀ b o,s.heap.get? b=some o->b ∉ qD outer->∃ o',B.get? b=some o':=fun b o q hb=>by
  obtain ⟨o',e'⟩:=I.base.there b o q (by show b ∉ ([]:List Addr); simp)
  exact inB b o' e' fun z=>((yU rfl).mp z).elim (nsz b o q) hb
 show wpAny (model P w) (A.deeper (envOfC qual scope s.heap.objs.size f cd)) (leaving (envOfC qual scope s.heap.objs.size f cd) (.ref a)) _ _ _
 refine wpAny_leaves_onW I.ok.frames rfl fl fun h'' fl' up=>?_
 refine ⟨a,cls,a0,H',B,rfl,J.os,hg,?_,zK hok fl.1 fl'.1 inH,fl',inS,inH,hE⟩
 refine Em (show Un (qD outer) [] H H' s.heap s'.heap from J.base) fl.1 fl'.1 up (fun b hb=>?_) inS
 obtain ⟨_,o,ho,hd⟩:=fl.2.2.1.mem (List.mem_filterMap.mpr (by
  obtain ⟨env,he,z⟩:=List.mem_filterMap.mp hb
  exact ⟨env,List.mem_cons_of_mem _ he,z⟩))
 exact ⟨o,ho,hd⟩
end
end L2
namespace L2
open PySem PySem.Spec PySem.Calls PyProof.Rows PySem.W Builtin Builtin.ObjectAttr Builtin.Getset_descriptor
def Ah (a:Addr) (cls:Value) (h:Heap):Prop:=∃ o,h.get? a=some o /\ o.cls=cls
theorem Ah.ty {a:Addr}{cls:Value}{h:Heap}{M:Model} (x:Ah a cls h):Looks M h (typeOf (.ref a)) cls:=by
 obtain ⟨o,e,rfl⟩:=x
 exact (Looks.ld e).andThen .now
structure My (K:Frag) (D:Addr):Prop where
 ga:findIn K (.ref D) "__getattribute__" = some (some (.builtin "BaseException.__getattribute__"))
 gt:findIn K (.ref D) "__getattr__" = some none
 mb:mroIn K D (.type "BaseException")=some true
 cl:(clsIn K D).isSome=true
 fi:findIn K (.ref D) "__class__" = some (some (.builtin "object.__class__"))
 sp:specialIn K (.builtin "object.__class__") "__get__" = some (some (.builtin "getset_descriptor.__get__"))
 tk:takesIn K (.builtin "object.__class__")=some true
 mr:mroIn K D (.type "object")=some true
section
variable {prog:Program}{w:World}{A:Around}{E:Value->Shared->Prop}{s:Shared}{K:Frag}{a D:Addr}
theorem Bh {M:Model}{h:Heap} (k:K.In h) (x:My K D):Looks M h (find (.ref a) (.ref D) "__class__") (.bind (.builtin "getset_descriptor.__get__") (.builtin "object.__class__")):=by
 have l3:Looks M h (dataDescriptor? (some (.builtin "object.__class__")) (some (.builtin "getset_descriptor.__get__"))) (some (.builtin "getset_descriptor.__get__",.builtin "object.__class__")):=(looks_takesIn (M:=M) k x.tk).andThen .now
 exact (looks_findIn (M:=M) k x.fi).andThen ((looks_specialIn (M:=M) k x.sp).andThen (l3.andThen (Looks.tag .now)))
theorem rA {R:Result->Shared->Prop} (k:K.In s.heap) (i:Ah a (.ref D) s.heap) (hm:mroIn K D (.type "object")=some true) (h:R (.ok (.ret (.ref D))) s) :
  codeAny (model prog w) A (.call (.builtin "getset_descriptor.__get__") ⟨[.builtin "object.__class__",.ref a,.ref D],[]⟩) R s:=by
 obtain ⟨hh,gg,dr,tt,os⟩:=s
 have ly:=i.ty (M:=model prog w)
 have lm:=looks_mroIn (M:=model prog w) k hm
 refine codeAny_call_builtin KF.slot_gs.plain KF.entry_gs (KF.slot_gs.check _ _ _ _ _ _ _ _ KF.type_class (KF.args_gs _ _ _) ?_)
 unfold Builtin.«getset_descriptor.__get__»
 unfold descrGet
 rw [dga_obj]
 refine wpAny_bind (wpAny_pure ?_)
 unfold descrGetter
 unfold descrCheckInstance descrNameAndClass
 unfold isInstance
 simp only [KF.owner_class]
 repeat lk
 refine ⟨Code.quiet_builtin _ (by decide +kernel),codeAny_builtin KF.entry_class ?_⟩
 unfold Builtin.«object.__class__»
 unfold shownTypeOf
 repeat lk
 exact h
theorem Je {tk:Tok}{Q:Fin->Shared->Prop} (k:K.In s.heap) (i:Ah a (.ref D) s.heap) (x:My K D) (h:Q (.done (.ret (.ref D))) s) :
  wpAny (model prog w) A (Builtin.«object.__getattribute__» ⟨[.ref a,.str "__class__" tk],[]⟩) Q E s:=by
 obtain ⟨hh,gg,dr,tt,os⟩:=s
 have ly:=i.ty (M:=model prog w)
 have lf:=Bh (M:=model prog w) (a:=a) k x
 have e1:slotArgs "__getattribute__" 1 ⟨[.ref a,.str "__class__" tk],[]⟩ = pure (.ref a,[.str "__class__" tk]):=rfl
 unfold Builtin.«object.__getattribute__»
 rw [e1]
 refine wpAny_bind (wpAny_pure ?_)
 refine wpAny_bind (wpAny_pure (wpAny_bind (ly.at (wpAny_bind (lf.at ?_)))))
 show wpAny _ _ (bindTo (.builtin "getset_descriptor.__get__") (.builtin "object.__class__") (.ref a) (.ref D)) _ _ _
 unfold bindTo
 first
  | exact wpAny_bind (wpAny_holding (wpAny_call (rA k i x.mr (wpAny_pure h))))
  | exact wpAny_bind (wpAny_call (rA k i x.mr (wpAny_pure h)))
  | exact wpAny_pure ⟨Code.quiet_call _ _,rA k i x.mr h⟩
theorem Hn {nameV:Value}{Q:Unit->Shared->Prop}{M:Model} (k:K.In s.heap) (i:Ah a (.ref D) s.heap) (x:My K D) (hq:Q () s):wpAny M A (checkBuiltinCall "BaseException.__getattribute__" ⟨[.ref a,nameV],[]⟩) Q E s:=by
 obtain ⟨hh,gg,dr,tt,os⟩:=s
 have ly:=i.ty (M:=M)
 have lm:=looks_mroIn (M:=M) k x.mb
 have hki:builtinKind "BaseException.__getattribute__" = some .slot:=by decide +kernel
 have hsp:splitId "BaseException.__getattribute__" = some ("BaseException","__getattribute__"):=by decide +kernel
 have ha:=PySem.F.args_bexc_ga (.ref a) nameV
 simp only [checkBuiltinCall,hki,hsp]
 unfold isInstance
 refine wpAny_bind (wpAny_bind (ly.at (lm.at ?_)))
 repeat (any_goals (first | assumption | wp_step))
theorem Bb {Q:Option Value->Shared->Prop} (k:K.In s.heap) (i:Ah a (.ref D) s.heap) (x:My K D) (h:Q (some (.ref D)) { s with toks:=s.toks + 1 }):wpAny (model prog w) A (getAttr? (.ref a) "__class__") Q E s:=by
 obtain ⟨hh,gg,dr,tt,os⟩:=s
 have ly:=i.ty (M:=model prog w)
 have lga:=looks_findIn (M:=model prog w) k x.ga
 have lgt:=looks_findIn (M:=model prog w) k x.gt
 unfold getAttr? getAttrBy?
 unfold getAttrBy
 refine wpAny_bind (wpAny_mkText (wpAny_bind (wpAny_attempt (wpAny_holding (wpAny_bind (ly.at (wpAny_bind (lga.at ?_))))))))
 show wpAny _ _ (getAttrByItsOwn _ _ _ _ _ _) _ _ _
 unfold getAttrByItsOwn
 refine wpAny_bind (lgt.at ?_)
 refine wpAny_bind (wpAny_attempt (wpAny_holding ?_))
 show wpAny _ _ (boundAndCalled _ _ _) _ _ _
 unfold boundAndCalled
 rw [PySem.F.attr_ValueError.ga.bind (.ref a)]
 refine wpAny_bind (wpAny_pure (wpAny_call (codeAny_call_builtin PySem.F.attr_ValueError.ga.plain PySem.F.entry_bexc_ga (Hn (s:=⟨hh,gg,dr,tt + 1,os⟩) k i x (Je (s:=⟨hh,gg,dr,tt + 1,os⟩) k i x ?_)))))
 refine handed_on rfl ?_
 exact wpAny_pure h
theorem Iu (x:My K D):KitX K (.ref a) (.ref D) (Ah a (.ref D)) where
 ty:=fun _ _ _ i=>i.ty
 it:=fun M h k _=>by
  obtain ⟨cd,hc⟩:=Option.isSome_iff_exists.mp x.cl
  unfold clsIn at hc
  split at hc
  case h_2=>cases hc
  case h_1 c' d' cd' sl' ho =>
   intro A' Q' E' s' k' q
   unfold isType
   unfold loadHead
   exact wpAny_bind (wpAny_loadPart (k' _ _ (k _ _ ho)) (wpAny_pure q))
 ne:=fun h tp dd its n sl k htp=>by
  obtain ⟨cd,hc⟩:=Option.isSome_iff_exists.mp x.cl
  refine Bool.eq_false_iff.mpr fun q=>?_
  obtain rfl:D=tp:=Value.ref.inj (beq_iff_eq.mp q)
  unfold clsIn at hc
  split at hc
  case h_2=>cases hc
  case h_1 c' d' cd' sl' ho =>
   have z:=(k _ _ ho).symm.trans htp
   cases z
 ca:=fun k i q=>Bb k i x q
end
section
variable {X:Cx}
theorem fJ {K:Frag} (hK:X.K=K):iM X (.builtin "isinstance") (fun xs H Q=>∃ (a D:Addr) (c:V) (u:Value) (b:Bool),xs=[.ref a,c] /\ (∀ u',bG c u'->u'=u) /\ H a=some (.ext (Ah a (.ref D))) /\ My K D /\ kitOne K (.ref D) u=some b /\ Q (.bl b) H):=by
 subst hK
 rintro pins s σ H vs us Q I r ⟨a,D,c,u,b,rfl,hu,ha,xt,e,q⟩
 obtain ⟨u1,u2,rfl,r1,r2⟩:=GJ r
 obtain rfl:u1=Value.ref a:=r1
 obtain rfl:=hu u2 r2
 obtain ⟨i,_⟩:=(show cY X.prog X.w H s.heap a (.ext (Ah a (.ref D))) from I.hok a _ ha)
 exact kia_one (Iu xt) I.kIn i e (fun z=>nomatch z) fun tk=>⟨.bl b,H,I.tok _,rfl,q⟩
end
end L2
namespace L2
open PySem PySem.Spec PySem.W PyProof.Rows
section
variable {X:Cx}
end
end L2
namespace L2
open PySem PySem.Spec PyProof.Rows
section
variable {X:Cx}
end
end L2
namespace L2
open PySem PySem.Spec PyProof.Rows
section
variable {X:Cx}{tg:Expr}
end
end L2
namespace PySem
namespace F
end F
end PySem
namespace L2
open PySem PySem.Spec PyProof.Rows
section
variable {X:Cx}
end
end L2
namespace L2
open PySem PySem.Spec PyProof.Rows
theorem tW {K:PySem.W.Frag}{a:Addr}{xs:List V}{k:Nat}{g:TG}{c:TT}{te:TE}{σ : St}{H1:Hp}{D:Addr}{Q:VK} (Pv:Nat->St->Hp->Prop) (h0:Pv 0 (List.replicate k none ++ σ) (aU H1 D (.lst [])))
  (hl:∀ i τ H,i <= xs.length->Pv i τ H->cN K H a xs)
  (hs:∀ i m x τ H,m=xs.length - i->i < xs.length->xs[i]? = some x->Pv i τ H->g x τ H fun τ2 H2=>c τ2 H2 fun b H3=>if b=true then te τ2 H3 fun y H4=>∃ ys m',m' < m /\ H4 D=some (.lst ys) /\ ys.length < sizeLine /\ CW xs.length Pv (i + 1) m' τ2 (aU H4 D (.lst (ys ++ [y]))) else ∃ m',m' < m /\ CW xs.length Pv (i + 1) m' τ2 H3)
  (hd:∀ τ H,Pv xs.length τ H->Q (.ref D) H):By k (Itt K a) g c te σ H1 D Q:=by
 refine ⟨CW xs.length Pv,⟨xs.length,rfl,Nat.zero_le _,h0⟩,?_⟩
 rintro i m τ H ⟨hm,hi,p⟩
 have q:=hl i τ H hi p
 by_cases hlt:i < xs.length
 ·refine .inr ⟨⟨xs,xs[i],q,by simp [hlt]⟩,fun x H' y=>?_⟩
  obtain ⟨e,y⟩:=y
  subst e
  exact hs i m x τ _ hm hlt (y xs q) p
 ·have e:i=xs.length:=by omega
  subst e
  exact .inl ⟨⟨xs,q,Nat.le_refl _⟩,hd τ H p⟩
theorem uU {i:Nat}{v:V}{τ : St}{H:Hp}{A B:St->Hp->Prop} (h:A (τ.set i (some v)) H):xK i v τ H (fun τ2 H2=>Ot τ2 H2 (fun b H3=>if b=true then A τ2 H3 else B τ2 H3)):=fL (τ:=τ.set i (some v)) (A:=A (τ.set i (some v))) (B:=B (τ.set i (some v))) h
theorem Lb {K:PySem.W.Frag}{a:Addr}{xs:List V}{g:TG}{tb:TS}{D:sO}{σ : St}{H:Hp} (Pv:Nat->St->Hp->Prop) (h0:Pv 0 σ H) (hl:∀ i σ H,i <= xs.length->Pv i σ H->bO K H a xs)
  (hs:∀ i x σ H,i < xs.length->xs[xs.length - 1 - i]? = some x->Pv i σ H->g x σ H fun σ2 H2=>tb { D with nx:=Pv (i + 1),ct:=Pv (i + 1),bk:=D.nx } σ2 H2) (hd:∀ σ H,Pv xs.length σ H->D.nx σ H) :
  ∃ W:Nat->Nat->St->Hp->Prop,(∃ m,W 0 m σ H) /\ ∀ i m σ H,W i m σ H ->
   ((Y7 K a xs).stop i H /\ D.nx σ H) ∨ ((Y7 K a xs).go i H /\ ∃ N:St->Hp->Prop,(∀ σ' H',N σ' H'->∃ m',m' < m /\ W (i + 1) m' σ' H') /\ ∀ x H',(Y7 K a xs).yld i H x H'->g x σ H' fun σ2 H2=>tb { D with nx:=N,ct:=N,bk:=D.nx } σ2 H2):=by
 refine ⟨fun i m σ H=>m=xs.length - i /\ i <= xs.length /\ Pv i σ H,⟨xs.length,by simp,Nat.zero_le _,h0⟩,?_⟩
 rintro i m σ H ⟨rfl,hi,p⟩
 have q:=hl i σ H hi p
 by_cases hlt:i < xs.length
 ·refine .inr ⟨⟨hlt,q⟩,Pv (i + 1),fun σ' H' p'=>⟨xs.length - (i + 1),by omega,rfl,hlt,p'⟩,fun x H' y=>?_⟩
  obtain ⟨e,y⟩:=y
  subst e
  exact hs i x σ _ hlt y p
 ·have e:i=xs.length:=by omega
  subst e
  exact .inl ⟨Nat.le_refl _,hd σ H p⟩
end L2
namespace TD
open PySem L2
open Builtin.Int (intBits)
abbrev Tq (H:Hp) (p:Addr) (x:Int × Int):Prop:=H p=some (.tup [.int x.1,.int x.2])
structure Z4 (x:Int × Int):Prop where
 t:intBits x.1 <= 4400
 b:intBits x.2 <= 4400
 p:0 < x.2
abbrev Is (ns:List Int):List V:=ns.map V.int
theorem xJ (ns:List Int):(Is ns).length=ns.length:=List.length_map _
theorem Fg (xs:List Int) (y:Int):Is (xs ++ [y])=Is xs ++ [V.int y]:=by show (xs ++ [y]).map V.int=_; rw [List.map_append]; rfl
def Y9:Sp:=fun vs H Q _=>∃ i:Int,vs=[.int i] /\ ∀ p H',aN H H'->Tq H' p (i,1)->Q (.ref p) H'
def Q0 (K:PySem.W.Frag):Sp:=fun vs H Q _=>∃ p q a b c d,vs=[.ref p,.ref q] /\ cN K H p [.int a,.int b] /\ cN K H q [.int c,.int d] /\ Sz a b c d /\ (c * b < a * d->Q (.ref q) H) /\ (¬ c * b < a * d->Q (.ref p) H)
theorem nJ {x:Int}{k:Nat} (h0:-(2 ^ k) < x) (h1:x < 2 ^ k):intBits x <= k:=by
 refine PySem.intBits_le_iff.mpr ?_
 have e:((2 ^ k:Nat):Int)=2 ^ k:=by push_cast; rfl
 omega
theorem sY {t b N k:Int}{n j:Nat} (f:Sd.Fq t b N k) (hN:0 < N) (hn:N <= 2 ^ n) (k0:0 <= k) (hj:k <= 2 ^ j):intBits b <= n + 1 /\ intBits t <= n + j + 1:=by
 have bp:=f.fr.pos
 have bl:=Int.le_of_dvd hN f.dv
 have e1:b <= 2 ^ n:=Int.le_trans bl hn
 have e2:k * b <= 2 ^ j * 2 ^ n:=Int.le_trans (Int.mul_le_mul_of_nonneg_right hj (Int.le_of_lt bp)) (Int.mul_le_mul_of_nonneg_left e1 (Int.le_of_lt (Sd.cJ j)))
 rw [<- Int.pow_add,Nat.add_comm] at e2
 have p1:(2:Int) ^ (n + 1)=2 * 2 ^ n:=by rw [Int.pow_succ]; omega
 have p2:(2:Int) ^ (n + j + 1)=2 * 2 ^ (n + j):=by rw [Int.pow_succ]; omega
 have q1:=Sd.cJ n
 have q2:=Sd.cJ (n + j)
 have l:=f.lo
 have h:=f.hi
 exact ⟨nJ (by omega) (by omega),nJ (by omega) (by omega)⟩
structure GT (xs:List dY) (n:Nat) (W M k:Int):Prop where
 ne:xs ≠ []
 len:xs.length <= n
 w1:∀ x ∈ xs,1 <= x.w
 ws:cI xs <= W
 mp:0 < M
 fq:∀ x ∈ xs,Sd.Fq x.t x.b M k
structure Cp (n:Nat) (W M k:Int):Prop where
 n:n <= 12
 w:W <= 2 ^ 600
 m:M <= 2 ^ 1600
 k0:0 <= k
 k:k <= 2 ^ 1600
theorem mR {xs:List dY} (w1:∀ x ∈ xs,1 <= x.w):∀ {x:dY},x ∈ xs->x.w <= cI xs:=by
 induction xs with
 | nil=>intro x h; cases h
 | cons y ys ih =>
  intro x hx
  have e:cI (y :: ys)=y.w + cI ys:=by unfold cI; rw [List.map_cons,List.sum_cons]
  have y1:=w1 y List.mem_cons_self
  have n0:0 <= cI ys:=by
   clear ih hx
   induction ys with
   | nil=>exact Int.le_refl _
   | cons z zs ih =>
    have e:cI (z :: zs)=z.w + cI zs:=by unfold cI; rw [List.map_cons,List.sum_cons]
    have z1:=w1 z (List.mem_cons_of_mem _ List.mem_cons_self)
    have:=ih (fun x hx=>by
     rcases List.mem_cons.mp hx with h | h
     ·subst h; exact y1
     ·exact w1 x (List.mem_cons_of_mem _ (List.mem_cons_of_mem _ h))) (by unfold cI; rw [List.map_cons,List.sum_cons])
    omega
  rcases List.mem_cons.mp hx with h | h
  ·subst h; omega
  ·have:=ih (fun x hx=>w1 x (List.mem_cons_of_mem _ hx)) h
   omega
theorem GT.bits {xs:List dY}{n:Nat}{W M k:Int} (g:GT xs n W M k) (c:Cp n W M k) {x:dY} (hx:x ∈ xs):intBits x.b <= 1601 /\ intBits x.t <= 3201:=by
 have:=sY (g.fq x hx) g.mp c.m c.k0 c.k
 omega
theorem GT.pb {xs:List dY}{n:Nat}{W M k:Int} (g:GT xs n W M k) (c:Cp n W M k):PB xs:=fun x hx=>by
 have b:=g.bits c hx
 have w:=mR g.w1 hx
 have w2:=g.ws
 have w3:=c.w
 have e:(2:Int) ^ 600 <= Ck:=by decide +kernel
 exact ⟨(g.fq x hx).fr,by omega,by omega,g.w1 x hx,by omega⟩
theorem GT.tot {xs:List dY}{n:Nat}{W M k:Int} (g:GT xs n W M k):1 <= cI xs:=by
 cases xs with
 | nil=>exact absurd rfl g.ne
 | cons x xs =>
  have:=mR g.w1 (x:=x) List.mem_cons_self
  have:=g.w1 x List.mem_cons_self
  omega
def El (H:Hp) (a:Addr) (xs:List dY):Prop:=H a=some (.tup (jK xs)) /\ ∀ x ∈ xs,jB H x
theorem El.same {H H':Hp}{a:Addr}{xs:List dY} (s:aN H H') (h:El H a xs):El H' a xs:=⟨s _ _ h.1,fun x hx=>(h.2 x hx).same s⟩
def be:Nat->Nat
 | 0=>1
 | d + 1=>be d + (12 * (d + 1) + 1)
def ka:Nat->Nat
 | 0=>30
 | d + 1=>ka d + (12 * (d + 1) + 1) * 12 + 1
def wB (d m:Nat):Int:=2 ^ ((12 * d + 1) * m)
def kK (d:Nat):Int:=2 ^ ka d
theorem GZ {d m:Nat}{M:Int} (hd:d <= 4) (hm:m <= 12) (hM:M <= 2 ^ (be d * m)):Cp m (wB d m) M (kK d):=by
 have b:be d <= 125:=by
  rcases (by omega:d=0 ∨ d=1 ∨ d=2 ∨ d=3 ∨ d=4) with z | z | z | z | z <;> subst z <;> decide
 have a:ka d <= 1600:=by
  rcases (by omega:d=0 ∨ d=1 ∨ d=2 ∨ d=3 ∨ d=4) with z | z | z | z | z <;> subst z <;> decide
 refine ⟨hm,Sd.eG ?_,Int.le_trans hM (Sd.eG ?_),Int.le_of_lt (Sd.cJ _),Sd.eG a⟩
 ·calc (12 * d + 1) * m <= 49 * m:=Nat.mul_le_mul_right _ (by omega)
   _ <= 49 * 12:=Nat.mul_le_mul_left _ hm
   _ <= 600:=by decide
 ·calc be d * m <= 125 * m:=Nat.mul_le_mul_right _ b
   _ <= 125 * 12:=Nat.mul_le_mul_left _ hm
   _ <= 1600:=by decide
end TD
namespace Fr
theorem Np {x y t b:Int} (f:jG x y) (hb:b ≠ 0) (e:x * b=t * y):(x,y)=sh t b:=by
 have q:=Jr (t:=t) hb
 have c2:=lX t b
 generalize (sh t b)=z at *
 obtain ⟨z1,z2⟩:=z
 have k:b * (x * z2)=b * (z1 * y):=by
  have k1:b * (x * z2)=(x * b) * z2:=by grind
  have k2:b * (z1 * y)=(z1 * b) * y:=by grind
  rw [k1,k2,c2,e]
  grind
 obtain ⟨a,c⟩:=Di f q (Int.eq_of_mul_eq_mul_left hb k)
 rw [a,c]
end Fr
namespace Tb
def PS (B:Int) (ps:List (Int × Int)):Int:=(ps.map fun p=>p.1 * (B / p.2)).sum
structure SN (ps:List (Int × Int)) (t b:Int):Prop where
 pos:0 < b
 eq:∀ B,0 < B->(∀ p ∈ ps,0 < p.2 /\ p.2 ∣ B)->t * B=b * PS B ps
theorem M8 (B:Int) (p:Int × Int) (ps:List (Int × Int)):PS B (p :: ps)=p.1 * (B / p.2) + PS B ps:=by simp [PS]
theorem Gr (B:Int) (ps qs:List (Int × Int)):PS B (ps ++ qs)=PS B ps + PS B qs:=by simp [PS]
theorem SN.nil:SN [] 0 1:=⟨by decide,fun B _ _=>by simp [PS]⟩
theorem SN.snoc {ps:List (Int × Int)}{t b n d:Int} (h:SN ps t b) (hd:0 < d):SN (ps ++ [(n,d)]) (t * d + n * b) (b * d):=by
 refine ⟨Int.mul_pos h.pos hd,fun B hB q=>?_⟩
 have e:=h.eq B hB fun p hp=>q p (List.mem_append_left _ hp)
 obtain ⟨c,_,e1,e2⟩:=ZW hd hB (q (n,d) (by simp)).2
 rw [Gr,M8]
 show _=b * d * (PS B ps + (n * (B / d) + PS B []))
 rw [e2]
 have z:PS B []=0:=rfl
 rw [z]
 have k:(t * d + n * b) * B=(t * B) * d + n * b * B:=by grind
 rw [k,e]
 conv=>lhs; rw [e1]
 grind
def jE (l0 l1:Int) (r:Rw):Rw:=if l0 * r.b < r.t * l1 then ⟨l0,l1,r.w⟩ else r
end Tb
namespace TD
open PySem L2
open Builtin.Int (intBits)
structure iQ where
 p:Addr
 w:Int
 a:Addr
 ys:List dY
def w5 (H:Hp) (e:iQ):Prop:=H e.p=some (.tup [.int e.w,.ref e.a]) /\ fY H e.a e.ys
def pD (es:List iQ):List V:=es.map fun e=>V.ref e.p
structure uL (H:Hp) (a:Addr) (es:List iQ):Prop where
 lst:H a=some (.lst (pD es))
 ents:∀ e ∈ es,w5 H e
theorem w5.same {H H':Hp}{e:iQ} (s:aN H H') (h:w5 H e):w5 H' e:=⟨s _ _ h.1,h.2.same s⟩
theorem uL.same {H H':Hp}{a:Addr}{es:List iQ} (s:aN H H') (h:uL H a es):uL H' a es:=⟨s _ _ h.lst,fun e he=>(h.ents e he).same s⟩
theorem o4 (es:List iQ):(pD es).length=es.length:=List.length_map _
theorem Ce {es:List iQ}{i:Nat}{v:V} (h:(pD es)[i]? = some v):∃ x,es[i]? = some x /\ v = .ref x.p:=by
 unfold pD at h
 rw [List.getElem?_map] at h
 cases e:es[i]? with
 | none=>rw [e] at h; cases h
 | some x=>rw [e] at h; cases h; exact ⟨x,rfl,rfl⟩
theorem Dt (xs:List iQ) (y:iQ):pD (xs ++ [y])=pD xs ++ [V.ref y.p]:=by unfold pD; rw [List.map_append]; rfl
def qF (S:Int) (e:iQ):Int:=e.w * S.fdiv (cI e.ys)
def b8 (S:Int) (es:List iQ):List Tb.Rw:=es.flatMap fun e=>e.ys.map fun y=>⟨y.t,y.b,qF S e * y.w⟩
def cQ (es:List iQ):List Int:=es.map fun e=>cI e.ys
theorem zL (S:Int) (es:List iQ) (e:iQ):b8 S (es ++ [e])=b8 S es ++ e.ys.map fun y=>⟨y.t,y.b,qF S e * y.w⟩:=by
 unfold b8
 rw [List.flatMap_append]
 simp
def bQ (xs:List dY):Int:=dF (xs.map dY.b)
theorem DX {m n:Int} (hn:0 < n):dJ m n=m * (Fr.sh m n).2:=by
 unfold dJ Fr.sh Fr.dv
 rw [if_neg (by omega)]
theorem Bc {m n M:Int} (hn:0 < n) (h1:m ∣ M) (h2:n ∣ M):dJ m n ∣ M:=by
 rw [DX hn]
 obtain ⟨a,ea⟩:=h1
 obtain ⟨b,eb⟩:=h2
 have d1:=Fr.Dn m n
 have d2:=Fr.zX m n
 have dn:=Fr.NZ (t:=m) (Int.ne_of_gt hn)
 have h:(Fr.sh m n).2 ∣ (Fr.sh m n).1 * a:=by
  refine ⟨b,Int.eq_of_mul_eq_mul_right dn ?_⟩
  have e1:(Fr.sh m n).1 * a * Fr.dv m n=((Fr.sh m n).1 * Fr.dv m n) * a:=by grind
  have e2:(Fr.sh m n).2 * b * Fr.dv m n=((Fr.sh m n).2 * Fr.dv m n) * b:=by grind
  rw [e1,e2,d1,d2,<- ea,<- eb]
 obtain ⟨c,hc⟩:=Fr.ZL (Fr.Ei (t:=m) (Int.ne_of_gt hn)) h
 exact ⟨c,by rw [ea,hc]; grind⟩
theorem pW:∀ (ns:List Int) (m M:Int),(∀ n ∈ ns,0 < n)->m ∣ M->(∀ n ∈ ns,n ∣ M)->ns.foldl dJ m ∣ M
 | [],_,_,_,h,_=>h
 | n :: ns,m,M,hp,h,hd=>pW ns _ M (fun k hk=>hp k (List.mem_cons_of_mem _ hk)) (Bc (hp n List.mem_cons_self) h (hd n List.mem_cons_self)) fun k hk=>hd k (List.mem_cons_of_mem _ hk)
theorem Bu {ns:List Int}{M:Int} (hp:∀ n ∈ ns,0 < n) (hd:∀ n ∈ ns,n ∣ M):dF ns ∣ M:=pW ns 1 M hp ⟨M,(Int.one_mul _).symm⟩ hd
theorem Fj {ns:List Int} (hp:∀ n ∈ ns,0 < n):dF ns <= Sd.fQ ns:=Int.le_of_dvd (Sd.nA hp) (Bu hp fun n hn=>Sd.qG hn)
theorem GT.bp {xs:List dY}{n:Nat}{W M k:Int} (g:GT xs n W M k):∀ b ∈ xs.map dY.b,0 < b:=fun b hb=>by
 obtain ⟨x,hx,rfl⟩:=List.mem_map.mp hb
 exact (g.fq x hx).fr.pos
theorem GT.lcm {xs:List dY}{n:Nat}{W M k:Int} (g:GT xs n W M k):0 < bQ xs /\ bQ xs ∣ M /\ ∀ x ∈ xs,x.b ∣ bQ xs:=by
 obtain ⟨a,b⟩:=FP g.bp
 exact ⟨a,Bu g.bp fun b hb=>by obtain ⟨x,hx,rfl⟩:=List.mem_map.mp hb; exact (g.fq x hx).dv,fun x hx=>b _ (List.mem_map.mpr ⟨x,hx,rfl⟩)⟩
theorem GT.own {xs:List dY}{n:Nat}{W M k:Int} (g:GT xs n W M k):GT xs n W (bQ xs) k /\ bQ xs <= M:=by
 obtain ⟨a,b,c⟩:=g.lcm
 exact ⟨⟨g.ne,g.len,g.w1,g.ws,a,fun x hx=>⟨(g.fq x hx).fr,c x hx,(g.fq x hx).lo,(g.fq x hx).hi⟩⟩,Int.le_of_dvd g.mp b⟩
theorem Gd {r:Tb.Rw} (hr:1 <= r.w):∀ {ys:List Tb.Rw},ys.Pairwise Tb.Lt->(ys.map fun y=>if r.t=y.t /\ r.b=y.b then r.w else 0).sum <= r.w
 | [],_=>by show (0:Int) <= r.w; omega
 | y :: ys,h=>by
  obtain ⟨h1,h2⟩:=List.pairwise_cons.mp h
  rw [List.map_cons,List.sum_cons]
  by_cases e:r.t=y.t /\ r.b=y.b
  ·rw [if_pos e]
   have z:(ys.map fun y=>if r.t=y.t /\ r.b=y.b then r.w else 0).sum=0:=by
    have:∀ zs:List Tb.Rw,(∀ z ∈ zs,Tb.Lt y z)->(zs.map fun y=>if r.t=y.t /\ r.b=y.b then r.w else 0).sum=0:=by
     intro zs
     induction zs with
     | nil=>intro _; rfl
     | cons z zs ih =>
      intro hz
      rw [List.map_cons,List.sum_cons,ih fun x hx=>hz x (List.mem_cons_of_mem _ hx),if_neg fun q=>Tb.Jd (hz z List.mem_cons_self) (e.1.symm.trans q.1) (e.2.symm.trans q.2)]
      rfl
    exact this ys h1
   omega
  ·rw [if_neg e]
   have:=Gd hr h2
   omega
theorem Km {ys:List Tb.Rw} (so:ys.Pairwise Tb.Lt):∀ {ps:List Tb.Rw},(∀ r ∈ ps,1 <= r.w)->(ys.map fun y=>Tb.Wt ps y.t y.b).sum <= Tb.W ps
 | [],_=>by
  have:∀ zs:List Tb.Rw,(zs.map fun y=>Tb.Wt [] y.t y.b).sum=0:=by
   intro zs
   induction zs with
   | nil=>rfl
   | cons z zs ih=>rw [List.map_cons,List.sum_cons,ih]; rfl
  rw [this]
  exact Int.le_refl _
 | r :: ps,h=>by
  have ih:=Km so (ps:=ps) fun x hx=>h x (List.mem_cons_of_mem _ hx)
  have k:=Gd (h r List.mem_cons_self) so
  have e:∀ zs:List Tb.Rw,(zs.map fun y=>Tb.Wt (r :: ps) y.t y.b).sum=(zs.map fun y=>if r.t=y.t /\ r.b=y.b then r.w else 0).sum + (zs.map fun y=>Tb.Wt ps y.t y.b).sum:=by
   intro zs
   induction zs with
   | nil=>rfl
   | cons z zs ih =>
    rw [List.map_cons,List.sum_cons,List.map_cons,List.sum_cons,List.map_cons,List.sum_cons,ih,Tb.kZ]
    omega
  rw [e,Tb.gY]
  omega
theorem Gk.sum {ps:List Tb.Rw}{ys:List dY} (o:Gk ps ys) (h:∀ r ∈ ps,1 <= r.w):cI ys <= Tb.W ps:=by
 have s:=Km o.tab.lt h
 have le:∀ zs:List dY,(∀ y ∈ zs,y.w <= Tb.Wt ps y.t y.b)->cI zs <= ((dX zs).map fun y=>Tb.Wt ps y.t y.b).sum:=by
  intro zs
  induction zs with
  | nil=>intro _; exact Int.le_refl _
  | cons z zs ih =>
   intro hz
   have e:cI (z :: zs)=z.w + cI zs:=by unfold cI; rw [List.map_cons,List.sum_cons]
   have e2:dX (z :: zs)=z.r :: dX zs:=rfl
   rw [e,e2,List.map_cons,List.sum_cons]
   have h1:=hz z List.mem_cons_self
   have h2:=ih fun y hy=>hz y (List.mem_cons_of_mem _ hy)
   have h3:Tb.Wt ps z.r.t z.r.b=Tb.Wt ps z.t z.b:=rfl
   omega
 exact Int.le_trans (le ys fun y hy=>(o.w y hy).2) s
structure GM (es:List iQ) (k0:Nat) (W0 kk:Int):Prop where
 ne:es ≠ []
 len:es.length <= 4
 k:k0 <= 12
 n:es.length * k0 <= 48
 w:∀ e ∈ es,1 <= e.w /\ e.w <= 1000
 g:∀ e ∈ es,GT e.ys k0 W0 (bQ e.ys) kk
 c:∀ e ∈ es,Cp k0 W0 (bQ e.ys) kk
theorem GM.tp {es:List iQ}{k0:Nat}{W0 kk:Int} (g:GM es k0 W0 kk):∀ n ∈ cQ es,0 < n /\ n <= 2 ^ 600:=fun n hn=>by
 obtain ⟨e,he,rfl⟩:=List.mem_map.mp hn
 have:=(g.g e he).tot
 have:=(g.g e he).ws
 have:=(g.c e he).w
 omega
theorem GM.tb {es:List iQ}{k0:Nat}{W0 kk:Int} (g:GM es k0 W0 kk):(∀ n ∈ cQ es,intBits n <= 601) /\ ((cQ es).map intBits).sum <= 2404:=by
 have e1:∀ n ∈ cQ es,intBits n <= 601:=fun n hn=>by
  have:=g.tp n hn
  have p1:(2:Int) ^ 601=2 * 2 ^ 600:=by rw [Int.pow_succ]; omega
  have q1:=Sd.cJ 600
  exact nJ (by omega) (by omega)
 have h:=oY (k:=601) (l:=(cQ es).map intBits) fun n hn=>by
  obtain ⟨z,hz,rfl⟩:=List.mem_map.mp hn
  exact e1 z hz
 have l:=g.len
 have e:((cQ es).map intBits).length=es.length:=by rw [List.length_map]; unfold cQ; rw [List.length_map]
 rw [e] at h
 exact ⟨e1,by omega⟩
theorem GM.S {es:List iQ}{k0:Nat}{W0 kk:Int} (g:GM es k0 W0 kk):0 < dF (cQ es) /\ dF (cQ es) <= 2 ^ 2400 /\ intBits (dF (cQ es)) <= 2405 /\ ∀ e ∈ es,cI e.ys ∣ dF (cQ es):=by
 have tp:∀ n ∈ cQ es,0 < n:=fun n hn=>(g.tp n hn).1
 obtain ⟨a,b⟩:=FP tp
 have l:=g.len
 have pl:=Sd.Bl (e:=600) g.tp
 have e:(cQ es).length=es.length:=by unfold cQ; rw [List.length_map]
 rw [e] at pl
 have hb:=w6 (cQ es)
 have:=g.tb.2
 exact ⟨a,Int.le_trans (Int.le_trans (Fj tp) pl) (Sd.eG (by omega)),by omega,fun e he=>b _ (List.mem_map.mpr ⟨e,he,rfl⟩)⟩
theorem zJ {S:Int}{e:iQ} (hp:1 <= cI e.ys) (d:cI e.ys ∣ S):qF S e * cI e.ys=e.w * S:=by
 unfold qF
 obtain ⟨s,es⟩:=d
 have q1:S.fdiv (cI e.ys)=s:=by rw [es]; exact Int.mul_fdiv_cancel_left _ (by omega)
 rw [q1,es]
 grind
theorem LQ {S:Int}{e:iQ} (hw:1 <= e.w) (hp:1 <= cI e.ys) (hS:0 < S) (d:cI e.ys ∣ S):1 <= qF S e:=by
 have h:=zJ hp d
 have p:0 < e.w * S:=Int.mul_pos (by omega) hS
 rcases Int.lt_or_le 0 (qF S e) with z | z
 ·omega
 ·have:=Int.mul_nonpos_of_nonpos_of_nonneg z (show (0:Int) <= cI e.ys by omega)
  omega
theorem GM.part {es:List iQ}{k0:Nat}{W0 kk:Int} (g:GM es k0 W0 kk) {e:iQ} (he:e ∈ es) {y:dY} (hy:y ∈ e.ys):1 <= qF (dF (cQ es)) e * y.w /\ qF (dF (cQ es)) e * y.w <= 1000 * dF (cQ es):=by
 obtain ⟨Sp,_,_,Sd'⟩:=g.S
 have ge:=g.g e he
 have w:=g.w e he
 have f1:=LQ w.1 ge.tot Sp (Sd' e he)
 have y1:=ge.w1 y hy
 have y2:=mR ge.w1 hy
 have a:=zJ ge.tot (Sd' e he)
 have b:=Int.mul_le_mul_of_nonneg_left y2 (show 0 <= qF (dF (cQ es)) e by omega)
 have c:=Int.mul_le_mul_of_nonneg_right w.2 (Int.le_of_lt Sp)
 have d:1 * 1 <= qF (dF (cQ es)) e * y.w:=Int.mul_le_mul f1 y1 (by decide) (by omega)
 omega
theorem GM.pb {es:List iQ}{k0:Nat}{W0 kk:Int} (g:GM es k0 W0 kk) {e:iQ} (he:e ∈ es) {y:dY} (hy:y ∈ e.ys):Fr.jG y.t y.b /\ intBits y.t <= 4000 /\ intBits y.b <= 4000 /\ 1 <= qF (dF (cQ es)) e * y.w /\ qF (dF (cQ es)) e * y.w <= Ck:=by
 have b:=(g.g e he).bits (g.c e he) hy
 have p:=g.part he hy
 have s:=g.S.2.1
 have m:(1000:Int) * 2 ^ 2400 <= Ck:=by decide +kernel
 exact ⟨((g.g e he).fq y hy).fr,by omega,by omega,p.1,by omega⟩
theorem Gg {S:Int}:∀ {es:List iQ},(∀ e ∈ es,1 <= cI e.ys /\ cI e.ys ∣ S /\ e.w <= 1000)->0 <= S->Tb.W (b8 S es) <= 1000 * (es.length:Int) * S
 | [],_,_=>by show (0:Int) <= _; simp
 | e :: es,h,hS=>by
  have ih:=Gg (es:=es) (fun x hx=>h x (List.mem_cons_of_mem _ hx)) hS
  obtain ⟨h1,h2,h3⟩:=h e List.mem_cons_self
  have e1:b8 S (e :: es)=(e.ys.map fun y=>⟨y.t,y.b,qF S e * y.w⟩) ++ b8 S es:=rfl
  have e2:∀ zs:List dY,Tb.W (zs.map fun y=>(⟨y.t,y.b,qF S e * y.w⟩ : Tb.Rw))=qF S e * cI zs:=by
   intro zs
   induction zs with
   | nil=>show (0:Int)=_ * 0; simp
   | cons z zs ih =>
    have e:cI (z :: zs)=z.w + cI zs:=by unfold cI; rw [List.map_cons,List.sum_cons]
    rw [List.map_cons,Tb.gY,ih,e,Int.mul_add]
  rw [e1,Tb.BL,e2,zJ h1 h2,List.length_cons]
  have:=Int.mul_le_mul_of_nonneg_right h3 hS
  push_cast
  have e3:1000 * ((es.length:Int) + 1) * S=1000 * (es.length:Int) * S + 1000 * S:=by grind
  rw [e3]
  omega
theorem Hw {S:Int}{es:List iQ}{t b:Int} (h:Tb.tH (b8 S es) t b):∃ e ∈ es,∃ y ∈ e.ys,y.t=t /\ y.b=b:=by
 obtain ⟨p,hp,e1,e2⟩:=h
 obtain ⟨e,he,hq⟩:=List.mem_flatMap.mp hp
 obtain ⟨y,hy,rfl⟩:=List.mem_map.mp hq
 exact ⟨e,he,y,hy,e1,e2⟩
theorem GM.out {es:List iQ}{k0:Nat}{W0 kk:Int}{ys:List dY} (g:GM es k0 W0 kk) (o:Gk (b8 (dF (cQ es)) es) ys) (hl:ys.length <= es.length * k0) :
  GT ys (es.length * k0) (4000 * Sd.fQ (cQ es)) (Sd.fQ (es.map fun e=>bQ e.ys)) kk:=by
 obtain ⟨Sp,_,_,Sd'⟩:=g.S
 have tp:∀ n ∈ cQ es,0 < n:=fun n hn=>(g.tp n hn).1
 have pw:∀ r ∈ b8 (dF (cQ es)) es,1 <= r.w:=fun r hr=>by
  obtain ⟨e,he,hq⟩:=List.mem_flatMap.mp hr
  obtain ⟨y,hy,rfl⟩:=List.mem_map.mp hq
  exact (g.part he hy).1
 have pne:b8 (dF (cQ es)) es ≠ []:=by
  cases es with
  | nil=>exact absurd rfl g.ne
  | cons e es =>
   intro z
   have h1:=(List.append_eq_nil_iff.mp (show (e.ys.map fun y=>(⟨y.t,y.b,qF _ e * y.w⟩ : Tb.Rw)) ++ b8 _ es=[] from z)).1
   exact (g.g e List.mem_cons_self).ne (List.map_eq_nil_iff.mp h1)
 have wp:=Gg (S:=dF (cQ es)) (es:=es) (fun e he=>⟨(g.g e he).tot,Sd' e he,(g.w e he).2⟩) (Int.le_of_lt Sp)
 have sl:=Fj tp
 have l:=g.len
 have mpos:∀ n ∈ es.map (fun e=>bQ e.ys),0 < n:=fun n hn=>by
  obtain ⟨e,he,rfl⟩:=List.mem_map.mp hn
  exact (g.g e he).mp
 refine ⟨o.ne pne,hl,fun y hy=>(o.w y hy).1,?_,Sd.nA mpos,fun y hy=>?_⟩
 ·have a:=o.sum pw
  have b:1000 * (es.length:Int) * dF (cQ es) <= 4000 * dF (cQ es):=Int.mul_le_mul_of_nonneg_right (by omega) (Int.le_of_lt Sp)
  omega
 ·obtain ⟨p,hp,e1,e2⟩:=o.key hy
  obtain ⟨e,he,z,hz,e3,e4⟩:=Hw ⟨p,hp,e1,e2⟩
  have f:=(g.g e he).fq z hz
  rw [e3,e4] at f
  exact Sd.Fq.mono f (Sd.qG (List.mem_map.mpr ⟨e,he,rfl⟩)) (Int.le_refl _)
end TD
namespace TD
open PySem L2
open Builtin.Int (intBits)
theorem GT.cm {xs:List dY}{n:Nat}{W M k:Int} (g:GT xs n W M k):Tb.CM (bQ xs) (dX xs):=by
 obtain ⟨a,b,c⟩:=g.lcm
 refine ⟨a,fun r hr=>?_⟩
 obtain ⟨x,hx,rfl⟩:=List.mem_map.mp hr
 exact ⟨(g.fq x hx).fr.pos,c x hx⟩
theorem GT.tab {xs:List dY}{n:Nat}{W M k:Int} (g:GT xs n W M k) (so:(dX xs).Pairwise Tb.Lt):Tb.QQ (bQ xs) (dX xs) :=
 ⟨g.cm,fun r hr=>by obtain ⟨x,hx,rfl⟩:=List.mem_map.mp hr; exact g.w1 x hx,so.imp fun h=>Int.le_of_lt h⟩
theorem aBL {B k:Int}{r:Tb.Rw} (hb:0 < r.b) (hB:0 < B) (d:r.b ∣ B) (lo:-(k * r.b) <= r.t) (hi:r.t <= k * r.b):-(k * B) <= Tb.T B r /\ Tb.T B r <= k * B:=by
 obtain ⟨c,hc,e,q⟩:=Tb.ZW hb hB d
 unfold Tb.T
 rw [q,e]
 have h1:=Int.mul_le_mul_of_nonneg_right lo (Int.le_of_lt hc)
 have h2:=Int.mul_le_mul_of_nonneg_right hi (Int.le_of_lt hc)
 have e1:-(k * r.b) * c = -(k * (r.b * c)):=by grind
 have e2:k * r.b * c=k * (r.b * c):=by grind
 rw [e1] at h1
 rw [e2] at h2
 exact ⟨h1,h2⟩
theorem Mz {B k:Int} (kB:0 <= k * B):∀ {rs:List Tb.Rw},(∀ r ∈ rs,1 <= r.w /\ -(k * B) <= Tb.T B r /\ Tb.T B r <= k * B)->-(k * B * Tb.W rs) <= Tb.WT B rs /\ Tb.WT B rs <= k * B * Tb.W rs
 | [],_=>by simp [Tb.W,Tb.WT]
 | r :: rs,h=>by
  obtain ⟨a,b⟩:=Mz kB (rs:=rs) fun x hx=>h x (List.mem_cons_of_mem _ hx)
  obtain ⟨w1,l,u⟩:=h r List.mem_cons_self
  rw [Tb.tD,Tb.gY]
  have h1:=Int.mul_le_mul_of_nonneg_left l (show 0 <= r.w by omega)
  have h2:=Int.mul_le_mul_of_nonneg_left u (show 0 <= r.w by omega)
  have e1:r.w * -(k * B) = -(k * B * r.w):=by grind
  have e2:r.w * (k * B)=k * B * r.w:=by grind
  have e3:k * B * (r.w + Tb.W rs)=k * B * r.w + k * B * Tb.W rs:=by grind
  rw [e1] at h1
  rw [e2] at h2
  rw [e3]
  omega
theorem O6 {rs:List Tb.Rw} (h:∀ r ∈ rs,1 <= r.w) (j:Nat):0 <= Tb.W (rs.drop j) /\ Tb.W (rs.drop j) <= Tb.W rs:=by
 have nn:∀ zs:List Tb.Rw,(∀ r ∈ zs,1 <= r.w)->0 <= Tb.W zs:=by
  intro zs
  induction zs with
  | nil=>intro _; exact Int.le_refl _
  | cons z zs ih =>
   intro hz
   rw [Tb.gY]
   have:=hz z List.mem_cons_self
   have:=ih fun x hx=>hz x (List.mem_cons_of_mem _ hx)
   omega
 have e:Tb.W rs=Tb.W (rs.take j) + Tb.W (rs.drop j):=by rw [<- Tb.BL,List.take_append_drop]
 have a:=nn (rs.take j) fun r hr=>h r (List.mem_of_mem_take hr)
 have b:=nn (rs.drop j) fun r hr=>h r (List.mem_of_mem_drop hr)
 omega
theorem GT.lp {xs:List dY}{n:Nat}{W M k p tops ws:Int}{i:Nat} (g:GT xs n W M k) (k0:0 <= k) (p0:0 <= p) (l:Tb.Lp (bQ xs) (p * Tb.W (dX xs) * bQ xs) (dX xs) i tops ws) :
  0 <= ws /\ ws <= cI xs /\ -((p + k) * cI xs * bQ xs) <= tops /\ tops <= (p + k) * cI xs * bQ xs:=by
 have cm:=g.cm
 have Bp:=cm.pos
 have w1:∀ r ∈ dX xs,1 <= r.w:=fun r hr=>by obtain ⟨x,hx,rfl⟩:=List.mem_map.mp hr; exact g.w1 x hx
 have wd:=O6 w1 ((dX xs).length - i)
 have kB:0 <= k * bQ xs:=Int.mul_nonneg k0 (Int.le_of_lt Bp)
 have wt:=Mz kB (rs:=(dX xs).drop ((dX xs).length - i)) fun r hr=>by
  obtain ⟨x,hx,rfl⟩:=List.mem_map.mp (List.mem_of_mem_drop hr)
  have f:=g.fq x hx
  exact ⟨g.w1 x hx,aBL (r:=x.r) f.fr.pos Bp (g.lcm.2.2 x hx) f.lo f.hi⟩
 have ew:=l.ew
 have et:=l.et
 rw [<- ew] at wd wt
 have m:=Int.mul_le_mul_of_nonneg_left wd.2 kB
 have P0:0 <= p * Tb.W (dX xs) * bQ xs:=Int.mul_nonneg (Int.mul_nonneg p0 (by omega)) (Int.le_of_lt Bp)
 have e:(p + k) * cI xs * bQ xs=p * Tb.W (dX xs) * bQ xs + k * bQ xs * Tb.W (dX xs):=by rw [qQ]; grind
 rw [e,qQ]
 exact ⟨wd.1,wd.2,by omega,by omega⟩
theorem Q5 {tops ws B k:Int} (hw:1 <= ws) (hB:0 < B) (k0:0 <= k) (lo:-(k * B) <= tops) (hi:tops <= k * B):Sd.FQ (Fr.sh tops (ws * B)) (ws * B) k:=by
 have p:0 < ws * B:=Int.mul_pos (by omega) hB
 have kb:0 <= k * B:=Int.mul_nonneg k0 (Int.le_of_lt hB)
 have e:k * (ws * B)=k * B * ws:=by grind
 have h:k * B * 1 <= k * B * ws:=Int.mul_le_mul_of_nonneg_left hw kb
 exact Sd.Ng (u:=tops) p rfl (by rw [e]; omega) (by rw [e]; omega)
def N8:Sp:=fun vs H Q _=>∃ (a:Addr) (xs:List dY) (p:Int) (n:Nat) (W k:Int),vs=[.ref a,.int p] /\ fY H a xs /\ GT xs n W (bQ xs) k /\ Cp n W (bQ xs) k /\ (dX xs).Pairwise Tb.Lt /\ 0 <= p /\ p <= 1000000000 ∧
 ∀ (r:Addr) (H':Hp) (l:Int × Int) (u:Int),aN H H'->Tq H' r l->1 <= u->u <= cI xs->Sd.FQ l (u * bQ xs) ((p + k) * cI xs)->Tb.Lv (bQ xs) (p * Tb.W (dX xs) * bQ xs) l.1 l.2 (dX xs)->Q (.ref r) H'
theorem O9 {xs ys:List dY}{n:Nat}{W M k l0 l1:Int} (g:GT xs n W M k) (f:Sd.Fq l0 l1 M k) (o:Gk ((dX xs).map (Tb.jE l0 l1)) ys) (hl:ys.length <= xs.length):GT ys n W M k:=by
 have cw:∀ r:Tb.Rw,(Tb.jE l0 l1 r).w=r.w:=fun r=>by unfold Tb.jE; split <;> rfl
 have pw:∀ r ∈ (dX xs).map (Tb.jE l0 l1),1 <= r.w:=fun r hr=>by
  obtain ⟨p,hp,rfl⟩:=List.mem_map.mp hr
  obtain ⟨x,hx,rfl⟩:=List.mem_map.mp hp
  rw [cw]
  exact g.w1 x hx
 have eW:∀ rs:List Tb.Rw,Tb.W (rs.map (Tb.jE l0 l1))=Tb.W rs:=by
  intro rs
  induction rs with
  | nil=>rfl
  | cons r rs ih=>rw [List.map_cons,Tb.gY,Tb.gY,ih,cw]
 have s:=o.sum pw
 rw [eW,<- qQ] at s
 refine ⟨o.ne fun z=>g.ne (List.map_eq_nil_iff.mp (List.map_eq_nil_iff.mp z)),Nat.le_trans hl g.len,fun y hy=>(o.w y hy).1,Int.le_trans s g.ws,g.mp,fun y hy=>?_⟩
 obtain ⟨p,hp,e1,e2⟩:=o.key hy
 obtain ⟨q,hq,rfl⟩:=List.mem_map.mp hp
 obtain ⟨x,hx,rfl⟩:=List.mem_map.mp hq
 rw [<- e1,<- e2]
 unfold Tb.jE
 split
 ·exact f
 ·exact g.fq x hx
theorem Ov {xs ys:List dY}{n:Nat}{W M k l0 l1:Int} (g:GT xs n W M k) (c:Cp n W M k) (f:Sd.Fq l0 l1 M k) (e:dX ys=(dX xs).map (Tb.jE l0 l1)):PB ys:=fun y hy=>by
 have m:y.r ∈ (dX xs).map (Tb.jE l0 l1):=by rw [<- e]; exact List.mem_map.mpr ⟨y,hy,rfl⟩
 obtain ⟨p,hp,ep⟩:=List.mem_map.mp m
 obtain ⟨x,hx,rfl⟩:=List.mem_map.mp hp
 have pb:=g.pb c x hx
 have lb:=sY f g.mp c.m c.k0 c.k
 unfold Tb.jE at ep
 by_cases cc:l0 * x.r.b < x.r.t * l1
 ·rw [if_pos cc] at ep
  have e1:l0=y.t:=congrArg Tb.Rw.t ep
  have e2:l1=y.b:=congrArg Tb.Rw.b ep
  have e3:x.w=y.w:=congrArg Tb.Rw.w ep
  rw [<- e1,<- e2,<- e3]
  exact ⟨f.fr,by omega,by omega,pb.2.2.2.1,pb.2.2.2.2⟩
 ·rw [if_neg cc] at ep
  have e1:x.t=y.t:=congrArg Tb.Rw.t ep
  have e2:x.b=y.b:=congrArg Tb.Rw.b ep
  have e3:x.w=y.w:=congrArg Tb.Rw.w ep
  rw [<- e1,<- e2,<- e3]
  exact pb
def Jz (Pt:Addr) (lp:Pos):Sp:=fun vs H Q _=>∃ (a l:Addr) (xs:List dY) (x:Int × Int) (n:Nat) (W M k:Int),vs=[.ref a,.ref l] /\ fY H a xs /\ GT xs n W M k /\ Cp n W M k /\ Tq H l x /\ Sd.FQ x M k /\ eX Pt lp kY H ∧
 ∀ (r:Addr) (H':Hp) (ys:List dY),cA Pt H H'->eX Pt lp kY H'->H r=none->fY H' r ys->GT ys n W M k->Gk ((dX xs).map (Tb.jE x.1 x.2)) ys->Q (.ref r) H'
def IV (Pt:Addr) (lp:Pos):Sp:=fun vs H Q _=>∃ (a:Addr) (es:List iQ) (k0:Nat) (W0 kk:Int),vs=[.ref a] /\ uL H a es /\ GM es k0 W0 kk /\ eX Pt lp kY H ∧
 ∀ (r:Addr) (H':Hp) (ys:List dY),cA Pt H H'->eX Pt lp kY H'->H r=none->fY H' r ys->GT ys (es.length * k0) (4000 * Sd.fQ (cQ es)) (Sd.fQ (es.map fun e=>bQ e.ys)) kk->Gk (b8 (dF (cQ es)) es) ys->ys.length <= (b8 (dF (cQ es)) es).length->Q (.ref r) H'
def IK (xs:List dY) (d m:Nat):Prop:=GT xs m (wB d m) (bQ xs) (kK d) /\ bQ xs <= 2 ^ (be d * m)
theorem IK.up {xs:List dY}{d k:Nat} (h:IK xs d k) (hk:k <= 12):IK xs d 12:=by
 obtain ⟨g,l⟩:=h
 have a:wB d k <= wB d 12:=Sd.eG (Nat.mul_le_mul_left _ hk)
 exact ⟨⟨g.ne,Nat.le_trans g.len hk,g.w1,Int.le_trans g.ws a,g.mp,g.fq⟩,Int.le_trans l (Sd.eG (Nat.mul_le_mul_left _ hk))⟩
inductive Ae (d:Nat) (f:Int × Sd.Sd->Nat):List iQ->List (Int × Sd.Sd)->Prop
 | nil:Ae d f [] []
 | cons {e:iQ}{t:Int × Sd.Sd}{es:List iQ}{rs:List (Int × Sd.Sd)} (g:IK e.ys d (f t)) (h:Ae d f es rs):Ae d f (e :: es) (t :: rs)
theorem Ae.snoc {d:Nat}{f:Int × Sd.Sd->Nat}{es:List iQ}{rs:List (Int × Sd.Sd)} (h:Ae d f es rs) {e:iQ}{t:Int × Sd.Sd} (g:IK e.ys d (f t)):Ae d f (es ++ [e]) (rs ++ [t]):=by
 induction h with
 | nil=>exact .cons g .nil
 | cons g' _ ih=>exact .cons g' ih
structure AeB (d n:Nat) (es:List iQ):Prop where
 t0:0 < Sd.fQ (cQ es)
 t:Sd.fQ (cQ es) <= 2 ^ ((12 * d + 1) * n)
 l:Sd.fQ (es.map fun e=>bQ e.ys) <= 2 ^ (be d * n)
 p:∀ S,(b8 S es).length <= n
theorem Ae.b {d:Nat}{f:Int × Sd.Sd->Nat}{es:List iQ}{rs:List (Int × Sd.Sd)} (h:Ae d f es rs):AeB d (rs.map f).sum es:=by
 induction h with
 | nil=>exact ⟨by decide,by show (1:Int) <= _; simp,by show (1:Int) <= _; simp,fun _=>Nat.zero_le _⟩
 | @cons e t es rs g _ ih =>
  have a:=g.1.tot
  have b:=g.1.ws
  unfold wB at b
  have c:=g.1.mp
  have e1:cQ (e :: es)=cI e.ys :: cQ es:=rfl
  have lp:0 < Sd.fQ (es.map fun e=>bQ e.ys) ∨ True:=.inr trivial
  rw [List.map_cons,List.sum_cons]
  refine ⟨?_,?_,?_,fun S=>?_⟩
  ·rw [e1]; exact Int.mul_pos (by omega) ih.t0
  ·rw [e1,Nat.mul_add,Int.pow_add]
   exact Int.le_trans (Int.mul_le_mul_of_nonneg_right b (Int.le_of_lt ih.t0)) (Int.mul_le_mul_of_nonneg_left ih.t (Int.le_of_lt (Sd.cJ _)))
  ·rw [List.map_cons,Nat.mul_add,Int.pow_add]
   exact Int.le_trans (Int.mul_le_mul_of_nonneg_left ih.l (Int.le_of_lt c)) (Int.mul_le_mul_of_nonneg_right g.2 (Int.le_of_lt (Sd.cJ _)))
  ·have e2:b8 S (e :: es)=(e.ys.map fun y=>⟨y.t,y.b,qF S e * y.w⟩) ++ b8 S es:=rfl
   rw [e2,List.length_append,List.length_map]
   have:=g.1.len
   have:=ih.p S
   omega
theorem Ae.all {d:Nat}{f:Int × Sd.Sd->Nat}{es:List iQ}{rs:List (Int × Sd.Sd)} (h:Ae d f es rs) (hf:∀ t ∈ rs,f t <= 12):∀ e ∈ es,IK e.ys d 12:=by
 induction h with
 | nil=>intro e he; cases he
 | @cons e t es rs g _ ih =>
  intro x hx
  rcases List.mem_cons.mp hx with z | z
  ·subst z; exact g.up (hf t List.mem_cons_self)
  ·exact ih (fun u hu=>hf u (List.mem_cons_of_mem _ hu)) x z
theorem Xd {es:List iQ}{d:Nat} (hd:d <= 4) (ne:es ≠ []) (l4:es.length <= 4) (w:∀ e ∈ es,1 <= e.w /\ e.w <= 1000) (g:∀ e ∈ es,IK e.ys d 12):GM es 12 (wB d 12) (kK d) :=
 ⟨ne,l4,by decide,by omega,w,fun e he=>(g e he).1,fun e he=>GZ hd (by decide) (g e he).2⟩
structure Mx (es:List iQ) (ys:List dY) (d m:Nat):Prop where
 g:GT ys m (wB (d + 1) m) (bQ ys) (kK d)
 l:bQ ys <= 2 ^ (be d * m)
theorem RG {es:List iQ}{ys:List dY}{d m n n0:Nat} (ab:AeB d n es) (hn:n <= m) (hm1:1 <= m) (o:ys.length <= n) (h:GT ys n0 (4000 * Sd.fQ (cQ es)) (Sd.fQ (es.map fun e=>bQ e.ys)) (kK d)):Mx es ys d m:=by
 have x2:(12 * d + 1) * n <= (12 * d + 1) * m:=Nat.mul_le_mul_left _ hn
 have x3:12 + (12 * d + 1) * m <= (12 * (d + 1) + 1) * m:=by
  have:(12 * (d + 1) + 1) * m=12 * m + (12 * d + 1) * m:=by rw [show 12 * (d + 1) + 1=12 + (12 * d + 1) by omega,Nat.add_mul]
  omega
 have y2:be d * n <= be d * m:=Nat.mul_le_mul_left _ hn
 have W1:4000 * Sd.fQ (cQ es) <= wB (d + 1) m:=by
  have a:4000 * Sd.fQ (cQ es) <= 2 ^ 12 * Sd.fQ (cQ es):=Int.mul_le_mul_of_nonneg_right (by decide) (Int.le_of_lt ab.t0)
  have b:(2:Int) ^ 12 * Sd.fQ (cQ es) <= 2 ^ 12 * 2 ^ ((12 * d + 1) * n):=Int.mul_le_mul_of_nonneg_left ab.t (by decide)
  rw [<- Int.pow_add] at b
  have c:(2:Int) ^ (12 + (12 * d + 1) * n) <= wB (d + 1) m:=Sd.eG (by omega)
  omega
 obtain ⟨o1,o2⟩:=h.own
 have M1:bQ ys <= 2 ^ (be d * m):=Int.le_trans (Int.le_trans o2 ab.l) (Sd.eG (by omega))
 exact ⟨⟨o1.ne,Nat.le_trans o hn,o1.w1,Int.le_trans o1.ws W1,o1.mp,o1.fq⟩,M1⟩
theorem Mx.cp {es:List iQ}{ys:List dY}{d m:Nat} (x:Mx es ys d m) (hd:d + 1 <= 4) (hm:m <= 12):Cp m (wB (d + 1) m) (bQ ys) (kK d):=by
 have a:=GZ (d:=d) (by omega) hm x.l
 have b:=GZ (d:=d + 1) (m:=m) (M:=1) hd hm (by have:=Sd.cJ (be (d + 1) * m); omega)
 exact ⟨hm,b.w,a.m,a.k0,a.k⟩
theorem k30 (d:Nat):(1000000000:Int) <= kK d:=by
 have h:30 <= ka d:=by
  induction d with
  | zero=>exact Nat.le_refl _
  | succ d ih=>show 30 <= ka d + (12 * (d + 1) + 1) * 12 + 1; omega
 have:=Sd.eG h
 have e:(2:Int) ^ 30=1073741824:=by decide
 unfold kK
 omega
structure Lx (ys:List dY) (l:Int × Int) (M k:Int) (d m:Nat):Prop where
 g:GT ys m (wB (d + 1) m) M k
 c:Cp m (wB (d + 1) m) M k
 f:Sd.FQ l M k
 m:M <= 2 ^ (be (d + 1) * m)
 k:k <= kK (d + 1)
theorem RP {es:List iQ}{ys:List dY}{d m:Nat}{p u:Int}{l:Int × Int} (x:Mx es ys d m) (hd:d + 1 <= 4) (hm:m <= 12) (p0:0 <= p) (p9:p <= 1000000000) (u1:1 <= u) (u2:u <= cI ys) (f:Sd.FQ l (u * bQ ys) ((p + kK d) * cI ys)) :
  Lx ys l (u * bQ ys) ((p + kK d) * cI ys) d m:=by
 have kp:=Sd.cJ (ka d)
 have kp:0 < kK d:=kp
 have k9:=k30 d
 have ws:=x.g.ws
 have w1:=x.g.tot
 have mp:=x.g.mp
 have wp:(0:Int) < wB (d + 1) m:=Sd.cJ _
 have kk:kK d <= (p + kK d) * cI ys:=by
  have a:(p + kK d) * 1 <= (p + kK d) * cI ys:=Int.mul_le_mul_of_nonneg_left w1 (by omega)
  omega
 have M1:u * bQ ys <= 2 ^ (be (d + 1) * m):=by
  have a:u * bQ ys <= wB (d + 1) m * 2 ^ (be d * m):=Int.le_trans (Int.mul_le_mul_of_nonneg_right (Int.le_trans u2 ws) (Int.le_of_lt mp)) (Int.mul_le_mul_of_nonneg_left x.l (Int.le_of_lt wp))
  unfold wB at a
  rw [<- Int.pow_add] at a
  refine Int.le_trans a (Sd.eG ?_)
  have e:be (d + 1) * m=be d * m + (12 * (d + 1) + 1) * m:=by rw [<- Nat.add_mul]; rfl
  omega
 have K1:(p + kK d) * cI ys <= kK (d + 1):=by
  have a:(p + kK d) * cI ys <= (2 * kK d) * wB (d + 1) m:=Int.le_trans (Int.mul_le_mul_of_nonneg_right (by omega) (by omega)) (Int.mul_le_mul_of_nonneg_left ws (by omega))
  have e:(2 * kK d) * wB (d + 1) m=2 ^ (ka d + 1 + (12 * (d + 1) + 1) * m):=by
   unfold kK wB
   rw [Int.pow_add,Int.pow_succ]
   grind
  rw [e] at a
  refine Int.le_trans a (Sd.eG ?_)
  show _ <= ka d + (12 * (d + 1) + 1) * 12 + 1
  have:=Nat.mul_le_mul_left (12 * (d + 1) + 1) hm
  omega
 have c1:=GZ (d:=d + 1) hd hm M1
 refine ⟨⟨x.g.ne,x.g.len,x.g.w1,x.g.ws,Int.mul_pos (by omega) mp,fun y hy=>Sd.Fq.mono (x.g.fq y hy) ⟨u,by grind⟩ kk⟩,⟨hm,c1.w,c1.m,by omega,Int.le_trans K1 c1.k⟩,f,M1,K1⟩
theorem TX {ys zs:List dY}{l:Int × Int}{M k:Int}{d m:Nat} (x:Lx ys l M k d m) (g:GT zs m (wB (d + 1) m) M k):IK zs (d + 1) m:=by
 obtain ⟨a,b⟩:=g.own
 exact ⟨⟨a.ne,a.len,a.w1,a.ws,a.mp,fun y hy=>Sd.Fq.mono (a.fq y hy) (Int.dvd_refl _) x.k⟩,Int.le_trans b x.m⟩
end TD
namespace Sd
def V (x:Int × Int):Rat:=(x.1:Rat) / (x.2:Rat)
def CQ (a b:Rat):Rat:=if a < b then b else a
def rb (l:Rat):Nat->Sd->Rat
 | 0,_=>0
 | _ + 1,.en v=>CQ l (v:Rat)
 | n + 1,.st p rs=>CQ l (rs.foldl (fun a r=>a + (r.1:Rat) / (gR rs:Rat) * rb l n r.2) (-(p:Rat)))
def ZX (l:Rat):Nat->Sd->Rat
 | 0,_=>0
 | _ + 1,.en v=>(v:Rat)
 | n + 1,.st p rs=>rs.foldl (fun a r=>a + (r.1:Rat) / (gR rs:Rat) * rb l n r.2) (-(p:Rat))
theorem Qi (l:Rat) (n:Nat) (s:Sd):rb l (n + 1) s=CQ l (ZX l (n + 1) s):=by cases s <;> rfl
theorem gZ {b:Int} (h:0 < b):(0:Rat) < (b:Rat):=by exact_mod_cast h
theorem jQ {b:Int} (h:0 < b):(b:Rat) ≠ 0:=by have:=gZ h; grind
theorem QD {x y:Int × Int} (hx:0 < x.2) (hy:0 < y.2):x.1 * y.2 < y.1 * x.2 ↔ V x < V y:=by
 have p1:=gZ hx
 have p2:=gZ hy
 have n1:=jQ hx
 have n2:=jQ hy
 have e1:V x * (x.2:Rat)=(x.1:Rat):=by unfold V; grind
 have e2:V y * (y.2:Rat)=(y.1:Rat):=by unfold V; grind
 have pp:(0:Rat) < (x.2:Rat) * (y.2:Rat):=Rat.mul_pos p1 p2
 have c:x.1 * y.2 < y.1 * x.2 ↔ (x.1:Rat) * (y.2:Rat) < (y.1:Rat) * (x.2:Rat):=by
  constructor
  ·intro h; exact_mod_cast h
  ·intro h; exact_mod_cast h
 rw [c,<- e1,<- e2]
 constructor
 ·intro h
  by_cases z:V x < V y
  ·exact z
  ·have:=Rat.mul_le_mul_of_nonneg_right (Rat.not_lt.mp z) (c:=(x.2:Rat) * (y.2:Rat)) (by grind)
   grind
 ·intro h
  have:=Rat.mul_lt_mul_of_pos_right h pp
  grind
theorem VR {x y:Int × Int} (fx:Fr.jG x.1 x.2) (fy:Fr.jG y.1 y.2) (h:V x=V y):x=y:=by
 have n1:=jQ fx.pos
 have n2:=jQ fy.pos
 have c:(x.1:Rat) * (y.2:Rat)=(y.1:Rat) * (x.2:Rat):=by unfold V at h; grind
 have c':x.1 * y.2=y.1 * x.2:=by exact_mod_cast c
 have e:=Fr.Np fx (Int.ne_of_gt fy.pos) c'
 have e2:=Fr.Np fy (Int.ne_of_gt fy.pos) (rfl:y.1 * y.2=y.1 * y.2)
 exact e.trans e2.symm
def cv (r:Tb.Rw):Rat:=(r.t:Rat) / (r.b:Rat)
def up (l:Rat) (ys:List Tb.Rw):Rat:=(ys.map fun r=>(r.w:Rat) * (CQ l (cv r) - l)).sum
def dW (ys:List Tb.Rw):Rat:=(ys.map fun r=>(r.w:Rat)).sum
theorem uT (l:Rat):up l []=0:=rfl
theorem iV (l:Rat) (r:Tb.Rw) (ys:List Tb.Rw):up l (r :: ys)=(r.w:Rat) * (CQ l (cv r) - l) + up l ys:=by unfold up; rw [List.map_cons,List.sum_cons]
theorem iY (r:Tb.Rw) (ys:List Tb.Rw):dW (r :: ys)=(r.w:Rat) + dW ys:=by unfold dW; rw [List.map_cons,List.sum_cons]
theorem Gw (l:Rat) (xs ys:List Tb.Rw):up l (xs ++ ys)=up l xs + up l ys:=by unfold up; rw [List.map_append,List.sum_append]
theorem Cr (xs ys:List Tb.Rw):dW (xs ++ ys)=dW xs + dW ys:=by unfold dW; rw [List.map_append,List.sum_append]
theorem uY:∀ ys:List Tb.Rw,dW ys=((Tb.W ys:Int):Rat)
 | []=>rfl
 | r :: ys=>by rw [iY,Tb.gY,uY ys]; push_cast; rfl
theorem FZ {f:Int->Int->Rat}{r:Tb.Rw}:∀ {ys:List Tb.Rw},ys.Pairwise Tb.Lt->((ys.map fun y=>(((if r.t=y.t /\ r.b=y.b then r.w else 0:Int)):Rat) * f y.t y.b).sum=if (∃ y ∈ ys,y.t=r.t /\ y.b=r.b) then (r.w:Rat) * f r.t r.b else 0)
 | [],_=>by simp
 | y :: ys,so=>by
  obtain ⟨h1,h2⟩:=List.pairwise_cons.mp so
  rw [List.map_cons,List.sum_cons,FZ (f:=f) (r:=r) h2]
  by_cases e:r.t=y.t /\ r.b=y.b
  ·have no:¬ ∃ z ∈ ys,z.t=r.t /\ z.b=r.b:=by
    rintro ⟨z,hz,e1,e2⟩
    exact Tb.Jd (h1 z hz) (by omega) (by omega)
   rw [if_pos e,if_neg no,if_pos ⟨y,List.mem_cons_self,e.1.symm,e.2.symm⟩,<- e.1,<- e.2]
   grind
  ·rw [if_neg e]
   by_cases h:∃ z ∈ ys,z.t=r.t /\ z.b=r.b
   ·obtain ⟨z,hz,ez⟩:=h
    rw [if_pos ⟨z,hz,ez⟩,if_pos ⟨z,List.mem_cons_of_mem _ hz,ez⟩]
    push_cast
    grind
   ·rw [if_neg h,if_neg]
    ·push_cast
     grind
    ·rintro ⟨z,hz,ez⟩
     rcases List.mem_cons.mp hz with w | w
     ·subst w; exact e ⟨ez.1.symm,ez.2.symm⟩
     ·exact h ⟨z,w,ez⟩
theorem Fo {α : Type}{f g:α->Rat}:∀ l:List α,(l.map fun x=>f x + g x).sum=(l.map f).sum + (l.map g).sum
 | []=>by show (0:Rat)=0 + 0; grind
 | x :: l=>by rw [List.map_cons,List.sum_cons,Fo l,List.map_cons,List.sum_cons,List.map_cons,List.sum_cons]; grind
theorem yL {α : Type}{f:α->Rat} (d:Rat):∀ l:List α,(l.map fun x=>d * f x).sum=d * (l.map f).sum
 | []=>by simp
 | x :: l=>by rw [List.map_cons,List.sum_cons,yL d l,List.map_cons,List.sum_cons]; grind
theorem Ax {ys:List Tb.Rw} (so:ys.Pairwise Tb.Lt) (f:Int->Int->Rat):∀ {ps:List Tb.Rw},(∀ r ∈ ps,Tb.tH ys r.t r.b)->(ps.map fun r=>(r.w:Rat) * f r.t r.b).sum=(ys.map fun y=>((Tb.Wt ps y.t y.b:Int):Rat) * f y.t y.b).sum
 | [],_=>by
  have e:(ys.map fun y=>((Tb.Wt [] y.t y.b:Int):Rat) * f y.t y.b)=ys.map fun y=>(0:Rat) * f y.t y.b:=List.map_congr_left fun y _=>rfl
  rw [e,yL]
  simp
 | r :: ps,h=>by
  rw [List.map_cons,List.sum_cons,Ax so f fun x hx=>h x (List.mem_cons_of_mem _ hx)]
  have e:(ys.map fun y=>((Tb.Wt (r :: ps) y.t y.b:Int):Rat) * f y.t y.b)=ys.map fun y=>(((if r.t=y.t /\ r.b=y.b then r.w else 0:Int)):Rat) * f y.t y.b + ((Tb.Wt ps y.t y.b:Int):Rat) * f y.t y.b:=List.map_congr_left fun y _=>by
   rw [Tb.kZ]
   push_cast
   grind
  rw [e,Fo,FZ so,if_pos]
  obtain ⟨y,hy,e1,e2⟩:=h r List.mem_cons_self
  exact ⟨y,hy,e1,e2⟩
theorem Aj {ps ys:List Tb.Rw} (h:Tb.Aw ps ys):∃ d:Rat,0 < d /\ (∀ l,up l ps=d * up l ys) /\ dW ps=d * dW ys:=by
 obtain ⟨d,d0,hd⟩:=h.d
 have hh:∀ r ∈ ps,Tb.tH ys r.t r.b:=fun r hr=>(h.has r.t r.b).mpr ⟨r,hr,rfl,rfl⟩
 have key:∀ f:Int->Int->Rat,(ps.map fun r=>(r.w:Rat) * f r.t r.b).sum=(d:Rat) * (ys.map fun y=>(y.w:Rat) * f y.t y.b).sum:=fun f=>by
  rw [Ax h.lt f hh,<- yL]
  congr 1
  refine List.map_congr_left fun y hy=>?_
  rw [hd y hy]
  push_cast
  grind
 refine ⟨(d:Rat),gZ d0,fun l=>key fun t b=>CQ l ((t:Rat) / (b:Rat)) - l,?_⟩
 have k1:=key fun _ _=>1
 unfold dW
 have e:∀ l:List Tb.Rw,(l.map fun r=>(r.w:Rat) * 1)=l.map fun r=>(r.w:Rat):=fun l=>List.map_congr_left fun r _=>by grind
 rw [e,e] at k1
 exact k1
theorem GQ {l l':Rat} (h:l <= l'):∀ {ys:List Tb.Rw},(∀ r ∈ ys,1 <= r.w)->up l' ys <= up l ys
 | [],_=>by rw [uT,uT]; grind
 | r :: ys,hw=>by
  have a:=GQ h (ys:=ys) fun x hx=>hw x (List.mem_cons_of_mem _ hx)
  have w:=gZ (show 0 < r.w by have:=hw r List.mem_cons_self; omega)
  have m:CQ l' (cv r) - l' <= CQ l (cv r) - l:=by unfold CQ; split <;> split <;> grind
  have b:=Rat.mul_le_mul_of_nonneg_left m (c:=(r.w:Rat)) (by grind)
  rw [iV,iV]
  grind
theorem JB {ys:List Tb.Rw} (ne:ys ≠ []) (h:∀ r ∈ ys,1 <= r.w):0 < dW ys:=by
 rw [uY]
 exact gZ (Tb.K5 h ne)
theorem Om {l0 l1:Int} (hl:0 < l1) {r:Tb.Rw} (hb:0 < r.b):cv (Tb.jE l0 l1 r)=(if V (l0,l1) < cv r then V (l0,l1) else cv r) /\ (Tb.jE l0 l1 r).w=r.w:=by
 have e:=QD (x:=(l0,l1)) (y:=(r.t,r.b)) hl hb
 have e:l0 * r.b < r.t * l1 ↔ V (l0,l1) < cv r:=e
 unfold Tb.jE
 by_cases h:l0 * r.b < r.t * l1
 ·rw [if_pos h,if_pos (e.mp h)]
  exact ⟨rfl,rfl⟩
 ·rw [if_neg h,if_neg (fun z=>h (e.mpr z))]
  exact ⟨rfl,rfl⟩
theorem Ef {l0 l1:Int} (hl:0 < l1) {l:Rat}:∀ {ys:List Tb.Rw},(∀ r ∈ ys,0 < r.b)->up l (ys.map (Tb.jE l0 l1))=(if l < V (l0,l1) then up l ys - up (V (l0,l1)) ys else 0) /\ dW (ys.map (Tb.jE l0 l1))=dW ys
 | [],_=>by
  constructor
  ·simp only [List.map_nil,uT]; split <;> grind
  ·rfl
 | r :: ys,h=>by
  obtain ⟨a,b⟩:=Ef (l0:=l0) hl (l:=l) (ys:=ys) fun x hx=>h x (List.mem_cons_of_mem _ hx)
  obtain ⟨c,d⟩:=Om (l0:=l0) hl (h r List.mem_cons_self)
  rw [List.map_cons,iV,iY,a,b,c,d,iY,iV,iV]
  refine ⟨?_,rfl⟩
  unfold CQ
  by_cases h1:l < V (l0,l1)
  ·rw [if_pos h1,if_pos h1]
   by_cases h2:V (l0,l1) < cv r
   ·simp only [if_pos h2]
    rw [if_pos h1,if_pos (show l < cv r by grind)]
    grind
   ·simp only [if_neg h2]
    by_cases h3:l < cv r
    ·rw [if_pos h3]; grind
    ·rw [if_neg h3]; grind
  ·rw [if_neg h1,if_neg h1]
   have:¬ l < (if V (l0,l1) < cv r then V (l0,l1) else cv r):=by split <;> grind
   rw [if_neg this]
   grind
theorem QK {B l0 l1:Int} (hB:0 < B) (hl:0 < l1):∀ {ys:List Tb.Rw},(∀ r ∈ ys,0 < r.b /\ r.b ∣ B)->((Tb.S B l0 l1 ys:Int):Rat)=(B:Rat) * (l1:Rat) * up (V (l0,l1)) ys
 | [],_=>by rw [uT]; show ((0:Int):Rat)=_; push_cast; grind
 | r :: ys,h=>by
  have a:=QK (l0:=l0) hB hl (ys:=ys) fun x hx=>h x (List.mem_cons_of_mem _ hx)
  obtain ⟨hb,dv⟩:=h r List.mem_cons_self
  have tm:=Tb.Er hb hB dv
  have ai:=Tb.Gs (l0:=l0) (l1:=l1) hb hB dv
  have e:=QD (x:=(l0,l1)) (y:=(r.t,r.b)) hl hb
  have e:l0 * r.b < r.t * l1 ↔ V (l0,l1) < cv r:=e
  have n1:=jQ hB
  have n2:=jQ hl
  have n3:=jQ hb
  have tm':((Tb.T B r:Int):Rat) * (r.b:Rat)=(r.t:Rat) * (B:Rat):=by exact_mod_cast tm
  rw [Tb.tV,iV]
  push_cast
  rw [a]
  unfold Tb.mx CQ
  by_cases c:V (l0,l1) < cv r
  ·rw [if_pos (ai.mpr (e.mpr c)),if_pos c]
   push_cast
   unfold V cv
   have t2:((Tb.T B r:Int):Rat)=(r.t:Rat) * (B:Rat) / (r.b:Rat):=by grind
   rw [t2]
   grind
  ·rw [if_neg (fun z=>c (e.mp (ai.mp z))),if_neg c]
   push_cast
   grind
structure LvR (p:Int) (L:Rat) (ys:List Tb.Rw):Prop where
 has:up L ys=(p:Rat) * dW ys
 more:∀ m:Rat,m < L->(p:Rat) * dW ys < up m ys
theorem Nq (m:Rat):V (m.num,(m.den:Int))=m:=by
 unfold V
 show (m.num:Rat) / ((m.den:Int):Rat)=m
 rw [<- Rat.divInt_eq_div,Rat.num_divInt_den]
theorem Oi {B p l0 l1:Int}{ys:List Tb.Rw} (hB:0 < B) (h:∀ r ∈ ys,0 < r.b /\ r.b ∣ B) (L:Tb.Lv B (p * Tb.W ys * B) l0 l1 ys):LvR p (V (l0,l1)) ys:=by
 have n1:=jQ hB
 have n2:=jQ L.pos
 have q1:=gZ hB
 constructor
 ·have a:=QK (l0:=l0) hB L.pos h
  rw [L.has] at a
  push_cast at a
  rw [uY]
  grind
 ·intro m hm
  have mp:(0:Int) < (m.den:Int):=by exact_mod_cast m.den_pos
  have lt:=(QD (x:=(m.num,(m.den:Int))) (y:=(l0,l1)) mp L.pos).mpr (by rw [Nq]; exact hm)
  have b:=L.more m.num m.den lt
  have a:=QK (l0:=m.num) hB mp h
  rw [Nq] at a
  have b':((p * Tb.W ys * B * (m.den:Int):Int):Rat) < ((Tb.S B m.num m.den ys:Int):Rat):=by exact_mod_cast b
  rw [a] at b'
  push_cast at b'
  have q2:=gZ mp
  push_cast at q2
  have q3:(0:Rat) < (B:Rat) * (m.den:Rat):=Rat.mul_pos q1 q2
  rw [uY]
  by_cases z:(p:Rat) * ((Tb.W ys:Int):Rat) < up m ys
  ·exact z
  ·have:=Rat.mul_le_mul_of_nonneg_right (Rat.not_lt.mp z) (c:=(B:Rat) * (m.den:Rat)) (by grind)
   grind
end Sd
namespace Sd
open TD
structure Mt (s:Sd) (d:Nat) (lv:Int × Int) (ys:List Tb.Rw):Prop where
 a:∀ n,d < n->∀ l:Rat,(rb l n s - l) * dW ys=up l ys
 b:∀ l:Rat,0 < up l ys ↔ l < V lv
 c:∀ n,d < n->ZX (V lv) n s=V lv
 t:0 < dW ys
inductive Al (d:Nat):List iQ->List (Int × Sd)->Prop
 | nil:Al d [] []
 | cons {e:iQ}{t:Int × Sd}{es:List iQ}{rs:List (Int × Sd)} (w:e.w=t.1) (m:∃ lv,Mt t.2 d lv (dX e.ys)) (h:Al d es rs):Al d (e :: es) (t :: rs)
theorem Al.snoc {d:Nat}{es:List iQ}{rs:List (Int × Sd)} (h:Al d es rs) {e:iQ}{t:Int × Sd} (w:e.w=t.1) (m:∃ lv,Mt t.2 d lv (dX e.ys)):Al d (es ++ [e]) (rs ++ [t]):=by
 induction h with
 | nil=>exact .cons w m .nil
 | cons w' m' _ ih=>exact .cons w' m' ih
theorem Am (l:Rat) (k:Int):∀ ys:List dY,up l (ys.map fun y=>⟨y.t,y.b,k * y.w⟩)=(k:Rat) * up l (dX ys) /\ dW (ys.map fun y=>(⟨y.t,y.b,k * y.w⟩ : Tb.Rw))=(k:Rat) * dW (dX ys)
 | []=>by
  constructor
  ·show (0:Rat)=(k:Rat) * 0; grind
  ·show (0:Rat)=(k:Rat) * 0; grind
 | y :: ys=>by
  obtain ⟨a,b⟩:=Am l k ys
  have e:dX (y :: ys)=y.r :: dX ys:=rfl
  rw [List.map_cons,iV,iY,a,b,e,iV,iY]
  have e2:cv y.r=cv ⟨y.t,y.b,k * y.w⟩:=rfl
  have e3:y.r.w=y.w:=rfl
  rw [e2,e3]
  push_cast
  constructor <;> grind
theorem Jl {S:Int}{d n:Nat} (hn:d < n) (l:Rat) {es:List iQ}{rs:List (Int × Sd)} (al:Al d es rs):(∀ e ∈ es,1 <= cI e.ys /\ cI e.ys ∣ S) ->
  up l (b8 S es)=(S:Rat) * (rs.map fun t=>(t.1:Rat) * (rb l n t.2 - l)).sum /\ dW (b8 S es)=(S:Rat) * ((gR rs:Int):Rat):=by
 induction al with
 | nil =>
  intro _
  constructor
  ·show (0:Rat)=(S:Rat) * 0; grind
  ·show (0:Rat)=(S:Rat) * ((0:Int):Rat); push_cast; grind
 | @cons e t es rs w m _ ih =>
  intro h
  obtain ⟨a,b⟩:=ih fun x hx=>h x (List.mem_cons_of_mem _ hx)
  obtain ⟨h1,h2⟩:=h e List.mem_cons_self
  obtain ⟨lv,mt⟩:=m
  have ef:=zJ h1 h2
  have ew:dW (dX e.ys)=((cI e.ys:Int):Rat):=by rw [uY,qQ]
  have ef':((qF S e:Int):Rat) * dW (dX e.ys)=(t.1:Rat) * (S:Rat):=by
   rw [ew,<- w]
   exact_mod_cast ef
  have ma:=mt.a n hn l
  have pe:b8 S (e :: es)=(e.ys.map fun y=>(⟨y.t,y.b,qF S e * y.w⟩ : Tb.Rw)) ++ b8 S es:=rfl
  obtain ⟨u1,u2⟩:=Am l (qF S e) e.ys
  have wt:gR (t :: rs)=t.1 + gR rs:=by unfold gR; rw [List.map_cons,List.sum_cons]
  rw [pe,Gw,Cr,u1,u2,a,b,List.map_cons,List.sum_cons,wt,<- ma,ef']
  push_cast
  constructor
  ·have:((qF S e:Int):Rat) * ((rb l n t.2 - l) * dW (dX e.ys))=(rb l n t.2 - l) * (((qF S e:Int):Rat) * dW (dX e.ys)):=by grind
   rw [this,ef']
   grind
  ·grind
theorem Cj (W l:Rat) (n:Nat):∀ (rs:List (Int × Sd)) (z:Rat),rs.foldl (fun a r=>a + (r.1:Rat) / W * rb l n r.2) z=z + (rs.map fun r=>(r.1:Rat) / W * rb l n r.2).sum
 | [],z=>by show z=z + 0; grind
 | r :: rs,z=>by rw [List.foldl_cons,Cj W l n rs,List.map_cons,List.sum_cons]; grind
theorem xD {W:Rat} (hW:W ≠ 0) (l:Rat) (n:Nat):∀ rs:List (Int × Sd),(rs.map fun r=>(r.1:Rat) / W * rb l n r.2).sum=(rs.map fun t=>(t.1:Rat) * (rb l n t.2 - l)).sum / W + l * ((gR rs:Int):Rat) / W
 | []=>by show (0:Rat)=0 / W + l * ((0:Int):Rat) / W; push_cast; grind
 | r :: rs=>by
  have wt:gR (r :: rs)=r.1 + gR rs:=by unfold gR; rw [List.map_cons,List.sum_cons]
  rw [List.map_cons,List.sum_cons,xD hW l n rs,List.map_cons,List.sum_cons,wt]
  push_cast
  grind
theorem O5 {p:Int}{rs:List (Int × Sd)} (hW:0 < gR rs) (l:Rat) (n:Nat):ZX l (n + 1) (.st p rs)=l - (p:Rat) + (rs.map fun t=>(t.1:Rat) * (rb l n t.2 - l)).sum / ((gR rs:Int):Rat):=by
 have ne:=jQ hW
 show rs.foldl (fun a r=>a + (r.1:Rat) / (gR rs:Rat) * rb l n r.2) (-(p:Rat))=_
 rw [Cj,xD ne]
 grind
theorem Ro (v:Int) (d:Nat):Mt (.en v) d (v,1) [⟨v,1,1⟩]:=by
 have e1:V (v,1)=(v:Rat):=by unfold V; push_cast; grind
 have e2:cv ⟨v,1,1⟩ = (v:Rat):=e1
 have e3:dW [⟨v,1,1⟩]=1:=by rw [iY]; show ((1:Int):Rat) + 0=1; push_cast; grind
 have e4:∀ l:Rat,up l [⟨v,1,1⟩]=CQ l (v:Rat) - l:=fun l=>by rw [iV,e2,uT]; push_cast; grind
 refine ⟨fun n hn l=>?_,fun l=>?_,fun n hn=>?_,by rw [e3]; grind⟩
 ·obtain ⟨n,rfl⟩ : ∃ k,n=k + 1:=⟨n - 1,by omega⟩
  rw [e3,e4]
  show (CQ l (v:Rat) - l) * 1=_
  grind
 ·rw [e4,e1]
  unfold CQ
  split <;> grind
 ·obtain ⟨n,rfl⟩ : ∃ k,n=k + 1:=⟨n - 1,by omega⟩
  rw [e1]
  rfl
theorem SJ {d:Nat}{es:List iQ}{rs:List (Int × Sd)}{S p:Int}{lv:Int × Int}{ys zs:List Tb.Rw} (al:Al d es rs) (hS:0 < S) (hd:∀ e ∈ es,1 <= cI e.ys /\ cI e.ys ∣ S) (hW:0 < gR rs) (o:Tb.Aw (b8 S es) ys) (ne:ys ≠ []) (hw:∀ r ∈ ys,1 <= r.w) (hb:∀ r ∈ ys,0 < r.b)
  (lp:0 < lv.2) (L:LvR p (V lv) ys) (o2:Tb.Aw (ys.map (Tb.jE lv.1 lv.2)) zs):Mt (.st p rs) (d + 1) lv zs:=by
 obtain ⟨k1,k1p,u1,t1⟩:=Aj o
 obtain ⟨k2,k2p,u2,t2⟩:=Aj o2
 have Tp:=JB ne hw
 have Wp:=gZ hW
 have Sp:=gZ hS
 obtain ⟨_,tc⟩:=Ef (l0:=lv.1) lp (l:=0) hb
 have t2':dW ys=k2 * dW zs:=by rw [<- tc,t2]
 have op:∀ n,d < n->∀ l:Rat,ZX l (n + 1) (.st p rs)=l - (p:Rat) + up l ys / dW ys:=fun n hn l=>by
  obtain ⟨a,b⟩:=Jl hn l al hd
  rw [O5 hW]
  rw [u1] at a
  rw [t1] at b
  have n1:((gR rs:Int):Rat) ≠ 0:=by grind
  have n2:dW ys ≠ 0:=by grind
  have n3:(S:Rat) ≠ 0:=by grind
  have n4:k1 ≠ 0:=by grind
  have c:(rs.map fun t=>(t.1:Rat) * (rb l n t.2 - l)).sum * dW ys=up l ys * ((gR rs:Int):Rat):=by
   have e1:(S:Rat) * ((rs.map fun t=>(t.1:Rat) * (rb l n t.2 - l)).sum * dW ys) * k1=(S:Rat) * (up l ys * ((gR rs:Int):Rat)) * k1:=by grind
   grind
  grind
 have cap:∀ l:Rat,k2 * up l zs=if l < V lv then up l ys - (p:Rat) * dW ys else 0:=fun l=>by
  rw [<- u2,(Ef (l0:=lv.1) lp (l:=l) hb).1]
  show (if l < V lv then up l ys - up (V lv) ys else 0)=_
  rw [L.has]
 have key:∀ l:Rat,(CQ l (l - (p:Rat) + up l ys / dW ys) - l) * dW ys=if l < V lv then up l ys - (p:Rat) * dW ys else 0:=fun l=>by
  have n2:dW ys ≠ 0:=by grind
  have q:up l ys / dW ys * dW ys=up l ys:=by grind
  by_cases h:l < V lv
  ·have m:=L.more l h
   have g:(p:Rat) < up l ys / dW ys:=by
    by_cases z:(p:Rat) < up l ys / dW ys
    ·exact z
    ·have:=Rat.mul_le_mul_of_nonneg_right (Rat.not_lt.mp z) (c:=dW ys) (by grind)
     grind
   unfold CQ
   rw [if_pos h,if_pos (by grind)]
   grind
  ·have m:=GQ (l:=V lv) (l':=l) (by grind) hw
   rw [L.has] at m
   have g:¬ (p:Rat) < up l ys / dW ys:=fun z=>by
    have:=Rat.mul_lt_mul_of_pos_right z Tp
    grind
   unfold CQ
   rw [if_neg h,if_neg (by grind)]
   grind
 have tz:0 < dW zs:=by
  by_cases z:0 < dW zs
  ·exact z
  ·have:=Rat.mul_le_mul_of_nonneg_left (Rat.not_lt.mp z) (c:=k2) (by grind)
   grind
 refine ⟨fun n hn l=>?_,fun l=>?_,fun n hn=>?_,tz⟩
 ·obtain ⟨n,rfl⟩ : ∃ k,n=k + 1:=⟨n - 1,by omega⟩
  rw [Qi,op n (by omega) l]
  have a:=key l
  rw [<- cap l,t2'] at a
  have n4:k2 ≠ 0:=by grind
  rw [t2']
  grind
 ·have c:=cap l
  have n4:k2 ≠ 0:=by grind
  by_cases h:l < V lv
  ·have m:=L.more l h
   rw [if_pos h] at c
   refine ⟨fun _=>h,fun _=>?_⟩
   by_cases z:0 < up l zs
   ·exact z
   ·have:=Rat.mul_le_mul_of_nonneg_left (Rat.not_lt.mp z) (c:=k2) (by grind)
    grind
  ·rw [if_neg h] at c
   refine ⟨fun z=>?_,fun z=>absurd z h⟩
   have:=Rat.mul_lt_mul_of_pos_left z k2p
   grind
 ·obtain ⟨n,rfl⟩ : ∃ k,n=k + 1:=⟨n - 1,by omega⟩
  rw [op n (by omega),L.has]
  have n2:dW ys ≠ 0:=by grind
  grind
def Rv (s:Sd) (d:Nat) (lv:Int × Int):Prop:=∃ ys,Mt s d lv ys
theorem Rv.iff {s:Sd}{d:Nat}{lv:Int × Int} (h:Rv s d lv) {n:Nat} (hn:d < n) (l:Rat):l < V lv ↔ l < rb l n s:=by
 obtain ⟨ys,m⟩:=h
 rw [<- m.b l,<- m.a n hn l]
 have t:=m.t
 constructor
 ·intro z
  by_cases y:l < rb l n s
  ·exact y
  ·have:=Rat.mul_le_mul_of_nonneg_right (a:=rb l n s - l) (b:=0) (c:=dW ys) (by grind) (by grind)
   grind
 ·intro z
  exact Rat.mul_pos (by grind) t
theorem Lk {a b:Rat} (h:∀ l:Rat,l < a ↔ l < b):a=b:=by
 have h1:=h a
 have h2:=h b
 grind
theorem Rv.one {s:Sd}{d:Nat}{lv lw:Int × Int} (h:Rv s d lv) (h':Rv s d lw) (f:Fr.jG lv.1 lv.2) (f':Fr.jG lw.1 lw.2):lv=lw :=
 VR f f' (Lk fun l=>(h.iff (Nat.lt_succ_self d) l).trans (h'.iff (Nat.lt_succ_self d) l).symm)
end Sd
namespace Sd
structure Lw (l:Int × Int):Prop where
 fr:Fr.jG l.1 l.2
 b:l.2 <= 2 ^ 1500
 lo:-(2 ^ 1530 * l.2) <= l.1
 hi:l.1 <= 2 ^ 1530 * l.2
theorem p30:(1000000000:Int) <= 2 ^ 1530:=by decide +kernel
theorem Lw.fq {l:Int × Int} (h:Lw l):FQ l l.2 (2 ^ 1530):=⟨h.fr,Int.dvd_refl _,h.lo,h.hi⟩
theorem Lv.lw {l:Int × Int} (h:Lv l):Lw l:=by
 have p:=h.fr.pos
 have e:(2147483648:Int) <= 2 ^ 1530:=by decide +kernel
 have f:=jH e (Int.le_of_lt p)
 have:=h.lo
 have:=h.hi
 exact ⟨h.fr,Int.le_trans h.b (eG (by decide)),by omega,by omega⟩
end Sd
namespace TD
open PySem L2
open Builtin.Int (intBits)
theorem WX {x:Int × Int}{N k:Int} (f:Sd.FQ x N k) (hN:0 < N) (hn:N <= 2 ^ 2200) (k0:0 <= k) (hk:k <= 2 ^ 1600):Z4 x:=by
 have h:=sY f hN hn k0 hk
 exact ⟨by omega,by omega,f.fr.pos⟩
theorem Nk {l:Int × Int} (h:Sd.Lw l):Z4 l:=WX h.fq h.fr.pos (Int.le_trans h.b (Sd.eG (by decide))) (Int.le_of_lt (Sd.cJ _)) (Sd.eG (by decide))
end TD
namespace Sd
open TD
end Sd
namespace Sd
def nE:Nat->Sd->Int
 | 0,_=>0
 | _ + 1,.en _=>1
 | n + 1,.st _ rs=>(rs.map fun r=>nE n r.2).sum
def Kv (l:List Int):Int:=l.foldl max 0
def nS:Nat->Sd->Int
 | 0,_=>0
 | _ + 1,.en _=>0
 | n + 1,.st _ rs=>1 + Kv (rs.map fun r=>nS n r.2)
theorem mQ:∀ (l:List Int) (a:Int),a <= l.foldl max a /\ (∀ x ∈ l,x <= l.foldl max a) /\ (l.foldl max a=a ∨ l.foldl max a ∈ l)
 | [],a=>⟨Int.le_refl _,(fun _ h=>nomatch h),.inl rfl⟩
 | y :: l,a=>by
  obtain ⟨h1,h2,h3⟩:=mQ l (max a y)
  rw [List.foldl_cons]
  refine ⟨by omega,fun x hx=>?_,?_⟩
  ·rcases List.mem_cons.mp hx with e | e
   ·subst e; omega
   ·exact h2 x e
  ·rcases h3 with e | e
   ·rw [e]
    by_cases z:a <= y
    ·right; rw [show max a y=y by omega]; exact List.mem_cons_self
    ·left; omega
   ·exact .inr (List.mem_cons_of_mem _ e)
theorem Og {l:List Int}{M:Int} (h0:∀ x ∈ l,0 <= x) (hm:M ∈ l) (hx:∀ x ∈ l,x <= M):M=Kv l:=by
 obtain ⟨h1,h2,h3⟩:=mQ l 0
 have a:=h2 M hm
 unfold Kv
 rcases h3 with e | e
 ·have:=h0 M hm
  omega
 ·have:=hx _ e
  omega
theorem Ok.nE {s:Sd}{d m:Nat} (ok:Ok s d m):∀ n,d < n->nE n s <= (m:Int):=by
 induction ok with
 | en _ _ hm=>intro n hn; obtain ⟨n,rfl⟩ : ∃ k,n=k + 1:=⟨n - 1,by omega⟩; show (1:Int) <= _; omega
 | @st p rs d m k h0 h9 ne l4 w sub hk ih =>
  intro n hn
  obtain ⟨n,rfl⟩ : ∃ k,n=k + 1:=⟨n - 1,by omega⟩
  show (rs.map fun r=>Sd.nE n r.2).sum <= _
  have key:∀ l:List (Int × Sd),(∀ r ∈ l,r ∈ rs)->(l.map fun r=>Sd.nE n r.2).sum <= (((l.map k).sum:Nat):Int):=by
   intro l
   induction l with
   | nil=>intro _; exact Int.le_refl _
   | cons r l ih2 =>
    intro h
    have a:=ih2 fun x hx=>h x (List.mem_cons_of_mem _ hx)
    have b:=ih r (h r List.mem_cons_self) n (by omega)
    rw [List.map_cons,List.sum_cons,List.map_cons,List.sum_cons]
    push_cast
    omega
  have a:=key rs fun r hr=>hr
  omega
end Sd
namespace TD
open PySem L2
open Builtin.Int (intBits)
structure Cs where
 e:Addr
 s:Addr
def fB (n k:Int) (l cp:Addr):List (Str × V):=[("end_count",.int n),("stage_count",.int k),("level",.ref l),("cap_rows",.ref cp)]
def fE (n k:Int) (l cp:Addr) (v:Int):List (Str × V):=[("end_count",.int n),("stage_count",.int k),("level",.ref l),("cap_rows",.ref cp),("worth",.int v)]
def fS (n k:Int) (l cp:Addr) (p:Int) (r:Addr):List (Str × V):=[("end_count",.int n),("stage_count",.int k),("level",.ref l),("cap_rows",.ref cp),("price",.int p),("rows",.ref r)]
structure Ou (H:Hp) (l cp:Addr) (s:Sd.Sd) (lq:Int × Int) (xs:List dY) (n k:Int) (d m:Nat):Prop where
 lv:Tq H l lq
 caps:El H cp xs
 gs:IK xs d m
 so:(dX xs).Pairwise Tb.Lt
 n1:1 <= n
 nm:n <= (m:Int)
 k0:0 <= k
 kd:k <= (d:Int)
 mt:Sd.Mt s d lq (dX xs)
 lw:Sd.Lw lq
 nx:n=Sd.nE (d + 1) s
 kx:k=Sd.nS (d + 1) s
inductive dR (c:Cs) (H:Hp):Addr->Sd.Sd->Nat->Nat->Prop
 | en {x dx l cp:Addr}{v n k:Int}{d m:Nat}{xs:List dY} (h:H x=some (.ins c.e dx (fE n k l cp v))) (vv:Ou H l cp (.en v) (v,1) xs n k d m) (ok:Sd.Ok (.en v) d m):dR c H x (.en v) d m
 | st {x dx l cp r:Addr}{p n k:Int}{lv:Int × Int}{d m:Nat}{j:Int × Sd.Sd->Nat}{xs:List dY}{rs:List (Int × Sd.Sd)}{ps ys:List Addr} (h:H x=some (.ins c.s dx (fS n k l cp p r))) (vv:Ou H l cp (.st p rs) lv xs n k (d + 1) m) (g:H r=some (.tup (ps.map V.ref)))
   (lp:ps.length=rs.length) (ly:ys.length=rs.length) (row:∀ (i:Nat) q y t,ps[i]? = some q->ys[i]? = some y->rs[i]? = some t->H q=some (.tup [.int t.1,.ref y])) (sub:∀ (i:Nat) y t,ys[i]? = some y->rs[i]? = some t->dR c H y t.2 d (j t))
   (p0:0 <= p) (p9:p <= 1000000000) (ne:rs ≠ []) (l4:rs.length <= 4) (w:∀ r ∈ rs,1 <= r.1 /\ r.1 <= 1000) (hk:(rs.map j).sum <= m):dR c H x (.st p rs) (d + 1) m
def Kp (H H':Hp):Prop:=∀ b o,H b=some o->(∀ ps,o ≠ .tbl ps)->(∀ C dx,o ≠ .ins C dx [])->H' b=some o
theorem aN.kp {H H':Hp} (s:aN H H'):Kp H H':=fun b o h _ _=>s b o h
theorem cA.kp {P:Addr}{pos:Pos}{qual:Str}{H H':Hp} (s:cA P H H') (t:eX P pos qual H):Kp H H':=fun b o h n _=>s.get t h n
theorem Kp.trans {H H1 H2:Hp} (a:Kp H H1) (b:Kp H1 H2):Kp H H2:=fun c o h n m=>b c o (a c o h n m) n m
theorem Kp.tup {H H':Hp} (k:Kp H H') {b:Addr}{xs:List V} (h:H b=some (.tup xs)):H' b=some (.tup xs):=k _ _ h (fun _ z=>nomatch z) (fun _ _ z=>nomatch z)
theorem Kp.ins {H H':Hp} (k:Kp H H') {b C dx:Addr}{f:Str × V}{fs:List (Str × V)} (h:H b=some (.ins C dx (f :: fs))):H' b=some (.ins C dx (f :: fs)):=k _ _ h (fun _ z=>nomatch z) (fun _ _ z=>by injection z with _ _ z; exact nomatch z)
theorem Kp.lst {H H':Hp} (k:Kp H H') {b:Addr}{xs:List V} (h:H b=some (.lst xs)):H' b=some (.lst xs):=k _ _ h (fun _ z=>nomatch z) (fun _ _ z=>nomatch z)
theorem jB.kp {H H':Hp}{x:dY} (s:Kp H H') (h:jB H x):jB H' x:=⟨s.tup h.1,s.tup h.2⟩
theorem El.kp {H H':Hp}{a:Addr}{xs:List dY} (s:Kp H H') (h:El H a xs):El H' a xs:=⟨s.tup h.1,fun x hx=>(h.2 x hx).kp s⟩
theorem fY.kp {H H':Hp}{a:Addr}{xs:List dY} (s:Kp H H') (h:fY H a xs):fY H' a xs:=⟨s.lst h.lst,fun x hx=>(h.rows x hx).kp s⟩
theorem Ou.kp {H H':Hp}{l cp:Addr}{sd:Sd.Sd}{lv:Int × Int}{xs:List dY}{n k:Int}{d m:Nat} (s:Kp H H') (h:Ou H l cp sd lv xs n k d m):Ou H' l cp sd lv xs n k d m:=⟨s.tup h.lv,h.caps.kp s,h.gs,h.so,h.n1,h.nm,h.k0,h.kd,h.mt,h.lw,h.nx,h.kx⟩
theorem dR.kp {c:Cs}{H H':Hp}{x:Addr}{s:Sd.Sd}{d m:Nat} (h:dR c H x s d m) (k:Kp H H'):dR c H' x s d m:=by
 induction h with
 | en h vv ok=>exact .en (k.ins h) (vv.kp k) ok
 | st h vv g lp ly row sub p0 p9 ne l4 w hk ih=>exact .st (k.ins h) (vv.kp k) (k.tup g) lp ly (fun i q y t a b c=>k.tup (row i q y t a b c)) ih p0 p9 ne l4 w hk
theorem dR.same {c:Cs}{H H':Hp}{x:Addr}{s:Sd.Sd}{d m:Nat} (k:aN H H') (h:dR c H x s d m):dR c H' x s d m:=h.kp (aN.kp k)
theorem Kd {α β : Type}{ys:List α}{rs:List β} (l:ys.length=rs.length) {r:β} (h:r ∈ rs):∃ (i:Nat) (y:α),ys[i]? = some y /\ rs[i]? = some r:=by
 obtain ⟨i,hi,e⟩:=List.getElem_of_mem h
 exact ⟨i,ys[i]'(by omega),List.getElem?_eq_getElem _,by rw [List.getElem?_eq_getElem hi,e]⟩
theorem dR.ok {c:Cs}{H:Hp}{x:Addr}{s:Sd.Sd}{d m:Nat} (h:dR c H x s d m):Sd.Ok s d m:=by
 induction h with
 | en _ _ ok=>exact ok
 | st h vv g lp ly row sub p0 p9 ne l4 w hk ih=>exact .st p0 p9 ne l4 w (fun r hr=>by obtain ⟨i,y,a,b⟩:=Kd ly hr; exact ih i y r a b) hk
inductive gQ (H:Hp):Addr->Sd.Sd->Prop
 | en {a:Addr}{v:Int} (h:H a=some (.tup [.str "end",.int v])):gQ H a (.en v)
 | st {a r:Addr}{p:Int}{rs:List (Int × Sd.Sd)}{ps ys:List Addr} (h:H a=some (.tup [.str "stage",.int p,.ref r])) (g:H r=some (.tup (ps.map V.ref))) (lp:ps.length=rs.length) (ly:ys.length=rs.length)
   (row:∀ (i:Nat) q y t,ps[i]? = some q->ys[i]? = some y->rs[i]? = some t->H q=some (.tup [.int t.1,.ref y])) (sub:∀ (i:Nat) y t,ys[i]? = some y->rs[i]? = some t->gQ H y t.2):gQ H a (.st p rs)
theorem gQ.keep {H H':Hp}{a:Addr}{s:Sd.Sd} (h:gQ H a s) (k:∀ b xs,H b=some (.tup xs)->H' b=some (.tup xs)):gQ H' a s:=by
 induction h with
 | en h=>exact .en (k _ _ h)
 | st h g lp ly row sub ih=>exact .st (k _ _ h) (k _ _ g) lp ly (fun i q y t a b c=>k _ _ (row i q y t a b c)) ih
theorem gQ.kp {H H':Hp}{a:Addr}{s:Sd.Sd} (h:gQ H a s) (k:Kp H H'):gQ H' a s:=h.keep fun b xs e=>k.tup e
theorem gQ.same {H H':Hp}{a:Addr}{s:Sd.Sd} (k:aN H H') (h:gQ H a s):gQ H' a s:=h.keep fun b xs e=>k _ _ e
structure CK (K:PySem.W.Frag) (c:Cs):Prop where
 ce:zR K c.e
 cs:zR K c.s
 e1:bV K c.e "end_count"
 e2:bV K c.e "stage_count"
 e3:bV K c.e "level"
 e4:bV K c.e "cap_rows"
 e5:bV K c.e "worth"
 s1:bV K c.s "end_count"
 s2:bV K c.s "stage_count"
 s3:bV K c.s "level"
 s4:bV K c.s "cap_rows"
 s5:bV K c.s "price"
 s6:bV K c.s "rows"
structure CT (K:PySem.W.Frag) (c:Cs):Prop where
 hn:PySem.W.specialIn K (.builtin "object.__class__") "__get__" = some (some (.builtin "getset_descriptor.__get__"))
 htk:PySem.W.takesIn K (.builtin "object.__class__")=some true
 ea:PySem.W.findIn K (.ref c.e) "__class__" = some (some (.builtin "object.__class__"))
 em:PySem.W.mroIn K c.e (.type "object")=some true
 sa:PySem.W.findIn K (.ref c.s) "__class__" = some (some (.builtin "object.__class__"))
 sm:PySem.W.mroIn K c.s (.type "object")=some true
 ee:PySem.W.kitOne K (.ref c.e) (.ref c.e)=some true
 se:PySem.W.kitOne K (.ref c.s) (.ref c.e)=some false
 ss:PySem.W.kitOne K (.ref c.s) (.ref c.s)=some true
def JF (c:Cs):Sp:=fun vs H Q _=>∃ (x:Addr) (s:Sd.Sd) (d m:Nat),vs=[.ref x] /\ dR c H x s d m /\ ∀ n:Int,1 <= n->n <= (m:Int)->n=Sd.nE (d + 1) s->Q (.int n) H
def Iv (c:Cs):Sp:=fun vs H Q _=>∃ (x:Addr) (s:Sd.Sd) (d m:Nat),vs=[.ref x] /\ dR c H x s d m /\ ∀ k:Int,0 <= k->k <= (d:Int)->k=Sd.nS (d + 1) s->Q (.int k) H
def Dr (c:Cs):Sp:=fun vs H Q _=>∃ (x:Addr) (s:Sd.Sd) (d m:Nat),vs=[.ref x] /\ dR c H x s d m /\ ∀ (r:Addr) (H':Hp) (xs:List dY),aN H H'->H r=none->fY H' r xs->IK xs d m->(dX xs).Pairwise Tb.Lt->(∃ lv,Sd.Mt s d lv (dX xs) /\ Sd.Lw lv)->Q (.ref r) H'
def Ny (c:Cs):Sp:=fun vs H Q _=>∃ (x:Addr) (s:Sd.Sd) (d m:Nat),vs=[.ref x] /\ dR c H x s d m /\ ∀ l lv,Tq H l lv->Sd.Lw lv->Sd.Rv s d lv->Q (.ref l) H
def JR (c:Cs):Sp:=fun vs H Q _=>∃ (x dx C l a:Addr) (n k:Int) (xs:List dY),vs=[.ref x,.int n,.int k,.ref l,.ref a] /\ (C=c.e ∨ C=c.s) /\ H x=some (.ins C dx []) /\ fY H a xs ∧
 ∀ (cp:Addr) (H':Hp),H cp=none->(∀ b o,b ≠ x->H b=some o->H' b=some o)->H' x=some (.ins C dx (fB n k l cp))->H' cp=some (.tup (jK xs))->Q .non H'
structure qH (c:Cs) (H:Hp) (ps ys:List Addr) (rs:List (Int × Sd.Sd)) (d:Nat) (j:Int × Sd.Sd->Nat):Prop where
 lp:ps.length=rs.length
 ly:ys.length=rs.length
 row:∀ (i:Nat) q y t,ps[i]? = some q->ys[i]? = some y->rs[i]? = some t->H q=some (.tup [.int t.1,.ref y])
 sub:∀ (i:Nat) y t,ys[i]? = some y->rs[i]? = some t->dR c H y t.2 d (j t)
theorem qH.kp {c:Cs}{H H':Hp}{ps ys:List Addr}{rs:List (Int × Sd.Sd)}{d:Nat}{j:Int × Sd.Sd->Nat} (h:qH c H ps ys rs d j) (k:Kp H H'):qH c H' ps ys rs d j:=⟨h.lp,h.ly,fun i q y t a b e=>k.tup (h.row i q y t a b e),fun i y t a b=>(h.sub i y t a b).kp k⟩
theorem qH.at_ {c:Cs}{H:Hp}{ps ys:List Addr}{rs:List (Int × Sd.Sd)}{d i:Nat}{j:Int × Sd.Sd->Nat}{v:V} (h:qH c H ps ys rs d j) (hv:(ps.map V.ref)[i]? = some v):∃ q y t,ps[i]? = some q /\ ys[i]? = some y /\ rs[i]? = some t /\ v = .ref q /\ H q=some (.tup [.int t.1,.ref y]) /\ dR c H y t.2 d (j t) /\ t ∈ rs:=by
 rw [List.getElem?_map] at hv
 cases e:ps[i]? with
 | none=>rw [e] at hv; cases hv
 | some q =>
  rw [e] at hv
  cases hv
  have hi:=(List.getElem?_eq_some_iff.mp e).1
  have l1:=h.lp
  have l2:=h.ly
  have ey:ys[i]? = some (ys[i]'(by omega)):=List.getElem?_eq_getElem _
  have er:rs[i]? = some (rs[i]'(by omega)):=List.getElem?_eq_getElem _
  exact ⟨q,_,_,rfl,ey,er,rfl,h.row i q _ _ e ey er,h.sub i _ _ ey er,List.mem_of_getElem? er⟩
def Qs (c:Cs):Sp:=fun vs H Q _=>∃ (x:Addr) (p:Int) (rs:List (Int × Sd.Sd)) (d m i:Nat) (t:Int × Sd.Sd),vs=[.ref x,.int (i:Int)] /\ dR c H x (.st p rs) (d + 1) m /\ rs[i]? = some t /\ ∀ (y:Addr) (j:Nat),j <= m->dR c H y t.2 d j->Q (.ref y) H
theorem Oc {p q:Addr}{v:Int}{d m:Nat} (h0:0 <= v) (h9:v <= 1000000000) (hm:1 <= m):IK [⟨p,q,v,1,1⟩] d m:=by
 have e:bQ [⟨p,q,v,1,1⟩]=1:=by show dF [1]=1; decide
 have w1:cI [(⟨p,q,v,1,1⟩ : dY)]=1:=rfl
 have wp:=Sd.cJ ((12 * d + 1) * m)
 have bp:=Sd.cJ (be d * m)
 have k9:=k30 d
 unfold IK
 rw [e]
 refine ⟨⟨by simp,by show 1 <= m; exact hm,fun x hx=>?_,by rw [w1]; unfold wB; omega,by decide,fun x hx=>?_⟩,by omega⟩
 ·rw [List.mem_singleton.mp hx]; exact Int.le_refl _
 ·rw [List.mem_singleton.mp hx]
  exact ⟨Sd.fr1 v,Int.dvd_refl _,by show -(kK d * 1) <= v; omega,by show v <= kK d * 1; omega⟩
def CZ (x:Addr) (H H':Hp):Prop:=∀ b o,b ≠ x->H b=some o->H' b=some o
theorem CZ.kp {x C dx:Addr}{H H':Hp} (s:CZ x H H') (hx:H x=some (.ins C dx [])):Kp H H':=fun b o h _ n=>s b o (fun e=>by rw [e,hx] at h; cases h; exact n C dx rfl) h
theorem eX.sameX {P x C dx:Addr}{pos:Pos}{qual:Str}{fs:List (Str × V)}{H H':Hp} (t:eX P pos qual H) (s:CZ x H H') (hx:H x=some (.ins C dx fs)):eX P pos qual H':=by
 rcases t with t | ⟨c,t,u⟩
 ·exact .inl (s _ _ (bJ t hx fun z=>nomatch z) t)
 ·exact .inr ⟨c,s _ _ (bJ t hx fun z=>nomatch z) t,s _ _ (bJ u hx fun z=>by unfold uR at z; exact nomatch z) u⟩
theorem JK {c:Cs}{H H0:Hp}{y:Addr}{s:Sd.Sd}{d m:Nat}{σ : St}{ta:TE}{nm:Str}{sp:Sp}{Q:VK} (st:dR c H y s d m) (le:∀ n k l cp v,(fE n k l cp v).lookup nm=none) (ls:∀ n k l cp p r,(fS n k l cp p r).lookup nm=none) (hv:∀ R:VK,R (.ref y) H->ta σ H0 R) (q:sp [.ref y] H Q E0) :
  xM c.e nm sp [] E0 ta DN σ H0 Q ∨ xM c.s nm sp [] E0 ta DN σ H0 Q:=by
 cases st with
 | en h vv ok=>exact .inl (hv _ ⟨y,_,_,rfl,h,le _ _ _ _ _,q⟩)
 | st h vv g lp ly row sub p0 p9 ne l4 w hk=>exact .inr (hv _ ⟨y,_,_,rfl,h,ls _ _ _ _ _ _,q⟩)
def Fp (K:PySem.W.Frag):Sp:=fun vs H Q _=>∃ (a:Addr) (ns:List Int) (k:Int),vs=[.ref a,.int k] /\ bO K H a (ns.map V.int) /\ 0 <= k /\ ∀ j,Q (.int j) H
def Ke:Sp:=fun vs H Q _=>∃ c k:Int,vs=[.int c,.int k] /\ 0 <= k /\ k <= 100000 /\ ∀ j,0 <= j->j < 2147483587->Q (.int j) H
def pp:Nat->Nat->Nat
 | 0,_=>2
 | d + 1,m=>((List.range 4).map fun i=>if i + 1 <= m then 2 + (i + 1) * (1 + pp d (m / (i + 1))) else 2).foldl max 2
def LK (c:Cs) (Pt:Addr) (lp:Pos) (n:Nat):Sp:=fun vs H Q _=>∃ (a:Addr) (s:Sd.Sd) (d m:Nat),vs=[.ref a] /\ gQ H a s /\ Sd.Ok s d m /\ d < n /\ d <= 4 /\ m <= 12 /\ eX Pt lp kY H /\ ∀ (x:Addr) (H':Hp),cA Pt H H'->eX Pt lp kY H'->dR c H' x s d m->Q (.ref x) H'
def sV (K:PySem.W.Frag) (Pt:Addr) (lp:Pos):Sp:=fun vs H Q _=>∃ (a:Addr) (ns:List Int),vs=[.ref a] /\ bO K H a (ns.map V.int) /\ ns.length <= 63 /\ H Pt=some (.tbl #[]) /\ ∀ H',Q (.bl true) H'
theorem Pj {v:Int} (h0:0 <= v) (h9:v <= 1000000000):Sd.Lw (v,1):=by
 have:=Sd.p30
 exact ⟨Sd.fr1 v,Sd.cJ 1500,by show -(2 ^ 1530 * 1) <= v; omega,by show v <= 2 ^ 1530 * 1; omega⟩
theorem be4:∀ d,d + 1 <= 4->be (d + 1) <= 125 /\ ka (d + 1) <= 1530
 | 0,_=>by decide
 | 1,_=>by decide
 | 2,_=>by decide
 | 3,_=>by decide
 | d + 4,h=>by omega
theorem WP {ys:List dY}{l:Int × Int}{M k:Int}{d m:Nat} (x:Lx ys l M k d m) (hd:d + 1 <= 4) (hm:m <= 12):Sd.Lw l:=by
 obtain ⟨b1,b2⟩:=be4 d hd
 have a:=Int.le_of_dvd x.g.mp x.f.dv
 have e:(2:Int) ^ (be (d + 1) * m) <= 2 ^ 1500:=Sd.eG (Nat.le_trans (Nat.mul_le_mul b1 hm) (by decide))
 have g:k <= 2 ^ 1530:=Int.le_trans x.k (Sd.eG b2)
 have h:=Sd.jH g (Int.le_of_lt x.f.fr.pos)
 have:=x.f.lo
 have:=x.f.hi
 exact ⟨x.f.fr,Int.le_trans a (Int.le_trans x.m e),by omega,by omega⟩
theorem Uj {d:Nat}{es:List iQ}{rs:List (Int × Sd.Sd)}{p:Int}{lv:Int × Int}{ys zs:List dY}{n:Nat}{W k W0 kk:Int}{k0:Nat} (al:Sd.Al d es rs) (gm:GM es k0 W0 kk) (hW:0 < Sd.gR rs) (o:Gk (b8 (dF (cQ es)) es) ys) (g:GT ys n W (bQ ys) k)
  (lp:0 < lv.2) (L:Tb.Lv (bQ ys) (p * Tb.W (dX ys) * bQ ys) lv.1 lv.2 (dX ys)) (o2:Gk ((dX ys).map (Tb.jE lv.1 lv.2)) zs):Sd.Mt (.st p rs) (d + 1) lv (dX zs):=by
 obtain ⟨S1,_,_,S2⟩:=gm.S
 have fr:∀ r ∈ dX ys,0 < r.b /\ r.b ∣ bQ ys:=fun r hr=>by
  obtain ⟨y,hy,rfl⟩:=List.mem_map.mp hr
  exact ⟨(g.fq y hy).fr.pos,(g.fq y hy).dv⟩
 refine Sd.SJ al S1 (fun e he=>⟨(gm.g e he).tot,S2 e he⟩) hW o.tab (fun e=>g.ne (List.map_eq_nil_iff.mp e)) (fun r hr=>?_) (fun r hr=>(fr r hr).1) lp (Sd.Oi g.mp fr L) o2.tab
 obtain ⟨y,hy,rfl⟩:=List.mem_map.mp hr
 exact g.w1 y hy
end TD
namespace TD
open PySem L2
open Builtin.Int (intBits)
inductive Fy (H:Hp):Nat->V->V->Prop
 | int (n:Nat) (i:Int):Fy H n (.int i) (.int i)
 | str (n:Nat) (x:Str):Fy H n (.str x) (.str x)
 | tup {n:Nat}{a b:Addr}{xs ys:List V} (ha:H a=some (.tup xs)) (hb:H b=some (.tup ys)) (l:xs.length=ys.length) (h:∀ (j:Nat) x y,xs[j]? = some x->ys[j]? = some y->Fy H n x y):Fy H (n + 1) (.ref a) (.ref b)
 | lst {n:Nat}{a b:Addr}{xs ys:List V} (ha:H a=some (.lst xs)) (hb:H b=some (.lst ys)) (l:xs.length=ys.length) (h:∀ (j:Nat) x y,xs[j]? = some x->ys[j]? = some y->Fy H n x y):Fy H (n + 1) (.ref a) (.ref b)
theorem Fy.same {H H':Hp} (s:aN H H') {n:Nat}{x y:V} (h:Fy H n x y):Fy H' n x y:=by
 induction h with
 | int n i=>exact .int n i
 | str n x=>exact .str n x
 | tup ha hb l _ ih=>exact .tup (s _ _ ha) (s _ _ hb) l ih
 | lst ha hb l _ ih=>exact .lst (s _ _ ha) (s _ _ hb) l ih
theorem Fy.mono {H:Hp}{n:Nat}{x y:V} (h:Fy H n x y):∀ {m:Nat},n <= m->Fy H m x y:=by
 induction h with
 | int n i=>intro m _; exact .int m i
 | str n x=>intro m _; exact .str m x
 | tup ha hb l _ ih=>intro m hm; obtain ⟨m,rfl⟩ : ∃ k,m=k + 1:=⟨m - 1,by omega⟩; exact .tup ha hb l fun j x y a b=>ih j x y a b (by omega)
 | lst ha hb l _ ih=>intro m hm; obtain ⟨m,rfl⟩ : ∃ k,m=k + 1:=⟨m - 1,by omega⟩; exact .lst ha hb l fun j x y a b=>ih j x y a b (by omega)
theorem Fy.de {K:PySem.W.Frag}{H:Hp}{n:Nat}{x y:V} (h:Fy H n x y):DE K H n x y true:=by
 induction h with
 | int n i=>have d:=DE.int (K:=K) (H:=H) n i i; rwa [beq_self_eq_true] at d
 | str n x=>have d:=DE.str (K:=K) (H:=H) n x x; rwa [beq_self_eq_true] at d
 | @tup n a b xs ys ha hb l _ ih =>
  have d:=DE.tup (K:=K) (n:=n) (fun _=>true) (cN.of ha) (cN.of hb) ih
  have e:((List.range (min xs.length ys.length)).all (fun _=>true) && xs.length == ys.length)=true:=by rw [l]; simp
  rwa [e] at d
 | @lst n a b xs ys ha hb l _ ih =>
  have d:=DE.lst (K:=K) (n:=n) (fun _=>true) (bO.of ha) (bO.of hb) l ih
  have e:(List.range xs.length).all (fun _=>true)=true:=by simp
  rwa [e] at d
structure Wv where
 w:List Int
 p:Int × Int
 c:Int × Int
 v:Int
structure Wy where
 a:Addr
 q:Addr
 b:Addr
 e:Addr
 z:Wv
def Dw (H:Hp) (y:Wy):Prop:=H y.a=some (.tup [.ref y.q,.ref y.b,.ref y.e,.int y.z.v]) /\ H y.q=some (.tup (Is y.z.w)) /\ Tq H y.b y.z.p /\ Tq H y.e y.z.c
def xN (ys:List Wy):List V:=ys.map fun y=>V.ref y.a
structure xQ (H:Hp) (a:Addr) (ys:List Wy):Prop where
 lst:H a=some (.lst (xN ys))
 each:∀ y ∈ ys,Dw H y
theorem Dw.same {H H':Hp} (s:aN H H') {y:Wy} (h:Dw H y):Dw H' y:=⟨s _ _ h.1,s _ _ h.2.1,s _ _ h.2.2.1,s _ _ h.2.2.2⟩
theorem xQ.same {H H':Hp} (s:aN H H') {a:Addr}{ys:List Wy} (h:xQ H a ys):xQ H' a ys:=⟨s _ _ h.lst,fun y hy=>(h.each y hy).same s⟩
theorem Dp (ys:List Wy) (y:Wy):xN (ys ++ [y])=xN ys ++ [V.ref y.a]:=by unfold xN; rw [List.map_append]; rfl
theorem xQ.push {H:Hp}{a:Addr}{ys:List Wy}{y:Wy} (h:xQ H a ys) (hy:Dw H y):xQ (aU H a (.lst (xN ys ++ [.ref y.a]))) a (ys ++ [y]):=by
 have k:∀ z,Dw H z->Dw (aU H a (.lst (xN ys ++ [.ref y.a]))) z:=fun z hz =>
  ⟨by rw [aL (bJ hz.1 h.lst fun w=>nomatch w)]; exact hz.1,by rw [aL (bJ hz.2.1 h.lst fun w=>nomatch w)]; exact hz.2.1,by unfold Tq; rw [aL (bJ hz.2.2.1 h.lst fun w=>nomatch w)]; exact hz.2.2.1,by unfold Tq; rw [aL (bJ hz.2.2.2 h.lst fun w=>nomatch w)]; exact hz.2.2.2⟩
 refine ⟨by rw [aB,Dp],fun z hz=>?_⟩
 rcases List.mem_append.mp hz with w | w
 ·exact k z (h.each z w)
 ·rw [List.mem_singleton.mp w]
  exact k y hy
end TD
namespace Sd
open TD
def lss (L c:Int × Int):Int × Int:=if c.1 * L.2 < L.1 * c.2 then c else L
def Mv (L:Int × Int) (j:Nat) (sh:Int × Int) (y:Wv):Wv:=⟨(j:Int) :: y.w,tms sh y.p,lss L y.c,y.v⟩
def PL (L:Int × Int) (rs:List (Int × Sd)) (wss:List (List Wv)) (j:Nat):List Wv:=match rs[j]?,wss[j]? with
 | some t,some ws=>ws.map (Mv L j (Fr.sh t.1 (gR rs)))
 | _,_=>[]
def Jx (L:Int × Int) (rs:List (Int × Sd)) (wss:List (List Wv)) (i:Nat):List Wv:=(List.range i).flatMap (PL L rs wss)
inductive WR:Nat->Sd->List Wv->Prop
 | en (v:Int) (d:Nat):WR d (.en v) [⟨[],(1,1),(v,1),v⟩]
 | st {p:Int}{rs:List (Int × Sd)}{d:Nat}{L:Int × Int}{wss:List (List Wv)} (rv:Rv (.st p rs) (d + 1) L) (lw:Lw L) (l:wss.length=rs.length) (h:∀ (i:Nat) t ws,rs[i]? = some t->wss[i]? = some ws->WR d t.2 ws):WR (d + 1) (.st p rs) (Jx L rs wss rs.length)
theorem WR.one {d:Nat}{s:Sd}{ws:List Wv} (h:WR d s ws):∀ {ws':List Wv},WR d s ws'->ws=ws':=by
 induction h with
 | en v d=>intro ws' h'; cases h'; rfl
 | @st p rs d L wss rv lw l h ih =>
  intro ws' h'
  cases h' with
  | @st _ _ _ L' wss' rv' lw' l' h' =>
   have e:=rv.one rv' lw.fr lw'.fr
   subst e
   have e2:wss=wss':=by
    refine List.ext_getElem? fun i=>?_
    by_cases hi:i < rs.length
    ·have a:wss[i]? = some (wss[i]'(by omega)):=List.getElem?_eq_getElem _
     have b:wss'[i]? = some (wss'[i]'(by omega)):=List.getElem?_eq_getElem _
     have r:rs[i]? = some (rs[i]'hi):=List.getElem?_eq_getElem _
     rw [a,b,ih i _ _ r a (h' i _ _ r b)]
    ·rw [List.getElem?_eq_none (by omega),List.getElem?_eq_none (by omega)]
   rw [e2]
theorem Gv {L:Int × Int}{rs:List (Int × Sd)}{wss:List (List Wv)}{i:Nat}{t:Int × Sd}{ws:List Wv} (ht:rs[i]? = some t) (hw:wss[i]? = some ws):Jx L rs wss (i + 1)=Jx L rs wss i ++ ws.map (Mv L i (Fr.sh t.1 (gR rs))):=by
 unfold Jx
 rw [List.range_succ,List.flatMap_append]
 congr 1
 show [i].flatMap (PL L rs wss)=_
 rw [List.flatMap_cons,List.flatMap_nil,List.append_nil]
 unfold PL
 rw [ht,hw]
structure WB (d:Nat) (y:Wv):Prop where
 p:∃ N:Int,0 < N /\ N <= 2 ^ (12 * d) /\ FQ y.p N 1
 c:Lw y.c
 l:y.w.length <= d
theorem WR.len {d:Nat}{s:Sd}{ws:List Wv} (h:WR d s ws):(ws.length:Int)=nE (d + 1) s:=by
 induction h with
 | en v d=>rfl
 | @st p rs d L wss rv lw l h ih =>
  have key:∀ i,i <= rs.length->((Jx L rs wss i).length:Int)=((rs.take i).map fun r=>nE (d + 1) r.2).sum:=by
   intro i
   induction i with
   | zero=>intro _; rfl
   | succ i ih2 =>
    intro hi
    have er:rs[i]? = some (rs[i]'(by omega)):=List.getElem?_eq_getElem _
    have ew:wss[i]? = some (wss[i]'(by omega)):=List.getElem?_eq_getElem _
    rw [Gv er ew,List.length_append,List.length_map,List.take_add_one,er]
    show _=(List.map _ (List.take i rs ++ [rs[i]'(by omega)])).sum
    rw [List.map_append,List.sum_append,<- ih2 (by omega)]
    show _=_ + (nE (d + 1) (rs[i]'(by omega)).2 + 0)
    rw [<- ih i _ _ er ew]
    push_cast
    omega
  rw [key _ (Nat.le_refl _),List.take_length]
  rfl
end Sd
namespace TD
open PySem L2
def oV (c:Cs) (b:Bool):Sp:=fun vs H Q _=>∃ (x:Addr),vs=[.ref x] /\ Q (.bl b) H
def JG (c:Cs) (n:Nat):Sp:=fun vs H Q _=>∃ (x:Addr) (p:Int) (rs:List (Int × Sd.Sd)) (d m:Nat),vs=[.ref x] /\ dR c H x (.st p rs) d m /\ d < n /\ ∀ r H',aN H H'->gQ H' r (.st p rs)->Q (.ref r) H'
def Fb (c:Cs):Sp:=fun vs H Q _=>∃ (x:Addr) (v:Int) (d m:Nat),vs=[.ref x] /\ dR c H x (.en v) d m /\ ∀ r H',aN H H'->gQ H' r (.en v)->Q (.ref r) H'
theorem OJ {c:Cs}{H H0:Hp}{y:Addr}{s:Sd.Sd}{d m n:Nat}{σ : St}{ta:TE}{Q:VK} (st:dR c H y s d m) (hn:d < n) (hv:∀ R:VK,R (.ref y) H->ta σ H0 R) (q:∀ r H',aN H H'->gQ H' r s->Q (.ref r) H') :
  xM c.e "told" (Fb c) [] E0 ta DN σ H0 Q ∨ xM c.s "told" (JG c n) [] E0 ta DN σ H0 Q:=by
 have st2:=st
 cases st with
 | en h vv ok=>exact .inl (hv _ ⟨y,_,_,rfl,h,rfl,y,_,_,_,rfl,st2,q⟩)
 | st h vv g lp ly row sub p0 p9 ne l4 w hk=>exact .inr (hv _ ⟨y,_,_,rfl,h,rfl,y,_,_,_,_,rfl,st2,hn,q⟩)
end TD
namespace Sd
theorem Oe {l:List Int}{x:Int} (h:x ∈ l):x <= Kv l:=(mQ l 0).2.1 x h
theorem wX:∀ (n:Nat) (s:Sd),0 <= nE n s
 | 0,_=>Int.le_refl _
 | _ + 1,.en _=>by show (0:Int) <= 1; decide
 | n + 1,.st _ rs=>by
  show 0 <= (rs.map fun r=>nE n r.2).sum
  have key:∀ l:List (Int × Sd),0 <= (l.map fun r=>nE n r.2).sum:=by
   intro l
   induction l with
   | nil=>exact Int.le_refl _
   | cons r l ih=>rw [List.map_cons,List.sum_cons]; have:=wX n r.2; omega
  exact key rs
theorem RN {s:Sd}{d m:Nat} (ok:Ok s d m):∀ {d' m':Nat},nE (d + 1) s <= (m':Int)->nS (d + 1) s <= (d':Int)->Ok s d' m':=by
 induction ok with
 | @en v d m h0 h9 hm =>
  intro d' m' h1 h2
  have h1:(1:Int) <= (m':Int):=h1
  exact .en h0 h9 (by omega)
 | @st p rs d m f h0 h9 ne l4 w sub hk ih =>
  intro d' m' h1 h2
  have h1:(rs.map fun r=>nE (d + 1) r.2).sum <= (m':Int):=h1
  have h2:1 + Kv (rs.map fun r=>nS (d + 1) r.2) <= (d':Int):=h2
  have mp:=(mQ (rs.map fun r=>nS (d + 1) r.2) 0).1
  obtain ⟨e,rfl⟩ : ∃ e,d'=e + 1:=⟨d' - 1,by unfold Kv at h2; omega⟩
  refine .st (f:=fun r=>(nE (d + 1) r.2).toNat) h0 h9 ne l4 w (fun r hr=>ih r hr ?_ ?_) ?_
  ·have:=wX (d + 1) r.2; omega
  ·have:=Oe (List.mem_map.mpr ⟨r,hr,rfl⟩ : nS (d + 1) r.2 ∈ rs.map fun r=>nS (d + 1) r.2)
   push_cast at h2
   omega
  ·have key:∀ l:List (Int × Sd),(((l.map fun r=>(nE (d + 1) r.2).toNat).sum:Nat):Int)=(l.map fun r=>nE (d + 1) r.2).sum:=by
    intro l
    induction l with
    | nil=>rfl
    | cons r l ih2 =>
     rw [List.map_cons,List.sum_cons,List.map_cons,List.sum_cons]
     push_cast
     rw [ih2]
     have:=wX (d + 1) r.2
     omega
   have:=key rs
   omega
theorem Ux {s:Sd}{d m:Nat} (ok:Ok s d m):nS (d + 1) s <= (d:Int):=by
 induction ok with
 | @en v d m _ _ _=>show (0:Int) <= _; omega
 | @st p rs d m f h0 h9 ne l4 w sub hk ih =>
  show 1 + Kv (rs.map fun r=>nS (d + 1) r.2) <= _
  have h:=(mQ (rs.map fun r=>nS (d + 1) r.2) 0).2.2
  have:Kv (rs.map fun r=>nS (d + 1) r.2) <= (d:Int):=by
   rcases h with e | e
   ·unfold Kv; omega
   ·obtain ⟨r,hr,e2⟩:=List.mem_map.mp e
    have:=ih r hr
    unfold Kv
    omega
  push_cast
  omega
end Sd
namespace L2
open PySem PySem.Spec PyProof.Rows
abbrev Yj:List Value:=[.type "ValueError",.type "Exception",.type "BaseException",.type "object"]
theorem rZ.obj {K:PySem.W.Frag}{h:Heap}{C:Addr} (x:rZ K C) (k:K.In h):∃ (bm:List Value) (N:Addr) (nm q:Str) (bs:List Value) (hdct:Bool) (sn:List Str) (sub:List Value) (ab:Bool) (col:Option Bool) (dd:Option Addr) (k0 k1 k2 k3 k5:Option Value) (mN:Str->Option Value),
  h.get? C=some (excClassObj nm q C N bs bm hdct sn sub ab col dd k0 k1 k2 k3 k5 "ValueError.__new__") /\ h.Ns N mN /\ mN "__init__" = none /\ OwnTail h Yj bm:=by
 have z:=x.isx
 unfold PySem.W.excIn at z
 split at z
 case h_2=>cases z
 case h_1 dd cd sl ho =>
  split at z
  case h_2=>cases z
  case h_1 C' bm k0 k1 k2 k3 n k5 hm hs =>
   simp only [Bool.and_eq_true,beq_iff_eq,Bool.not_eq_true'] at z
   obtain ⟨⟨⟨⟨⟨e1,e2⟩,hdel⟩,ht⟩,hok⟩,hni⟩:=z
   subst e1
   subst e2
   obtain ⟨nm,bs,mro,ns,qn,hd,sn,sub,ab,col,del⟩:=cd
   dsimp only at hm hdel hok hni
   subst hm
   subst hdel
   obtain ⟨l⟩:=sl
   obtain rfl:l=[k0,k1,k2,k3,some (.builtin "ValueError.__new__"),k5]:=hs
   have g:=k _ _ ho
   have nn:=PySem.W.isNs_of_in k hok
   exact ⟨bm,ns,nm,qn,bs,hd,sn,sub,ab,col,dd,k0,k1,k2,k3,k5,_,g,.of_isNs nn,PySem.W.nsMap_none_of_in k hok hni,PySem.W.tail_of_in k ht⟩
theorem iK {X:Cx}{x:Str}{C:Addr}{E:XK}{np cpos pos:Pos} (T:JL X E) (hc:X.calm=true) (hg:Gl X x) (hm:X.mg x=some (.ref C)) (xc:rZ X.K C) (hd:(x == ("__debug__" : Str))=false:=by decide) :
  PS X (.Raise (some (.Call (.Name x np) [] [] cpos)) none pos) (fun _ _ H=>E (.ref C) none H):=by
 intro pins s σ H D I h
 obtain ⟨bm,N,nm,q,bs,hdct,sn,sub,ab,col,dd,k0,k1,k2,k3,k5,mN,hC,hN,hni,TL⟩:=xc.obj I.kIn
 refine wpAny_Raise_call_subT (C:=C) (nm:=nm) (q:=q) (N:=N) (bs:=bs) (bm:=bm) (hdct:=hdct) (sn:=sn) (sub:=sub) (ab:=ab) (col:=col) (dd:=dd) (k0:=k0) (k1:=k1) (k2:=k2) (k3:=k3) (k5:=k5) PySem.F.excBase_ValueError (mN:=mN)
  (TL.hasType PySem.F.excBase_ValueError.hasBase) (I.ok.hd hc) rfl hni (m8 I hg hm ⟨rfl,?_⟩ hd)
 exact evalArgs_empty ⟨rfl,Nat.zero_le _,hC,hN,TL,fun h' e mk=>T pins σ H s h' e _ _ I mk h⟩
section
variable {P:Program}{w:World}{K:PySem.W.Frag}{mg:Str->Option Value}{base:Heap}
theorem eN.okX {x qual:Str}{st:Stmt}{f:Addr}{fd:FuncData}{N ps:List Str}{k:Nat}{sp:Sp} (F:eN K x qual st f fd) (S:aO N ps (aK st)) (len:∀ vs H Q E,sp vs H Q E->vs.length=ps.length)
  (hbody:∀ (cdv:Value) (A:Around) (outer:List Env) (s:Shared) (H:Hp) (vs:List V) (Q:VK) (E:XK),fG k (A.deeper (envOfC qual (aK st) s.heap.objs.size f cdv))->sp vs H Q E ->
   ∃ t,oZ (pA (jJ P w) P w K mg base N qual (aK st) f cdv A outer s H E) (eZ st) t /\ t { nx:=fun _ H'=>Q .non H',rt:=Q } (start N vs) H):aP P w K mg base (jJ P w) (k + 1) f fd ps sp:=by
 obtain ⟨oc,od,kV,doc,pm,an,cdv,ct,osl,rfl,lk,hcd⟩:=F.ex
 exact Ey lk hcd S len fun A outer s H vs Q E hr hsp=>hbody cdv A outer s H vs Q E hr hsp
def Ze (X:Cx) (st:Stmt) (t:TS):Prop :=
 ∀ (s:Shared) (σ : St) (H:Hp) (D:sO),aX X [] σ H s->t D σ H->wpAny (model X.prog X.w) X.A (exec st X.env) (SP X [] D) X.xe s
def LR (X:Cx) (st:List Stmt) (t:TS):Prop :=
 ∀ (s:Shared) (σ : St) (H:Hp) (D:sO),aX X [] σ H s->t D σ H->wpAny (model X.prog X.w) X.A (execs st X.env) (SP X [] D) X.xe s
theorem oZ.zero {X:Cx}{st:List Stmt}{t:TS} (h:oZ X st t):LR X st t:=fun s σ H D I q=>h [] s σ H D I q
theorem PS.zero {X:Cx}{st:Stmt}{t:TS} (h:PS X st t):Ze X st t:=fun s σ H D I q=>h [] s σ H D I q
theorem eN.ok0 {x qual:Str}{st:Stmt}{f:Addr}{fd:FuncData}{N ps:List Str}{k:Nat}{sp:Sp} (F:eN K x qual st f fd) (S:aO N ps (aK st)) (len:∀ vs H Q E,sp vs H Q E->vs.length=ps.length)
  (hbody:∀ (cdv:Value) (A:Around) (outer:List Env) (s:Shared) (H:Hp) (vs:List V) (Q:VK) (E:XK),fG k (A.deeper (envOfC qual (aK st) s.heap.objs.size f cdv))->sp vs H Q E ->
   ∃ t,LR (pA dM P w K mg base N qual (aK st) f cdv A outer s H E).nox (eZ st) t /\ t { nx:=fun _ H'=>Q .non H',rt:=Q } (start N vs) H):aP P w K mg base dM (k + 1) f fd ps sp:=by
 obtain ⟨oc,od,kV,doc,pm,an,cdv,ct,osl,rfl,lk,hcd⟩:=F.ex
 refine ⟨len,fun A outer s H args us vs Q E hr e0 hb r hsp=>?_⟩
 have hl:=len _ _ _ _ hsp
 have KX:K.In s.heap:=e0.mod.kin.keeps fun b o e=>(e0.bs b o e).1
 have lim:s.heap.NoLimit:=e0.mod.nolimit.keeps fun b o e=>(e0.bs b o e).1
 have hkind:∀ y ∈ ps.zip us,(aK st).names.lookup y.1=some .local ∨ ((aK st).names.lookup y.1=some .cell /\ ((cellsFrom (s.heap.objs.size + 1) (aK st).names []).lookup y.1).isSome=true):=fun ⟨n,v⟩ hy=>by
  rcases S.par n (List.of_mem_zip hy).1 with q | q
  ·exact .inl q
  ·exact .inr ⟨q,PySem.W.cellsFrom_some _ _ _ (.inl q)⟩
 refine codeAny_call_function hr.depth (KX _ _ lk) rfl S.co S.gen rfl (PySem.W.codeRec_of KX hcd) (hb _ _ _ _ ?_)
 refine wpAny_newFunctionEnv_cells S.kind hkind fun env he s1 x=>?_
 subst he
 refine ⟨lim.keeps x.toInCall.keep,codeAny_func ?_⟩
 obtain ⟨t,ht,hq⟩:=hbody cdv A outer s H vs Q E (hr.deeper _) hsp
 have I:aX (pA dM P w K mg base N qual (aK st) f cdv A outer s H E) [] (start N vs) H s1:=xO S hr.hd e0 hl r x
 refine wpAny_mono (ht s1 (start N vs) H _ (I.wish _) hq) (fun fl s' hs=>?_) fun e s' hs=>False.elim hs
 have hs:=SP.unwish hs
 have fin:∀ {σ':St}{H':Hp}{v:V}{u:Value},aX (pA dM P w K mg base N qual (aK st) f cdv A outer s H E) [] σ' H' s'->bG v u->Q v H'->CE outer P w H s Q u s' :=
  fun {σ' H' v u} J rv q=>⟨v,H',J.os,J.bare,J.base,J.hok,rv,q⟩
 cases fl with
 | ret u =>
  obtain ⟨v,σ',H',J,rv,q⟩:=hs
  exact fin J rv q
 | next =>
  obtain ⟨σ',H',J,q⟩:=hs
  exact fin (v:=V.non) (u:=Value.none) J rfl q
 | brk =>
  obtain ⟨_,_,_,q⟩:=hs
  exact False.elim q
 | cont =>
  obtain ⟨_,_,_,q⟩:=hs
  exact False.elim q
end
end L2
namespace L2
open PySem PySem.Spec PyProof.Rows
abbrev Cx.marked (X:Cx) (a:Addr):Cx:={ X with A:=X.A.mark (some (.ref a)),calm:=false,xe:=fun _ _=>False }
def XeT (X:Cx) (G:Value->Hp->Prop) (e:Value) (s':Shared):Prop :=
 ∃ (a:Addr) (cls a0:Value) (σ':St) (H':Hp) (B:Heap),e = .ref a /\ aX X [] σ' H' s' /\ Heap.FlyingW B X.stack a cls a0 s'.heap /\ (∀ b o,X.s₀.heap.get? b=some o->b ∉ X.fs->∃ o',B.get? b=some o') ∧
  (∀ b u,H' b=some u->∃ o',B.get? b=some o') /\ G cls H'
section
variable {X:Cx}{σ : St}{H:Hp}{s:Shared}{a:Addr}{h':Heap}{B:Heap}
theorem aX.mark (I:aX X [] σ H s) (a:Addr):aX (X.marked a) [] σ H s :=
 ⟨⟨I.ok.mod,I.ok.kind,I.ok.glob,I.ok.blt,I.ok.above,I.ok.inj,I.ok.has,I.ok.cab,fun z=>Bool.noConfusion (show false=true from z),I.ok.frames,I.ok.stk,I.ok.exf,I.ok.bs,I.ok.bsz,I.ok.noex,I.ok.exfs,I.ok.funs,I.ok.frf⟩,I.os,I.bare,I.base,I.loc,I.cell,I.free,I.freeC,I.pin,I.hok,I.len⟩
theorem aX.unmark (ok:X.Ok) (I:aX (X.marked a) [] σ H s):aX X [] σ H s:=⟨ok,I.os,I.bare,I.base,I.loc,I.cell,I.free,I.freeC,I.pin,I.hok,I.len⟩
theorem aX.fly (hex:X.ex=[]) (hpn:X.pn=[]) (I:aX X [] σ H s) (b1:B.StaysIn s.heap) (b2:B.StaysIn h') (up:s.heap.UpToSlots h') (hB:∀ b o,X.s₀.heap.get? b=some o->b ∉ X.fs->∃ o',B.get? b=some o')
  (hH:∀ b u,H b=some u->∃ o',B.get? b=some o'):aX X [] σ H { s with heap:=h' }:=by
 have cellK:∀ c v,s.heap.IsCell c v->h'.IsCell c v:=fun c v ⟨o,ho,hd⟩=>by
  obtain ⟨sl,e⟩:=up c o ho (fun vs z=>by rw [hd] at z; cases z)
  exact ⟨_,e,hd⟩
 refine ⟨I.ok,I.os,I.bare,?_,?_,fun x c e=>let ⟨v,z⟩:=I.cell x c e; ⟨v,cellK c v z⟩,I.free,I.freeC,fun p hp=>?_,zK I.hok b1 b2 hH,I.len⟩
 ·rw [hex]
  refine Em (by have:=I.base; rw [hex] at this; exact this) b1 b2 up (fun b hb=>?_) hB
  obtain ⟨_,o,ho,hd⟩:=I.funs.mem hb
  exact ⟨o,ho,hd⟩
 ·obtain ⟨m,hn,hl⟩:=I.loc
  refine ⟨m,up.ns hn,fun i x v e1 e2 e3=>?_⟩
  obtain ⟨u,r,l⟩:=hl i x v e1 e2 e3
  refine ⟨u,r,?_⟩
  rcases l with l | ⟨k,c,e,z⟩
  ·exact .inl l
  ·exact .inr ⟨k,c,e,cellK _ _ z⟩
 ·rw [hpn] at hp
  exact absurd hp (by simp)
theorem aX.trackX {o:HO} (hex:X.ex=[]) (hpn:X.pn=[]) (I:aX X [] σ H s) (n:H a=none) (n0:X.s₀.heap.get? a=none) (nL:a ≠ X.env.locals) (nC:∀ x c,X.env.cells.lookup x=some c->c ≠ a) (new:cY X.prog X.w (aU H a o) s.heap a o) :
  aX X [] σ (aU H a o) s:=by
 have ne:∀ b u,H b=some u->b ≠ a:=fun b u q z=>by rw [z,n] at q; cases q
 have ne0:∀ b u,X.s₀.heap.get? b=some u->b ≠ a:=fun b u q z=>by rw [z,n0] at q; cases q
 refine ⟨I.ok,I.os,I.bare,⟨I.base.keep,I.base.slot,fun b u q nb hx=>?_,I.base.there,fun b xs q=>?_,fun b ob u q=>?_,fun b ps q=>?_⟩,I.loc,I.cell,?_,fun x c e=>?_,fun p hp=>?_,fun b u q=>?_,I.len⟩
 ·rw [aL (ne0 b u q)]; exact I.base.free b u q nb hx
 ·have z:=I.base.tups b xs q; rw [aL (ne b _ z)]; exact z
 ·have z:=I.base.frzs b ob u q; rw [aL (ne b _ z)]; exact z
 ·obtain ⟨more,z⟩:=I.base.tbls b ps q; exact ⟨more,by rw [aL (ne b _ z)]; exact z⟩
 ·rw [aL (Ne.symm nL)]; exact I.free
 ·rw [aL (nC x c e)]; exact I.freeC x c e
 ·rw [hpn] at hp
  exact absurd hp (by simp)
 ·by_cases z:b=a
  ·subst z; rw [aB] at q; cases q; exact new
  ·rw [aL z] at q
   exact (I.hok b u q).stay (fun _ _ _ r=>r) (fun c r=>by rw [aL (ne c _ r)]; exact r) fun c xs r=>by rw [aL (ne c _ r)]; exact r
theorem aX.unbind {i:Nat}{n:Str}{pins:List (Addr × Obj)}{M:Model}{A:Around}{E:Value->Shared->Prop}{pos:Pos}{Q:Unit->Shared->Prop} (I:aX X pins σ H s) (hN:X.N.Nodup) (hi:X.N[i]? = some n) (hk:X.env.scope.names.lookup n=some .local) (hf:X.fn n=true)
  (h:∀ s',aX X pins (σ.set i none) H s'->Q () s'):wpAny M A (do bindName X.env n .none; unbindBehindTheSuite X.env n pos) Q E s:=by
 have hcls:(X.env.scope.kind == .class || (X.env.scope.kind == .module && X.env.locals != X.env.globals))=false:=by rw [I.ok.kind]; rfl
 refine wpAny_bind (wpAny_bindName (nT (v:=V.non) I hN hi (.inl hk) rfl (fun s1 I1 _=>?_) (.inl hf)))
 unfold unbindBehindTheSuite
 refine wpAny_onRaise ?_
 obtain ⟨m,hn,hl⟩:=id I1.loc
 have hiσ : i < σ.length:=by rw [I.len]; exact (List.getElem?_eq_some_iff.mp hi).1
 obtain ⟨u,ru,lk⟩:=hl i n .non hi (by rw [List.getElem?_set_self hiσ]) (.inl hk)
 have hm:m n=some u:=by
  rcases lk with ⟨_,e⟩ | ⟨k,_⟩
  ·exact e
  ·have hk':X.env.kindOf n=some .local:=hk
   rw [hk'] at k
   rcases k with k | k <;> cases k
 refine wpAny_unbindName_local hk hn hm hcls fun h2 u2 hn2 hs2=>?_
 obtain ⟨oL,_,_,hoL,_⟩:=id hn
 have other:∀ b o,s1.heap.get? b=some o->b ≠ X.env.locals->h2.get? b=some o:=fun b o q nb=>(hs2.2 b nb).trans q
 have gt:∀ b o,X.s₀.heap.get? b=some o->b ≠ X.env.locals:=fun b o q=>Nat.ne_of_lt (Nat.lt_of_lt_of_le (Heap.lt_size q) I.ok.above)
 refine h _ ⟨I1.ok,I1.os,I1.bare,⟨fun b o q nb hb hx=>other b o (I1.base.keep b o q nb hb hx) (gt b o q),fun b o q nb hb hx=>?_,I1.base.free,fun b o q hx=>?_,I1.base.tups,I1.base.frzs,I1.base.tbls⟩,⟨_,hn2,fun j y v e1 e2 e3=>?_⟩,fun y c e=>?_,I1.free,I1.freeC,fun p hp=>?_,fun b ob e=>?_,by simpa using I.len⟩
 ·obtain ⟨sl,e⟩:=I1.base.slot b o q nb hb hx
  exact ⟨sl,other b _ e (gt b o q)⟩
 ·obtain ⟨o',e⟩:=I1.base.there b o q hx
  exact ⟨o',other b _ e (gt b o q)⟩
 ·have hj:j ≠ i:=by
   rintro rfl
   rw [List.getElem?_set_self hiσ] at e2
   cases e2
  rw [List.getElem?_set_ne (Ne.symm hj)] at e2
  obtain ⟨u',r',q⟩:=hl j y v e1 (by rw [List.getElem?_set_ne (Ne.symm hj)]; exact e2) e3
  refine ⟨u',r',?_⟩
  rcases q with ⟨k,e⟩ | ⟨k,c,e,o,ho,hd⟩
  ·refine .inl ⟨k,?_⟩
   have:y ≠ n:=fun e=>hj (uC hN e1 (e ▸ hi))
   show (if y=n then u2 else m y)=some u'
   rw [if_neg this]
   exact e
  ·exact .inr ⟨k,c,e,o,other c o ho (I1.cne y c e),hd⟩
 ·obtain ⟨v,o,ho,hd⟩:=I1.cell y c e
  exact ⟨v,o,other c o ho (I1.cne y c e),hd⟩
 ·obtain ⟨e,n',ne,nf,d⟩:=I1.pin p hp
  exact ⟨other _ _ e ne,n',ne,nf,d⟩
 ·refine (I1.hok b ob e).stay (fun c w' hc q=>other c w' q ?_) (fun _ q=>q) fun _ _ q=>q
  rintro rfl
  rcases hc with rfl | hc
  ·rw [I1.free] at e; cases e
  ·rw [I1.free] at hc; cases hc
end
section
variable {X:Cx}
theorem gB {G:Value->Hp->Prop} (hst:X.stack=X.env :: X.outer) (hf:X.env.frame=some X.env.locals) (hex:X.ex=[]) (hpn:X.pn=[]):iR (jJ X.prog X.w) (X.wish (XeT X G)) (fun cls _ H'=>G cls H'):=by
 rintro pins σ H s e s' I ⟨a,cls,a0,H',B,rfl,hos,hg,un,hok,fl,inB,inH,hE⟩
 have J:=(I.unwish.pins_of (pins':=[]) (fun p hp=>absurd hp (by simp))).call' (s':=s') (H':=H') (ch:=[]) hos un hok hg (fun b z=>absurd z (by simp))
 refine ⟨a,cls,a0,σ,H',B,rfl,J,fl,fun b o q hb=>?_,inH,hE⟩
 obtain ⟨o',e'⟩:=I.base.there b o q (by show b ∉ X.ex; rw [hex]; simp)
 refine inB b o' e' fun z=>?_
 have z':b ∈ qD X.stack:=z
 rw [hst] at z'
 rcases (yU hf).mp z' with z' | z'
 ·exact absurd z' (Nat.ne_of_lt (Nat.lt_of_lt_of_le (Heap.lt_size q) I.ok.above))
 ·exact hb z'
def aBa (K:PySem.W.Frag) (C:Addr) (len i:Nat) (tb:(Value->Hp->Prop)->TS) (ts:Addr->TS):TS:=fun D σ H =>
 tb (fun cls H'=>PySem.W.exmOne K cls (.ref C)=some true /\ ∀ a,H' a=none->ts a { nx:=fun σ' H''=>D.nx (σ'.set i none) H'',rt:=D.rt,bk:=fun σ' H''=>D.bk (σ'.set i none) H'',ct:=fun σ' H''=>D.ct (σ'.set i none) H'' }
  ((List.replicate len none).set i (some (.ref a))) (aU H' a (.ext (Ah a cls)))) D σ H
theorem FT {body suite:List Stmt}{b0:Stmt}{x n:Str}{np hpos pos:Pos}{C:Addr}{i:Nat}{tb:(Value->Hp->Prop)->TS}{ts:Addr->TS} (hst:X.stack=X.env :: X.outer) (hf:X.env.frame=some X.env.locals) (hex:X.ex=[]) (hpn:X.pn=[])
  (hN:X.N.Nodup) (hi:X.N[i]? = some n) (hk:X.env.scope.names.lookup n=some .local) (hfn:X.fn n=true) (hg:Gl X x) (hm:X.mg x=some (.ref C)) (hb:∀ G,oZ (X.wish (XeT X G)) body (tb G)) (hs:∀ a,oZ (X.marked a) (b0 :: suite) (ts a)) (hd:(x == ("__debug__" : Str))=false:=by decide) :
  Ze X (.Try body [.ExceptHandler (some (.Name x np)) (some n) (b0 :: suite) hpos] [] [] pos) (aBa X.K C X.N.length i tb ts):=by
 intro s σ H D I h
 refine wpAny_Try_except (wpAny_mono (hb _ [] s σ H D (I.wish _) h) (fun fl s1 hq=>?_) fun e s1 hx=>?_)
 ·have hq:=SP.unwish hq
  cases fl with
  | next =>
   obtain ⟨σ',H',J,q⟩:=hq
   exact bY [] s1 σ' H' D J q
  | brk=>exact hq
  | cont=>exact hq
  | ret u=>exact hq
 ·obtain ⟨a,cls,a0,σ',H',B,rfl,J,fl,inB,inH,hc,hG⟩:=hx
  rw [hst] at fl
  refine wpAny_looks_onW (by rw [J.ok.frames,hst]) hf fl fun h4 held up4=>?_
  refine wpAny_landsW held fun h5 fl5 up5'=>?_
  have up5:=up4.trans up5'
  have J5:aX X [] σ' H' { s1 with heap:=h5 }:=J.fly hex hpn fl.1 fl5.1 up5 inB inH
  refine wpAny_handleBy_cons (codeAny_handlers_test (m8 (X:=X.marked a) (J5.mark a) hg hm ?_ hd)) (by intro q; cases q)
  have kin:X.K.In h5:=J5.kIn
  obtain ⟨ob,hob,hobc⟩:=fl5.there
  have isx:Ah a cls h5:=⟨ob,hob,hobc⟩
  refine (PySem.W.exm_one kin isx.ty hc).here ?_
  refine codeAny_handlers_suite_as ?_
  refine lands_againW fl5 fun h6 fl6 up6=>?_
  have J6:aX X [] σ' H' { s1 with heap:=h6 }:=J.fly hex hpn fl.1 fl6.1 (up5.trans up6) inB inH
  obtain ⟨oe,ws,hoe,hoec,hoed,_⟩:=fl6.first
  have na:H' a=none:=by
   cases z:H' a with
   | none=>rfl
   | some u =>
    obtain ⟨o',e'⟩:=inH a u z
    have:=fl6.2.1
    rw [e'] at this
    cases this
  have nL:a ≠ X.env.locals:=fun z=>by
   obtain ⟨m,⟨o,es,ep,ho,hd',_⟩,_⟩:=J6.loc
   have ho:h6.get? X.env.locals=some o:=ho
   rw [<- z,hoe] at ho
   cases ho
   rw [hoed] at hd'
   cases hd'
  have n0:X.s₀.heap.get? a=none:=by
   cases z:X.s₀.heap.get? a with
   | none=>rfl
   | some u =>
    by_cases ha:a ∈ X.fs
    ·obtain ⟨_,o,ho,hd'⟩:=J6.funs.mem ha
     have ho:h6.get? a=some o:=ho
     rw [hoe] at ho
     cases ho
     exact absurd hoed (hd' _)
    ·obtain ⟨o',e'⟩:=inB a u z ha
     have:=fl6.2.1
     rw [e'] at this
     cases this
  have nC:∀ x c,X.env.cells.lookup x=some c->c ≠ a:=fun x c e z=>by
   obtain ⟨v,o,ho,hd'⟩:=J6.cell x c e
   have ho:h6.get? c=some o:=ho
   rw [z,hoe] at ho
   cases ho
   rw [hoed] at hd'
   cases hd'
  have isx6:Ah a cls h6:=⟨oe,hoe,hoec⟩
  have J7:aX X [] σ' (aU H' a (.ext (Ah a cls))) { s1 with heap:=h6 }:=J6.trackX hex hpn na n0 nL nC ⟨isx6,⟨oe,hoe⟩,fun h1 h2 ⟨o,e,c⟩ k=>⟨o,k o e,c⟩⟩
  have J8:aX X [] (List.replicate X.N.length none) (aU H' a (.ext (Ah a cls))) { s1 with heap:=h6 }:=J7.weak (by rw [List.length_replicate,J7.len]) fun j v e=>by
   rw [List.getElem?_replicate] at e
   split at e <;> cases e
  refine nT (X:=X.marked a) (v:=V.ref a) (J8.mark a) hN hi (.inl hk) rfl (fun s9 J9 _=>?_) (.inl hfn)
  refine wpAny_mono (hs a [] s9 _ _ _ J9 (hG a na)) (fun fl' Kz hq=>?_) fun _ _ z=>False.elim z
  show wpAny _ X.A (do bindName X.env n .none; unbindBehindTheSuite X.env n hpos) _ _ Kz
  cases fl' with
  | next =>
   obtain ⟨σ2,H2,K2,q⟩:=hq
   exact (K2.unmark I.ok).unbind hN hi hk hfn fun s' K3=>⟨_,H2,K3,q⟩
  | brk =>
   obtain ⟨σ2,H2,K2,q⟩:=hq
   exact (K2.unmark I.ok).unbind hN hi hk hfn fun s' K3=>⟨_,H2,K3,q⟩
  | cont =>
   obtain ⟨σ2,H2,K2,q⟩:=hq
   exact (K2.unmark I.ok).unbind hN hi hk hfn fun s' K3=>⟨_,H2,K3,q⟩
  | ret u =>
   obtain ⟨v,σ2,H2,K2,r,q⟩:=hq
   exact (K2.unmark I.ok).unbind hN hi hk hfn fun s' K3=>⟨v,_,H2,K3,r,q⟩
end
end L2
namespace L2
open PySem PySem.Spec PyProof.Rows
structure z7 (P:Program) (w:World) (K:PySem.W.Frag) (mg:Str->Option Value) (base:Heap) (n:Nat) (x:Str) (ps:List Str) (sp:Sp) (g:Addr) (gd:FuncData):Prop where
 ok:aP P w K mg base (jJ P w) n g gd ps sp
 bi:aY K gd ps []
 kp:PySem.W.keepIn K (.ref g)=true
 at_:mg x=some (.ref g)
theorem z7.up {P:Program}{w:World}{K:PySem.W.Frag}{mg:Str->Option Value}{base:Heap}{n m:Nat}{x:Str}{ps:List Str}{sp:Sp}{g:Addr}{gd:FuncData} (c:z7 P w K mg base n x ps sp g gd) (h:n <= m):z7 P w K mg base m x ps sp g gd:=⟨c.ok.mono h,c.bi,c.kp,c.at_⟩
theorem jD {X:Cx}:iR (jJ X.prog X.w) X E0:=fun _ _ _ _ _ _ _ ⟨_,_,_,_,_,_,_,_,_,_,_,_,_,h⟩=>False.elim h
theorem JZ {X:Cx}{n:Nat}{x:Str}{ps:List Str}{sp:Sp}{g:Addr}{gd:FuncData}{E:XK}{p pos:Pos}{e:Expr}{es:List Expr}{t:TA} (c:z7 X.prog X.w X.K X.mg X.base n x ps sp g gd) (hr:fG n X.A) (hx:iR (jJ X.prog X.w) X E) (ha:PA X (e :: es) t) (hg:Gl X x:=by rfl)
  (hd:(x == ("__debug__" : Str))=false:=by decide) (he:starEach (e :: es) X.env=(false,eval e X.env) :: starEach es X.env:=by rfl) (hpl:(backTo pos (starEach es X.env)).any (·.1)=false:=by rfl) :
  PE X (.Call (.Name x p) (e :: es) [] pos) (Bt sp [] E t):=Af c.ok hr hg c.at_ c.kp c.bi .nil hx ha hd he hpl
theorem PS.nox {X:Cx}{st:Stmt}{t:TS} (h:PS X.nox st t):PS X st t:=fun pins s σ H D I hw =>
 wpAny_mono (h pins s σ H D (I.wish _) hw) (fun _ _ q=>q.unwish) fun _ _ z=>False.elim z
theorem jU {X:Cx}{st:Stmt}{j4:List Stmt}{t u:TS} (hs:Ze X st t) (hr:LR X j4 u):LR X (st :: j4) (XX t u):=by
 intro s σ H D I h
 refine wpAny_execs_cons (d8 (hs s σ H _ I h) fun fl s1 hq=>?_)
 cases fl with
 | next =>
  obtain ⟨σ',H',J,q⟩:=hq
  exact hr s1 σ' H' D J q
 | brk=>exact hq
 | cont=>exact hq
 | ret u=>exact hq
theorem vB {c:Addr}:∀ u',bG (.ref c) u'->u'=Value.ref c:=fun _ h=>h
theorem vty {T:String}:∀ u',bG (.ty T) u'->u'=Value.type T:=fun _ h=>h
end L2
namespace TD
open PySem L2
open Builtin.Int (intBits)
theorem gF.same {K:PySem.W.Frag}{H H':Hp}{v:V}{t:Value} (s:aN H H') (h:gF K H v t):gF K H' v t:=by
 cases h with
 | non=>exact .non
 | bl x=>exact .bl x
 | int i=>exact .int i
 | str x=>exact .str x
 | flt x=>exact .flt x
 | lst e=>exact .lst (s _ _ e)
 | frz e=>exact .frz (s _ _ e)
 | tup e=>exact .tup (s _ _ e)
 | dK e=>exact .dK (s _ _ e)
 | dT e=>exact .dT (s _ _ e)
 | ins e a b c d f=>exact .ins (s _ _ e) a b c d f
def LC (H:Hp) (T:String) (v:V):Prop:=∀ K:PySem.W.Frag,∃ t,gF K H v t /\ PySem.W.kitOne K t (.type T)=some false
theorem LC.same {H H':Hp}{T:String}{v:V} (s:aN H H') (h:LC H T v):LC H' T v:=fun K=>let ⟨t,a,b⟩:=h K; ⟨t,gF.same s a,b⟩
theorem z9 {K:PySem.W.Frag}:PySem.W.kitOne K (.type "bool") (.type "int")=some true:=by rfl
inductive fO (H:Hp) (lo hi:Int):V->Bool->Prop where
 | no {v:V} (h:LC H "int" v):fO H lo hi v false
 | bl (c:Bool):fO H lo hi (.bl c) false
 | int (i:Int):fO H lo hi (.int i) (decide (lo <= i) && decide (i <= hi))
theorem fO.same {H H':Hp}{lo hi:Int}{v:V}{b:Bool} (s:aN H H') (h:fO H lo hi v b):fO H' lo hi v b:=by
 cases h with
 | no h=>exact .no (h.same s)
 | bl c=>exact .bl c
 | int i=>exact .int i
theorem fO.yes {H:Hp}{lo hi i:Int} (h1:lo <= i) (h2:i <= hi):fO H lo hi (.int i) true:=by
 have h:=fO.int (H:=H) (lo:=lo) (hi:=hi) i
 rw [decide_eq_true h1,decide_eq_true h2] at h
 exact h
theorem fO.not {H:Hp}{lo hi i:Int} (h1:i < lo ∨ hi < i):fO H lo hi (.int i) false:=by
 have h:=fO.int (H:=H) (lo:=lo) (hi:=hi) i
 have e:(decide (lo <= i) && decide (i <= hi))=false:=by
  rcases h1 with h1 | h1
  ·rw [decide_eq_false (by omega)]; rfl
  ·rw [decide_eq_false (p:=i <= hi) (by omega),Bool.and_false]
 rw [e] at h
 exact h
def qX:Sp:=fun vs H Q _=>∃ (v:V) (lo hi:Int) (b:Bool),vs=[v,.int lo,.int hi] /\ fO H lo hi v b /\ Q (.bl b) H
theorem Kw {H:Hp}{T:String}{v:V}{t:Value} (h1:∀ K:PySem.W.Frag,gF K H v t) (h2:∀ K:PySem.W.Frag,PySem.W.kitOne K t (.type T)=some false):LC H T v:=fun K=>⟨t,h1 K,h2 K⟩
theorem gF.kp {K:PySem.W.Frag}{H H':Hp}{v:V}{t:Value} (s:∀ b o,H b=some o->(∀ ps,o ≠ .tbl ps)->H' b=some o) (h:gF K H v t):gF K H' v t:=by
 cases h with
 | non=>exact .non
 | bl x=>exact .bl x
 | int i=>exact .int i
 | str x=>exact .str x
 | flt x=>exact .flt x
 | lst e=>exact .lst (s _ _ e fun _ z=>nomatch z)
 | frz e=>exact .frz (s _ _ e fun _ z=>nomatch z)
 | tup e=>exact .tup (s _ _ e fun _ z=>nomatch z)
 | dK e=>exact .dK (s _ _ e fun _ z=>nomatch z)
 | dT e=>exact .dT (s _ _ e fun _ z=>nomatch z)
 | ins e a b c d f=>exact .ins (s _ _ e fun _ z=>nomatch z) a b c d f
def Kt (H H':Hp):Prop:=∀ b o,H b=some o->(∀ ps,o ≠ .tbl ps)->H' b=some o
theorem aN.kt {H H':Hp} (s:aN H H'):Kt H H':=fun b o h _=>s b o h
theorem cA.kt {P:Addr}{pos:Pos}{qual:Str}{H H':Hp} (s:cA P H H') (t:eX P pos qual H):Kt H H':=fun b o h n=>s.get t h n
theorem Kt.trans {H H1 H2:Hp} (a:Kt H H1) (b:Kt H1 H2):Kt H H2:=fun c o h n=>b c o (a c o h n) n
theorem Kt.kp {H H':Hp} (k:Kt H H'):Kp H H':=fun b o h n _=>k b o h n
theorem Kt.refl (H:Hp):Kt H H:=fun _ _ h _=>h
theorem Kt.tup {H H':Hp} (k:Kt H H') {b:Addr}{xs:List V} (h:H b=some (.tup xs)):H' b=some (.tup xs):=k _ _ h fun _ z=>nomatch z
theorem Kt.lst {H H':Hp} (k:Kt H H') {b:Addr}{xs:List V} (h:H b=some (.lst xs)):H' b=some (.lst xs):=k _ _ h fun _ z=>nomatch z
theorem LC.kt {H H':Hp}{T:String}{v:V} (s:Kt H H') (h:LC H T v):LC H' T v:=fun K=>let ⟨t,a,b⟩:=h K; ⟨t,gF.kp s a,b⟩
theorem fO.kt {H H':Hp}{lo hi:Int}{v:V}{b:Bool} (s:Kt H H') (h:fO H lo hi v b):fO H' lo hi v b:=by
 cases h with
 | no h=>exact .no (h.kt s)
 | bl c=>exact .bl c
 | int i=>exact .int i
theorem fO.inv {H:Hp}{lo hi:Int}{v:V} (h:fO H lo hi v true):∃ i,v = .int i /\ lo <= i /\ i <= hi:=by
 generalize hb:true=b at h
 cases h with
 | no h=>cases hb
 | bl c=>cases hb
 | int i =>
  have:=hb.symm
  rw [Bool.and_eq_true,decide_eq_true_eq,decide_eq_true_eq] at this
  exact ⟨i,rfl,this⟩
structure CN (K:PySem.W.Frag) (c:Cs):Prop where
 all:∀ T ∈ ["tuple","int","NoneType","str","list"],PySem.W.kitOne K (.type T) (.ref c.e)=some false /\ PySem.W.kitOne K (.type T) (.ref c.s)=some false
 et:PySem.W.kitOne K (.ref c.e) (.type "tuple")=some false
inductive sS (c:Cs) (K:PySem.W.Frag) (H:Hp):V->Bool->Prop where
 | yes {x:Addr}{s:Sd.Sd}{d m:Nat} (h:dR c H x s d m):sS c K H (.ref x) true
 | no {v:V}{T:String} (h:gF K H v (.type T)) (ht:T ∈ ["tuple","int","NoneType","str","list"]):sS c K H v false
inductive yO (c:Cs) (K:PySem.W.Frag) (H:Hp):V->Bool->Prop where
 | no {v:V}{t:Value} (h:gF K H v t) (hk:PySem.W.kitOne K t (.type "tuple")=some false):yO c K H v false
 | len {a:Addr}{xs:List V} (e:H a=some (.tup xs)) (hl:xs.length ≠ 2):yO c K H (.ref a) false
 | two {a:Addr}{x y:V}{b b2:Bool} (e:H a=some (.tup [x,y])) (hx:fO H 1 1000 x b) (hy:sS c K H y b2):yO c K H (.ref a) (b && b2)
inductive jY (c:Cs) (K:PySem.W.Frag) (H:Hp):V->Bool->Prop where
 | no {v:V} (h:LC H "list" v):jY c K H v false
 | len {a:Addr}{xs:List V} (e:H a=some (.lst xs)) (hl:¬ (1 <= xs.length /\ xs.length <= 4)):jY c K H (.ref a) false
 | all {a:Addr}{xs:List V}{bs:List Bool} (e:H a=some (.lst xs)) (h1:1 <= xs.length) (h4:xs.length <= 4) (hb:bs.length=xs.length) (h:∀ (i:Nat) x,xs[i]? = some x->yO c K H x (bs.getD i false)):jY c K H (.ref a) (bs.all id)
inductive oW (c:Cs) (K:PySem.W.Frag) (H:Hp):V->Bool->Prop where
 | no {v:V} (h:LC H "list" v):oW c K H v false
 | len {a:Addr}{xs:List V} (e:H a=some (.lst xs)) (hl:¬ (1 <= xs.length /\ xs.length <= 6)):oW c K H (.ref a) false
 | all {a:Addr}{xs:List V}{bs:List Bool} (e:H a=some (.lst xs)) (h1:1 <= xs.length) (h6:xs.length <= 6) (hb:bs.length=xs.length) (h:∀ (i:Nat) x,xs[i]? = some x->sS c K H x (bs.getD i false)):oW c K H (.ref a) (bs.all id)
section
variable {c:Cs}{K:PySem.W.Frag}{H H':Hp}{v:V}{b:Bool}
theorem sS.kt (s:Kt H H') (h:sS c K H v b):sS c K H' v b:=by
 cases h with
 | yes h=>exact .yes (h.kp s.kp)
 | no h ht=>exact .no (gF.kp s h) ht
theorem yO.kt (s:Kt H H') (h:yO c K H v b):yO c K H' v b:=by
 cases h with
 | no h hk=>exact .no (gF.kp s h) hk
 | len e hl=>exact .len (s.tup e) hl
 | two e hx hy=>exact .two (s.tup e) (hx.kt s) (hy.kt s)
theorem jY.kt (s:Kt H H') (h:jY c K H v b):jY c K H' v b:=by
 cases h with
 | no h=>exact .no (h.kt s)
 | len e hl=>exact .len (s.lst e) hl
 | all e h1 h4 hb h=>exact .all (s.lst e) h1 h4 hb fun i x hx=>(h i x hx).kt s
theorem oW.kt (s:Kt H H') (h:oW c K H v b):oW c K H' v b:=by
 cases h with
 | no h=>exact .no (h.kt s)
 | len e hl=>exact .len (s.lst e) hl
 | all e h1 h6 hb h=>exact .all (s.lst e) h1 h6 hb fun i x hx=>(h i x hx).kt s
end
def Ka (c:Cs) (K:PySem.W.Frag):Sp:=fun vs H Q _=>∃ (v:V) (b:Bool),vs=[v] /\ sS c K H v b /\ Q (.bl b) H
def Fe (c:Cs) (K:PySem.W.Frag):Sp:=fun vs H Q _=>∃ (v:V) (b:Bool),vs=[v] /\ yO c K H v b /\ Q (.bl b) H
def Av (c:Cs) (K:PySem.W.Frag):Sp:=fun vs H Q _=>∃ (v:V) (b:Bool),vs=[v] /\ jY c K H v b /\ ∀ H',aN H H'->Q (.bl b) H'
def Nu (c:Cs) (C:Addr):Sp:=fun vs H Q E =>
 (∃ (x dx:Addr) (v:Int),vs=[.ref x,.int v] /\ H x=some (.ins c.e dx []) /\ 0 <= v /\ v <= 1000000000 /\ ∀ H':Hp,(∀ b o,b ≠ x->H b=some o->H' b=some o)->(∀ d m:Nat,1 <= m->dR c H' x (.en v) d m)->Q .non H') ∨
 ∃ (x:Addr) (v:V),vs=[.ref x,v] /\ fO H 0 1000000000 v false /\ E (.ref C) none H
structure Ea (c:Cs) (H:Hp) (a:Addr) (ps ys:List Addr) (rs:List (Int × Sd.Sd)) (d:Nat) (j:Int × Sd.Sd->Nat):Prop where
 ha:H a=some (.lst (ps.map V.ref))
 R:qH c H ps ys rs d j
 ne:rs ≠ []
 l4:rs.length <= 4
 ww:∀ r ∈ rs,1 <= r.1 /\ r.1 <= 1000
def N7 (c:Cs) (K:PySem.W.Frag) (C Pt:Addr) (lp:Pos):Sp:=fun vs H Q E =>
 (∃ (x dx a:Addr) (p:Int) (ps ys:List Addr) (rs:List (Int × Sd.Sd)) (d:Nat) (j:Int × Sd.Sd->Nat),vs=[.ref x,.int p,.ref a] /\ H x=some (.ins c.s dx []) /\ Ea c H a ps ys rs d j /\ 0 <= p /\ p <= 1000000000 ∧
  (((12 < Sd.nE (d + 1 + 1) (.st p rs) ∨ 4 < Sd.nS (d + 1 + 1) (.st p rs)) /\ ∀ H',aN H H'->E (.ref C) none H') ∨
   ∃ m:Nat,(rs.map j).sum <= m /\ m <= 12 /\ d + 1 <= 4 /\ eX Pt lp kY H /\ ∀ H':Hp,(∀ b o,b ≠ x->b ≠ Pt->H b=some o->H' b=some o)->eX Pt lp kY H'->dR c H' x (.st p rs) (d + 1) m->Q .non H')) ∨
 ∃ (x:Addr) (v w:V),vs=[.ref x,v,w] /\ (fO H 0 1000000000 v false ∨ (fO H 0 1000000000 v true /\ jY c K H w false)) /\ ∀ H',aN H H'->E (.ref C) none H'
def RK (c:Cs) (K:PySem.W.Frag) (C:Addr):Sp:=fun vs H Q E=>∃ (v:V) (b:Bool),vs=[v] /\ oW c K H v b /\ (b=true->∀ H',aN H H'->Q .non H') /\ (b=false->∀ H',aN H H'->E (.ref C) none H')
end TD
namespace TD
open PySem L2
open Builtin.Int (intBits)
inductive Mw (c:Cs) (K:PySem.W.Frag) (H:Hp):V->V->Bool->Prop where
 | price {v w:V} (h:fO H 0 1000000000 v false):Mw c K H v w false
 | rows {v w:V} (h:fO H 0 1000000000 v true) (h2:jY c K H w false):Mw c K H v w false
 | big {p:Int}{a:Addr}{ps ys:List Addr}{rs:List (Int × Sd.Sd)}{d:Nat}{j:Int × Sd.Sd->Nat} (p0:0 <= p) (p9:p <= 1000000000) (g:Ea c H a ps ys rs d j) (h:12 < Sd.nE (d + 1 + 1) (.st p rs) ∨ 4 < Sd.nS (d + 1 + 1) (.st p rs)):Mw c K H (.int p) (.ref a) false
 | good {p:Int}{a:Addr}{ps ys:List Addr}{rs:List (Int × Sd.Sd)}{d m:Nat}{j:Int × Sd.Sd->Nat} (p0:0 <= p) (p9:p <= 1000000000) (g:Ea c H a ps ys rs d j) (hm:(rs.map j).sum <= m) (m12:m <= 12) (d4:d + 1 <= 4):Mw c K H (.int p) (.ref a) true
inductive Qm (c:Cs) (K:PySem.W.Frag) (H:Hp):Str->V->V->Bool->Prop where
 | en {v w:V}{b:Bool} (h:fO H 0 1000000000 v b):Qm c K H "end" v w b
 | st {v w:V}{b:Bool} (h:Mw c K H v w b):Qm c K H "stage" v w b
 | bx {v w:V}{b:Bool} (h:oW c K H v b):Qm c K H "boxes" v w b
section
variable {c:Cs}{K:PySem.W.Frag}{H H':Hp}{a:Addr}{ps ys:List Addr}{rs:List (Int × Sd.Sd)}{d:Nat}{j:Int × Sd.Sd->Nat}
theorem Ea.kt (s:Kt H H') (g:Ea c H a ps ys rs d j):Ea c H' a ps ys rs d j:=⟨s.lst g.ha,g.R.kp s.kp,g.ne,g.l4,g.ww⟩
theorem Mw.kt (s:Kt H H') {v u:V}{b:Bool} (h:Mw c K H v u b):Mw c K H' v u b:=by
 cases h with
 | price h=>exact .price (h.kt s)
 | rows h h2=>exact .rows (h.kt s) (h2.kt s)
 | big p0 p9 g h=>exact .big p0 p9 (g.kt s) h
 | good p0 p9 g hm m12 d4=>exact .good p0 p9 (g.kt s) hm m12 d4
theorem Qm.kt (s:Kt H H') {z:Str}{v u:V}{b:Bool} (h:Qm c K H z v u b):Qm c K H' z v u b:=by
 cases h with
 | en h=>exact .en (h.kt s)
 | st h=>exact .st (h.kt s)
 | bx h=>exact .bx (h.kt s)
theorem made {x dx:Addr}{o1 o2:HO} (hx:H x=none) (hd:H dx=none) (kp:∀ b o,b ≠ x->aU (aU H dx o1) x o2 b=some o->H' b=some o):aN H H':=fun b o e=>kp b o (aR e hx) (by rw [aL (aR e hx),aL (aR e hd)]; exact e)
theorem zY {x dx:Addr}{o1 o2:HO} (hx:H x=none) (hd:H dx=none) (ne:dx ≠ x):aN H (aU (aU H dx o1) x o2):=(aF hd o1).trans (aF (by rw [aL (Ne.symm ne)]; exact hx) o2)
end
section
variable {c:Cs}{H H':Hp}
theorem p7 (kt:∀ b xs,H b=some (.tup xs)->H' b=some (.tup xs)) {l cp:Addr}{sd:Sd.Sd}{lv:Int × Int}{xs:List dY}{n k:Int}{d m:Nat} (h:Ou H l cp sd lv xs n k d m):Ou H' l cp sd lv xs n k d m :=
 ⟨kt _ _ h.lv,⟨kt _ _ h.caps.1,fun x hx=>⟨kt _ _ (h.caps.2 x hx).1,kt _ _ (h.caps.2 x hx).2⟩⟩,h.gs,h.so,h.n1,h.nm,h.k0,h.kd,h.mt,h.lw,h.nx,h.kx⟩
theorem yI (kt:∀ b xs,H b=some (.tup xs)->H' b=some (.tup xs)) (ki:∀ b C dx f fs,H b=some (.ins C dx (f :: fs))->H' b=some (.ins C dx (f :: fs))) {x:Addr}{s:Sd.Sd}{d m:Nat} (h:dR c H x s d m):dR c H' x s d m:=by
 induction h with
 | en h vv ok=>exact .en (ki _ _ _ _ _ h) (p7 kt vv) ok
 | st h vv g lp ly row sub p0 p9 ne l4 w hk ih=>exact .st (ki _ _ _ _ _ h) (p7 kt vv) (kt _ _ g) lp ly (fun i q y t a b c=>kt _ _ (row i q y t a b c)) ih p0 p9 ne l4 w hk
theorem Dc {D:Addr}{zs zs':List V} (hD:H D=some (.lst zs)) {x:Addr}{s:Sd.Sd}{d m:Nat} (h:dR c H x s d m):dR c (aU H D (.lst zs')) x s d m :=
 yI (fun b xs e=>by rw [aL (bJ e hD fun z=>nomatch z)]; exact e) (fun b C dx f fs e=>by rw [aL (bJ e hD fun z=>nomatch z)]; exact e) h
def ER (c:Cs) (H:Hp) (tr:List (Addr × Addr × Int × Sd.Sd)):Prop:=∀ r ∈ tr,H r.1=some (.tup [.int r.2.2.1,.ref r.2.1]) /\ ∀ d m:Nat,1 <= m->dR c H r.2.1 r.2.2.2 d m
theorem ER.kt {tr:List (Addr × Addr × Int × Sd.Sd)} (s:Kt H H') (h:ER c H tr):ER c H' tr:=fun r hr=>⟨s.tup (h r hr).1,fun d m hm=>((h r hr).2 d m hm).kp s.kp⟩
theorem ER.lst {tr:List (Addr × Addr × Int × Sd.Sd)}{D:Addr}{zs zs':List V} (hD:H D=some (.lst zs)) (h:ER c H tr):ER c (aU H D (.lst zs')) tr:=fun r hr=>⟨by rw [aL (bJ (h r hr).1 hD fun z=>nomatch z)]; exact (h r hr).1,fun d m hm=>Dc hD ((h r hr).2 d m hm)⟩
theorem ER.snoc {tr:List (Addr × Addr × Int × Sd.Sd)}{r:Addr × Addr × Int × Sd.Sd} (h:ER c H tr) (h1:H r.1=some (.tup [.int r.2.2.1,.ref r.2.1])) (h2:∀ d m:Nat,1 <= m->dR c H r.2.1 r.2.2.2 d m):ER c H (tr ++ [r]):=fun x hx=>by
 rcases List.mem_append.mp hx with e | e
 ·exact h x e
 ·rw [List.mem_singleton.mp e]; exact ⟨h1,h2⟩
end
end TD
namespace L2
open PySem PySem.Spec PyProof.Rows
section
variable {X:Cx}
def Ph:Value->Addr
 | .ref a=>a
 | _=>0
def Mf (K:PySem.W.Frag) (n:Nat):V->List V->Hp->VK->Prop:=fun x vs H Q=>∃ (l v:Addr) (as:List Addr) (e:Addr->Bool) (j:Nat) (aj:Addr),x = .ref l /\ vs=[.ref v] /\ H l=some (.lst (as.map V.ref)) /\ as.length <= 1000 /\ (∀ a ∈ as,DE K H n (.ref a) (.ref v) (e a)) ∧
 as[j]? = some aj /\ e aj=true /\ (∀ m am,m < j->as[m]? = some am->e am=false) /\ Q (.int (j:Int)) H
theorem Aq:∀ {as:List Addr}{us:List Value},bI (as.map V.ref) us->us=as.map Value.ref
 | [],_,.nil=>rfl
 | a :: as,_,.cons r h=>by
  rw [Aq h]
  exact congrArg (· :: as.map Value.ref) r
theorem Hl {n:Nat} (hu:X.A.units + n + 2 < cLine):Z2 X "list.index" (Mf X.K n):=by
 intro pins s σ H x vs v us Q I rx rv h
 obtain ⟨l,y,as,e,j,aj,rfl,rfl,hH,h9,he,hj,hit,hno,q⟩:=h
 cases rx
 obtain ⟨u,rfl,ru⟩:=rv.one
 cases (show u=Value.ref y from ru)
 obtain ⟨z,its,m,r,hl,eo⟩:=I.lstM hH
 obtain rfl:=Aq r
 have hjl:j < as.length:=(List.getElem?_eq_some_iff.mp hj).1
 refine call_meets F.slot_list_index ⟨_,eo,rfl⟩ F.entry_list_index (F.args_list_index_2 _ _) (SeqAt.list_indexAt l (as.map Value.ref).toArray m none #[] (.ref y) (fun z=>e (Ph z)) j (by simpa using hjl) (by omega) ?_ (fun k hk hlt=>?_)) ⟨eo,fun z hz=>?_,?_⟩
 ·have:as[j]=aj:=by rw [List.getElem?_eq_getElem hjl] at hj; exact Option.some.inj hj
  simp only [List.getElem_toArray,List.getElem_map,Ph,this,hit]
 ·have hk':k < as.length:=by simpa using hk
  simp only [List.getElem_toArray,List.getElem_map,Ph]
  exact hno k _ hlt (List.getElem?_eq_getElem hk')
 ·obtain ⟨a,ha,rfl⟩:=List.mem_map.mp (show z ∈ as.map Value.ref by simpa using hz)
  exact (he a ha).eqAt I _ _ _ (by first | (show X.A.units + _ + n < cLine; omega) | (simp only [gW]; omega)) rfl rfl
 ·exact ⟨.int (j:Int),H,I.kept (h':=s.heap) (fun _ _ e=>e),⟨s.toks,rfl⟩,q⟩
end
end L2
namespace TD
open PySem L2
open Builtin.Int (intBits)
theorem K4 {K:PySem.W.Frag}{H:Hp}{s:Sd.Sd}{d m:Nat} (ok:Sd.Ok s d m):∀ {a b:Addr}{t:Sd.Sd}{n:Nat},gQ H a s->gQ H b t->3 * d + 1 <= n->∃ k,DE K H n (.ref a) (.ref b) k /\ (k=true ↔ s=t):=by
 induction ok with
 | @en v d m h0 h9 hm =>
  intro a b t n ha hb hn
  obtain ⟨n,rfl⟩ : ∃ q,n=q + 1:=⟨n - 1,by omega⟩
  cases ha with
  | en ha =>
   cases hb with
   | @en _ v' hb =>
    refine ⟨_,.tup (fun j=>match j with | 0=>true | _=>(v == v')) (cN.of ha) (cN.of hb) fun j x y hx hy=>?_,?_⟩
    ·match j,hx,hy with
     | 0,hx,hy=>cases hx; cases hy; exact DE.str n "end" "end"
     | 1,hx,hy=>cases hx; cases hy; exact DE.int n v v'
     | j + 2,hx,_=>simp at hx
    ·show ((true && ((v == v') && true)) && true)=true ↔ _
     rw [Bool.and_true,Bool.and_true,Bool.true_and,beq_iff_eq]
     exact ⟨fun e=>by rw [e],fun e=>by injection e⟩
   | @st _ r p rs ps ys hb g lp ly row sub =>
    refine ⟨_,.tup (fun j=>match j with | 0=>false | _=>(v == p)) (cN.of ha) (cN.of hb) fun j x y hx hy=>?_,?_⟩
    ·match j,hx,hy with
     | 0,hx,hy=>cases hx; cases hy; exact DE.str n "end" "stage"
     | 1,hx,hy=>cases hx; cases hy; exact DE.int n v p
     | j + 2,hx,_=>simp at hx
    ·exact ⟨(fun e=>by cases e),(fun e=>by cases e)⟩
 | @st p rs d m f h0 h9 ne l4 w sub hk ih =>
  intro a b t n ha hb hn
  obtain ⟨n,rfl⟩ : ∃ q,n=q + 1 + 1 + 1:=⟨n - 3,by omega⟩
  cases ha with
  | @st _ r _ _ ps ys ha g lp ly row sub1 =>
  cases hb with
  | @en _ v' hb =>
   refine ⟨_,.tup (fun j=>match j with | 0=>false | _=>(p == v')) (cN.of ha) (cN.of hb) fun j x y hx hy=>?_,?_⟩
   ·match j,hx,hy with
    | 0,hx,hy=>cases hx; cases hy; exact DE.str _ "stage" "end"
    | 1,hx,hy=>cases hx; cases hy; exact DE.int _ p v'
    | j + 2,_,hy=>simp at hy
   ·exact ⟨(fun e=>by cases e),(fun e=>by cases e)⟩
  | @st _ r' p' rs' ps' ys' hb g' lp' ly' row' sub' =>
   have each:∀ j:Nat,∃ k,∀ x y,(ps.map V.ref)[j]? = some x->(ps'.map V.ref)[j]? = some y->DE K H (n + 1) x y k /\ (k=true ↔ rs[j]? = rs'[j]?):=fun j=>by
    by_cases h1:j < rs.length
    ·by_cases h2:j < rs'.length
     ·have e1:ps[j]? = some (ps[j]'(by omega)):=List.getElem?_eq_getElem _
      have e2:ys[j]? = some (ys[j]'(by omega)):=List.getElem?_eq_getElem _
      have e3:rs[j]? = some rs[j]:=List.getElem?_eq_getElem _
      have f1:ps'[j]? = some (ps'[j]'(by omega)):=List.getElem?_eq_getElem _
      have f2:ys'[j]? = some (ys'[j]'(by omega)):=List.getElem?_eq_getElem _
      have f3:rs'[j]? = some rs'[j]:=List.getElem?_eq_getElem _
      obtain ⟨k,de,hk⟩:=ih rs[j] (List.getElem_mem h1) (n:=n) (sub1 j _ _ e2 e3) (sub' j _ _ f2 f3) (by omega)
      refine ⟨(rs[j].1 == rs'[j].1) && k,fun x y hx hy=>⟨?_,?_⟩⟩
      ·rw [List.getElem?_map,e1] at hx
       rw [List.getElem?_map,f1] at hy
       cases hx
       cases hy
       have z:=DE.tup (K:=K) (fun i=>match i with | 0=>(rs[j].1 == rs'[j].1) | _=>k) (cN.of (row j _ _ _ e1 e2 e3)) (cN.of (row' j _ _ _ f1 f2 f3)) (n:=n) fun i x y hx hy=>by
        match i,hx,hy with
        | 0,hx,hy=>cases hx; cases hy; exact DE.int n _ _
        | 1,hx,hy=>cases hx; cases hy; exact de
        | i + 2,hx,_=>simp at hx
       have ez:((List.range (min [V.int rs[j].1,V.ref ys[j]].length [V.int rs'[j].1,V.ref ys'[j]].length)).all (fun i=>match i with | 0=>(rs[j].1 == rs'[j].1) | _=>k) && [V.int rs[j].1,V.ref ys[j]].length == [V.int rs'[j].1,V.ref ys'[j]].length)=((rs[j].1 == rs'[j].1) && k):=by
        generalize (rs[j].1 == rs'[j].1)=u
        cases u <;> cases k <;> rfl
       rw [ez] at z
       exact z
      ·rw [e3,f3,Bool.and_eq_true,beq_iff_eq,hk]
       exact ⟨fun ⟨q1,q2⟩=>congrArg some (Prod.ext q1 q2),fun q=>by injection q with q; exact ⟨by rw [q],by rw [q]⟩⟩
     ·exact ⟨false,fun x y hx hy=>by rw [List.getElem?_eq_none (by rw [List.length_map]; omega)] at hy; cases hy⟩
    ·exact ⟨false,fun x y hx hy=>by rw [List.getElem?_eq_none (by rw [List.length_map]; omega)] at hx; cases hx⟩
   have dr:DE K H (n + 1 + 1) (.ref r) (.ref r') ((List.range (min (ps.map V.ref).length (ps'.map V.ref).length)).all (fun j=>Classical.choose (each j)) && (ps.map V.ref).length == (ps'.map V.ref).length) :=
    .tup _ (cN.of g) (cN.of g') fun j x y hx hy=>(Classical.choose_spec (each j) x y hx hy).1
   have er:((List.range (min (ps.map V.ref).length (ps'.map V.ref).length)).all (fun j=>Classical.choose (each j)) && (ps.map V.ref).length == (ps'.map V.ref).length)=true ↔ rs=rs':=by
    rw [Bool.and_eq_true,beq_iff_eq,List.length_map,List.length_map,lp,lp',List.all_eq_true]
    have at_:∀ j,j < rs.length->j < rs'.length->(Classical.choose (each j)=true ↔ rs[j]? = rs'[j]?):=fun j h1 h2 =>
     (Classical.choose_spec (each j) (V.ref (ps[j]'(by omega))) (V.ref (ps'[j]'(by omega))) (by rw [List.getElem?_map,List.getElem?_eq_getElem (by omega)]; rfl) (by rw [List.getElem?_map,List.getElem?_eq_getElem (by omega)]; rfl)).2
    constructor
    ·rintro ⟨q1,q2⟩
     refine List.ext_getElem? fun j=>?_
     by_cases h:j < rs.length
     ·exact (at_ j h (by omega)).mp (q1 j (List.mem_range.mpr (by omega)))
     ·rw [List.getElem?_eq_none (by omega),List.getElem?_eq_none (by omega)]
    ·rintro rfl
     exact ⟨fun j hj=>(at_ j (by have:=List.mem_range.mp hj; omega) (by have:=List.mem_range.mp hj; omega)).mpr rfl,rfl⟩
   generalize ((List.range (min (ps.map V.ref).length (ps'.map V.ref).length)).all (fun j=>Classical.choose (each j)) && (ps.map V.ref).length == (ps'.map V.ref).length)=kr at dr er
   refine ⟨_,.tup (fun j=>match j with | 0=>true | 1=>(p == p') | _=>kr) (cN.of ha) (cN.of hb) fun j x y hx hy=>?_,?_⟩
   ·match j,hx,hy with
    | 0,hx,hy=>cases hx; cases hy; exact DE.str _ "stage" "stage"
    | 1,hx,hy=>cases hx; cases hy; exact DE.int _ p p'
    | 2,hx,hy=>cases hx; cases hy; exact dr
    | j + 3,hx,_=>simp at hx
   ·show ((true && ((p == p') && (kr && true))) && true)=true ↔ _
    rw [Bool.and_true,Bool.and_true,Bool.true_and,Bool.and_eq_true,beq_iff_eq,er]
    exact ⟨fun ⟨q1,q2⟩=>by rw [q1,q2],fun q=>by injection q with q1 q2; exact ⟨q1,q2⟩⟩
end TD
namespace L2
open PySem PySem.Spec PyProof.Rows
section
variable {X:Cx}
def V6 (K:PySem.W.Frag):R2:=fun x y H Q=>∃ a b xs ys,x = .ref a /\ y = .ref b /\ cN K H a xs /\ cN K H b ys /\ xs.length + ys.length <= sizeLine ∧
 (xs=[]->Q (.ref b) H) /\ (ys=[]->Q (.ref a) H) /\ ∀ p,H p=none->Q (.ref p) (aU H p (.tup (xs ++ ys)))
theorem Ad:nY X (binaryOp .Add) (V6 X.K):=by
 intro pins s σ H x y v u Q I rx ry h
 obtain ⟨a,b,xs,ys,rfl,rfl,ha,hb,hz,q0,q1,q2⟩:=h
 by_cases hx:xs=[]
 ·cases rx
  cases ry
  obtain ⟨its,r1,p1,_⟩:=I.tuple ha
  obtain ⟨its2,r2,p2,_⟩:=I.tuple hb
  have e1:its=[]:=r1.nil_iff.mpr hx
  obtain ⟨⟨cls,dd,data,sl⟩,ho,hc,n,hd⟩:=id p1
  obtain ⟨⟨cls2,dd2,data2,sl2⟩,ho2,hc2,n2,hd2⟩:=id p2
  simp only at hc hd hc2 hd2
  subst hc hd hc2 hd2
  exact concat_meets ⟨_,ho,rfl⟩ ⟨_,ho2,rfl⟩ noFill_tuple_add seq_tuple_add PySem.F.slot_tuple_add PySem.F.entry_tuple_add (PySem.F.args_tuple_add_2 _ _)
   (tuple_addW0 a b its.toArray its2.toArray n n2 dd dd2 sl sl2 (by rw [e1]; rfl)) ⟨ho,ho2,.ref b,H,I,rfl,q0 hx⟩
 ·exact Lh pins s σ H _ _ v u Q I rx ry ⟨a,b,xs,ys,rfl,rfl,ha,hb,hx,hz,q1,fun _=>q2⟩
def GR (K:PySem.W.Frag) (H:Hp) (n:Nat) (x y:V):Prop:=∀ (X:Cx) (pins:List (Addr × Obj)) (σ : St) (s:Shared),X.K=K->aX X pins σ H s->∀ (A:Around) (u v:Value),A.units + n < cLine->bG x u->bG y v->PySem.SeqAt.EqAt A s u v true
section
variable {K:PySem.W.Frag}{H:Hp}{n:Nat}
theorem GR.of {x y:V} (d:DE K H n x y true):GR K H n x y:=fun X pins σ s hK I A u v hu r1 r2=>by
 subst hK
 exact d.eqAt I A u v hu r1 r2
theorem GR.non:GR K H n .non .non:=fun X pins σ s hK I A u v hu r1 r2=>by
 cases (show u=Value.none from r1)
 cases (show v=Value.none from r2)
 exact PySem.SeqAt.EqAt.same _
theorem GR.up {m:Nat}{x y:V} (h:GR K H n x y) (hm:n <= m):GR K H m x y:=fun X pins σ s hK I A u v hu r1 r2=>h X pins σ s hK I A u v (by omega) r1 r2
theorem GR.lst {a b:Addr}{xs ys:List V} (ha:bO K H a xs) (hb:bO K H b ys) (hl:xs.length=ys.length) (h:∀ (j:Nat) x y,xs[j]? = some x->ys[j]? = some y->GR K H n x y):GR K H (n + 1) (.ref a) (.ref b):=fun X pins σ s hK I A u v hu r1 r2=>by
 subst hK
 cases (show u=Value.ref a from r1)
 cases (show v=Value.ref b from r2)
 by_cases hab:a=b
 ·subst hab
  exact PySem.SeqAt.EqAt.same _
 ·obtain ⟨its,r1,p1,_⟩:=I.list ha
  obtain ⟨its2,r2,p2,_⟩:=I.list hb
  refine PySem.SeqAt.EqAt.of_refs hab ?_
  have q:=PySem.SeqAt.RcAt.lists (A:=A) (e:=fun _=>true) p1.isList p2.isList (by rw [List.size_toArray,List.size_toArray,<- r1.length,<- r2.length]; exact hl) (by omega) (fun j h1 h2=>by
   obtain ⟨x,ex,rx⟩:=fZ r1 (j:=j) (by simpa using h1)
   obtain ⟨y,ey,ry⟩:=fZ r2 (j:=j) (by simpa using h2)
   rw [List.getElem_toArray,List.getElem_toArray]
   exact h j x y ex ey X pins σ s rfl I A.in1 _ _ (by rw [gW]; omega) rx ry)
  rw [show (List.range its.toArray.size).all (fun _=>true)=true from by simp] at q
  exact q
end
def aAz (K:PySem.W.Frag) (n:Nat):R2:=fun x y H Q=>∃ (a b:Addr) (xs ys:List V),x = .ref a /\ y = .ref b /\ bO K H a xs /\ bO K H b ys /\ xs.length=ys.length /\ (∀ (j:Nat) x y,xs[j]? = some x->ys[j]? = some y->GR K H n x y) /\ Q (.bl true) H
theorem Qh {n:Nat} (hu:X.A.units + n + 1 < cLine):nY X (compareOp .Eq) (aAz X.K n):=by
 intro pins s σ H x y v u Q I rx ry h
 obtain ⟨a,b,xs,ys,rfl,rfl,ha,hb,hl,h,q⟩:=h
 cases (show v=Value.ref a from rx)
 cases (show u=Value.ref b from ry)
 obtain ⟨its,r1,p1,_⟩:=I.list ha
 obtain ⟨its2,r2,p2,_⟩:=I.list hb
 refine PySem.SeqAt.eq_listAt (e:=fun _=>true) p1.isList p2.isList (by rw [List.size_toArray,List.size_toArray,<- r1.length,<- r2.length]; exact hl) (by omega) (fun j h1 h2=>by
  obtain ⟨x,ex,rx⟩:=fZ r1 (j:=j) (by simpa using h1)
  obtain ⟨y,ey,ry⟩:=fZ r2 (j:=j) (by simpa using h2)
  rw [List.getElem_toArray,List.getElem_toArray]
  exact h j x y ex ey X pins σ s rfl I X.A.in1 _ _ (by rw [gW]; omega) rx ry) ?_
 rw [show (List.range its.toArray.size).all (fun _=>true)=true from by simp]
 exact ⟨.bl _,H,I,rfl,q⟩
end
end L2
namespace TD
open PySem L2
open Builtin.Int (intBits)
def iU (tp tl th:Addr) (sp:Int) (td:Addr):List (Str × V):=[("present",.ref tp),("lowest",.ref tl),("held",.ref th),("spent",.int sp),("done",.ref td)]
inductive Hb (H:Hp):V->Prop where
 | non:Hb H .non
 | sh {a:Addr}{lv:Int × Int} (h:Tq H a lv) (w:Sd.Lw lv):Hb H (.ref a)
inductive pX (H:Hp):Addr->Prop where
 | op {q:Addr}{b r:Int} (h:H q=some (.tup [.str "open",.int b,.int r])):pX H q
 | tk {q:Addr}{b:Int} (h:H q=some (.tup [.str "take",.int b])):pX H q
structure Ca where
 dx:Addr
 tp:Addr
 tl:Addr
 th:Addr
 td:Addr
 ys:List Addr
 ss:List (Sd.Sd × Nat × Nat)
 ls:List V
 bs:List Bool
 sp:Int
 ds:List Addr
structure iH (c:Cs) (cC:Addr) (H:Hp) (x:Addr) (q:Ca):Prop where
 hx:H x=some (.ins cC q.dx (iU q.tp q.tl q.th q.sp q.td))
 hp:H q.tp=some (.tup (q.ys.map V.ref))
 hl:H q.tl=some (.tup q.ls)
 hh:H q.th=some (.tup (q.bs.map V.bl))
 hd:H q.td=some (.tup (q.ds.map V.ref))
 n1:1 <= q.ys.length
 n6:q.ys.length <= 6
 es:q.ss.length=q.ys.length
 el:q.ls.length=q.ys.length
 eb:q.bs.length=q.ys.length
 st:∀ (i:Nat) y s,q.ys[i]? = some y->q.ss[i]? = some s->dR c H y s.1 s.2.1 s.2.2 /\ s.2.1 <= 4 /\ s.2.2 <= 12
 cp:∀ l ∈ q.ls,Hb H l
 en:∀ (i:Nat) s,q.bs[i]? = some true->q.ss[i]? = some s->∃ v,s.1 = .en v
 dd:∀ d ∈ q.ds,pX H d
 d9:q.ds.length <= 100
section
variable {c:Cs}{cC:Addr}{H H':Hp}{x:Addr}{q:Ca}
theorem Hb.kt (s:Kt H H') {l:V} (h:Hb H l):Hb H' l:=by
 cases h with
 | non=>exact .non
 | sh h w=>exact .sh (s.tup h) w
theorem pX.kt (s:Kt H H') {a:Addr} (h:pX H a):pX H' a:=by
 cases h with
 | op h=>exact .op (s.tup h)
 | tk h=>exact .tk (s.tup h)
theorem iH.kt (s:Kt H H') (h:iH c cC H x q):iH c cC H' x q :=
 ⟨s _ _ h.hx (fun _ z=>nomatch z),s.tup h.hp,s.tup h.hl,s.tup h.hh,s.tup h.hd,h.n1,h.n6,h.es,h.el,h.eb,fun i y t e1 e2=>⟨(h.st i y t e1 e2).1.kp s.kp,(h.st i y t e1 e2).2⟩,fun l hl=>(h.cp l hl).kt s,h.en,fun d hd=>(h.dd d hd).kt s,h.d9⟩
end
theorem fO.notF {H:Hp}{n i:Nat} (K:PySem.W.Frag) (iw:fO H 0 ((n:Int) - 1) (.int (i:Int)) false) (h:i < n):False:=by
 generalize hb:false=b at iw
 cases iw with
 | no h =>
  obtain ⟨t,ht,hk⟩:=h K
  cases ht
  rw [gM] at hk
  cases hk
 | int =>
  rw [decide_eq_true (show (0:Int) <= i by omega),decide_eq_true (show (i:Int) <= (n:Int) - 1 by omega)] at hb
  cases hb
theorem Ft {n:Nat} (h:n <= 1000):n <= sizeLine:=Nat.le_of_lt (aZ h)
def KX (x:Addr) (H H':Hp):Prop:=∀ b o,b ≠ x->H b=some o->H' b=some o
theorem KX.refl (x:Addr) (H:Hp):KX x H H:=fun _ _ _ h=>h
theorem KX.trans {x:Addr}{H H1 H2:Hp} (a:KX x H H1) (b:KX x H1 H2):KX x H H2:=fun c o n h=>b c o n (a c o n h)
theorem KX.of {x:Addr}{H H':Hp} (s:aN H H'):KX x H H':=fun b o _ h=>s b o h
theorem KX.put {x:Addr}{H:Hp} (o:HO):KX x H (aU H x o):=fun b u n h=>by rw [aL n]; exact h
theorem vH {α : Type}:∀ {xs:List α}{i:Nat}{v:α},i < xs.length->xs.take i ++ [v] ++ xs.drop (i + 1)=xs.set i v
 | x :: xs,0,v,_=>by simp
 | x :: xs,i + 1,v,h=>by
  have:=vH (xs:=xs) (i:=i) (v:=v) (by simpa using h)
  simp only [List.take_succ_cons,List.cons_append,List.drop_succ_cons,List.set_cons_succ]
  rw [this]
theorem Mg {c:Cs}{K:PySem.W.Frag}{H:Hp}{a:Addr}{xs:List V} (e:H a=some (.lst xs)) (h:∀ x ∈ xs,sS c K H x true) (b:Bool) (hb:b=(decide (0 < (xs.length:Int)) && decide ((xs.length:Int) < 7))):oW c K H (.ref a) b:=by
 by_cases h1:1 <= xs.length
 ·by_cases h6:xs.length <= 6
  ·have z:=oW.all (c:=c) (K:=K) (bs:=List.replicate xs.length true) e h1 h6 (by simp) fun i x hx=>by
    have hi:=(List.getElem?_eq_some_iff.mp hx).1
    have e2:(List.replicate xs.length true).getD i false=true:=by simp [List.getD,hi]
    rw [e2]
    exact h x (List.mem_of_getElem? hx)
   have e2:(List.replicate xs.length true).all id=true:=by simp
   rw [e2] at z
   rw [hb,decide_eq_true (by omega),decide_eq_true (by omega)]
   exact z
  ·rw [hb,decide_eq_true (by omega),decide_eq_false (by omega)]
   exact .len e (by omega)
 ·rw [hb,decide_eq_false (by omega)]
  exact .len e (by omega)
theorem Gn (xs:List V) (n:Nat) (h:n <= xs.length):gJ xs none (some (n:Int))=xs.take n:=by
 unfold gJ
 have e1:HT.gO xs.length 0 none=0:=rfl
 have e2:HT.gO xs.length xs.length (some (n:Int))=n:=by rw [HT.mX]; omega
 rw [e1,e2,List.drop_zero,Nat.sub_zero]
theorem BW (xs:List V) (n:Nat) (h:n <= xs.length):gJ xs (some (n:Int)) none=xs.drop n:=by
 unfold gJ
 have e1:HT.gO xs.length xs.length none=xs.length:=rfl
 have e2:HT.gO xs.length 0 (some (n:Int))=n:=by rw [HT.mX]; omega
 rw [e1,e2,List.take_of_length_le (by rw [List.length_drop]; omega)]
theorem KX.kp {x:Addr}{H H':Hp}{o:HO} (k:KX x H H') (h:H x=some o) {b:Addr}{u:HO} (e:H b=some u) (n:u ≠ o):H' b=some u:=k b u (fun z=>n (by rw [z,h] at e; exact (Option.some.inj e).symm)) e
theorem dR.kx {c:Cs}{cC x:Addr}{q:Addr}{fs:List (Str × V)}{H H':Hp} (ne:cC ≠ c.e) (ns:cC ≠ c.s) (k:KX x H H') (hx:H x=some (.ins cC q fs)) {y:Addr}{s:Sd.Sd}{d m:Nat} (h:dR c H y s d m):dR c H' y s d m:=by
 induction h with
 | en h vv ok=>exact .en (k.kp hx h (fun z=>by injection z with z; exact ne z.symm)) (p7 (fun b xs e=>k.kp hx e fun z=>nomatch z) vv) ok
 | st h vv g lp ly row sub p0 p9 ne' l4 w hk ih=>exact .st (k.kp hx h (fun z=>by injection z with z; exact ns z.symm)) (p7 (fun b xs e=>k.kp hx e fun z=>nomatch z) vv) (k.kp hx g fun z=>nomatch z) lp ly (fun i q y t e1 e2 e3=>k.kp hx (row i q y t e1 e2 e3) fun z=>nomatch z) ih p0 p9 ne' l4 w hk
theorem pX.kx {cC x:Addr}{q:Addr}{fs:List (Str × V)}{H H':Hp} (k:KX x H H') (hx:H x=some (.ins cC q fs)) {a:Addr} (h:pX H a):pX H' a:=by
 cases h with
 | op h=>exact .op (k.kp hx h fun z=>nomatch z)
 | tk h=>exact .tk (k.kp hx h fun z=>nomatch z)
structure wD (K:PySem.W.Frag) (c:Cs) (cC:Addr):Prop where
 ne:cC ≠ c.e
 nS:cC ≠ c.s
 cl:zR K cC
 np:bV K cC "present"
 nl:bV K cC "lowest"
 nh:bV K cC "held"
 ns:bV K cC "spent"
 nd:bV K cC "done"
def vD (q:Ca):List Nat:=(List.range q.ys.length).filter fun i=>q.bs.getD i false
def rR (q:Ca):List Int:=(vD q).map Int.ofNat
def ZM:Option (Sd.Sd × Nat × Nat)->Int
 | some (.en v,_)=>v
 | _=>0
def Yi (q:Ca):Int:=((vD q).map fun i=>ZM q.ss[i]?).sum - q.sp
section
variable (c:Cs) (cC:Addr) (C:Addr)
def Qd:Sp:=fun vs H Q _=>∃ (x:Addr) (q:Ca),vs=[.ref x] /\ iH c cC H x q /\ Q (.int (q.ys.length:Int)) H
def Pn:Sp:=fun vs H Q E=>∃ (x:Addr) (v:V) (q:Ca) (b:Bool),vs=[.ref x,v] /\ iH c cC H x q /\ fO H 0 ((q.ys.length:Int) - 1) v b /\ (b=true->Q .non H) /\ (b=false->E (.ref C) none H)
def rK:Sp:=fun vs H Q E=>∃ (x:Addr) (v:V) (q:Ca) (b:Bool),vs=[.ref x,v] /\ iH c cC H x q /\ fO H 0 ((q.ys.length:Int) - 1) v b /\ (∀ (i:Nat) y,v = .int i->q.ys[i]? = some y->Q (.ref y) H) /\ (b=false->E (.ref C) none H)
def tZ:Sp:=fun vs H Q E=>∃ (x:Addr) (v:V) (q:Ca) (b:Bool),vs=[.ref x,v] /\ iH c cC H x q /\ fO H 0 ((q.ys.length:Int) - 1) v b /\ (∀ (i:Nat) l,v = .int i->q.ls[i]? = some l->Q l H) /\ (b=false->E (.ref C) none H)
def uA:Sp:=fun vs H Q _=>∃ (x:Addr) (q:Ca),vs=[.ref x] /\ iH c cC H x q /\ ∀ l H',aN H H'->H' l=some (.lst ((rR q).map V.int))->Q (.ref l) H'
def KC:Sp:=fun vs H Q _=>∃ (x:Addr) (q:Ca),vs=[.ref x] /\ iH c cC H x q /\ Q (.int q.sp) H
def Nh:Sp:=fun vs H Q _=>∃ (x:Addr) (q:Ca),vs=[.ref x] /\ iH c cC H x q /\ ∀ H',aN H H'->Q (.int (Yi q)) H'
def Nr:Sp:=fun vs H Q _=>∃ (x:Addr) (q:Ca),vs=[.ref x] /\ iH c cC H x q /\ ∀ l H',aN H H'->H' l=some (.lst (q.ds.map V.ref))->Q (.ref l) H'
def Ez:Sp:=fun vs H Q E=>∃ (x:Addr) (v:V) (q:Ca),vs=[.ref x,v] /\ iH c cC H x q /\ fO H 0 ((q.ys.length:Int) - 1) v false /\ E (.ref C) none H
def Ff (K:PySem.W.Frag) (CB:Addr):Sp:=fun vs H Q E =>
 (∃ (x dx a:Addr) (ys:List Addr),vs=[.ref x,.ref a] /\ H x=some (.ins cC dx []) /\ H a=some (.lst (ys.map V.ref)) /\ 1 <= ys.length /\ ys.length <= 6 /\ (∀ y ∈ ys,∃ s d m,dR c H y s d m) ∧
  ∀ (tp tl th td:Addr) (H':Hp),(∀ b o,b ≠ x->H b=some o->H' b=some o)->H' x=some (.ins cC dx (iU tp tl th 0 td))->H' tp=some (.tup (ys.map V.ref))->H' tl=some (.tup (ys.map fun _=>V.non))->H' th=some (.tup (ys.map fun _=>V.bl false))->H' td=some (.tup [])->Q .non H') ∨
 ∃ (x:Addr) (v:V),vs=[.ref x,v] /\ oW c K H v false /\ ∀ H',aN H H'->E (.ref CB) none H'
def Kh:Sp:=fun vs H Q _=>∃ (x dq:Addr) (q:Ca),vs=[.ref x,.ref dq] /\ iH c cC H x q /\ pX H dq /\ q.ds.length <= 99 /\ ∀ (x2 dx tp td:Addr) (H':Hp),H x2=none->aN H H'->iH c cC H' x2 { q with dx:=dx,tp:=tp,td:=td,ds:=q.ds ++ [dq] }->Q (.ref x2) H'
def Ol (K:PySem.W.Frag):Sp:=fun vs H Q _=>∃ (a:Addr) (xs:List V) (i:Nat) (v:V),vs=[.ref a,.int (i:Int),v] /\ H a=some (.tup xs) /\ i < xs.length /\ xs.length <= 900 /\ ∀ t H',aN H H'->H' t=some (.tup (xs.set i v))->Q (.ref t) H'
def Jy:Sp:=fun vs H Q E=>∃ (x:Addr) (v r:V) (q:Ca),vs=[.ref x,v,r] /\ iH c cC H x q ∧
 ((fO H 0 ((q.ys.length:Int) - 1) v false /\ E (.ref C) none H) ∨
  (∃ (i:Nat) (u:Int) (d m:Nat),v = .int i /\ q.ss[i]? = some (.en u,d,m) /\ E (.ref C) none H) ∨
  (∃ (i:Nat) (p:Int) (rs:List (Int × Sd.Sd)) (d m:Nat),v = .int i /\ q.ss[i]? = some (.st p rs,d,m) /\ fO H 0 ((rs.length:Int) - 1) r false /\ E (.ref C) none H) ∨
  ∃ (i j:Nat) (p:Int) (rs:List (Int × Sd.Sd)) (d m:Nat),v = .int i /\ r = .int j /\ q.ss[i]? = some (.st p rs,d,m) /\ j < rs.length /\ q.ds.length <= 99 /\ ∀ x2 q2 H',aN H H'->iH c cC H' x2 q2->q2.ys.length=q.ys.length->q2.ds.length <= q.ds.length + 1->Q (.ref x2) H')
def JN:Sp:=fun vs H Q E=>∃ (x:Addr) (v:V) (q:Ca),vs=[.ref x,v] /\ iH c cC H x q ∧
 ((fO H 0 ((q.ys.length:Int) - 1) v false /\ E (.ref C) none H) ∨
  (∃ (i:Nat) (p:Int) (rs:List (Int × Sd.Sd)) (d m:Nat),v = .int i /\ q.ss[i]? = some (.st p rs,d,m) /\ E (.ref C) none H) ∨
  (∃ (i:Nat),v = .int i /\ q.bs[i]? = some true /\ E (.ref C) none H) ∨
  ∃ (i:Nat) (u:Int) (d m:Nat),v = .int i /\ q.ss[i]? = some (.en u,d,m) /\ q.bs[i]? = some false /\ q.ds.length <= 99 /\ ∀ x2 q2 H',aN H H'->iH c cC H' x2 q2->q2.ys.length=q.ys.length->q2.ds.length <= q.ds.length + 1->Q (.ref x2) H')
end
end TD
namespace TD
open PySem L2
open Builtin.Int (intBits)
def dN:Nat->Int
 | 0=>2
 | n + 1=>4 + 4 * (2 + dN n)
theorem Jc:∀ n,2 <= dN n
 | 0=>Int.le_refl _
 | n + 1=>by have:=Jc n; show (2:Int) <= 4 + 4 * (2 + dN n); omega
def Kg (K:PySem.W.Frag):Sp:=fun vs H Q _=>∃ (a:Addr) (ns:List Int) (k:Int),vs=[.ref a,.int k] /\ bO K H a (ns.map V.int) /\ 0 <= k /\ ∀ l x b,H l=none->0 <= b->b <= 1->Q (.ref l) (aU H l (.lst [.int x,.int b]))
def Kc:Sp:=fun vs H Q _=>∃ (l:Addr) (x b m:Int),vs=[.ref l,.int m] /\ H l=some (.lst [.int x,.int b]) /\ 1 <= m /\ m <= 1000000001 /\ 0 <= b /\ b <= 99998 /\ ∀ r x' b' H',0 <= r->r < m->0 <= b'->b' <= b + 1->KX l H H'->H' l=some (.lst [.int x',.int b'])->Q (.int r) H'
def Ls (n:Nat):Sp:=fun vs H Q _=>∃ (a:Addr) (s:Sd.Sd) (d m:Nat),vs=[.ref a] /\ gQ H a s /\ Sd.Ok s d m /\ d < n /\ ∀ H',aN H H'->Q (.int (Sd.nE (d + 1) s)) H'
def Ly (n0:Nat):Sp:=fun vs H Q _=>∃ (l:Addr) (x b lev most:Int) (n:Nat),vs=[.ref l,.int lev,.int most] /\ H l=some (.lst [.int x,.int b]) /\ lev=4 - (n:Int) /\ n <= 4 /\ n < n0 /\ 1 <= most /\ most <= 12 /\ 0 <= b /\ b + dN n <= 99990 ∧
 ∀ t s H' x' b',KX l H H'->H' l=some (.lst [.int x',.int b'])->0 <= b'->b' <= b + dN n->gQ H' t s->Sd.Ok s n most.toNat->Q (.ref t) H'
theorem p9:Od 10 9:=⟨by decide,by decide,by decide⟩
theorem uH {xs:List V}{P:V->Prop} (h:∀ v ∈ xs,P v) {r:Int} (r0:0 <= r) (r1:r < (xs.length:Int)):∃ v,Hz xs r=some v /\ P v:=by
 obtain ⟨j,rfl⟩ : ∃ j:Nat,r=(j:Int):=⟨r.toNat,by omega⟩
 have hj:j < xs.length:=by omega
 exact ⟨_,fD (List.getElem?_eq_getElem hj),h _ (List.getElem_mem hj)⟩
theorem KX.lst {l:Addr}{H H':Hp} (k:KX l H H') {x b:V} (hl:H l=some (.lst [x,b])) {a:Addr}{o:HO} (e:H a=some o) (n:∀ y z,o ≠ .lst [y,z]):H' a=some o:=k a o (fun z=>n x b (by rw [z,hl] at e; exact (Option.some.inj e).symm)) e
theorem Js:∀ {l:List Int},(∀ z ∈ l,0 <= z)->0 <= l.sum
 | [],_=>Int.le_refl _
 | a :: l,h=>by
  have h1:=h a List.mem_cons_self
  have h2:=Js (l:=l) fun z hz=>h z (List.mem_cons_of_mem _ hz)
  rw [List.sum_cons]
  omega
theorem Ga {n:Nat}:∀ (rs:List (Int × Sd.Sd)),(((rs.map fun r=>(Sd.nE n r.2).toNat).sum:Nat):Int)=(rs.map fun r=>Sd.nE n r.2).sum
 | []=>rfl
 | r :: rs=>by
  have h1:=Ga (n:=n) rs
  have h2:=Sd.wX n r.2
  rw [List.map_cons,List.map_cons,List.sum_cons,List.sum_cons]
  push_cast
  omega
end TD
namespace TD
open PySem L2
open Builtin.Int (intBits)
def Md (H:Hp) (t:Addr):Prop:=∃ s,gQ H t s /\ Sd.Ok s 4 12
def Sg (c:Cs) (H:Hp) (y:Addr):Prop:=∃ s d m,dR c H y s d m /\ d <= 4 /\ m <= 12
theorem Sg.kt {c:Cs}{H H':Hp} (s:Kt H H') {y:Addr} (h:Sg c H y):Sg c H' y:=let ⟨a,d,m,h,r⟩:=h; ⟨a,d,m,h.kp s.kp,r⟩
theorem Md.keep {H H':Hp} (k:∀ b xs,H b=some (.tup xs)->H' b=some (.tup xs)) {t:Addr} (h:Md H t):Md H' t:=let ⟨s,a,b⟩:=h; ⟨s,a.keep k,b⟩
def Ni (K:PySem.W.Frag):Sp:=fun vs H Q _=>∃ (a:Addr) (ns:List Int) (m:Int),vs=[.ref a,.int m] /\ bO K H a (ns.map V.int) /\ 1 <= m /\ m <= 6 /\ ∀ (l:Addr) (ts:List Addr) (H':Hp),aN H H'->H' l=some (.lst (ts.map V.ref))->(∀ t ∈ ts,Md H' t)->(ts.length:Int)=m->Q (.ref l) H'
def NQ (c:Cs) (Pt:Addr) (lp:Pos):Sp:=fun vs H Q _=>∃ (l:Addr) (ts:List Addr),vs=[.ref l] /\ H l=some (.lst (ts.map V.ref)) /\ (∀ t ∈ ts,Md H t) /\ 1 <= ts.length /\ ts.length <= 6 /\ eX Pt lp kY H ∧
 ∀ (r:Addr) (ys:List Addr) (H':Hp),cA Pt H H'->eX Pt lp kY H'->H' r=some (.lst (ys.map V.ref))->ys.length=ts.length->(∀ y ∈ ys,Sg c H' y)->Q (.ref r) H'
theorem Bq {e:Addr->Bool}:∀ {ts:List Addr}{i:Nat}{a:Addr},ts[i]? = some a->e a=true->∃ j b,ts[j]? = some b /\ e b=true /\ j <= i /\ ∀ m c,m < j->ts[m]? = some c->e c=false
 | [],i,a,h,_=>by simp at h
 | t :: ts,i,a,h,ha=>by
  cases et:e t with
  | true=>exact ⟨0,t,rfl,et,Nat.zero_le _,fun m c hm=>absurd hm (Nat.not_lt_zero _)⟩
  | false =>
   match i,h with
   | 0,h=>cases h; rw [et] at ha; cases ha
   | i + 1,h =>
    obtain ⟨j,b,h1,h2,h3,h4⟩:=Bq (ts:=ts) (i:=i) h ha
    refine ⟨j + 1,b,h1,h2,by omega,fun m c hm hc=>?_⟩
    match m,hc,hm with
    | 0,hc,_=>cases hc; exact et
    | m + 1,hc,hm=>exact h4 m c (by omega) hc
theorem WW {K:PySem.W.Frag}{H:Hp}{ts:List Addr} (h:∀ t ∈ ts,Md H t) {t:Addr} (ht:t ∈ ts):∃ e:Addr->Bool,(∀ a ∈ ts,DE K H 13 (.ref a) (.ref t) (e a)) /\ e t=true:=by
 have each:∀ a,∃ k,(a ∈ ts->DE K H 13 (.ref a) (.ref t) k) /\ (a=t->k=true):=fun a=>by
  by_cases e:a=t
  ·subst e
   obtain ⟨s,to,ok⟩:=h a ht
   obtain ⟨k,de,hk⟩:=K4 (K:=K) ok to to (Nat.le_refl 13)
   exact ⟨k,fun _=>de,fun _=>hk.mpr rfl⟩
  ·by_cases ha:a ∈ ts
   ·obtain ⟨s,to,ok⟩:=h a ha
    obtain ⟨s2,to2,ok2⟩:=h t ht
    obtain ⟨k,de,hk⟩:=K4 (K:=K) ok to to2 (Nat.le_refl 13)
    exact ⟨k,fun _=>de,fun z=>absurd z e⟩
   ·exact ⟨false,fun z=>absurd z ha,fun z=>absurd z e⟩
 exact ⟨fun a=>Classical.choose (each a),fun a ha=>(Classical.choose_spec (each a)).1 ha,(Classical.choose_spec (each t)).2 rfl⟩
structure tU (H:Hp) (r:Addr) (q:Ca) (r1 r2 r3 r6:Addr) (ts:List Addr):Prop where
 hr:H r=some (.lst [.ref r1,.ref r2,.ref r3,.int q.sp,.int (Yi q),.ref r6])
 h1:H r1=some (.lst (ts.map V.ref))
 tl:ts.length=q.ss.length
 to:∀ (i:Nat) t s,ts[i]? = some t->q.ss[i]? = some s->gQ H t s.1
 h2:H r2=some (.lst q.ls)
 h3:H r3=some (.lst ((rR q).map V.int))
 h6:H r6=some (.lst (q.ds.map V.ref))
def JD (c:Cs) (cC:Addr):Sp:=fun vs H Q _=>∃ (x:Addr) (q:Ca),vs=[.ref x,.int (q.ys.length:Int)] /\ iH c cC H x q /\ ∀ (r r1 r2 r3 r6:Addr) (ts:List Addr) (H':Hp),aN H H'->tU H' r q r1 r2 r3 r6 ts->Q (.ref r) H'
def KQ (K:PySem.W.Frag) (c:Cs) (cC:Addr):Sp:=fun vs H Q _=>∃ (x a:Addr) (ns:List Int) (q:Ca),vs=[.ref x,.ref a,.int (q.ys.length:Int)] /\ iH c cC H x q /\ bO K H a (ns.map V.int) /\ q.ds=[] /\ ns.length <= 60 /\ ∀ (x2:Addr) (q2:Ca) (H':Hp),aN H H'->iH c cC H' x2 q2->q2.ys.length=q.ys.length->Q (.ref x2) H'
def Nf:Sp:=fun vs H Q _=>∃ (cc m:Int),vs=[.int cc,.int m] /\ 1 <= m /\ m <= 1000 /\ ∀ (v:V) (H':Hp),aN H H'->fO H' 0 (m - 1) v false->Q v H'
theorem p20:Od 10 20:=⟨by decide,by decide,by decide⟩
theorem GX {q:Ca}{b:Nat} (h:b < q.ys.length):ZV (.int (b:Int)) ((rR q).map V.int)=q.bs.getD b false:=by
 apply Bool.eq_iff_iff.mpr
 unfold ZV
 rw [List.any_eq_true]
 constructor
 ·rintro ⟨y,hy,e⟩
  obtain ⟨z,hz,rfl⟩:=List.mem_map.mp hy
  obtain ⟨i,hi,rfl⟩:=List.mem_map.mp hz
  have e:((Int.ofNat i) == (b:Int))=true:=e
  have e2:Int.ofNat i=(b:Int):=by simpa using e
  have e3:i=b:=Int.ofNat.inj e2
  subst e3
  exact (List.mem_filter.mp hi).2
 ·intro e
  exact ⟨.int b,List.mem_map.mpr ⟨b,List.mem_map.mpr ⟨b,List.mem_filter.mpr ⟨List.mem_range.mpr h,e⟩,rfl⟩,rfl⟩,by show ((b:Int) == (b:Int))=true; simp⟩
theorem wQ (q:Ca):((rR q).map V.int).all pR=true:=List.all_eq_true.mpr fun v hv=>by
 obtain ⟨z,_,rfl⟩:=List.mem_map.mp hv
 rfl
theorem fO.low {H:Hp}{lo hi i:Int} (h:i < lo):fO H lo hi (.int i) false:=by
 have z:=fO.int (H:=H) (lo:=lo) (hi:=hi) i
 rw [decide_eq_false (show ¬ lo <= i by omega),Bool.false_and] at z
 exact z
theorem fO.high {H:Hp}{lo hi i:Int} (h:hi < i):fO H lo hi (.int i) false:=by
 have z:=fO.int (H:=H) (lo:=lo) (hi:=hi) i
 rw [decide_eq_false (show ¬ i <= hi by omega),Bool.and_false] at z
 exact z
theorem Ho {n:Nat} (h:n < 1024):n.log2 < 1920:=by
 by_cases z:n=0
 ·rw [z]; decide
 ·exact (Nat.log2_lt z).mpr (Nat.lt_of_lt_of_le (show n < 2 ^ 10 from h) (Nat.pow_le_pow_right (by decide) (by decide)))
theorem Jj {K:PySem.W.Frag}{H:Hp}{a b:Addr}{bs:List Bool} (h1:H a=some (.lst (bs.map V.bl))) (h2:H b=some (.lst (bs.map V.bl))):DE K H 1 (.ref a) (.ref b) true:=by
 have d:=DE.lst (K:=K) (n:=0) (fun _=>true) (bO.of h1) (bO.of h2) rfl (fun j x y hx hy=>by
  rw [hx] at hy
  cases hy
  rw [List.getElem?_map] at hx
  cases e:bs[j]? with
  | none=>rw [e] at hx; cases hx
  | some c =>
   rw [e] at hx
   cases hx
   have h:=DE.bl (K:=K) (H:=H) 0 c c
   rw [beq_self_eq_true] at h
   exact h)
 have e:(List.range (bs.map V.bl).length).all (fun _=>true)=true:=by simp
 rw [e] at d
 exact d
structure rD (K:PySem.W.Frag) (C:Addr) (cs:List Addr) (nb:Int):Prop where
 xt:My K C
 ve:PySem.W.kitOne K (.ref C) (.type "ValueError")=some true
 ks:∀ (i:Nat) (c:Addr),cs[i]? = some c->PySem.W.kitOne K (.ref C) (.ref c)=some (decide ((i:Int)=nb))
def Iw (K:PySem.W.Frag) (cs:List Addr):Sp:=fun vs H Q _=>∃ (a C:Addr) (nb:Int),vs=[.ref a,.int nb] /\ H a=some (.ext (Ah a (.ref C))) /\ rD K C cs nb /\ ∀ H',aN H H'->Q (.bl true) H'
def Nx (c:Cs) (cC C:Addr):Sp:=fun vs H Q _=>∃ (x:Addr) (w:Int) (v r:V) (q:Ca),vs=[.ref x,.int w,v,r] /\ iH c cC H x q ∧
 (fO H 0 ((q.ys.length:Int) - 1) v false ∨
  (w=4 /\ ∃ (i:Nat),v = .int i /\ ((∃ (p:Int) (rs:List (Int × Sd.Sd)) (d m:Nat),q.ss[i]? = some (.st p rs,d,m)) ∨ q.bs[i]? = some true)) ∨
  (w=5 /\ ∃ (i:Nat),v = .int i /\ ((∃ (u:Int) (d m:Nat),q.ss[i]? = some (.en u,d,m)) ∨ ∃ (p:Int) (rs:List (Int × Sd.Sd)) (d m:Nat),q.ss[i]? = some (.st p rs,d,m) /\ fO H 0 ((rs.length:Int) - 1) r false))) ∧
 ∀ (a:Addr) (H':Hp),aN H H'->H' a=some (.ext (Ah a (.ref C)))->Q (.ref a) H'
theorem tG (x y:Int):decide (V.int x=V.int y)=decide (x=y):=by
 by_cases h:x=y
 ·rw [h,decide_eq_true rfl,decide_eq_true rfl]
 ·rw [decide_eq_false h,decide_eq_false (fun z=>h (by injection z))]
theorem FW {c:Cs}{K:PySem.W.Frag}{H:Hp}{a:Addr}{us zs:List V}{v:V} (e:H a=some (.lst (us ++ [v] ++ zs))) (hu:∀ x ∈ us,sS c K H x true) (hz:∀ x ∈ zs,sS c K H x true) (hv:sS c K H v false):oW c K H (.ref a) false:=by
 have hl:(us ++ [v] ++ zs).length=us.length + 1 + zs.length:=by simp; omega
 by_cases h6:us.length + 1 + zs.length <= 6
 ·have z:=oW.all (c:=c) (K:=K) (bs:=List.replicate us.length true ++ [false] ++ List.replicate zs.length true) e (by omega) (by omega) (by simp) fun i x hx=>by
   by_cases h1:i < us.length
   ·rw [List.append_assoc,List.getElem?_append_left h1] at hx
    have e2:(List.replicate us.length true ++ [false] ++ List.replicate zs.length true).getD i false=true:=by
     rw [List.append_assoc]
     simp [List.getD,List.getElem?_append_left,h1]
    rw [e2]
    exact hu x (List.mem_of_getElem? hx)
   ·by_cases h2:i=us.length
    ·subst h2
     rw [List.append_assoc,List.getElem?_append_right (Nat.le_refl _),Nat.sub_self] at hx
     cases hx
     have e2:(List.replicate us.length true ++ [false] ++ List.replicate zs.length true).getD us.length false=false:=by
      rw [List.append_assoc]
      simp [List.getD]
     rw [e2]
     exact hv
    ·have hx2:zs[i - us.length - 1]? = some x:=by
      rw [List.append_assoc,List.getElem?_append_right (by omega)] at hx
      obtain ⟨k,hk⟩ : ∃ k,i - us.length=k + 1:=⟨i - us.length - 1,by omega⟩
      rw [hk] at hx ⊢
      exact hx
     have hi:=(List.getElem?_eq_some_iff.mp hx2).1
     have e2:(List.replicate us.length true ++ [false] ++ List.replicate zs.length true).getD i false=true:=by
      obtain ⟨k,hk⟩ : ∃ k,i=us.length + (k + 1):=⟨i - us.length - 1,by omega⟩
      subst hk
      rw [List.append_assoc]
      have hk2:k < zs.length:=by omega
      simp [List.getD,List.getElem?_append_right,hk2]
     rw [e2]
     exact hz x (List.mem_of_getElem? hx2)
  have e2:(List.replicate us.length true ++ [false] ++ List.replicate zs.length true).all id=false:=by simp
  rw [e2] at z
  exact z
 ·exact .len e (by omega)
def Fz (c:Cs) (cC C:Addr):Sp:=fun vs H Q _=>∃ (x:Addr) (cc:Int) (q:Ca),vs=[.ref x,.int cc,.int (q.ys.length:Int)] /\ iH c cC H x q /\ ∀ (a:Addr) (H':Hp),aN H H'->H' a=some (.ext (Ah a (.ref C)))->Q (.ref a) H'
def O1 (c:Cs) (C:Addr):Sp:=fun vs H Q _=>∃ (cc:Int) (l:Addr) (ys:List Addr),vs=[.int cc,.ref l] /\ H l=some (.lst (ys.map V.ref)) /\ 1 <= ys.length /\ ys.length <= 6 /\ (∀ y ∈ ys,Sg c H y) /\ ∀ (a:Addr) (H':Hp),aN H H'->H' a=some (.ext (Ah a (.ref C)))->Q (.ref a) H'
end TD
namespace TD
open PySem PySem.Spec PyProof.Rows L2
theorem CN.of {K:PySem.W.Frag}{c:Cs} (h:(["tuple","int","NoneType","str","list"].map fun T=>(PySem.W.kitOne K (.type T) (.ref c.e),PySem.W.kitOne K (.type T) (.ref c.s)))=List.replicate 5 (some false,some false)) (t:PySem.W.kitOne K (.ref c.e) (.type "tuple")=some false):CN K c :=
 ⟨fun T hT=>by
  have:=List.mem_map_of_mem (f:=fun T=>(PySem.W.kitOne K (.type T) (.ref c.e),PySem.W.kitOne K (.type T) (.ref c.s))) hT
  rw [h] at this
  have e:=List.eq_of_mem_replicate this
  exact ⟨congrArg (·.1) e,congrArg (·.2) e⟩,t⟩
theorem rD.of {K:PySem.W.Frag}{C:Addr}{cs:List Addr}{nb:Int} (x:My K C) (ve:PySem.W.kitOne K (.ref C) (.type "ValueError")=some true) (h:(cs.map fun c=>PySem.W.kitOne K (.ref C) (.ref c))=(List.range cs.length).map fun (i:Nat)=>some (decide ((i:Int)=nb))):rD K C cs nb :=
 ⟨x,ve,fun i c hc=>by
  have hi:i < cs.length:=(List.getElem?_eq_some_iff.mp hc).1
  have e:=congrArg (·[i]?) h
  simp only [List.getElem?_map,hc,Option.map_some,List.getElem?_range hi] at e
  exact Option.some.inj e⟩
end TD
namespace L2
open PySem PySem.Spec PyProof.Rows
structure Ih (K:PySem.W.Frag) (dT:Addr) (x qual:Str) (st:Stmt) (f:Addr) (fd:FuncData):Prop where
 ex:∃ (oc:Value) (od:Option Addr) (kV doc pm:Value) (an:Option Addr) (cdv ct:Value) (osl:Array (Option Value)),
  fd=PySem.W.fnOf x qual (iD st) (eZ st) (aK st) (.ref dT) kV doc pm an cdv ct /\ K.lookup f=some ⟨oc,od,.func fd,osl⟩ /\ PySem.W.codeIn K cdv qual=true
 kp:PySem.W.keepIn K (.ref f)=true
section
variable {P:Program}{w:World}{K:PySem.W.Frag}{mg:Str->Option Value}{base:Heap}{dT:Addr}
theorem Ih.ok {x qual:Str}{st:Stmt}{f:Addr}{fd:FuncData}{N ps:List Str}{k:Nat}{sp:Sp} (F:Ih K dT x qual st f fd) (S:aO N ps (aK st)) (len:∀ vs H Q E,sp vs H Q E->vs.length=ps.length)
  (hbody:∀ (cdv:Value) (A:Around) (outer:List Env) (s:Shared) (H:Hp) (vs:List V) (Q:VK) (E:XK),fG k (A.deeper (envOfC qual (aK st) s.heap.objs.size f cdv))->sp vs H Q E ->
   ∃ t,oZ (pA dM P w K mg base N qual (aK st) f cdv A outer s H E).nox (eZ st) t /\ t { nx:=fun _ H'=>Q .non H',rt:=Q } (start N vs) H):aP P w K mg base dM (k + 1) f fd ps sp:=by
 obtain ⟨oc,od,kV,doc,pm,an,cdv,ct,osl,rfl,lk,hcd⟩:=F.ex
 refine Ey lk hcd S len fun A outer s H vs Q E hr hsp=>?_
 obtain ⟨t,h,q⟩:=hbody cdv A outer s H vs Q E hr hsp
 exact ⟨t,oZ.nox h,q⟩
theorem Ms {x qual:Str}{st:Stmt}{f:Addr}{oc:Value}{od an:Option Addr}{osl:Array (Option Value)}{kV doc pm cdv ct:Value} (l:K.lookup f=some ⟨oc,od,.func (PySem.W.fnOf x qual (iD st) (eZ st) (aK st) (.ref dT) kV doc pm an cdv ct),osl⟩)
  (c:PySem.W.codeIn K cdv qual=true) (k:PySem.W.keepIn K (.ref f)=true):Ih K dT x qual st f (PySem.W.fnOf x qual (iD st) (eZ st) (aK st) (.ref dT) kV doc pm an cdv ct):=⟨⟨oc,od,kV,doc,pm,an,cdv,ct,osl,rfl,l,c⟩,k⟩
end
end L2
namespace L2
open PySem PySem.Spec PySem.Calls PyProof.Rows
section
variable {X:Cx}
end
end L2
namespace L2
open PySem PySem.Spec PyProof.Rows
theorem cZ {X:Cx}{K:PySem.W.Frag} (h:X.K=K):iM X (.type "tuple") (fun xs H Q=>∃ p ys,xs=[.ref p] /\ ((bO K H p ys /\ ∀ l,H l=none->Q (.ref l) (aU H l (.tup ys))) ∨ (cN K H p ys /\ Q (.ref p) H))):=by subst h; exact vX
end L2
namespace L2
open PySem PySem.Spec PyProof.Rows
structure QE (X:Cx) (e:Expr) (t:TE):Prop where
 h:PE X e t
structure QT (X:Cx) (e:Expr) (t:TT):Prop where
 h:PT X e t
structure QA (X:Cx) (es:List Expr) (t:TA):Prop where
 h:PA X es t
structure QO (X:Cx) (e:Option Expr) (t:TO):Prop where
 h:PO X e t
structure QP (X:Cx) (pos:Pos) (ks:List (Option Expr)) (vs:List Expr) (trs:List (TE × TE)):Prop where
 h:PPs X pos ks vs trs
structure QS (X:Cx) (st:Stmt) (t:TS):Prop where
 h:PS X st t
structure QSs (X:Cx) (st:List Stmt) (t:TS):Prop where
 h:oZ X st t
section
variable {X:Cx}{pos pos' p p2:Pos}{e a b:Expr}{es:List Expr}{te ta tb:TE}{t:TA}{x:Str}{st:Stmt}{j4:List Stmt}{ts us:TS}
theorem qv (i:Nat) {x:Str}{pos:Pos} (hN:X.N[i]? = some x:=by rfl) (hv:ZS X.env.scope x:=by first | exact Or.inl rfl | exact Or.inr (Or.inl rfl) | exact Or.inr (Or.inr rfl)) (hd:(x == ("__debug__" : Str))=false:=by decide)
  (hcd:(x == ("__classdict__" : Str))=false:=by decide):QE X (.Name x pos) (HN i):=⟨Ik hN hv hd hcd⟩
end
end L2
namespace L2
open PySem PySem.Spec PyProof.Rows
structure QW (X:Cx) (e:Expr) (t:TT):Prop where
 h:PW X e t
section
variable {X:Cx}{CX:zT}{k n:Nat}{f C:Addr}{fd:FuncData}{ps:List Str}{sp:Sp}{dvs:List V}{ds:List Value}{E:XK}{x m name:Str}{p pos apos cpos:Pos}{a b e o:Expr}{es j4:List Expr}{ta tb te to:TE}{t:TA}{tA tB':TT}{T id:String}{r:V->List V->Hp->VK->Prop}
theorem QW.qt (h:QW X e tA):QT X e tA:=⟨PW.pt h.h⟩
end
end L2
namespace K22
open PySem L2 TD
def top (i:Nat):Stmt:=PySem.Challenge.pw_lidprice_k22_cases_refused.main.body.getD i (.Pass ⟨0,0,0,0⟩)
def iJ:Pos:=⟨67,30,67,72⟩
theorem rO:aO ["thing","least","most"] ["thing","least","most"] (aK (top 15)):=⟨rfl,rfl,rfl,by decide +kernel,rfl,by decide +kernel,by decide +kernel⟩
theorem jN:aO ["one","other","rest"] ["one","other"] (aK (top 16)):=⟨rfl,rfl,rfl,by decide +kernel,rfl,by decide +kernel,by decide +kernel⟩
theorem iZ:aO ["numbers","multiple","number"] ["numbers"] (aK (top 17)):=⟨rfl,rfl,rfl,by decide +kernel,rfl,by decide +kernel,by decide +kernel⟩
theorem Br:aO ["top","bottom","divisor"] ["top","bottom"] (aK (top 18)):=⟨rfl,rfl,rfl,by decide +kernel,rfl,by decide +kernel,by decide +kernel⟩
theorem CP:aO ["number"] ["number"] (aK (top 19)):=⟨rfl,rfl,rfl,by decide +kernel,rfl,by decide +kernel,by decide +kernel⟩
theorem Ao:aO ["one","other"] ["one","other"] (aK (top 20)):=⟨rfl,rfl,rfl,by decide +kernel,rfl,by decide +kernel,by decide +kernel⟩
theorem wZ:aO ["one","other"] ["one","other"] (aK (top 21)):=⟨rfl,rfl,rfl,by decide +kernel,rfl,by decide +kernel,by decide +kernel⟩
theorem xH:aO ["worths","most","scale"] ["worths"] (aK (top 25)):=⟨rfl,rfl,rfl,by decide +kernel,rfl,by decide +kernel,by decide +kernel⟩
theorem uK:aO ["rows","weights","worth","weight","divisor"] ["rows"] (aK (top 26)):=⟨rfl,rfl,rfl,by decide +kernel,rfl,by decide +kernel,by decide +kernel⟩
theorem mC:aO ["table"] ["table"] (aK (top 27)):=⟨rfl,rfl,rfl,by decide +kernel,rfl,by decide +kernel,by decide +kernel⟩
theorem xA:aO ["table","level"] ["table","level"] (aK (top 30)):=⟨rfl,rfl,rfl,by decide +kernel,rfl,by decide +kernel,by decide +kernel⟩
theorem Cm:aO ["rows","scale","parts","weight","table","factor"] ["rows"] (aK (top 31)):=⟨rfl,rfl,rfl,by decide +kernel,rfl,by decide +kernel,by decide +kernel⟩
theorem o8:aO ["table","price","bottom","tops","weights","worth","weight","top"] ["table","price"] (aK (top 32)):=⟨rfl,rfl,rfl,by decide +kernel,rfl,by decide +kernel,by decide +kernel⟩
theorem rG:aO ["thing"] ["thing"] (aK (top 42)):=⟨rfl,rfl,rfl,by decide +kernel,rfl,by decide +kernel,by decide +kernel⟩
theorem lJ:aO ["row"] ["row"] (aK (top 43)):=⟨rfl,rfl,rfl,by decide +kernel,rfl,by decide +kernel,by decide +kernel⟩
theorem j5:aO ["rows"] ["rows"] (aK (top 44)):=⟨rfl,rfl,rfl,by decide +kernel,rfl,by decide +kernel,by decide +kernel⟩
theorem oH:aO ["boxes"] ["boxes"] (aK (top 45)):=⟨rfl,rfl,rfl,by decide +kernel,rfl,by decide +kernel,by decide +kernel⟩
theorem nZ:aO ["things","place","thing"] ["things","place","thing"] (aK (top 47)):=⟨rfl,rfl,rfl,by decide +kernel,rfl,by decide +kernel,by decide +kernel⟩
theorem lM:aO ["_law_script","_law_k"] ["_law_script","_law_k"] (aK (top 50)):=⟨rfl,rfl,rfl,by decide +kernel,rfl,by decide +kernel,by decide +kernel⟩
theorem oG:aO ["_law_cell","_law_k","_law_number"] ["_law_cell","_law_k"] (aK (top 51)):=⟨rfl,rfl,rfl,by decide +kernel,rfl,by decide +kernel,by decide +kernel⟩
theorem pP:aO ["_law_script","_law_k"] ["_law_script","_law_k"] (aK (top 52)):=⟨rfl,rfl,rfl,by decide +kernel,rfl,by decide +kernel,by decide +kernel⟩
theorem pL:aO ["_law_left_here","_law_many","_law_number"] ["_law_left_here","_law_many"] (aK (top 53)):=⟨rfl,rfl,rfl,by decide +kernel,rfl,by decide +kernel,by decide +kernel⟩
theorem pM:aO ["_law_stand"] ["_law_stand"] (aK (top 54)):=⟨rfl,rfl,rfl,by decide +kernel,rfl,by decide +kernel,by decide +kernel⟩
theorem oA:aO ["_law_left_here","_law_level","_law_most","_law_price","_law_rows","_law_many","_law_row","_law_weight","_law_room"] ["_law_left_here","_law_level","_law_most"] (aK (top 55)):=⟨rfl,rfl,rfl,by decide +kernel,rfl,by decide +kernel,by decide +kernel⟩
theorem mH:aO ["_law_model_here"] ["_law_model_here"] (aK (top 56)):=⟨rfl,rfl,rfl,by decide +kernel,rfl,by decide +kernel,by decide +kernel⟩
theorem mD:aO ["_law_script","_law_many","_law_left_here","_law_models_here"] ["_law_script","_law_many"] (aK (top 57)):=⟨rfl,rfl,rfl,by decide +kernel,rfl,by decide +kernel,by decide +kernel⟩
theorem oN:aO ["_law_models_here","_law_boxes_here","_law_k","_law_first"] ["_law_models_here"] (aK (top 58)):=⟨rfl,rfl,rfl,by decide +kernel,rfl,by decide +kernel,by decide +kernel⟩
theorem rC:aO ["_law_cell","_law_many","_law_number","_law_some"] ["_law_cell","_law_many"] (aK (top 59)):=⟨rfl,rfl,rfl,by decide +kernel,rfl,by decide +kernel,by decide +kernel⟩
theorem pQ:aO ["_law_caught_here","_law_number","_law_kinds"] ["_law_caught_here","_law_number"] (aK (top 60)):=⟨rfl,rfl,rfl,by decide +kernel,rfl,by decide +kernel,by decide +kernel⟩
theorem mK:aO ["_law_case","_law_way","_law_box","_law_row","_law_caught_here","e"] ["_law_case","_law_way","_law_box","_law_row"] (aK (top 61)):=⟨rfl,rfl,rfl,by decide +kernel,rfl,by decide +kernel,by decide +kernel⟩
theorem oR:aO ["_law_case","_law_cell","_law_many","_law_box","_law_way","_law_rows"] ["_law_case","_law_cell","_law_many"] (aK (top 62)):=⟨rfl,rfl,rfl,by decide +kernel,rfl,by decide +kernel,by decide +kernel⟩
theorem pI:aO ["_law_case","_law_cells","_law_many","_law_cell","_law_box"] ["_law_case","_law_cells","_law_many"] (aK (top 63)):=⟨rfl,rfl,rfl,by decide +kernel,rfl,by decide +kernel,by decide +kernel⟩
theorem pC:aO ["_law_case","_law_many","_law_stands"] ["_law_case","_law_many"] (aK (top 64)):=⟨rfl,rfl,rfl,by decide +kernel,rfl,by decide +kernel,by decide +kernel⟩
theorem j8:aO ["_law_cell","_law_boxes_here","_law_some","_law_caught_here","e"] ["_law_cell","_law_boxes_here"] (aK (top 65)):=⟨rfl,rfl,rfl,by decide +kernel,rfl,by decide +kernel,by decide +kernel⟩
theorem Ks:aO ["_law_script","_law_many","_law_boxes_here","_law_case","_law_due","_law_cell"] ["_law_script"] (aK (top 66)):=⟨rfl,rfl,rfl,by decide +kernel,rfl,by decide +kernel,by decide +kernel⟩
theorem jM:aO ["self","end_count","stage_count","level","cap_rows"] ["self","end_count","stage_count","level","cap_rows"] (aK (aD (top 39) 0)):=⟨rfl,rfl,rfl,by decide +kernel,rfl,by decide +kernel,by decide +kernel⟩
theorem oU:aO ["self"] ["self"] (aK (aD (top 39) 1)):=⟨rfl,rfl,rfl,by decide +kernel,rfl,by decide +kernel,by decide +kernel⟩
theorem lK:aO ["self"] ["self"] (aK (aD (top 39) 2)):=⟨rfl,rfl,rfl,by decide +kernel,rfl,by decide +kernel,by decide +kernel⟩
theorem j6:aO ["self"] ["self"] (aK (aD (top 39) 3)):=⟨rfl,rfl,rfl,by decide +kernel,rfl,by decide +kernel,by decide +kernel⟩
theorem oM:aO ["self"] ["self"] (aK (aD (top 39) 4)):=⟨rfl,rfl,rfl,by decide +kernel,rfl,by decide +kernel,by decide +kernel⟩
theorem lL:aO ["self","worth"] ["self","worth"] (aK (aD (top 40) 0)):=⟨rfl,rfl,rfl,by decide +kernel,rfl,by decide +kernel,by decide +kernel⟩
theorem oE:aO ["self"] ["self"] (aK (aD (top 40) 1)):=⟨rfl,rfl,rfl,by decide +kernel,rfl,by decide +kernel,by decide +kernel⟩
theorem rM:aO ["self"] ["self"] (aK (aD (top 40) 4)):=⟨rfl,rfl,rfl,by decide +kernel,rfl,by decide +kernel,by decide +kernel⟩
theorem jO:aO ["self","price","rows","end_count","stage_count","behind","level"] ["self","price","rows"] (aK (aD (top 41) 0)):=⟨rfl,rfl,rfl,by decide +kernel,rfl,by decide +kernel,by decide +kernel⟩
theorem lO:aO ["self"] ["self"] (aK (aD (top 41) 1)):=⟨rfl,rfl,rfl,by decide +kernel,rfl,by decide +kernel,by decide +kernel⟩
theorem mJ:aO ["self","row"] ["self","row"] (aK (aD (top 41) 3)):=⟨rfl,rfl,rfl,by decide +kernel,rfl,by decide +kernel,by decide +kernel⟩
theorem oJ:aO ["self"] ["self"] (aK (aD (top 41) 6)):=⟨rfl,rfl,rfl,by decide +kernel,rfl,by decide +kernel,by decide +kernel⟩
theorem kI:aO ["self","boxes"] ["self","boxes"] (aK (aD (top 48) 0)):=⟨rfl,rfl,rfl,by decide +kernel,rfl,by decide +kernel,by decide +kernel⟩
theorem jT:aO ["self"] ["self"] (aK (aD (top 48) 1)):=⟨rfl,rfl,rfl,by decide +kernel,rfl,by decide +kernel,by decide +kernel⟩
theorem jZ:aO ["self","box"] ["self","box"] (aK (aD (top 48) 2)):=⟨rfl,rfl,rfl,by decide +kernel,rfl,by decide +kernel,by decide +kernel⟩
theorem oO:aO ["self","box"] ["self","box"] (aK (aD (top 48) 3)):=⟨rfl,rfl,rfl,by decide +kernel,rfl,by decide +kernel,by decide +kernel⟩
theorem rB:aO ["self","box"] ["self","box"] (aK (aD (top 48) 4)):=⟨rfl,rfl,rfl,by decide +kernel,rfl,by decide +kernel,by decide +kernel⟩
theorem o6:aO ["self"] ["self"] (aK (aD (top 48) 5)):=⟨rfl,rfl,rfl,by decide +kernel,rfl,by decide +kernel,by decide +kernel⟩
theorem pF:aO ["self"] ["self"] (aK (aD (top 48) 6)):=⟨rfl,rfl,rfl,by decide +kernel,rfl,by decide +kernel,by decide +kernel⟩
theorem rQ:aO ["self"] ["self"] (aK (aD (top 48) 7)):=⟨rfl,rfl,rfl,by decide +kernel,rfl,by decide +kernel,by decide +kernel⟩
theorem oK:aO ["self"] ["self"] (aK (aD (top 48) 8)):=⟨rfl,rfl,rfl,by decide +kernel,rfl,by decide +kernel,by decide +kernel⟩
theorem pO:aO ["self","box","table","cap"] ["self","box"] (aK (aD (top 48) 9)):=⟨rfl,rfl,rfl,by decide +kernel,rfl,by decide +kernel,by decide +kernel⟩
theorem p6:aO ["self","box","cap"] ["self","box"] (aK (aD (top 48) 10)):=⟨rfl,rfl,rfl,by decide +kernel,rfl,by decide +kernel,by decide +kernel⟩
theorem mU:aO ["self","deed","case"] ["self","deed"] (aK (aD (top 48) 12)):=⟨rfl,rfl,rfl,by decide +kernel,rfl,by decide +kernel,by decide +kernel⟩
theorem mO:aO ["self","box","row","stage","cap","lower","case"] ["self","box","row"] (aK (aD (top 48) 13)):=⟨rfl,rfl,rfl,by decide +kernel,rfl,by decide +kernel,by decide +kernel⟩
theorem oF:aO ["self","box","case"] ["self","box"] (aK (aD (top 48) 14)):=⟨rfl,rfl,rfl,by decide +kernel,rfl,by decide +kernel,by decide +kernel⟩
end K22
namespace K22
open PySem L2 TD
open Builtin.Int (intBits)
section
variable {P:Program}{w:World}{K:PySem.W.Frag}{mg:Str->Option Value}{base:Heap}{Pt:Addr}
theorem pJ {n:Nat}{f:Addr}{fd:FuncData} (F:eN K "common_divisor" "common_divisor" (top 16) f fd) (z_abs:mg "abs" = none):aP P w K mg base dM (n + 1) f fd ["one","other"] Ml:=by
 refine F.ok jN (fun vs H Q E h=>?_) (fun cdv A outer s H vs Q E hr h=>?_)
 ·obtain ⟨a,b,rfl,_⟩:=h
  rfl
 obtain ⟨a,b,rfl,q⟩:=h
 have nd:=jN.nd
 refine ⟨_,(aG (Ig PassesOwn.never (bZ Nt (pv 1) aH (cO _)) (aG (aV (i:=2) nd rfl (Or.inl rfl) (aQ Mr (pv 0) (pv 1))) (aG (aV (i:=0) nd rfl (Or.inl rfl) (pv 1)) (aJ (aV (i:=1) nd rfl (Or.inl rfl) (pv 2)))))) (aJ (aW (bB JT rfl z_abs Q9 (aA (pv 0) aC))))),?_⟩
 refine Jv (fun σ H'=>∃ x y r,σ = [some (.int x),some (.int y),r] /\ Int.gcd x y=Int.gcd a b /\ H'=H) (fun σ _=>match σ with | [_,some (.int y),_]=>y.natAbs | _=>0) ⟨a,b,none,rfl,rfl,rfl⟩ (fun σ H' ⟨x,y,r,e,hg,eH⟩=>?_) (fun σ H Q Q' hQ ⟨v,e,hs,k,ek,q⟩=>⟨v,e,hs,k,ek,hQ _ _ q⟩)
 subst e eH
 refine ⟨_,rfl,rfl,_,rfl,?_⟩
 by_cases hy:y=0
 ·subst hy
  refine uB (by simp) ?_
  refine ⟨_,rfl,_,rfl,?_⟩
  have e:(if x < 0 then -x else x)=((Int.gcd a b:Nat):Int):=by
   rw [<- hg,Int.gcd_zero]
   split <;> omega
  rw [e]
  exact q
 ·refine CV (by simp [hy]) ?_
  refine ⟨_,rfl,_,rfl,x,y,rfl,rfl,hy,?_⟩
  refine ⟨_,rfl,?_⟩
  refine ⟨_,rfl,?_⟩
  exact ⟨⟨y,x.fmod y,_,rfl,(Fr.Jw x y).trans hg,rfl⟩,Fr.Hx hy⟩
theorem J0 {n:Nat}{f:Addr}{fd:FuncData} (F:eN K "share" "share" (top 18) f fd) {g_common_divisor:Addr}{gd_common_divisor:FuncData} (c_common_divisor:gG P w K mg base n "common_divisor" ["one","other"] Ml g_common_divisor gd_common_divisor):aP P w K mg base dM (n + 1) f fd ["top","bottom"] yQ:=by
 refine F.ok Br (fun vs H Q E h=>?_) (fun cdv A outer s H vs Q E hr h=>?_)
 ·obtain ⟨t,b,rfl,_⟩:=h
  rfl
 obtain ⟨t,b,rfl,hb,hz,q⟩:=h
 have nd:=Br.nd
 refine ⟨_,(aG (aV (i:=2) nd rfl (Or.inl rfl) (aM c_common_divisor hr (aA (pv 0) (aA (pv 1) aC)))) (aG (dO (bZ Bo (pv 1) aH (cO _)) (aJ (aV (i:=2) nd rfl (Or.inl rfl) (Jb Ek (pv 2)))) bY) (aJ (aW (eU (aA (aQ jA (pv 0) (pv 2)) (aA (aQ jA (pv 1) (pv 2)) aC))))))),?_⟩
 have hdz:intBits (Fr.dv t b) <= 9000:=PySem.intBits_le_of_natAbs (by rw [Fr.qJ]; exact Int.gcd_le_natAbs_right t hb) hz
 have hdn:=Fr.NZ (t:=t) hb
 refine ⟨_,rfl,_,rfl,t,b,rfl,?_⟩
 refine ⟨_,rfl,_,_,rfl,rfl,_,rfl,?_⟩
 refine nW (fun c=>?_) (fun c=>?_)
 ·have e:-((Int.gcd t b:Nat):Int)=Fr.dv t b:=by unfold Fr.dv; rw [if_pos (of_decide_eq_true c)]
  unfold Fr.sh at q
  rw [<- e] at q hdz hdn
  refine ⟨_,rfl,_,rfl,?_⟩
  refine ⟨_,rfl,_,rfl,_,_,rfl,rfl,⟨hdn,hdz⟩,_,rfl,_,rfl,_,_,rfl,rfl,⟨hdn,hdz⟩,vY,fun p hp=>?_⟩
  exact q p _ (aF hp _) aB
 ·have e:((Int.gcd t b:Nat):Int)=Fr.dv t b:=by unfold Fr.dv; rw [if_neg (of_decide_eq_false (Bool.eq_false_iff.mpr c))]
  unfold Fr.sh at q
  rw [<- e] at q hdz hdn
  refine ⟨_,rfl,_,rfl,_,_,rfl,rfl,⟨hdn,hdz⟩,_,rfl,_,rfl,_,_,rfl,rfl,⟨hdn,hdz⟩,vY,fun p hp=>?_⟩
  exact q p _ (aF hp _) aB
theorem oX {n:Nat}{f:Addr}{fd:FuncData} (F:eN K "common_multiple" "common_multiple" (top 17) f fd) {g_common_divisor:Addr}{gd_common_divisor:FuncData} (c_common_divisor:gG P w K mg base n "common_divisor" ["one","other"] Ml g_common_divisor gd_common_divisor):aP P w K mg base dM (n + 1) f fd ["numbers"] (Px K):=by
 refine F.ok iZ (fun vs H Q E h=>?_) (fun cdv A outer s H vs Q E hr h=>?_)
 ·obtain ⟨a,ns,rfl,_⟩:=h
  rfl
 obtain ⟨a,ns,rfl,hS,hp,h9,hz,q⟩:=h
 have nd:=iZ.nd
 refine ⟨_,(aG (aV (i:=1) nd rfl (Or.inl rfl) aH) (aG (lH PassesOwn.never rfl (cV (pv 0)) (bA (i:=2) nd rfl (Or.inl rfl)) (aJ (aV (i:=1) nd rfl (Or.inl rfl) (aQ d7 (pv 1) (aQ jA (pv 2) (aM c_common_divisor hr (aA (pv 1) (aA (pv 2) aC)))))))) (aJ (aW (pv 1))))),?_⟩
 have hl:(ns.map V.int).length=ns.length:=List.length_map _
 refine ⟨_,rfl,a,rfl,⟨_,hS⟩,?_⟩
 refine lU (xs:=ns.map V.int) (fun i σ H'=>∃ r,σ = [some (.ref a),some (.int (dF (ns.take i))),r] /\ H'=H) ⟨none,rfl,rfl⟩ (fun i σ H' _ ⟨r,_,e⟩=>by subst e; exact hS) ?turn ?done
 case turn =>
  rintro i x σ H' hx ⟨r,rfl,rfl⟩
  rw [List.getElem?_map] at hx
  cases e:ns[i]? with
  | none=>rw [e] at hx; cases hx
  | some n =>
   rw [e] at hx
   cases hx
   have hm:=List.mem_of_getElem? e
   have hn:=hp n hm
   have nz:=h9 n hm
   have gz:intBits ((Int.gcd (dF (ns.take i)) n:Nat):Int) <= 9000:=Nat.le_trans (PySem.intBits_le_of_natAbs (y:=n) (by have:=Int.gcd_le_natAbs_right (dF (ns.take i)) (Int.ne_of_gt hn); omega) (Nat.le_refl _)) (by omega)
   have gn:((Int.gcd (dF (ns.take i)) n:Nat):Int) ≠ 0:=by have:=Int.gcd_pos_of_ne_zero_right (dF (ns.take i)) (Int.ne_of_gt hn); omega
   have lb:=w6 (ns.take i)
   have st:=Cz ns i
   refine ⟨_,rfl,_,rfl,_,rfl,_,rfl,dF (ns.take i),n,rfl,_,_,rfl,rfl,⟨gn,gz⟩,_,_,rfl,rfl,gP (m:=200001) (n:=9000) (by omega) (PySem.intBits_fdiv_le nz) (by decide),?_⟩
   refine ⟨some (V.int n),?_,rfl⟩
   rw [List.take_add_one,e]
   show _=[some (V.ref a),some (V.int (dF (ns.take i ++ [n]))),some (V.int n)]
   rw [Gy]
   rfl
 case done =>
  rintro σ H' ⟨r,rfl,rfl⟩
  rw [hl,List.take_length]
  exact ⟨_,rfl,q⟩
theorem Iz {n:Nat}{f:Addr}{fd:FuncData} (F:eN K "whole" "whole" (top 19) f fd):aP P w K mg base dM (n + 1) f fd ["number"] Y9:=by
 refine F.ok CP (fun vs H Q E h=>?_) (fun cdv A outer s H vs Q E hr h=>?_)
 ·obtain ⟨t,rfl,_⟩:=h
  rfl
 obtain ⟨t,rfl,q⟩:=h
 have nd:=CP.nd
 refine ⟨_,(aJ (aW (eU (aA (pv 0) (aA aH aC))))),?_⟩
 refine ⟨_,rfl,vY,fun p hp=>?_⟩
 exact q p _ (aF hp _) aB
theorem Im {n:Nat}{f:Addr}{fd:FuncData} (F:eN K "below" "below" (top 20) f fd):aP P w K mg base dM (n + 1) f fd ["one","other"] (Fd K):=by
 refine F.ok Ao (fun vs H Q E h=>?_) (fun cdv A outer s H vs Q E hr h=>?_)
 ·obtain ⟨p,q,a,b,c,d,rfl,_⟩:=h
  rfl
 obtain ⟨p,q,a,b,c,d,rfl,hp,hq,z,k⟩:=h
 have nd:=Ao.nd
 refine ⟨_,(aJ (aW (pK Bo (aQ d7 (bU eV (pv 0) aH (fun _ _=>rfl)) (bU eV (pv 1) aH (fun _ _=>rfl))) (aQ d7 (bU eV (pv 1) aH (fun _ _=>rfl)) (bU eV (pv 0) aH (fun _ _=>rfl))) (cO _)))),?_⟩
 exact ⟨_,rfl,p,_,_,_,rfl,rfl,hp,rfl,_,rfl,q,_,_,_,rfl,rfl,hq,rfl,_,_,rfl,rfl,gP z.a z.d (by decide),_,rfl,q,_,_,_,rfl,rfl,hq,rfl,_,rfl,p,_,_,_,rfl,rfl,hp,rfl,_,_,rfl,rfl,gP z.c z.b (by decide),_,_,rfl,rfl,k⟩
theorem Hv {n:Nat}{f:Addr}{fd:FuncData} (F:eN K "lesser" "lesser" (top 21) f fd) {g_below:Addr}{gd_below:FuncData} (c_below:gG P w K mg base n "below" ["one","other"] (Fd K) g_below gd_below):aP P w K mg base dM (n + 1) f fd ["one","other"] (Q0 K):=by
 refine F.ok wZ (fun vs H Q E h=>?_) (fun cdv A outer s H vs Q E hr h=>?_)
 ·obtain ⟨p,q,a,b,c,d,rfl,_⟩:=h
  rfl
 obtain ⟨p,q,a,b,c,d,rfl,hp,hq,z,k1,k2⟩:=h
 have nd:=wZ.nd
 refine ⟨_,(aJ (aW (Bm (fK (aM c_below hr (aA (pv 1) (aA (pv 0) aC)))) (pv 1) (pv 0)))),?_⟩
 refine ⟨_,rfl,_,rfl,q,p,c,d,a,b,rfl,hq,hp,⟨z.c,z.d,z.a,z.b⟩,_,rfl,?_⟩
 by_cases cc:c * b < a * d
 ·refine CV (decide_eq_true cc) ?_
  exact ⟨_,rfl,k1 cc⟩
 ·refine uB (decide_eq_false cc) ?_
  exact ⟨_,rfl,k2 cc⟩
theorem Hf {n:Nat}{f c:Addr}{fd:FuncData} (F:eN K "rising" "rising" (top 25) f fd) (hc:fd.code = .ref c) (hC:PySem.W.CodeHd base c Pt) (hB:base.BuiltinsAt mg Pt) (z_sorted:mg "sorted" = none) (z_max:mg "max" = none):aP P w K mg base dM (n + 1) f fd ["worths"] (Kq K Pt iJ):=by
 refine F.okc hc xH (fun vs H Q E h=>?_) (fun A outer s H vs Q E hr h=>?_)
 ·obtain ⟨a,rs,rfl,_⟩:=h
  rfl
 obtain ⟨a,rs,rfl,hS,hne,h64,hrs,nd0,hT,q⟩:=h
 have nd:=xH.nd
 refine ⟨_,(aG (aV (i:=1) nd rfl (Or.inl rfl) (bB (xU rfl) rfl z_max KR (aA (cH (ls:=["worth"]) (M:=["worths","most","scale"]) rfl (bT.of (by rfl)) (NL.of (by rfl)) (cV (pv 0)) (fun _ _ _ _=>⟨(bA (i:=0) (cU (by rfl)) rfl (Or.inl rfl)),cG,(bU (lB (K:=K) rfl) (pv 0) aH (fun _ _=>rfl))⟩)) aC))) (aG (aV (i:=2) nd rfl (Or.inr rfl) (aQ d7 (pv 1) (pv 1))) (aJ (aW (Jh (p:="worth") (M:=["worths","most","scale"]) hr rfl rfl z_sorted rfl hC hB (bT.of (by rfl)) (NL.of (by rfl)) rfl rfl rfl (pv 0) (fun _ _ _ _ _=>(aQ jA (aQ d7 (bU (lB (K:=K) rfl) (pv 0) aH (fun _ _=>rfl)) (pv 3)) (bU (lB (K:=K) rfl) (pv 0) aH (fun _ _=>rfl))))))))),?_⟩
 have hlr:=pH rs
 refine ⟨_,rfl,a,rfl,⟨_,hS⟩,fun D hD=>?_⟩
 refine cM (xs:=lN rs) (fun i τ H'=>∃ v0,τ = [v0,some (.ref a),none,none] /\ aN H H' /\ H' D=some (.lst ((rs.take i).map fun r=>V.int r.b))) ⟨none,rfl,aF hD _,aB⟩ ?keep ?turn ?done
 case keep =>
  rintro i τ H' hi ⟨v0,rfl,hs,_⟩
  exact hs.seq hS
 case turn =>
  rintro i m v τ H' hm hi hv ⟨v0,rfl,hs,hD'⟩
  obtain ⟨x,hx,rfl⟩:=BX hv
  have hr2:=hs _ _ (hrs x (List.mem_of_getElem? hx)).1
  unfold xK
  refine fL ?_
  refine ⟨_,rfl,x.q,_,_,_,rfl,rfl,cN.of hr2,rfl,?_⟩
  refine bH hm hi hD' (by rw [List.length_map]; exact aZ (Nat.le_trans (List.length_take_le _ _) (by omega))) ⟨_,rfl,hs.upd_new hD _,?_⟩
  rw [aB,bL hx,List.map_append]
  rfl
 case done =>
 rintro τ H1 ⟨v0,rfl,s1,hD1⟩
 rw [hlr,List.take_length] at hD1
 refine ⟨D,rs.map Rs.b,rfl,bO.of (by rw [hD1,List.map_map]; rfl),fun e=>hne (List.map_eq_nil_iff.mp e),fun mx hmx hmax=>?_⟩
 obtain ⟨r0,hr0,rfl⟩:=List.mem_map.mp hmx
 have z0:=(hrs r0 hr0).2.2.2
 refine ⟨_,rfl,_,rfl,_,_,rfl,rfl,gP z0 z0 (by decide),?_⟩
 have zz:intBits (r0.b * r0.b) <= 8000:=PySem.intBits_mul_le z0 z0
 refine ⟨_,rfl,a,rs.map Rs.q,rs.map (J2 r0.b),rfl,by rw [<- Mj]; exact s1.seq hS,by rw [List.length_map,List.length_map],by rw [List.length_map]; exact h64,hT.same s1,fun H2 c' st hit=>⟨fun i qa kk eq ek=>?_,fun D2 ps hD2 hp hs=>?_⟩⟩
 ·rw [List.getElem?_map] at eq ek
  cases er:rs[i]? with
  | none=>rw [er] at eq; cases eq
  | some r =>
   rw [er] at eq ek
   cases eq
   cases ek
   obtain ⟨ra,rf,rt,rb⟩:=hrs r (List.mem_of_getElem? er)
   have ra2:H2 r.q=some (.tup [.int r.t,.int r.b]):=st.get (hT.same s1) (s1 _ _ ra) fun _ z=>nomatch z
   exact ⟨_,rfl,r.q,_,_,_,rfl,rfl,(cN.of ra2),rfl,_,rfl,_,_,rfl,rfl,gP rt zz (by decide),_,rfl,r.q,_,_,_,rfl,rfl,(cN.of ra2),rfl,_,_,rfl,rfl,⟨Int.ne_of_gt rf.pos,Nat.le_trans rb (by decide)⟩,rfl,rfl⟩
 ·obtain ⟨rs',pm,e,so⟩:=Lz hp hs nd0 (fun r hr=>(hrs r hr).2.1) (fun r hr=>hmax _ (List.mem_map.mpr ⟨r,hr,rfl⟩))
  rw [e]
  have tb2:eX Pt iJ kY H2:=.inr ⟨c',hit⟩
  exact q D2 _ rs' (((s1.toT).trans st).trans (aN.toT (aF hD2 _))) (tb2.same (aF hD2 _)) aB pm so
theorem Nm {H:Hp}:∀ {kvs:List (List dG × V)}{qs:List Addr},qs.length=kvs.length->(∀ kv ∈ kvs,∃ t b:Int,kv.1=[.inl t,.inl b])->(∀ (i:Nat) k v,kvs[i]? = some (k,v)->∃ q,qs[i]? = some q /\ H q=some (.tup (k.map kV))) ->
  ∃ rs:List Rs,lN rs=qs.map V.ref /\ rs.map jP=kvs.map (·.1) /\ ∀ r ∈ rs,PQ H r
 | [],[],_,_,_=>⟨[],rfl,rfl,fun _ h=>nomatch h⟩
 | [],_ :: _,h,_,_=>by simp at h
 | _ :: _,[],h,_,_=>by simp at h
 | kv :: kvs,q :: qs,hl,hk,hq=>by
  obtain ⟨rs,e1,e2,e3⟩:=Nm (kvs:=kvs) (qs:=qs) (by simpa using hl) (fun x hx=>hk x (List.mem_cons_of_mem _ hx)) fun i k v e=>by
   obtain ⟨z,z1,z2⟩:=hq (i + 1) k v (by simpa using e)
   exact ⟨z,by simpa using z1,z2⟩
  obtain ⟨t,b,ek⟩:=hk kv List.mem_cons_self
  obtain ⟨z,z1,z2⟩:=hq 0 kv.1 kv.2 rfl
  have z1:q=z:=by simpa using z1
  subst z1
  refine ⟨⟨q,t,b⟩ :: rs,?_,?_,fun r hr=>?_⟩
  ·show V.ref q :: lN rs=V.ref q :: qs.map V.ref
   rw [e1]
  ·show jP ⟨q,t,b⟩ :: rs.map jP=kv.1 :: kvs.map (·.1)
   rw [e2,ek]
   rfl
  ·rcases List.mem_cons.mp hr with e | e
   ·subst e
    rw [ek] at z2
    exact z2
   ·exact e3 r e
theorem Bj {xs:List dY}{kvs:List (List dG × V)} (pb:PB xs) (d:Dk (dX xs) kvs) {r:Rs} (h:jP r ∈ kvs.map (·.1)):Tb.tH (dX xs) r.t r.b /\ Fr.jG r.t r.b /\ intBits r.t <= 4000 /\ intBits r.b <= 4000:=by
 obtain ⟨kv,hkv,e⟩:=List.mem_map.mp h
 obtain ⟨t,b,e2,hh⟩:=d.en kv hkv
 rw [e2] at e
 obtain ⟨e3,e4⟩:=tE.mp e.symm
 rw [e3,e4]
 refine ⟨hh,?_⟩
 obtain ⟨p,hp,e5,e6⟩:=hh
 obtain ⟨x,hx,rfl⟩:=List.mem_map.mp hp
 have g:=pb x hx
 have e5:x.t=t:=e5
 have e6:x.b=b:=e6
 rw [<- e5,<- e6]
 exact ⟨g.1,g.2.1,g.2.2.1⟩
theorem Eo {n:Nat}{f:Addr}{fd:FuncData} (F:eN K "in_form" "in_form" (top 26) f fd) {g_rising:Addr}{gd_rising:FuncData} (c_rising:gG P w K mg base n "rising" ["worths"] (Kq K Pt iJ) g_rising gd_rising) {g_common_divisor:Addr}{gd_common_divisor:FuncData} (c_common_divisor:gG P w K mg base n "common_divisor" ["one","other"] Ml g_common_divisor gd_common_divisor) (z_list:mg "list" = none):aP P w K mg base dM (n + 1) f fd ["rows"] (Dj Pt iJ):=by
 refine F.ok uK (fun vs H Q E h=>?_) (fun cdv A outer s H vs Q E hr h=>?_)
 ·obtain ⟨a,xs,rfl,_⟩:=h
  rfl
 obtain ⟨a,xs,rfl,hT,xne,xlen,pb,hTb,q⟩:=h
 have nd:=uK.nd
 have hu:=TQ hr
 refine ⟨_,(aG (aV (i:=1) nd rfl (Or.inr rfl) J1) (aG (lH PassesOwn.never rfl (cV (pv 0)) (zA rfl (bM (bA (i:=2) nd rfl (Or.inl rfl)) (bM (bA (i:=3) nd rfl (Or.inl rfl)) fM))) (aJ (M6 hu (pv 1) (pv 2) (aQ fP (Ko hu (pv 1) (pv 2) aH ⟨rfl,rfl,rfl,rfl⟩) (pv 3)) rfl))) (aG (aV (i:=4) nd rfl (Or.inr rfl) aH) (aG (lH PassesOwn.never rfl (Mp (pv 1)) (bA (i:=2) nd rfl (Or.inl rfl)) (aJ (aV (i:=4) nd rfl (Or.inr rfl) (aM c_common_divisor hr (aA (pv 4) (aA (Gf hu (pv 1) (pv 2) (fun _ _=>rfl)) aC)))))) (aJ (aW (cH (ls:=["worth"]) (M:=["rows","weights","worth#","weight","divisor"]) rfl (bT.of (by rfl)) (NL.of (by rfl)) (cV (aM c_rising hr (aA (c7 (DW rfl) rfl z_list m5 (aA (pv 1) aC)) aC))) (fun _ _ _ _=>⟨(bA (i:=0) (cU (by rfl)) rfl (Or.inl rfl)),cG,(eU (aA (pv 0) (aA (aQ jA (Gf hu (pv 2) (pv 0) (fun _ _=>rfl)) (pv 5)) aC)))⟩)))))))),?_⟩
 have hlr:=cX xs
 intro Dd hDd
 have n0:=aF hDd (.dT [])
 refine ⟨_,rfl,a,rfl,⟨_,bO.of (hT.same n0).lst⟩,?_⟩
 refine lU (xs:=jK xs) (fun i σ H'=>∃ kvs v2 v3,σ = [some (.ref a),some (.ref Dd),v2,v3,none] /\ aN H H' /\ H' Dd=some (.dT kvs) /\ Dk (dX (xs.take i)) kvs /\ kvs.length <= i) ⟨[],none,none,rfl,n0,aB,Dk.nil,Nat.le_refl _⟩ ?keep ?turn ?done
 case keep =>
  rintro i σ H' hi ⟨kvs,v2,v3,rfl,hs,_⟩
  exact bO.of (hT.same hs).lst
 case turn =>
  rintro i v σ H' hv ⟨kvs,v2,v3,rfl,hs,hd,dk,kl⟩
  obtain ⟨x,hx,rfl⟩:=m7 hv
  have hmem:=List.mem_of_getElem? hx
  have hi:=(List.getElem?_eq_some_iff.mp hx).1
  have hr:=(hT.same hs).rows x hmem
  have hq:H' x.q=some (.tup (([.inl x.t,.inl x.b]:List dG).map kV)):=hr.2
  refine ⟨x.p,_,rfl,cN.of hr.1,rfl,_,_,rfl,_,_,rfl,rfl,?_⟩
  refine ⟨_,rfl,Dd,rfl,.inr ⟨_,.inl hd⟩,_,rfl,_,wH.t hd hq,_,rfl,Tb.Wt (dX (xs.take i)) x.t x.b,x.w,dk.get x.t x.b,rfl,?_⟩
  refine ⟨_,rfl,_,rfl,Dd,_,rfl,Eb.t hd hq (aZ (by omega)),?_⟩
  refine ⟨_,_,_,rfl,hs.upd_new hDd _,aB,?_,?_⟩
  ·rw [bL hx,jV]
   exact dk.put x.r
  ·have:=mV kvs [.inl x.t,.inl x.b] (.int (Tb.Wt (dX (xs.take i)) x.t x.b + x.w))
   exact Nat.le_trans this (by omega)
 case done =>
 rintro σ H1 ⟨kvs,v2,v3,rfl,s1,hd1,dk,kl⟩
 rw [hlr,List.take_length] at dk
 rw [hlr] at kl
 obtain ⟨hw1,hf1⟩:=pb.ps
 have pne:dX xs ≠ []:=fun e=>xne (List.map_eq_nil_iff.mp e)
 have plen:(dX xs).length <= 1000:=by rw [fC]; omega
 have dpos:=dk.div_pos pne hw1
 have dbits:=Jm dk pne (fun p hp=>by obtain ⟨x,hx,rfl⟩:=List.mem_map.mp hp; exact ⟨(pb x hx).2.2.2.1,(pb x hx).2.2.2.2⟩) plen
 refine ⟨_,rfl,Dd,kvs,rfl,.inl ⟨hd1,fun o=>?_⟩⟩
 have s2:aN H (aU H1 Dd (.frz o (.dT kvs))):=s1.upd_new hDd _
 have hfz:aU H1 Dd (.frz o (.dT kvs)) Dd=some (.frz o (.dT kvs)):=aB
 generalize aU H1 Dd (.frz o (.dT kvs))=H2 at s2 hfz ⊢
 refine Jk (fun i σ H'=>∃ d v2,σ = [some (.ref a),some (.ref Dd),v2,v3,some (.int d)] /\ H'=H2 /\ d=Tb.u9 ((kvs.take i).map wOf)) ⟨0,_,rfl,rfl,rfl⟩ (fun i σ H' _ ⟨_,_,_,e,_⟩=>by rw [e]; exact hfz) ?turn3 ?done3
 case turn3 =>
  rintro i k v kq σ H' hk hkt ⟨d,v2,rfl,rfl,ed⟩
  obtain ⟨t,b,ekv,hh⟩:=dk.en _ (List.mem_of_getElem? hk)
  injection ekv with ek1 ek2
  subst ek1 ek2
  refine ⟨_,rfl,_,rfl,_,rfl,Dd,.int (Tb.Wt (dX xs) t b),rfl,.inr ⟨kvs,[.inl t,.inl b],kq,.inr ⟨o,hfz⟩,rfl,hkt,(dk.val hh).symm⟩,d,Tb.Wt (dX xs) t b,rfl,?_⟩
  refine ⟨_,_,rfl,rfl,?_⟩
  rw [bL hk,List.map_append,ed]
  exact (Tb.Hy _ _).symm
 case done3 =>
 rintro σ H3 ⟨d,v2,rfl,rfl,ed⟩
 rw [List.take_length] at ed
 have ed:d=iT kvs:=ed
 subst ed
 have kb:∀ kv ∈ kvs,∃ t b:Int,kv.1=[.inl t,.inl b]:=fun kv hkv=>by
  obtain ⟨t,b,e,_⟩:=dk.en kv hkv
  exact ⟨t,b,by rw [e]⟩
 refine ⟨_,rfl,Dd,kvs,rfl,.inr ⟨o,hfz⟩,fun l qs hl hql hqs=>?_⟩
 obtain ⟨rs0,er1,er2,er3⟩:=Nm hql kb hqs
 have n3:=aF hl (.lst (qs.map V.ref))
 have s3:=s2.trans n3
 have rl0:rs0.length=kvs.length:=by simpa using congrArg List.length er2
 have kin0:∀ r ∈ rs0,jP r ∈ kvs.map (·.1):=fun r hr=>by rw [<- er2]; exact List.mem_map.mpr ⟨r,hr,rfl⟩
 refine ⟨l,rs0,rfl,bO.of (by rw [er1]; exact aB),?_,by omega,fun r hr=>⟨n3 _ _ (er3 r hr),(Bj pb dk (kin0 r hr)).2⟩,by rw [er2]; exact dk.nd,hTb.same s3,fun R H4 rs st4 tb4 hR pm so=>?_⟩
 ·rintro rfl
  exact dk.ne pne (List.length_eq_zero_iff.mp rl0.symm)
 have tb3:=hTb.same s3
 have hfz4:H4 Dd=some (.frz o (.dT kvs)):=st4.get tb3 (n3 _ _ hfz) fun _ z=>nomatch z
 have pmk:(rs.map jP).Perm (kvs.map (·.1)):=by rw [<- er2]; exact pm.map jP
 have kin:∀ r ∈ rs,jP r ∈ kvs.map (·.1):=fun r hr=>pmk.mem_iff.mp (List.mem_map.mpr ⟨r,hr,rfl⟩)
 have rat:∀ r ∈ rs,PQ H4 r:=fun r hr=>st4.get tb3 (n3 _ _ (er3 r (pm.mem_iff.mp hr))) fun _ z=>nomatch z
 have rlen:rs.length=kvs.length:=by rw [pm.length_eq,rl0]
 have sT:cA Pt H H4:=(s3.toT).trans st4
 refine ⟨R,rfl,⟨_,bO.of hR⟩,fun D hD=>?_⟩
 refine cM (xs:=lN rs) (fun i τ H'=>∃ v0 ys,τ = [v0,some (.ref a),some (.ref Dd),v2,v3,some (.int (iT kvs))] /\ aN H4 H' /\ fY H' D ys /\ ys.map (fun y=>Rs.mk y.q y.t y.b)=rs.take i /\ ∀ y ∈ ys,y.w=(Tb.Wt (dX xs) y.t y.b).fdiv (iT kvs)) ⟨none,[],rfl,aF hD _,⟨aB,fun _ h=>nomatch h⟩,rfl,(fun _ h=>nomatch h)⟩ ?keep4 ?turn4 ?done4
 case keep4 =>
  rintro i τ H' hi ⟨v0,ys,rfl,hs,_⟩
  exact bO.of (hs _ _ hR)
 case turn4 =>
  rintro i m v τ H' hm hi hv ⟨v0,ys,rfl,hs,hY,ey,yw⟩
  obtain ⟨r,hr,rfl⟩:=BX hv
  have hmem:=List.mem_of_getElem? hr
  have hh:=(Bj pb dk (kin r hmem)).1
  have rq:H' r.q=some (.tup [.int r.t,.int r.b]):=hs _ _ (rat r hmem)
  have ylen:ys.length <= 1000:=by
   have h:=congrArg List.length ey
   rw [List.length_map,List.length_take] at h
   omega
  unfold xK
  refine fL ?_
  refine ⟨_,rfl,_,rfl,_,rfl,Dd,.int (Tb.Wt (dX xs) r.t r.b),rfl,.inr ⟨kvs,[.inl r.t,.inl r.b],r.q,.inr ⟨o,hs _ _ hfz4⟩,rfl,rq,(dk.val hh).symm⟩,_,rfl,_,_,rfl,rfl,⟨Int.ne_of_gt dpos,dbits⟩,vY,fun p hp=>?_⟩
  have n1:=aF hp (.tup [.ref r.q,.int ((Tb.Wt (dX xs) r.t r.b).fdiv (iT kvs))])
  have hY1:=hY.same n1
  refine bH hm hi hY1.lst (by rw [cX]; exact aZ ylen) ⟨_,ys ++ [⟨p,r.q,r.t,r.b,(Tb.Wt (dX xs) r.t r.b).fdiv (iT kvs)⟩],rfl,(hs.trans n1).upd_new hD _,⟨?_,?_⟩,?_,?_⟩
  ·rw [aB,nM]
  ·intro y hy
   rcases List.mem_append.mp hy with z | z
   ·exact (hY1.rows y z).over hY1.lst
   ·rw [List.mem_singleton.mp z]
    exact jB.over ⟨aB,n1 _ _ rq⟩ hY1.lst
  ·rw [List.map_append,ey,bL hr]
   rfl
  ·intro y hy
   rcases List.mem_append.mp hy with z | z
   ·exact yw y z
   ·rw [List.mem_singleton.mp z]
 case done4 =>
  rintro τ H5 ⟨v0,ys,rfl,s5,hY,ey,yw⟩
  rw [pH,List.take_length] at ey
  obtain ⟨tab,wok⟩:=Qc dk hw1 hf1 pne pmk so ey yw
  have yl:ys.length=rs.length:=by rw [<- ey,List.length_map]
  refine q D H5 ys (sT.trans (s5.toT)) (tb4.same s5) (sT.free hD tb4.at_) hY ⟨tab,wok⟩ (by omega)
theorem uI {n:Nat}{f:Addr}{fd:FuncData} (F:eN K "all_weights" "all_weights" (top 27) f fd) (z_sum:mg "sum" = none):aP P w K mg base dM (n + 1) f fd ["table"] QB:=by
 refine F.ok mC (fun vs H Q E h=>?_) (fun cdv A outer s H vs Q E hr h=>?_)
 ·obtain ⟨a,xs,rfl,_⟩:=h
  rfl
 obtain ⟨a,xs,rfl,hT,hl,q⟩:=h
 have nd:=mC.nd
 refine ⟨_,(aJ (aW (bB (mL rfl) rfl z_sum u0 (aA (cH (ls:=["worth","weight"]) (M:=["table"]) rfl (bT.of (by rfl)) (NL.of (by rfl)) (cV (pv 0)) (fun _ _ _ _=>⟨(gK (K:=K) (n:=2) rfl rfl (bM (bA (i:=0) (cU (by rfl)) rfl (Or.inl rfl)) (bM (bA (i:=1) (cU (by rfl)) rfl (Or.inl rfl)) fM))),cG,(pv 1)⟩)) aC)))),?_⟩
 have hlr:=cX xs
 refine ⟨_,rfl,a,rfl,⟨_,bO.of hT.lst⟩,fun D hD=>?_⟩
 refine cM (xs:=jK xs) (fun i τ H'=>∃ v0 v1,τ = [v0,v1,some (.ref a)] /\ aN H H' /\ H' D=some (.lst ((xs.take i).map fun x=>V.int x.w))) ⟨none,none,rfl,aF hD _,aB⟩ ?keep ?turn ?done
 case keep =>
  rintro i τ H' hi ⟨v0,v1,rfl,hs,_⟩
  exact bO.of (hT.same hs).lst
 case turn =>
  rintro i m v τ H' hm hi hv ⟨v0,v1,rfl,hs,hD'⟩
  obtain ⟨x,hx,rfl⟩:=m7 hv
  have hr:=(hT.same hs).rows x (List.mem_of_getElem? hx)
  refine ⟨x.p,_,rfl,cN.of hr.1,rfl,_,_,rfl,_,_,rfl,rfl,?_⟩
  refine fL ?_
  refine ⟨_,rfl,?_⟩
  refine bH hm hi hD' (by rw [List.length_map]; exact aZ (Nat.le_trans (List.length_take_le _ _) (by omega))) ⟨_,_,rfl,hs.upd_new hD _,?_⟩
  rw [aB,bL hx,List.map_append]
  rfl
 case done =>
  rintro τ H' ⟨v0,v1,rfl,hs,hD'⟩
  rw [hlr,List.take_length] at hD'
  refine ⟨D,xs.map dY.w,rfl,bO.of (by rw [hD',List.map_map]; rfl),?_⟩
  exact q H' hs
theorem Gx {n:Nat}{f:Addr}{fd:FuncData} (F:eN K "capped" "capped" (top 30) f fd) {g_in_form:Addr}{gd_in_form:FuncData} (c_in_form:gG P w K mg base n "in_form" ["rows"] (Dj Pt iJ) g_in_form gd_in_form) {g_lesser:Addr}{gd_lesser:FuncData} (c_lesser:gG P w K mg base n "lesser" ["one","other"] (Q0 K) g_lesser gd_lesser):aP P w K mg base dM (n + 1) f fd ["table","level"] (Jz Pt iJ):=by
 refine F.ok xA (fun vs H Q E h=>?_) (fun cdv A outer s H vs Q E hr h=>?_)
 ·obtain ⟨a,l,xs,x0,n,W,M,kk,rfl,_⟩:=h
  rfl
 obtain ⟨a,l,xs,x0,n,W,M,kk,rfl,hT,g,c,hl,f,hTb,q⟩:=h
 have nd:=xA.nd
 refine ⟨_,(aJ (aW (aM c_in_form hr (aA (cH (ls:=["worth","weight"]) (M:=["table","level"]) rfl (bT.of (by rfl)) (NL.of (by rfl)) (cV (pv 0)) (fun _ _ _ _=>⟨(gK (K:=K) (n:=2) rfl rfl (bM (bA (i:=0) (cU (by rfl)) rfl (Or.inl rfl)) (bM (bA (i:=1) (cU (by rfl)) rfl (Or.inl rfl)) fM))),cG,(eU (aA (aM c_lesser hr (aA (pv 0) (aA (pv 3) aC))) (aA (pv 1) aC)))⟩)) aC)))),?_⟩
 obtain ⟨l0,l1⟩:=x0
 have hl:H l=some (.tup [.int l0,.int l1]):=hl
 have f:Sd.Fq l0 l1 M kk:=f
 have lb:=sY f g.mp c.m c.k0 c.k
 have hlr:=cX xs
 have glen:=g.len
 have gn:=c.n
 have ylen:∀ {i:Nat}{ys:List dY},dX ys=(dX (xs.take i)).map (Tb.jE l0 l1)->ys.length <= 12:=fun {i ys} e=>by
  have h1:=congrArg List.length e
  rw [fC,List.length_map,fC,List.length_take] at h1
  omega
 refine ⟨_,rfl,a,rfl,⟨_,bO.of hT.lst⟩,fun D hD=>?_⟩
 refine cM (xs:=jK xs) (fun i τ H'=>∃ v0 v1 ys,τ = [v0,v1,some (.ref a),some (.ref l)] /\ aN H H' /\ fY H' D ys /\ dX ys=(dX (xs.take i)).map (Tb.jE l0 l1)) ⟨none,none,[],rfl,aF hD _,⟨aB,fun _ h=>nomatch h⟩,rfl⟩ ?keep ?turn ?done
 case keep =>
  rintro i τ H' hi ⟨v0,v1,ys,rfl,hs,_⟩
  exact bO.of (hT.same hs).lst
 case turn =>
  rintro i m v τ H' hm hi hv ⟨v0,v1,ys,rfl,hs,hY,ey⟩
  obtain ⟨x,hx,rfl⟩:=m7 hv
  have hmem:=List.mem_of_getElem? hx
  have hr:=(hT.same hs).rows x hmem
  have xz:=g.bits c hmem
  have yl:=ylen ey
  refine ⟨x.p,_,rfl,cN.of hr.1,rfl,_,_,rfl,_,_,rfl,rfl,?_⟩
  refine fL ?_
  refine ⟨_,rfl,_,rfl,x.q,l,x.t,x.b,l0,l1,rfl,cN.of hr.2,cN.of (hs _ _ hl),⟨by omega,by omega,by omega,by omega⟩,fun c=>?_,fun c=>?_⟩
  ·
   refine ⟨_,rfl,vY,fun p hp=>?_⟩
   have n1:=aF hp (.tup [.ref l,.int x.w])
   have hY1:=hY.same n1
   refine bH hm hi hY1.lst (by rw [cX]; exact aZ (by omega)) ⟨_,_,ys ++ [⟨p,l,l0,l1,x.w⟩],rfl,(hs.trans n1).upd_new hD _,⟨?_,?_⟩,?_⟩
   ·rw [aB,nM]
   ·intro y hy
    rcases List.mem_append.mp hy with z | z
    ·exact (hY1.rows y z).over hY1.lst
    ·rw [List.mem_singleton.mp z]
     exact jB.over ⟨aB,n1 _ _ (hs _ _ hl)⟩ hY1.lst
   ·rw [jV,ey,bL hx,jV,List.map_append]
    show _ ++ [_]=_ ++ [Tb.jE l0 l1 x.r]
    unfold Tb.jE
    rw [if_pos (show l0 * x.r.b < x.r.t * l1 from c)]
    rfl
  ·
   refine ⟨_,rfl,vY,fun p hp=>?_⟩
   have n1:=aF hp (.tup [.ref x.q,.int x.w])
   have hY1:=hY.same n1
   refine bH hm hi hY1.lst (by rw [cX]; exact aZ (by omega)) ⟨_,_,ys ++ [⟨p,x.q,x.t,x.b,x.w⟩],rfl,(hs.trans n1).upd_new hD _,⟨?_,?_⟩,?_⟩
   ·rw [aB,nM]
   ·intro y hy
    rcases List.mem_append.mp hy with z | z
    ·exact (hY1.rows y z).over hY1.lst
    ·rw [List.mem_singleton.mp z]
     exact jB.over ⟨aB,n1 _ _ hr.2⟩ hY1.lst
   ·rw [jV,ey,bL hx,jV,List.map_append]
    show _ ++ [_]=_ ++ [Tb.jE l0 l1 x.r]
    unfold Tb.jE
    rw [if_neg (show ¬ l0 * x.r.b < x.r.t * l1 from c)]
    rfl
 case done =>
 rintro τ H1 ⟨v0,v1,ys,rfl,s1,hY,ey⟩
 have yl:=ylen ey
 rw [hlr,List.take_length] at ey
 have el:ys.length=xs.length:=by
  have h1:=congrArg List.length ey
  rw [fC,List.length_map,fC] at h1
  exact h1
 refine ⟨D,ys,rfl,hY,?_,by omega,Ov g c f ey,hTb.same s1,fun r H5 zs s5 tb5 hr5 hZ o hzl=>?_⟩
 ·rintro rfl
  exact g.ne (List.length_eq_zero_iff.mp el.symm)
 ·rw [ey] at o
  exact q r H5 zs ((s1.toT).trans s5) tb5 (s1.free hr5) hZ (O9 g f o (by omega)) o
theorem _root_.TD.GM.wz {es:List iQ}{k0:Nat}{W0 kk:Int} (g:GM es k0 W0 kk) {e:iQ} (he:e ∈ es) {y:dY} (hy:y ∈ e.ys):intBits y.w <= 601:=by
 have ge:=g.g e he
 have a:=ge.w1 y hy
 have b:=mR ge.w1 hy
 have c:=ge.ws
 have d:=(g.c e he).w
 have p1:(2:Int) ^ 601=2 * 2 ^ 600:=by rw [Int.pow_succ]; omega
 have q1:=Sd.cJ 600
 exact nJ (by omega) (by omega)
theorem K8 {n:Nat}{f:Addr}{fd:FuncData} (F:eN K "mixed" "mixed" (top 31) f fd) {g_in_form:Addr}{gd_in_form:FuncData} (c_in_form:gG P w K mg base n "in_form" ["rows"] (Dj Pt iJ) g_in_form gd_in_form) {g_all_weights:Addr}{gd_all_weights:FuncData} (c_all_weights:gG P w K mg base n "all_weights" ["table"] QB g_all_weights gd_all_weights) {g_common_multiple:Addr}{gd_common_multiple:FuncData} (c_common_multiple:gG P w K mg base n "common_multiple" ["numbers"] (Px K) g_common_multiple gd_common_multiple):aP P w K mg base dM (n + 1) f fd ["rows"] (IV Pt iJ):=by
 refine F.ok Cm (fun vs H Q E h=>?_) (fun cdv A outer s H vs Q E hr h=>?_)
 ·obtain ⟨a,es,k0,W0,kk,rfl,_⟩:=h
  rfl
 obtain ⟨a,es,k0,W0,kk,rfl,hE,g,hTb,q⟩:=h
 have nd:=Cm.nd
 refine ⟨_,(aG (aV (i:=1) nd rfl (Or.inl rfl) (aM c_common_multiple hr (aA (cH (ls:=["weight","table"]) (M:=["rows","scale","parts","weight#","table#","factor"]) rfl (bT.of (by rfl)) (NL.of (by rfl)) (cV (pv 0)) (fun _ _ _ _=>⟨(gK (K:=K) (n:=2) rfl rfl (bM (bA (i:=0) (cU (by rfl)) rfl (Or.inl rfl)) (bM (bA (i:=1) (cU (by rfl)) rfl (Or.inl rfl)) fM))),cG,(aM c_all_weights hr (aA (pv 1) aC))⟩)) aC))) (aG (aV (i:=2) nd rfl (Or.inl rfl) (dU aC)) (aG (lH PassesOwn.never rfl (cV (pv 0)) (zA rfl (bM (bA (i:=3) nd rfl (Or.inl rfl)) (bM (bA (i:=4) nd rfl (Or.inl rfl)) fM))) (aG (aV (i:=5) nd rfl (Or.inr rfl) (aQ d7 (pv 3) (aQ jA (pv 1) (aM c_all_weights hr (aA (pv 4) aC))))) (aJ (eF (Bv PySem.F.plainAttrs_list PySem.F.slot_list_extend PySem.F.type_list_extend Gj (pv 2) (aA (cH (ls:=["worth","inner"]) (M:=["rows","scale","parts","weight","table","factor"]) rfl (bT.of (by rfl)) (NL.of (by rfl)) (cV (pv 4)) (fun _ _ _ _=>⟨(gK (K:=K) (n:=2) rfl rfl (bM (bA (i:=0) (cU (by rfl)) rfl (Or.inl rfl)) (bM (bA (i:=1) (cU (by rfl)) rfl (Or.inl rfl)) fM))),cG,(eU (aA (pv 0) (aA (aQ d7 (pv 7) (pv 1)) aC)))⟩)) aC)))))) (aJ (aW (aM c_in_form hr (aA (pv 2) aC))))))),?_⟩
 have hlr:=o4 es
 have glen:=g.len
 have tpos:∀ n ∈ cQ es,0 < n:=fun n hn=>(g.tp n hn).1
 have tb:=g.tb
 obtain ⟨Sp,_,Sz,Sdv⟩:=g.S
 have k12:=g.k
 have n12:=g.n
 refine ⟨_,rfl,a,rfl,⟨_,bO.of hE.lst⟩,fun D hD=>?_⟩
 refine cM (xs:=pD es) (fun i τ H'=>∃ v0 v1,τ = [v0,v1,some (.ref a),none,none,none,none,none] /\ aN H H' /\ H' D=some (.lst ((es.take i).map fun e=>V.int (cI e.ys)))) ⟨none,none,rfl,aF hD _,aB⟩ ?keep ?turn ?done
 case keep =>
  rintro i τ H' hi ⟨v0,v1,rfl,hs,_⟩
  exact bO.of (hE.same hs).lst
 case turn =>
  rintro i m v τ H' hm hi hv ⟨v0,v1,rfl,hs,hD'⟩
  obtain ⟨e,he,rfl⟩:=Ce hv
  have hr:=(hE.same hs).ents e (List.mem_of_getElem? he)
  have ge:=g.g e (List.mem_of_getElem? he)
  refine ⟨e.p,_,rfl,cN.of hr.1,rfl,_,_,rfl,_,_,rfl,rfl,?_⟩
  refine fL ?_
  refine ⟨_,rfl,e.a,e.ys,rfl,hr.2,by have:=ge.len; omega,fun H2 s2=>?_⟩
  refine bH hm hi (s2 _ _ hD') (by rw [List.length_map]; exact aZ (Nat.le_trans (List.length_take_le _ _) (by omega))) ⟨_,_,rfl,(hs.trans s2).upd_new hD _,?_⟩
  rw [aB,bL he,List.map_append]
  rfl
 case done =>
 rintro τ H1 ⟨v0,v1,rfl,s1,hD1⟩
 rw [hlr,List.take_length] at hD1
 refine ⟨D,cQ es,rfl,bO.of (by rw [hD1]; unfold cQ; rw [List.map_map]; rfl),tpos,fun n hn=>Nat.le_trans (tb.1 n hn) (by decide),Nat.le_trans tb.2 (by decide),?_⟩
 refine ⟨Nat.zero_le _,fun Rp hRp=>?_⟩
 have hRn:H Rp=none:=s1.free hRp
 have s2:=s1.upd_new hRn (.lst [])
 refine ⟨_,rfl,a,rfl,⟨_,bO.of (hE.same s2).lst⟩,?_⟩
 refine lU (xs:=pD es) (fun i σ H'=>∃ v3 v4 v5 xs,σ = [some (.ref a),some (.int (dF (cQ es))),some (.ref Rp),v3,v4,v5] /\ aN H H' /\ fY H' Rp xs /\ dX xs=b8 (dF (cQ es)) (es.take i) /\ PB xs /\ xs.length <= i * k0) ⟨none,none,none,[],rfl,s2,⟨aB,fun _ h=>nomatch h⟩,rfl,(fun _ h=>nomatch h),by rw [Nat.zero_mul]; exact Nat.le_refl _⟩ ?keep2 ?turn2 ?done2
 case keep2 =>
  rintro i σ H' hi ⟨v3,v4,v5,xs,rfl,hs,_⟩
  exact bO.of (hE.same hs).lst
 case turn2 =>
  rintro i v σ H' hv ⟨v3,v4,v5,xs,rfl,hs,hX,ex,pb,xl⟩
  obtain ⟨e,he,rfl⟩:=Ce hv
  have hmem:=List.mem_of_getElem? he
  have hi:=(List.getElem?_eq_some_iff.mp he).1
  have hr:=(hE.same hs).ents e hmem
  have ge:=g.g e hmem
  have gw:=g.w e hmem
  have gl:=ge.len
  have gs:=ge.tot
  have tz:=tb.1 _ (List.mem_map.mpr ⟨e,hmem,rfl⟩)
  have wz:intBits e.w <= 64:=PySem.intBits_le_64 (by omega) (by omega)
  have fz:intBits (qF (dF (cQ es)) e) <= 64 + 2405:=PySem.intBits_mul_le wz (PySem.intBits_fdiv_le Sz)
  refine ⟨e.p,_,rfl,cN.of hr.1,rfl,_,_,rfl,_,_,rfl,rfl,?_⟩
  refine ⟨_,rfl,_,rfl,_,rfl,e.a,e.ys,rfl,hr.2,by omega,fun H2 s2=>?_⟩
  refine ⟨_,_,rfl,rfl,⟨by omega,Nat.le_trans tz (by decide)⟩,_,_,rfl,rfl,gP (m:=64) (n:=2405) wz (PySem.intBits_fdiv_le Sz) (by decide),?_⟩
  have hs2:=hs.trans s2
  have hr2:=hr.2.same s2
  refine ⟨_,rfl,.inl ⟨rfl,_,bO.of (hX.same s2).lst⟩,_,rfl,e.a,rfl,⟨_,bO.of hr2.lst⟩,fun D2 hD2=>?_⟩
  refine cM (xs:=jK e.ys) (fun j τ H''=>∃ v0 v1 zs,τ = [v0,v1,some (.ref a),some (.int (dF (cQ es))),some (.ref Rp),some (.int e.w),some (.ref e.a),some (.int (qF (dF (cQ es)) e))] /\ aN H2 H'' /\ fY H'' D2 zs /\ dX zs=(e.ys.take j).map (fun y=>⟨y.t,y.b,qF (dF (cQ es)) e * y.w⟩)) ⟨none,none,[],rfl,aF hD2 _,⟨aB,fun _ h=>nomatch h⟩,rfl⟩ ?keep3 ?turn3 ?done3
  case keep3 =>
   rintro j τ H'' hj ⟨v0,v1,zs,rfl,hs3,_⟩
   exact bO.of (hr2.same hs3).lst
  case turn3 =>
   rintro j m v τ H'' hm hj hv ⟨v0,v1,zs,rfl,hs3,hZ,ez⟩
   obtain ⟨y,hy,rfl⟩:=m7 hv
   have hym:=List.mem_of_getElem? hy
   have ry:=(hr2.same hs3).rows y hym
   have yz:=g.wz hmem hym
   have zl:zs.length <= 12:=by
    have h:=congrArg List.length ez
    rw [fC,List.length_map,List.length_take] at h
    omega
   refine ⟨y.p,_,rfl,cN.of ry.1,rfl,_,_,rfl,_,_,rfl,rfl,?_⟩
   refine fL ?_
   refine ⟨_,rfl,_,rfl,_,rfl,_,_,rfl,rfl,gP fz yz (by decide),vY,fun p hp=>?_⟩
   have n1:=aF hp (.tup [.ref y.q,.int (qF (dF (cQ es)) e * y.w)])
   have hZ1:=hZ.same n1
   refine bH hm hj hZ1.lst (by rw [cX]; exact aZ (by omega)) ⟨_,_,zs ++ [⟨p,y.q,y.t,y.b,qF (dF (cQ es)) e * y.w⟩],rfl,(hs3.trans n1).upd_new hD2 _,⟨?_,?_⟩,?_⟩
   ·rw [aB,nM]
   ·intro z hz
    rcases List.mem_append.mp hz with q1 | q1
    ·exact (hZ1.rows z q1).over hZ1.lst
    ·rw [List.mem_singleton.mp q1]
     exact jB.over ⟨aB,n1 _ _ ry.2⟩ hZ1.lst
   ·rw [jV,ez,bL hy,List.map_append]
    rfl
  case done3 =>
   rintro τ H3 ⟨v0,v1,zs,rfl,s3,hZ,ez⟩
   rw [cX,List.take_length] at ez
   have zl:zs.length=e.ys.length:=by
    have h:=congrArg List.length ez
    rw [fC,List.length_map] at h
    exact h
   have hX3:=hX.same (s2.trans s3)
   have il:i * k0 <= es.length * k0:=Nat.mul_le_mul_right _ (by omega)
   refine ⟨Rp,D2,jK xs,jK zs,rfl,rfl,hX3.lst,hZ.lst,by rw [cX,cX]; exact Nat.le_of_lt (aZ (by omega)),?_⟩
   have s4:aN H (aU H3 Rp (.lst (jK xs ++ jK zs))):=(hs2.trans s3).upd_new hRn _
   refine ⟨_,_,_,xs ++ zs,rfl,s4,⟨?_,?_⟩,?_,?_,?_⟩
   ·rw [aB]
    unfold jK
    rw [List.map_append]
   ·intro z hz
    rcases List.mem_append.mp hz with q1 | q1
    ·exact (hX3.rows z q1).over hX3.lst
    ·exact (hZ.rows z q1).over hX3.lst
   ·rw [DP,ex,ez,bL he,zL]
   ·intro z hz
    rcases List.mem_append.mp hz with q1 | q1
    ·exact pb z q1
    ·have m:z.r ∈ dX zs:=List.mem_map.mpr ⟨z,q1,rfl⟩
     rw [ez] at m
     obtain ⟨y,hy,ey⟩:=List.mem_map.mp m
     have e1:y.t=z.t:=congrArg Tb.Rw.t ey
     have e2:y.b=z.b:=congrArg Tb.Rw.b ey
     have e3:qF (dF (cQ es)) e * y.w=z.w:=congrArg Tb.Rw.w ey
     rw [<- e1,<- e2,<- e3]
     exact g.pb hmem hy
   ·rw [List.length_append,Nat.succ_mul]
    omega
 case done2 =>
  rintro σ H4 ⟨v3,v4,v5,xs,rfl,s4,hX,ex,pb,xl⟩
  rw [hlr,List.take_length] at ex
  rw [hlr] at xl
  refine ⟨_,rfl,Rp,xs,rfl,hX,?_,by omega,pb,hTb.same s4,fun r H5 ys s5 tb5 hr5 hY o hyl=>?_⟩
  ·rintro rfl
   have ex:([]:List Tb.Rw)=b8 (dF (cQ es)) es:=ex
   cases hes:es with
   | nil=>exact g.ne hes
   | cons e es' =>
    have ge:=g.g e (by rw [hes]; exact List.mem_cons_self)
    cases hys:e.ys with
    | nil=>exact ge.ne hys
    | cons y ys =>
     have z:Tb.tH (b8 (dF (cQ es)) es) y.t y.b:=by
      rw [hes]
      exact Tb.kO.mpr (.inl ⟨⟨y.t,y.b,_⟩,List.mem_map.mpr ⟨y,by rw [hys]; exact List.mem_cons_self,rfl⟩,rfl,rfl⟩)
     rw [<- ex] at z
     exact Tb.sZ z
  ·rw [ex] at o
   exact q r H5 ys ((s4.toT).trans s5) tb5 (s4.free hr5) hY (g.out o (by omega)) o (by rw [<- ex,fC]; exact hyl)
theorem yJ {n:Nat}{f:Addr}{fd:FuncData} (F:eN K "level_for" "level_for" (top 32) f fd) {g_share:Addr}{gd_share:FuncData} (c_share:gG P w K mg base n "share" ["top","bottom"] yQ g_share gd_share) {g_all_weights:Addr}{gd_all_weights:FuncData} (c_all_weights:gG P w K mg base n "all_weights" ["table"] QB g_all_weights gd_all_weights) {g_common_multiple:Addr}{gd_common_multiple:FuncData} (c_common_multiple:gG P w K mg base n "common_multiple" ["numbers"] (Px K) g_common_multiple gd_common_multiple) (z_reversed:mg "reversed" = none):aP P w K mg base dM (n + 1) f fd ["table","price"] N8:=by
 refine F.ok o8 (fun vs H Q E h=>?_) (fun cdv A outer s H vs Q E hr h=>?_)
 ·obtain ⟨a,xs,p,n,W,kk,rfl,_⟩:=h
  rfl
 obtain ⟨a,xs,p,n,W,kk,rfl,hT,g,c,so,p0,p9,q⟩:=h
 have nd:=o8.nd
 refine ⟨_,(aG (aV (i:=2) nd rfl (Or.inl rfl) (aM c_common_multiple hr (aA (cH (ls:=["worth","weight"]) (M:=["table","price","bottom","tops","weights","worth#","weight#","top"]) rfl (bT.of (by rfl)) (NL.of (by rfl)) (cV (pv 0)) (fun _ _ _ _=>⟨(gK (K:=K) (n:=2) rfl rfl (bM (bA (i:=0) (cU (by rfl)) rfl (Or.inl rfl)) (bM (bA (i:=1) (cU (by rfl)) rfl (Or.inl rfl)) fM))),cG,(bU (lB (K:=K) rfl) (pv 0) aH (fun _ _=>rfl))⟩)) aC))) (aG (aV (i:=3) nd rfl (Or.inl rfl) (aQ d7 (aQ d7 (Jb Ek (pv 1)) (aM c_all_weights hr (aA (pv 0) aC))) (pv 2))) (aG (aV (i:=4) nd rfl (Or.inl rfl) aH) (aG (lH PassesOwn.never rfl (Q8 rfl z_reversed (aA (pv 0) aC)) (zA rfl (bM (bA (i:=5) nd rfl (Or.inl rfl)) (bM (bA (i:=6) nd rfl (Or.inl rfl)) fM))) (aG (aV (i:=7) nd rfl (Or.inl rfl) (aQ d7 (bU eV (pv 5) aH (fun _ _=>rfl)) (aQ jA (pv 2) (bU eV (pv 5) aH (fun _ _=>rfl))))) (aG (dO (PW.pt (QC (bZ GD (pv 4) aH (cO _)) (La (bZ tX (aQ d7 (pv 7) (pv 4)) (pv 3) (cO _))))) (aJ Kl) bY) (aG (aV (i:=3) nd rfl (Or.inl rfl) (aQ fP (pv 3) (aQ d7 (pv 6) (pv 7)))) (aJ (aV (i:=4) nd rfl (Or.inl rfl) (aQ fP (pv 4) (pv 6)))))))) (aJ (aW (aM c_share hr (aA (pv 3) (aA (aQ d7 (pv 4) (pv 2)) aC))))))))),?_⟩
 have hlr:=cX xs
 have hrl:=fC xs
 have glen:=g.len
 have gn:=c.n
 have tab:=g.tab so
 have wt1:=g.tot
 have wt2:=g.ws
 have wt3:=c.w
 have lm:0 < bQ xs /\ bQ xs <= 2 ^ 1600:=⟨g.mp,c.m⟩
 have p601:(2:Int) ^ 601=2 * 2 ^ 600:=by rw [Int.pow_succ]; omega
 have p600:=Sd.cJ 600
 have p1601:(2:Int) ^ 1601=2 * 2 ^ 1600:=by rw [Int.pow_succ]; omega
 have glz:intBits (bQ xs) <= 1601:=nJ (by omega) (by omega)
 have wsz:∀ z:Int,0 <= z->z <= cI xs->intBits z <= 601:=fun z h1 h2=>nJ (by omega) (by omega)
 have nz:0 < xs.length:=by
  rcases Nat.eq_zero_or_pos xs.length with z | z
  ·exact absurd (List.length_eq_zero_iff.mp z) g.ne
  ·exact z
 have b1:∀ x:Int,0 <= x->x <= 1000000000->intBits x <= 64:=fun x h1 h2=>PySem.intBits_le_64 (by omega) (by omega)
 have bpos:∀ n ∈ xs.map dY.b,0 < n:=fun n hn=>by
  obtain ⟨x,hx,rfl⟩:=List.mem_map.mp hn
  exact (g.fq x hx).fr.pos
 refine ⟨_,rfl,a,rfl,⟨_,bO.of hT.lst⟩,fun D hD=>?_⟩
 refine cM (xs:=jK xs) (fun i τ H'=>∃ v0 v1,τ = [v0,v1,some (.ref a),some (.int p),none,none,none,none,none,none] /\ aN H H' /\ H' D=some (.lst ((xs.take i).map fun x=>V.int x.b))) ⟨none,none,rfl,aF hD _,aB⟩ ?keep ?turn ?done
 case keep =>
  rintro i τ H' hi ⟨v0,v1,rfl,hs,_⟩
  exact bO.of (hT.same hs).lst
 case turn =>
  rintro i m v τ H' hm hi hv ⟨v0,v1,rfl,hs,hD'⟩
  obtain ⟨x,hx,rfl⟩:=m7 hv
  have hr:=(hT.same hs).rows x (List.mem_of_getElem? hx)
  refine ⟨x.p,_,rfl,cN.of hr.1,rfl,_,_,rfl,_,_,rfl,rfl,?_⟩
  refine fL ?_
  refine ⟨_,rfl,x.q,_,_,_,rfl,rfl,cN.of hr.2,rfl,?_⟩
  refine bH hm hi hD' (by rw [List.length_map]; exact aZ (Nat.le_trans (List.length_take_le _ _) (by omega))) ⟨_,_,rfl,hs.upd_new hD _,?_⟩
  rw [aB,bL hx,List.map_append]
  rfl
 case done =>
 rintro τ H1 ⟨v0,v1,rfl,s1,hD1⟩
 rw [hlr,List.take_length] at hD1
 have b9:∀ n ∈ xs.map dY.b,intBits n <= 1601:=fun n hn=>by
  obtain ⟨x,hx,rfl⟩:=List.mem_map.mp hn
  exact (g.bits c hx).1
 have b10:((xs.map dY.b).map intBits).sum <= 200000:=by
  have h:=oY (k:=1601) (l:=(xs.map dY.b).map intBits) fun n hn=>by
   obtain ⟨z,hz,rfl⟩:=List.mem_map.mp hn
   exact b9 z hz
  rw [List.length_map,List.length_map] at h
  omega
 refine ⟨D,xs.map dY.b,rfl,bO.of (by rw [hD1,List.map_map]; rfl),bpos,fun n hn=>Nat.le_trans (b9 n hn) (by decide),b10,?_⟩
 have hT1:=hT.same s1
 refine ⟨_,rfl,_,rfl,_,rfl,a,xs,rfl,hT1,by omega,fun H2 s2=>⟨_,_,rfl,rfl,gP (m:=64) (n:=601) (PySem.intBits_neg_le (b1 p p0 p9)) (wsz _ (by omega) (Int.le_refl _)) (by decide),_,rfl,_,_,rfl,rfl,gP (m:=64 + 601) (n:=1601) (PySem.intBits_mul_le (PySem.intBits_neg_le (b1 p p0 p9)) (wsz _ (by omega) (Int.le_refl _))) glz (by decide),?_⟩⟩
 have hT2:=hT1.same s2
 have gw2:=wt1
 rw [qQ] at gw2
 have P0:0 <= p * Tb.W (dX xs) * bQ xs:=Int.mul_nonneg (Int.mul_nonneg p0 (by omega)) (Int.le_of_lt tab.cm.pos)
 have fin:∀ (i:Nat) (tops ws:Int) (v5 v6 v7:Option V),0 < i->Tb.Lp (bQ xs) (p * Tb.W (dX xs) * bQ xs) (dX xs) i tops ws ->
   (i=(dX xs).length ∨ ∃ r,(dX xs)[(dX xs).length - 1 - i]? = some r /\ i < (dX xs).length /\ Tb.T (bQ xs) r * ws <= tops) ->
   Tz (Bt yQ [] E0 (Ij (HN 3) (Ij (X5 (rI JH fun i j=>.int (i * j)) (HN 4) (HN 2)) DN))) { nx:=fun _ H'=>Q .non H',rt:=Q } [some (.ref a),some (.int p),some (.int (bQ xs)),some (.int tops),some (.int ws),v5,v6,v7] H2:=by
  intro i tops ws v5 v6 v7 hi L stop
  have wp:=L.ws_pos tab hi
  obtain ⟨w0,wl,tlo,thi⟩:=g.lp c.k0 p0 L
  have wz:=wsz ws w0 wl
  have ne:ws * bQ xs ≠ 0:=Int.ne_of_gt (Int.mul_pos wp tab.cm.pos)
  refine ⟨_,rfl,_,rfl,_,rfl,_,_,rfl,rfl,gP wz glz (by decide),tops,ws * bQ xs,rfl,ne,Nat.le_trans (PySem.intBits_mul_le wz glz) (by decide),fun r H' s' hr'=>?_⟩
  have kp:0 <= (p + kk) * cI xs:=Int.mul_nonneg (by have:=c.k0; omega) (by omega)
  exact q r H' (Fr.sh tops (ws * bQ xs)) ws ((s1.trans s2).trans s') hr' (by omega) wl (Q5 (by omega) lm.1 kp tlo thi) (L.ends tab hi stop (Fr.Ej ne) (Fr.lX tops (ws * bQ xs)))
 refine ⟨_,rfl,a,jK xs,rfl,bO.of hT2.lst,?_⟩
 refine Lb (fun i σ H'=>∃ tops ws v5 v6 v7,σ = [some (.ref a),some (.int p),some (.int (bQ xs)),some (.int tops),some (.int ws),v5,v6,v7] /\ H'=H2 /\ Tb.Lp (bQ xs) (p * Tb.W (dX xs) * bQ xs) (dX xs) i tops ws) ?start (fun i σ H' _ ⟨_,_,_,_,_,_,e,_⟩=>by subst e; exact bO.of hT2.lst) ?turn2 ?done2
 case start =>
  refine ⟨_,_,none,none,none,rfl,rfl,?_⟩
  have e:-p * cI xs * bQ xs = -(p * Tb.W (dX xs) * bQ xs):=by rw [qQ]; grind
  show Tb.Lp _ _ _ 0 (-p * cI xs * bQ xs) 0
  rw [e]
  exact Tb.Lp.start P0
 case turn2 =>
  rintro i v σ H' hi hv ⟨tops,ws,v5,v6,v7,rfl,rfl,L⟩
  obtain ⟨x,hx,rfl⟩:=m7 hv
  have hmem:=List.mem_of_getElem? hx
  have hr:=hT2.rows x hmem
  have xp:=(g.fq x hmem).fr.pos
  have xbz:=g.bits c hmem
  rw [hlr] at hi hx
  have hx':(dX xs)[(dX xs).length - 1 - i]? = some x.r:=by rw [hrl]; unfold dX; rw [List.getElem?_map,hx]; rfl
  have tT:x.t * (bQ xs).fdiv x.b=Tb.T (bQ xs) x.r:=by
   unfold Tb.T
   rw [Int.fdiv_eq_ediv_of_nonneg _ (Int.le_of_lt xp)]
   rfl
  have tz:intBits (x.t * (bQ xs).fdiv x.b) <= 3201 + 1601:=PySem.intBits_mul_le xbz.2 (PySem.intBits_fdiv_le glz)
  obtain ⟨w0,wl,tlo,thi⟩:=g.lp c.k0 p0 L
  have wz:=wsz ws w0 wl
  have xw:=wsz x.w (by have:=g.w1 x hmem; omega) (mR g.w1 hmem)
  refine ⟨x.p,_,rfl,cN.of hr.1,rfl,_,_,rfl,_,_,rfl,rfl,?_⟩
  refine ⟨_,rfl,x.q,_,_,_,rfl,rfl,cN.of hr.2,rfl,_,rfl,_,rfl,x.q,_,_,_,rfl,rfl,cN.of hr.2,rfl,_,_,rfl,rfl,⟨Int.ne_of_gt xp,by omega⟩,_,_,rfl,rfl,gP xbz.2 (PySem.intBits_fdiv_le glz) (by decide),?_⟩
  refine ⟨_,rfl,_,_,rfl,rfl,_,rfl,?_⟩
  have go:¬ (0 < ws /\ Tb.T (bQ xs) x.r * ws <= tops)->∃ tops' ws' v5 v6 v7,[some (V.ref a),some (.int p),some (.int (bQ xs)),some (.int (tops + x.w * (x.t * (bQ xs).fdiv x.b))),some (.int (ws + x.w)),some (.ref x.q),some (.int x.w),some (.int (x.t * (bQ xs).fdiv x.b))]=[some (.ref a),some (.int p),some (.int (bQ xs)),some (.int tops'),some (.int ws'),v5,v6,v7] /\ H'=H' /\ Tb.Lp (bQ xs) (p * Tb.W (dX xs) * bQ xs) (dX xs) (i + 1) tops' ws':=fun h=>by
   have L2:=L.next tab P0 (by rw [hrl]; exact hi) hx' h
   rw [<- tT] at L2
   exact ⟨_,_,_,_,_,rfl,rfl,L2⟩
  by_cases hw:0 < ws
  ·refine CV (decide_eq_true hw) ?_
   refine ⟨_,rfl,_,rfl,_,_,rfl,rfl,gP tz wz (by decide),_,rfl,_,_,rfl,rfl,_,rfl,?_⟩
   by_cases hb:x.t * (bQ xs).fdiv x.b * ws <= tops
   ·refine CV (decide_eq_true hb) ?_
    have ip:0 < i:=by
     rcases Nat.eq_zero_or_pos i with z | z
     ·subst z
      have a0:=L.ew
      simp [Tb.W] at a0
      omega
     ·exact z
    exact fin i tops ws _ _ _ ip L (.inr ⟨x.r,hx',by rw [hrl]; exact hi,by rw [<- tT]; exact hb⟩)
   ·refine uB (decide_eq_false hb) ?_
    refine ⟨_,rfl,_,rfl,_,rfl,_,_,rfl,rfl,gP xw tz (by decide),_,_,rfl,rfl,?_⟩
    refine ⟨_,rfl,_,rfl,_,_,rfl,rfl,?_⟩
    exact go fun z=>hb (by rw [tT]; exact z.2)
  ·refine uB (decide_eq_false hw) ?_
   refine gA ?_
   refine ⟨_,rfl,_,rfl,_,rfl,_,_,rfl,rfl,gP xw tz (by decide),_,_,rfl,rfl,?_⟩
   refine ⟨_,rfl,_,rfl,_,_,rfl,rfl,?_⟩
   exact go fun z=>hw z.1
 case done2 =>
  rintro σ H' ⟨tops,ws,v5,v6,v7,rfl,rfl,L⟩
  rw [hlr] at L
  exact fin xs.length tops ws v5 v6 v7 nz L (.inl hrl.symm)
theorem vN {n:Nat}{f:Addr}{fd:FuncData} (F:eN K "ends" "Stand.ends" (aD (top 39) 1) f fd) {c:Cs} (ck:CK K c):aP P w K mg base dM (n + 1) f fd ["self"] (JF c):=by
 refine F.ok oU (fun vs H Q E h=>?_) (fun cdv A outer s H vs Q E hr h=>?_)
 ·obtain ⟨x,s,d,m,rfl,_⟩:=h
  rfl
 obtain ⟨x,s,d,m,rfl,st,q⟩:=h
 have nd:=oU.nd
 refine ⟨_,(aJ (aW (cL (pv 0) rfl))),?_⟩
 cases st with
 | en h vv ok=>exact ⟨_,rfl,x,c.e,_,_,_,rfl,h,ck.ce,ck.e1,rfl,q _ vv.n1 vv.nm vv.nx⟩
 | st h vv g lp ly row sub p0 p9 ne l4 w hk=>exact ⟨_,rfl,x,c.s,_,_,_,rfl,h,ck.cs,ck.s1,rfl,q _ vv.n1 vv.nm vv.nx⟩
theorem sU {n:Nat}{f:Addr}{fd:FuncData} (F:eN K "stages" "Stand.stages" (aD (top 39) 2) f fd) {c:Cs} (ck:CK K c):aP P w K mg base dM (n + 1) f fd ["self"] (Iv c):=by
 refine F.ok lK (fun vs H Q E h=>?_) (fun cdv A outer s H vs Q E hr h=>?_)
 ·obtain ⟨x,s,d,m,rfl,_⟩:=h
  rfl
 obtain ⟨x,s,d,m,rfl,st,q⟩:=h
 have nd:=lK.nd
 refine ⟨_,(aJ (aW (cL (pv 0) rfl))),?_⟩
 cases st with
 | en h vv ok=>exact ⟨_,rfl,x,c.e,_,_,_,rfl,h,ck.ce,ck.e2,rfl,q _ vv.k0 vv.kd vv.kx⟩
 | st h vv g lp ly row sub p0 p9 ne l4 w hk=>exact ⟨_,rfl,x,c.s,_,_,_,rfl,h,ck.cs,ck.s2,rfl,q _ vv.k0 vv.kd vv.kx⟩
theorem vO {n:Nat}{f:Addr}{fd:FuncData} (F:eN K "caps" "Stand.caps" (aD (top 39) 4) f fd) {c:Cs} (ck:CK K c) (z_list:mg "list" = none):aP P w K mg base dM (n + 1) f fd ["self"] (Dr c):=by
 refine F.ok oM (fun vs H Q E h=>?_) (fun cdv A outer s H vs Q E hr h=>?_)
 ·obtain ⟨x,s,d,m,rfl,_⟩:=h
  rfl
 obtain ⟨x,s,d,m,rfl,st,q⟩:=h
 have nd:=oM.nd
 refine ⟨_,(aJ (aW (c7 kJ rfl z_list m5 (aA (cL (pv 0) rfl) aC)))),?_⟩
 cases st with
 | @en _ _ l cp v n' k' _ _ xs h vv ok =>
  refine ⟨_,rfl,x,c.e,_,_,_,rfl,h,ck.ce,ck.e4,rfl,?_⟩
  refine ⟨cp,_,rfl,.inr (cN.of vv.caps.1),fun r hr0=>?_⟩
  have n1:=aF hr0 (.lst (jK xs))
  exact q r _ xs n1 hr0 ⟨aB,fun y hy=>(vv.caps.2 y hy).same n1⟩ vv.gs vv.so ⟨_,vv.mt,vv.lw⟩
 | @st _ _ l cp r0 p n' k' lv _ _ j xs rs ps ys h vv g lp ly row sub p0 p9 ne l4 w hk =>
  refine ⟨_,rfl,x,c.s,_,_,_,rfl,h,ck.cs,ck.s4,rfl,?_⟩
  refine ⟨cp,_,rfl,.inr (cN.of vv.caps.1),fun r hr0=>?_⟩
  have n1:=aF hr0 (.lst (jK xs))
  exact q r _ xs n1 hr0 ⟨aB,fun y hy=>(vv.caps.2 y hy).same n1⟩ vv.gs vv.so ⟨_,vv.mt,vv.lw⟩
theorem pG {n:Nat}{f:Addr}{fd:FuncData} (F:eN K "__init__" "Stand.__init__" (aD (top 39) 0) f fd) {c:Cs} (ck:CK K c) (z_tuple:mg "tuple" = none):aP P w K mg base dM (n + 1) f fd ["self","end_count","stage_count","level","cap_rows"] (JR c):=by
 refine F.ok jM (fun vs H Q E h=>?_) (fun cdv A outer s H vs Q E hr h=>?_)
 ·obtain ⟨x,dx,C,l,a,n1,k1,xs,rfl,_⟩:=h
  rfl
 obtain ⟨x,dx,C,l,a,n1,k1,xs,rfl,hC,hx,hT,q⟩:=h
 have nd:=jM.nd
 refine ⟨_,(aG (eO (pv 0) (pv 1) rfl) (aG (eO (pv 0) (pv 2) rfl) (aG (eO (pv 0) (pv 3) rfl) (aJ (eO (pv 0) (c7 (cZ (K:=K) rfl) rfl z_tuple gH (aA (pv 4) aC)) rfl))))),?_⟩
 have cC:zR K C /\ bV K C "end_count" /\ bV K C "stage_count" /\ bV K C "level" /\ bV K C "cap_rows":=by
  rcases hC with e | e <;> subst e
  ·exact ⟨ck.ce,ck.e1,ck.e2,ck.e3,ck.e4⟩
  ·exact ⟨ck.cs,ck.s1,ck.s2,ck.s3,ck.s4⟩
 have nax:a ≠ x:=bJ hT.lst hx fun z=>nomatch z
 refine ⟨_,rfl,_,rfl,x,C,dx,[],rfl,hx,cC.1,cC.2.1,(by show _ < 1000; decide),?_⟩
 refine ⟨_,rfl,_,rfl,x,C,dx,_,rfl,aB,cC.1,cC.2.2.1,(by show 1 < 1000; decide),?_⟩
 refine ⟨_,rfl,_,rfl,x,C,dx,_,rfl,aB,cC.1,cC.2.2.2.1,(by show 2 < 1000; decide),?_⟩
 refine ⟨_,rfl,a,_,rfl,.inl ⟨bO.of (by rw [aL nax,aL nax,aL nax]; exact hT.lst),fun t ht=>?_⟩⟩
 have htx:t ≠ x:=fun e=>by rw [e,aB] at ht; cases ht
 refine ⟨_,rfl,x,C,dx,_,rfl,by rw [aL (Ne.symm htx)]; exact aB,cC.1,cC.2.2.2.2,(by show 3 < 1000; decide),?_⟩
 rw [aL htx,aL htx,aL htx] at ht
 refine q t _ ht (fun b o nb e=>?_) aB ?_
 ·rw [aL nb,aL (aR e ht),aL nb,aL nb,aL nb]
  exact e
 ·rw [aL htx]
  exact aB
theorem Cw {n:Nat}{f:Addr}{fd:FuncData} (F:eN K "is_whole" "is_whole" (top 15) f fd) (z_isinstance:mg "isinstance" = none) (z_bool:mg "bool" = none) (z_int:mg "int" = none):aP P w K mg base dM (n + 1) f fd ["thing","least","most"] qX:=by
 refine F.ok rO (fun vs H Q E h=>?_) (fun cdv A outer s H vs Q E hr h=>?_)
 ·obtain ⟨v,lo,hi,b,rfl,_⟩:=h
  rfl
 obtain ⟨v,lo,hi,b,rfl,h,q⟩:=h
 have nd:=rO.nd
 refine ⟨_,(aJ (aW (zO (bB (iI (T:="int")) rfl z_isinstance bC (aA (pv 0) (aA (mZ (v:=.ty "int") rfl z_int Jo rfl) aC))) (zO (QR (bB (iI (T:="bool")) rfl z_isinstance bC (aA (pv 0) (aA (mZ (v:=.ty "bool") rfl z_bool Lf rfl) aC)))) (Aa (KD tX tX (pv 1) (pv 0) (pv 2))))))),?_⟩
 cases h with
 | no h =>
  obtain ⟨t,ht,hk⟩:=h K
  refine ⟨_,rfl,_,_,_,rfl,ht,hk,_,rfl,?_⟩
  exact gA q
 | bl c =>
  refine ⟨_,rfl,_,_,_,rfl,.bl c,z9,_,rfl,?_⟩
  refine fX ?_
  refine ⟨_,rfl,_,_,_,rfl,.bl c,gM _,_,rfl,?_⟩
  refine ⟨_,rfl,?_⟩
  exact gA q
 | int i =>
  refine ⟨_,rfl,_,_,_,rfl,.int i,gM _,_,rfl,?_⟩
  refine fX ?_
  refine ⟨_,rfl,_,_,_,rfl,.int i,Ac,_,rfl,?_⟩
  refine ⟨_,rfl,?_⟩
  refine fX ?_
  refine ⟨_,rfl,_,rfl,_,_,rfl,rfl,_,rfl,?_⟩
  by_cases h1:lo <= i
  ·refine CV (decide_eq_true h1) ?_
   refine ⟨_,rfl,_,_,rfl,rfl,?_⟩
   rw [decide_eq_true h1] at q
   exact q
  ·refine uB (decide_eq_false h1) ?_
   rw [decide_eq_false h1] at q
   exact q
theorem BR {n:Nat}{f:Addr}{fd:FuncData} (F:eN K "is_stand" "is_stand" (top 42) f fd) {c:Cs} (ck:CK K c) (ct:CT K c) (cn:CN K c) (g_End:mg "End" = some (.ref c.e)) (g_Stage:mg "Stage" = some (.ref c.s)) (z_isinstance:mg "isinstance" = none):aP P w K mg base dM (n + 1) f fd ["thing"] (Ka c K):=by
 refine F.ok rG (fun vs H Q E h=>?_) (fun cdv A outer s H vs Q E hr h=>?_)
 ·obtain ⟨v,b,rfl,_⟩:=h
  rfl
 obtain ⟨v,b,rfl,h,q⟩:=h
 have nd:=rG.nd
 refine ⟨_,(aJ (aW (ZJ (bB (pB (K:=K) rfl) rfl z_isinstance bC (aA (pv 0) (aA (dB (v:=.ref c.e) rfl g_End rfl) aC))) (Aa (bB (pB (K:=K) rfl) rfl z_isinstance bC (aA (pv 0) (aA (dB (v:=.ref c.s) rfl g_Stage rfl) aC))))))),?_⟩
 cases h with
 | yes st =>
  cases st with
  | en h vv ok =>
   refine ⟨_,rfl,_,c.e,.ref c.e,true,rfl,.ins h ck.ce ct.ea ct.hn ct.htk ct.em,ct.ee,?_⟩
   refine ⟨_,rfl,?_⟩
   refine fX ?_
   exact q
  | st h vv g lp ly row sub p0 p9 ne l4 w hk =>
   refine ⟨_,rfl,_,c.e,.ref c.s,false,rfl,.ins h ck.cs ct.sa ct.hn ct.htk ct.sm,ct.se,?_⟩
   refine ⟨_,rfl,?_⟩
   refine gA ?_
   exact ⟨_,rfl,_,c.s,.ref c.s,true,rfl,.ins h ck.cs ct.sa ct.hn ct.htk ct.sm,ct.ss,q⟩
 | no h ht =>
  have z:=cn.all _ ht
  refine ⟨_,rfl,_,c.e,_,false,rfl,h,z.1,?_⟩
  refine ⟨_,rfl,?_⟩
  refine gA ?_
  exact ⟨_,rfl,_,c.s,_,false,rfl,h,z.2,q⟩
theorem sG {n:Nat}{f:Addr}{fd:FuncData} (F:eN K "is_stage_row" "is_stage_row" (top 43) f fd) {c:Cs}{g_is_stand:Addr}{gd_is_stand:FuncData} (c_is_stand:gG P w K mg base n "is_stand" ["thing"] (Ka c K) g_is_stand gd_is_stand) {g_is_whole:Addr}{gd_is_whole:FuncData} (c_is_whole:gG P w K mg base n "is_whole" ["thing","least","most"] qX g_is_whole gd_is_whole) (z_len:mg "len" = none) (z_isinstance:mg "isinstance" = none) (z_tuple:mg "tuple" = none) {u_MOST_WEIGHT:Value} (g_MOST_WEIGHT:mg "MOST_WEIGHT" = some u_MOST_WEIGHT) (r_MOST_WEIGHT:bG (.int 1000) u_MOST_WEIGHT):aP P w K mg base dM (n + 1) f fd ["row"] (Fe c K):=by
 refine F.ok lJ (fun vs H Q E h=>?_) (fun cdv A outer s H vs Q E hr h=>?_)
 ·obtain ⟨v,b,rfl,_⟩:=h
  rfl
 obtain ⟨v,b,rfl,h,q⟩:=h
 have nd:=lJ.nd
 refine ⟨_,(aG (dO (PW.pt (rN (fW (fK (bB (iI (T:="tuple")) rfl z_isinstance bC (aA (pv 0) (aA (mZ (v:=.ty "tuple") rfl z_tuple gH rfl) aC))))) (mG (bZ Nt (bB dD rfl z_len kW (aA (pv 0) aC)) aH (cO _))))) (aJ (aW lR)) bY) (aJ (aW (zO (aM c_is_whole hr (aA (bU eV (pv 0) aH (fun _ _=>rfl)) (aA aH (aA (dB (v:=.int 1000) rfl g_MOST_WEIGHT r_MOST_WEIGHT) aC)))) (Aa (aM c_is_stand hr (aA (bU eV (pv 0) aH (fun _ _=>rfl)) aC))))))),?_⟩
 cases h with
 | no ht hk =>
  refine ⟨_,rfl,_,_,_,rfl,ht,hk,_,rfl,?_⟩
  exact fX (fX q)
 | @len a xs e hl =>
  refine ⟨_,rfl,_,_,_,rfl,.tup e,gM _,_,rfl,?_⟩
  refine gA ?_
  refine ⟨_,rfl,a,_,rfl,.inr (cN.of e),rfl,_,rfl,?_⟩
  refine CV ?_ q
  rw [decide_eq_false (fun z=>hl (by injection z with z; omega))]
  rfl
 | @two a x y b1 b2 e hx hy =>
  refine ⟨_,rfl,_,_,_,rfl,.tup e,gM _,_,rfl,?_⟩
  refine gA ?_
  refine ⟨_,rfl,a,_,rfl,.inr (cN.of e),rfl,_,rfl,?_⟩
  refine gA ?_
  refine ⟨_,rfl,a,_,_,_,rfl,rfl,cN.of e,rfl,x,1,1000,b1,rfl,hx,_,rfl,?_⟩
  cases b1 with
  | false=>exact gA q
  | true =>
   refine fX ?_
   exact ⟨_,rfl,a,_,_,_,rfl,rfl,cN.of e,rfl,y,b2,rfl,hy,q⟩
theorem qU {n:Nat}{f:Addr}{fd:FuncData} (F:eN K "is_stage_rows" "is_stage_rows" (top 44) f fd) {c:Cs}{g_is_stage_row:Addr}{gd_is_stage_row:FuncData} (c_is_stage_row:gG P w K mg base n "is_stage_row" ["row"] (Fe c K) g_is_stage_row gd_is_stage_row) (z_all:mg "all" = none) (z_len:mg "len" = none) (z_isinstance:mg "isinstance" = none) (z_list:mg "list" = none) {u_MOST_STAGE_ROWS:Value} (g_MOST_STAGE_ROWS:mg "MOST_STAGE_ROWS" = some u_MOST_STAGE_ROWS) (r_MOST_STAGE_ROWS:bG (.int 4) u_MOST_STAGE_ROWS):aP P w K mg base dM (n + 1) f fd ["rows"] (Av c K):=by
 refine F.ok j5 (fun vs H Q E h=>?_) (fun cdv A outer s H vs Q E hr h=>?_)
 ·obtain ⟨v,b,rfl,_⟩:=h
  rfl
 obtain ⟨v,b,rfl,h,q⟩:=h
 have nd:=j5.nd
 refine ⟨_,(aG (dO (PW.pt (rN (fW (fK (bB (iI (T:="list")) rfl z_isinstance bC (aA (pv 0) (aA (mZ (v:=.ty "list") rfl z_list m5 rfl) aC))))) (mG (fW (CG tX tX aH (bB dD rfl z_len kW (aA (pv 0) aC)) (dB (v:=.int 4) rfl g_MOST_STAGE_ROWS r_MOST_STAGE_ROWS)))))) (aJ (aW lR)) bY) (aJ (aW (bB (xB rfl rfl) rfl z_all J4 (aA (cH (ls:=["row"]) (M:=["rows"]) rfl (bT.of (by rfl)) (NL.of (by rfl)) (cV (pv 0)) (fun _ _ _ _=>⟨(bA (i:=0) (cU (by rfl)) rfl (Or.inl rfl)),cG,(aM c_is_stage_row hr (aA (pv 0) aC))⟩)) aC))))),?_⟩
 cases h with
 | no h =>
  obtain ⟨t,ht,hk⟩:=h K
  refine ⟨_,rfl,_,_,_,rfl,ht,hk,_,rfl,?_⟩
  exact fX (fX (q H (aN.refl _)))
 | @len a xs e hl =>
  refine ⟨_,rfl,_,_,_,rfl,.lst e,gM _,_,rfl,?_⟩
  refine gA ?_
  refine ⟨_,rfl,a,_,rfl,.inl (bO.of e),_,_,rfl,rfl,_,rfl,?_⟩
  by_cases h1:1 <= xs.length
  ·refine CV (decide_eq_true (show (1:Int) <= _ by omega)) ?_
   refine ⟨_,_,rfl,rfl,_,rfl,?_⟩
   refine CV ?_ (q H (aN.refl _))
   rw [decide_eq_false (show ¬ (xs.length:Int) <= 4 by omega)]
   rfl
  ·refine uB (decide_eq_false (show ¬ (1:Int) <= _ by omega)) ?_
   refine ⟨_,rfl,?_⟩
   exact fX (q H (aN.refl _))
 | @all a xs bs e h1 h8 hb h =>
  refine ⟨_,rfl,_,_,_,rfl,.lst e,gM _,_,rfl,?_⟩
  refine gA ?_
  refine ⟨_,rfl,a,_,rfl,.inl (bO.of e),_,_,rfl,rfl,_,rfl,?_⟩
  refine CV (decide_eq_true (show (1:Int) <= _ by omega)) ?_
  refine ⟨_,_,rfl,rfl,_,rfl,?_⟩
  refine uB (by rw [decide_eq_true (show (xs.length:Int) <= 4 by omega)]; rfl) ?_
  refine ⟨_,rfl,a,rfl,⟨_,bO.of e⟩,fun D hD=>?_⟩
  refine cM (xs:=xs) (fun i τ H'=>∃ v0,τ = [v0,some (.ref a)] /\ aN H H' /\ H' D=some (.lst ((bs.take i).map V.bl))) ⟨none,rfl,aF hD _,aB⟩ ?keep ?turn ?done
  case keep =>
   rintro i τ H' hi ⟨v0,rfl,hs,_⟩
   exact bO.of (hs _ _ e)
  case turn =>
   rintro i m v τ H' hm hi hv ⟨v0,rfl,hs,hD'⟩
   have hib:i < bs.length:=by omega
   have eb:bs[i]? = some (bs.getD i false):=by rw [List.getElem?_eq_getElem hib,iB hib]
   refine uU ?_
   refine ⟨_,rfl,v,bs.getD i false,rfl,(h i v hv).kt (aN.kt hs),?_⟩
   refine bH hm hi hD' (by rw [List.length_map,List.length_take]; exact aZ (by omega)) ⟨_,rfl,hs.upd_new hD _,?_⟩
   rw [aB,bL eb,List.map_append]
   rfl
  case done =>
   rintro τ H' ⟨v0,rfl,hs,hD'⟩
   rw [<- hb,List.take_length] at hD'
   exact ⟨D,_,rfl,bO.of hD',q H' hs⟩
theorem wG {n:Nat}{f:Addr}{fd:FuncData} (F:eN K "need_boxes" "need_boxes" (top 45) f fd) {c:Cs}{C_NoBox:Addr} (g_NoBox:mg "NoBox" = some (.ref C_NoBox)) (x_NoBox:rZ K C_NoBox) {g_is_stand:Addr}{gd_is_stand:FuncData} (c_is_stand:gG P w K mg base n "is_stand" ["thing"] (Ka c K) g_is_stand gd_is_stand) (z_all:mg "all" = none) (z_len:mg "len" = none) (z_isinstance:mg "isinstance" = none) (z_list:mg "list" = none) {u_MOST_BOXES:Value} (g_MOST_BOXES:mg "MOST_BOXES" = some u_MOST_BOXES) (r_MOST_BOXES:bG (.int 6) u_MOST_BOXES):aP P w K mg base (jJ P w) (n + 1) f fd ["boxes"] (RK c K C_NoBox):=by
 refine F.okX oH (fun vs H Q E h=>?_) (fun cdv A outer s H vs Q E hr h=>?_)
 ·obtain ⟨v,b,rfl,_⟩:=h
  rfl
 obtain ⟨v,b,rfl,h,qt,qf⟩:=h
 have nd:=oH.nd
 refine ⟨_,(aG (dO (PT.nox (PW.pt (rN (fW (fK (bB (iI (T:="list")) rfl z_isinstance bC (aA (pv 0) (aA (mZ (v:=.ty "list") rfl z_list m5 rfl) aC))))) (mG (fW (CG tX tX aH (bB dD rfl z_len kW (aA (pv 0) aC)) (dB (v:=.int 6) rfl g_MOST_BOXES r_MOST_BOXES))))))) (aJ (iK gC rfl rfl g_NoBox x_NoBox)) bY) (aJ (dO (PT.nox (fW (fK (bB (xB rfl rfl) rfl z_all J4 (aA (cH (ls:=["box"]) (M:=["boxes"]) rfl (bT.of (by rfl)) (NL.of (by rfl)) (cV (pv 0)) (fun _ _ _ _=>⟨(bA (i:=0) (cU (by rfl)) rfl (Or.inl rfl)),cG,(aM c_is_stand hr (aA (pv 0) aC))⟩)) aC)))) ) (aJ (iK gC rfl rfl g_NoBox x_NoBox)) bY))),?_⟩
 cases h with
 | no h =>
  obtain ⟨t,ht,hk⟩:=h K
  refine ⟨_,rfl,_,_,_,rfl,ht,hk,_,rfl,?_⟩
  exact fX (fX (qf rfl H (aN.refl _)))
 | @len a xs e hl =>
  refine ⟨_,rfl,_,_,_,rfl,.lst e,gM _,_,rfl,?_⟩
  refine gA ?_
  refine ⟨_,rfl,a,_,rfl,.inl (bO.of e),_,_,rfl,rfl,_,rfl,?_⟩
  by_cases h1:1 <= xs.length
  ·refine CV (decide_eq_true (show (1:Int) <= _ by omega)) ?_
   refine ⟨_,_,rfl,rfl,_,rfl,?_⟩
   refine CV ?_ (qf rfl H (aN.refl _))
   rw [decide_eq_false (show ¬ (xs.length:Int) <= 6 by omega)]
   rfl
  ·refine uB (decide_eq_false (show ¬ (1:Int) <= _ by omega)) ?_
   refine ⟨_,rfl,?_⟩
   exact fX (qf rfl H (aN.refl _))
 | @all a xs bs e h1 h8 hb h =>
  refine ⟨_,rfl,_,_,_,rfl,.lst e,gM _,_,rfl,?_⟩
  refine gA ?_
  refine ⟨_,rfl,a,_,rfl,.inl (bO.of e),_,_,rfl,rfl,_,rfl,?_⟩
  refine CV (decide_eq_true (show (1:Int) <= _ by omega)) ?_
  refine ⟨_,_,rfl,rfl,_,rfl,?_⟩
  refine uB (by rw [decide_eq_true (show (xs.length:Int) <= 6 by omega)]; rfl) ?_
  refine ⟨_,rfl,a,rfl,⟨_,bO.of e⟩,fun D hD=>?_⟩
  refine cM (xs:=xs) (fun i τ H'=>∃ v0,τ = [v0,some (.ref a)] /\ aN H H' /\ H' D=some (.lst ((bs.take i).map V.bl))) ⟨none,rfl,aF hD _,aB⟩ ?keep ?turn ?done
  case keep =>
   rintro i τ H' hi ⟨v0,rfl,hs,_⟩
   exact bO.of (hs _ _ e)
  case turn =>
   rintro i m v τ H' hm hi hv ⟨v0,rfl,hs,hD'⟩
   have hib:i < bs.length:=by omega
   have eb:bs[i]? = some (bs.getD i false):=by rw [List.getElem?_eq_getElem hib,iB hib]
   refine uU ?_
   refine ⟨_,rfl,v,bs.getD i false,rfl,(h i v hv).kt (aN.kt hs),?_⟩
   refine bH hm hi hD' (by rw [List.length_map,List.length_take]; exact aZ (by omega)) ⟨_,rfl,hs.upd_new hD _,?_⟩
   rw [aB,bL eb,List.map_append]
   rfl
  case done =>
   rintro τ H' ⟨v0,rfl,hs,hD'⟩
   rw [<- hb,List.take_length] at hD'
   refine ⟨D,bs,rfl,bO.of hD',_,rfl,?_⟩
   cases hbb:bs.all id with
   | true=>exact gA (qt hbb H' hs)
   | false=>exact fX (qf hbb H' hs)
theorem sE {n:Nat}{f:Addr}{fd:FuncData} (F:eN K "__init__" "End.__init__" (aD (top 40) 0) f fd) {c:Cs} (ck:CK K c) {cSt fStI:Addr}{fdStI:FuncData} (g_Stand:mg "Stand" = some (.ref cSt)) (mS_i:M5 K cSt "__init__" fStI) (G_StI:aP P w K mg base dM n fStI fdStI ["self","end_count","stage_count","level","cap_rows"] (JR c)) (b_StI:aY K fdStI ["self","end_count","stage_count","level","cap_rows"] []) {C_NoBox:Addr} (g_NoBox:mg "NoBox" = some (.ref C_NoBox)) (x_NoBox:rZ K C_NoBox) {g_whole:Addr}{gd_whole:FuncData} (c_whole:gG P w K mg base n "whole" ["number"] Y9 g_whole gd_whole) {g_is_whole:Addr}{gd_is_whole:FuncData} (c_is_whole:gG P w K mg base n "is_whole" ["thing","least","most"] qX g_is_whole gd_is_whole) {u_MOST_WORTH:Value} (g_MOST_WORTH:mg "MOST_WORTH" = some u_MOST_WORTH) (r_MOST_WORTH:bG (.int 1000000000) u_MOST_WORTH):aP P w K mg base (jJ P w) (n + 1) f fd ["self","worth"] (Nu c C_NoBox):=by
 refine F.okX lL (fun vs H Q E h=>?_) (fun cdv A outer s H vs Q E hr h=>?_)
 ·rcases h with ⟨x,dx,v,rfl,_⟩ | ⟨x,v,rfl,_⟩ <;> rfl
 have nd:=lL.nd
 refine ⟨_,(aG (dO (PT.nox (fW (fK (aM c_is_whole hr (aA (pv 1) (aA aH (aA (dB (v:=.int 1000000000) rfl g_MOST_WORTH r_MOST_WORTH) aC))))))) (aJ (iK gC rfl rfl g_NoBox x_NoBox)) bY) (oZ.nox (aG (eF (Ep rfl g_Stand mS_i G_StI hr b_StI .nil cT (aA (pv 0) (aA aH (aA aH (aA (aM c_whole hr (aA (pv 1) aC)) (aA (dU (aA (eU (aA (aM c_whole hr (aA (pv 1) aC)) (aA aH aC))) aC)) aC))))))) (aJ (eO (pv 0) (pv 1) rfl))))),?_⟩
 rcases h with ⟨x,dx,v,rfl,hx,h0,h9,q⟩ | ⟨x,v,rfl,h,q⟩
 rotate_left
 ·refine ⟨_,rfl,v,0,1000000000,false,rfl,h,?_⟩
  refine ⟨_,rfl,?_⟩
  exact fX q
 refine ⟨_,rfl,.int v,0,1000000000,true,rfl,fO.yes h0 h9,?_⟩
 refine ⟨_,rfl,?_⟩
 refine gA ?_
 refine ⟨_,rfl,_,rfl,v,rfl,fun l H1 s1 hl=>?_⟩
 refine ⟨_,rfl,v,rfl,fun p H2 s2 hp=>?_⟩
 refine ⟨vY,fun t ht=>?_⟩
 refine ⟨MK,fun a ha=>?_⟩
 have n3:=aF ht (.tup [.ref p,.int 1])
 have n4:=aF ha (.lst [.ref t])
 have s4:=((s1.trans s2).trans n3).trans n4
 have hT:fY (aU (aU H2 t (.tup [.ref p,.int 1])) a (.lst [.ref t])) a [⟨t,p,v,1,1⟩]:=⟨aB,fun y hy=>by rw [List.mem_singleton.mp hy]; exact ⟨n4 _ _ aB,(n3.trans n4) _ _ hp⟩⟩
 have hl4:=(s2.trans (n3.trans n4)) _ _ hl
 generalize aU (aU H2 t (.tup [.ref p,.int 1])) a (.lst [.ref t])=H4 at n4 s4 hT hl4 ⊢
 refine ⟨x,dx,c.e,l,a,1,0,_,rfl,.inl rfl,s4 _ _ hx,hT,fun cp H5 cn k5 hx5 hc5=>?_⟩
 refine ⟨_,rfl,_,rfl,x,c.e,dx,_,rfl,hx5,ck.ce,ck.e5,(by show 4 < 1000; decide),?_⟩
 have hx4:=s4 _ _ hx
 have hu:∀ b o,b ≠ x->H4 b=some o->aU H5 x (.ins c.e dx (fE 1 0 l cp v)) b=some o:=fun b o nb e=>by rw [aL nb]; exact k5 b o nb e
 have tu:∀ b xs,H4 b=some (.tup xs)->aU H5 x (.ins c.e dx (fE 1 0 l cp v)) b=some (.tup xs):=fun b xs e=>hu b _ (bJ e hx4 fun z=>nomatch z) e
 refine q _ (fun b o nb e=>hu b o nb (s4 _ _ e)) fun d m hm=>?_
 refine .en (dx:=dx) (l:=l) (cp:=cp) (n:=1) (k:=0) (xs:=[⟨t,p,v,1,1⟩]) aB ⟨tu _ _ hl4,⟨?_,fun y hy=>?_⟩,Oc h0 h9 hm,List.pairwise_singleton _ _,by decide,by omega,by decide,by omega,Sd.Ro v d,Pj h0 h9,rfl,rfl⟩ (.en h0 h9 hm)
 ·have:cp ≠ x:=fun e=>by rw [e,hx5] at hc5; cases hc5
  rw [aL this]
  exact hc5
 ·have:=hT.rows y hy
  exact ⟨tu _ _ this.1,tu _ _ this.2⟩
theorem GC {H:Hp}{D:Addr}{e:iQ}{zs:List V}{o:HO} (hD:H D=some (.lst zs)) (n:e.a ≠ D) (h:w5 H e):w5 (aU H D o) e:=by
 refine ⟨?_,?_,fun x hx=>⟨?_,?_⟩⟩
 ·rw [aL (bJ h.1 hD fun z=>nomatch z)]; exact h.1
 ·rw [aL n]; exact h.2.lst
 ·rw [aL (bJ (h.2.rows x hx).1 hD fun z=>nomatch z)]; exact (h.2.rows x hx).1
 ·rw [aL (bJ (h.2.rows x hx).2 hD fun z=>nomatch z)]; exact (h.2.rows x hx).2
theorem O7 {ns:List Int} (h:∀ n ∈ ns,1 <= n /\ True):(ns.length:Int) <= ns.sum:=by
 induction ns with
 | nil=>simp
 | cons n ns ih =>
  have a:=(h n List.mem_cons_self).1
  have b:=ih fun m hm=>h m (List.mem_cons_of_mem _ hm)
  rw [List.sum_cons,List.length_cons]
  push_cast
  omega
theorem jY.good {c:Cs}{K:PySem.W.Frag}{H:Hp}{a:Addr}{ps ys:List Addr}{rs:List (Int × Sd.Sd)}{d:Nat}{j:Int × Sd.Sd->Nat} (g:Ea c H a ps ys rs d j):jY c K H (.ref a) true:=by
 have hl:(ps.map V.ref).length=rs.length:=by rw [List.length_map]; exact g.R.lp
 have h:=jY.all (c:=c) (K:=K) (bs:=List.replicate rs.length true) g.ha (by rw [hl]; exact List.length_pos_iff.mpr g.ne) (by rw [hl]; exact g.l4) (by rw [List.length_replicate,hl]) fun i v hv=>by
  obtain ⟨q1,y,t,_,_,er,rfl,h1,st,mem⟩:=g.R.at_ hv
  have hi:=(List.getElem?_eq_some_iff.mp er).1
  have e:(List.replicate rs.length true).getD i false=true:=by simp [List.getD,hi]
  rw [e]
  exact yO.two h1 (fO.yes (g.ww t mem).1 (g.ww t mem).2) (.yes st)
 have e:(List.replicate rs.length true).all id=true:=by simp
 rw [e] at h
 exact h
theorem pU {n:Nat}{f:Addr}{fd:FuncData} (F:eN K "__init__" "Stage.__init__" (aD (top 41) 0) f fd) {c:Cs} (ck:CK K c) {cSt fStI:Addr}{fdStI:FuncData} (g_Stand:mg "Stand" = some (.ref cSt)) (mS_i:M5 K cSt "__init__" fStI) (G_StI:aP P w K mg base dM n fStI fdStI ["self","end_count","stage_count","level","cap_rows"] (JR c)) (b_StI:aY K fdStI ["self","end_count","stage_count","level","cap_rows"] []) (cfE:zR K c.e) (cfS:zR K c.s) {f_ends:Addr}{fd_ends:FuncData} (m_Ee:cB K c.e "ends" f_ends) (m_Se:cB K c.s "ends" f_ends) (G_ends:aP P w K mg base dM n f_ends fd_ends ["self"] (JF c)) (b_ends:aY K fd_ends ["self"] []) {f_stgs:Addr}{fd_stgs:FuncData} (m_Eg:cB K c.e "stages" f_stgs) (m_Sg:cB K c.s "stages" f_stgs) (G_stgs:aP P w K mg base dM n f_stgs fd_stgs ["self"] (Iv c)) (b_stgs:aY K fd_stgs ["self"] []) {f_caps:Addr}{fd_caps:FuncData} (m_Ec:cB K c.e "caps" f_caps) (m_Sc:cB K c.s "caps" f_caps) (G_caps:aP P w K mg base dM n f_caps fd_caps ["self"] (Dr c)) (b_caps:aY K fd_caps ["self"] []) {C_NoBox:Addr} (g_NoBox:mg "NoBox" = some (.ref C_NoBox)) (x_NoBox:rZ K C_NoBox) {g_capped:Addr}{gd_capped:FuncData} (c_capped:gG P w K mg base n "capped" ["table","level"] (Jz Pt iJ) g_capped gd_capped) {g_level_for:Addr}{gd_level_for:FuncData} (c_level_for:gG P w K mg base n "level_for" ["table","price"] N8 g_level_for gd_level_for) {g_mixed:Addr}{gd_mixed:FuncData} (c_mixed:gG P w K mg base n "mixed" ["rows"] (IV Pt iJ) g_mixed gd_mixed) {g_is_stage_rows:Addr}{gd_is_stage_rows:FuncData} (c_is_stage_rows:gG P w K mg base n "is_stage_rows" ["rows"] (Av c K) g_is_stage_rows gd_is_stage_rows) {g_is_whole:Addr}{gd_is_whole:FuncData} (c_is_whole:gG P w K mg base n "is_whole" ["thing","least","most"] qX g_is_whole gd_is_whole) (z_tuple:mg "tuple" = none) (z_max:mg "max" = none) (z_sum:mg "sum" = none) {u_MOST_STAGES:Value} (g_MOST_STAGES:mg "MOST_STAGES" = some u_MOST_STAGES) (r_MOST_STAGES:bG (.int 4) u_MOST_STAGES) {u_MOST_ENDS:Value} (g_MOST_ENDS:mg "MOST_ENDS" = some u_MOST_ENDS) (r_MOST_ENDS:bG (.int 12) u_MOST_ENDS) {u_MOST_PRICE:Value} (g_MOST_PRICE:mg "MOST_PRICE" = some u_MOST_PRICE) (r_MOST_PRICE:bG (.int 1000000000) u_MOST_PRICE):aP P w K mg base (jJ P w) (n + 1) f fd ["self","price","rows"] (N7 c K C_NoBox Pt iJ):=by
 refine F.okX jO (fun vs H Q E h=>?_) (fun cdv A outer s H vs Q E hr h=>?_)
 ·rcases h with ⟨x,dx,a,p,ps,ys,rs,d,j,rfl,_⟩ | ⟨x,v,w,rfl,_⟩ <;> rfl
 have nd:=jO.nd
 refine ⟨_,(aG (dO (PT.nox (PW.pt (rN (fW (fK (aM c_is_whole hr (aA (pv 1) (aA aH (aA (dB (v:=.int 1000000000) rfl g_MOST_PRICE r_MOST_PRICE) aC)))))) (mG (fW (fK (aM c_is_stage_rows hr (aA (pv 2) aC)))))))) (aJ (iK gC rfl rfl g_NoBox x_NoBox)) bY) (aG (PS.nox (aV (i:=3) nd rfl (Or.inl rfl) (bB (mL rfl) rfl z_sum u0 (aA (cH (ls:=["weight","stand"]) (M:=["self","price","rows","end_count","stage_count","behind","level"]) rfl (bT.of (by rfl)) (NL.of (by rfl)) (cV (pv 2)) (fun _ _ _ _=>⟨(gK (K:=K) (n:=2) rfl rfl (bM (bA (i:=0) (cU (by rfl)) rfl (Or.inl rfl)) (bM (bA (i:=1) (cU (by rfl)) rfl (Or.inl rfl)) fM))),cG,(fU (bK (pv 1) cfE m_Ee G_ends hr b_ends .nil cT) (bK (pv 1) cfS m_Se G_ends hr b_ends .nil cT))⟩)) aC)))) (aG (PS.nox (aV (i:=4) nd rfl (Or.inl rfl) (aQ fP aH (bB (xU rfl) rfl z_max KR (aA (cH (ls:=["weight","stand"]) (M:=["self","price","rows","end_count","stage_count","behind","level"]) rfl (bT.of (by rfl)) (NL.of (by rfl)) (cV (pv 2)) (fun _ _ _ _=>⟨(gK (K:=K) (n:=2) rfl rfl (bM (bA (i:=0) (cU (by rfl)) rfl (Or.inl rfl)) (bM (bA (i:=1) (cU (by rfl)) rfl (Or.inl rfl)) fM))),cG,(fU (bK (pv 1) cfE m_Eg G_stgs hr b_stgs .nil cT) (bK (pv 1) cfS m_Sg G_stgs hr b_stgs .nil cT))⟩)) aC))))) (aG (dO (PT.nox (PW.pt (rN (bZ GD (pv 3) (dB (v:=.int 12) rfl g_MOST_ENDS r_MOST_ENDS) (cO _)) (mG (bZ GD (pv 4) (dB (v:=.int 4) rfl g_MOST_STAGES r_MOST_STAGES) (cO _)))))) (aJ (iK gC rfl rfl g_NoBox x_NoBox)) bY) (oZ.nox (aG (aV (i:=5) nd rfl (Or.inl rfl) (aM c_mixed hr (aA (cH (ls:=["weight","stand"]) (M:=["self","price","rows","end_count","stage_count","behind","level"]) rfl (bT.of (by rfl)) (NL.of (by rfl)) (cV (pv 2)) (fun _ _ _ _=>⟨(gK (K:=K) (n:=2) rfl rfl (bM (bA (i:=0) (cU (by rfl)) rfl (Or.inl rfl)) (bM (bA (i:=1) (cU (by rfl)) rfl (Or.inl rfl)) fM))),cG,(eU (aA (pv 0) (aA (fU (bK (pv 1) cfE m_Ec G_caps hr b_caps .nil cT) (bK (pv 1) cfS m_Sc G_caps hr b_caps .nil cT)) aC)))⟩)) aC))) (aG (aV (i:=6) nd rfl (Or.inl rfl) (aM c_level_for hr (aA (pv 5) (aA (pv 1) aC)))) (aG (eF (Ep rfl g_Stand mS_i G_StI hr b_StI .nil cT (aA (pv 0) (aA (pv 3) (aA (pv 4) (aA (pv 6) (aA (aM c_capped hr (aA (pv 5) (aA (pv 6) aC))) aC))))))) (aG (eO (pv 0) (pv 1) rfl) (aJ (eO (pv 0) (c7 (cZ (K:=K) rfl) rfl z_tuple gH (aA (pv 2) aC)) rfl))))))))))),?_⟩
 rcases h with ⟨x,dx,a,p,ps,ys,rs,d,j,rfl,hx,g0,p0,p9,hq⟩ | ⟨x,v,u,rfl,h,q⟩
 rotate_left
 ·rcases h with h | ⟨h,h2⟩
  ·refine ⟨_,rfl,v,0,1000000000,false,rfl,h,?_⟩
   refine ⟨_,rfl,?_⟩
   exact fX (fX (q H (aN.refl _)))
  ·refine ⟨_,rfl,v,0,1000000000,true,rfl,h,?_⟩
   refine ⟨_,rfl,?_⟩
   refine gA ?_
   refine ⟨_,rfl,u,false,rfl,h2,fun H1 s1=>?_⟩
   refine ⟨_,rfl,?_⟩
   exact fX (q H1 s1)
 have ha:=g0.ha
 have R:=g0.R
 have ne:=g0.ne
 have l4:=g0.l4
 have ww:=g0.ww
 have hl:(ps.map V.ref).length=rs.length:=by rw [List.length_map]; exact R.lp
 have n1:1 <= rs.length:=List.length_pos_iff.mpr ne
 refine ⟨_,rfl,.int p,0,1000000000,true,rfl,fO.yes p0 p9,?_⟩
 refine ⟨_,rfl,?_⟩
 refine gA ?_
 refine ⟨_,rfl,.ref a,true,rfl,jY.good g0,fun H1 s1=>?_⟩
 refine ⟨_,rfl,?_⟩
 refine gA ?_
 have R1:=R.kp (aN.kp s1)
 have ha1:=s1 _ _ ha
 refine ⟨_,rfl,a,rfl,⟨_,bO.of ha1⟩,fun D hD=>?_⟩
 refine cM (xs:=ps.map V.ref) (fun i τ H'=>∃ v0 v1 cs,τ = [v0,v1,some (.ref x),some (.int p),some (.ref a),none,none,none,none] /\ aN H1 H' /\ H' D=some (.lst (Is cs)) /\ cs=(rs.take i).map (fun t=>Sd.nE (d + 1) t.2) /\ ∀ n ∈ cs,1 <= n /\ True) ⟨none,none,[],rfl,aF hD _,aB,rfl,fun _ h=>nomatch h⟩ ?keepA ?turnA ?doneA
 case keepA =>
  rintro i τ H' hi ⟨v0,v1,cs,rfl,hs,_⟩
  exact bO.of (hs _ _ ha1)
 case turnA =>
  rintro i mm v τ H' hm hi hv ⟨v0,v1,cs,rfl,hs,hD',nl,hn⟩
  obtain ⟨q1,y,t,_,_,er,rfl,h1,st,mem⟩:=R1.at_ hv
  refine ⟨q1,_,rfl,cN.of (hs _ _ h1),rfl,_,_,rfl,_,_,rfl,rfl,?_⟩
  refine fL ?_
  refine JK (st.same hs) (fun _ _ _ _ _=>rfl) (fun _ _ _ _ _ _=>rfl) (fun R h=>⟨_,rfl,h⟩) ?_
  refine ⟨y,t.2,d,_,rfl,st.same hs,fun n n1 n2 n3=>?_⟩
  refine bH hm hi hD' (by rw [xJ,nl,List.length_map]; exact aZ (Nat.le_trans (List.length_take_le _ _) (by rw [hl] at hi; omega))) ⟨_,_,cs ++ [n],rfl,hs.upd_new hD _,by rw [aB,Fg],by rw [nl,bL er,List.map_append,n3]; rfl,fun z hz=>?_⟩
  rcases List.mem_append.mp hz with u | u
  ·exact hn z u
  ·rw [List.mem_singleton.mp u]
   exact ⟨n1,trivial⟩
 case doneA =>
 rintro τ H2 ⟨v0,v1,ns,rfl,s2,hD2,nl,hn⟩
 have nx0:=nl
 rw [hl,List.take_length] at nx0
 have nl:ns.length=rs.length:=by rw [nx0,List.length_map]
 have sn:=O7 hn
 refine ⟨D,ns,rfl,bO.of hD2,?_⟩
 have R2:=R1.kp (aN.kp s2)
 have ha2:=s2 _ _ ha1
 refine ⟨_,rfl,a,rfl,⟨_,bO.of ha2⟩,fun D2 hD2=>?_⟩
 refine cM (xs:=ps.map V.ref) (fun i τ H'=>∃ v0 v1 cs,τ = [v0,v1,some (.ref x),some (.int p),some (.ref a),some (.int ns.sum),none,none,none] /\ aN H2 H' /\ H' D2=some (.lst (Is cs)) /\ cs=(rs.take i).map (fun t=>Sd.nS (d + 1) t.2) /\ ∀ n ∈ cs,0 <= n /\ n <= (d:Int)) ⟨none,none,[],rfl,aF hD2 _,aB,rfl,fun _ h=>nomatch h⟩ ?keepB ?turnB ?doneB
 case keepB =>
  rintro i τ H' hi ⟨v0,v1,cs,rfl,hs,_⟩
  exact bO.of (hs _ _ ha2)
 case turnB =>
  rintro i mm v τ H' hm hi hv ⟨v0,v1,cs,rfl,hs,hD',nl,hn⟩
  obtain ⟨q1,y,t,_,_,er,rfl,h1,st,mem⟩:=R2.at_ hv
  refine ⟨q1,_,rfl,cN.of (hs _ _ h1),rfl,_,_,rfl,_,_,rfl,rfl,?_⟩
  refine fL ?_
  refine JK (st.same hs) (fun _ _ _ _ _=>rfl) (fun _ _ _ _ _ _=>rfl) (fun R h=>⟨_,rfl,h⟩) ?_
  refine ⟨y,t.2,d,_,rfl,st.same hs,fun n n1 n2 n3=>?_⟩
  refine bH hm hi hD' (by rw [xJ,nl,List.length_map]; exact aZ (Nat.le_trans (List.length_take_le _ _) (by rw [hl] at hi; omega))) ⟨_,_,cs ++ [n],rfl,hs.upd_new hD2 _,by rw [aB,Fg],by rw [nl,bL er,List.map_append,n3]; rfl,fun z hz=>?_⟩
  rcases List.mem_append.mp hz with u | u
  ·exact hn z u
  ·rw [List.mem_singleton.mp u]
   exact ⟨n1,n2⟩
 case doneB =>
 rintro τ H3 ⟨v0,v1,ms,rfl,s3,hD3,ml,hms⟩
 have kx0:=ml
 rw [hl,List.take_length] at kx0
 have ml:ms.length=rs.length:=by rw [kx0,List.length_map]
 refine ⟨D2,ms,rfl,bO.of hD3,fun e=>by rw [e] at ml; have:(0:Nat)=rs.length:=ml; omega,fun mx hmx hmax=>?_⟩
 have kx1:1 + mx=Sd.nS (d + 1 + 1) (.st p rs):=by rw [Sd.Og (fun x hx=>(hms x hx).1) hmx hmax,kx0]; rfl
 have nx1:ns.sum=Sd.nE (d + 1 + 1) (.st p rs):=by rw [nx0]; rfl
 have mb:=hms mx hmx
 refine ⟨_,_,rfl,rfl,?_⟩
 refine ⟨_,rfl,_,_,rfl,rfl,_,rfl,?_⟩
 rcases hq with ⟨big,qE⟩ | ⟨m,hm,m12,d4,hTb,q⟩
 ·have zG:=(s1.trans s2).trans s3
  by_cases h12:(12:Int) < ns.sum
  ·refine CV (decide_eq_true h12) ?_
   refine fX ?_
   exact qE _ zG
  ·refine uB (decide_eq_false h12) ?_
   refine ⟨_,rfl,_,_,rfl,rfl,_,rfl,?_⟩
   refine CV (decide_eq_true (show (4:Int) < 1 + mx by omega)) ?_
   exact qE _ zG
 have okS:Sd.Ok (.st p rs) (d + 1) m:=.st p0 p9 ne l4 ww (fun r hr=>by obtain ⟨i,y,a,b⟩:=Kd R.ly hr; exact (R.sub i y r a b).ok) hm
 have jl:ns.sum <= (m:Int):=by have:=okS.nE (d + 1 + 1) (Nat.lt_succ_self _); rw [nx0]; exact this
 refine uB (decide_eq_false (by omega)) ?_
 refine ⟨_,rfl,_,_,rfl,rfl,_,rfl,?_⟩
 refine uB (decide_eq_false (by omega)) ?_
 have zG:=(s1.trans s2).trans s3
 have R3:=R2.kp (aN.kp s3)
 have ha3:=s3 _ _ ha2
 refine ⟨_,rfl,a,rfl,⟨_,bO.of ha3⟩,fun D3 hD3n=>?_⟩
 refine cM (xs:=ps.map V.ref) (fun i τ H'=>∃ v0 v1 es,τ = [v0,v1,some (.ref x),some (.int p),some (.ref a),some (.int ns.sum),some (.int (1 + mx)),none,none] /\ aN H3 H' /\ uL H' D3 es /\ Sd.Al d es (rs.take i) /\ Ae d j es (rs.take i) /\ es.length=i /\ ∀ e ∈ es,e.a ≠ D3 /\ (1 <= e.w /\ e.w <= 1000)) ⟨none,none,[],rfl,aF hD3n _,⟨aB,fun _ h=>nomatch h⟩,.nil,.nil,rfl,fun _ h=>nomatch h⟩ ?keepC ?turnC ?doneC
 case keepC =>
  rintro i τ H' hi ⟨v0,v1,es,rfl,hs,_⟩
  exact bO.of (hs _ _ ha3)
 case turnC =>
  rintro i mm v τ H' hm' hi hv ⟨v0,v1,es,rfl,hs,hE,al,ae,el,he⟩
  obtain ⟨q1,y,t,_,_,er,rfl,h1,st,mem⟩:=R3.at_ hv
  refine ⟨q1,_,rfl,cN.of (hs _ _ h1),rfl,_,_,rfl,_,_,rfl,rfl,?_⟩
  refine fL ?_
  refine ⟨_,rfl,?_⟩
  refine JK (st.same hs) (fun _ _ _ _ _=>rfl) (fun _ _ _ _ _ _=>rfl) (fun R h=>⟨_,rfl,h⟩) ?_
  refine ⟨y,t.2,d,_,rfl,st.same hs,fun r H4 xs s4 hr4 hT4 gs so ⟨lv4,mt4,_⟩=>?_⟩
  refine ⟨vY,fun T hT=>?_⟩
  have n5:=aF hT (.tup [.int t.1,.ref r])
  have hE5:=(hE.same s4).same n5
  have nr:r ≠ D3:=fun e=>by rw [e,hE.lst] at hr4; cases hr4
  refine bH hm' hi hE5.lst (by rw [o4]; exact aZ (by rw [hl] at hi; omega)) ⟨_,_,es ++ [⟨T,t.1,r,xs⟩],rfl,((hs.trans s4).trans n5).upd_new hD3n _,⟨by rw [aB,Dt],fun e h=>?_⟩,by rw [bL er]; exact al.snoc rfl ⟨lv4,mt4⟩,by rw [bL er]; exact ae.snoc gs,by rw [List.length_append,el]; rfl,fun e h=>?_⟩
  ·rcases List.mem_append.mp h with u | u
   ·exact GC hE5.lst (he e u).1 (hE5.ents e u)
   ·rw [List.mem_singleton.mp u]
    exact GC hE5.lst nr ⟨aB,hT4.same n5⟩
  ·rcases List.mem_append.mp h with u | u
   ·exact he e u
   ·rw [List.mem_singleton.mp u]
    exact ⟨nr,ww t mem⟩
 case doneC =>
 rintro τ H4 ⟨v0,v1,es,rfl,s4,hE,al,ae,el,he⟩
 rw [hl,List.take_length] at al ae
 rw [hl] at el
 have ene:es ≠ []:=fun e=>by rw [e] at el; have:(0:Nat)=rs.length:=el; omega
 have gall:=ae.all fun t ht=>Nat.le_trans (Sd.M9 hm t ht) m12
 have gm0:=Xd (show d <= 4 by omega) ene (by omega) (fun e h=>(he e h).2) gall
 have m1:1 <= m:=okS.m1
 have tb4:eX Pt iJ kY H4:=hTb.same (zG.trans s4)
 refine ⟨D3,es,12,wB d 12,kK d,rfl,hE,gm0,tb4,fun B H5 xs s5 tb5 _ hB5 g5 o5 l5=>?_⟩
 have Mx1:=RG ae.b hm m1 (Nat.le_trans l5 (ae.b.p _)) g5
 refine ⟨_,rfl,_,rfl,B,xs,p,m,_,kK d,rfl,hB5,Mx1.g,Mx1.cp d4 m12,o5.tab.lt,p0,p9,fun lv H6 l u s6 hl6 u1 u2 f hLv=>?_⟩
 have Lx1:=RP Mx1 d4 m12 p0 p9 u1 u2 f
 have tb6:=tb5.same s6
 refine ⟨_,rfl,_,rfl,_,rfl,_,rfl,_,rfl,_,rfl,B,lv,xs,l,m,_,_,_,rfl,hB5.same s6,Lx1.g,Lx1.c,hl6,Lx1.f,tb6,fun cr H7 zs s7 tb7 _ hZ g7 o7=>?_⟩
 have sT:cA Pt H H7:=((((zG.trans s4).toT).trans s5).trans s6.toT).trans s7
 have hx7:H7 x=some (.ins c.s dx []):=sT.get hTb hx fun _ z=>nomatch z
 have ha7:H7 a=some (.lst (ps.map V.ref)):=sT.get hTb ha fun _ z=>nomatch z
 have hl7:H7 lv=some (.tup [.int l.1,.int l.2]):=s7.get tb6 hl6 fun _ z=>nomatch z
 have nax:a ≠ x:=bJ ha7 hx7 fun z=>nomatch z
 refine ⟨x,dx,c.s,lv,cr,ns.sum,1 + mx,zs,rfl,.inr rfl,hx7,hZ,fun cp H8 cn k8 hx8 hc8=>?_⟩
 have ncx:cp ≠ x:=fun e=>by rw [e,hx8] at hc8; cases hc8
 refine ⟨_,rfl,_,rfl,x,c.s,dx,_,rfl,hx8,ck.cs,ck.s5,(by show 4 < 1000; decide),?_⟩
 refine ⟨_,rfl,a,_,rfl,.inl ⟨bO.of (by rw [aL nax]; exact k8 _ _ nax ha7),fun r hr0=>?_⟩⟩
 have nrx:r ≠ x:=fun e=>by rw [e,aB] at hr0; cases hr0
 refine ⟨_,rfl,x,c.s,dx,_,rfl,by rw [aL (Ne.symm nrx)]; exact aB,ck.cs,ck.s6,(by show 5 < 1000; decide),?_⟩
 rw [aL nrx] at hr0
 have kx:∀ b o,b ≠ x->H8 b=some o->aU (aU (aU H8 x (.ins c.s dx (bN "price" (.int p) (fB ns.sum (1 + mx) lv cp)))) r (.tup (ps.map V.ref))) x (.ins c.s dx (fS ns.sum (1 + mx) lv cp p r)) b=some o:=fun b o nb e=>by
  rw [aL nb,aL (aR e hr0),aL nb]
  exact e
 have hr9:aU (aU (aU H8 x (.ins c.s dx (bN "price" (.int p) (fB ns.sum (1 + mx) lv cp)))) r (.tup (ps.map V.ref))) x (.ins c.s dx (fS ns.sum (1 + mx) lv cp p r)) r=some (.tup (ps.map V.ref)):=by rw [aL nrx]; exact aB
 have hx9:aU (aU (aU H8 x (.ins c.s dx (bN "price" (.int p) (fB ns.sum (1 + mx) lv cp)))) r (.tup (ps.map V.ref))) x (.ins c.s dx (fS ns.sum (1 + mx) lv cp p r)) x=some (.ins c.s dx (fS ns.sum (1 + mx) lv cp p r)):=aB
 show Q .non (aU (aU (aU H8 x (.ins c.s dx (bN "price" (.int p) (fB ns.sum (1 + mx) lv cp)))) r (.tup (ps.map V.ref))) x (.ins c.s dx (fS ns.sum (1 + mx) lv cp p r)))
 generalize aU (aU (aU H8 x (.ins c.s dx (bN "price" (.int p) (fB ns.sum (1 + mx) lv cp)))) r (.tup (ps.map V.ref))) x (.ins c.s dx (fS ns.sum (1 + mx) lv cp p r))=HF at kx hr9 hx9 ⊢
 have sX:CZ x H7 HF:=fun b o nb e=>kx b o nb (k8 b o nb e)
 have kF:Kp H7 HF:=sX.kp hx7
 have RF:=R.kp ((cA.kp sT hTb).trans kF)
 refine q HF (fun b o nb nP e=>sX b o nb (sT b o nP e)) (eX.sameX tb7 sX hx7) ?_
 exact .st hx9 ⟨kF.tup hl7,⟨kx _ _ ncx hc8,fun y hy=>(hZ.rows y hy).kp kF⟩,TX Lx1 g7,o7.tab.lt,by omega,by omega,by omega,by omega,Uj al gm0 (by have:=(Sd.PK ne ww l4).1; omega) o5 Mx1.g Lx1.f.fr.pos hLv o7,WP Lx1 d4 m12,nx1,kx1⟩ hr9 RF.lp RF.ly RF.row RF.sub p0 p9 ne l4 ww hm
end
end K22
namespace L2
open PySem PySem.Spec PyProof.Rows
section
variable {X:Cx}
end
end L2
namespace L2
open PySem PySem.Spec PyProof.Rows
section
variable {prog:Program}{w:World}{A:Around}{E:Value->Shared->Prop}{s:Shared}{a₀ : Array PyProof.Rows.Keyed}
end
section
variable {X:Cx}
end
end L2
namespace L2
open PySem PySem.Spec PyProof.Rows
section
variable {X:Cx}
end
end L2
namespace L2
open PySem PySem.Spec PyProof.Rows
end L2
namespace L2
open PySem PySem.Spec PyProof.Rows
section
variable {X:Cx}{K:PySem.W.Frag}{o e:Expr}{es:List Expr}{ta to:TE}{t:TA}{f name:Str}{pos apos cpos:Pos}{T id:String}{r:V->List V->Hp->VK->Prop}
theorem yR (hK:X.K=K) (he:PE X e ta) (hb:attributeBase e f X.env (eval e X.env)=eval e X.env):PE X (.Attribute e f pos) (Qt K ta f):=by subst hK; exact cL he hb
end
end L2
namespace K22
open PySem L2 TD
open Builtin.Int (intBits)
section
variable {P:Program}{w:World}{K:PySem.W.Frag}{mg:Str->Option Value}{base:Heap}{Pt:Addr}
theorem qT {n:Nat}{f:Addr}{fd:FuncData} (F:eN K "how_many" "Case.how_many" (aD (top 48) 1) f fd) {c:Cs}{cC:Addr} (ca:wD K c cC) (z_len:mg "len" = none):aP P w K mg base dM (n + 1) f fd ["self"] (Qd c cC):=by
 refine F.ok jT (fun vs H Q E h=>?_) (fun cdv A outer s H vs Q E hr h=>?_)
 ·obtain ⟨x,q,rfl,_⟩:=h
  rfl
 obtain ⟨x,q,rfl,h,k⟩:=h
 have nd:=jT.nd
 refine ⟨_,(aJ (aW (bB dD rfl z_len kW (aA (cL (pv 0) rfl) aC)))),?_⟩
 refine ⟨_,rfl,x,cC,_,_,_,rfl,h.hx,ca.cl,ca.np,rfl,q.tp,_,rfl,.inr (cN.of h.hp),?_⟩
 rw [List.length_map]
 exact k
theorem q9 {n:Nat}{f:Addr}{fd:FuncData} (F:eN K "need_box" "Case.need_box" (aD (top 48) 2) f fd) {c:Cs}{cC:Addr} (ca:wD K c cC) {C_NoDeed:Addr} (g_NoDeed:mg "NoDeed" = some (.ref C_NoDeed)) (x_NoDeed:rZ K C_NoDeed) {f_hm:Addr}{fd_hm:FuncData} (m_hm:cB K cC "how_many" f_hm) (G_hm:aP P w K mg base dM n f_hm fd_hm ["self"] (Qd c cC)) (b_hm:aY K fd_hm ["self"] []) {g_is_whole:Addr}{gd_is_whole:FuncData} (c_is_whole:gG P w K mg base n "is_whole" ["thing","least","most"] qX g_is_whole gd_is_whole):aP P w K mg base (jJ P w) (n + 1) f fd ["self","box"] (Pn c cC C_NoDeed):=by
 refine F.okX jZ (fun vs H Q E h=>?_) (fun cdv A outer s H vs Q E hr h=>?_)
 ·obtain ⟨x,v,q,b,rfl,_⟩:=h
  rfl
 have nd:=jZ.nd
 refine ⟨_,(aJ (dO (PT.nox (fW (fK (aM c_is_whole hr (aA (pv 1) (aA aH (aA (aQ lC (bK (pv 0) ca.cl m_hm G_hm hr b_hm .nil cT) aH) aC))))))) (aJ (iK gC rfl rfl g_NoDeed x_NoDeed)) bY)),?_⟩
 obtain ⟨x,v,q,b,rfl,h,iw,qt,qf⟩:=h
 refine ⟨_,rfl,_,rfl,x,_,_,rfl,h.hx,rfl,x,q,rfl,h,_,_,rfl,rfl,v,0,(q.ys.length:Int) - 1,b,rfl,iw,?_⟩
 refine ⟨_,rfl,?_⟩
 cases b with
 | true=>exact gA (qt rfl)
 | false=>exact fX (qf rfl)
theorem wI {n:Nat}{f:Addr}{fd:FuncData} (F:eN K "stand" "Case.stand" (aD (top 48) 3) f fd) {c:Cs}{cC:Addr} (ca:wD K c cC) {C_NoDeed:Addr}{f_nb:Addr}{fd_nb:FuncData} (m_nb:cB K cC "need_box" f_nb) (G_nb:aP P w K mg base (jJ P w) n f_nb fd_nb ["self","box"] (Pn c cC C_NoDeed)) (b_nb:aY K fd_nb ["self","box"] []):aP P w K mg base (jJ P w) (n + 1) f fd ["self","box"] (rK c cC C_NoDeed):=by
 refine F.okX oO (fun vs H Q E h=>?_) (fun cdv A outer s H vs Q E hr h=>?_)
 ·obtain ⟨x,v,q,b,rfl,_⟩:=h
  rfl
 have nd:=oO.nd
 refine ⟨_,(aG (eF (bR (pv 0) ca.cl m_nb G_nb hr b_nb .nil fV (aA (pv 1) aC))) (aJ (aW (bU eV (cL (pv 0) rfl) (pv 1) (fun _ _=>rfl))))),?_⟩
 obtain ⟨x,v,q,b,rfl,h,iw,qt,qf⟩:=h
 refine ⟨_,rfl,x,_,_,rfl,h.hx,rfl,_,rfl,x,v,q,b,rfl,h,iw,fun hb=>?_,fun hb=>qf hb⟩
 subst hb
 obtain ⟨i,rfl,i0,i9⟩:=iw.inv
 obtain ⟨j,rfl⟩ : ∃ j:Nat,i=(j:Int):=⟨i.toNat,by omega⟩
 have n1:=h.n1
 have el:=h.el
 have hj:j < q.ys.length:=by omega
 refine ⟨_,rfl,x,cC,_,_,_,rfl,h.hx,ca.cl,ca.np,rfl,_,rfl,q.tp,_,_,_,rfl,rfl,cN.of h.hp,fD (by rw [List.getElem?_map,List.getElem?_eq_getElem hj]; rfl),qt j _ rfl (List.getElem?_eq_getElem hj)⟩
theorem Ba {n:Nat}{f:Addr}{fd:FuncData} (F:eN K "cap" "Case.cap" (aD (top 48) 4) f fd) {c:Cs}{cC:Addr} (ca:wD K c cC) {C_NoDeed:Addr}{f_nb:Addr}{fd_nb:FuncData} (m_nb:cB K cC "need_box" f_nb) (G_nb:aP P w K mg base (jJ P w) n f_nb fd_nb ["self","box"] (Pn c cC C_NoDeed)) (b_nb:aY K fd_nb ["self","box"] []):aP P w K mg base (jJ P w) (n + 1) f fd ["self","box"] (tZ c cC C_NoDeed):=by
 refine F.okX rB (fun vs H Q E h=>?_) (fun cdv A outer s H vs Q E hr h=>?_)
 ·obtain ⟨x,v,q,b,rfl,_⟩:=h
  rfl
 have nd:=rB.nd
 refine ⟨_,(aG (eF (bR (pv 0) ca.cl m_nb G_nb hr b_nb .nil fV (aA (pv 1) aC))) (aJ (aW (bU eV (cL (pv 0) rfl) (pv 1) (fun _ _=>rfl))))),?_⟩
 obtain ⟨x,v,q,b,rfl,h,iw,qt,qf⟩:=h
 refine ⟨_,rfl,x,_,_,rfl,h.hx,rfl,_,rfl,x,v,q,b,rfl,h,iw,fun hb=>?_,fun hb=>qf hb⟩
 subst hb
 obtain ⟨i,rfl,i0,i9⟩:=iw.inv
 obtain ⟨j,rfl⟩ : ∃ j:Nat,i=(j:Int):=⟨i.toNat,by omega⟩
 have n1:=h.n1
 have el:=h.el
 have hj:j < q.ys.length:=by omega
 refine ⟨_,rfl,x,cC,_,_,_,rfl,h.hx,ca.cl,ca.nl,rfl,_,rfl,q.tl,_,_,_,rfl,rfl,cN.of h.hl,fD (List.getElem?_eq_getElem (show j < q.ls.length by omega)),qt j _ rfl (List.getElem?_eq_getElem (show j < q.ls.length by omega))⟩
theorem yZ {n:Nat}{f:Addr}{fd:FuncData} (F:eN K "paid" "Case.paid" (aD (top 48) 6) f fd) {c:Cs}{cC:Addr} (ca:wD K c cC):aP P w K mg base dM (n + 1) f fd ["self"] (KC c cC):=by
 refine F.ok pF (fun vs H Q E h=>?_) (fun cdv A outer s H vs Q E hr h=>?_)
 ·obtain ⟨x,q,rfl,_⟩:=h
  rfl
 obtain ⟨x,q,rfl,h,k⟩:=h
 have nd:=pF.nd
 refine ⟨_,(aJ (aW (cL (pv 0) rfl))),?_⟩
 exact ⟨_,rfl,x,cC,_,_,_,rfl,h.hx,ca.cl,ca.ns,rfl,k⟩
theorem wF {n:Nat}{f:Addr}{fd:FuncData} (F:eN K "deeds" "Case.deeds" (aD (top 48) 8) f fd) {c:Cs}{cC:Addr} (ca:wD K c cC) (z_list:mg "list" = none):aP P w K mg base dM (n + 1) f fd ["self"] (Nr c cC):=by
 refine F.ok oK (fun vs H Q E h=>?_) (fun cdv A outer s H vs Q E hr h=>?_)
 ·obtain ⟨x,q,rfl,_⟩:=h
  rfl
 obtain ⟨x,q,rfl,h,k⟩:=h
 have nd:=oK.nd
 refine ⟨_,(aJ (aW (c7 kJ rfl z_list m5 (aA (cL (pv 0) rfl) aC)))),?_⟩
 refine ⟨_,rfl,x,cC,_,_,_,rfl,h.hx,ca.cl,ca.nd,rfl,?_⟩
 refine ⟨q.td,_,rfl,.inr (cN.of h.hd),fun r hr0=>?_⟩
 exact k r _ (aF hr0 _) aB
theorem zM {n:Nat}{f:Addr}{fd:FuncData} (F:eN K "kept" "Case.kept" (aD (top 48) 5) f fd) {c:Cs}{cC:Addr} (ca:wD K c cC) {f_hm:Addr}{fd_hm:FuncData} (m_hm:cB K cC "how_many" f_hm) (G_hm:aP P w K mg base dM n f_hm fd_hm ["self"] (Qd c cC)) (b_hm:aY K fd_hm ["self"] []) (z_range:mg "range" = none):aP P w K mg base dM (n + 1) f fd ["self"] (uA c cC):=by
 refine F.ok o6 (fun vs H Q E h=>?_) (fun cdv A outer s H vs Q E hr h=>?_)
 ·obtain ⟨x,q,rfl,_⟩:=h
  rfl
 obtain ⟨x,q,rfl,h,k⟩:=h
 have nd:=o6.nd
 refine ⟨_,(aJ (aW (cH (ls:=["box"]) (M:=["self"]) rfl (bT.of (by rfl)) (NL.of (by rfl)) (gD rfl z_range (aA (bK (pv 0) ca.cl m_hm G_hm hr b_hm .nil cT) aC)) (fun _ _ _ _=>⟨(bA (i:=0) (cU (by rfl)) rfl (Or.inl rfl)),(Lg (fK (bU (lB (K:=K) rfl) (yR (K:=K) rfl (pv 1) rfl) (pv 0) (fun _ _=>rfl)))),(pv 0)⟩)))),?_⟩
 have n6:=h.n6
 refine ⟨_,rfl,x,_,_,rfl,h.hx,rfl,x,q,rfl,h,(q.ys.length:Int),rfl,by omega,by omega,fun D hD=>?_⟩
 refine gU (n:=(q.ys.length:Int).toNat) (fun i τ H'=>∃ v0,τ = [v0,some (.ref x)] /\ aN H H' /\ H' D=some (.lst ((((List.range i).filter fun j=>q.bs.getD j false).map Int.ofNat).map V.int))) ⟨none,rfl,aF hD _,aB⟩ ?turn ?done
 case turn =>
  rintro i m τ H' hm hi ⟨v0,rfl,hs,hD'⟩
  have h':=h.kt (aN.kt hs)
  have hib:i < q.bs.length:=by rw [h.eb]; omega
  have eb:q.bs[i]? = some (q.bs.getD i false):=by rw [List.getElem?_eq_getElem hib,iB hib]
  refine ⟨_,rfl,x,cC,_,_,_,rfl,h'.hx,ca.cl,ca.nh,rfl,_,rfl,q.th,_,_,_,rfl,rfl,cN.of h'.hh,(by rw [Int.zero_add]; exact fD (v:=V.bl (q.bs.getD i false)) (by rw [List.getElem?_map,eb]; rfl)),?_⟩
  cases e:q.bs.getD i false with
  | false =>
   refine ⟨_,rfl,?_⟩
   refine uB rfl ?_
   refine HS hm hi ⟨_,rfl,hs,?_⟩
   rw [List.range_succ,List.filter_append,show [i].filter (fun j=>q.bs.getD j false)=[] by rw [List.filter_cons,e]; rfl,List.append_nil]
   exact hD'
  | true =>
   refine ⟨_,rfl,?_⟩
   refine CV rfl ?_
   refine ⟨_,rfl,?_⟩
   refine bH hm hi hD' (by rw [List.length_map,List.length_map]; exact aZ (Nat.le_trans (List.length_filter_le _ _) (by rw [List.length_range]; omega))) ⟨_,rfl,hs.upd_new hD _,?_⟩
   rw [aB,List.range_succ,List.filter_append,show [i].filter (fun j=>q.bs.getD j false)=[i] by rw [List.filter_cons,e]; rfl,List.map_append,List.map_append]
   show some (HO.lst (_ ++ [V.int (0 + (i:Int))]))=_
   rw [Int.zero_add]
   rfl
 case done =>
  rintro τ H' ⟨v0,rfl,hs,hD'⟩
  exact k D H' hs hD'
theorem Ag {n:Nat}{f:Addr}{fd:FuncData} (F:eN K "caps" "Case.caps" (aD (top 48) 9) f fd) {c:Cs}{cC:Addr} (ca:wD K c cC) {C_NoDeed:Addr}{f_sd:Addr}{fd_sd:FuncData} (m_sd:cB K cC "stand" f_sd) (G_sd:aP P w K mg base (jJ P w) n f_sd fd_sd ["self","box"] (rK c cC C_NoDeed)) (b_sd:aY K fd_sd ["self","box"] []) (cfX:zR K c.e) {f_caps:Addr}{fd_caps:FuncData} (m_Ec:cB K c.e "caps" f_caps) (G_caps:aP P w K mg base dM n f_caps fd_caps ["self"] (Dr c)) (b_caps:aY K fd_caps ["self"] []):aP P w K mg base (jJ P w) (n + 1) f fd ["self","box"] (Ez c cC C_NoDeed):=by
 refine F.okX pO (fun vs H Q E h=>?_) (fun cdv A outer s H vs Q E hr h=>?_)
 ·obtain ⟨x,v,q,rfl,_⟩:=h
  rfl
 have nd:=pO.nd
 refine ⟨_,(aG (aV (i:=2) nd rfl (Or.inl rfl) (bK (bR (pv 0) ca.cl m_sd G_sd hr b_sd .nil fV (aA (pv 1) aC)) cfX m_Ec G_caps hr b_caps .nil cT)) xZ),?_⟩
 obtain ⟨x,v,q,rfl,h,iw,qf⟩:=h
 exact ⟨_,rfl,x,_,_,rfl,h.hx,rfl,_,rfl,x,v,q,false,rfl,h,iw,(fun i y e1 e2=>(fO.notF K (n:=q.ys.length) (i:=i) (e1 ▸ iw) (List.getElem?_eq_some_iff.mp e2).1).elim),fun _=>qf⟩
theorem zB {n:Nat}{f:Addr}{fd:FuncData} (F:eN K "debt" "Case.debt" (aD (top 48) 10) f fd) {c:Cs}{cC:Addr} (ca:wD K c cC) {C_NoDeed:Addr}{f_cp:Addr}{fd_cp:FuncData} (m_cp:cB K cC "cap" f_cp) (G_cp:aP P w K mg base (jJ P w) n f_cp fd_cp ["self","box"] (tZ c cC C_NoDeed)) (b_cp:aY K fd_cp ["self","box"] []):aP P w K mg base (jJ P w) (n + 1) f fd ["self","box"] (Ez c cC C_NoDeed):=by
 refine F.okX p6 (fun vs H Q E h=>?_) (fun cdv A outer s H vs Q E hr h=>?_)
 ·obtain ⟨x,v,q,rfl,_⟩:=h
  rfl
 have nd:=p6.nd
 refine ⟨_,(aG (aV (i:=2) nd rfl (Or.inl rfl) (bR (pv 0) ca.cl m_cp G_cp hr b_cp .nil fV (aA (pv 1) aC))) xZ),?_⟩
 obtain ⟨x,v,q,rfl,h,iw,qf⟩:=h
 exact ⟨_,rfl,x,_,_,rfl,h.hx,rfl,_,rfl,x,v,q,false,rfl,h,iw,(fun i y e1 e2=>(fO.notF K (n:=q.ys.length) (i:=i) (e1 ▸ iw) (by have:=(List.getElem?_eq_some_iff.mp e2).1; have:=h.el; omega)).elim),fun _=>qf⟩
theorem Ab (x:Int) {m:Int} (h:0 < m):0 <= x % m /\ x % m < m:=⟨Int.emod_nonneg x (Int.ne_of_gt h),Int.emod_lt_of_pos x h⟩
theorem sI {n:Nat}{f:Addr}{fd:FuncData} (F:eN K "_law_cell_at" "_law_cell_at" (top 50) f fd) (z_len:mg "len" = none):aP P w K mg base dM (n + 1) f fd ["_law_script","_law_k"] (Fp K):=by
 refine F.ok lM (fun vs H Q E h=>?_) (fun cdv A outer s H vs Q E hr h=>?_)
 ·obtain ⟨a,ns,i,rfl,_⟩:=h
  rfl
 obtain ⟨a,ns,i,rfl,hS,i0,q⟩:=h
 have nd:=lM.nd
 refine ⟨_,(aG (dO (bZ Bo (pv 1) (bB dD rfl z_len kW (aA (pv 0) aC)) (cO _)) (aJ (aW (bU dI (pv 0) (pv 1) (fun _ _=>rfl)))) bY) (aJ (aW aH))),?_⟩
 have hl:(ns.map V.int).length=ns.length:=List.length_map _
 refine ⟨_,rfl,_,rfl,a,_,rfl,.inl hS,_,_,rfl,rfl,_,rfl,?_⟩
 refine nW (fun c=>?_) (fun c=>?_)
 ·have c':i < (((ns.map V.int).length:Nat):Int):=of_decide_eq_true c
  rw [hl] at c'
  exact ⟨_,rfl,_,rfl,a,_,_,_,rfl,rfl,hS,KZ i0 c',q _⟩
 ·exact q _
theorem wC {n:Nat}{f:Addr}{fd:FuncData} (F:eN K "_law_mixed" "_law_mixed" (top 51) f fd):aP P w K mg base dM (n + 1) f fd ["_law_cell","_law_k"] Ke:=by
 refine F.ok oG (fun vs H Q E h=>?_) (fun cdv A outer s H vs Q E hr h=>?_)
 ·obtain ⟨c,i,rfl,_⟩:=h
  rfl
 obtain ⟨c,i,rfl,i0,i9,q⟩:=h
 have nd:=oG.nd
 refine ⟨_,(aG (aV (i:=2) nd rfl (Or.inl rfl) (aQ dH (aQ fP (aQ fP (aQ d7 (aQ dH (pv 0) aH) aH) (aQ QH aH (pv 1))) aH) aH)) (aG (aV (i:=2) nd rfl (Or.inl rfl) (aQ fP (aQ dH (aQ d7 (aQ dH (aQ d7 (pv 2) (pv 2)) aH) aH) aH) (pv 1))) (aJ (aW (aQ dH (aQ d7 (pv 2) (pv 2)) aH))))),?_⟩
 have b1:∀ x:Int,0 <= x->x < 2147583648->intBits x <= 64:=fun x h1 h2=>PySem.intBits_le_64 (by omega) (by omega)
 have m1:=Ab c (show (0:Int) < 2147483647 by decide)
 refine ⟨_,rfl,_,_,rfl,rfl,(by show (0:Int) < 2147483647; decide),_,_,rfl,rfl,gP (b1 _ m1.1 (by omega)) (b1 48271 (by decide) (by decide)) (by decide),_,rfl,_,_,rfl,rfl,.inl ⟨by decide,by decide⟩,_,_,rfl,rfl,_,_,rfl,rfl,_,_,rfl,rfl,(by show (0:Int) < 2147483647; decide),?_⟩
 have n1:=Ab (c % 2147483647 * 48271 + 7919 * i + 1) (show (0:Int) < 2147483647 by decide)
 have nb:=b1 _ n1.1 (Int.lt_trans n1.2 (by decide))
 have n2:=Ab ((c % 2147483647 * 48271 + 7919 * i + 1) % 2147483647 * ((c % 2147483647 * 48271 + 7919 * i + 1) % 2147483647)) (show (0:Int) < 2147483629 by decide)
 have n2b:=b1 _ n2.1 (Int.lt_trans n2.2 (by decide))
 refine ⟨_,rfl,_,rfl,_,_,rfl,rfl,gP nb nb (by decide),_,_,rfl,rfl,(by show (0:Int) < 2147483629; decide),_,_,rfl,rfl,gP n2b (b1 69621 (by decide) (by decide)) (by decide),_,_,rfl,rfl,(by show (0:Int) < 2147483579; decide),_,rfl,_,_,rfl,rfl,?_⟩
 have n3:=Ab ((c % 2147483647 * 48271 + 7919 * i + 1) % 2147483647 * ((c % 2147483647 * 48271 + 7919 * i + 1) % 2147483647) % 2147483629 * 69621) (show (0:Int) < 2147483579 by decide)
 have kb:=b1 ((c % 2147483647 * 48271 + 7919 * i + 1) % 2147483647 * ((c % 2147483647 * 48271 + 7919 * i + 1) % 2147483647) % 2147483629 * 69621 % 2147483579 + i) (by omega) (by omega)
 refine ⟨_,rfl,_,rfl,_,_,rfl,rfl,gP kb kb (by decide),_,_,rfl,rfl,(by show (0:Int) < 2147483587; decide),?_⟩
 exact q _ (Int.emod_nonneg _ (by decide)) (Int.emod_lt_of_pos _ (by decide))
theorem vR {n:Nat}{f:Addr}{fd:FuncData} (F:eN K "with_thing" "with_thing" (top 47) f fd):aP P w K mg base dM (n + 1) f fd ["things","place","thing"] (Ol K):=by
 refine F.ok nZ (fun vs H Q E h=>?_) (fun cdv A outer s H vs Q E hr h=>?_)
 ·obtain ⟨a,xs,i,v,rfl,_⟩:=h
  rfl
 obtain ⟨a,xs,i,v,rfl,ha,hi,h9,k⟩:=h
 have nd:=nZ.nd
 refine ⟨_,(aJ (aW (aQ Ad (aQ Ad (o9 KY (pv 0) Fl (nU (pv 1))) (eU (aA (pv 2) aC))) (o9 KY (pv 0) (nU (aQ fP (pv 1) aH)) Fl)))),?_⟩
 refine ⟨_,rfl,_,rfl,_,rfl,a,_,rfl,cN.of ha,(fun ⟨_,z⟩=>by rw [HT.mX] at z; omega),fun p hp=>?_⟩
 have m1:=aF hp (.tup (gJ xs none (some (i:Int))))
 have e1:aU H p (.tup (gJ xs none (some (i:Int)))) p=some (.tup (xs.take i)):=by rw [aB,Gn _ _ (by omega)]
 generalize aU H p (.tup (gJ xs none (some (i:Int))))=H1 at m1 e1 ⊢
 refine ⟨_,rfl,MK,fun t ht=>?_⟩
 have m2:=aF ht (.tup [v])
 refine ⟨p,t,_,_,rfl,rfl,cN.of (m2 _ _ e1),cN.of aB,Ft (by rw [List.length_take]; show _ + 1 <= 1000; omega),?g0,(fun z=>nomatch z),?g2⟩
 case g0 =>
  intro z
  have sR:=m1.trans m2
  have eR:aU H1 t (.tup [v]) t=some (.tup (xs.take i ++ [v])):=by rw [aB,z]; rfl
  generalize aU H1 t (.tup [v])=H3 at sR eR ⊢
  generalize t=r at eR ⊢
  refine ⟨_,rfl,_,rfl,_,_,rfl,rfl,_,rfl,a,_,rfl,cN.of (sR _ _ ha),(fun ⟨z,_⟩=>by rw [show ((i:Int) + 1)=((i + 1:Nat):Int) by push_cast; rfl,HT.mX] at z; omega),fun p2 hp2=>?_⟩
  have m2:=aF hp2 (.tup (gJ xs (some ((i:Int) + 1)) none))
  have e2:aU H3 p2 (.tup (gJ xs (some ((i:Int) + 1)) none)) p2=some (.tup (xs.drop (i + 1))):=by rw [aB,show ((i:Int) + 1)=((i + 1:Nat):Int) by push_cast; rfl,BW _ _ (by omega)]
  generalize aU H3 p2 (.tup (gJ xs (some ((i:Int) + 1)) none))=H4 at m2 e2 ⊢
  refine ⟨r,p2,_,_,rfl,rfl,cN.of (m2 _ _ eR),cN.of e2,Ft (by rw [List.length_append,List.length_take,List.length_drop]; show _ + 1 + _ <= 1000; omega),(fun z=>by simp at z),fun z=>?_,fun t2 ht2=>?_⟩
  ·refine k r H4 (sR.trans m2) ?_
   rw [m2 _ _ eR,<- vH hi,z,List.append_nil]
  ·refine k t2 _ ((sR.trans m2).trans (aF ht2 _)) ?_
   rw [aB,vH hi]
 case g2 =>
  intro r hr0
  have sR:=(m1.trans m2).trans (aF hr0 (.tup (xs.take i ++ [v])))
  have eR:aU (aU H1 t (.tup [v])) r (.tup (xs.take i ++ [v])) r=some (.tup (xs.take i ++ [v])):=aB
  generalize aU (aU H1 t (.tup [v])) r (.tup (xs.take i ++ [v]))=H3 at sR eR ⊢
  refine ⟨_,rfl,_,rfl,_,_,rfl,rfl,_,rfl,a,_,rfl,cN.of (sR _ _ ha),(fun ⟨z,_⟩=>by rw [show ((i:Int) + 1)=((i + 1:Nat):Int) by push_cast; rfl,HT.mX] at z; omega),fun p2 hp2=>?_⟩
  have m2:=aF hp2 (.tup (gJ xs (some ((i:Int) + 1)) none))
  have e2:aU H3 p2 (.tup (gJ xs (some ((i:Int) + 1)) none)) p2=some (.tup (xs.drop (i + 1))):=by rw [aB,show ((i:Int) + 1)=((i + 1:Nat):Int) by push_cast; rfl,BW _ _ (by omega)]
  generalize aU H3 p2 (.tup (gJ xs (some ((i:Int) + 1)) none))=H4 at m2 e2 ⊢
  refine ⟨r,p2,_,_,rfl,rfl,cN.of (m2 _ _ eR),cN.of e2,Ft (by rw [List.length_append,List.length_take,List.length_drop]; show _ + 1 + _ <= 1000; omega),(fun z=>by simp at z),fun z=>?_,fun t2 ht2=>?_⟩
  ·refine k r H4 (sR.trans m2) ?_
   rw [m2 _ _ eR,<- vH hi,z,List.append_nil]
  ·refine k t2 _ ((sR.trans m2).trans (aF ht2 _)) ?_
   rw [aB,vH hi]
theorem Cy {n:Nat}{f:Addr}{fd:FuncData} (F:eN K "had" "Case.had" (aD (top 48) 7) f fd) {c:Cs}{cC:Addr} (ca:wD K c cC) (ck:CK K c) {f_kp:Addr}{fd_kp:FuncData} (m_kp:cB K cC "kept" f_kp) (G_kp:aP P w K mg base dM n f_kp fd_kp ["self"] (uA c cC)) (b_kp:aY K fd_kp ["self"] []) (z_sum:mg "sum" = none):aP P w K mg base dM (n + 1) f fd ["self"] (Nh c cC):=by
 refine F.ok rQ (fun vs H Q E h=>?_) (fun cdv A outer s H vs Q E hr h=>?_)
 ·obtain ⟨x,q,rfl,_⟩:=h
  rfl
 obtain ⟨x,q,rfl,h,k⟩:=h
 have nd:=rQ.nd
 refine ⟨_,(aJ (aW (aQ lC (bB (mL rfl) rfl z_sum u0 (aA (cH (ls:=["box"]) (M:=["self"]) rfl (bT.of (by rfl)) (NL.of (by rfl)) (cV (bK (pv 0) ca.cl m_kp G_kp hr b_kp .nil cT)) (fun _ _ _ _=>⟨(bA (i:=0) (cU (by rfl)) rfl (Or.inl rfl)),cG,(yR (K:=K) rfl (bU (lB (K:=K) rfl) (yR (K:=K) rfl (pv 1) rfl) (pv 0) (fun _ _=>rfl)) rfl)⟩)) aC)) (cL (pv 0) rfl)))),?_⟩
 have n6:=h.n6
 refine ⟨_,rfl,x,_,_,rfl,h.hx,rfl,x,q,rfl,h,fun l H1 s1 hl1=>?_⟩
 have h1:=h.kt (aN.kt s1)
 refine ⟨l,rfl,⟨_,bO.of hl1⟩,fun D hD=>?_⟩
 refine cM (xs:=(rR q).map V.int) (fun i τ H'=>∃ v0,τ = [v0,some (.ref x)] /\ aN H1 H' /\ H' D=some (.lst ((((vD q).take i).map fun j=>ZM q.ss[j]?).map V.int))) ⟨none,rfl,aF hD _,aB⟩ ?keep ?turn ?done
 case keep =>
  rintro i τ H' hi ⟨v0,rfl,hs,_⟩
  exact bO.of (hs _ _ hl1)
 case turn =>
  rintro i m v τ H' hm hi hv ⟨v0,rfl,hs,hD'⟩
  obtain ⟨j,ej,rfl⟩ : ∃ j,(vD q)[i]? = some j /\ v = .int (j:Int):=by
   unfold rR at hv
   rw [List.getElem?_map,List.getElem?_map] at hv
   cases e:(vD q)[i]? with
   | none=>rw [e] at hv; cases hv
   | some j=>rw [e] at hv; cases hv; exact ⟨j,rfl,rfl⟩
  have mem:=List.mem_filter.mp (show j ∈ (List.range q.ys.length).filter fun i=>q.bs.getD i false from List.mem_of_getElem? ej)
  have hj:j < q.ys.length:=List.mem_range.mp mem.1
  have h':=h1.kt (aN.kt hs)
  have es:=h.es
  have ebl:=h.eb
  have ey:q.ys[j]? = some q.ys[j]:=List.getElem?_eq_getElem hj
  have e2:q.ss[j]? = some (q.ss[j]'(by omega)):=List.getElem?_eq_getElem _
  have eb:q.bs[j]? = some true:=by rw [List.getElem?_eq_getElem (show j < q.bs.length by omega),<- iB (d:=false) (show j < q.bs.length by omega),mem.2]
  obtain ⟨u,eu⟩:=h'.en j _ eb e2
  have st:=(h'.st j _ _ ey e2).1
  have wo:ZM q.ss[j]? = u:=by
   rw [e2]
   generalize q.ss[j]'(by omega)=ent at eu
   obtain ⟨e0,d0⟩:=ent
   simp only at eu
   subst eu
   rfl
  rw [eu] at st
  refine uU ?_
  cases st with
  | en hh vv ok =>
  refine ⟨_,rfl,x,cC,_,_,_,rfl,h'.hx,ca.cl,ca.np,rfl,_,rfl,q.tp,_,_,_,rfl,rfl,cN.of h'.hp,fD (v:=V.ref q.ys[j]) (by rw [List.getElem?_map,ey]; rfl),q.ys[j],c.e,_,_,_,rfl,hh,ck.ce,ck.e5,rfl,?_⟩
  refine bH hm hi hD' (by rw [List.length_map,List.length_map,List.length_take]; exact aZ (by have:=(List.getElem?_eq_some_iff.mp ej).1; have l1:=List.length_filter_le (fun i=>q.bs.getD i false) (List.range q.ys.length); rw [List.length_range] at l1; unfold vD at this ⊢; omega)) ⟨_,rfl,hs.upd_new hD _,?_⟩
  rw [aB,bL ej,List.map_append,List.map_append]
  show some (HO.lst (_ ++ [V.int u]))=some (HO.lst (_ ++ [V.int (ZM q.ss[j]?)]))
  rw [wo]
 case done =>
  rintro τ H' ⟨v0,rfl,hs,hD'⟩
  have h':=h1.kt (aN.kt hs)
  rw [show ((rR q).map V.int).length=(vD q).length by unfold rR; rw [List.length_map,List.length_map],List.take_length] at hD'
  refine ⟨D,_,rfl,bO.of hD',_,rfl,x,cC,_,_,_,rfl,h'.hx,ca.cl,ca.ns,rfl,_,_,rfl,rfl,?_⟩
  exact k H' (s1.trans hs)
theorem qO {n:Nat}{f:Addr}{fd:FuncData} (F:eN K "__init__" "Case.__init__" (aD (top 48) 0) f fd) {c:Cs}{cC:Addr} (ca:wD K c cC) {C_NoBox:Addr} (g_NoBox:mg "NoBox" = some (.ref C_NoBox)) (x_NoBox:rZ K C_NoBox) {g_need_boxes:Addr}{gd_need_boxes:FuncData} (c_need_boxes:z7 P w K mg base n "need_boxes" ["boxes"] (RK c K C_NoBox) g_need_boxes gd_need_boxes) (z_tuple:mg "tuple" = none):aP P w K mg base (jJ P w) (n + 1) f fd ["self","boxes"] (Ff c cC K C_NoBox):=by
 refine F.okX kI (fun vs H Q E h=>?_) (fun cdv A outer s H vs Q E hr h=>?_)
 ·rcases h with ⟨x,dx,a,ys,rfl,_⟩ | ⟨x,v,rfl,_⟩ <;> rfl
 have nd:=kI.nd
 refine ⟨_,(aG (eF (JZ c_need_boxes hr fV (aA (pv 1) aC))) (oZ.nox (aG (eO (pv 0) (c7 (cZ (K:=K) rfl) rfl z_tuple gH (aA (pv 1) aC)) rfl) (aG (eO (pv 0) (c7 (cZ (K:=K) rfl) rfl z_tuple gH (aA (cH (ls:=["box"]) (M:=["self","boxes"]) rfl (bT.of (by rfl)) (NL.of (by rfl)) (cV (pv 1)) (fun _ _ _ _=>⟨(bA (i:=0) (cU (by rfl)) rfl (Or.inl rfl)),cG,qK⟩)) aC)) rfl) (aG (eO (pv 0) (c7 (cZ (K:=K) rfl) rfl z_tuple gH (aA (cH (ls:=["box"]) (M:=["self","boxes"]) rfl (bT.of (by rfl)) (NL.of (by rfl)) (cV (pv 1)) (fun _ _ _ _=>⟨(bA (i:=0) (cU (by rfl)) rfl (Or.inl rfl)),cG,lR⟩)) aC)) rfl) (aG (eO (pv 0) aH rfl) (aJ (eO (pv 0) (eU aC) rfl)))))))),?_⟩
 rcases h with ⟨x,dx,a,ys,rfl,hx,ha,n1,n6,hst,k⟩ | ⟨x,v,rfl,hb,qE⟩
 rotate_left
 ·exact ⟨_,rfl,v,false,rfl,hb,(fun z=>nomatch z),fun _ H' s=>qE H' s⟩
 have bx:oW c K H (.ref a) true:=Mg ha (fun v hv=>by
  obtain ⟨y,hy,rfl⟩:=List.mem_map.mp hv
  obtain ⟨s,d,m,st⟩:=hst y hy
  exact .yes st) true (by rw [List.length_map,decide_eq_true (by omega),decide_eq_true (by omega)]; rfl)
 refine ⟨_,rfl,.ref a,true,rfl,bx,fun _ H1 s1=>?_,fun z=>nomatch z⟩
 have ha1:=s1 _ _ ha
 have hx1:=s1 _ _ hx
 have nax:a ≠ x:=bJ ha hx fun z=>nomatch z
 refine ⟨_,rfl,a,_,rfl,.inl ⟨bO.of ha1,fun tp htp=>?_⟩⟩
 have np:=aF htp (.tup (ys.map V.ref))
 have ex:tp ≠ x:=fun z=>by rw [z,hx1] at htp; cases htp
 refine ⟨_,rfl,x,cC,dx,[],rfl,np _ _ hx1,ca.cl,ca.np,(by show 0 < 1000; decide),?_⟩
 have k2:KX x H1 (aU (aU H1 tp (.tup (ys.map V.ref))) x (.ins cC dx (bN "present" (.ref tp) []))):=(KX.of np).trans (KX.put _)
 have ep:aU (aU H1 tp (.tup (ys.map V.ref))) x (.ins cC dx (bN "present" (.ref tp) [])) tp=some (.tup (ys.map V.ref)):=by rw [aL ex]; exact aB
 have hx2:aU (aU H1 tp (.tup (ys.map V.ref))) x (.ins cC dx (bN "present" (.ref tp) [])) x=some (.ins cC dx [("present",.ref tp)]):=aB
 generalize aU (aU H1 tp (.tup (ys.map V.ref))) x (.ins cC dx (bN "present" (.ref tp) []))=H2 at k2 ep hx2 ⊢
 refine ⟨_,rfl,a,rfl,⟨_,bO.of (k2 _ _ nax ha1)⟩,fun DL hDL=>?_⟩
 refine cM (xs:=ys.map V.ref) (fun i τ H'=>∃ v0,τ = [v0,some (.ref x),some (.ref a)] /\ aN H2 H' /\ H' DL=some (.lst (((ys.map fun _=>V.non)).take i))) ⟨none,rfl,aF hDL _,aB⟩ ?keepL ?turnL ?doneL
 case keepL =>
  rintro i τ H' hi ⟨v0,rfl,hs,_⟩
  exact bO.of (hs _ _ (k2 _ _ nax ha1))
 case turnL =>
  rintro i m v τ H' hm hi hv ⟨v0,rfl,hs,hD'⟩
  have hi':i < ys.length:=by rw [List.length_map] at hi; exact hi
  refine uU ?_
  refine bH hm hi hD' (by rw [List.length_take,List.length_map]; exact aZ (by omega)) ⟨_,rfl,hs.upd_new hDL _,?_⟩
  rw [aB,bL (x:=V.non) (by rw [List.getElem?_map,List.getElem?_eq_getElem hi']; rfl)]
 case doneL =>
 rintro τ HL ⟨v0,rfl,hsL,hDL'⟩
 rw [show (ys.map V.ref).length=(ys.map fun _=>V.non).length by rw [List.length_map,List.length_map],List.take_length] at hDL'
 refine ⟨DL,_,rfl,.inl ⟨bO.of hDL',fun tL htL=>?_⟩⟩
 have nL:=aF htL (.tup (ys.map fun _=>V.non))
 have hx3:=(hsL.trans nL) _ _ hx2
 have el:tL ≠ x:=fun z=>by rw [z,hsL _ _ hx2] at htL; cases htL
 refine ⟨_,rfl,x,cC,dx,_,rfl,hx3,ca.cl,ca.nl,(by show 1 < 1000; decide),?_⟩
 have k4:KX x H2 (aU (aU HL tL (.tup (ys.map fun _=>V.non))) x (.ins cC dx (bN "lowest" (.ref tL) [("present",.ref tp)]))):=(KX.of (hsL.trans nL)).trans (KX.put _)
 have eL:aU (aU HL tL (.tup (ys.map fun _=>V.non))) x (.ins cC dx (bN "lowest" (.ref tL) [("present",.ref tp)])) tL=some (.tup (ys.map fun _=>V.non)):=by rw [aL el]; exact aB
 have hx4:aU (aU HL tL (.tup (ys.map fun _=>V.non))) x (.ins cC dx (bN "lowest" (.ref tL) [("present",.ref tp)])) x=some (.ins cC dx [("present",.ref tp),("lowest",.ref tL)]):=aB
 generalize aU (aU HL tL (.tup (ys.map fun _=>V.non))) x (.ins cC dx (bN "lowest" (.ref tL) [("present",.ref tp)]))=H4 at k4 eL hx4 ⊢
 refine ⟨_,rfl,a,rfl,⟨_,bO.of (k4 _ _ nax (k2 _ _ nax ha1))⟩,fun DQ hDQ=>?_⟩
 refine cM (xs:=ys.map V.ref) (fun i τ H'=>∃ v0,τ = [v0,some (.ref x),some (.ref a)] /\ aN H4 H' /\ H' DQ=some (.lst (((ys.map fun _=>V.bl false)).take i))) ⟨none,rfl,aF hDQ _,aB⟩ ?keepQ ?turnQ ?doneQ
 case keepQ =>
  rintro i τ H' hi ⟨v0,rfl,hs,_⟩
  exact bO.of (hs _ _ (k4 _ _ nax (k2 _ _ nax ha1)))
 case turnQ =>
  rintro i m v τ H' hm hi hv ⟨v0,rfl,hs,hD'⟩
  have hi':i < ys.length:=by rw [List.length_map] at hi; exact hi
  refine uU ?_
  refine bH hm hi hD' (by rw [List.length_take,List.length_map]; exact aZ (by omega)) ⟨_,rfl,hs.upd_new hDQ _,?_⟩
  rw [aB,bL (x:=V.bl false) (by rw [List.getElem?_map,List.getElem?_eq_getElem hi']; rfl)]
 case doneQ =>
 rintro τ HQ ⟨v0,rfl,hsQ,hDQ'⟩
 rw [show (ys.map V.ref).length=(ys.map fun _=>V.bl false).length by rw [List.length_map,List.length_map],List.take_length] at hDQ'
 refine ⟨DQ,_,rfl,.inl ⟨bO.of hDQ',fun tQ htQ=>?_⟩⟩
 have nQ:=aF htQ (.tup (ys.map fun _=>V.bl false))
 have hx5:=(hsQ.trans nQ) _ _ hx4
 have eq:tQ ≠ x:=fun z=>by rw [z,hsQ _ _ hx4] at htQ; cases htQ
 refine ⟨_,rfl,x,cC,dx,_,rfl,hx5,ca.cl,ca.nh,(by show 2 < 1000; decide),?_⟩
 have k6:KX x H4 (aU (aU HQ tQ (.tup (ys.map fun _=>V.bl false))) x (.ins cC dx (bN "held" (.ref tQ) [("present",.ref tp),("lowest",.ref tL)]))):=(KX.of (hsQ.trans nQ)).trans (KX.put _)
 have eQ:aU (aU HQ tQ (.tup (ys.map fun _=>V.bl false))) x (.ins cC dx (bN "held" (.ref tQ) [("present",.ref tp),("lowest",.ref tL)])) tQ=some (.tup (ys.map fun _=>V.bl false)):=by rw [aL eq]; exact aB
 have hx6:aU (aU HQ tQ (.tup (ys.map fun _=>V.bl false))) x (.ins cC dx (bN "held" (.ref tQ) [("present",.ref tp),("lowest",.ref tL)])) x=some (.ins cC dx [("present",.ref tp),("lowest",.ref tL),("held",.ref tQ)]):=aB
 generalize aU (aU HQ tQ (.tup (ys.map fun _=>V.bl false))) x (.ins cC dx (bN "held" (.ref tQ) [("present",.ref tp),("lowest",.ref tL)]))=H6 at k6 eQ hx6 ⊢
 refine ⟨_,rfl,x,cC,dx,_,rfl,hx6,ca.cl,ca.ns,(by show 3 < 1000; decide),?_⟩
 have k7:KX x H6 (aU H6 x (.ins cC dx (bN "spent" (.int 0) [("present",.ref tp),("lowest",.ref tL),("held",.ref tQ)]))):=KX.put _
 have hx7:aU H6 x (.ins cC dx (bN "spent" (.int 0) [("present",.ref tp),("lowest",.ref tL),("held",.ref tQ)])) x=some (.ins cC dx [("present",.ref tp),("lowest",.ref tL),("held",.ref tQ),("spent",.int 0)]):=aB
 generalize aU H6 x (.ins cC dx (bN "spent" (.int 0) [("present",.ref tp),("lowest",.ref tL),("held",.ref tQ)]))=H7 at k7 hx7 ⊢
 refine ⟨Nat.zero_le _,fun td htd=>?_⟩
 have n8:=aF htd (.tup [])
 have ed:td ≠ x:=fun z=>by rw [z,hx7] at htd; cases htd
 refine ⟨_,rfl,x,cC,dx,_,rfl,n8 _ _ hx7,ca.cl,ca.nd,(by show 4 < 1000; decide),?_⟩
 have k8:KX x H7 (aU (aU H7 td (.tup [])) x (.ins cC dx (bN "done" (.ref td) [("present",.ref tp),("lowest",.ref tL),("held",.ref tQ),("spent",.int 0)]))):=(KX.of n8).trans (KX.put _)
 have kL:=k6.trans (k7.trans k8)
 refine k tp tL tQ td _ (((KX.of s1).trans k2).trans (k4.trans kL)) aB ((k4.trans kL) _ _ ex ep) (kL _ _ el eL) ((k7.trans k8) _ _ eq eQ) ?_
 rw [aL ed]
 exact aB
theorem uG {n:Nat}{f:Addr}{fd:FuncData} (F:eN K "behind" "Case.behind" (aD (top 48) 12) f fd) {c:Cs}{cC:Addr} (ca:wD K c cC) {C_NoBox:Addr}{iC:Addr}{dC:FuncData}{kC:Nat} (M_Case:Mk K cC iC) (G_Case:aP P w K mg base (jJ P w) kC iC dC ["self","boxes"] (Ff c cC K C_NoBox)) (b_Case:aY K dC ["self","boxes"] []) (g_Case:mg "Case" = some (.ref cC)) (hn_Case:kC + 1 <= n) (z_list:mg "list" = none):aP P w K mg base dM (n + 1) f fd ["self","deed"] (Kh c cC):=by
 refine F.ok mU (fun vs H Q E h=>?_) (fun cdv A outer s H vs Q E hr h=>?_)
 ·obtain ⟨x,dq,q,rfl,_⟩:=h
  rfl
 obtain ⟨x,dq,q,rfl,h,hd,h9,k⟩:=h
 have nd:=mU.nd
 refine ⟨_,(aG (aV (i:=2) nd rfl (Or.inl rfl) (pN M_Case G_Case (hr.mono hn_Case) rfl g_Case b_Case .nil jD (aA (c7 kJ rfl z_list m5 (aA (cL (pv 0) rfl) aC)) aC))) (aG (eO (pv 2) (cL (pv 0) rfl) rfl) (aG (eO (pv 2) (cL (pv 0) rfl) rfl) (aG (eO (pv 2) (cL (pv 0) rfl) rfl) (aG (eO (pv 2) (aQ Ad (cL (pv 0) rfl) (eU (aA (pv 1) aC))) rfl) (aJ (aW (pv 2)))))))),?_⟩
 have n6:=h.n6
 refine ⟨_,rfl,x,cC,_,_,_,rfl,h.hx,ca.cl,ca.np,rfl,?_⟩
 refine ⟨q.tp,_,rfl,.inr (cN.of h.hp),fun r hr0=>?_⟩
 have s1:=aF hr0 (.lst (q.ys.map V.ref))
 have er:aU H r (.lst (q.ys.map V.ref)) r=some (.lst (q.ys.map V.ref)):=aB
 generalize aU H r (.lst (q.ys.map V.ref))=H1 at s1 er ⊢
 intro x2 dx2 hx2 hdx2 nd2
 have nO:=zY (o1:=.own x2) (o2:=.ins cC dx2 []) hx2 hdx2 nd2
 have h1:=h.kt (aN.kt (s1.trans nO))
 refine .inl ⟨x2,dx2,r,q.ys,rfl,aB,nO _ _ er,h.n1,h.n6,(fun y hy=>?_),fun tp tl th td H3 kx hx3 htp htl hth htd=>⟨rfl,?_⟩⟩
 ·obtain ⟨i,hi,rfl⟩:=List.mem_iff_getElem.mp hy
  exact ⟨_,_,_,(h1.st i _ _ (List.getElem?_eq_getElem hi) (List.getElem?_eq_getElem (by rw [h.es]; exact hi))).1⟩
 have s3:aN H H3:=s1.trans (made hx2 hdx2 kx)
 have hxn:H x2=none:=by
  cases e:H x2 with
  | none=>rfl
  | some o=>rw [s1 _ _ e] at hx2; cases hx2
 have nx:x ≠ x2:=fun z=>by rw [<- z,h.hx] at hxn; cases hxn
 have e3:=s3 _ _ h.hx
 refine ⟨_,rfl,x,cC,_,_,_,rfl,e3,ca.cl,ca.nl,rfl,_,rfl,x2,cC,dx2,_,rfl,hx3,ca.cl,ca.nl,(by show 5 < 1000; decide),?_⟩
 refine ⟨_,rfl,x,cC,_,_,_,rfl,(by rw [aL nx]; exact e3),ca.cl,ca.nh,rfl,_,rfl,x2,cC,dx2,_,rfl,aB,ca.cl,ca.nh,(by show 5 < 1000; decide),?_⟩
 refine ⟨_,rfl,x,cC,_,_,_,rfl,(by rw [aL nx,aL nx]; exact e3),ca.cl,ca.ns,rfl,_,rfl,x2,cC,dx2,_,rfl,aB,ca.cl,ca.ns,(by show 5 < 1000; decide),?_⟩
 have k4:KX x2 H3 (aU (aU (aU H3 x2 (.ins cC dx2 (bN "lowest" (.ref q.tl) (iU tp tl th 0 td)))) x2 (.ins cC dx2 (bN "held" (.ref q.th) (bN "lowest" (.ref q.tl) (iU tp tl th 0 td))))) x2 (.ins cC dx2 (bN "spent" (.int q.sp) (bN "held" (.ref q.th) (bN "lowest" (.ref q.tl) (iU tp tl th 0 td)))))):=((KX.put _).trans (KX.put _)).trans (KX.put _)
 have hx4:aU (aU (aU H3 x2 (.ins cC dx2 (bN "lowest" (.ref q.tl) (iU tp tl th 0 td)))) x2 (.ins cC dx2 (bN "held" (.ref q.th) (bN "lowest" (.ref q.tl) (iU tp tl th 0 td))))) x2 (.ins cC dx2 (bN "spent" (.int q.sp) (bN "held" (.ref q.th) (bN "lowest" (.ref q.tl) (iU tp tl th 0 td))))) x2=some (.ins cC dx2 (iU tp q.tl q.th q.sp td)):=aB
 generalize aU (aU (aU H3 x2 (.ins cC dx2 (bN "lowest" (.ref q.tl) (iU tp tl th 0 td)))) x2 (.ins cC dx2 (bN "held" (.ref q.th) (bN "lowest" (.ref q.tl) (iU tp tl th 0 td))))) x2 (.ins cC dx2 (bN "spent" (.int q.sp) (bN "held" (.ref q.th) (bN "lowest" (.ref q.tl) (iU tp tl th 0 td)))))=H4 at k4 hx4 ⊢
 have e4:=k4 _ _ nx e3
 have s4:aN H H4:=fun b o e=>k4 b o (aR e hxn) (s3 b o e)
 refine ⟨_,rfl,x,cC,_,_,_,rfl,e4,ca.cl,ca.nd,rfl,_,rfl,MK,fun t ht=>?_⟩
 have n5:=aF ht (.tup [V.ref dq])
 have e5:aU H4 t (.tup [V.ref dq]) t=some (.tup [V.ref dq]):=aB
 have hx5:=n5 _ _ hx4
 have s5:=s4.trans n5
 have tx:tp ≠ x2:=bJ htp hx3 fun z=>nomatch z
 have ep5:=n5 _ _ (k4 _ _ tx htp)
 generalize aU H4 t (.tup [V.ref dq])=H5 at n5 e5 hx5 s5 ep5 ⊢
 have fin:∀ (t2:Addr) (H6:Hp),aN H5 H6->H6 t2=some (.tup ((q.ds ++ [dq]).map V.ref))->t2 ≠ x2->Q (.ref x2) (aU H6 x2 (.ins cC dx2 (iU tp q.tl q.th q.sp t2))):=fun t2 H6 s6 e6 n26=>by
  have s7:aN H (aU H6 x2 (.ins cC dx2 (iU tp q.tl q.th q.sp t2))):=fun b o e=>by rw [aL (aR e hxn)]; exact s6 _ _ (s5 _ _ e)
  have h7:=h.kt (aN.kt s7)
  refine k x2 dx2 tp t2 _ hxn s7 ⟨aB,?_,h7.hl,h7.hh,?_,h7.n1,h7.n6,h7.es,h7.el,h7.eb,h7.st,h7.cp,h7.en,fun d hd'=>?_,?_⟩
  ·rw [aL tx]; exact s6 _ _ ep5
  ·rw [aL n26]; exact e6
  ·rcases List.mem_append.mp hd' with e | e
   ·exact h7.dd d e
   ·rw [List.mem_singleton.mp e]; exact hd.kt (aN.kt s7)
  ·show (q.ds ++ [dq]).length <= 100
   rw [List.length_append]
   show _ + 1 <= 100
   omega
 refine ⟨q.td,t,_,_,rfl,rfl,cN.of (s5 _ _ h.hd),cN.of e5,Ft (by rw [List.length_map]; show _ + 1 <= 1000; omega),fun z=>?_,(fun z=>nomatch z),fun t2 ht2=>?_⟩
 ·refine ⟨_,rfl,x2,cC,dx2,_,rfl,hx5,ca.cl,ca.nd,(by show 5 < 1000; decide),?_⟩
  refine ⟨_,rfl,?_⟩
  refine fin t H5 (aN.refl _) ?_ (bJ e5 hx5 fun z=>nomatch z)
  rw [e5,List.map_append,z]
  rfl
 ·have n6':=aF ht2 (.tup (q.ds.map V.ref ++ [V.ref dq]))
  refine ⟨_,rfl,x2,cC,dx2,_,rfl,n6' _ _ hx5,ca.cl,ca.nd,(by show 5 < 1000; decide),?_⟩
  refine ⟨_,rfl,?_⟩
  refine fin t2 _ n6' ?_ (fun z=>by rw [z,hx5] at ht2; cases ht2)
  rw [aB,List.map_append]
  rfl
theorem tO {n:Nat}{f:Addr}{fd:FuncData} (F:eN K "opened" "Case.opened" (aD (top 48) 13) f fd) {c:Cs}{cC:Addr} (ca:wD K c cC) (ck:CK K c) {C_NoDeed:Addr} (g_NoDeed:mg "NoDeed" = some (.ref C_NoDeed)) (x_NoDeed:rZ K C_NoDeed) {f_sd:Addr}{fd_sd:FuncData} (m_sd:cB K cC "stand" f_sd) (G_sd:aP P w K mg base (jJ P w) n f_sd fd_sd ["self","box"] (rK c cC C_NoDeed)) (b_sd:aY K fd_sd ["self","box"] []) {f_cp:Addr}{fd_cp:FuncData} (m_cp:cB K cC "cap" f_cp) (G_cp:aP P w K mg base (jJ P w) n f_cp fd_cp ["self","box"] (tZ c cC C_NoDeed)) (b_cp:aY K fd_cp ["self","box"] []) {f_Ei:Addr}{fd_Ei:FuncData} (m_Ei:cB K c.e "is_end" f_Ei) (G_Ei:aP P w K mg base dM n f_Ei fd_Ei ["self"] (oV c true)) (b_Ei:aY K fd_Ei ["self"] []) {f_Si:Addr}{fd_Si:FuncData} (m_Si:cB K c.s "is_end" f_Si) (G_Si:aP P w K mg base dM n f_Si fd_Si ["self"] (oV c false)) (b_Si:aY K fd_Si ["self"] []) {f_res:Addr}{fd_res:FuncData} (m_Sr:cB K c.s "reserve" f_res) (G_res:aP P w K mg base dM n f_res fd_res ["self"] (Ny c)) (b_res:aY K fd_res ["self"] []) {f_af:Addr}{fd_af:FuncData} (m_af:cB K c.s "after" f_af) (G_af:aP P w K mg base dM n f_af fd_af ["self","row"] (Qs c)) (b_af:aY K fd_af ["self","row"] []) {f_bh:Addr}{fd_bh:FuncData} (m_bh:cB K cC "behind" f_bh) (G_bh:aP P w K mg base dM n f_bh fd_bh ["self","deed"] (Kh c cC)) (b_bh:aY K fd_bh ["self","deed"] []) {g_with_thing:Addr}{gd_with_thing:FuncData} (c_with_thing:gG P w K mg base n "with_thing" ["things","place","thing"] (Ol K) g_with_thing gd_with_thing) {g_lesser:Addr}{gd_lesser:FuncData} (c_lesser:gG P w K mg base n "lesser" ["one","other"] (Q0 K) g_lesser gd_lesser) {g_is_whole:Addr}{gd_is_whole:FuncData} (c_is_whole:gG P w K mg base n "is_whole" ["thing","least","most"] qX g_is_whole gd_is_whole) (z_len:mg "len" = none):aP P w K mg base (jJ P w) (n + 1) f fd ["self","box","row"] (Jy c cC C_NoDeed):=by
 refine F.okX mO (fun vs H Q E h=>?_) (fun cdv A outer s H vs Q E hr h=>?_)
 ·obtain ⟨x,v,r,q,rfl,_⟩:=h
  rfl
 have nd:=mO.nd
 refine ⟨_,(aG (aV (i:=3) nd rfl (Or.inl rfl) (bR (pv 0) ca.cl m_sd G_sd hr b_sd .nil fV (aA (pv 1) aC))) (aG (dO (PT.nox (PW.pt (rN (fK (fU (bK (pv 3) ck.ce m_Ei G_Ei hr b_Ei .nil cT) (bK (pv 3) ck.cs m_Si G_Si hr b_Si .nil cT))) (mG (fW (fK (aM c_is_whole hr (aA (pv 2) (aA aH (aA (aQ lC (bB dD rfl z_len kW (aA (cL (pv 3) rfl) aC)) aH) aC)))))))))) (aJ (iK gC rfl rfl g_NoDeed x_NoDeed)) bY) (aG (aV (i:=4) nd rfl (Or.inl rfl) (bR (pv 0) ca.cl m_cp G_cp hr b_cp .nil fV (aA (pv 1) aC))) (oZ.nox (aG (aV (i:=5) nd rfl (Or.inl rfl) (Bm (bZ PN (pv 4) qK (cO _)) (bK (pv 3) ck.cs m_Sr G_res hr b_res .nil cT) (aM c_lesser hr (aA (pv 4) (aA (bK (pv 3) ck.cs m_Sr G_res hr b_res .nil cT) aC))))) (aG (aV (i:=6) nd rfl (Or.inl rfl) (bR (pv 0) ca.cl m_bh G_bh hr b_bh .nil cT (aA (eU (aA lA (aA (pv 1) (aA (pv 2) aC)))) aC))) (aG (eO (pv 6) (aM c_with_thing hr (aA (cL (pv 0) rfl) (aA (pv 1) (aA (bR (pv 3) ck.cs m_af G_af hr b_af .nil cT (aA (pv 2) aC)) aC)))) rfl) (aG (eO (pv 6) (aM c_with_thing hr (aA (cL (pv 0) rfl) (aA (pv 1) (aA (pv 5) aC)))) rfl) (aG (eO (pv 6) (aQ fP (cL (pv 0) rfl) (cL (pv 3) rfl)) rfl) (aJ (aW (pv 6)))))))))))),?_⟩
 obtain ⟨x,v,r,q,rfl,h,cs⟩:=h
 rcases cs with ⟨iw,qE⟩ | ⟨i,u,d,m,rfl,ei,qE⟩ | ⟨i,p,rs,d,m,rfl,ei,iw,qE⟩ | ⟨i,j,p,rs,d,m,rfl,rfl,ei,hj,h9,k⟩
 ·exact ⟨_,rfl,x,_,_,rfl,h.hx,rfl,_,rfl,x,v,q,false,rfl,h,iw,(fun i y e1 e2=>(fO.notF K (n:=q.ys.length) (i:=i) (e1 ▸ iw) (List.getElem?_eq_some_iff.mp e2).1).elim),fun _=>qE⟩
 ·
  have es:=h.es
  have el:=h.el
  have ebl:=h.eb
  have n6:=h.n6
  have hi:i < q.ys.length:=by have:=(List.getElem?_eq_some_iff.mp ei).1; omega
  have ey:q.ys[i]? = some q.ys[i]:=List.getElem?_eq_getElem hi
  refine ⟨_,rfl,x,_,_,rfl,h.hx,rfl,_,rfl,x,.int (i:Int),q,true,rfl,h,fO.yes (by omega) (by omega),fun j0 y e1 e2=>?_,(fun z=>nomatch z)⟩
  obtain rfl:i=j0:=by injection e1 with e1; omega
  obtain rfl:q.ys[i]=y:=by rw [List.getElem?_eq_getElem (by omega)] at e2; exact Option.some.inj e2
  have st:=(h.st i _ _ ey ei).1
  cases st with
  | en hh vv ok =>
  refine .inl ⟨_,rfl,q.ys[i],_,_,rfl,hh,rfl,q.ys[i],rfl,?_⟩
  refine ⟨_,rfl,?_⟩
  exact fX (fX qE)
 ·
  have es:=h.es
  have el:=h.el
  have ebl:=h.eb
  have n6:=h.n6
  have hi:i < q.ys.length:=by have:=(List.getElem?_eq_some_iff.mp ei).1; omega
  have ey:q.ys[i]? = some q.ys[i]:=List.getElem?_eq_getElem hi
  refine ⟨_,rfl,x,_,_,rfl,h.hx,rfl,_,rfl,x,.int (i:Int),q,true,rfl,h,fO.yes (by omega) (by omega),fun j0 y e1 e2=>?_,(fun z=>nomatch z)⟩
  obtain rfl:i=j0:=by injection e1 with e1; omega
  obtain rfl:q.ys[i]=y:=by rw [List.getElem?_eq_getElem (by omega)] at e2; exact Option.some.inj e2
  have st:=(h.st i _ _ ey ei).1
  cases st with
  | @st _ dx l0 cp0 r0 _ n' k' lv2 d0 _ jj xs _ ps zs hh vv g lp ly row sub p0 p9 ne l4 ww hk =>
  refine .inr ⟨_,rfl,q.ys[i],_,_,rfl,hh,rfl,q.ys[i],rfl,?_⟩
  refine ⟨_,rfl,?_⟩
  refine gA ?_
  refine ⟨_,rfl,_,rfl,q.ys[i],c.s,_,_,_,rfl,hh,ck.cs,ck.s6,rfl,r0,_,rfl,.inr (cN.of g),_,_,rfl,rfl,r,0,_,false,rfl,(by rw [List.length_map,lp]; exact iw),?_⟩
  refine ⟨_,rfl,?_⟩
  exact fX qE
 have es:=h.es
 have el:=h.el
 have ebl:=h.eb
 have n6:=h.n6
 have hi:i < q.ys.length:=by have:=(List.getElem?_eq_some_iff.mp ei).1; omega
 have ey:q.ys[i]? = some q.ys[i]:=List.getElem?_eq_getElem hi
 refine ⟨_,rfl,x,_,_,rfl,h.hx,rfl,_,rfl,x,.int (i:Int),q,true,rfl,h,fO.yes (by omega) (by omega),fun j0 y e1 e2=>?_,(fun z=>nomatch z)⟩
 obtain rfl:i=j0:=by injection e1 with e1; omega
 obtain rfl:q.ys[i]=y:=by rw [List.getElem?_eq_getElem (by omega)] at e2; exact Option.some.inj e2
 have d12:=(h.st i _ _ ey ei).2
 have st0:=(h.st i _ _ ey ei).1
 have st:=st0
 cases st with
 | @st _ dx l0 cp0 r0 _ n' k' lv2 d0 _ jj xs _ ps zs hh vv g lp ly row sub p0 p9 ne l4 ww hk =>
 refine .inr ⟨_,rfl,q.ys[i],_,_,rfl,hh,rfl,q.ys[i],rfl,?_⟩
 refine ⟨_,rfl,?_⟩
 refine gA ?_
 refine ⟨_,rfl,_,rfl,q.ys[i],c.s,_,_,_,rfl,hh,ck.cs,ck.s6,rfl,r0,_,rfl,.inr (cN.of g),_,_,rfl,rfl,.int (j:Int),0,_,true,rfl,(by rw [List.length_map,lp]; exact fO.yes (by omega) (by omega)),?_⟩
 refine ⟨_,rfl,?_⟩
 refine gA ?_
 refine ⟨_,rfl,x,_,_,rfl,h.hx,rfl,_,rfl,x,.int (i:Int),q,true,rfl,h,fO.yes (by omega) (by omega),fun j0 y e1 e2=>?_,(fun z=>nomatch z)⟩
 obtain rfl:i=j0:=by injection e1 with e1; omega
 have cp:=h.cp y (List.mem_of_getElem? e2)
 cases cp with
 | non =>
  refine ⟨_,rfl,rfl,_,rfl,?_⟩
  refine CV (decide_eq_true rfl) ?_
  refine ⟨_,rfl,q.ys[i],_,_,rfl,hh,rfl,q.ys[i],.st p rs,_,m,rfl,st0,fun l lv tq lw rv=>?_⟩
  refine ⟨_,rfl,x,_,_,rfl,h.hx,rfl,_,rfl,_,rfl,Ky,fun t ht=>?_⟩
  have n1:=aF ht (.tup [.str "open",.int (i:Int),.int (j:Int)])
  refine ⟨x,t,q,rfl,h.kt (aN.kt n1),.op aB,h9,fun x2 dx2 tp td H2 hxn s2 ca2=>?_⟩
  have hxn:H x2=none:=by
   cases e:H x2 with
   | none=>rfl
   | some o=>rw [n1 _ _ e] at hxn; cases hxn
  have nH:=n1.trans s2
  have h2:=h.kt (aN.kt nH)
  have nx:x ≠ x2:=fun z=>by rw [<- z,h.hx] at hxn; cases hxn
  have st2:=st0.kp (aN.kp nH)
  have hh2:=nH _ _ hh
  have ej:rs[j]? = some rs[j]:=List.getElem?_eq_getElem hj
  refine ⟨_,rfl,x,cC,_,_,_,rfl,h2.hx,ca.cl,ca.np,rfl,_,rfl,_,rfl,q.ys[i],_,_,rfl,hh2,rfl,_,rfl,q.ys[i],p,rs,d0,m,j,rs[j],rfl,st2,ej,fun y2 j2 hj2 st3=>?_⟩
  refine ⟨q.tp,_,i,.ref y2,rfl,h2.hp,by rw [List.length_map]; exact hi,by rw [List.length_map]; omega,fun t2 H3 s3 e3=>?_⟩
  have hx3:=s3 _ _ ca2.hx
  refine ⟨_,rfl,x2,cC,dx2,_,rfl,hx3,ca.cl,ca.np,(by show 5 < 1000; decide),?_⟩
  have k4:KX x2 H3 (aU H3 x2 (.ins cC dx2 (bN "present" (.ref t2) (iU tp q.tl q.th q.sp td)))):=KX.put _
  have hx4:aU H3 x2 (.ins cC dx2 (bN "present" (.ref t2) (iU tp q.tl q.th q.sp td))) x2=some (.ins cC dx2 (iU t2 q.tl q.th q.sp td)):=aB
  have e4:=k4 _ _ (bJ e3 hx3 fun z=>nomatch z) e3
  generalize aU H3 x2 (.ins cC dx2 (bN "present" (.ref t2) (iU tp q.tl q.th q.sp td)))=H4 at k4 hx4 e4 ⊢
  have s4:aN H H4:=fun b o e=>k4 b o (aR e hxn) (s3 _ _ (nH b o e))
  have h4:=h.kt (aN.kt s4)
  refine ⟨_,rfl,x,cC,_,_,_,rfl,h4.hx,ca.cl,ca.nl,rfl,_,rfl,_,rfl,q.tl,_,i,.ref l,rfl,h4.hl,by omega,by omega,fun t5 H5 s5 e5=>?_⟩
  have hx5:=s5 _ _ hx4
  refine ⟨_,rfl,x2,cC,dx2,_,rfl,hx5,ca.cl,ca.nl,(by show 5 < 1000; decide),?_⟩
  have k6:KX x2 H5 (aU H5 x2 (.ins cC dx2 (bN "lowest" (.ref t5) (iU t2 q.tl q.th q.sp td)))):=KX.put _
  have hx6:aU H5 x2 (.ins cC dx2 (bN "lowest" (.ref t5) (iU t2 q.tl q.th q.sp td))) x2=some (.ins cC dx2 (iU t2 t5 q.th q.sp td)):=aB
  have e6:=k6 _ _ (bJ e5 hx5 fun z=>nomatch z) e5
  have e46:=k6 _ _ (bJ (s5 _ _ e4) hx5 fun z=>nomatch z) (s5 _ _ e4)
  generalize aU H5 x2 (.ins cC dx2 (bN "lowest" (.ref t5) (iU t2 q.tl q.th q.sp td)))=H6 at k6 hx6 e6 e46 ⊢
  have s6:aN H H6:=fun b o e=>k6 b o (aR e hxn) (s5 _ _ (s4 b o e))
  have h6:=h.kt (aN.kt s6)
  have kx26:KX x2 H2 H6:=((KX.of s3).trans k4).trans ((KX.of s5).trans k6)
  refine ⟨_,rfl,x,cC,_,_,_,rfl,h6.hx,ca.cl,ca.ns,rfl,_,rfl,q.ys[i],c.s,_,_,_,rfl,s6 _ _ hh,ck.cs,ck.s5,rfl,_,_,rfl,rfl,?_⟩
  refine ⟨_,rfl,x2,cC,dx2,_,rfl,hx6,ca.cl,ca.ns,(by show 5 < 1000; decide),?_⟩
  have k7:KX x2 H6 (aU H6 x2 (.ins cC dx2 (bN "spent" (.int (q.sp + p)) (iU t2 t5 q.th q.sp td)))):=KX.put _
  have s7:aN H (aU H6 x2 (.ins cC dx2 (bN "spent" (.int (q.sp + p)) (iU t2 t5 q.th q.sp td)))):=fun b o e=>k7 b o (aR e hxn) (s6 b o e)
  have h7:=h.kt (aN.kt s7)
  have kx27:=kx26.trans k7
  have st7:dR c (aU H6 x2 (.ins cC dx2 (bN "spent" (.int (q.sp + p)) (iU t2 t5 q.th q.sp td)))) y2 rs[j].2 d0 j2:=dR.kx ca.ne ca.nS kx27 ca2.hx st3
  refine ⟨_,rfl,?_⟩
  refine k x2 ⟨dx2,t2,t5,q.th,td,q.ys.set i y2,q.ss.set i (rs[j].2,d0,j2),q.ls.set i (.ref l),q.bs,q.sp + p,q.ds ++ [t]⟩ _ s7 ⟨aB,?_,?_,h7.hh,?_,?_,?_,?_,?_,?_,?_,?_,?_,?_,?_⟩ ?_ ?_
  ·rw [aL (bJ e46 hx6 fun z=>nomatch z),List.map_set]; exact e46
  ·rw [aL (bJ e6 hx6 fun z=>nomatch z)]; exact e6
  ·exact kx27 _ _ (bJ ca2.hd ca2.hx fun z=>nomatch z) ca2.hd
  ·rw [List.length_set]; exact h.n1
  ·rw [List.length_set]; exact h.n6
  ·rw [List.length_set,List.length_set]; exact h.es
  ·rw [List.length_set,List.length_set]; exact h.el
  ·rw [List.length_set]; exact h.eb
  ·intro a y0 s0 ea eb0
   rw [List.getElem?_set] at ea eb0
   by_cases hia:i=a
   ·rw [if_pos hia,if_pos (by omega)] at ea eb0
    cases ea
    cases eb0
    exact ⟨st7,by have d13:d0 + 1 <= 4:=d12.1; show d0 <= 4; omega,by have d14:m <= 12:=d12.2; show j2 <= 12; omega⟩
   ·rw [if_neg hia] at ea eb0
    exact h7.st a y0 s0 ea eb0
  ·intro l0 hl0
   rcases List.mem_or_eq_of_mem_set hl0 with e | e
   ·exact h7.cp l0 e
   ·rw [e]; exact .sh (s7 _ _ tq) lw
  ·intro a s0 ea eb0
   rw [List.getElem?_set] at eb0
   by_cases hia:i=a
   ·subst hia
    obtain ⟨v0,z⟩:=h.en i _ ea ei
    cases z
   ·rw [if_neg hia] at eb0
    exact h.en a s0 ea eb0
  ·intro d' hd'
   exact pX.kx kx27 ca2.hx (ca2.dd d' hd')
  ·exact ca2.d9
  ·rw [List.length_set]
  ·show (q.ds ++ [t]).length <= _
   rw [List.length_append]
   exact Nat.le_refl _
 | @sh ca0 lv0 tq0 lw0 =>
  refine ⟨_,rfl,rfl,_,rfl,?_⟩
  refine uB (decide_eq_false (fun z=>nomatch z)) ?_
  refine ⟨_,rfl,_,rfl,q.ys[i],_,_,rfl,hh,rfl,q.ys[i],.st p rs,_,m,rfl,st0,fun l lv tq lw rv=>?_⟩
  have z1:=Nk lw0
  have z2:=Nk lw
  refine ⟨ca0,l,lv0.1,lv0.2,lv.1,lv.2,rfl,cN.of tq0,cN.of tq,⟨Nat.le_trans z1.t (by decide),Nat.le_trans z1.b (by decide),Nat.le_trans z2.t (by decide),Nat.le_trans z2.b (by decide)⟩,fun _=>?_,fun _=>?_⟩
  ·
   refine ⟨_,rfl,x,_,_,rfl,h.hx,rfl,_,rfl,_,rfl,Ky,fun t ht=>?_⟩
   have n1:=aF ht (.tup [.str "open",.int (i:Int),.int (j:Int)])
   refine ⟨x,t,q,rfl,h.kt (aN.kt n1),.op aB,h9,fun x2 dx2 tp td H2 hxn s2 ca2=>?_⟩
   have hxn:H x2=none:=by
    cases e:H x2 with
    | none=>rfl
    | some o=>rw [n1 _ _ e] at hxn; cases hxn
   have nH:=n1.trans s2
   have h2:=h.kt (aN.kt nH)
   have nx:x ≠ x2:=fun z=>by rw [<- z,h.hx] at hxn; cases hxn
   have st2:=st0.kp (aN.kp nH)
   have hh2:=nH _ _ hh
   have ej:rs[j]? = some rs[j]:=List.getElem?_eq_getElem hj
   refine ⟨_,rfl,x,cC,_,_,_,rfl,h2.hx,ca.cl,ca.np,rfl,_,rfl,_,rfl,q.ys[i],_,_,rfl,hh2,rfl,_,rfl,q.ys[i],p,rs,d0,m,j,rs[j],rfl,st2,ej,fun y2 j2 hj2 st3=>?_⟩
   refine ⟨q.tp,_,i,.ref y2,rfl,h2.hp,by rw [List.length_map]; exact hi,by rw [List.length_map]; omega,fun t2 H3 s3 e3=>?_⟩
   have hx3:=s3 _ _ ca2.hx
   refine ⟨_,rfl,x2,cC,dx2,_,rfl,hx3,ca.cl,ca.np,(by show 5 < 1000; decide),?_⟩
   have k4:KX x2 H3 (aU H3 x2 (.ins cC dx2 (bN "present" (.ref t2) (iU tp q.tl q.th q.sp td)))):=KX.put _
   have hx4:aU H3 x2 (.ins cC dx2 (bN "present" (.ref t2) (iU tp q.tl q.th q.sp td))) x2=some (.ins cC dx2 (iU t2 q.tl q.th q.sp td)):=aB
   have e4:=k4 _ _ (bJ e3 hx3 fun z=>nomatch z) e3
   generalize aU H3 x2 (.ins cC dx2 (bN "present" (.ref t2) (iU tp q.tl q.th q.sp td)))=H4 at k4 hx4 e4 ⊢
   have s4:aN H H4:=fun b o e=>k4 b o (aR e hxn) (s3 _ _ (nH b o e))
   have h4:=h.kt (aN.kt s4)
   refine ⟨_,rfl,x,cC,_,_,_,rfl,h4.hx,ca.cl,ca.nl,rfl,_,rfl,_,rfl,q.tl,_,i,.ref l,rfl,h4.hl,by omega,by omega,fun t5 H5 s5 e5=>?_⟩
   have hx5:=s5 _ _ hx4
   refine ⟨_,rfl,x2,cC,dx2,_,rfl,hx5,ca.cl,ca.nl,(by show 5 < 1000; decide),?_⟩
   have k6:KX x2 H5 (aU H5 x2 (.ins cC dx2 (bN "lowest" (.ref t5) (iU t2 q.tl q.th q.sp td)))):=KX.put _
   have hx6:aU H5 x2 (.ins cC dx2 (bN "lowest" (.ref t5) (iU t2 q.tl q.th q.sp td))) x2=some (.ins cC dx2 (iU t2 t5 q.th q.sp td)):=aB
   have e6:=k6 _ _ (bJ e5 hx5 fun z=>nomatch z) e5
   have e46:=k6 _ _ (bJ (s5 _ _ e4) hx5 fun z=>nomatch z) (s5 _ _ e4)
   generalize aU H5 x2 (.ins cC dx2 (bN "lowest" (.ref t5) (iU t2 q.tl q.th q.sp td)))=H6 at k6 hx6 e6 e46 ⊢
   have s6:aN H H6:=fun b o e=>k6 b o (aR e hxn) (s5 _ _ (s4 b o e))
   have h6:=h.kt (aN.kt s6)
   have kx26:KX x2 H2 H6:=((KX.of s3).trans k4).trans ((KX.of s5).trans k6)
   refine ⟨_,rfl,x,cC,_,_,_,rfl,h6.hx,ca.cl,ca.ns,rfl,_,rfl,q.ys[i],c.s,_,_,_,rfl,s6 _ _ hh,ck.cs,ck.s5,rfl,_,_,rfl,rfl,?_⟩
   refine ⟨_,rfl,x2,cC,dx2,_,rfl,hx6,ca.cl,ca.ns,(by show 5 < 1000; decide),?_⟩
   have k7:KX x2 H6 (aU H6 x2 (.ins cC dx2 (bN "spent" (.int (q.sp + p)) (iU t2 t5 q.th q.sp td)))):=KX.put _
   have s7:aN H (aU H6 x2 (.ins cC dx2 (bN "spent" (.int (q.sp + p)) (iU t2 t5 q.th q.sp td)))):=fun b o e=>k7 b o (aR e hxn) (s6 b o e)
   have h7:=h.kt (aN.kt s7)
   have kx27:=kx26.trans k7
   have st7:dR c (aU H6 x2 (.ins cC dx2 (bN "spent" (.int (q.sp + p)) (iU t2 t5 q.th q.sp td)))) y2 rs[j].2 d0 j2:=dR.kx ca.ne ca.nS kx27 ca2.hx st3
   refine ⟨_,rfl,?_⟩
   refine k x2 ⟨dx2,t2,t5,q.th,td,q.ys.set i y2,q.ss.set i (rs[j].2,d0,j2),q.ls.set i (.ref l),q.bs,q.sp + p,q.ds ++ [t]⟩ _ s7 ⟨aB,?_,?_,h7.hh,?_,?_,?_,?_,?_,?_,?_,?_,?_,?_,?_⟩ ?_ ?_
   ·rw [aL (bJ e46 hx6 fun z=>nomatch z),List.map_set]; exact e46
   ·rw [aL (bJ e6 hx6 fun z=>nomatch z)]; exact e6
   ·exact kx27 _ _ (bJ ca2.hd ca2.hx fun z=>nomatch z) ca2.hd
   ·rw [List.length_set]; exact h.n1
   ·rw [List.length_set]; exact h.n6
   ·rw [List.length_set,List.length_set]; exact h.es
   ·rw [List.length_set,List.length_set]; exact h.el
   ·rw [List.length_set]; exact h.eb
   ·intro a y0 s0 ea eb0
    rw [List.getElem?_set] at ea eb0
    by_cases hia:i=a
    ·rw [if_pos hia,if_pos (by omega)] at ea eb0
     cases ea
     cases eb0
     exact ⟨st7,by have d13:d0 + 1 <= 4:=d12.1; show d0 <= 4; omega,by have d14:m <= 12:=d12.2; show j2 <= 12; omega⟩
    ·rw [if_neg hia] at ea eb0
     exact h7.st a y0 s0 ea eb0
   ·intro l0 hl0
    rcases List.mem_or_eq_of_mem_set hl0 with e | e
    ·exact h7.cp l0 e
    ·rw [e]; exact .sh (s7 _ _ tq) lw
   ·intro a s0 ea eb0
    rw [List.getElem?_set] at eb0
    by_cases hia:i=a
    ·subst hia
     obtain ⟨v0,z⟩:=h.en i _ ea ei
     cases z
    ·rw [if_neg hia] at eb0
     exact h.en a s0 ea eb0
   ·intro d' hd'
    exact pX.kx kx27 ca2.hx (ca2.dd d' hd')
   ·exact ca2.d9
   ·rw [List.length_set]
   ·show (q.ds ++ [t]).length <= _
    rw [List.length_append]
    exact Nat.le_refl _
  ·
   refine ⟨_,rfl,x,_,_,rfl,h.hx,rfl,_,rfl,_,rfl,Ky,fun t ht=>?_⟩
   have n1:=aF ht (.tup [.str "open",.int (i:Int),.int (j:Int)])
   refine ⟨x,t,q,rfl,h.kt (aN.kt n1),.op aB,h9,fun x2 dx2 tp td H2 hxn s2 ca2=>?_⟩
   have hxn:H x2=none:=by
    cases e:H x2 with
    | none=>rfl
    | some o=>rw [n1 _ _ e] at hxn; cases hxn
   have nH:=n1.trans s2
   have h2:=h.kt (aN.kt nH)
   have nx:x ≠ x2:=fun z=>by rw [<- z,h.hx] at hxn; cases hxn
   have st2:=st0.kp (aN.kp nH)
   have hh2:=nH _ _ hh
   have ej:rs[j]? = some rs[j]:=List.getElem?_eq_getElem hj
   refine ⟨_,rfl,x,cC,_,_,_,rfl,h2.hx,ca.cl,ca.np,rfl,_,rfl,_,rfl,q.ys[i],_,_,rfl,hh2,rfl,_,rfl,q.ys[i],p,rs,d0,m,j,rs[j],rfl,st2,ej,fun y2 j2 hj2 st3=>?_⟩
   refine ⟨q.tp,_,i,.ref y2,rfl,h2.hp,by rw [List.length_map]; exact hi,by rw [List.length_map]; omega,fun t2 H3 s3 e3=>?_⟩
   have hx3:=s3 _ _ ca2.hx
   refine ⟨_,rfl,x2,cC,dx2,_,rfl,hx3,ca.cl,ca.np,(by show 5 < 1000; decide),?_⟩
   have k4:KX x2 H3 (aU H3 x2 (.ins cC dx2 (bN "present" (.ref t2) (iU tp q.tl q.th q.sp td)))):=KX.put _
   have hx4:aU H3 x2 (.ins cC dx2 (bN "present" (.ref t2) (iU tp q.tl q.th q.sp td))) x2=some (.ins cC dx2 (iU t2 q.tl q.th q.sp td)):=aB
   have e4:=k4 _ _ (bJ e3 hx3 fun z=>nomatch z) e3
   generalize aU H3 x2 (.ins cC dx2 (bN "present" (.ref t2) (iU tp q.tl q.th q.sp td)))=H4 at k4 hx4 e4 ⊢
   have s4:aN H H4:=fun b o e=>k4 b o (aR e hxn) (s3 _ _ (nH b o e))
   have h4:=h.kt (aN.kt s4)
   refine ⟨_,rfl,x,cC,_,_,_,rfl,h4.hx,ca.cl,ca.nl,rfl,_,rfl,_,rfl,q.tl,_,i,.ref ca0,rfl,h4.hl,by omega,by omega,fun t5 H5 s5 e5=>?_⟩
   have hx5:=s5 _ _ hx4
   refine ⟨_,rfl,x2,cC,dx2,_,rfl,hx5,ca.cl,ca.nl,(by show 5 < 1000; decide),?_⟩
   have k6:KX x2 H5 (aU H5 x2 (.ins cC dx2 (bN "lowest" (.ref t5) (iU t2 q.tl q.th q.sp td)))):=KX.put _
   have hx6:aU H5 x2 (.ins cC dx2 (bN "lowest" (.ref t5) (iU t2 q.tl q.th q.sp td))) x2=some (.ins cC dx2 (iU t2 t5 q.th q.sp td)):=aB
   have e6:=k6 _ _ (bJ e5 hx5 fun z=>nomatch z) e5
   have e46:=k6 _ _ (bJ (s5 _ _ e4) hx5 fun z=>nomatch z) (s5 _ _ e4)
   generalize aU H5 x2 (.ins cC dx2 (bN "lowest" (.ref t5) (iU t2 q.tl q.th q.sp td)))=H6 at k6 hx6 e6 e46 ⊢
   have s6:aN H H6:=fun b o e=>k6 b o (aR e hxn) (s5 _ _ (s4 b o e))
   have h6:=h.kt (aN.kt s6)
   have kx26:KX x2 H2 H6:=((KX.of s3).trans k4).trans ((KX.of s5).trans k6)
   refine ⟨_,rfl,x,cC,_,_,_,rfl,h6.hx,ca.cl,ca.ns,rfl,_,rfl,q.ys[i],c.s,_,_,_,rfl,s6 _ _ hh,ck.cs,ck.s5,rfl,_,_,rfl,rfl,?_⟩
   refine ⟨_,rfl,x2,cC,dx2,_,rfl,hx6,ca.cl,ca.ns,(by show 5 < 1000; decide),?_⟩
   have k7:KX x2 H6 (aU H6 x2 (.ins cC dx2 (bN "spent" (.int (q.sp + p)) (iU t2 t5 q.th q.sp td)))):=KX.put _
   have s7:aN H (aU H6 x2 (.ins cC dx2 (bN "spent" (.int (q.sp + p)) (iU t2 t5 q.th q.sp td)))):=fun b o e=>k7 b o (aR e hxn) (s6 b o e)
   have h7:=h.kt (aN.kt s7)
   have kx27:=kx26.trans k7
   have st7:dR c (aU H6 x2 (.ins cC dx2 (bN "spent" (.int (q.sp + p)) (iU t2 t5 q.th q.sp td)))) y2 rs[j].2 d0 j2:=dR.kx ca.ne ca.nS kx27 ca2.hx st3
   refine ⟨_,rfl,?_⟩
   refine k x2 ⟨dx2,t2,t5,q.th,td,q.ys.set i y2,q.ss.set i (rs[j].2,d0,j2),q.ls.set i (.ref ca0),q.bs,q.sp + p,q.ds ++ [t]⟩ _ s7 ⟨aB,?_,?_,h7.hh,?_,?_,?_,?_,?_,?_,?_,?_,?_,?_,?_⟩ ?_ ?_
   ·rw [aL (bJ e46 hx6 fun z=>nomatch z),List.map_set]; exact e46
   ·rw [aL (bJ e6 hx6 fun z=>nomatch z)]; exact e6
   ·exact kx27 _ _ (bJ ca2.hd ca2.hx fun z=>nomatch z) ca2.hd
   ·rw [List.length_set]; exact h.n1
   ·rw [List.length_set]; exact h.n6
   ·rw [List.length_set,List.length_set]; exact h.es
   ·rw [List.length_set,List.length_set]; exact h.el
   ·rw [List.length_set]; exact h.eb
   ·intro a y0 s0 ea eb0
    rw [List.getElem?_set] at ea eb0
    by_cases hia:i=a
    ·rw [if_pos hia,if_pos (by omega)] at ea eb0
     cases ea
     cases eb0
     exact ⟨st7,by have d13:d0 + 1 <= 4:=d12.1; show d0 <= 4; omega,by have d14:m <= 12:=d12.2; show j2 <= 12; omega⟩
    ·rw [if_neg hia] at ea eb0
     exact h7.st a y0 s0 ea eb0
   ·intro l0 hl0
    rcases List.mem_or_eq_of_mem_set hl0 with e | e
    ·exact h7.cp l0 e
    ·rw [e]; exact .sh (s7 _ _ tq0) lw0
   ·intro a s0 ea eb0
    rw [List.getElem?_set] at eb0
    by_cases hia:i=a
    ·subst hia
     obtain ⟨v0,z⟩:=h.en i _ ea ei
     cases z
    ·rw [if_neg hia] at eb0
     exact h.en a s0 ea eb0
   ·intro d' hd'
    exact pX.kx kx27 ca2.hx (ca2.dd d' hd')
   ·exact ca2.d9
   ·rw [List.length_set]
   ·show (q.ds ++ [t]).length <= _
    rw [List.length_append]
    exact Nat.le_refl _
theorem vL {n:Nat}{f:Addr}{fd:FuncData} (F:eN K "taken" "Case.taken" (aD (top 48) 14) f fd) {c:Cs}{cC:Addr} (ca:wD K c cC) (ck:CK K c) {C_NoDeed:Addr} (g_NoDeed:mg "NoDeed" = some (.ref C_NoDeed)) (x_NoDeed:rZ K C_NoDeed) {f_sd:Addr}{fd_sd:FuncData} (m_sd:cB K cC "stand" f_sd) (G_sd:aP P w K mg base (jJ P w) n f_sd fd_sd ["self","box"] (rK c cC C_NoDeed)) (b_sd:aY K fd_sd ["self","box"] []) {f_Ei:Addr}{fd_Ei:FuncData} (m_Ei:cB K c.e "is_end" f_Ei) (G_Ei:aP P w K mg base dM n f_Ei fd_Ei ["self"] (oV c true)) (b_Ei:aY K fd_Ei ["self"] []) {f_Si:Addr}{fd_Si:FuncData} (m_Si:cB K c.s "is_end" f_Si) (G_Si:aP P w K mg base dM n f_Si fd_Si ["self"] (oV c false)) (b_Si:aY K fd_Si ["self"] []) {f_bh:Addr}{fd_bh:FuncData} (m_bh:cB K cC "behind" f_bh) (G_bh:aP P w K mg base dM n f_bh fd_bh ["self","deed"] (Kh c cC)) (b_bh:aY K fd_bh ["self","deed"] []) {g_with_thing:Addr}{gd_with_thing:FuncData} (c_with_thing:gG P w K mg base n "with_thing" ["things","place","thing"] (Ol K) g_with_thing gd_with_thing):aP P w K mg base (jJ P w) (n + 1) f fd ["self","box"] (JN c cC C_NoDeed):=by
 refine F.okX oF (fun vs H Q E h=>?_) (fun cdv A outer s H vs Q E hr h=>?_)
 ·obtain ⟨x,v,q,rfl,_⟩:=h
  rfl
 have nd:=oF.nd
 refine ⟨_,(aG (dO (PW.pt (rN (fW (fK (fU (bK (bR (pv 0) ca.cl m_sd G_sd hr b_sd .nil fV (aA (pv 1) aC)) ck.ce m_Ei G_Ei hr b_Ei .nil cT) (bK (bR (pv 0) ca.cl m_sd G_sd hr b_sd .nil fV (aA (pv 1) aC)) ck.cs m_Si G_Si hr b_Si .nil cT)))) (mG (fK (bU eV (cL (pv 0) rfl) (pv 1) (fun _ _=>rfl)))))) (aJ (iK gC rfl rfl g_NoDeed x_NoDeed)) bY) (oZ.nox (aG (aV (i:=2) nd rfl (Or.inl rfl) (bR (pv 0) ca.cl m_bh G_bh hr b_bh .nil cT (aA (eU (aA lA (aA (pv 1) aC))) aC))) (aG (eO (pv 2) (aM c_with_thing hr (aA (cL (pv 0) rfl) (aA (pv 1) (aA lR aC)))) rfl) (aJ (aW (pv 2))))))),?_⟩
 obtain ⟨x,v,q,rfl,h,cs⟩:=h
 rcases cs with ⟨iw,qE⟩ | ⟨i,p,rs,d,m,rfl,ei,qE⟩ | ⟨i,rfl,eb,qE⟩ | ⟨i,u,d,m,rfl,ei,eb,h9,k⟩
 ·exact .inl ⟨_,rfl,x,_,_,rfl,h.hx,rfl,_,rfl,x,v,q,false,rfl,h,iw,(fun i y e1 e2=>(fO.notF K (n:=q.ys.length) (i:=i) (e1 ▸ iw) (List.getElem?_eq_some_iff.mp e2).1).elim),fun _=>qE⟩
 ·
  have es:=h.es
  have el:=h.el
  have ebl:=h.eb
  have n6:=h.n6
  have hi:i < q.ys.length:=by have:=(List.getElem?_eq_some_iff.mp ei).1; omega
  have ey:q.ys[i]? = some q.ys[i]:=List.getElem?_eq_getElem hi
  refine .inr ⟨_,rfl,x,_,_,rfl,h.hx,rfl,_,rfl,x,.int (i:Int),q,true,rfl,h,fO.yes (by omega) (by omega),fun j0 y e1 e2=>?_,(fun z=>nomatch z)⟩
  obtain rfl:i=j0:=by injection e1 with e1; omega
  obtain rfl:q.ys[i]=y:=by rw [List.getElem?_eq_getElem (by omega)] at e2; exact Option.some.inj e2
  have st:=(h.st i _ _ ey ei).1
  cases st with
  | st hh vv g lp ly row sub p0 p9 ne l4 ww hk =>
  refine ⟨q.ys[i],_,_,rfl,hh,rfl,q.ys[i],rfl,?_⟩
  refine ⟨_,rfl,?_⟩
  exact fX (fX qE)
 ·have es:=h.es
  have ebl:=h.eb
  have n6:=h.n6
  have hi:i < q.ys.length:=by have:=(List.getElem?_eq_some_iff.mp eb).1; omega
  have ey:q.ys[i]? = some q.ys[i]:=List.getElem?_eq_getElem hi
  have ei:q.ss[i]? = some (q.ss[i]'(by omega)):=List.getElem?_eq_getElem _
  obtain ⟨u,eu⟩:=h.en i _ eb ei
  refine .inl ⟨_,rfl,x,_,_,rfl,h.hx,rfl,_,rfl,x,.int (i:Int),q,true,rfl,h,fO.yes (by omega) (by omega),fun j0 y e1 e2=>?_,(fun z=>nomatch z)⟩
  obtain rfl:i=j0:=by injection e1 with e1; omega
  obtain rfl:q.ys[i]=y:=by rw [List.getElem?_eq_getElem (by omega)] at e2; exact Option.some.inj e2
  have st:=(h.st i _ _ ey ei).1
  rw [eu] at st
  cases st with
  | en hh vv ok =>
  refine ⟨q.ys[i],_,_,rfl,hh,rfl,q.ys[i],rfl,?_⟩
  refine ⟨_,rfl,?_⟩
  refine gA ?_
  refine ⟨_,rfl,x,cC,_,_,_,rfl,h.hx,ca.cl,ca.nh,rfl,_,rfl,q.th,_,_,_,rfl,rfl,cN.of h.hh,fD (v:=V.bl true) (by rw [List.getElem?_map,eb]; rfl),?_⟩
  refine ⟨_,rfl,?_⟩
  exact fX qE
 have es:=h.es
 have el:=h.el
 have ebl:=h.eb
 have n6:=h.n6
 have hi:i < q.ys.length:=by have:=(List.getElem?_eq_some_iff.mp ei).1; omega
 have ey:q.ys[i]? = some q.ys[i]:=List.getElem?_eq_getElem hi
 refine .inl ⟨_,rfl,x,_,_,rfl,h.hx,rfl,_,rfl,x,.int (i:Int),q,true,rfl,h,fO.yes (by omega) (by omega),fun j0 y e1 e2=>?_,(fun z=>nomatch z)⟩
 obtain rfl:i=j0:=by injection e1 with e1; omega
 obtain rfl:q.ys[i]=y:=by rw [List.getElem?_eq_getElem (by omega)] at e2; exact Option.some.inj e2
 have st:=(h.st i _ _ ey ei).1
 cases st with
 | en hh vv ok =>
 refine ⟨q.ys[i],_,_,rfl,hh,rfl,q.ys[i],rfl,?_⟩
 refine ⟨_,rfl,?_⟩
 refine gA ?_
 refine ⟨_,rfl,x,cC,_,_,_,rfl,h.hx,ca.cl,ca.nh,rfl,_,rfl,q.th,_,_,_,rfl,rfl,cN.of h.hh,fD (v:=V.bl false) (by rw [List.getElem?_map,eb]; rfl),?_⟩
 refine ⟨_,rfl,?_⟩
 refine gA ?_
 refine ⟨_,rfl,x,_,_,rfl,h.hx,rfl,_,rfl,vY,fun t ht=>?_⟩
 have n1:=aF ht (.tup [.str "take",.int (i:Int)])
 refine ⟨x,t,q,rfl,h.kt (aN.kt n1),.tk aB,h9,fun x2 dx2 tp td H2 hxn s2 ca2=>?_⟩
 have hxn:H x2=none:=by
  cases e:H x2 with
  | none=>rfl
  | some o=>rw [n1 _ _ e] at hxn; cases hxn
 have nH:=n1.trans s2
 have h2:=h.kt (aN.kt nH)
 refine ⟨_,rfl,x,cC,_,_,_,rfl,h2.hx,ca.cl,ca.nh,rfl,_,rfl,q.th,_,i,.bl true,rfl,h2.hh,by rw [List.length_map]; omega,by rw [List.length_map]; omega,fun t2 H3 s3 e3=>?_⟩
 have hx3:=s3 _ _ ca2.hx
 refine ⟨_,rfl,x2,cC,dx2,_,rfl,hx3,ca.cl,ca.nh,(by show 5 < 1000; decide),?_⟩
 have k4:KX x2 H3 (aU H3 x2 (.ins cC dx2 (bN "held" (.ref t2) (iU tp q.tl q.th q.sp td)))):=KX.put _
 have k24:KX x2 H2 (aU H3 x2 (.ins cC dx2 (bN "held" (.ref t2) (iU tp q.tl q.th q.sp td)))):=(KX.of s3).trans k4
 have s4:aN H (aU H3 x2 (.ins cC dx2 (bN "held" (.ref t2) (iU tp q.tl q.th q.sp td)))):=fun b o e=>k4 b o (aR e hxn) (s3 _ _ (nH b o e))
 have h4:=h.kt (aN.kt s4)
 refine ⟨_,rfl,?_⟩
 refine k x2 ⟨dx2,tp,q.tl,t2,td,q.ys,q.ss,q.ls,q.bs.set i true,q.sp,q.ds ++ [t]⟩ _ s4 ⟨aB,?_,h4.hl,?_,?_,h.n1,h.n6,h.es,h.el,?_,h4.st,h4.cp,?_,?_,ca2.d9⟩ rfl ?_
 ·exact k24 _ _ (bJ ca2.hp ca2.hx fun z=>nomatch z) ca2.hp
 ·rw [aL (bJ e3 hx3 fun z=>nomatch z),List.map_set]; exact e3
 ·exact k24 _ _ (bJ ca2.hd ca2.hx fun z=>nomatch z) ca2.hd
 ·rw [List.length_set]; exact h.eb
 ·intro a s0 ea es0
  rw [List.getElem?_set] at ea
  by_cases hia:i=a
  ·subst hia
   rw [ei] at es0
   cases es0
   exact ⟨u,rfl⟩
  ·rw [if_neg hia] at ea
   exact h.en a s0 ea es0
 ·intro d' hd'
  exact pX.kx k24 ca2.hx (ca2.dd d' hd')
 ·show (q.ds ++ [t]).length <= _
  rw [List.length_append]
  exact Nat.le_refl _
theorem vQ {n:Nat}{f:Addr}{fd:FuncData} (F:eN K "is_end" "End.is_end" (aD (top 40) 1) f fd) {c:Cs}:aP P w K mg base dM (n + 1) f fd ["self"] (oV c true):=by
 refine F.ok oE (fun vs H Q E h=>?_) (fun cdv A outer s H vs Q E hr h=>?_)
 ·obtain ⟨x,rfl,_⟩:=h
  rfl
 obtain ⟨x,rfl,q⟩:=h
 have nd:=oE.nd
 refine ⟨_,(aJ (aW lR)),?_⟩
 exact q
theorem rY {n:Nat}{f:Addr}{fd:FuncData} (F:eN K "is_end" "Stage.is_end" (aD (top 41) 1) f fd) {c:Cs}:aP P w K mg base dM (n + 1) f fd ["self"] (oV c false):=by
 refine F.ok lO (fun vs H Q E h=>?_) (fun cdv A outer s H vs Q E hr h=>?_)
 ·obtain ⟨x,rfl,_⟩:=h
  rfl
 obtain ⟨x,rfl,q⟩:=h
 have nd:=lO.nd
 refine ⟨_,(aJ (aW lR)),?_⟩
 exact q
theorem Bx {n:Nat}{f:Addr}{fd:FuncData} (F:eN K "told" "End.told" (aD (top 40) 4) f fd) {c:Cs} (ck:CK K c):aP P w K mg base dM (n + 1) f fd ["self"] (Fb c):=by
 refine F.ok rM (fun vs H Q E h=>?_) (fun cdv A outer s H vs Q E hr h=>?_)
 ·obtain ⟨x,v,d,m,rfl,_⟩:=h
  rfl
 obtain ⟨x,v,d,m,rfl,st,q⟩:=h
 have nd:=rM.nd
 refine ⟨_,(aJ (aW (eU (aA lA (aA (cL (pv 0) rfl) aC))))),?_⟩
 cases st with
 | en h vv ok=>exact ⟨_,rfl,x,c.e,_,_,_,rfl,h,ck.ce,ck.e5,rfl,vY,fun r hr0=>q r _ (aF hr0 _) (.en aB)⟩
section
variable {c:Cs}{H H':Hp}
theorem Mi (kt:∀ b xs,H b=some (.tup xs)->H' b=some (.tup xs)) (ki:∀ b C dx f fs,H b=some (.ins C dx (f :: fs))->H' b=some (.ins C dx (f :: fs))) {ps ys:List Addr}{rs:List (Int × Sd.Sd)}{d:Nat}{j:Int × Sd.Sd->Nat} (h:qH c H ps ys rs d j):qH c H' ps ys rs d j :=
 ⟨h.lp,h.ly,fun i q y t a b e=>kt _ _ (h.row i q y t a b e),fun i y t a b=>yI kt ki (h.sub i y t a b)⟩
theorem p8 {α : Type}{l:List α}{x y:α}{i:Nat} (h:(l ++ [x])[i]? = some y):(i < l.length /\ l[i]? = some y) ∨ (i=l.length /\ y=x):=by
 by_cases hi:i < l.length
 ·exact .inl ⟨hi,by rwa [List.getElem?_append_left hi] at h⟩
 ·have h2:=(List.getElem?_eq_some_iff.mp h).1
  rw [List.length_append,List.length_singleton] at h2
  have e:i=l.length:=by omega
  subst e
  rw [List.getElem?_append_right (Nat.le_refl _),Nat.sub_self] at h
  cases h
  exact .inr ⟨rfl,rfl⟩
theorem MJ {ps ys:List Addr}{rs:List (Int × Sd.Sd)}{d:Nat}{j:Int × Sd.Sd->Nat} (h:qH c H ps ys rs d j) {q y:Addr}{t:Int × Sd.Sd} (hq:H q=some (.tup [.int t.1,.ref y])) (hy:dR c H y t.2 d (j t)):qH c H (ps ++ [q]) (ys ++ [y]) (rs ++ [t]) d j:=by
 have l1:=h.lp
 have l2:=h.ly
 refine ⟨by simp [l1],by simp [l2],fun i q' y' t' a b c=>?_,fun i y' t' b c=>?_⟩
 ·rcases p8 a with ⟨i1,a⟩ | ⟨i1,rfl⟩ <;> rcases p8 b with ⟨i2,b⟩ | ⟨i2,rfl⟩ <;> rcases p8 c with ⟨i3,c⟩ | ⟨i3,rfl⟩
  ·exact h.row i _ _ _ a b c
  all_goals first | exact hq | (exfalso; omega)
 ·rcases p8 b with ⟨i2,b⟩ | ⟨i2,rfl⟩ <;> rcases p8 c with ⟨i3,c⟩ | ⟨i3,rfl⟩
  ·exact h.sub i _ _ b c
  all_goals first | exact hy | (exfalso; omega)
theorem Kr {ps ys:List Addr}{rs:List (Int × Sd.Sd)} (lp:ps.length=rs.length) (ly:ys.length=rs.length) (row:∀ (i:Nat) q y t,ps[i]? = some q->ys[i]? = some y->rs[i]? = some t->H q=some (.tup [.int t.1,.ref y])) (sub:∀ (i:Nat) y t,ys[i]? = some y->rs[i]? = some t->gQ H y t.2)
  {i:Nat}{v:V} (hv:(ps.map V.ref)[i]? = some v):∃ q y t,rs[i]? = some t /\ v = .ref q /\ H q=some (.tup [.int t.1,.ref y]) /\ gQ H y t.2 /\ t ∈ rs:=by
 rw [List.getElem?_map] at hv
 cases e:ps[i]? with
 | none=>rw [e] at hv; cases hv
 | some q =>
  rw [e] at hv
  cases hv
  have hi:=(List.getElem?_eq_some_iff.mp e).1
  have ey:ys[i]? = some (ys[i]'(by omega)):=List.getElem?_eq_getElem _
  have er:rs[i]? = some (rs[i]'(by omega)):=List.getElem?_eq_getElem _
  exact ⟨q,_,_,er,rfl,row i q _ _ e ey er,sub i _ _ ey er,List.mem_of_getElem? er⟩
end
structure vG (H:Hp) (ps ys:List Addr) (rs:List (Int × Sd.Sd)):Prop where
 lp:ps.length=rs.length
 ly:ys.length=rs.length
 row:∀ (i:Nat) q y t,ps[i]? = some q->ys[i]? = some y->rs[i]? = some t->H q=some (.tup [.int t.1,.ref y])
 sub:∀ (i:Nat) y t,ys[i]? = some y->rs[i]? = some t->gQ H y t.2
theorem vG.keep {H H':Hp}{ps ys:List Addr}{rs:List (Int × Sd.Sd)} (h:vG H ps ys rs) (k:∀ b xs,H b=some (.tup xs)->H' b=some (.tup xs)):vG H' ps ys rs :=
 ⟨h.lp,h.ly,fun i q y t a b c=>k _ _ (h.row i q y t a b c),fun i y t a b=>(h.sub i y t a b).keep k⟩
theorem vG.same {H H':Hp}{ps ys:List Addr}{rs:List (Int × Sd.Sd)} (s:aN H H') (h:vG H ps ys rs):vG H' ps ys rs:=h.keep fun b xs e=>s _ _ e
theorem lY {α : Type}{l:List α}{x y:α}{i:Nat} (h:(l ++ [x])[i]? = some y):(i < l.length /\ l[i]? = some y) ∨ (i=l.length /\ y=x):=by
 by_cases hi:i < l.length
 ·exact .inl ⟨hi,by rwa [List.getElem?_append_left hi] at h⟩
 ·have h2:=(List.getElem?_eq_some_iff.mp h).1
  rw [List.length_append,List.length_singleton] at h2
  have e:i=l.length:=by omega
  subst e
  rw [List.getElem?_append_right (Nat.le_refl _),Nat.sub_self] at h
  cases h
  exact .inr ⟨rfl,rfl⟩
theorem vG.snoc {H:Hp}{ps ys:List Addr}{rs:List (Int × Sd.Sd)} (h:vG H ps ys rs) {q y:Addr}{t:Int × Sd.Sd} (hq:H q=some (.tup [.int t.1,.ref y])) (hy:gQ H y t.2):vG H (ps ++ [q]) (ys ++ [y]) (rs ++ [t]):=by
 have l1:=h.lp
 have l2:=h.ly
 refine ⟨by simp [l1],by simp [l2],fun i q' y' t' a b c=>?_,fun i y' t' b c=>?_⟩
 ·rcases lY a with ⟨i1,a⟩ | ⟨i1,rfl⟩ <;> rcases lY b with ⟨i2,b⟩ | ⟨i2,rfl⟩ <;> rcases lY c with ⟨i3,c⟩ | ⟨i3,rfl⟩
  ·exact h.row i _ _ _ a b c
  all_goals first | exact hq | (exfalso; omega)
 ·rcases lY b with ⟨i2,b⟩ | ⟨i2,rfl⟩ <;> rcases lY c with ⟨i3,c⟩ | ⟨i3,rfl⟩
  ·exact h.sub i _ _ b c
  all_goals first | exact hy | (exfalso; omega)
theorem vV {n:Nat}{f:Addr}{fd:FuncData} (F:eN K "told" "Stage.told" (aD (top 41) 6) f fd) {n0:Nat}{c:Cs} (ck:CK K c) (cfE:zR K c.e) (cfS:zR K c.s) {f_Et:Addr}{fd_Et:FuncData} (m_Et:cB K c.e "told" f_Et) (G_Et:aP P w K mg base dM n f_Et fd_Et ["self"] (Fb c)) (b_Et:aY K fd_Et ["self"] []) {f_St:Addr}{fd_St:FuncData} (m_St:cB K c.s "told" f_St) (G_St:aP P w K mg base dM n f_St fd_St ["self"] (JG c n0)) (b_St:aY K fd_St ["self"] []) (z_tuple:mg "tuple" = none):aP P w K mg base dM (n + 1) f fd ["self"] (JG c (n0 + 1)):=by
 refine F.ok oJ (fun vs H Q E h=>?_) (fun cdv A outer s H vs Q E hr h=>?_)
 ·obtain ⟨x,p,rs,d,m,rfl,_⟩:=h
  rfl
 obtain ⟨x,p,rs,d,m,rfl,st,dn,q⟩:=h
 have nd:=oJ.nd
 refine ⟨_,(aJ (aW (eU (aA lA (aA (cL (pv 0) rfl) (aA (c7 (cZ (K:=K) rfl) rfl z_tuple gH (aA (cH (ls:=["weight","stand"]) (M:=["self"]) rfl (bT.of (by rfl)) (NL.of (by rfl)) (En (cL (pv 0) rfl)) (fun _ _ _ _=>⟨(gK (K:=K) (n:=2) rfl rfl (bM (bA (i:=0) (cU (by rfl)) rfl (Or.inl rfl)) (bM (bA (i:=1) (cU (by rfl)) rfl (Or.inl rfl)) fM))),cG,(eU (aA (pv 0) (aA (fU (bK (pv 1) cfE m_Et G_Et hr b_Et .nil cT) (bK (pv 1) cfS m_St G_St hr b_St .nil cT)) aC)))⟩)) aC)) aC)))))),?_⟩
 cases st with
 | @st _ dx l cp r _ n' k' lv d _ j xs _ ps ys h vv g lp ly row sub p0 p9 ne l4 w hk =>
  have R:qH c H ps ys rs _ _:=⟨lp,ly,row,sub⟩
  have hl:(ps.map V.ref).length=rs.length:=by rw [List.length_map]; exact lp
  refine ⟨_,rfl,x,c.s,dx,_,_,rfl,h,ck.cs,ck.s5,rfl,?_⟩
  refine ⟨_,rfl,x,c.s,dx,_,_,rfl,h,ck.cs,ck.s6,rfl,r,rfl,⟨_,cN.of g⟩,fun D hD=>?_⟩
  refine tW (xs:=ps.map V.ref) (fun u τ H'=>∃ v0 v1 qs zs,τ = [v0,v1,some (.ref x)] /\ aN H H' /\ H' D=some (.lst (qs.map V.ref)) /\ vG H' qs zs (rs.take u)) ⟨none,none,[],[],rfl,aF hD _,aB,⟨rfl,rfl,(fun i q y t a=>by simp at a),(fun i y t a=>by simp at a)⟩⟩ ?keep ?turn ?done
  case keep =>
   rintro u τ H' hi ⟨v0,v1,qs,zs,rfl,hs,_⟩
   exact cN.of (hs _ _ g)
  case turn =>
   rintro u mm v τ H' hm hi hv ⟨v0,v1,qs,zs,rfl,hs,hD',tw⟩
   obtain ⟨q1,y,t,_,_,er,rfl,h1,st,mem⟩:=R.at_ hv
   refine ⟨q1,_,rfl,cN.of (hs _ _ h1),rfl,_,_,rfl,_,_,rfl,rfl,?_⟩
   refine fL ?_
   refine ⟨_,rfl,?_⟩
   refine OJ (st.same hs) (n:=n0) (by omega) (fun R h=>⟨_,rfl,h⟩) fun r1 H2 s2 to2=>?_
   refine ⟨vY,fun T hT=>?_⟩
   have n3:=aF hT (.tup [.int t.1,.ref r1])
   have hD3:=n3 _ _ (s2 _ _ hD')
   have ql:qs.length <= 4:=by rw [tw.lp,List.length_take]; omega
   have kt:∀ (o:HO) b xs,aU H2 T (.tup [.int t.1,.ref r1]) b=some (.tup xs)->aU (aU H2 T (.tup [.int t.1,.ref r1])) D o b=some (.tup xs):=fun o b xs e=>by rw [aL (bJ e hD3 fun z=>nomatch z)]; exact e
   refine bH hm hi hD3 (by rw [List.length_map]; exact aZ (by omega)) ⟨_,_,qs ++ [T],zs ++ [r1],rfl,((hs.trans s2).trans n3).upd_new hD _,by rw [aB,List.map_append]; rfl,?_⟩
   rw [bL er]
   exact (((tw.same s2).same n3).keep (kt _)).snoc (kt _ _ _ aB) ((to2.same n3).keep (kt _))
  case done =>
   rintro τ H' ⟨v0,v1,qs,zs,rfl,hs,hD',tw⟩
   rw [hl,List.take_length] at tw
   refine ⟨D,_,rfl,.inl ⟨bO.of hD',fun t ht=>?_⟩⟩
   have n4:=aF ht (.tup (qs.map V.ref))
   refine ⟨Ky,fun r2 hr2=>?_⟩
   have n5:=aF hr2 (.tup [.str "stage",.int p,.ref t])
   have tw5:=(tw.same n4).same n5
   exact q r2 _ ((hs.trans n4).trans n5) (.st aB (n5 _ _ aB) tw5.lp tw5.ly tw5.row tw5.sub)
theorem q8 {n:Nat}{f:Addr}{fd:FuncData} (F:eN K "reserve" "Stand.reserve" (aD (top 39) 3) f fd) {c:Cs} (ck:CK K c):aP P w K mg base dM (n + 1) f fd ["self"] (Ny c):=by
 refine F.ok j6 (fun vs H Q E h=>?_) (fun cdv A outer s H vs Q E hr h=>?_)
 ·obtain ⟨x,s,d,m,rfl,_⟩:=h
  rfl
 obtain ⟨x,s,d,m,rfl,st,q⟩:=h
 have nd:=j6.nd
 refine ⟨_,(aJ (aW (cL (pv 0) rfl))),?_⟩
 cases st with
 | en h vv ok=>exact ⟨_,rfl,x,c.e,_,_,_,rfl,h,ck.ce,ck.e3,rfl,q _ _ vv.lv vv.lw ⟨_,vv.mt⟩⟩
 | st h vv g lp ly row sub p0 p9 ne l4 w hk=>exact ⟨_,rfl,x,c.s,_,_,_,rfl,h,ck.cs,ck.s3,rfl,q _ _ vv.lv vv.lw ⟨_,vv.mt⟩⟩
theorem Yn {c:Cs}{H:Hp}{ps ys:List Addr}{rs:List (Int × Sd.Sd)}{d i:Nat}{j:Int × Sd.Sd->Nat}{t:Int × Sd.Sd} (R:qH c H ps ys rs d j) (h:rs[i]? = some t):∃ q y,(ps.map V.ref)[i]? = some (.ref q) /\ H q=some (.tup [.int t.1,.ref y]) /\ dR c H y t.2 d (j t):=by
 have hi:=(List.getElem?_eq_some_iff.mp h).1
 have l1:=R.lp
 have l2:=R.ly
 have ep:ps[i]? = some (ps[i]'(by omega)):=List.getElem?_eq_getElem _
 have ey:ys[i]? = some (ys[i]'(by omega)):=List.getElem?_eq_getElem _
 exact ⟨_,_,by rw [List.getElem?_map,ep]; rfl,R.row i _ _ _ ep ey h,R.sub i _ _ ey h⟩
theorem uQ {n:Nat}{f:Addr}{fd:FuncData} (F:eN K "after" "Stage.after" (aD (top 41) 3) f fd) {c:Cs} (ck:CK K c):aP P w K mg base dM (n + 1) f fd ["self","row"] (Qs c):=by
 refine F.ok mJ (fun vs H Q E h=>?_) (fun cdv A outer s H vs Q E hr h=>?_)
 ·obtain ⟨x,p,rs,d,m,i,t,rfl,_⟩:=h
  rfl
 obtain ⟨x,p,rs,d,m,i,t,rfl,st,ht,q⟩:=h
 have nd:=mJ.nd
 refine ⟨_,(aJ (aW (bU eV (bU eV (cL (pv 0) rfl) (pv 1) (fun _ _=>rfl)) aH (fun _ _=>rfl)))),?_⟩
 cases st with
 | @st _ dx l cp r _ n' k' lv _ _ j xs _ ps ys h vv g lp ly row sub p0 p9 ne l4 w hk =>
  obtain ⟨q0,y,e1,e2,e3⟩:=Yn ⟨lp,ly,row,sub⟩ ht
  exact ⟨_,rfl,x,c.s,dx,_,_,rfl,h,ck.cs,ck.s6,rfl,_,rfl,r,_,_,_,rfl,rfl,cN.of g,fD e1,q0,_,_,_,rfl,rfl,cN.of e2,rfl,q y _ (Sd.M9 hk t (List.mem_of_getElem? ht)) e3⟩
theorem uV {n:Nat}{f:Addr}{fd:FuncData} (F:eN K "_law_object" "_law_object" (top 56) f fd) {n0:Nat}{c:Cs}{C_NoBox iE iS:Addr}{dE dS:FuncData}{kE kS:Nat} (M_End:Mk K c.e iE) (G_End:aP P w K mg base (jJ P w) kE iE dE ["self","worth"] (Nu c C_NoBox)) (b_End:aY K dE ["self","worth"] []) (g_End:mg "End" = some (.ref c.e)) (hn_End:kE + 1 <= n) (M_Stage:Mk K c.s iS) (G_Stage:aP P w K mg base (jJ P w) kS iS dS ["self","price","rows"] (N7 c K C_NoBox Pt iJ)) (b_Stage:aY K dS ["self","price","rows"] []) (g_Stage:mg "Stage" = some (.ref c.s)) (hn_Stage:kS + 1 <= n) {g__law_object:Addr}{gd__law_object:FuncData} (c__law_object:gG P w K mg base n "_law_object" ["_law_model_here"] (LK c Pt iJ n0) g__law_object gd__law_object):aP P w K mg base dM (n + 1) f fd ["_law_model_here"] (LK c Pt iJ (n0 + 1)):=by
 refine F.ok mH (fun vs H Q E h=>?_) (fun cdv A outer s H vs Q E hr h=>?_)
 ·obtain ⟨a,s,d,m,rfl,_⟩:=h
  rfl
 obtain ⟨a,s,d,m,rfl,to,ok,dn,d4,m12,hTb,q⟩:=h
 have nd:=mH.nd
 refine ⟨_,(aG (dO (bZ jX (bU eV (pv 0) aH (fun _ _=>rfl)) lA (cO _)) (aJ (aW (pN M_End G_End (hr.mono hn_End) rfl g_End b_End .nil jD (aA (bU eV (pv 0) aH (fun _ _=>rfl)) aC)))) bY) (aJ (aW (pN M_Stage G_Stage (hr.mono hn_Stage) rfl g_Stage b_Stage .nil jD (aA (bU eV (pv 0) aH (fun _ _=>rfl)) (aA (cH (ls:=["_law_weight","_law_one"]) (M:=["_law_model_here"]) rfl (bT.of (by rfl)) (NL.of (by rfl)) (En (bU eV (pv 0) aH (fun _ _=>rfl))) (fun _ _ _ _=>⟨(gK (K:=K) (n:=2) rfl rfl (bM (bA (i:=0) (cU (by rfl)) rfl (Or.inl rfl)) (bM (bA (i:=1) (cU (by rfl)) rfl (Or.inl rfl)) fM))),cG,(eU (aA (pv 0) (aA (aM c__law_object hr (aA (pv 1) aC)) aC)))⟩)) aC)))))),?_⟩
 cases to with
 | @en _ v h =>
  cases ok with
  | en h0 h9 hm =>
  refine ⟨_,rfl,a,_,_,_,rfl,rfl,cN.of h,rfl,rfl,_,rfl,?_⟩
  refine fX ?_
  refine ⟨_,rfl,a,_,_,_,rfl,rfl,cN.of h,rfl,?_⟩
  intro x dx hx hdx ndx
  have nO:aN H (aU (aU H dx (.own x)) x (.ins c.e dx [])):=(aF hdx (.own x)).trans (aF (by rw [aL (Ne.symm ndx)]; exact hx) _)
  refine .inl ⟨x,dx,v,rfl,aB,h0,h9,fun H' k5 st=>⟨rfl,?_⟩⟩
  have sX:CZ x (aU (aU H dx (.own x)) x (.ins c.e dx [])) H':=k5
  exact q x H' (fun b o _ e=>k5 b o (aR e hx) (nO _ _ e)) (eX.sameX (hTb.same nO) sX aB) (st d m hm)
 | @st _ r p rs ps ys h g lp ly row sub =>
  cases ok with
  | @st _ _ d _ j h0 h9 ne l4 ww oks hk =>
  have hlr:(ps.map V.ref).length=rs.length:=by rw [List.length_map]; exact lp
  refine ⟨_,rfl,a,_,_,_,rfl,rfl,cN.of h,rfl,rfl,_,rfl,?_⟩
  refine gA ?_
  refine ⟨_,rfl,a,_,_,_,rfl,rfl,cN.of h,rfl,?_⟩
  refine ⟨_,rfl,a,_,_,_,rfl,rfl,cN.of h,rfl,r,rfl,⟨_,cN.of g⟩,fun D hD=>?_⟩
  refine tW (xs:=ps.map V.ref) (fun i τ H'=>∃ v0 v1 qs zs,τ = [v0,v1,some (.ref a)] /\ cA Pt H H' /\ eX Pt iJ kY H' /\ H' D=some (.lst (qs.map V.ref)) /\ qH c H' qs zs (rs.take i) d j) ⟨none,none,[],[],rfl,(aF hD _).toT,hTb.same (aF hD _),aB,⟨rfl,rfl,(fun i q y t a=>by simp at a),(fun i y t a=>by simp at a)⟩⟩ ?keep ?turn ?done
  case keep =>
   rintro u τ H' hi ⟨v0,v1,qs,zs,rfl,hs,_⟩
   exact cN.of (hs.get hTb g fun _ z=>nomatch z)
  case turn =>
   rintro u mm v τ H' hm hi hv ⟨v0,v1,qs,zs,rfl,hs,tb,hD',R⟩
   obtain ⟨q1,y,t,er,rfl,h1,to,mem⟩:=Kr lp ly row sub hv
   have kt:∀ b xs,H b=some (.tup xs)->H' b=some (.tup xs):=fun b xs e=>hs.get hTb e fun _ z=>nomatch z
   refine ⟨q1,_,rfl,cN.of (kt _ _ h1),rfl,_,_,rfl,_,_,rfl,rfl,?_⟩
   refine fL ?_
   refine ⟨_,rfl,_,rfl,y,t.2,d,j t,rfl,to.keep kt,oks t mem,by omega,by omega,Nat.le_trans (Sd.M9 hk t mem) m12,tb,fun x H2 s2 tb2 st2=>?_⟩
   refine ⟨vY,fun T hT=>?_⟩
   have n3:=aF hT (.tup [.int t.1,.ref x])
   have hD2:H2 D=some (.lst (qs.map V.ref)):=s2.get tb hD' fun _ z=>nomatch z
   have hD3:=n3 _ _ hD2
   have R3:=(R.kp (cA.kp s2 tb)).kp (aN.kp n3)
   have nD:∀ (o:HO),aN (aU H2 T (.tup [.int t.1,.ref x])) (aU H2 T (.tup [.int t.1,.ref x])):=fun _=>aN.refl _
   have kt4:∀ (o:HO) b xs,aU H2 T (.tup [.int t.1,.ref x]) b=some (.tup xs)->aU (aU H2 T (.tup [.int t.1,.ref x])) D o b=some (.tup xs):=fun o b xs e=>by rw [aL (bJ e hD3 fun z=>nomatch z)]; exact e
   have ki4:∀ (o:HO) b C dx f fs,aU H2 T (.tup [.int t.1,.ref x]) b=some (.ins C dx (f :: fs))->aU (aU H2 T (.tup [.int t.1,.ref x])) D o b=some (.ins C dx (f :: fs)):=fun o b C dx f fs e=>by rw [aL (bJ e hD3 fun z=>nomatch z)]; exact e
   have ql:qs.length <= 4:=by rw [R.lp,List.length_take]; omega
   refine bH hm hi hD3 (by rw [List.length_map]; exact aZ (by omega)) ⟨_,_,qs ++ [T],zs ++ [x],rfl,((hs.trans s2).trans n3.toT).upd_new hD _,?_,by rw [aB,List.map_append]; rfl,?_⟩
   ·have:=tb2.same n3
    rcases this with w | ⟨c',w1,w2⟩
    ·exact .inl (by rw [aL (bJ w hD3 fun z=>nomatch z)]; exact w)
    ·exact .inr ⟨c',by rw [aL (bJ w1 hD3 fun z=>nomatch z)]; exact w1,by rw [aL (bJ w2 hD3 fun z=>by unfold uR at z; exact nomatch z)]; exact w2⟩
   ·rw [bL er]
    exact MJ (Mi (kt4 _) (ki4 _) R3) (kt4 _ _ _ aB) (yI (kt4 _) (ki4 _) (st2.kp (aN.kp n3)))
  case done =>
   rintro τ H1 ⟨v0,v1,qs,zs,rfl,hs,tb,hD',R⟩
   rw [hlr,List.take_length] at R
   intro x dx hx hdx ndx
   have nO:aN H1 (aU (aU H1 dx (.own x)) x (.ins c.s dx [])):=(aF hdx (.own x)).trans (aF (by rw [aL (Ne.symm ndx)]; exact hx) _)
   refine .inl ⟨x,dx,D,p,qs,zs,rs,d,j,rfl,aB,⟨nO _ _ hD',R.kp (aN.kp nO),ne,l4,ww⟩,h0,h9,.inr ⟨m,hk,m12,d4,tb.same nO,fun H' k5 tb5 st5=>⟨rfl,?_⟩⟩⟩
   exact q x H' (fun b o nP e=>k5 b o (aR (hs b o nP e) hx) nP (nO _ _ (hs b o nP e))) tb5 st5
theorem zV {n:Nat}{f:Addr}{fd:FuncData} (F:eN K "_law_left" "_law_left" (top 52) f fd) {g__law_cell_at:Addr}{gd__law_cell_at:FuncData} (c__law_cell_at:gG P w K mg base n "_law_cell_at" ["_law_script","_law_k"] (Fp K) g__law_cell_at gd__law_cell_at):aP P w K mg base dM (n + 1) f fd ["_law_script","_law_k"] (Kg K):=by
 refine F.ok pP (fun vs H Q E h=>?_) (fun cdv A outer s H vs Q E hr h=>?_)
 ·obtain ⟨a,ns,k,rfl,_⟩:=h
  rfl
 obtain ⟨a,ns,k,rfl,hS,hk,q⟩:=h
 have nd:=pP.nd
 refine ⟨_,(aJ (aW (dU (aA (aM c__law_cell_at hr (aA (pv 0) (aA (pv 1) aC))) (aA (aQ lC aH (aQ dH (aQ jL (aM c__law_cell_at hr (aA (pv 0) (aA aH aC))) aH) aH)) aC))))),?_⟩
 refine ⟨_,rfl,_,rfl,a,ns,k,rfl,hS,hk,fun x=>?_⟩
 refine ⟨_,rfl,a,ns,0,rfl,hS,by decide,fun y=>?_⟩
 refine ⟨_,_,rfl,rfl,⟨by decide,by decide⟩,_,_,rfl,rfl,(by show (0:Int) < 2; decide),_,_,rfl,rfl,vY,fun l hl=>?_⟩
 have g1:=Int.emod_nonneg (y / 24) (show (2:Int) ≠ 0 by decide)
 have g2:=Int.emod_lt_of_pos (y / 24) (show (0:Int) < 2 by decide)
 exact q l _ _ hl (by omega) (by omega)
theorem yS {n:Nat}{f:Addr}{fd:FuncData} (F:eN K "_law_draw" "_law_draw" (top 53) f fd) {g__law_mixed:Addr}{gd__law_mixed:FuncData} (c__law_mixed:gG P w K mg base n "_law_mixed" ["_law_cell","_law_k"] Ke g__law_mixed gd__law_mixed):aP P w K mg base dM (n + 1) f fd ["_law_left_here","_law_many"] Kc:=by
 refine F.ok pL (fun vs H Q E h=>?_) (fun cdv A outer s H vs Q E hr h=>?_)
 ·obtain ⟨l,x,b,m,rfl,_⟩:=h
  rfl
 obtain ⟨l,x,b,m,rfl,hl,m1,m9,b0,b9,q⟩:=h
 have nd:=pL.nd
 refine ⟨_,(aG (dO (bZ jX (bU dI (pv 0) aH (fun _ _=>rfl)) aH (cO _)) (aG (aV (i:=2) nd rfl (Or.inl rfl) (aQ dH (bU dI (pv 0) aH (fun _ _=>rfl)) (pv 1))) (aG (JW (aQ jL (bU dI (pv 0) aH (fun _ _=>rfl)) (pv 1)) (Ia (pv 0) aH Bf)) (aJ (aW (pv 2))))) bY) (aG (JW (aQ fP (bU dI (pv 0) aH (fun _ _=>rfl)) aH) (Ia (pv 0) aH Bf)) (aJ (aW (aQ dH (aM c__law_mixed hr (aA (bU dI (pv 0) aH (fun _ _=>rfl)) (aA (bU dI (pv 0) aH (fun _ _=>rfl)) aC))) (pv 1)))))),?_⟩
 have AT:∀ (H:Hp) (y z:Int) (i:Nat) (v:Int),i < 2->[y,z][i]? = some v->Hz [V.int y,V.int z] (i:Int)=some (V.int v):=fun H y z i v hi e=>by
  match i,hi,e with
  | 0,_,e=>cases e; rfl
  | 1,_,e=>cases e; rfl
 refine ⟨_,rfl,l,_,_,_,rfl,rfl,bO.of hl,rfl,rfl,_,rfl,?_⟩
 refine nW (fun c0=>?_) (fun c0=>?_)
 ·refine ⟨_,rfl,l,_,_,_,rfl,rfl,bO.of hl,rfl,_,rfl,_,_,rfl,rfl,(by show (0:Int) < m; omega),?_⟩
  refine ⟨_,rfl,l,_,_,_,rfl,rfl,bO.of hl,rfl,_,rfl,_,_,rfl,rfl,⟨by omega,by omega⟩,?_⟩
  refine ⟨_,rfl,l,_,0,0,rfl,rfl,hl,(by rfl),?_⟩
  refine ⟨_,rfl,?_⟩
  exact q _ _ b _ (Int.emod_nonneg _ (by omega)) (Int.emod_lt_of_pos _ (by omega)) b0 (by omega) (KX.put _) aB
 ·refine ⟨_,rfl,l,_,_,_,rfl,rfl,bO.of hl,rfl,_,_,rfl,rfl,?_⟩
  refine ⟨_,rfl,l,_,1,1,rfl,rfl,hl,(by rfl),?_⟩
  have e1:aU H l (.lst ([V.int x,V.int b].set 1 (.int (b + 1)))) l=some (.lst [V.int x,V.int (b + 1)]):=aB
  have k1:KX l H (aU H l (.lst ([V.int x,V.int b].set 1 (.int (b + 1))))):=KX.put _
  generalize aU H l (.lst ([V.int x,V.int b].set 1 (.int (b + 1))))=H1 at e1 k1 ⊢
  refine ⟨_,rfl,l,_,_,_,rfl,rfl,bO.of e1,rfl,_,rfl,l,_,_,_,rfl,rfl,bO.of e1,rfl,_,_,rfl,by omega,by omega,fun j j0 j9=>?_⟩
  refine ⟨_,rfl,_,_,rfl,rfl,(by show (0:Int) < m; omega),?_⟩
  exact q _ _ (b + 1) _ (Int.emod_nonneg _ (by omega)) (Int.emod_lt_of_pos _ (by omega)) (by omega) (by omega) k1 e1
theorem zN {n:Nat}{f:Addr}{fd:FuncData} (F:eN K "_law_ends" "_law_ends" (top 54) f fd) {n0:Nat}{g__law_ends:Addr}{gd__law_ends:FuncData} (c__law_ends:gG P w K mg base n "_law_ends" ["_law_stand"] (Ls n0) g__law_ends gd__law_ends) (z_sum:mg "sum" = none):aP P w K mg base dM (n + 1) f fd ["_law_stand"] (Ls (n0 + 1)):=by
 refine F.ok pM (fun vs H Q E h=>?_) (fun cdv A outer s H vs Q E hr h=>?_)
 ·obtain ⟨a,s,d,m,rfl,_⟩:=h
  rfl
 obtain ⟨a,s,d,m,rfl,to,ok,dn,q⟩:=h
 have nd:=pM.nd
 refine ⟨_,(aG (dO (bZ jX (bU eV (pv 0) aH (fun _ _=>rfl)) lA (cO _)) (aJ (aW aH)) bY) (aJ (aW (bB (mL rfl) rfl z_sum u0 (aA (cH (ls:=["_law_weight","_law_one"]) (M:=["_law_stand"]) rfl (bT.of (by rfl)) (NL.of (by rfl)) (En (bU eV (pv 0) aH (fun _ _=>rfl))) (fun _ _ _ _=>⟨(gK (K:=K) (n:=2) rfl rfl (bM (bA (i:=0) (cU (by rfl)) rfl (Or.inl rfl)) (bM (bA (i:=1) (cU (by rfl)) rfl (Or.inl rfl)) fM))),cG,(aM c__law_ends hr (aA (pv 1) aC))⟩)) aC))))),?_⟩
 cases to with
 | @en _ v h =>
  refine ⟨_,rfl,a,_,_,_,rfl,rfl,cN.of h,rfl,rfl,_,rfl,?_⟩
  refine fX ?_
  exact q H (aN.refl _)
 | @st _ r p rs ps ys h g lp ly row sub =>
  cases ok with
  | @st _ _ d _ j h0 h9 ne l4 ww oks hk =>
  have hlr:(ps.map V.ref).length=rs.length:=by rw [List.length_map]; exact lp
  refine ⟨_,rfl,a,_,_,_,rfl,rfl,cN.of h,rfl,rfl,_,rfl,?_⟩
  refine gA ?_
  refine ⟨_,rfl,a,_,_,_,rfl,rfl,cN.of h,rfl,r,rfl,⟨_,cN.of g⟩,fun D hD=>?_⟩
  refine tW (xs:=ps.map V.ref) (fun i τ H'=>∃ v0 v1,τ = [v0,v1,some (.ref a)] /\ aN H H' /\ H' D=some (.lst (((rs.take i).map fun r=>Sd.nE (d + 1) r.2).map V.int))) ⟨none,none,rfl,aF hD _,aB⟩ ?keep ?turn ?done
  case keep =>
   rintro u τ H' hi ⟨v0,v1,rfl,hs,_⟩
   exact cN.of (hs _ _ g)
  case turn =>
   rintro u mm v τ H' hm hi hv ⟨v0,v1,rfl,hs,hD'⟩
   obtain ⟨q1,y,t,er,rfl,h1,to,mem⟩:=Kr lp ly row sub hv
   refine ⟨q1,_,rfl,cN.of (hs _ _ h1),rfl,_,_,rfl,_,_,rfl,rfl,?_⟩
   refine fL ?_
   refine ⟨_,rfl,y,t.2,d,j t,rfl,to.same hs,oks t mem,by omega,fun H2 s2=>?_⟩
   refine bH hm hi (s2 _ _ hD') (by rw [List.length_map,List.length_map,List.length_take]; exact aZ (by omega)) ⟨_,_,rfl,(hs.trans s2).upd_new hD _,?_⟩
   rw [aB,bL er,List.map_append,List.map_append]
   rfl
  case done =>
   rintro τ H1 ⟨v0,v1,rfl,hs,hD'⟩
   rw [hlr,List.take_length] at hD'
   exact ⟨D,_,rfl,bO.of hD',q H1 hs⟩
theorem vK {n:Nat}{f:Addr}{fd:FuncData}{dT:Addr} (F:Ih K dT "_law_model" "_law_model" (top 55) f fd) {n0:Nat}{g__law_model:Addr}{gd__law_model:FuncData} (c__law_model:gG P w K mg base n "_law_model" ["_law_left_here","_law_level","_law_most"] (Ly n0) g__law_model gd__law_model) {g__law_ends:Addr}{gd__law_ends:FuncData} (c__law_ends:gG P w K mg base n "_law_ends" ["_law_stand"] (Ls 6) g__law_ends gd__law_ends) {g__law_draw:Addr}{gd__law_draw:FuncData} (c__law_draw:gG P w K mg base n "_law_draw" ["_law_left_here","_law_many"] Kc g__law_draw gd__law_draw) (z_tuple:mg "tuple" = none) (z_range:mg "range" = none) (z_sum:mg "sum" = none) (z_min:mg "min" = none) (z_int:mg "int" = none):aP P w K mg base dM (n + 1) f fd ["_law_left_here","_law_level","_law_most"] (Ly (n0 + 1)):=by
 refine F.ok oA (fun vs H Q E h=>?_) (fun cdv A outer s H vs Q E hr h=>?_)
 ·obtain ⟨l,x,b,lev,most,n,rfl,_⟩:=h
  rfl
 obtain ⟨l,x,b,lev,most,n,rfl,hl,hlev,n4,nn,m1,m12,b0,b9,q⟩:=h
 have nd:=oA.nd
 refine ⟨_,(aG (dO (PW.pt (rN (bZ jX (pv 1) aH (cO _)) (mG (bZ jX (aM c__law_draw hr (aA (pv 0) (aA (bU dI (dU (aA aH (aA aH aC))) (c7 Hd rfl z_int Jo (aA (pK GD (pv 1) aH (cO _)) aC)) (fun _ _=>rfl)) aC))) aH (cO _))))) (aJ (aW (eU (aA lA (aA (aM c__law_draw hr (aA (pv 0) (aA (bU dI (dU (aA aH (aA aH (aA (aQ fP (aQ zQ aH aH) aH) aC)))) (aM c__law_draw hr (aA (pv 0) (aA aH aC))) (fun _ _=>rfl)) aC))) aC))))) bY) (aG (aV (i:=3) nd rfl (Or.inl rfl) (aM c__law_draw hr (aA (pv 0) (aA (bU dI (dU (aA aH (aA aH (aA aH (aA (aQ fP (aQ zQ aH aH) aH) aC))))) (aM c__law_draw hr (aA (pv 0) (aA aH aC))) (fun _ _=>rfl)) aC)))) (aG (aV (i:=4) nd rfl (Or.inl rfl) (dU aC)) (aG (aV (i:=5) nd rfl (Or.inl rfl) (aQ fP aH (aM c__law_draw hr (aA (pv 0) (aA (bB (Hm rfl) rfl z_min QF (aA aH (aA (pv 2) aC))) aC))))) (aG (lH PassesOwn.never rfl (gD rfl z_range (aA (pv 5) aC)) (bA (i:=6) nd rfl (Or.inl rfl)) (aG (aV (i:=7) nd rfl (Or.inl rfl) (aQ fP aH (aM c__law_draw hr (aA (pv 0) (aA (bU dI (dU (aA aH (aA aH aC))) (aM c__law_draw hr (aA (pv 0) (aA aH aC))) (fun _ _=>rfl)) aC))))) (aG (aV (i:=8) nd rfl (Or.inl rfl) (aQ lC (aQ lC (pv 2) (bB (mL rfl) rfl z_sum u0 (aA (cH (ls:=["_law_one"]) (M:=["_law_left_here","_law_level","_law_most","_law_price","_law_rows","_law_many","_law_row","_law_weight","_law_room"]) rfl (bT.of (by rfl)) (NL.of (by rfl)) (cV (pv 4)) (fun _ _ _ _=>⟨(bA (i:=0) (cU (by rfl)) rfl (Or.inl rfl)),cG,(aM c__law_ends hr (aA (bU (lB (K:=K) rfl) (pv 0) aH (fun _ _=>rfl)) aC))⟩)) aC))) (aQ lC (aQ lC (pv 5) (pv 6)) aH))) (aJ (eF (Bv PySem.F.plainAttrs_list PySem.F.slot_list_append PySem.F.type_list_append nF (pv 4) (aA (eU (aA (pv 7) (aA (aM c__law_model hr (aA (pv 0) (aA (aQ fP (pv 1) aH) (aA (pv 8) aC)))) aC))) aC))))))) (aJ (aW (eU (aA lA (aA (pv 3) (aA (c7 (cZ (K:=K) rfl) rfl z_tuple gH (aA (pv 4) aC)) aC))))))))))),?_⟩
 have d2:=Jc n
 refine ⟨_,rfl,rfl,_,rfl,?_⟩
 refine nW (fun _=>?_) (fun c0=>?_)
 ·refine fX ?_
  refine ⟨_,rfl,_,_,rfl,rfl,p9,_,_,rfl,rfl,Ky,fun lE hlE=>?_⟩
  have mE:=aF hlE (.lst [V.int 10,V.int 1000,V.int (10 ^ (9:Int).toNat + 1)])
  have elE:aU H lE (.lst [V.int 10,V.int 1000,V.int (10 ^ (9:Int).toNat + 1)]) lE=some (.lst [V.int 10,V.int 1000,V.int (10 ^ (9:Int).toNat + 1)]):=aB
  have hLaE:=mE _ _ hl
  have nlE:lE ≠ l:=fun z=>by rw [z,hl] at hlE; cases hlE
  have kmE:KX l H (aU H lE (.lst [V.int 10,V.int 1000,V.int (10 ^ (9:Int).toNat + 1)])):=KX.of mE
  generalize aU H lE (.lst [V.int 10,V.int 1000,V.int (10 ^ (9:Int).toNat + 1)])=GE at mE elE hLaE kmE ⊢
  refine ⟨_,rfl,l,x,b,3,rfl,hLaE,by decide,by decide,by omega,by omega,fun iE xE bE HE i0E i1E b0E b1E kkE hLE=>?_⟩
  have el2E:=kkE _ _ nlE elE
  obtain ⟨vE,atE,uE,evE,u1E,u9E⟩:=uH (xs:=[V.int 10,V.int 1000,V.int (10 ^ (9:Int).toNat + 1)]) (P:=fun v=>∃ u:Int,v = .int u /\ 1 <= u /\ u <= 1000000001) (fun v hv=>by
   simp only [List.mem_cons,List.not_mem_nil,or_false] at hv
   rcases hv with rfl | rfl | rfl
   ·exact ⟨_,rfl,by decide,by decide⟩
   ·exact ⟨_,rfl,by decide,by decide⟩
   ·exact ⟨_,rfl,by decide,by decide⟩
   ) i0E (by show iE < 3; exact i1E)
  subst evE
  refine ⟨lE,_,_,_,rfl,rfl,bO.of el2E,atE,l,xE,bE,uE,rfl,hLE,by omega,by omega,by omega,by omega,fun rE yE cE IE r0E r1E c0E c1E kjE hME=>?_⟩
  have ktE:=(kmE.trans kkE).trans kjE
  refine ⟨vY,fun t ht=>?_⟩
  have nt:=aF ht (.tup [.str "end",.int rE])
  exact q t (.en rE) _ yE cE ((KX.refl l H).trans (ktE.trans (KX.of nt))) (nt _ _ hME) c0E (by omega) (.en aB) (.en r0E (by omega) (by omega))
 have n0':n ≠ 0:=fun e=>c0 (decide_eq_true (by rw [hlev,e]; rfl))
 obtain ⟨n,rfl⟩ : ∃ n',n=n' + 1:=⟨n - 1,by omega⟩
 have dd:dN (n + 1)=4 + 4 * (2 + dN n):=rfl
 have d2':=Jc n
 refine ⟨_,rfl,vY,fun la hla=>?_⟩
 have ma:=aF hla (.lst [V.int 9,V.int 2])
 have ela:aU H la (.lst [V.int 9,V.int 2]) la=some (.lst [V.int 9,V.int 2]):=aB
 have hLa:=ma _ _ hl
 have kma:KX l H (aU H la (.lst [V.int 9,V.int 2])):=KX.of ma
 generalize aU H la (.lst [V.int 9,V.int 2])=Ha at ma ela hLa kma ⊢
 refine ⟨_,rfl,_,_,rfl,rfl,.inr ⟨_,rfl,?_⟩⟩
 obtain ⟨va,ata,ua,rfl,ua1,ua9⟩ : ∃ v,Hz [V.int 9,V.int 2] (if decide (lev > 0)=true then 1 else 0)=some v /\ ∃ u:Int,v = .int u /\ 1 <= u /\ u <= 9:=by
  split
  ·exact ⟨_,rfl,2,rfl,by decide,by decide⟩
  ·exact ⟨_,rfl,9,rfl,by decide,by decide⟩
 refine ⟨la,_,_,_,rfl,rfl,bO.of ela,ata,l,x,b,ua,rfl,hLa,by omega,by omega,by omega,by omega,fun ra xa ba H1 ra0 ra1 ba0 ba1 ka hL1=>?_⟩
 have kA:=kma.trans ka
 refine ⟨rfl,_,rfl,?_⟩
 refine nW (fun _=>?_) (fun _=>?_)
 ·
  refine ⟨_,rfl,_,_,rfl,rfl,p9,_,_,rfl,rfl,Ky,fun lF hlF=>?_⟩
  have mF:=aF hlF (.lst [V.int 10,V.int 1000,V.int (10 ^ (9:Int).toNat + 1)])
  have elF:aU H1 lF (.lst [V.int 10,V.int 1000,V.int (10 ^ (9:Int).toNat + 1)]) lF=some (.lst [V.int 10,V.int 1000,V.int (10 ^ (9:Int).toNat + 1)]):=aB
  have hLaF:=mF _ _ hL1
  have nlF:lF ≠ l:=fun z=>by rw [z,hL1] at hlF; cases hlF
  have kmF:KX l H1 (aU H1 lF (.lst [V.int 10,V.int 1000,V.int (10 ^ (9:Int).toNat + 1)])):=KX.of mF
  generalize aU H1 lF (.lst [V.int 10,V.int 1000,V.int (10 ^ (9:Int).toNat + 1)])=GF at mF elF hLaF kmF ⊢
  refine ⟨_,rfl,l,xa,ba,3,rfl,hLaF,by decide,by decide,by omega,by omega,fun iF xF bF HF i0F i1F b0F b1F kkF hLF=>?_⟩
  have el2F:=kkF _ _ nlF elF
  obtain ⟨vF,atF,uF,evF,u1F,u9F⟩:=uH (xs:=[V.int 10,V.int 1000,V.int (10 ^ (9:Int).toNat + 1)]) (P:=fun v=>∃ u:Int,v = .int u /\ 1 <= u /\ u <= 1000000001) (fun v hv=>by
   simp only [List.mem_cons,List.not_mem_nil,or_false] at hv
   rcases hv with rfl | rfl | rfl
   ·exact ⟨_,rfl,by decide,by decide⟩
   ·exact ⟨_,rfl,by decide,by decide⟩
   ·exact ⟨_,rfl,by decide,by decide⟩
   ) i0F (by show iF < 3; exact i1F)
  subst evF
  refine ⟨lF,_,_,_,rfl,rfl,bO.of el2F,atF,l,xF,bF,uF,rfl,hLF,by omega,by omega,by omega,by omega,fun rF yF cF IF r0F r1F c0F c1F kjF hMF=>?_⟩
  have ktF:=(kmF.trans kkF).trans kjF
  refine ⟨vY,fun t ht=>?_⟩
  have nt:=aF ht (.tup [.str "end",.int rF])
  exact q t (.en rF) _ yF cF (kA.trans (ktF.trans (KX.of nt))) (nt _ _ hMF) c0F (by omega) (.en aB) (.en r0F (by omega) (by omega))
 refine ⟨_,rfl,_,_,rfl,rfl,p9,_,_,rfl,rfl,Ft (by decide:4 <= 1000),fun lP hlP=>?_⟩
 have mP:=aF hlP (.lst [V.int 1,V.int 6,V.int 6,V.int (10 ^ (9:Int).toNat + 1)])
 have elP:aU H1 lP (.lst [V.int 1,V.int 6,V.int 6,V.int (10 ^ (9:Int).toNat + 1)]) lP=some (.lst [V.int 1,V.int 6,V.int 6,V.int (10 ^ (9:Int).toNat + 1)]):=aB
 have hLaP:=mP _ _ hL1
 have nlP:lP ≠ l:=fun z=>by rw [z,hL1] at hlP; cases hlP
 have kmP:KX l H1 (aU H1 lP (.lst [V.int 1,V.int 6,V.int 6,V.int (10 ^ (9:Int).toNat + 1)])):=KX.of mP
 generalize aU H1 lP (.lst [V.int 1,V.int 6,V.int 6,V.int (10 ^ (9:Int).toNat + 1)])=GP at mP elP hLaP kmP ⊢
 refine ⟨_,rfl,l,xa,ba,4,rfl,hLaP,by decide,by decide,by omega,by omega,fun iP xP bP HP i0P i1P b0P b1P kkP hLP=>?_⟩
 have el2P:=kkP _ _ nlP elP
 obtain ⟨vP,atP,uP,evP,u1P,u9P⟩:=uH (xs:=[V.int 1,V.int 6,V.int 6,V.int (10 ^ (9:Int).toNat + 1)]) (P:=fun v=>∃ u:Int,v = .int u /\ 1 <= u /\ u <= 1000000001) (fun v hv=>by
  simp only [List.mem_cons,List.not_mem_nil,or_false] at hv
  rcases hv with rfl | rfl | rfl | rfl
  ·exact ⟨_,rfl,by decide,by decide⟩
  ·exact ⟨_,rfl,by decide,by decide⟩
  ·exact ⟨_,rfl,by decide,by decide⟩
  ·exact ⟨_,rfl,by decide,by decide⟩
  ) i0P (by show iP < 4; exact i1P)
 subst evP
 refine ⟨lP,_,_,_,rfl,rfl,bO.of el2P,atP,l,xP,bP,uP,rfl,hLP,by omega,by omega,by omega,by omega,fun rP yP cP IP r0P r1P c0P c1P kjP hMP=>?_⟩
 have ktP:=(kmP.trans kkP).trans kjP
 have kP:=kA.trans ktP
 refine ⟨Nat.zero_le _,fun R hR=>?_⟩
 have nR:=aF hR (.lst [])
 have hL3:=nR _ _ hMP
 have hR0:H R=none:=by
  cases e:H R with
  | none=>rfl
  | some o =>
   by_cases z:R=l
   ·rw [z,hMP] at hR; cases hR
   ·rw [kP _ _ z e] at hR; cases hR
 have nRl:R ≠ l:=fun z=>by rw [z,hMP] at hR; cases hR
 have hR3:aU IP R (.lst []) R=some (.lst (([]:List Addr).map V.ref)):=aB
 have kR:KX l H (aU IP R (.lst [])):=kP.trans (KX.of nR)
 generalize aU IP R (.lst [])=H3 at nR hL3 hR3 kR ⊢
 obtain ⟨mn,hmn,mn1,mn4,mnm⟩ : ∃ mn:Int,(if most < 4 then most else 4)=mn /\ 1 <= mn /\ mn <= 4 /\ mn <= most:=by
  split
  ·exact ⟨_,rfl,by omega,by omega,by omega⟩
  ·exact ⟨_,rfl,by omega,by omega,by omega⟩
 refine ⟨_,rfl,_,rfl,_,_,rfl,?_⟩
 rw [hmn]
 refine ⟨l,yP,cP,mn,rfl,hL3,by omega,by omega,by omega,by omega,fun rm xm bm H4 rm0 rm1 bm0 bm1 km hL4=>?_⟩
 have hR4:=km _ _ nRl hR3
 have kR4:=kR.trans km
 refine ⟨_,_,rfl,rfl,?_⟩
 obtain ⟨M,rfl⟩ : ∃ M:Nat,rm=(M:Int) - 1:=⟨(1 + rm).toNat,by omega⟩
 refine ⟨_,rfl,(M:Int),congrArg (fun z=>[V.int z]) (show 1 + ((M:Int) - 1)=(M:Int) by omega),by omega,by omega,?_⟩
 refine wR (n:=(M:Int).toNat) (fun i σ H'=>∃ v6 v7 v8 ps ys rs x' b',σ = [some (.ref l),some (.int lev),some (.int most),some (.int rP),some (.ref R),some (.int (1 + ((M:Int) - 1))),v6,v7,v8] /\ KX l H H' /\ H' l=some (.lst [.int x',.int b']) /\ 0 <= b' /\ b' <= b + 4 + (i:Int) * (2 + dN n) /\ H' R=some (.lst (ps.map V.ref)) /\ vG H' ps ys rs /\ rs.length=i /\ (∀ r ∈ rs,1 <= r.1 /\ r.1 <= 1000) /\ (∀ r ∈ rs,Sd.Ok r.2 n (Sd.nE (n + 1) r.2).toNat) /\ (rs.map fun r=>Sd.nE (n + 1) r.2).sum + ((M:Int) - i) <= most)
  ⟨none,none,none,[],[],[],xm,bm,rfl,kR4,hL4,bm0,by simp; omega,hR4,⟨rfl,rfl,(fun i q y t a=>by simp at a),(fun i y t a=>by simp at a)⟩,rfl,(fun _ h=>nomatch h),(fun _ h=>nomatch h),by simp; omega⟩ ?turn ?done
 case turn =>
  rintro i σ H5 hi ⟨v6,v7,v8,ps,ys,rs,x5,b5,rfl,k5,hL5,b50,b59,hR5,tw,rl,rw_,ro,rsum⟩
  have hiM:i < M:=by omega
  have im:((i:Int) + 1) * (2 + dN n)=(i:Int) * (2 + dN n) + (2 + dN n):=by rw [Int.add_mul,Int.one_mul]
  have im4:((i:Int) + 1) * (2 + dN n) <= 4 * (2 + dN n):=Int.mul_le_mul_of_nonneg_right (by omega) (by omega)
  refine ⟨_,rfl,vY,fun lW hlW=>?_⟩
  have mW:=aF hlW (.lst [V.int 3,V.int 1000])
  have elW:aU H5 lW (.lst [V.int 3,V.int 1000]) lW=some (.lst [V.int 3,V.int 1000]):=aB
  have hLaW:=mW _ _ hL5
  have nlW:lW ≠ l:=fun z=>by rw [z,hL5] at hlW; cases hlW
  have kmW:KX l H5 (aU H5 lW (.lst [V.int 3,V.int 1000])):=KX.of mW
  generalize aU H5 lW (.lst [V.int 3,V.int 1000])=GW at mW elW hLaW kmW ⊢
  refine ⟨_,rfl,l,x5,b5,2,rfl,hLaW,by decide,by decide,by omega,by omega,fun iW xW bW HW i0W i1W b0W b1W kkW hLW=>?_⟩
  have el2W:=kkW _ _ nlW elW
  obtain ⟨vW,atW,uW,evW,u1W,u9W⟩:=uH (xs:=[V.int 3,V.int 1000]) (P:=fun v=>∃ u:Int,v = .int u /\ 1 <= u /\ u <= 1000) (fun v hv=>by
   simp only [List.mem_cons,List.not_mem_nil,or_false] at hv
   rcases hv with rfl | rfl
   ·exact ⟨_,rfl,by decide,by decide⟩
   ·exact ⟨_,rfl,by decide,by decide⟩
   ) i0W (by show iW < 2; exact i1W)
  subst evW
  refine ⟨lW,_,_,_,rfl,rfl,bO.of el2W,atW,l,xW,bW,uW,rfl,hLW,by omega,by omega,by omega,by omega,fun rW yW cW IW r0W r1W c0W c1W kjW hMW=>?_⟩
  have ktW:=(kmW.trans kkW).trans kjW
  refine ⟨_,_,rfl,rfl,?_⟩
  have hRW:=ktW _ _ nRl hR5
  have kt5:∀ b xs,H5 b=some (.tup xs)->IW b=some (.tup xs):=fun b xs e=>ktW _ _ (bJ e hL5 fun z=>nomatch z) e
  have twW:=tw.keep kt5
  have hlr:(ps.map V.ref).length=rs.length:=by rw [List.length_map]; exact tw.lp
  refine ⟨_,rfl,_,rfl,R,rfl,⟨_,bO.of hRW⟩,fun D hD=>?_⟩
  refine cM (xs:=ps.map V.ref) (fun u τ H'=>∃ v0,τ = [v0,some (.ref l),some (.int lev),some (.int most),some (.int rP),some (.ref R),some (.int (1 + ((M:Int) - 1))),some (.int (0 + (i:Int))),some (.int (1 + rW)),v8] /\ aN IW H' /\ H' D=some (.lst (((rs.take u).map fun r=>Sd.nE (n + 1) r.2).map V.int))) ⟨none,rfl,aF hD _,aB⟩ ?keep2 ?turn2 ?done2
  case keep2 =>
   rintro u τ H' hu ⟨v0,rfl,hs,_⟩
   exact bO.of (hs _ _ hRW)
  case turn2 =>
   rintro u mm v τ H' hmm hu hv ⟨v0,rfl,hs,hD'⟩
   obtain ⟨q1,y,t,er,rfl,h1,to,mem⟩:=Kr twW.lp twW.ly twW.row twW.sub hv
   refine uU ?_
   refine ⟨_,rfl,q1,_,_,_,rfl,rfl,cN.of (hs _ _ h1),rfl,y,t.2,n,_,rfl,to.same hs,ro t mem,by omega,fun H2 s2=>?_⟩
   refine bH hmm hu (s2 _ _ hD') (by rw [List.length_map,List.length_map,List.length_take]; exact aZ (by omega)) ⟨_,rfl,(hs.trans s2).upd_new hD _,?_⟩
   rw [aB,bL er,List.map_append,List.map_append]
   rfl
  case done2 =>
  rintro τ H6 ⟨v0,rfl,hs6,hD6⟩
  rw [hlr,List.take_length] at hD6
  refine ⟨D,_,rfl,bO.of hD6,_,_,rfl,rfl,_,rfl,_,rfl,_,_,rfl,rfl,_,_,rfl,rfl,_,_,rfl,rfl,?_⟩
  have hL6:=hs6 _ _ hMW
  have hR6:=hs6 _ _ hRW
  have rm1':(1:Int) <= most - (rs.map fun r=>Sd.nE (n + 1) r.2).sum - (1 + ((M:Int) - 1) - (0 + (i:Int)) - 1):=by omega
  have snn:0 <= (rs.map fun r=>Sd.nE (n + 1) r.2).sum:=Js (fun z hz=>by obtain ⟨r,_,rfl⟩:=List.mem_map.mp hz; exact Sd.wX _ _)
  refine ⟨_,rfl,.inl ⟨rfl,_,bO.of hR6⟩,_,rfl,_,rfl,_,rfl,_,_,rfl,rfl,_,rfl,l,yW,cW,_,_,n,rfl,hL6,by omega,by omega,by omega,rm1',by omega,by omega,by omega,fun t s H7 x7 b7 k7 hL7 b70 b79 to7 ok7=>?_⟩
  refine ⟨vY,fun T hT=>?_⟩
  have n8:=aF hT (.tup [.int (1 + rW),.ref t])
  have hR7:=k7 _ _ nRl hR6
  have hR8:=n8 _ _ hR7
  have pl:ps.length=i:=by rw [tw.lp,rl]
  have tR:∀ b xs,aU H7 T (.tup [.int (1 + rW),.ref t]) b=some (.tup xs)->aU (aU H7 T (.tup [.int (1 + rW),.ref t])) R (.lst (ps.map V.ref ++ [.ref T])) b=some (.tup xs):=fun b xs e=>by rw [aL (bJ e hR8 fun w=>nomatch w)]; exact e
  have tw8:=((twW.keep fun b xs e=>n8 _ _ (k7 _ _ (bJ (hs6 _ _ e) hL6 fun w=>nomatch w) (hs6 _ _ e))).keep tR).snoc (t:=(1 + rW,s)) (tR _ _ aB) ((to7.same n8).keep tR)
  have okE:Sd.Ok s n (Sd.nE (n + 1) s).toNat:=Sd.RN ok7 (by have:=Sd.wX (n + 1) s; omega) (Sd.Ux ok7)
  have le7:=ok7.nE (n + 1) (by omega)
  refine ⟨R,_,_,rfl,rfl,hR8,by rw [List.length_map,pl]; exact aZ (by omega),?_⟩
  refine ⟨_,_,_,ps ++ [T],ys ++ [t],rs ++ [(1 + rW,s)],x7,b7,rfl,fun b o nb e=>?_,?_,b70,by push_cast; omega,by rw [aB,List.map_append]; rfl,tw8,by rw [List.length_append,rl]; rfl,fun z hz=>?_,fun z hz=>?_,?_⟩
  ·have hb:b ≠ R:=fun w=>by rw [w,hR0] at e; cases e
   rw [aL hb]
   exact n8 _ _ (k7 _ _ nb (hs6 _ _ (ktW _ _ nb (k5 b o nb e))))
  ·rw [aL (Ne.symm nRl)]
   exact n8 _ _ hL7
  ·rcases List.mem_append.mp hz with w | w
   ·exact rw_ z w
   ·rw [List.mem_singleton.mp w]
    exact ⟨by show 1 <= 1 + rW; omega,by show 1 + rW <= 1000; omega⟩
  ·rcases List.mem_append.mp hz with w | w
   ·exact ro z w
   ·rw [List.mem_singleton.mp w]
    exact okE
  ·rw [List.map_append,List.sum_append]
   show _ + (Sd.nE (n + 1) s + 0) + _ <= _
   push_cast
   omega
 case done =>
  rintro σ H5 ⟨v6,v7,v8,ps,ys,rs,x5,b5,rfl,k5,hL5,b50,b59,hR5,tw,rl,rw_,ro,rsum⟩
  rw [show (M:Int).toNat=M by omega] at rl b59
  have im4:(M:Int) * (2 + dN n) <= 4 * (2 + dN n):=Int.mul_le_mul_of_nonneg_right (by omega) (by omega)
  refine ⟨_,rfl,_,rfl,R,_,rfl,.inl ⟨bO.of hR5,fun t ht=>?_⟩⟩
  have n5:=aF ht (.tup (ps.map V.ref))
  refine ⟨Ky,fun r hr1=>?_⟩
  have n6:=aF hr1 (.tup [.str "stage",.int rP,.ref t])
  have tw6:=(tw.same n5).same n6
  have snat:((rs.map fun r=>(Sd.nE (n + 1) r.2).toNat).sum:Int)=(rs.map fun r=>Sd.nE (n + 1) r.2).sum:=Ga rs
  refine q r (.st rP rs) _ x5 b5 (k5.trans (KX.of (n5.trans n6))) (n6 _ _ (n5 _ _ hL5)) b50 (by omega) (.st aB (n6 _ _ aB) tw6.lp tw6.ly tw6.row tw6.sub) (.st (f:=fun r=>(Sd.nE (n + 1) r.2).toNat) r0P (by omega) (fun e=>by rw [e] at rl; have:(0:Nat)=M:=rl; omega) (by omega) rw_ ro (by omega))
theorem BZ {pos:Pos}{qual:Str}{H:Hp}{a:Addr}{xs zs:List V} (t:eX Pt pos qual H) (e:H a=some (.lst xs)):eX Pt pos qual (aU H a (.lst zs)):=by
 rcases t with t | ⟨c,t,u⟩
 ·exact .inl (by rw [aL (bJ t e fun z=>nomatch z)]; exact t)
 ·exact .inr ⟨c,by rw [aL (bJ t e fun z=>nomatch z)]; exact t,by rw [aL (bJ u e fun z=>nomatch z)]; exact u⟩
theorem uM {n:Nat}{f:Addr}{fd:FuncData} (F:eN K "_law_models" "_law_models" (top 57) f fd) {ds_md:List Value} (v_md:bI [.int 0,.int 12] ds_md) {g__law_cell_at:Addr}{gd__law_cell_at:FuncData} (c__law_cell_at:gG P w K mg base n "_law_cell_at" ["_law_script","_law_k"] (Fp K) g__law_cell_at gd__law_cell_at) {g__law_model:Addr}{gd__law_model:FuncData} (c__law_model:gG P w K mg base n "_law_model" ["_law_left_here","_law_level","_law_most"] (Ly 5) g__law_model gd__law_model) {g__law_left:Addr}{gd__law_left:FuncData} (c__law_left:gG P w K mg base n "_law_left" ["_law_script","_law_k"] (Kg K) g__law_left gd__law_left) (b_md:aY K gd__law_model ["_law_left_here","_law_level","_law_most"] ds_md) (z_range:mg "range" = none):aP P w K mg base dM (n + 1) f fd ["_law_script","_law_many"] (Ni K):=by
 refine F.ok mD (fun vs H Q E h=>?_) (fun cdv A outer s H vs Q E hr h=>?_)
 ·obtain ⟨a,ns,m,rfl,_⟩:=h
  rfl
 obtain ⟨a,ns,m,rfl,hS,m1,m6,q⟩:=h
 have nd:=mD.nd
 refine ⟨_,(aG (aV (i:=2) nd rfl (Or.inr rfl) (aM c__law_left hr (aA (pv 0) (aA aH aC)))) (aG (aV (i:=3) nd rfl (Or.inr rfl) (cH (ls:=["_law_k"]) (M:=["_law_script","_law_many","_law_left_here","_law_models_here"]) rfl (bT.of (by rfl)) (NL.of (by rfl)) (gD rfl z_range (aA (pv 1) aC)) (fun _ _ _ _=>⟨(bA (i:=0) (cU (by rfl)) rfl (Or.inl rfl)),cG,(Af c__law_model.ok hr rfl c__law_model.at_ c__law_model.kp b_md v_md cT (aA (pv 3) aC))⟩))) (aG (dO (bZ jX (aQ dH (aQ jL (aM c__law_cell_at hr (aA (pv 0) (aA aH aC))) aH) aH) aH (cO _)) (aJ (aV (i:=3) nd rfl (Or.inr rfl) (cH (ls:=["_law_k"]) (M:=["_law_script","_law_many","_law_left_here","_law_models_here"]) rfl (bT.of (by rfl)) (NL.of (by rfl)) (gD rfl z_range (aA (pv 1) aC)) (fun _ _ _ _=>⟨(bA (i:=0) (cU (by rfl)) rfl (Or.inl rfl)),cG,(bU (uO (K:=K) rfl) (dU (aA (bU (uO (K:=K) rfl) (pv 4) (pv 0) (fun _ _=>rfl)) (aA (bU (uO (K:=K) rfl) (pv 4) aH (fun _ _=>rfl)) aC))) (aQ dH (pv 0) aH) (fun _ _=>rfl))⟩)))) bY) (aJ (aW (pv 3)))))),?_⟩
 refine ⟨_,rfl,a,ns,1,rfl,hS,by decide,fun l x b hl b0 b1=>?_⟩
 have n1:=aF hl (.lst [.int x,.int b])
 have e1:aU H l (.lst [.int x,.int b]) l=some (.lst [.int x,.int b]):=aB
 generalize aU H l (.lst [.int x,.int b])=H1 at n1 e1 ⊢
 have d4:dN 4=1532:=by decide
 refine ⟨_,rfl,m,rfl,by omega,by omega,fun D hD=>?_⟩
 have nDl:D ≠ l:=fun z=>by rw [z,e1] at hD; cases hD
 refine gU (n:=m.toNat) (fun i τ H'=>∃ v0 ts x' b',τ = [v0,some (.ref a),some (.int m),some (.ref l),none] /\ KX l H1 H' /\ H' l=some (.lst [.int x',.int b']) /\ 0 <= b' /\ b' <= 1 + (i:Int) * 1532 /\ H' D=some (.lst (ts.map V.ref)) /\ (∀ t ∈ ts,Md H' t) /\ ts.length=i) ⟨none,[],x,b,rfl,KX.of (aF hD _),aF hD _ _ _ e1,b0,by simp; omega,aB,(fun _ h=>nomatch h),rfl⟩ ?turn ?done
 case turn =>
  rintro i mm τ H2 hmm hi ⟨v0,ts,x2,b2,rfl,k2,hL2,b20,b21,hD2,hmd,tl⟩
  have i6:(i:Int) * 1532 <= 5 * 1532:=Int.mul_le_mul_of_nonneg_right (by omega) (by decide)
  refine uU ?_
  refine ⟨_,rfl,l,x2,b2,0,12,4,rfl,hL2,by decide,by decide,by decide,by decide,by decide,b20,by rw [d4]; omega,fun t s H3 x3 b3 k3 hL3 b30 b31 to ok=>?_⟩
  rw [d4] at b31
  have hD3:=k3 _ _ nDl hD2
  refine bH hmm hi hD3 (by rw [List.length_map]; exact aZ (by omega)) ⟨_,ts ++ [t],x3,b3,rfl,(fun b' o nb e=>?_),?_,b30,by push_cast; rw [Int.add_mul,Int.one_mul]; omega,by rw [aB,List.map_append]; rfl,fun z hz=>?_,by rw [List.length_append,tl]; rfl⟩
  ·rw [aL (aR e hD)]; exact k3 _ _ nb (k2 _ _ nb e)
  ·rw [aL (Ne.symm nDl)]; exact hL3
  ·have kd:∀ c xs,H3 c=some (.tup xs)->aU H3 D (.lst (ts.map V.ref ++ [V.ref t])) c=some (.tup xs):=fun c xs e=>by rw [aL (bJ e hD3 fun w=>nomatch w)]; exact e
   rcases List.mem_append.mp hz with w | w
   ·exact ((hmd z w).keep fun c xs e=>k3 _ _ (bJ e hL2 fun w=>nomatch w) e).keep kd
   ·rw [List.mem_singleton.mp w]
    exact Md.keep kd ⟨s,to,ok⟩
 case done =>
 rintro τ H2 ⟨v0,ts,x2,b2,rfl,k2,hL2,b20,b21,hD2,hmd,tl⟩
 have s2:aN H H2:=fun b' o e=>k2 _ _ (aR e hl) (n1 _ _ e)
 refine ⟨_,rfl,a,ns,0,rfl,s2.seq hS,by decide,fun c0=>?_⟩
 refine ⟨_,_,rfl,rfl,⟨by decide,by decide⟩,_,_,rfl,rfl,(by show (0:Int) < 4; decide),rfl,_,rfl,?_⟩
 refine nW (fun _=>?_) (fun _=>?_)
 case refine_2=>exact ⟨_,rfl,q D ts H2 s2 hD2 hmd (by omega)⟩
 refine ⟨_,rfl,m,rfl,by omega,by omega,fun D3 hD3=>?_⟩
 refine gU (n:=m.toNat) (fun i τ H'=>∃ v0 us,τ = [v0,some (.ref a),some (.int m),some (.ref l),some (.ref D)] /\ aN H2 H' /\ H' D3=some (.lst (us.map V.ref)) /\ (∀ t ∈ us,t ∈ ts) /\ us.length=i) ⟨none,[],rfl,aF hD3 _,aB,(fun _ h=>nomatch h),rfl⟩ ?turn3 ?done3
 case turn3 =>
  rintro i mm τ H4 hmm hi ⟨v0,us,rfl,s4,hD4,hus,ul⟩
  have hit:i < ts.length:=by omega
  have h0t:0 < ts.length:=by omega
  refine uU ?_
  refine ⟨_,rfl,_,rfl,D,_,_,_,rfl,rfl,bO.of (s4 _ _ hD2),(by rw [Int.zero_add]; exact fD (v:=V.ref ts[i]) (by rw [List.getElem?_map,List.getElem?_eq_getElem hit]; rfl)),_,rfl,D,_,_,_,rfl,rfl,bO.of (s4 _ _ hD2),fD (j:=0) (v:=V.ref ts[0]) (by rw [List.getElem?_map,List.getElem?_eq_getElem h0t]; rfl),vY,fun l2 hl2=>?_⟩
  have n5:=aF hl2 (.lst [V.ref ts[i],V.ref ts[0]])
  obtain ⟨v,hv,u,rfl,hu⟩:=uH (xs:=[V.ref ts[i],V.ref ts[0]]) (P:=fun v=>∃ u,v = .ref u /\ u ∈ ts) (fun v hv=>by
   simp only [List.mem_cons,List.not_mem_nil,or_false] at hv
   rcases hv with rfl | rfl
   ·exact ⟨_,rfl,List.getElem_mem hit⟩
   ·exact ⟨_,rfl,List.getElem_mem h0t⟩) (r:=(0 + (i:Int)) % 2) (Int.emod_nonneg _ (by decide)) (Int.emod_lt_of_pos _ (by decide))
  refine ⟨_,rfl,_,_,rfl,rfl,(by show (0:Int) < 2; decide),l2,_,_,_,rfl,rfl,bO.of aB,hv,?_⟩
  refine bH hmm hi (n5 _ _ hD4) (by rw [List.length_map]; exact aZ (by omega)) ⟨_,us ++ [u],rfl,(s4.trans n5).upd_new hD3 _,by rw [aB,List.map_append]; rfl,fun z hz=>?_,by rw [List.length_append,ul]; rfl⟩
  rcases List.mem_append.mp hz with w | w
  ·exact hus z w
  ·rw [List.mem_singleton.mp w]; exact hu
 case done3 =>
 rintro τ H4 ⟨v0,us,rfl,s4,hD4,hus,ul⟩
 exact ⟨_,rfl,q D3 us H4 (s2.trans s4) hD4 (fun t ht=>(hmd t (hus t ht)).keep fun c xs e=>s4 _ _ e) (by omega)⟩
theorem vJ {n:Nat}{f:Addr}{fd:FuncData} (F:eN K "_law_boxes" "_law_boxes" (top 58) f fd) {c:Cs}{g__law_object:Addr}{gd__law_object:FuncData} (c__law_object:gG P w K mg base n "_law_object" ["_law_model_here"] (LK c Pt iJ 5) g__law_object gd__law_object) (z_range:mg "range" = none) (z_len:mg "len" = none):aP P w K mg base dM (n + 1) f fd ["_law_models_here"] (NQ c Pt iJ):=by
 refine F.ok oN (fun vs H Q E h=>?_) (fun cdv A outer s H vs Q E hr h=>?_)
 ·obtain ⟨l,ts,rfl,_⟩:=h
  rfl
 obtain ⟨l,ts,rfl,hl,hmd,t1,t6,tb,q⟩:=h
 have nd:=oN.nd
 have hu15:_ + 13 + 2 < cLine:=Nat.lt_of_le_of_lt (Nat.add_le_add_left (by decide:15 <= 64) _) (fG.units hr)
 refine ⟨_,(aG (aV (i:=1) nd rfl (Or.inl rfl) (dU aC)) (aG (lH PassesOwn.never rfl (gD rfl z_range (aA (bB dD rfl z_len kW (aA (pv 0) aC)) aC)) (bA (i:=2) nd rfl (Or.inl rfl)) (aG (aV (i:=3) nd rfl (Or.inl rfl) (Bv PySem.F.plainAttrs_list PySem.F.slot_list_index PySem.F.type_list_index (Hl (n:=13) hu15) (pv 0) (aA (bU dI (pv 0) (pv 2) (fun _ _=>rfl)) aC))) (aJ (dO (bZ Bo (pv 3) (pv 2) (cO _)) (aJ (eF (Bv PySem.F.plainAttrs_list PySem.F.slot_list_append PySem.F.type_list_append nF (pv 1) (aA (bU dI (pv 1) (pv 3) (fun _ _=>rfl)) aC)))) (aJ (eF (Bv PySem.F.plainAttrs_list PySem.F.slot_list_append PySem.F.type_list_append nF (pv 1) (aA (aM c__law_object hr (aA (bU dI (pv 0) (pv 2) (fun _ _=>rfl)) aC)) aC)))))))) (aJ (aW (pv 1))))),?_⟩
 refine ⟨Nat.zero_le _,fun R hR=>?_⟩
 have n1:=aF hR (.lst [])
 refine ⟨_,rfl,l,_,rfl,.inl (bO.of (n1 _ _ hl)),(ts.length:Int),by rw [List.length_map],by omega,by omega,?_⟩
 refine wR (n:=(ts.length:Int).toNat) (fun i σ H'=>∃ v2 v3 ys,σ = [some (.ref l),some (.ref R),v2,v3] /\ cA Pt H H' /\ eX Pt iJ kY H' /\ H' R=some (.lst (ys.map V.ref)) /\ ys.length=i /\ (∀ y ∈ ys,Sg c H' y)) ⟨none,none,[],rfl,n1.toT,tb.same n1,aB,rfl,(fun _ h=>nomatch h)⟩ ?turn ?done
 case done =>
  rintro σ H' ⟨v2,v3,ys,rfl,s2,tb2,hR2,yl,hy⟩
  exact ⟨_,rfl,q R ys H' s2 tb2 hR2 (by omega) hy⟩
 case turn =>
  rintro i σ H2 hi ⟨v2,v3,ys,rfl,s2,tb2,hR2,yl,hy⟩
  have kt2:=cA.kt s2 tb
  have hl2:=kt2.lst hl
  have hit:i < ts.length:=by omega
  have eti:ts[i]? = some ts[i]:=List.getElem?_eq_getElem hit
  have hmd2:∀ t ∈ ts,Md H2 t:=fun t ht=>(hmd t ht).keep fun b xs e=>kt2.tup e
  obtain ⟨e,he,hee⟩:=WW (K:=K) hmd2 (List.getElem_mem hit)
  obtain ⟨j,tj,ej,hj,hji,hno⟩:=Bq (e:=e) eti hee
  have atk:Hz (ts.map V.ref) (0 + (i:Int))=some (V.ref ts[i]):=by rw [Int.zero_add]; exact fD (by rw [List.getElem?_map,eti]; rfl)
  refine ⟨_,rfl,.inl ⟨rfl,_,bO.of hl2⟩,_,rfl,_,rfl,l,_,_,_,rfl,rfl,bO.of hl2,atk,l,ts[i],ts,e,j,tj,rfl,rfl,hl2,by omega,he,ej,hj,hno,?_⟩
  refine ⟨_,rfl,_,rfl,_,_,rfl,rfl,_,rfl,?_⟩
  refine nW (fun c0=>?_) (fun c0=>?_)
  ·have cji:(j:Int) < 0 + (i:Int):=of_decide_eq_true c0
   have hjy:j < ys.length:=by omega
   refine ⟨_,rfl,.inl ⟨rfl,_,bO.of hR2⟩,_,rfl,_,rfl,R,_,_,_,rfl,rfl,bO.of hR2,fD (v:=V.ref ys[j]) (by rw [List.getElem?_map,List.getElem?_eq_getElem hjy]; rfl),R,_,_,rfl,rfl,hR2,by rw [List.length_map]; exact aZ (by omega),?_⟩
   refine ⟨_,_,ys ++ [ys[j]],rfl,s2.upd_new hR _,BZ tb2 hR2,by rw [aB,List.map_append]; rfl,by rw [List.length_append,yl]; rfl,fun z hz=>?_⟩
   have:Sg c H2 z:=by
    rcases List.mem_append.mp hz with w | w
    ·exact hy z w
    ·rw [List.mem_singleton.mp w]; exact hy _ (List.getElem_mem hjy)
   obtain ⟨s,d,m,st,r⟩:=this
   exact ⟨s,d,m,Dc hR2 st,r⟩
  ·obtain ⟨s,to,ok⟩:=hmd2 ts[i] (List.getElem_mem hit)
   refine ⟨_,rfl,.inl ⟨rfl,_,bO.of hR2⟩,_,rfl,_,rfl,l,_,_,_,rfl,rfl,bO.of hl2,atk,ts[i],s,4,12,rfl,to,ok,by decide,by decide,by decide,tb2,fun x H3 s3 tb3 st=>?_⟩
   have kt3:=cA.kt s3 tb2
   have hR3:=kt3.lst hR2
   refine ⟨R,_,_,rfl,rfl,hR3,by rw [List.length_map]; exact aZ (by omega),?_⟩
   refine ⟨_,_,ys ++ [x],rfl,(s2.trans s3).upd_new hR _,BZ tb3 hR3,by rw [aB,List.map_append]; rfl,by rw [List.length_append,yl]; rfl,fun z hz=>?_⟩
   have:Sg c H3 z:=by
    rcases List.mem_append.mp hz with w | w
    ·exact (hy z w).kt kt3
    ·rw [List.mem_singleton.mp w]; exact ⟨s,4,12,st,by decide,by decide⟩
   obtain ⟨s,d,m,st,r⟩:=this
   exact ⟨s,d,m,Dc hR3 st,r⟩
theorem yM {n:Nat}{f:Addr}{fd:FuncData} (F:eN K "_law_told" "_law_told" (top 64) f fd) {c:Cs}{cC:Addr} (ca:wD K c cC) (ck:CK K c) {C_NoDeed:Addr}{f_sd:Addr}{fd_sd:FuncData} (m_sd:cB K cC "stand" f_sd) (G_sd:aP P w K mg base (jJ P w) n f_sd fd_sd ["self","box"] (rK c cC C_NoDeed)) (b_sd:aY K fd_sd ["self","box"] []) {f_cp:Addr}{fd_cp:FuncData} (m_cp:cB K cC "cap" f_cp) (G_cp:aP P w K mg base (jJ P w) n f_cp fd_cp ["self","box"] (tZ c cC C_NoDeed)) (b_cp:aY K fd_cp ["self","box"] []) {f_Et:Addr}{fd_Et:FuncData} (m_Et:cB K c.e "told" f_Et) (G_Et:aP P w K mg base dM n f_Et fd_Et ["self"] (Fb c)) (b_Et:aY K fd_Et ["self"] []) {f_St:Addr}{fd_St:FuncData} (m_St:cB K c.s "told" f_St) (G_St:aP P w K mg base dM n f_St fd_St ["self"] (JG c 5)) (b_St:aY K fd_St ["self"] []) {f_kp:Addr}{fd_kp:FuncData} (m_kp:cB K cC "kept" f_kp) (G_kp:aP P w K mg base dM n f_kp fd_kp ["self"] (uA c cC)) (b_kp:aY K fd_kp ["self"] []) {f_pd:Addr}{fd_pd:FuncData} (m_pd:cB K cC "paid" f_pd) (G_pd:aP P w K mg base dM n f_pd fd_pd ["self"] (KC c cC)) (b_pd:aY K fd_pd ["self"] []) {f_hd:Addr}{fd_hd:FuncData} (m_hd:cB K cC "had" f_hd) (G_hd:aP P w K mg base dM n f_hd fd_hd ["self"] (Nh c cC)) (b_hd:aY K fd_hd ["self"] []) {f_ds:Addr}{fd_ds:FuncData} (m_ds:cB K cC "deeds" f_ds) (G_ds:aP P w K mg base dM n f_ds fd_ds ["self"] (Nr c cC)) (b_ds:aY K fd_ds ["self"] []) (z_range:mg "range" = none):aP P w K mg base dM (n + 1) f fd ["_law_case","_law_many"] (JD c cC):=by
 refine F.ok pC (fun vs H Q E h=>?_) (fun cdv A outer s H vs Q E hr h=>?_)
 ·obtain ⟨x,q,rfl,_⟩:=h
  rfl
 obtain ⟨x,q,rfl,h,k⟩:=h
 have nd:=pC.nd
 refine ⟨_,(aG (Ld (i:=2) (ls:=["_law_box"]) (M:=["_law_case","_law_many","_law_stands"]) rfl (bT.of (by rfl)) (NL.of (by rfl)) nd rfl (Or.inl rfl) (gD rfl z_range (aA (pv 1) aC)) (fun _ _ _ _=>⟨(bA (i:=0) (cU (by rfl)) rfl (Or.inl rfl)),cG,(fU (bK (bR (pv 1) ca.cl m_sd G_sd hr b_sd .nil jD (aA (pv 0) aC)) ck.ce m_Et G_Et hr b_Et .nil cT) (bK (bR (pv 1) ca.cl m_sd G_sd hr b_sd .nil jD (aA (pv 0) aC)) ck.cs m_St G_St hr b_St .nil cT))⟩)) (aJ (aW (dU (aA (pv 2) (aA (cH (ls:=["_law_box"]) (M:=["_law_case","_law_many","_law_stands"]) rfl (bT.of (by rfl)) (NL.of (by rfl)) (gD rfl z_range (aA (pv 1) aC)) (fun _ _ _ _=>⟨(bA (i:=0) (cU (by rfl)) rfl (Or.inl rfl)),cG,(bR (pv 1) ca.cl m_cp G_cp hr b_cp .nil jD (aA (pv 0) aC))⟩)) (aA (bK (pv 0) ca.cl m_kp G_kp hr b_kp .nil cT) (aA (bK (pv 0) ca.cl m_pd G_pd hr b_pd .nil cT) (aA (bK (pv 0) ca.cl m_hd G_hd hr b_hd .nil cT) (aA (bK (pv 0) ca.cl m_ds G_ds hr b_ds .nil cT) aC)))))))))),?_⟩
 have n6:=h.n6
 have es:=h.es
 have el:=h.el
 refine ⟨_,rfl,(q.ys.length:Int),rfl,by omega,by omega,fun D hD=>?_⟩
 refine gU (n:=(q.ys.length:Int).toNat) (fun i τ H'=>∃ v0 ts,τ = [v0,some (.ref x),some (.int (q.ys.length:Int)),none] /\ aN H H' /\ H' D=some (.lst (ts.map V.ref)) /\ ts.length=i /\ (∀ (u:Nat) t s,ts[u]? = some t->q.ss[u]? = some s->gQ H' t s.1)) ⟨none,[],rfl,aF hD _,aB,rfl,(fun u t s e=>by simp at e)⟩ ?turn ?done
 case turn =>
  rintro i m τ H1 hm hi ⟨v0,ts,rfl,s1,hD1,tl,hto⟩
  have hiy:i < q.ys.length:=by omega
  have h1:=h.kt (aN.kt s1)
  have ey:q.ys[i]? = some q.ys[i]:=List.getElem?_eq_getElem hiy
  have ei:q.ss[i]? = some (q.ss[i]'(by omega)):=List.getElem?_eq_getElem _
  obtain ⟨st,d4,m12⟩:=h1.st i _ _ ey ei
  refine uU ?_
  refine OJ st (n:=5) (by omega) (fun R hR=>⟨_,rfl,x,_,_,rfl,h1.hx,rfl,_,rfl,x,.int (0 + (i:Int)),q,true,rfl,h1,fO.yes (by omega) (by omega),fun j0 y e1 e2=>?_,(fun z=>nomatch z)⟩) fun r H2 s2 to2=>?_
  ·obtain rfl:i=j0:=by injection e1 with e1; omega
   rw [ey] at e2
   cases e2
   exact hR
  have hD2:=s2 _ _ hD1
  have kd:∀ b xs,H2 b=some (.tup xs)->aU H2 D (.lst (ts.map V.ref ++ [V.ref r])) b=some (.tup xs):=fun b xs e=>by rw [aL (bJ e hD2 fun w=>nomatch w)]; exact e
  refine bH hm hi hD2 (by rw [List.length_map]; exact aZ (by omega)) ⟨_,ts ++ [r],rfl,(s1.trans s2).upd_new hD _,by rw [aB,List.map_append]; rfl,by rw [List.length_append,tl]; rfl,fun u t s e1 e2=>?_⟩
  by_cases hu:u < ts.length
  ·rw [List.getElem?_append_left hu] at e1
   exact ((hto u t s e1 e2).same s2).keep kd
  ·rw [List.getElem?_append_right (by omega)] at e1
   have:u=i:=by have:=(List.getElem?_eq_some_iff.mp e1).1; simp at this; omega
   subst this
   rw [show u - ts.length=0 by omega] at e1
   cases e1
   rw [ei] at e2
   cases e2
   exact to2.keep kd
 case done =>
 rintro τ H1 ⟨v0,ts,rfl,s1,hD1,tl,hto⟩
 have h1:=h.kt (aN.kt s1)
 refine ⟨_,rfl,_,rfl,(q.ys.length:Int),rfl,by omega,by omega,fun D2 hD2=>?_⟩
 refine gU (n:=(q.ys.length:Int).toNat) (fun i τ H'=>∃ v0,τ = [v0,some (.ref x),some (.int (q.ys.length:Int)),some (.ref D)] /\ aN H1 H' /\ H' D2=some (.lst (q.ls.take i))) ⟨none,rfl,aF hD2 _,aB⟩ ?turn2 ?done2
 case turn2 =>
  rintro i m τ H2 hm hi ⟨v0,rfl,s2,hD3⟩
  have h2:=h1.kt (aN.kt s2)
  have hil:i < q.ls.length:=by omega
  refine uU ?_
  refine ⟨_,rfl,x,_,_,rfl,h2.hx,rfl,_,rfl,x,.int (0 + (i:Int)),q,true,rfl,h2,fO.yes (by omega) (by omega),fun j0 y e1 e2=>?_,(fun z=>nomatch z)⟩
  obtain rfl:i=j0:=by injection e1 with e1; omega
  refine bH hm hi hD3 (by rw [List.length_take]; exact aZ (by omega)) ⟨_,rfl,s2.upd_new hD2 _,?_⟩
  rw [aB,bL e2]
 case done2 =>
 rintro τ H2 ⟨v0,rfl,s2,hD3⟩
 rw [show (q.ys.length:Int).toNat=q.ls.length by omega,List.take_length] at hD3
 have h2:=h1.kt (aN.kt s2)
 refine ⟨_,rfl,x,_,_,rfl,h2.hx,rfl,x,q,rfl,h2,fun l3 H3 s3 hl3=>?_⟩
 have h3:=h2.kt (aN.kt s3)
 refine ⟨_,rfl,x,_,_,rfl,h3.hx,rfl,x,q,rfl,h3,_,rfl,x,_,_,rfl,h3.hx,rfl,x,q,rfl,h3,fun H4 s4=>?_⟩
 have h4:=h3.kt (aN.kt s4)
 refine ⟨_,rfl,x,_,_,rfl,h4.hx,rfl,x,q,rfl,h4,fun l5 H5 s5 hl5=>?_⟩
 refine ⟨Ft (by decide:6 <= 1000),fun r hr0=>?_⟩
 have n6':=aF hr0 (.lst [.ref D,.ref D2,.ref l3,.int q.sp,.int (Yi q),.ref l5])
 have EY:=s2.trans (s3.trans (s4.trans (s5.trans n6')))
 exact k r D D2 l3 l5 ts _ (s1.trans EY) ⟨aB,EY _ _ hD1,by omega,fun u t s e1 e2=>(hto u t s e1 e2).same EY,(s3.trans (s4.trans (s5.trans n6'))) _ _ hD3,(s4.trans (s5.trans n6')) _ _ hl3,n6' _ _ hl5⟩
theorem Az {n:Nat}{f:Addr}{fd:FuncData} (F:eN K "_law_odd" "_law_odd" (top 59) f fd) (z_str:mg "str" = none):aP P w K mg base dM (n + 1) f fd ["_law_cell","_law_many"] Nf:=by
 refine F.ok rC (fun vs H Q E h=>?_) (fun cdv A outer s H vs Q E hr h=>?_)
 ·obtain ⟨cc,m,rfl,_⟩:=h
  rfl
 obtain ⟨cc,m,rfl,m1,m9,q⟩:=h
 have nd:=rC.nd
 refine ⟨_,(aG (aV (i:=2) nd rfl (Or.inl rfl) (aQ dH (pv 0) (aQ zQ aH aH))) (aG (aV (i:=3) nd rfl (Or.inl rfl) (dU (aA qK (aA lR (aA lR (aA (aQ lC (Jb Ek aH) (pv 2)) (aA (pv 1) (aA (aQ fP (pv 1) (pv 2)) (aA (c7 yH rfl z_str Oq (aA (aQ dH (pv 0) (pv 1)) aC)) (aA (dU (aA (aQ dH (pv 0) (pv 1)) aC)) (aA (eU (aA (aQ dH (pv 0) (pv 1)) aC)) (aA CJ aC)))))))))))) (aJ (aW (bU dI (pv 3) (aQ dH (aQ dH (pv 0) aH) aH) (fun _ _=>rfl)))))),?_⟩
 have g1:=Int.emod_nonneg cc (show m ≠ 0 by omega)
 have g2:=Int.emod_lt_of_pos cc (show 0 < m by omega)
 have pw:(0:Int) < 10 ^ (20:Int).toNat:=by decide
 have j0:=Int.emod_nonneg cc (show (10:Int) ^ (20:Int).toNat ≠ 0 by decide)
 have sb:(cc % m).natAbs.log2 < 1920:=Ho (by omega)
 refine ⟨_,rfl,_,_,rfl,rfl,p20,_,_,rfl,rfl,pw,?_⟩
 refine ⟨_,rfl,_,rfl,_,_,rfl,rfl,_,rfl,_,rfl,_,rfl,_,_,rfl,rfl,_,rfl,_,rfl,_,_,rfl,rfl,(by show (0:Int) < m; omega),_,rfl,sb,_,rfl,_,rfl,_,_,rfl,rfl,(by show (0:Int) < m; omega),MK,fun l1 e1=>?_⟩
 have t1:=aF e1 (.lst [V.int (cc % m)])
 refine ⟨_,rfl,_,rfl,_,_,rfl,rfl,(by show (0:Int) < m; omega),MK,fun l2 e2=>?_⟩
 have t2:=aF e2 (.tup [V.int (cc % m)])
 intro l3 e3
 have t3:=aF e3 (.dK [])
 refine ⟨Ft (by decide:10 <= 1000),fun l4 e4=>?_⟩
 have t4:=aF e4 (.lst [V.non,V.bl true,V.bl false,V.int (-1 - cc % 10 ^ (20:Int).toNat),V.int m,V.int (m + cc % 10 ^ (20:Int).toNat),V.str (toString (cc % m)),V.ref l1,V.ref l2,V.ref l3])
 have G:=t1.trans (t2.trans (t3.trans t4))
 obtain ⟨v,hv,iw⟩:=uH (xs:=[V.non,V.bl true,V.bl false,V.int (-1 - cc % 10 ^ (20:Int).toNat),V.int m,V.int (m + cc % 10 ^ (20:Int).toNat),V.str (toString (cc % m)),V.ref l1,V.ref l2,V.ref l3]) (P:=fun v=>fO _ 0 (m - 1) v false) (fun v hv=>by
  simp only [List.mem_cons,List.not_mem_nil,or_false] at hv
  rcases hv with rfl | rfl | rfl | rfl | rfl | rfl | rfl | rfl | rfl | rfl
  ·exact .no (Kw (fun K=>.non) fun K=>rfl)
  ·exact .bl true
  ·exact .bl false
  ·exact fO.low (by omega)
  ·exact fO.high (by omega)
  ·exact fO.high (by omega)
  ·exact .no (Kw (fun K=>.str _) fun K=>rfl)
  ·exact .no (Kw (fun K=>.lst ((t2.trans (t3.trans t4)) _ _ aB)) fun K=>rfl)
  ·exact .no (Kw (fun K=>.tup ((t3.trans t4) _ _ aB)) fun K=>rfl)
  ·exact .no (Kw (fun K=>.dK (t4 _ _ aB)) fun K=>rfl)) (r:=cc % 97 % 10) (Int.emod_nonneg _ (by decide)) (Int.emod_lt_of_pos _ (by decide))
 refine ⟨_,rfl,_,rfl,_,_,rfl,rfl,(by show (0:Int) < 97; decide),_,_,rfl,rfl,(by show (0:Int) < 10; decide),l4,_,_,_,rfl,rfl,bO.of aB,hv,?_⟩
 exact q v _ G iw
theorem z6 {n:Nat}{f:Addr}{fd:FuncData} (F:eN K "_law_done" "_law_done" (top 63) f fd) {c:Cs}{cC:Addr} (ca:wD K c cC) (ck:CK K c) {C_NoDeed:Addr}{f_sd:Addr}{fd_sd:FuncData} (m_sd:cB K cC "stand" f_sd) (G_sd:aP P w K mg base (jJ P w) n f_sd fd_sd ["self","box"] (rK c cC C_NoDeed)) (b_sd:aY K fd_sd ["self","box"] []) {f_Ei:Addr}{fd_Ei:FuncData} (m_Ei:cB K c.e "is_end" f_Ei) (G_Ei:aP P w K mg base dM n f_Ei fd_Ei ["self"] (oV c true)) (b_Ei:aY K fd_Ei ["self"] []) {f_Si:Addr}{fd_Si:FuncData} (m_Si:cB K c.s "is_end" f_Si) (G_Si:aP P w K mg base dM n f_Si fd_Si ["self"] (oV c false)) (b_Si:aY K fd_Si ["self"] []) {f_op:Addr}{fd_op:FuncData} (m_op:cB K cC "opened" f_op) (G_op:aP P w K mg base (jJ P w) n f_op fd_op ["self","box","row"] (Jy c cC C_NoDeed)) (b_op:aY K fd_op ["self","box","row"] []) {f_kp:Addr}{fd_kp:FuncData} (m_kp:cB K cC "kept" f_kp) (G_kp:aP P w K mg base dM n f_kp fd_kp ["self"] (uA c cC)) (b_kp:aY K fd_kp ["self"] []) {f_tk:Addr}{fd_tk:FuncData} (m_tk:cB K cC "taken" f_tk) (G_tk:aP P w K mg base (jJ P w) n f_tk fd_tk ["self","box"] (JN c cC C_NoDeed)) (b_tk:aY K fd_tk ["self","box"] []) (z_len:mg "len" = none):aP P w K mg base dM (n + 1) f fd ["_law_case","_law_cells","_law_many"] (KQ K c cC):=by
 refine F.ok pI (fun vs H Q E h=>?_) (fun cdv A outer s H vs Q E hr h=>?_)
 ·obtain ⟨x0,a,ns,q0,rfl,_⟩:=h
  rfl
 obtain ⟨x0,a,ns,q0,rfl,h0,hS,hds,n60,k⟩:=h
 have nd:=pI.nd
 refine ⟨_,(aG (lH PassesOwn.never rfl (cV (pv 1)) (bA (i:=3) nd rfl (Or.inl rfl)) (aG (aV (i:=4) nd rfl (Or.inl rfl) (aQ dH (pv 3) (pv 2))) (aJ (dO (fW (fK (fU (bK (bR (pv 0) ca.cl m_sd G_sd hr b_sd .nil jD (aA (pv 4) aC)) ck.ce m_Ei G_Ei hr b_Ei .nil cT) (bK (bR (pv 0) ca.cl m_sd G_sd hr b_sd .nil jD (aA (pv 4) aC)) ck.cs m_Si G_Si hr b_Si .nil cT)))) (aJ (aV (i:=0) nd rfl (Or.inl rfl) (bR (pv 0) ca.cl m_op G_op hr b_op .nil jD (aA (pv 4) (aA (aQ dH (aQ jL (pv 3) (pv 2)) (bB dD rfl z_len kW (aA (cL (bR (pv 0) ca.cl m_sd G_sd hr b_sd .nil jD (aA (pv 4) aC)) rfl) aC))) aC))))) (aJ (dO (bZ yV (pv 4) (bK (pv 0) ca.cl m_kp G_kp hr b_kp .nil cT) rfl) (aJ (aV (i:=0) nd rfl (Or.inl rfl) (bR (pv 0) ca.cl m_tk G_tk hr b_tk .nil jD (aA (pv 4) aC)))) bY)))))) (aJ (aW (pv 0)))),?_⟩
 refine ⟨_,rfl,a,rfl,⟨_,hS⟩,?_⟩
 refine lU (xs:=ns.map V.int) (fun i σ H'=>∃ v3 v4 x q,σ = [some (.ref x),some (.ref a),some (.int (q0.ys.length:Int)),v3,v4] /\ aN H H' /\ iH c cC H' x q /\ q.ys.length=q0.ys.length /\ q.ds.length <= i) ⟨none,none,x0,q0,rfl,aN.refl _,h0,rfl,by rw [hds]; exact Nat.le_refl _⟩ (fun i σ H' _ ⟨_,_,_,_,_,s,_⟩=>s.seq hS) ?turn ?done
 case done =>
  rintro σ H' ⟨v3,v4,x,q,rfl,s,h,yl,_⟩
  exact ⟨_,rfl,k x q H' s h yl⟩
 case turn =>
  rintro i v σ H1 hv ⟨v3,v4,x,q,rfl,s1,h,yl,dl⟩
  obtain ⟨cell,hc,rfl⟩ : ∃ cell,ns[i]? = some cell /\ v = .int cell:=by
   rw [List.getElem?_map] at hv
   cases e:ns[i]? with
   | none=>rw [e] at hv; cases hv
   | some z=>rw [e] at hv; cases hv; exact ⟨z,rfl,rfl⟩
  have hin:=(List.getElem?_eq_some_iff.mp hc).1
  rw [<- yl]
  have n1:=h.n1
  have n6:=h.n6
  have es:=h.es
  have ebl:=h.eb
  have g1:=Int.emod_nonneg cell (show (q.ys.length:Int) ≠ 0 by omega)
  have g2:=Int.emod_lt_of_pos cell (show (0:Int) < (q.ys.length:Int) by omega)
  obtain ⟨b,hb⟩ : ∃ b:Nat,cell % (q.ys.length:Int)=(b:Int):=⟨(cell % (q.ys.length:Int)).toNat,by omega⟩
  have hby:b < q.ys.length:=by omega
  have ey:q.ys[b]? = some q.ys[b]:=List.getElem?_eq_getElem hby
  have ei:q.ss[b]? = some (q.ss[b]'(by omega)):=List.getElem?_eq_getElem _
  have eb:q.bs[b]? = some (q.bs[b]'(by omega)):=List.getElem?_eq_getElem _
  obtain ⟨st,d4,m12⟩:=h.st b _ _ ey ei
  have EQ:∀ (j0:Nat),V.int (cell % (q.ys.length:Int))=V.int (j0:Int)->b=j0:=fun j0 e=>by injection e with e; omega
  refine ⟨_,rfl,_,rfl,_,_,rfl,rfl,(by show (0:Int) < (q.ys.length:Int); omega),?_⟩
  generalize q.ss[b]'(by omega)=ent at ei st d4 m12
  obtain ⟨e0,d,m⟩:=ent
  cases e0 with
  | en u =>
   refine .inl ⟨_,rfl,x,_,_,rfl,h.hx,rfl,_,rfl,x,.int (cell % (q.ys.length:Int)),q,true,rfl,h,fO.yes (by omega) (by omega),fun j0 y e1 e2=>?_,(fun z=>nomatch z)⟩
   obtain rfl:=EQ j0 e1
   rw [ey] at e2
   cases e2
   cases st with
   | en hh vv ok =>
   refine ⟨q.ys[b],_,_,rfl,hh,rfl,q.ys[b],rfl,?_⟩
   refine ⟨_,rfl,?_⟩
   refine gA ?_
   refine ⟨_,rfl,_,rfl,x,_,_,rfl,h.hx,rfl,x,q,rfl,h,fun l H2 s2 hl2=>?_⟩
   have h2:=h.kt (aN.kt s2)
   refine ⟨l,_,rfl,.inl (bO.of hl2),rfl,wQ q,_,rfl,?_⟩
   refine nW (fun c0=>?_) (fun c0=>?_)
   ·have nb:q.bs.getD b false=false:=by
     rw [<- GX hby,<- hb]
     simpa using c0
    have eb2:q.bs[b]? = some false:=by rw [eb,<- iB (d:=false) (show b < q.bs.length by omega),nb]
    refine ⟨_,rfl,x,_,_,rfl,h2.hx,rfl,_,rfl,x,_,q,rfl,h2,.inr (.inr (.inr ⟨b,u,d,m,congrArg V.int hb,ei,eb2,by omega,fun x2 q2 H3 s3 h3 y3 d3=>?_⟩))⟩
    exact ⟨_,_,x2,q2,rfl,s1.trans (s2.trans s3),h3,y3,by omega⟩
   ·exact ⟨_,_,x,q,rfl,s1.trans s2,h2,rfl,by omega⟩
  | st p rs =>
   refine .inr ⟨_,rfl,x,_,_,rfl,h.hx,rfl,_,rfl,x,.int (cell % (q.ys.length:Int)),q,true,rfl,h,fO.yes (by omega) (by omega),fun j0 y e1 e2=>?_,(fun z=>nomatch z)⟩
   obtain rfl:=EQ j0 e1
   rw [ey] at e2
   cases e2
   have st0:=st
   cases st with
   | @st _ dx l0 cp0 r0 _ n' k' lv2 d0 _ jj xs _ ps zs hh vv g lp ly row sub p0 p9 ne l4 ww hk =>
   refine ⟨q.ys[b],_,_,rfl,hh,rfl,q.ys[b],rfl,?_⟩
   refine ⟨_,rfl,?_⟩
   refine fX ?_
   have rl:0 < rs.length:=List.length_pos_iff.mpr ne
   refine ⟨_,rfl,x,_,_,rfl,h.hx,rfl,_,rfl,_,rfl,_,rfl,_,_,rfl,rfl,⟨by omega,by omega⟩,_,rfl,x,_,_,rfl,h.hx,rfl,_,rfl,x,.int (cell % (q.ys.length:Int)),q,true,rfl,h,fO.yes (by omega) (by omega),fun j0 y e1 e2=>?_,(fun z=>nomatch z)⟩
   obtain rfl:=EQ j0 e1
   rw [ey] at e2
   cases e2
   refine ⟨q.ys[b],c.s,_,_,_,rfl,hh,ck.cs,ck.s6,rfl,r0,_,rfl,.inr (cN.of g),_,_,rfl,rfl,(by rw [List.length_map,lp]; omega),?_⟩
   rw [List.length_map,lp]
   have f1:=Int.emod_nonneg (cell / (q.ys.length:Int)) (show (rs.length:Int) ≠ 0 by omega)
   have f2:=Int.emod_lt_of_pos (cell / (q.ys.length:Int)) (show (0:Int) < (rs.length:Int) by omega)
   obtain ⟨rw_,hrw⟩ : ∃ z:Nat,cell / (q.ys.length:Int) % (rs.length:Int)=(z:Int):=⟨(cell / (q.ys.length:Int) % (rs.length:Int)).toNat,by omega⟩
   refine ⟨x,_,_,q,rfl,h,.inr (.inr (.inr ⟨b,rw_,p,rs,_,m,congrArg V.int hb,congrArg V.int hrw,ei,by omega,by omega,fun x2 q2 H3 s3 h3 y3 d3=>?_⟩))⟩
   exact ⟨_,_,x2,q2,rfl,s1.trans s3,h3,y3,by omega⟩
theorem wJ {n:Nat}{f:Addr}{fd:FuncData} (F:eN K "_law_wrong" "_law_wrong" (top 62) f fd) {c:Cs}{cC:Addr} (ca:wD K c cC) (ck:CK K c) {C_NoDeed:Addr}{f_sd:Addr}{fd_sd:FuncData} (m_sd:cB K cC "stand" f_sd) (G_sd:aP P w K mg base (jJ P w) n f_sd fd_sd ["self","box"] (rK c cC C_NoDeed)) (b_sd:aY K fd_sd ["self","box"] []) {f_Ei:Addr}{fd_Ei:FuncData} (m_Ei:cB K c.e "is_end" f_Ei) (G_Ei:aP P w K mg base dM n f_Ei fd_Ei ["self"] (oV c true)) (b_Ei:aY K fd_Ei ["self"] []) {f_Si:Addr}{fd_Si:FuncData} (m_Si:cB K c.s "is_end" f_Si) (G_Si:aP P w K mg base dM n f_Si fd_Si ["self"] (oV c false)) (b_Si:aY K fd_Si ["self"] []) {f_kp:Addr}{fd_kp:FuncData} (m_kp:cB K cC "kept" f_kp) (G_kp:aP P w K mg base dM n f_kp fd_kp ["self"] (uA c cC)) (b_kp:aY K fd_kp ["self"] []) {g__law_caught:Addr}{gd__law_caught:FuncData} (c__law_caught:gG P w K mg base n "_law_caught" ["_law_case","_law_way","_law_box","_law_row"] (Nx c cC C_NoDeed) g__law_caught gd__law_caught) {g__law_odd:Addr}{gd__law_odd:FuncData} (c__law_odd:gG P w K mg base n "_law_odd" ["_law_cell","_law_many"] Nf g__law_odd gd__law_odd) (z_len:mg "len" = none):aP P w K mg base dM (n + 1) f fd ["_law_case","_law_cell","_law_many"] (Fz c cC C_NoDeed):=by
 refine F.ok oR (fun vs H Q E h=>?_) (fun cdv A outer s H vs Q E hr h=>?_)
 ·obtain ⟨x,cc,q,rfl,_⟩:=h
  rfl
 obtain ⟨x,cc,q,rfl,h,k⟩:=h
 have nd:=oR.nd
 refine ⟨_,(aG (aV (i:=3) nd rfl (Or.inl rfl) (aQ dH (aQ jL (pv 1) aH) (pv 2))) (aG (aV (i:=4) nd rfl (Or.inl rfl) (aQ dH (pv 1) aH)) (aG (dO (bZ Bo (pv 4) aH (cO _)) (aJ (aW (aM c__law_caught hr (aA (pv 0) (aA (pv 4) (aA (aM c__law_odd hr (aA (aQ jL (pv 1) aH) (aA (pv 2) aC))) (aA aH aC))))))) bY) (aG (dO (fW (fK (fU (bK (bR (pv 0) ca.cl m_sd G_sd hr b_sd .nil jD (aA (pv 3) aC)) ck.ce m_Ei G_Ei hr b_Ei .nil cT) (bK (bR (pv 0) ca.cl m_sd G_sd hr b_sd .nil jD (aA (pv 3) aC)) ck.cs m_Si G_Si hr b_Si .nil cT)))) (aG (aV (i:=5) nd rfl (Or.inl rfl) (bB dD rfl z_len kW (aA (cL (bR (pv 0) ca.cl m_sd G_sd hr b_sd .nil jD (aA (pv 3) aC)) rfl) aC))) (aG (dO (bZ jX (aQ dH (aQ jL (pv 1) aH) aH) aH (cO _)) (aJ (aW (aM c__law_caught hr (aA (pv 0) (aA aH (aA (pv 3) (aA aH aC))))))) bY) (aJ (aW (aM c__law_caught hr (aA (pv 0) (aA aH (aA (pv 3) (aA (aM c__law_odd hr (aA (aQ jL (pv 1) aH) (aA (pv 5) aC))) aC))))))))) bY) (aG (dO (bZ HX (pv 3) (bK (pv 0) ca.cl m_kp G_kp hr b_kp .nil cT) rfl) (aJ (aW (aM c__law_caught hr (aA (pv 0) (aA aH (aA (pv 3) (aA aH aC))))))) bY) (aJ (aW (aM c__law_caught hr (aA (pv 0) (aA aH (aA (pv 3) (aA aH aC)))))))))))),?_⟩
 have n1:=h.n1
 have n6:=h.n6
 have es:=h.es
 have ebl:=h.eb
 have g1:=Int.emod_nonneg (cc / 7) (show (q.ys.length:Int) ≠ 0 by omega)
 have g2:=Int.emod_lt_of_pos (cc / 7) (show (0:Int) < (q.ys.length:Int) by omega)
 obtain ⟨b,hb⟩ : ∃ b:Nat,cc / 7 % (q.ys.length:Int)=(b:Int):=⟨(cc / 7 % (q.ys.length:Int)).toNat,by omega⟩
 have hby:b < q.ys.length:=by omega
 have ey:q.ys[b]? = some q.ys[b]:=List.getElem?_eq_getElem hby
 have ei:q.ss[b]? = some (q.ss[b]'(by omega)):=List.getElem?_eq_getElem _
 have eb:q.bs[b]? = some (q.bs[b]'(by omega)):=List.getElem?_eq_getElem _
 obtain ⟨st,d4,m12⟩:=h.st b _ _ ey ei
 have EQ:∀ (j0:Nat),V.int (cc / 7 % (q.ys.length:Int))=V.int (j0:Int)->b=j0:=fun j0 e=>by injection e with e; omega
 refine ⟨_,rfl,_,_,rfl,rfl,⟨by decide,by decide⟩,_,rfl,_,_,rfl,rfl,(by show (0:Int) < (q.ys.length:Int); omega),?_⟩
 refine ⟨_,rfl,_,_,rfl,rfl,(by show (0:Int) < 7; decide),?_⟩
 refine ⟨_,rfl,_,_,rfl,rfl,_,rfl,?_⟩
 refine nW (fun _=>?_) (fun _=>?_)
 ·refine ⟨_,rfl,_,rfl,_,rfl,_,_,rfl,rfl,⟨by decide,by decide⟩,_,rfl,_,_,rfl,by omega,by omega,fun v H1 s1 iw=>?_⟩
  exact ⟨x,_,v,.int 0,q,rfl,h.kt (aN.kt s1),.inl iw,fun a H2 s2 ha=>k a H2 (s1.trans s2) ha⟩
 generalize q.ss[b]'(by omega)=ent at ei st d4 m12
 obtain ⟨e0,d,m⟩:=ent
 cases e0 with
 | en u =>
  refine .inl ⟨_,rfl,x,_,_,rfl,h.hx,rfl,_,rfl,x,.int (cc / 7 % (q.ys.length:Int)),q,true,rfl,h,fO.yes (by omega) (by omega),fun j0 y e1 e2=>?_,(fun z=>nomatch z)⟩
  obtain rfl:=EQ j0 e1
  rw [ey] at e2
  cases e2
  cases st with
  | en hh vv ok =>
  refine ⟨q.ys[b],_,_,rfl,hh,rfl,q.ys[b],rfl,?_⟩
  refine ⟨_,rfl,?_⟩
  refine gA ?_
  refine ⟨_,rfl,_,rfl,x,_,_,rfl,h.hx,rfl,x,q,rfl,h,fun l H2 s2 hl2=>?_⟩
  have h2:=h.kt (aN.kt s2)
  refine ⟨l,_,rfl,.inl (bO.of hl2),rfl,wQ q,_,rfl,?_⟩
  refine nW (fun c0=>?_) (fun c0=>?_)
  ·have nb:q.bs.getD b false=true:=by
    rw [<- GX hby,<- hb]
    simpa using c0
   have eb2:q.bs[b]? = some true:=by rw [eb,<- iB (d:=false) (show b < q.bs.length by omega),nb]
   exact ⟨_,rfl,_,rfl,x,4,_,.int 0,q,rfl,h2,.inr (.inl ⟨rfl,b,congrArg V.int hb,.inr eb2⟩),fun a H3 s3 ha=>k a H3 (s2.trans s3) ha⟩
  ·exact ⟨_,rfl,_,rfl,x,5,_,.int 0,q,rfl,h2,.inr (.inr ⟨rfl,b,congrArg V.int hb,.inl ⟨u,d,m,ei⟩⟩),fun a H3 s3 ha=>k a H3 (s2.trans s3) ha⟩
 | st p rs =>
  refine .inr ⟨_,rfl,x,_,_,rfl,h.hx,rfl,_,rfl,x,.int (cc / 7 % (q.ys.length:Int)),q,true,rfl,h,fO.yes (by omega) (by omega),fun j0 y e1 e2=>?_,(fun z=>nomatch z)⟩
  obtain rfl:=EQ j0 e1
  rw [ey] at e2
  cases e2
  cases st with
  | @st _ dx l0 cp0 r0 _ n' k' lv2 d0 _ jj xs _ ps zs hh vv g lp ly row sub p0 p9 ne l4 ww hk =>
  refine ⟨q.ys[b],_,_,rfl,hh,rfl,q.ys[b],rfl,?_⟩
  refine ⟨_,rfl,?_⟩
  refine fX ?_
  have rl:0 < rs.length:=List.length_pos_iff.mpr ne
  refine ⟨_,rfl,x,_,_,rfl,h.hx,rfl,_,rfl,x,.int (cc / 7 % (q.ys.length:Int)),q,true,rfl,h,fO.yes (by omega) (by omega),fun j0 y e1 e2=>?_,(fun z=>nomatch z)⟩
  obtain rfl:=EQ j0 e1
  rw [ey] at e2
  cases e2
  refine ⟨q.ys[b],c.s,_,_,_,rfl,hh,ck.cs,ck.s6,rfl,r0,_,rfl,.inr (cN.of g),?_⟩
  refine ⟨_,rfl,_,_,rfl,rfl,⟨by decide,by decide⟩,_,_,rfl,rfl,(by show (0:Int) < 2; decide),rfl,_,rfl,?_⟩
  refine nW (fun _=>?_) (fun _=>?_)
  ·exact ⟨_,rfl,_,rfl,x,4,_,.int 0,q,rfl,h,.inr (.inl ⟨rfl,b,congrArg V.int hb,.inl ⟨p,rs,_,m,ei⟩⟩),k⟩
  ·have hlr:((ps.map V.ref).length:Int)=(rs.length:Int):=by rw [List.length_map,lp]
   refine ⟨_,rfl,_,rfl,_,rfl,_,_,rfl,rfl,⟨by decide,by decide⟩,_,rfl,_,_,rfl,by omega,by omega,fun v H1 s1 iw=>?_⟩
   rw [hlr] at iw
   exact ⟨x,5,_,v,q,rfl,h.kt (aN.kt s1),.inr (.inr ⟨rfl,b,congrArg V.int hb,.inr ⟨p,rs,_,m,ei,iw⟩⟩),fun a H2 s2 ha=>k a H2 (s1.trans s2) ha⟩
theorem vU:bootBuiltins "ValueError" = some (.type "ValueError"):=by decide +kernel
theorem zF {n:Nat}{f:Addr}{fd:FuncData} (F:eN K "_law_lone" "_law_lone" (top 60) f fd) {C_NoDeed C_NoBox C_NoOffers C_NoPattern C_NoPlan C_NoRanks C_NoRule C_NoSets C_NoTable C_NoText C_TooMany:Addr} (g_NoDeed:mg "NoDeed" = some (.ref C_NoDeed)) (g_NoBox:mg "NoBox" = some (.ref C_NoBox)) (g_NoOffers:mg "NoOffers" = some (.ref C_NoOffers)) (g_NoPattern:mg "NoPattern" = some (.ref C_NoPattern)) (g_NoPlan:mg "NoPlan" = some (.ref C_NoPlan)) (g_NoRanks:mg "NoRanks" = some (.ref C_NoRanks)) (g_NoRule:mg "NoRule" = some (.ref C_NoRule)) (g_NoSets:mg "NoSets" = some (.ref C_NoSets)) (g_NoTable:mg "NoTable" = some (.ref C_NoTable)) (g_NoText:mg "NoText" = some (.ref C_NoText)) (g_TooMany:mg "TooMany" = some (.ref C_TooMany)) (z_isinstance:mg "isinstance" = none) (z_range:mg "range" = none) (z_ValueError:mg "ValueError" = none):aP P w K mg base dM (n + 1) f fd ["_law_caught_here","_law_number"] (Iw K [C_NoDeed,C_NoBox,C_NoOffers,C_NoPattern,C_NoPlan,C_NoRanks,C_NoRule,C_NoSets,C_NoTable,C_NoText,C_TooMany]):=by
 refine F.ok pQ (fun vs H Q E h=>?_) (fun cdv A outer s H vs Q E hr h=>?_)
 ·obtain ⟨a,C,nb,rfl,_⟩:=h
  rfl
 obtain ⟨a,C,nb,rfl,ha,lk,q⟩:=h
 have nd:=pQ.nd
 have hu1:_ + 0 + 1 < cLine:=Nat.lt_of_le_of_lt (Nat.add_le_add_left (by decide:1 <= 64) _) (fG.units hr)
 refine ⟨_,(aG (aV (i:=2) nd rfl (Or.inl rfl) (dU (aA (bB (fJ (K:=K) rfl) rfl z_isinstance bC (aA (pv 0) (aA (dB (v:=.ref C_NoDeed) rfl g_NoDeed rfl) aC))) (aA (bB (fJ (K:=K) rfl) rfl z_isinstance bC (aA (pv 0) (aA (dB (v:=.ref C_NoBox) rfl g_NoBox rfl) aC))) (aA (bB (fJ (K:=K) rfl) rfl z_isinstance bC (aA (pv 0) (aA (dB (v:=.ref C_NoOffers) rfl g_NoOffers rfl) aC))) aC))))) (aG (aV (i:=2) nd rfl (Or.inl rfl) (aQ vA (pv 2) (dU (aA (bB (fJ (K:=K) rfl) rfl z_isinstance bC (aA (pv 0) (aA (dB (v:=.ref C_NoPattern) rfl g_NoPattern rfl) aC))) (aA (bB (fJ (K:=K) rfl) rfl z_isinstance bC (aA (pv 0) (aA (dB (v:=.ref C_NoPlan) rfl g_NoPlan rfl) aC))) (aA (bB (fJ (K:=K) rfl) rfl z_isinstance bC (aA (pv 0) (aA (dB (v:=.ref C_NoRanks) rfl g_NoRanks rfl) aC))) aC)))))) (aG (aV (i:=2) nd rfl (Or.inl rfl) (aQ vA (pv 2) (dU (aA (bB (fJ (K:=K) rfl) rfl z_isinstance bC (aA (pv 0) (aA (dB (v:=.ref C_NoRule) rfl g_NoRule rfl) aC))) (aA (bB (fJ (K:=K) rfl) rfl z_isinstance bC (aA (pv 0) (aA (dB (v:=.ref C_NoSets) rfl g_NoSets rfl) aC))) (aA (bB (fJ (K:=K) rfl) rfl z_isinstance bC (aA (pv 0) (aA (dB (v:=.ref C_NoTable) rfl g_NoTable rfl) aC))) aC)))))) (aG (aV (i:=2) nd rfl (Or.inl rfl) (aQ vA (pv 2) (dU (aA (bB (fJ (K:=K) rfl) rfl z_isinstance bC (aA (pv 0) (aA (dB (v:=.ref C_NoText) rfl g_NoText rfl) aC))) (aA (bB (fJ (K:=K) rfl) rfl z_isinstance bC (aA (pv 0) (aA (dB (v:=.ref C_TooMany) rfl g_TooMany rfl) aC))) aC))))) (aJ (aW (zO (pK (QG (n:=0) hu1) (pv 2) (cH (ls:=["_law_k"]) (M:=["_law_caught_here","_law_number","_law_kinds"]) rfl (bT.of (by rfl)) (NL.of (by rfl)) (gD rfl z_range (aA aH aC)) (fun _ _ _ _=>⟨(bA (i:=0) (cU (by rfl)) rfl (Or.inl rfl)),cG,(pK jX (pv 0) (pv 2) (cO _))⟩)) (cO _)) (Aa (bB (fJ (K:=K) rfl) rfl z_isinstance bC (aA (pv 0) (aA (mZ (v:=.ty "ValueError") rfl z_ValueError vU rfl) aC))))))))))),?_⟩
 refine ⟨_,rfl,a,C,.ref C_NoDeed,_,_,rfl,vB,ha,lk.xt,lk.ks 0 _ rfl,_,rfl,a,C,.ref C_NoBox,_,_,rfl,vB,ha,lk.xt,lk.ks 1 _ rfl,_,rfl,a,C,.ref C_NoOffers,_,_,rfl,vB,ha,lk.xt,lk.ks 2 _ rfl,Ky,fun l1 hl1=>?_⟩
 have s1:=aF hl1 (.lst [V.bl (decide (((0:Nat):Int)=nb)),V.bl (decide (((1:Nat):Int)=nb)),V.bl (decide (((2:Nat):Int)=nb))])
 have e1:aU H l1 (.lst [V.bl (decide (((0:Nat):Int)=nb)),V.bl (decide (((1:Nat):Int)=nb)),V.bl (decide (((2:Nat):Int)=nb))]) l1=some (.lst [V.bl (decide (((0:Nat):Int)=nb)),V.bl (decide (((1:Nat):Int)=nb)),V.bl (decide (((2:Nat):Int)=nb))]):=aB
 generalize aU H l1 (.lst [V.bl (decide (((0:Nat):Int)=nb)),V.bl (decide (((1:Nat):Int)=nb)),V.bl (decide (((2:Nat):Int)=nb))])=H1 at s1 e1 ⊢
 have ha1:=s1 _ _ ha
 refine ⟨_,rfl,_,rfl,a,C,.ref C_NoPattern,_,_,rfl,vB,ha1,lk.xt,lk.ks 3 _ rfl,_,rfl,a,C,.ref C_NoPlan,_,_,rfl,vB,ha1,lk.xt,lk.ks 4 _ rfl,_,rfl,a,C,.ref C_NoRanks,_,_,rfl,vB,ha1,lk.xt,lk.ks 5 _ rfl,Ky,fun x2 hx2=>?_⟩
 have t2:=aF hx2 (.lst [V.bl (decide (((3:Nat):Int)=nb)),V.bl (decide (((4:Nat):Int)=nb)),V.bl (decide (((5:Nat):Int)=nb))])
 refine ⟨l1,x2,_,_,rfl,rfl,t2 _ _ e1,aB,Ft (by decide:3 + 3 <= 1000),fun l2 hl2=>?_⟩
 have u2:=aF hl2 (.lst ([V.bl (decide (((0:Nat):Int)=nb)),V.bl (decide (((1:Nat):Int)=nb)),V.bl (decide (((2:Nat):Int)=nb))] ++ [V.bl (decide (((3:Nat):Int)=nb)),V.bl (decide (((4:Nat):Int)=nb)),V.bl (decide (((5:Nat):Int)=nb))]))
 have e2:aU (aU H1 x2 (.lst [V.bl (decide (((3:Nat):Int)=nb)),V.bl (decide (((4:Nat):Int)=nb)),V.bl (decide (((5:Nat):Int)=nb))])) l2 (.lst ([V.bl (decide (((0:Nat):Int)=nb)),V.bl (decide (((1:Nat):Int)=nb)),V.bl (decide (((2:Nat):Int)=nb))] ++ [V.bl (decide (((3:Nat):Int)=nb)),V.bl (decide (((4:Nat):Int)=nb)),V.bl (decide (((5:Nat):Int)=nb))])) l2=some (.lst [V.bl (decide (((0:Nat):Int)=nb)),V.bl (decide (((1:Nat):Int)=nb)),V.bl (decide (((2:Nat):Int)=nb)),V.bl (decide (((3:Nat):Int)=nb)),V.bl (decide (((4:Nat):Int)=nb)),V.bl (decide (((5:Nat):Int)=nb))]):=aB
 have s2:=s1.trans (t2.trans u2)
 generalize aU (aU H1 x2 (.lst [V.bl (decide (((3:Nat):Int)=nb)),V.bl (decide (((4:Nat):Int)=nb)),V.bl (decide (((5:Nat):Int)=nb))])) l2 (.lst ([V.bl (decide (((0:Nat):Int)=nb)),V.bl (decide (((1:Nat):Int)=nb)),V.bl (decide (((2:Nat):Int)=nb))] ++ [V.bl (decide (((3:Nat):Int)=nb)),V.bl (decide (((4:Nat):Int)=nb)),V.bl (decide (((5:Nat):Int)=nb))]))=H2 at e2 s2 ⊢
 have ha2:=s2 _ _ ha
 refine ⟨_,rfl,_,rfl,a,C,.ref C_NoRule,_,_,rfl,vB,ha2,lk.xt,lk.ks 6 _ rfl,_,rfl,a,C,.ref C_NoSets,_,_,rfl,vB,ha2,lk.xt,lk.ks 7 _ rfl,_,rfl,a,C,.ref C_NoTable,_,_,rfl,vB,ha2,lk.xt,lk.ks 8 _ rfl,Ky,fun x3 hx3=>?_⟩
 have t3:=aF hx3 (.lst [V.bl (decide (((6:Nat):Int)=nb)),V.bl (decide (((7:Nat):Int)=nb)),V.bl (decide (((8:Nat):Int)=nb))])
 refine ⟨l2,x3,_,_,rfl,rfl,t3 _ _ e2,aB,Ft (by decide:6 + 3 <= 1000),fun l3 hl3=>?_⟩
 have u3:=aF hl3 (.lst ([V.bl (decide (((0:Nat):Int)=nb)),V.bl (decide (((1:Nat):Int)=nb)),V.bl (decide (((2:Nat):Int)=nb)),V.bl (decide (((3:Nat):Int)=nb)),V.bl (decide (((4:Nat):Int)=nb)),V.bl (decide (((5:Nat):Int)=nb))] ++ [V.bl (decide (((6:Nat):Int)=nb)),V.bl (decide (((7:Nat):Int)=nb)),V.bl (decide (((8:Nat):Int)=nb))]))
 have e3:aU (aU H2 x3 (.lst [V.bl (decide (((6:Nat):Int)=nb)),V.bl (decide (((7:Nat):Int)=nb)),V.bl (decide (((8:Nat):Int)=nb))])) l3 (.lst ([V.bl (decide (((0:Nat):Int)=nb)),V.bl (decide (((1:Nat):Int)=nb)),V.bl (decide (((2:Nat):Int)=nb)),V.bl (decide (((3:Nat):Int)=nb)),V.bl (decide (((4:Nat):Int)=nb)),V.bl (decide (((5:Nat):Int)=nb))] ++ [V.bl (decide (((6:Nat):Int)=nb)),V.bl (decide (((7:Nat):Int)=nb)),V.bl (decide (((8:Nat):Int)=nb))])) l3=some (.lst [V.bl (decide (((0:Nat):Int)=nb)),V.bl (decide (((1:Nat):Int)=nb)),V.bl (decide (((2:Nat):Int)=nb)),V.bl (decide (((3:Nat):Int)=nb)),V.bl (decide (((4:Nat):Int)=nb)),V.bl (decide (((5:Nat):Int)=nb)),V.bl (decide (((6:Nat):Int)=nb)),V.bl (decide (((7:Nat):Int)=nb)),V.bl (decide (((8:Nat):Int)=nb))]):=aB
 have s3:=s2.trans (t3.trans u3)
 generalize aU (aU H2 x3 (.lst [V.bl (decide (((6:Nat):Int)=nb)),V.bl (decide (((7:Nat):Int)=nb)),V.bl (decide (((8:Nat):Int)=nb))])) l3 (.lst ([V.bl (decide (((0:Nat):Int)=nb)),V.bl (decide (((1:Nat):Int)=nb)),V.bl (decide (((2:Nat):Int)=nb)),V.bl (decide (((3:Nat):Int)=nb)),V.bl (decide (((4:Nat):Int)=nb)),V.bl (decide (((5:Nat):Int)=nb))] ++ [V.bl (decide (((6:Nat):Int)=nb)),V.bl (decide (((7:Nat):Int)=nb)),V.bl (decide (((8:Nat):Int)=nb))]))=H3 at e3 s3 ⊢
 have ha3:=s3 _ _ ha
 refine ⟨_,rfl,_,rfl,a,C,.ref C_NoText,_,_,rfl,vB,ha3,lk.xt,lk.ks 9 _ rfl,_,rfl,a,C,.ref C_TooMany,_,_,rfl,vB,ha3,lk.xt,lk.ks 10 _ rfl,vY,fun x4 hx4=>?_⟩
 have t4:=aF hx4 (.lst [V.bl (decide (((9:Nat):Int)=nb)),V.bl (decide (((10:Nat):Int)=nb))])
 refine ⟨l3,x4,_,_,rfl,rfl,t4 _ _ e3,aB,Ft (by decide:9 + 2 <= 1000),fun l4 hl4=>?_⟩
 have u4:=aF hl4 (.lst ([V.bl (decide (((0:Nat):Int)=nb)),V.bl (decide (((1:Nat):Int)=nb)),V.bl (decide (((2:Nat):Int)=nb)),V.bl (decide (((3:Nat):Int)=nb)),V.bl (decide (((4:Nat):Int)=nb)),V.bl (decide (((5:Nat):Int)=nb)),V.bl (decide (((6:Nat):Int)=nb)),V.bl (decide (((7:Nat):Int)=nb)),V.bl (decide (((8:Nat):Int)=nb))] ++ [V.bl (decide (((9:Nat):Int)=nb)),V.bl (decide (((10:Nat):Int)=nb))]))
 have e4:aU (aU H3 x4 (.lst [V.bl (decide (((9:Nat):Int)=nb)),V.bl (decide (((10:Nat):Int)=nb))])) l4 (.lst ([V.bl (decide (((0:Nat):Int)=nb)),V.bl (decide (((1:Nat):Int)=nb)),V.bl (decide (((2:Nat):Int)=nb)),V.bl (decide (((3:Nat):Int)=nb)),V.bl (decide (((4:Nat):Int)=nb)),V.bl (decide (((5:Nat):Int)=nb)),V.bl (decide (((6:Nat):Int)=nb)),V.bl (decide (((7:Nat):Int)=nb)),V.bl (decide (((8:Nat):Int)=nb))] ++ [V.bl (decide (((9:Nat):Int)=nb)),V.bl (decide (((10:Nat):Int)=nb))])) l4=some (.lst [V.bl (decide (((0:Nat):Int)=nb)),V.bl (decide (((1:Nat):Int)=nb)),V.bl (decide (((2:Nat):Int)=nb)),V.bl (decide (((3:Nat):Int)=nb)),V.bl (decide (((4:Nat):Int)=nb)),V.bl (decide (((5:Nat):Int)=nb)),V.bl (decide (((6:Nat):Int)=nb)),V.bl (decide (((7:Nat):Int)=nb)),V.bl (decide (((8:Nat):Int)=nb)),V.bl (decide (((9:Nat):Int)=nb)),V.bl (decide (((10:Nat):Int)=nb))]):=aB
 have s4:=s3.trans (t4.trans u4)
 generalize aU (aU H3 x4 (.lst [V.bl (decide (((9:Nat):Int)=nb)),V.bl (decide (((10:Nat):Int)=nb))])) l4 (.lst ([V.bl (decide (((0:Nat):Int)=nb)),V.bl (decide (((1:Nat):Int)=nb)),V.bl (decide (((2:Nat):Int)=nb)),V.bl (decide (((3:Nat):Int)=nb)),V.bl (decide (((4:Nat):Int)=nb)),V.bl (decide (((5:Nat):Int)=nb)),V.bl (decide (((6:Nat):Int)=nb)),V.bl (decide (((7:Nat):Int)=nb)),V.bl (decide (((8:Nat):Int)=nb))] ++ [V.bl (decide (((9:Nat):Int)=nb)),V.bl (decide (((10:Nat):Int)=nb))]))=H4 at e4 s4 ⊢
 have ha4:=s4 _ _ ha
 refine ⟨_,rfl,11,rfl,by decide,by decide,fun D hD=>?_⟩
 refine gU (n:=(11:Int).toNat) (fun i τ H'=>∃ v0,τ = [v0,some (.ref a),some (.int nb),some (.ref l4)] /\ aN H4 H' /\ H' D=some (.lst (((List.range i).map fun j:Nat=>decide ((j:Int)=nb)).map V.bl))) ⟨none,rfl,aF hD _,aB⟩ ?turn ?done
 case turn =>
  rintro i m τ H5 hm hi ⟨v0,rfl,s5,hD5⟩
  refine uU ?_
  refine ⟨_,rfl,_,rfl,rfl,?_⟩
  refine bH hm hi hD5 (by rw [List.length_map,List.length_map,List.length_range]; exact aZ (by omega)) ⟨_,rfl,s5.upd_new hD _,?_⟩
  rw [aB,List.range_succ,List.map_append,List.map_append,TD.tG,Int.zero_add]
  rfl
 case done =>
 rintro τ H5 ⟨v0,rfl,s5,hD5⟩
 refine ⟨l4,D,true,rfl,rfl,Jj (bs:=(List.range 11).map fun j:Nat=>decide ((j:Int)=nb)) (s5 _ _ e4) hD5,?_⟩
 refine ⟨_,rfl,?_⟩
 refine fX ?_
 exact ⟨_,rfl,a,C,.ty "ValueError",_,true,rfl,vty,s5 _ _ ha4,lk.xt,lk.ve,q H5 (s4.trans s5)⟩
theorem uJ {n:Nat}{f:Addr}{fd:FuncData} (F:eN K "_law_caught" "_law_caught" (top 61) f fd) {c:Cs}{cC:Addr} (ca:wD K c cC) (ck:CK K c) {C_NoDeed:Addr}{f_sd:Addr}{fd_sd:FuncData} (m_sd:cB K cC "stand" f_sd) (G_sd:aP P w K mg base (jJ P w) n f_sd fd_sd ["self","box"] (rK c cC C_NoDeed)) (b_sd:aY K fd_sd ["self","box"] []) {f_cp:Addr}{fd_cp:FuncData} (m_cp:cB K cC "cap" f_cp) (G_cp:aP P w K mg base (jJ P w) n f_cp fd_cp ["self","box"] (tZ c cC C_NoDeed)) (b_cp:aY K fd_cp ["self","box"] []) {f_cs:Addr}{fd_cs:FuncData} (m_cs:cB K cC "caps" f_cs) (G_cs:aP P w K mg base (jJ P w) n f_cs fd_cs ["self","box"] (Ez c cC C_NoDeed)) (b_cs:aY K fd_cs ["self","box"] []) {f_db:Addr}{fd_db:FuncData} (m_db:cB K cC "debt" f_db) (G_db:aP P w K mg base (jJ P w) n f_db fd_db ["self","box"] (Ez c cC C_NoDeed)) (b_db:aY K fd_db ["self","box"] []) {f_tk:Addr}{fd_tk:FuncData} (m_tk:cB K cC "taken" f_tk) (G_tk:aP P w K mg base (jJ P w) n f_tk fd_tk ["self","box"] (JN c cC C_NoDeed)) (b_tk:aY K fd_tk ["self","box"] []) {f_op:Addr}{fd_op:FuncData} (m_op:cB K cC "opened" f_op) (G_op:aP P w K mg base (jJ P w) n f_op fd_op ["self","box","row"] (Jy c cC C_NoDeed)) (b_op:aY K fd_op ["self","box","row"] []) {C_LidError:Addr} (g_LidError:mg "LidError" = some (.ref C_LidError)) (ex:PySem.W.exmOne K (.ref C_NoDeed) (.ref C_LidError)=some true):aP P w K mg base dM (n + 1) f fd ["_law_case","_law_way","_law_box","_law_row"] (Nx c cC C_NoDeed):=by
 refine F.ok0 mK (fun vs H Q E h=>?_) (fun cdv A outer s H vs Q E hr h=>?_)
 ·obtain ⟨x,w,v,r,q,rfl,_⟩:=h
  rfl
 obtain ⟨x,w,v,r,q,rfl,h,bad,k⟩:=h
 have nd:=mK.nd
 refine ⟨_,(jU (PS.zero (aV (i:=4) nd rfl (Or.inl rfl) qK)) (jU (FT (i:=5) rfl rfl rfl rfl nd rfl rfl rfl rfl g_LidError (fun G=>(aJ (dO (bZ jX (pv 1) aH (cO _)) (aJ (eF (bR (pv 0) ca.cl m_sd G_sd hr b_sd .nil (gB rfl rfl rfl rfl) (aA (pv 2) aC)))) (aJ (dO (bZ jX (pv 1) aH (cO _)) (aJ (eF (bR (pv 0) ca.cl m_cp G_cp hr b_cp .nil (gB rfl rfl rfl rfl) (aA (pv 2) aC)))) (aJ (dO (bZ jX (pv 1) aH (cO _)) (aJ (eF (bR (pv 0) ca.cl m_cs G_cs hr b_cs .nil (gB rfl rfl rfl rfl) (aA (pv 2) aC)))) (aJ (dO (bZ jX (pv 1) aH (cO _)) (aJ (eF (bR (pv 0) ca.cl m_db G_db hr b_db .nil (gB rfl rfl rfl rfl) (aA (pv 2) aC)))) (aJ (dO (bZ jX (pv 1) aH (cO _)) (aJ (eF (bR (pv 0) ca.cl m_tk G_tk hr b_tk .nil (gB rfl rfl rfl rfl) (aA (pv 2) aC)))) (aJ (eF (bR (pv 0) ca.cl m_op G_op hr b_op .nil (gB rfl rfl rfl rfl) (aA (pv 2) (aA (pv 3) aC)))))))))))))))) (fun a=>(aJ (aV (i:=4) nd rfl (Or.inl rfl) (pv 5))))) (oZ.zero (aJ (aW (pv 4)))))),?_⟩
 rcases bad with iw | ⟨rfl,i,rfl,bd⟩ | ⟨rfl,i,rfl,bd⟩
 ·refine ⟨_,rfl,rfl,_,rfl,?_⟩
  refine nW (fun _=>?_) (fun _=>?_)
  ·exact ⟨_,rfl,x,_,_,rfl,h.hx,rfl,_,rfl,x,v,q,false,rfl,h,iw,(fun i y e1 e2=>(fO.notF K (n:=q.ys.length) (i:=i) (e1 ▸ iw) (List.getElem?_eq_some_iff.mp e2).1).elim),fun _=>⟨ex,fun a na=>⟨_,rfl,_,rfl,k a _ (aF na _) aB⟩⟩⟩
  refine ⟨_,rfl,rfl,_,rfl,?_⟩
  refine nW (fun _=>?_) (fun _=>?_)
  ·exact ⟨_,rfl,x,_,_,rfl,h.hx,rfl,_,rfl,x,v,q,false,rfl,h,iw,(fun i y e1 e2=>(fO.notF K (n:=q.ys.length) (i:=i) (e1 ▸ iw) (by have:=(List.getElem?_eq_some_iff.mp e2).1; have:=h.el; omega)).elim),fun _=>⟨ex,fun a na=>⟨_,rfl,_,rfl,k a _ (aF na _) aB⟩⟩⟩
  refine ⟨_,rfl,rfl,_,rfl,?_⟩
  refine nW (fun _=>?_) (fun _=>?_)
  ·exact ⟨_,rfl,x,_,_,rfl,h.hx,rfl,_,rfl,x,v,q,rfl,h,iw,⟨ex,fun a na=>⟨_,rfl,_,rfl,k a _ (aF na _) aB⟩⟩⟩
  refine ⟨_,rfl,rfl,_,rfl,?_⟩
  refine nW (fun _=>?_) (fun _=>?_)
  ·exact ⟨_,rfl,x,_,_,rfl,h.hx,rfl,_,rfl,x,v,q,rfl,h,iw,⟨ex,fun a na=>⟨_,rfl,_,rfl,k a _ (aF na _) aB⟩⟩⟩
  refine ⟨_,rfl,rfl,_,rfl,?_⟩
  refine nW (fun _=>?_) (fun _=>?_)
  ·exact ⟨_,rfl,x,_,_,rfl,h.hx,rfl,_,rfl,x,v,q,rfl,h,.inl ⟨iw,⟨ex,fun a na=>⟨_,rfl,_,rfl,k a _ (aF na _) aB⟩⟩⟩⟩
  exact ⟨_,rfl,x,_,_,rfl,h.hx,rfl,_,rfl,_,rfl,x,v,r,q,rfl,h,.inl ⟨iw,⟨ex,fun a na=>⟨_,rfl,_,rfl,k a _ (aF na _) aB⟩⟩⟩⟩
 ·refine ⟨_,rfl,rfl,_,rfl,uB rfl ?_⟩
  refine ⟨_,rfl,rfl,_,rfl,uB rfl ?_⟩
  refine ⟨_,rfl,rfl,_,rfl,uB rfl ?_⟩
  refine ⟨_,rfl,rfl,_,rfl,uB rfl ?_⟩
  refine ⟨_,rfl,rfl,_,rfl,CV rfl ?_⟩
  rcases bd with ⟨p,rs,d,m,ei⟩ | eb
  ·exact ⟨_,rfl,x,_,_,rfl,h.hx,rfl,_,rfl,x,_,q,rfl,h,.inr (.inl ⟨i,p,rs,d,m,rfl,ei,⟨ex,fun a na=>⟨_,rfl,_,rfl,k a _ (aF na _) aB⟩⟩⟩)⟩
  ·exact ⟨_,rfl,x,_,_,rfl,h.hx,rfl,_,rfl,x,_,q,rfl,h,.inr (.inr (.inl ⟨i,rfl,eb,⟨ex,fun a na=>⟨_,rfl,_,rfl,k a _ (aF na _) aB⟩⟩⟩))⟩
 ·refine ⟨_,rfl,rfl,_,rfl,uB rfl ?_⟩
  refine ⟨_,rfl,rfl,_,rfl,uB rfl ?_⟩
  refine ⟨_,rfl,rfl,_,rfl,uB rfl ?_⟩
  refine ⟨_,rfl,rfl,_,rfl,uB rfl ?_⟩
  refine ⟨_,rfl,rfl,_,rfl,uB rfl ?_⟩
  rcases bd with ⟨u,d,m,ei⟩ | ⟨p,rs,d,m,ei,iw⟩
  ·exact ⟨_,rfl,x,_,_,rfl,h.hx,rfl,_,rfl,_,rfl,x,_,r,q,rfl,h,.inr (.inl ⟨i,u,d,m,rfl,ei,⟨ex,fun a na=>⟨_,rfl,_,rfl,k a _ (aF na _) aB⟩⟩⟩)⟩
  ·exact ⟨_,rfl,x,_,_,rfl,h.hx,rfl,_,rfl,_,rfl,x,_,r,q,rfl,h,.inr (.inr (.inl ⟨i,p,rs,d,m,rfl,ei,iw,⟨ex,fun a na=>⟨_,rfl,_,rfl,k a _ (aF na _) aB⟩⟩⟩))⟩
theorem qN {n:Nat}{f:Addr}{fd:FuncData} (F:eN K "_law_no_boxes" "_law_no_boxes" (top 65) f fd) {c:Cs}{cC C_NoBox:Addr}{iC:Addr}{dC:FuncData}{kC:Nat} (M_Case:Mk K cC iC) (G_Case:aP P w K mg base (jJ P w) kC iC dC ["self","boxes"] (Ff c cC K C_NoBox)) (b_Case:aY K dC ["self","boxes"] []) (g_Case:mg "Case" = some (.ref cC)) (hn_Case:kC + 1 <= n) {C_LidError:Addr} (g_LidError:mg "LidError" = some (.ref C_LidError)) (ex:PySem.W.exmOne K (.ref C_NoBox) (.ref C_LidError)=some true) (z_tuple:mg "tuple" = none):aP P w K mg base dM (n + 1) f fd ["_law_cell","_law_boxes_here"] (O1 c C_NoBox):=by
 refine F.ok0 j8 (fun vs H Q E h=>?_) (fun cdv A outer s H vs Q E hr h=>?_)
 ·obtain ⟨cc,l,ys,rfl,_⟩:=h
  rfl
 obtain ⟨cc,l,ys,rfl,hl,y1,y6,hy,k⟩:=h
 have nd:=j8.nd
 refine ⟨_,(jU (PS.zero (aV (i:=2) nd rfl (Or.inl rfl) (dU (aA qK (aA (dU aC) (aA (c7 (cZ (K:=K) rfl) rfl z_tuple gH (aA (pv 1) aC)) (aA (aQ vA (pv 1) (aQ Qj (dU (aA (bU dI (pv 1) aH (fun _ _=>rfl)) aC)) aH)) (aA (aQ vA (pv 1) (dU (aA (aQ dH (pv 0) (aQ zQ aH aH)) aC))) (aA (dU (aA (dU (aA (bU dI (pv 1) aH (fun _ _=>rfl)) aC)) aC)) (aA lA (aA CJ (aA lR aC)))))))))))) (jU (PS.zero (aV (i:=3) nd rfl (Or.inl rfl) qK)) (jU (FT (i:=4) rfl rfl rfl rfl nd rfl rfl rfl rfl g_LidError (fun G=>(aJ (eF (pN M_Case G_Case (hr.mono hn_Case) rfl g_Case b_Case .nil (gB rfl rfl rfl rfl) (aA (bU dI (pv 2) (aQ dH (pv 0) aH) (fun _ _=>rfl)) aC))))) (fun a=>(aJ (aV (i:=3) nd rfl (Or.inl rfl) (pv 4))))) (oZ.zero (aJ (aW (pv 3))))))),?_⟩
 obtain ⟨y0,yt,rfl⟩ : ∃ y0 yt,ys=y0 :: yt:=by
  cases ys with
  | nil=>simp at y1
  | cons a b=>exact ⟨a,b,rfl⟩
 have pw:(0:Int) < 10 ^ (20:Int).toNat:=by decide
 have hlen:((y0 :: yt).map V.ref).length=yt.length + 1:=by simp
 have hyl:yt.length + 1 <= 6:=y6
 refine ⟨Nat.zero_le _,fun l1 e1=>?_⟩
 have t1:=aF e1 (.lst [])
 refine ⟨_,rfl,l,_,rfl,.inl ⟨bO.of (t1 _ _ hl),fun l2 e2=>?_⟩⟩
 have t2:=aF e2 (.tup ((y0 :: yt).map V.ref))
 have hl2:=(t1.trans t2) _ _ hl
 refine ⟨_,rfl,_,rfl,l,_,_,_,rfl,rfl,bO.of hl2,fD (j:=0) rfl,MK,fun l3 e3=>?_⟩
 have t3:=aF e3 (.lst [V.ref y0])
 refine ⟨l3,_,_,rfl,rfl,aB,by decide,by decide,Ft (by decide:1 * 6 <= 1000),fun l4 e4=>?_⟩
 have t4:=aF e4 (.lst (List.replicate (6:Int).toNat [V.ref y0]).flatten)
 have hl4:=(t3.trans t4) _ _ hl2
 refine ⟨l,l4,_,_,rfl,rfl,hl4,aB,Ft (by rw [hlen,zU]; show _ + 6 * 1 <= 1000; omega),fun l5 e5=>?_⟩
 have t5:=aF e5 (.lst ((y0 :: yt).map V.ref ++ (List.replicate (6:Int).toNat [V.ref y0]).flatten))
 have hl5:=t5 _ _ hl4
 refine ⟨_,rfl,_,rfl,_,_,rfl,rfl,p20,_,_,rfl,rfl,pw,MK,fun l6 e6=>?_⟩
 have t6:=aF e6 (.lst [V.int (cc % 10 ^ (20:Int).toNat)])
 refine ⟨l,l6,_,_,rfl,rfl,t6 _ _ hl5,aB,Ft (by rw [hlen]; show _ + 1 <= 1000; omega),fun l7 e7=>?_⟩
 have t7:=aF e7 (.lst ((y0 :: yt).map V.ref ++ [V.int (cc % 10 ^ (20:Int).toNat)]))
 have hl7:=(t6.trans t7) _ _ hl5
 refine ⟨_,rfl,l,_,_,_,rfl,rfl,bO.of hl7,fD (j:=0) rfl,MK,fun l8 e8=>?_⟩
 have t8:=aF e8 (.lst [V.ref y0])
 refine ⟨MK,fun l9 e9=>?_⟩
 have t9:=aF e9 (.lst [V.ref l8])
 intro la ea
 have ta:=aF ea (.dK [])
 refine ⟨Ft (by decide:9 <= 1000),fun lb eb=>?_⟩
 have tb:=aF eb (.lst [V.non,V.ref l1,V.ref l2,V.ref l5,V.ref l7,V.ref l9,V.str "",V.ref la,V.bl true])
 have G9:=t9.trans (ta.trans tb)
 have G8:=t8.trans G9
 have G5:=t6.trans (t7.trans G8)
 have G:=t1.trans (t2.trans (t3.trans (t4.trans (t5.trans G5))))
 obtain ⟨v,hv,bx⟩:=uH (xs:=[V.non,V.ref l1,V.ref l2,V.ref l5,V.ref l7,V.ref l9,V.str "",V.ref la,V.bl true]) (P:=fun v=>oW c K _ v false) (fun v hv=>by
  simp only [List.mem_cons,List.not_mem_nil,or_false] at hv
  rcases hv with rfl | rfl | rfl | rfl | rfl | rfl | rfl | rfl | rfl
  ·exact .no (Kw (fun K=>.non) fun K=>rfl)
  ·exact .len ((t2.trans (t3.trans (t4.trans (t5.trans G5)))) _ _ aB) (fun z=>by simp at z)
  ·exact .no (Kw (fun K=>.tup ((t3.trans (t4.trans (t5.trans G5))) _ _ aB)) fun K=>rfl)
  ·exact .len (G5 _ _ aB) (fun z=>by have:=z.2; rw [List.length_append,hlen,zU] at this; have e:(6:Int).toNat * [V.ref y0].length=6:=rfl; omega)
  ·exact FW (us:=(y0 :: yt).map V.ref) (zs:=[]) (by rw [List.append_nil]; exact G8 _ _ aB) (fun z hz=>by
    obtain ⟨y,my,rfl⟩:=List.mem_map.mp hz
    obtain ⟨s,d,m,st,_⟩:=hy y my
    exact .yes (st.kp (aN.kp G))) (fun z hz=>nomatch hz) (.no (.int _) (by decide))
  ·exact FW (us:=[]) (zs:=[]) (v:=V.ref l8) ((ta.trans tb) _ _ aB) (fun z hz=>nomatch hz) (fun z hz=>nomatch hz) (.no (.lst (G9 _ _ aB)) (by decide))
  ·exact .no (Kw (fun K=>.str _) fun K=>rfl)
  ·exact .no (Kw (fun K=>.dK (tb _ _ aB)) fun K=>rfl)
  ·exact .no (Kw (fun K=>.bl true) fun K=>rfl)) (r:=cc % 9) (Int.emod_nonneg _ (by decide)) (Int.emod_lt_of_pos _ (by decide))
 refine ⟨_,rfl,_,rfl,_,_,rfl,rfl,(by show (0:Int) < 9; decide),lb,_,_,_,rfl,rfl,bO.of aB,hv,?_⟩
 intro x dx hx hdx ndx
 have nO:=zY (o1:=.own x) (o2:=.ins cC dx []) hx hdx ndx
 refine .inr ⟨x,v,rfl,bx.kt (aN.kt nO),fun H' s'=>?_⟩
 exact ⟨ex,fun a na=>⟨_,rfl,_,rfl,k a _ ((G.trans nO).trans (s'.trans (aF na _))) aB⟩⟩
theorem Dm {c:Cs}{cC:Addr}{H:Hp}{x:Addr}{q:Ca} (h:iH c cC H x q) {r r1 r2 r3 r6 u u1 u2 u3 u6:Addr}{ts us:List Addr} (a:tU H r q r1 r2 r3 r6 ts) (b:tU H u q u1 u2 u3 u6 us) :
  ∀ (j:Nat) (x y:V),[V.ref r1,V.ref r2,V.ref r3,V.int q.sp,V.int (Yi q),V.ref r6][j]? = some x->[V.ref u1,V.ref u2,V.ref u3,V.int q.sp,V.int (Yi q),V.ref u6][j]? = some y->GR K H 14 x y:=by
 have intE:∀ (n:Nat) (i:Int),GR K H n (.int i) (.int i):=fun n i=>.of (by have z:=DE.int (K:=K) (H:=H) n i i; rw [beq_self_eq_true] at z; exact z)
 have strE:∀ (n:Nat) (i:Str),DE K H n (.str i) (.str i) true:=fun n i=>by have z:=DE.str (K:=K) (H:=H) n i i; rw [beq_self_eq_true] at z; exact z
 have intD:∀ (n:Nat) (i:Int),DE K H n (.int i) (.int i) true:=fun n i=>by have z:=DE.int (K:=K) (H:=H) n i i; rw [beq_self_eq_true] at z; exact z
 have tupS:∀ {p:Addr}{xs:List V},H p=some (.tup xs)->(∀ v ∈ xs,DE K H 0 v v true)->GR K H 1 (.ref p) (.ref p):=fun {p xs} e hv=>.of (by
  have z:=DE.tup (K:=K) (n:=0) (fun _=>true) (cN.of e) (cN.of e) (fun j x y hx hy=>by rw [hx] at hy; cases hy; exact hv x (List.mem_of_getElem? hx))
  rw [show ((List.range (min xs.length xs.length)).all (fun _=>true) && xs.length == xs.length)=true by simp] at z
  exact z)
 intro j x y hx hy
 match j,hx,hy with
 | 0,hx,hy =>
  cases hx; cases hy
  refine .lst (n:=13) (bO.of a.h1) (bO.of b.h1) (by rw [List.length_map,List.length_map,a.tl,b.tl]) fun j x y hx hy=>?_
  rw [List.getElem?_map] at hx hy
  cases e1:ts[j]? with
  | none=>rw [e1] at hx; cases hx
  | some t =>
   cases e2:us[j]? with
   | none=>rw [e2] at hy; cases hy
   | some t2 =>
    rw [e1] at hx
    rw [e2] at hy
    cases hx
    cases hy
    have hj:j < q.ss.length:=by have:=(List.getElem?_eq_some_iff.mp e1).1; have:=a.tl; omega
    have es:q.ss[j]? = some q.ss[j]:=List.getElem?_eq_getElem hj
    have ey:q.ys[j]? = some (q.ys[j]'(by rw [<- h.es]; exact hj)):=List.getElem?_eq_getElem _
    have st:=h.st j _ _ ey es
    obtain ⟨k,de,hk⟩:=K4 (K:=K) (n:=13) st.1.ok (a.to j t _ e1 es) (b.to j t2 _ e2 es) (by have:=st.2.1; omega)
    rw [hk.mpr rfl] at de
    exact .of de
 | 1,hx,hy =>
  cases hx; cases hy
  refine .lst (n:=13) (bO.of a.h2) (bO.of b.h2) rfl fun j x y hx hy=>?_
  rw [hx] at hy
  cases hy
  cases h.cp x (List.mem_of_getElem? hx) with
  | non=>exact .non
  | sh ht _=>exact (tupS ht (fun v hv=>by
    simp only [List.mem_cons,List.not_mem_nil,or_false] at hv
    rcases hv with rfl | rfl <;> exact intD _ _)).up (by decide)
 | 2,hx,hy =>
  cases hx; cases hy
  refine .lst (n:=13) (bO.of a.h3) (bO.of b.h3) rfl fun j x y hx hy=>?_
  rw [hx] at hy
  cases hy
  obtain ⟨i,_,rfl⟩:=List.mem_map.mp (List.mem_of_getElem? hx)
  exact intE _ _
 | 3,hx,hy=>cases hx; cases hy; exact intE _ _
 | 4,hx,hy=>cases hx; cases hy; exact intE _ _
 | 5,hx,hy =>
  cases hx; cases hy
  refine .lst (n:=13) (bO.of a.h6) (bO.of b.h6) rfl fun j x y hx hy=>?_
  rw [hx] at hy
  cases hy
  obtain ⟨d,hd,rfl⟩:=List.mem_map.mp (List.mem_of_getElem? hx)
  cases h.dd d hd with
  | op e=>exact (tupS e (fun v hv=>by
    simp only [List.mem_cons,List.not_mem_nil,or_false] at hv
    rcases hv with rfl | rfl | rfl <;> first | exact strE _ _ | exact intD _ _)).up (by decide)
  | tk e=>exact (tupS e (fun v hv=>by
    simp only [List.mem_cons,List.not_mem_nil,or_false] at hv
    rcases hv with rfl | rfl <;> first | exact strE _ _ | exact intD _ _)).up (by decide)
 | j + 6,hx,_=>simp at hx
theorem HB {H H':Hp}{r r1 r2 r3 r6:Addr}{q:Ca}{ts:List Addr} (s:aN H H') (a:tU H r q r1 r2 r3 r6 ts):tU H' r q r1 r2 r3 r6 ts:=⟨s _ _ a.hr,s _ _ a.h1,a.tl,fun i t z e1 e2=>(a.to i t z e1 e2).same s,s _ _ a.h2,s _ _ a.h3,s _ _ a.h6⟩
theorem JX (ns:List Int):∃ ms:List Int,gJ (ns.map V.int) (some 2) (some 20)=ms.map V.int /\ ms.length <= 60:=by
 unfold gJ
 rw [List.length_map,<- List.map_drop,<- List.map_take]
 refine ⟨_,rfl,?_⟩
 have h:=HT.mX ns.length ns.length 20
 rw [List.length_take]
 have e:HT.gO ns.length ns.length (some 20)=min 20 ns.length:=h
 rw [e]
 omega
theorem Ie (ns:List Int) (lo hi:Option Int):∃ ms:List Int,gJ (ns.map V.int) lo hi=ms.map V.int /\ ms.length <= ns.length:=by
 unfold gJ
 rw [List.length_map,<- List.map_drop,<- List.map_take]
 exact ⟨_,rfl,by rw [List.length_take,List.length_drop]; omega⟩
theorem Oj {n:Nat}{f:Addr}{fd:FuncData} (F:eN K "law" "law" (top 66) f fd) {c:Cs}{cC:Addr} (ca:wD K c cC) (ck:CK K c) {C_NoDeed C_NoBox C_NoOffers C_NoPattern C_NoPlan C_NoRanks C_NoRule C_NoSets C_NoTable C_NoText C_TooMany:Addr} (lkD:rD K C_NoDeed [C_NoDeed,C_NoBox,C_NoOffers,C_NoPattern,C_NoPlan,C_NoRanks,C_NoRule,C_NoSets,C_NoTable,C_NoText,C_TooMany] 0) (lkB:rD K C_NoBox [C_NoDeed,C_NoBox,C_NoOffers,C_NoPattern,C_NoPlan,C_NoRanks,C_NoRule,C_NoSets,C_NoTable,C_NoText,C_TooMany] 1) {iC:Addr}{dC:FuncData}{kC:Nat} (M_Case:Mk K cC iC) (G_Case:aP P w K mg base (jJ P w) kC iC dC ["self","boxes"] (Ff c cC K C_NoBox)) (b_Case:aY K dC ["self","boxes"] []) (g_Case:mg "Case" = some (.ref cC)) (hn_Case:kC + 1 <= n) {g__law_told:Addr}{gd__law_told:FuncData} (c__law_told:gG P w K mg base n "_law_told" ["_law_case","_law_many"] (JD c cC) g__law_told gd__law_told) {g__law_lone:Addr}{gd__law_lone:FuncData} (c__law_lone:gG P w K mg base n "_law_lone" ["_law_caught_here","_law_number"] (Iw K [C_NoDeed,C_NoBox,C_NoOffers,C_NoPattern,C_NoPlan,C_NoRanks,C_NoRule,C_NoSets,C_NoTable,C_NoText,C_TooMany]) g__law_lone gd__law_lone) {g__law_no_boxes:Addr}{gd__law_no_boxes:FuncData} (c__law_no_boxes:gG P w K mg base n "_law_no_boxes" ["_law_cell","_law_boxes_here"] (O1 c C_NoBox) g__law_no_boxes gd__law_no_boxes) {g__law_mixed:Addr}{gd__law_mixed:FuncData} (c__law_mixed:gG P w K mg base n "_law_mixed" ["_law_cell","_law_k"] Ke g__law_mixed gd__law_mixed) {g__law_cell_at:Addr}{gd__law_cell_at:FuncData} (c__law_cell_at:gG P w K mg base n "_law_cell_at" ["_law_script","_law_k"] (Fp K) g__law_cell_at gd__law_cell_at) {g__law_wrong:Addr}{gd__law_wrong:FuncData} (c__law_wrong:gG P w K mg base n "_law_wrong" ["_law_case","_law_cell","_law_many"] (Fz c cC C_NoDeed) g__law_wrong gd__law_wrong) {g__law_done:Addr}{gd__law_done:FuncData} (c__law_done:gG P w K mg base n "_law_done" ["_law_case","_law_cells","_law_many"] (KQ K c cC) g__law_done gd__law_done) {g__law_boxes:Addr}{gd__law_boxes:FuncData} (c__law_boxes:gG P w K mg base n "_law_boxes" ["_law_models_here"] (NQ c Pt iJ) g__law_boxes gd__law_boxes) {g__law_models:Addr}{gd__law_models:FuncData} (c__law_models:gG P w K mg base n "_law_models" ["_law_script","_law_many"] (Ni K) g__law_models gd__law_models):aP P w K mg base dM (n + 1) f fd ["_law_script"] (sV K Pt iJ):=by
 refine F.ok Ks (fun vs H Q E h=>?_) (fun cdv A outer s H vs Q E hr h=>?_)
 ·obtain ⟨a,ns,rfl,_⟩:=h
  rfl
 obtain ⟨a,ns,rfl,hS,hlen,hT0,q⟩:=h
 have nd:=Ks.nd
 have hu15:_ + 14 + 1 < cLine:=Nat.lt_of_le_of_lt (Nat.add_le_add_left (by decide:15 <= 64) _) (fG.units hr)
 refine ⟨_,(aG (aV (i:=1) nd rfl (Or.inl rfl) (aQ fP aH (aQ dH (aM c__law_cell_at hr (aA (pv 0) (aA aH aC))) aH))) (aG (aV (i:=2) nd rfl (Or.inl rfl) (aM c__law_boxes hr (aA (aM c__law_models hr (aA (pv 0) (aA (pv 1) aC))) aC))) (aG (aV (i:=3) nd rfl (Or.inl rfl) (aM c__law_done hr (aA (pN M_Case G_Case (hr.mono hn_Case) rfl g_Case b_Case .nil jD (aA (pv 2) aC)) (aA (o9 Ex (pv 0) (nU aH) (nU aH)) (aA (pv 1) aC))))) (aG (aV (i:=4) nd rfl (Or.inl rfl) (aM c__law_told hr (aA (pv 3) (aA (pv 1) aC)))) (aG (lH PassesOwn.never rfl (cV (o9 Ex (pv 0) (nU aH) (nU aH))) (bA (i:=5) nd rfl (Or.inl rfl)) (aJ (dO (fW (fK (aM c__law_lone hr (aA (aM c__law_wrong hr (aA (pv 3) (aA (aM c__law_mixed hr (aA (pv 5) (aA aH aC))) (aA (pv 1) aC)))) (aA aH aC))))) (aJ (aW lR)) bY))) (aG (dO (fW (fK (aM c__law_lone hr (aA (aM c__law_no_boxes hr (aA (aM c__law_mixed hr (aA (aM c__law_cell_at hr (aA (pv 0) (aA aH aC))) (aA aH aC))) (aA (pv 2) aC))) (aA aH aC))))) (aJ (aW lR)) bY) (aJ (aW (pK (Qh (n:=14) hu15) (aM c__law_told hr (aA (pv 3) (aA (pv 1) aC))) (pv 4) (cO _)))))))))),?_⟩
 have hT0:eX Pt iJ kY H:=.inl hT0
 refine ⟨_,rfl,a,ns,0,rfl,hS,by decide,fun c0=>?_⟩
 have g1:=Int.emod_nonneg c0 (show (6:Int) ≠ 0 by decide)
 have g2:=Int.emod_lt_of_pos c0 (show (0:Int) < 6 by decide)
 refine ⟨_,_,rfl,rfl,(by show (0:Int) < 6; decide),_,_,rfl,rfl,?_⟩
 refine ⟨_,rfl,_,rfl,a,ns,1 + c0 % 6,rfl,hS,by omega,by omega,fun l ts H1 s1 hl1 hmd tl=>?_⟩
 have tb1:=hT0.same s1
 refine ⟨l,ts,rfl,hl1,hmd,by omega,by omega,tb1,fun R ys H2 s2 tb2 hR2 yl hsg=>?_⟩
 have sT2:cA Pt H H2:=s1.toT.trans s2
 have hS2:bO K H2 a (ns.map V.int):=sT2.lst hT0 hS
 refine ⟨_,rfl,?_⟩
 intro x dx hx hdx ndx
 have nO:=zY (o1:=.own x) (o2:=.ins cC dx []) hx hdx ndx
 refine .inl ⟨x,dx,R,ys,rfl,aB,nO _ _ hR2,by omega,by omega,(fun y hy=>let ⟨s,d,m,st,_⟩:=(hsg y hy).kt (aN.kt nO); ⟨s,d,m,st⟩),fun tp tl2 th td H3 kx hx3 htp htl hth htd=>⟨rfl,?_⟩⟩
 have s3:aN H2 H3:=made hx hdx kx
 have hR3:=s3 _ _ hR2
 have hS3:=s3.seq hS2
 obtain ⟨q1,hq1,hy1,hd1⟩ : ∃ q1:Ca,iH c cC H3 x q1 /\ q1.ys=ys /\ q1.ds=[]:=by
  have ex:∀ y:Addr,∃ z:Sd.Sd × Nat × Nat,y ∈ ys->dR c H3 y z.1 z.2.1 z.2.2 /\ z.2.1 <= 4 /\ z.2.2 <= 12:=fun y=>by
   by_cases hy:y ∈ ys
   ·obtain ⟨s,d,m,st,r⟩:=(hsg y hy).kt (aN.kt s3)
    exact ⟨(s,d,m),fun _=>⟨st,r⟩⟩
   ·exact ⟨(.en 0,0,0),fun z=>absurd z hy⟩
  refine ⟨⟨dx,tp,tl2,th,td,ys,ys.map fun y=>Classical.choose (ex y),ys.map fun _=>V.non,ys.map fun _=>false,0,[]⟩,⟨hx3,htp,htl,?_,htd,(by show 1 <= ys.length; omega),(by show ys.length <= 6; omega),by rw [List.length_map],by rw [List.length_map],by rw [List.length_map],fun i y s e1 e2=>?_,fun v hv=>?_,fun i s e1 _=>?_,(fun d hd=>nomatch hd),Nat.zero_le _⟩,rfl,rfl⟩
  ·show H3 th=some (.tup ((ys.map fun _=>false).map V.bl))
   rw [List.map_map]
   exact hth
  ·rw [List.getElem?_map,show ys[i]? = some y from e1] at e2
   cases e2
   exact Classical.choose_spec (ex y) (List.mem_of_getElem? e1)
  ·obtain ⟨_,_,rfl⟩:=List.mem_map.mp hv
   exact .non
  ·rw [List.getElem?_map] at e1
   cases e:ys[i]? with
   | none=>rw [e] at e1; cases e1
   | some y=>rw [e] at e1; cases e1
 have hmn:(1 + c0 % 6)=(q1.ys.length:Int):=by rw [hy1]; omega
 obtain ⟨ms,ems,ml18⟩:=JX ns
 refine ⟨_,rfl,_,rfl,_,rfl,a,_,rfl,hS3,fun A1 hA1=>?_⟩
 have n4:=aF hA1 (.lst (gJ (ns.map V.int) (some 2) (some 20)))
 have e4:aU H3 A1 (.lst (gJ (ns.map V.int) (some 2) (some 20))) A1=some (.lst (ms.map V.int)):=by rw [aB,ems]
 generalize aU H3 A1 (.lst (gJ (ns.map V.int) (some 2) (some 20)))=H4 at n4 e4 ⊢
 refine ⟨_,rfl,x,A1,ms,q1,congrArg (fun z=>[V.ref x,V.ref A1,V.int z]) hmn,hq1.kt (aN.kt n4),bO.of e4,hd1,ml18,fun x2 q2 H5 s5 h5 y5=>?_⟩
 have hm2:(1 + c0 % 6)=(q2.ys.length:Int):=by rw [y5]; exact hmn
 refine ⟨_,rfl,_,rfl,x2,q2,congrArg (fun z=>[V.ref x2,V.int z]) hm2,h5,fun r r1 r2 r3 r6 tt H6 s6 to6=>?_⟩
 have h6:=h5.kt (aN.kt s6)
 have s36:=n4.trans (s5.trans s6)
 have hS6:=s36.seq hS3
 obtain ⟨ms2,ems2,_⟩:=Ie ns (some 20) (some 60)
 refine ⟨_,rfl,_,rfl,_,rfl,a,_,rfl,hS6,fun A2 hA2=>?_⟩
 have n7:=aF hA2 (.lst (gJ (ns.map V.int) (some 20) (some 60)))
 have e7:aU H6 A2 (.lst (gJ (ns.map V.int) (some 20) (some 60))) A2=some (.lst (ms2.map V.int)):=by rw [aB,ems2]
 generalize aU H6 A2 (.lst (gJ (ns.map V.int) (some 20) (some 60)))=H7 at n7 e7 ⊢
 refine ⟨A2,rfl,⟨_,bO.of e7⟩,?_⟩
 refine lU (xs:=ms2.map V.int) (fun i σ H'=>∃ v5,σ = [some (.ref a),some (.int (1 + c0 % 6)),some (.ref R),some (.ref x2),some (.ref r),v5] /\ aN H7 H') ⟨none,rfl,aN.refl _⟩ (fun i σ H' _ ⟨_,_,s⟩=>bO.of (s _ _ e7)) ?turn ?done
 case turn =>
  rintro i v σ H8 hv ⟨v5,rfl,s8⟩
  obtain ⟨cell,_,rfl⟩:=List.mem_map.mp (List.mem_of_getElem? hv)
  have h8:=h6.kt (aN.kt (n7.trans s8))
  refine ⟨_,rfl,_,rfl,cell,3,rfl,by decide,by decide,fun j j0 j9=>?_⟩
  refine ⟨_,rfl,x2,j,q2,congrArg (fun z=>[V.ref x2,V.int j,V.int z]) hm2,h8,fun a' H9 s9 ha9=>?_⟩
  refine ⟨a',C_NoDeed,0,rfl,ha9,lkD,fun H10 Kz=>?_⟩
  refine ⟨_,rfl,?_⟩
  refine gA ?_
  exact ⟨_,rfl,s8.trans (s9.trans Kz)⟩
 case done =>
 rintro σ H8 ⟨v5,rfl,s8⟩
 have s38:=s36.trans (n7.trans s8)
 refine ⟨_,rfl,a,ns,1,rfl,s38.seq hS3,by decide,fun c1=>?_⟩
 refine ⟨c1,50,rfl,by decide,by decide,fun j j0 j9=>?_⟩
 refine ⟨_,rfl,j,R,ys,rfl,s38 _ _ hR3,by omega,by omega,(fun y hy=>((hsg y hy).kt (aN.kt s3)).kt (aN.kt s38)),fun a' H9 s9 ha9=>?_⟩
 refine ⟨a',C_NoBox,1,rfl,ha9,lkB,fun H10 Kz=>?_⟩
 refine ⟨_,rfl,?_⟩
 refine gA ?_
 have s610:=n7.trans (s8.trans (s9.trans Kz))
 refine ⟨_,rfl,_,rfl,x2,q2,congrArg (fun z=>[V.ref x2,V.int z]) hm2,h6.kt (aN.kt s610),fun u u1 u2 u3 u6 us H11 Ai to11=>?_⟩
 have s611:=s610.trans Ai
 refine ⟨_,rfl,u,r,_,_,rfl,rfl,bO.of to11.hr,bO.of (s611 _ _ to6.hr),rfl,Dm (h6.kt (aN.kt s611)) to11 (HB s611 to6),q H11⟩
end
end K22
namespace L2
open PySem PySem.Spec PyProof.Rows
structure TF (K:PySem.W.Frag) (x:Str) (st:Stmt) (f:Addr) (fd:FuncData):Prop where
 a:PySem.W.nsIn K mainGlobals x=some (some (.ref f))
 F:eN K x x st f fd
structure MF (K:PySem.W.Frag) (C:Addr) (m q:Str) (st:Stmt) (f:Addr) (fd:FuncData):Prop where
 a:PySem.W.findIn K (.ref C) m=some (some (.ref f))
 i:PySem.W.isFn K (.ref f)=true
 F:eN K m q st f fd
structure TD (K:PySem.W.Frag) (x:Str) (st:Stmt) (dT f:Addr) (fd:FuncData):Prop where
 a:PySem.W.nsIn K mainGlobals x=some (some (.ref f))
 F:Ih K dT x x st f fd
def Pq (K:PySem.W.Frag) (l:List Str):Bool:=l.all fun x=>match PySem.W.nsIn K mainGlobals x with | some none=>true | _=>false
def Vt (mg:Str->Option Value):List Str->Prop
 | []=>True
 | x :: r=>mg x=none /\ Vt mg r
section
variable {P:Program}{w:World}{K:PySem.W.Frag}{mg:Str->Option Value}{base h:Heap}{x m q:Str}{st:Stmt}{f C:Addr}{fd:FuncData}{ps:List Str}{sp:Sp}{n:Nat}
theorem Y6 (X:K.In h) (G:h.Ns mainGlobals mg):∀ {l:List Str},Pq K l=true->Vt mg l
 | [],_=>trivial
 | y :: r,e=>by
  have e':((match PySem.W.nsIn K mainGlobals y with | some none=>true | _=>false) && Pq K r)=true:=e
  rw [Bool.and_eq_true] at e'
  refine ⟨PySem.W.mg_none_of X G ?_,Y6 X G e'.2⟩
  have e1:=e'.1
  revert e1
  cases PySem.W.nsIn K mainGlobals y with
  | none=>intro z; cases z
  | some o=>cases o with
   | none=>intro _; rfl
   | some v=>intro z; cases z
theorem MF.mt (T:MF K C m q st f fd):cB K C m f:=⟨T.a,T.i,T.F.kp⟩
theorem TF.cal (T:TF K x st f fd) (X:K.In h) (G:h.Ns mainGlobals mg) (g:aP P w K mg base dM n f fd ps sp) (b:aY K fd ps []):gG P w K mg base n x ps sp f fd:=⟨g,b,T.F.kp,PySem.W.mg_of X G T.a⟩
theorem TF.calX (T:TF K x st f fd) (X:K.In h) (G:h.Ns mainGlobals mg) (g:aP P w K mg base (jJ P w) n f fd ps sp) (b:aY K fd ps []):z7 P w K mg base n x ps sp f fd:=⟨g,b,T.F.kp,PySem.W.mg_of X G T.a⟩
theorem TD.cal {dT:Addr} (T:TD K x st dT f fd) (X:K.In h) (G:h.Ns mainGlobals mg) (g:aP P w K mg base dM n f fd ps sp) (b:aY K fd ps []):gG P w K mg base n x ps sp f fd:=⟨g,b,T.F.kp,PySem.W.mg_of X G T.a⟩
theorem gG.u {m:Nat} (c:gG P w K mg base n x ps sp f fd) (h:n <= m:=by omega):gG P w K mg base m x ps sp f fd:=c.up h
theorem z7.u {m:Nat} (c:z7 P w K mg base n x ps sp f fd) (h:n <= m:=by omega):z7 P w K mg base m x ps sp f fd:=c.up h
theorem aP.u {CX:zT}{m:Nat} (g:aP P w K mg base CX n f fd ps sp) (h:n <= m:=by omega):aP P w K mg base CX m f fd ps sp:=g.mono h
theorem sJ {CX:zT} (_:aP P w K mg base CX n f fd ps sp) (b:aY K fd ps []):aY K fd ps []:=b
abbrev Y5 (x q:Str) (st:Stmt) (us:List Value) (r:List (Str × Value)):Prop:=∀ (kV doc pm:Value) (an:Option Addr) (cdv ct:Value),bindArgs (PySem.W.fnOf x q (iD st) (eZ st) (aK st) .none kV doc pm an cdv ct) ⟨us,[]⟩ = pure r
theorem eN.bd1 {a:Str} (F:eN K x q st f fd) (h:∀ u,Y5 x q st [u] [(a,u)]:=by intros; exact fun _ _ _ _ _ _=>rfl):aY K fd [a] []:=F.binds fun _ _ _ _ _ _ us hl=>match us,hl with | [_],_=>h _ _ _ _ _ _ _
theorem eN.bd2 {a b:Str} (F:eN K x q st f fd) (h:∀ u v,Y5 x q st [u,v] [(a,u),(b,v)]:=by intros; exact fun _ _ _ _ _ _=>rfl):aY K fd [a,b] []:=F.binds fun _ _ _ _ _ _ us hl=>match us,hl with | [_,_],_=>h _ _ _ _ _ _ _ _
theorem eN.bd3 {a b c:Str} (F:eN K x q st f fd) (h:∀ u v y,Y5 x q st [u,v,y] [(a,u),(b,v),(c,y)]:=by intros; exact fun _ _ _ _ _ _=>rfl):aY K fd [a,b,c] []:=F.binds fun _ _ _ _ _ _ us hl=>match us,hl with | [_,_,_],_=>h _ _ _ _ _ _ _ _ _
theorem eN.bd4 {a b c d:Str} (F:eN K x q st f fd) (h:∀ u v y z,Y5 x q st [u,v,y,z] [(a,u),(b,v),(c,y),(d,z)]:=by intros; exact fun _ _ _ _ _ _=>rfl):aY K fd [a,b,c,d] []:=F.binds fun _ _ _ _ _ _ us hl=>match us,hl with | [_,_,_,_],_=>h _ _ _ _ _ _ _ _ _ _
theorem eN.bd5 {a b c d e:Str} (F:eN K x q st f fd) (h:∀ u v y z t,Y5 x q st [u,v,y,z,t] [(a,u),(b,v),(c,y),(d,z),(e,t)]:=by intros; exact fun _ _ _ _ _ _=>rfl):aY K fd [a,b,c,d,e] []:=F.binds fun _ _ _ _ _ _ us hl=>match us,hl with | [_,_,_,_,_],_=>h _ _ _ _ _ _ _ _ _ _ _
theorem Vk {CX:zT}{b:Nat}{sp:Nat->Sp} (z:∀ vs H Q E,¬ sp 0 vs H Q E) (s:∀ d,aP P w K mg base CX (b + d) f fd ps (sp d)->aP P w K mg base CX (b + d + 1) f fd ps (sp (d + 1))):∀ d,aP P w K mg base CX (b + d) f fd ps (sp d)
 | 0=>⟨fun vs H Q E y=>absurd y (z vs H Q E),fun A outer s H args us vs Q E _ _ _ _ y=>absurd y (z vs H Q E)⟩
 | d + 1=>s d (Vk z s d)
end
end L2
namespace K22
open PySem L2 TD PyProof.Rows
theorem QJ {l:W.OpenLaw}{w:World}{K:W.Frag}{h:Heap}{mg:Str->Option Value}{fa cR Pt f1 f2 f3 f4 f5 f6 f7 f8 f9 f10 f11 f12 f13 f14 f15 f16 f17 f18 f19 f20 f21 f22 f23 f24 f25 f26 f27 f28 f29 f30 f31 f32 f33 f34 f35 f36 f37 f38 f39 f40 f41 f42 f43 f44 f45 f46 f47 f48 f49 f50 f51 f52 f53 f54 f55 f56 f57 f58 f59 f60 f61 dT cSt cE cS cC C_LidError C_NoDeed C_NoBox C_NoOffers C_NoPattern C_NoPlan C_NoRanks C_NoRule C_NoSets C_NoTable C_NoText C_TooMany:Addr}{g1 g2 g3 g4 g5 g6 g7 g8 g9 g10 g11 g12 g13 g14 g15 g16 g17 g18 g19 g20 g21 g22 g23 g24 g25 g26 g27 g28 g29 g30 g31 g32 g33 g34 g35 g36 g37 g38 g39 g40 g41 g42 g43 g44 g45 g46 g47 g48 g49 g50 g51 g52 g53 g54 g55 g56 g57 g58 g59 g60 g61:FuncData} (X:K.In h) (G:h.Ns mainGlobals mg) (hfa:mg "law" = some (.ref fa))
  (aC_Stand:W.nsIn K mainGlobals "Stand" = some (some (.ref cSt)))
  (aC_End:W.nsIn K mainGlobals "End" = some (some (.ref cE)))
  (aC_Stage:W.nsIn K mainGlobals "Stage" = some (some (.ref cS)))
  (aC_Case:W.nsIn K mainGlobals "Case" = some (some (.ref cC)))
  (aC_LidError:W.nsIn K mainGlobals "LidError" = some (some (.ref C_LidError)))
  (aC_NoDeed:W.nsIn K mainGlobals "NoDeed" = some (some (.ref C_NoDeed)))
  (aC_NoBox:W.nsIn K mainGlobals "NoBox" = some (some (.ref C_NoBox)))
  (aC_NoOffers:W.nsIn K mainGlobals "NoOffers" = some (some (.ref C_NoOffers)))
  (aC_NoPattern:W.nsIn K mainGlobals "NoPattern" = some (some (.ref C_NoPattern)))
  (aC_NoPlan:W.nsIn K mainGlobals "NoPlan" = some (some (.ref C_NoPlan)))
  (aC_NoRanks:W.nsIn K mainGlobals "NoRanks" = some (some (.ref C_NoRanks)))
  (aC_NoRule:W.nsIn K mainGlobals "NoRule" = some (some (.ref C_NoRule)))
  (aC_NoSets:W.nsIn K mainGlobals "NoSets" = some (some (.ref C_NoSets)))
  (aC_NoTable:W.nsIn K mainGlobals "NoTable" = some (some (.ref C_NoTable)))
  (aC_NoText:W.nsIn K mainGlobals "NoText" = some (some (.ref C_NoText)))
  (aC_TooMany:W.nsIn K mainGlobals "TooMany" = some (some (.ref C_TooMany)))
  (T1:TF K "is_whole" (top 15) f1 g1)
  (T2:TF K "common_divisor" (top 16) f2 g2)
  (T3:TF K "common_multiple" (top 17) f3 g3)
  (T4:TF K "share" (top 18) f4 g4)
  (T5:TF K "whole" (top 19) f5 g5)
  (T6:TF K "below" (top 20) f6 g6)
  (T7:TF K "lesser" (top 21) f7 g7)
  (T8:TF K "rising" (top 25) f8 g8)
  (T9:TF K "in_form" (top 26) f9 g9)
  (T10:TF K "all_weights" (top 27) f10 g10)
  (T11:TF K "capped" (top 30) f11 g11)
  (T12:TF K "mixed" (top 31) f12 g12)
  (T13:TF K "level_for" (top 32) f13 g13)
  (T14:TF K "is_stand" (top 42) f14 g14)
  (T15:TF K "is_stage_row" (top 43) f15 g15)
  (T16:TF K "is_stage_rows" (top 44) f16 g16)
  (T17:TF K "need_boxes" (top 45) f17 g17)
  (T18:TF K "with_thing" (top 47) f18 g18)
  (T19:TF K "_law_cell_at" (top 50) f19 g19)
  (T20:TF K "_law_mixed" (top 51) f20 g20)
  (T21:TF K "_law_left" (top 52) f21 g21)
  (T22:TF K "_law_draw" (top 53) f22 g22)
  (T23:TF K "_law_ends" (top 54) f23 g23)
  (T24:L2.TD K "_law_model" (top 55) dT f24 g24)
  (T25:TF K "_law_object" (top 56) f25 g25)
  (T26:TF K "_law_models" (top 57) f26 g26)
  (T27:TF K "_law_boxes" (top 58) f27 g27)
  (T28:TF K "_law_odd" (top 59) f28 g28)
  (T29:TF K "_law_lone" (top 60) f29 g29)
  (T30:TF K "_law_caught" (top 61) f30 g30)
  (T31:TF K "_law_wrong" (top 62) f31 g31)
  (T32:TF K "_law_done" (top 63) f32 g32)
  (T33:TF K "_law_told" (top 64) f33 g33)
  (T34:TF K "_law_no_boxes" (top 65) f34 g34)
  (T35:TF K "law" (top 66) f35 g35)
  (T36:MF K cSt "__init__" "Stand.__init__" (aD (top 39) 0) f36 g36)
  (T37:MF K cSt "ends" "Stand.ends" (aD (top 39) 1) f37 g37)
  (T38:MF K cSt "stages" "Stand.stages" (aD (top 39) 2) f38 g38)
  (T39:MF K cSt "reserve" "Stand.reserve" (aD (top 39) 3) f39 g39)
  (T40:MF K cSt "caps" "Stand.caps" (aD (top 39) 4) f40 g40)
  (T41:MF K cE "__init__" "End.__init__" (aD (top 40) 0) f41 g41)
  (T42:MF K cE "is_end" "End.is_end" (aD (top 40) 1) f42 g42)
  (T43:MF K cE "told" "End.told" (aD (top 40) 4) f43 g43)
  (T44:MF K cS "__init__" "Stage.__init__" (aD (top 41) 0) f44 g44)
  (T45:MF K cS "is_end" "Stage.is_end" (aD (top 41) 1) f45 g45)
  (T46:MF K cS "after" "Stage.after" (aD (top 41) 3) f46 g46)
  (T47:MF K cS "told" "Stage.told" (aD (top 41) 6) f47 g47)
  (T48:MF K cC "__init__" "Case.__init__" (aD (top 48) 0) f48 g48)
  (T49:MF K cC "how_many" "Case.how_many" (aD (top 48) 1) f49 g49)
  (T50:MF K cC "need_box" "Case.need_box" (aD (top 48) 2) f50 g50)
  (T51:MF K cC "stand" "Case.stand" (aD (top 48) 3) f51 g51)
  (T52:MF K cC "cap" "Case.cap" (aD (top 48) 4) f52 g52)
  (T53:MF K cC "kept" "Case.kept" (aD (top 48) 5) f53 g53)
  (T54:MF K cC "paid" "Case.paid" (aD (top 48) 6) f54 g54)
  (T55:MF K cC "had" "Case.had" (aD (top 48) 7) f55 g55)
  (T56:MF K cC "deeds" "Case.deeds" (aD (top 48) 8) f56 g56)
  (T57:MF K cC "caps" "Case.caps" (aD (top 48) 9) f57 g57)
  (T58:MF K cC "debt" "Case.debt" (aD (top 48) 10) f58 g58)
  (T59:MF K cC "behind" "Case.behind" (aD (top 48) 12) f59 g59)
  (T60:MF K cC "opened" "Case.opened" (aD (top 48) 13) f60 g60)
  (T61:MF K cC "taken" "Case.taken" (aD (top 48) 14) f61 g61)
  (ck:CK K ⟨cE,cS⟩)
  (ct:CT K ⟨cE,cS⟩)
  (mkE:W.makesIn K cE=true)
  (kcE:W.keepIn K (.ref cE)=true)
  (vE_ends:W.findIn K (.ref cE) "ends" = some (some (.ref f37)))
  (vE_stages:W.findIn K (.ref cE) "stages" = some (some (.ref f38)))
  (vE_reserve:W.findIn K (.ref cE) "reserve" = some (some (.ref f39)))
  (vE_caps:W.findIn K (.ref cE) "caps" = some (some (.ref f40)))
  (mkS:W.makesIn K cS=true)
  (kcS:W.keepIn K (.ref cS)=true)
  (vS_ends:W.findIn K (.ref cS) "ends" = some (some (.ref f37)))
  (vS_stages:W.findIn K (.ref cS) "stages" = some (some (.ref f38)))
  (vS_reserve:W.findIn K (.ref cS) "reserve" = some (some (.ref f39)))
  (vS_caps:W.findIn K (.ref cS) "caps" = some (some (.ref f40)))
  (mS_i:M5 K cSt "__init__" f36)
  (xclD:rZ K C_NoDeed)
  (exD:W.exmOne K (.ref C_NoDeed) (.ref C_LidError)=some true)
  (lkD:rD K C_NoDeed [C_NoDeed,C_NoBox,C_NoOffers,C_NoPattern,C_NoPlan,C_NoRanks,C_NoRule,C_NoSets,C_NoTable,C_NoText,C_TooMany] 0)
  (xclB:rZ K C_NoBox)
  (exB:W.exmOne K (.ref C_NoBox) (.ref C_LidError)=some true)
  (lkB:rD K C_NoBox [C_NoDeed,C_NoBox,C_NoOffers,C_NoPattern,C_NoPlan,C_NoRanks,C_NoRule,C_NoSets,C_NoTable,C_NoText,C_TooMany] 1)
  (cn:CN K ⟨cE,cS⟩)
  (ca:wD K ⟨cE,cS⟩ cC)
  (mkC:W.makesIn K cC=true)
  (kcC:W.keepIn K (.ref cC)=true)
  (y_:Pq K ["ValueError","abs","all","bool","int","isinstance","len","list","max","min","range","reversed","sorted","str","sum","tuple"]=true)
  {tk_MOST_WEIGHT:Tok} (yg_MOST_WEIGHT:W.nsIn K mainGlobals "MOST_WEIGHT" = some (some (.int 1000 tk_MOST_WEIGHT)))
  {tk_MOST_STAGE_ROWS:Tok} (yg_MOST_STAGE_ROWS:W.nsIn K mainGlobals "MOST_STAGE_ROWS" = some (some (.int 4 tk_MOST_STAGE_ROWS)))
  {tk_MOST_BOXES:Tok} (yg_MOST_BOXES:W.nsIn K mainGlobals "MOST_BOXES" = some (some (.int 6 tk_MOST_BOXES)))
  {tk_MOST_WORTH:Tok} (yg_MOST_WORTH:W.nsIn K mainGlobals "MOST_WORTH" = some (some (.int 1000000000 tk_MOST_WORTH)))
  {tk_MOST_STAGES:Tok} (yg_MOST_STAGES:W.nsIn K mainGlobals "MOST_STAGES" = some (some (.int 4 tk_MOST_STAGES)))
  {tk_MOST_ENDS:Tok} (yg_MOST_ENDS:W.nsIn K mainGlobals "MOST_ENDS" = some (some (.int 12 tk_MOST_ENDS)))
  {tk_MOST_PRICE:Tok} (yg_MOST_PRICE:W.nsIn K mainGlobals "MOST_PRICE" = some (some (.int 1000000000 tk_MOST_PRICE)))
  {tk0 tk12:Tok}{dn:Nat}{dsl:Array (Option Value)}{ddd:Option Addr} (ldT:K.lookup dT=some ⟨.type "tuple",ddd,.seq #[.int 0 tk0,.int 12 tk12] dn,dsl⟩)
  (gcR:g8.code = .ref cR)
  (tb:W.tabIn K "rising" = some (cR,Pt)) (ch:W.codeHdIn K cR Pt=true) (np:K.lookup Pt=none)
  : ∃ (fd:FuncData) (c P:Addr),(∀ (s:Shared) (v:Value),BindsTo s fd ⟨[v],[]⟩ [("_law_script",v)]) /\ W.tabIn K "rising" = some (c,P) /\ W.codeHdIn K c P=true /\ K.lookup P=none /\ ∀ base:Heap,K.In base->base.Ns mainGlobals mg->W.CodeHd base c P->base.BuiltinsAt mg P->aP l.prog w K mg base dM 15 fa fd ["_law_script"] (sV K P iJ):=by
 obtain ⟨c,rfl,rfl⟩ : ∃ c:Cs,c.e=cE /\ c.s=cS:=⟨⟨cE,cS⟩,rfl,rfl⟩
 replace ck:CK K c:=ck
 replace ct:CT K c:=ct
 replace cn:CN K c:=cn
 replace ca:wD K c cC:=ca
 have xcl:=xclB
 cases hfa.symm.trans (W.mg_of X G T35.a)
 have ⟨z_ValueError,z_abs,z_all,z_bool,z_int,z_isinstance,z_len,z_list,z_max,z_min,z_range,z_reversed,z_sorted,z_str,z_sum,z_tuple,_⟩:=Y6 X G y_
 have g_Stand:=W.mg_of X G aC_Stand
 have g_End:=W.mg_of X G aC_End
 have g_Stage:=W.mg_of X G aC_Stage
 have g_Case:=W.mg_of X G aC_Case
 have g_LidError:=W.mg_of X G aC_LidError
 have g_NoDeed:=W.mg_of X G aC_NoDeed
 have g_NoBox:=W.mg_of X G aC_NoBox
 have g_NoOffers:=W.mg_of X G aC_NoOffers
 have g_NoPattern:=W.mg_of X G aC_NoPattern
 have g_NoPlan:=W.mg_of X G aC_NoPlan
 have g_NoRanks:=W.mg_of X G aC_NoRanks
 have g_NoRule:=W.mg_of X G aC_NoRule
 have g_NoSets:=W.mg_of X G aC_NoSets
 have g_NoTable:=W.mg_of X G aC_NoTable
 have g_NoText:=W.mg_of X G aC_NoText
 have g_TooMany:=W.mg_of X G aC_TooMany
 have g_MOST_WEIGHT:=W.mg_of X G yg_MOST_WEIGHT
 have r_MOST_WEIGHT:bG (.int 1000) (.int 1000 tk_MOST_WEIGHT):=⟨_,rfl⟩
 have g_MOST_STAGE_ROWS:=W.mg_of X G yg_MOST_STAGE_ROWS
 have r_MOST_STAGE_ROWS:bG (.int 4) (.int 4 tk_MOST_STAGE_ROWS):=⟨_,rfl⟩
 have g_MOST_BOXES:=W.mg_of X G yg_MOST_BOXES
 have r_MOST_BOXES:bG (.int 6) (.int 6 tk_MOST_BOXES):=⟨_,rfl⟩
 have g_MOST_WORTH:=W.mg_of X G yg_MOST_WORTH
 have r_MOST_WORTH:bG (.int 1000000000) (.int 1000000000 tk_MOST_WORTH):=⟨_,rfl⟩
 have g_MOST_STAGES:=W.mg_of X G yg_MOST_STAGES
 have r_MOST_STAGES:bG (.int 4) (.int 4 tk_MOST_STAGES):=⟨_,rfl⟩
 have g_MOST_ENDS:=W.mg_of X G yg_MOST_ENDS
 have r_MOST_ENDS:bG (.int 12) (.int 12 tk_MOST_ENDS):=⟨_,rfl⟩
 have g_MOST_PRICE:=W.mg_of X G yg_MOST_PRICE
 have r_MOST_PRICE:bG (.int 1000000000) (.int 1000000000 tk_MOST_PRICE):=⟨_,rfl⟩
 refine ⟨g35,cR,Pt,fun s v=>?_,tb,ch,np,fun base _ _ hC hB=>?_⟩
 ·obtain ⟨_,_,_,_,_,_,_,_,_,rfl,_⟩:=T35.F.ex
  exact .of_eq rfl
 have R {CX n f g ps sp} (z:aP l.prog w K mg base CX n f g ps sp):=z
 have ME:Mk K c.e f41:=⟨mkE,T41.a,T41.i,kcE⟩
 have MS:Mk K c.s f44:=⟨mkS,T44.a,T44.i,kcS⟩
 have mE_ends:cB K c.e "ends" f37:=⟨vE_ends,T37.i,T37.F.kp⟩
 have mS_ends:cB K c.s "ends" f37:=⟨vS_ends,T37.i,T37.F.kp⟩
 have mE_stages:cB K c.e "stages" f38:=⟨vE_stages,T38.i,T38.F.kp⟩
 have mS_stages:cB K c.s "stages" f38:=⟨vS_stages,T38.i,T38.F.kp⟩
 have mE_reserve:cB K c.e "reserve" f39:=⟨vE_reserve,T39.i,T39.F.kp⟩
 have mS_reserve:cB K c.s "reserve" f39:=⟨vS_reserve,T39.i,T39.F.kp⟩
 have mE_caps:cB K c.e "caps" f40:=⟨vE_caps,T40.i,T40.F.kp⟩
 have mS_caps:cB K c.s "caps" f40:=⟨vS_caps,T40.i,T40.F.kp⟩
 have mt42:=T42.mt
 have mt43:=T43.mt
 have mt45:=T45.mt
 have mt46:=T46.mt
 have mt47:=T47.mt
 have mt49:=T49.mt
 have mt50:=T50.mt
 have mt51:=T51.mt
 have mt52:=T52.mt
 have mt53:=T53.mt
 have mt54:=T54.mt
 have mt55:=T55.mt
 have mt56:=T56.mt
 have mt57:=T57.mt
 have mt58:=T58.mt
 have mt59:=T59.mt
 have mt60:=T60.mt
 have mt61:=T61.mt
 have MCa:Mk K cC f48:=⟨mkC,T48.a,T48.i,kcC⟩
 have bAll:∀ (s:Shared) (us:List Value),K.In s.heap->∀ (bs:List (Str × Value)),(∃ a,us=[a] /\ bs=[(("_law_left_here" : Str),a),(("_law_level" : Str),Value.int 0 tk0),(("_law_most" : Str),Value.int 12 tk12)]) ∨ (∃ a b c,us=[a,b,c] /\ bs=[(("_law_left_here" : Str),a),(("_law_level" : Str),b),(("_law_most" : Str),c)])->BindsTo s g24 ⟨us,[]⟩ bs:=fun s us X bs hb=>by
  obtain ⟨_,_,_,_,_,_,_,_,_,rfl,_⟩:=T24.F.ex
  rcases hb with ⟨a,rfl,rfl⟩ | ⟨a,b,c,rfl,rfl⟩ <;> exact BindsTo.of_defaults rfl (X _ _ ldT) rfl rfl rfl
 have b24:aY K g24 ["_law_left_here","_law_level","_law_most"] []:=fun s us X hl=>by
  have hl':us.length=3:=by simpa using hl
  match us,hl' with
  | [a,b,c],_=>exact bAll s _ X _ (.inr ⟨a,b,c,rfl,rfl⟩)
 have bD:aY K g24 ["_law_left_here","_law_level","_law_most"] [.int 0 tk0,.int 12 tk12]:=fun s us X hl=>by
  have hl':us.length=1:=by simp at hl; omega
  match us,hl' with
  | [a],_=>exact bAll s _ X _ (.inl ⟨a,rfl,rfl⟩)
 have v_md:bI [V.int 0,V.int 12] [Value.int 0 tk0,Value.int 12 tk12]:=.cons ⟨_,rfl⟩ (.cons ⟨_,rfl⟩ .nil)
 have G1:=R (Cw (n:=0) T1.F z_isinstance z_bool z_int)
 have C1:=T1.cal X G G1 T1.F.bd3
 have G2:=R (pJ (n:=0) T2.F z_abs)
 have C2:=T2.cal X G G2 T2.F.bd2
 have G3:=R (oX (n:=1) T3.F C2.u)
 have C3:=T3.cal X G G3 T3.F.bd1
 have G4:=R (J0 (n:=1) T4.F C2.u)
 have C4:=T4.cal X G G4 T4.F.bd2
 have G5:=R (Iz (n:=0) T5.F )
 have C5:=T5.cal X G G5 T5.F.bd1
 have G6:=R (Im (n:=0) T6.F )
 have C6:=T6.cal X G G6 T6.F.bd2
 have G7:=R (Hv (n:=1) T7.F C6.u)
 have C7:=T7.cal X G G7 T7.F.bd2
 have G8:=R (Hf (n:=0) T8.F gcR hC hB z_sorted z_max)
 have C8:=T8.cal X G G8 T8.F.bd1
 have G9:=R (Eo (n:=1) T9.F C8.u C2.u z_list)
 have C9:=T9.cal X G G9 T9.F.bd1
 have G10:=R (uI (n:=0) T10.F z_sum)
 have C10:=T10.cal X G G10 T10.F.bd1
 have G11:=R (Gx (n:=2) T11.F C9.u C7.u)
 have C11:=T11.cal X G G11 T11.F.bd2
 have G12:=R (K8 (n:=2) T12.F C9.u C10.u C3.u)
 have C12:=T12.cal X G G12 T12.F.bd1
 have G13:=R (yJ (n:=2) T13.F C4.u C10.u C3.u z_reversed)
 have C13:=T13.cal X G G13 T13.F.bd2
 have G14:=R (BR (n:=0) T14.F ck ct cn g_End g_Stage z_isinstance)
 have C14:=T14.cal X G G14 T14.F.bd1
 have G15:=R (sG (n:=1) T15.F (c:=c) C14.u C1.u z_len z_isinstance z_tuple g_MOST_WEIGHT r_MOST_WEIGHT)
 have C15:=T15.cal X G G15 T15.F.bd1
 have G16:=R (qU (n:=2) T16.F (c:=c) C15.u z_all z_len z_isinstance z_list g_MOST_STAGE_ROWS r_MOST_STAGE_ROWS)
 have C16:=T16.cal X G G16 T16.F.bd1
 have G17:=R (wG (n:=1) T17.F (c:=c) g_NoBox xcl C14.u z_all z_len z_isinstance z_list g_MOST_BOXES r_MOST_BOXES)
 have C17:=T17.calX X G G17 T17.F.bd1
 have G18:=R (vR (n:=0) T18.F )
 have C18:=T18.cal X G G18 T18.F.bd3
 have G19:=R (sI (n:=0) T19.F z_len)
 have C19:=T19.cal X G G19 T19.F.bd2
 have G20:=R (wC (n:=0) T20.F )
 have C20:=T20.cal X G G20 T20.F.bd2
 have G21:=R (zV (n:=1) T21.F C19.u)
 have C21:=T21.cal X G G21 T21.F.bd2
 have G22:=R (yS (n:=1) T22.F C20.u)
 have C22:=T22.cal X G G22 T22.F.bd2
 have b23:aY K g23 ["_law_stand"] []:=T23.F.bd1
 have G23:=Vk (b:=1) (sp:=Ls) (fun vs H Q E ⟨_,_,_,_,_,_,_,h,_⟩=>absurd h (Nat.not_lt_zero _)) (fun d z=>R (zN (n:=1 + d) T23.F (T23.cal X G z b23) z_sum)) 6
 have C23:=T23.cal X G G23 b23
 have G24:=Vk (b:=8) (sp:=Ly) (fun vs H Q E ⟨_,_,_,_,_,_,_,_,_,_,h,_⟩=>absurd h (Nat.not_lt_zero _)) (fun d z=>R (vK (n:=8 + d) T24.F (T24.cal X G z b24) C23.u C22.u z_tuple z_range z_sum z_min z_int)) 5
 have C24:=T24.cal X G G24 b24
 have G36:=R (pG (n:=0) T36.F ck z_tuple)
 have b36:=sJ G36 T36.F.bd5
 have G41:=R (sE (n:=1) T41.F ck g_Stand mS_i G36.u b36 g_NoBox xcl C5.u C1.u g_MOST_WORTH r_MOST_WORTH)
 have b41:=sJ G41 T41.F.bd2
 have G37:=R (vN (n:=0) T37.F ck)
 have b37:=sJ G37 T37.F.bd1
 have G38:=R (sU (n:=0) T38.F ck)
 have b38:=sJ G38 T38.F.bd1
 have G40:=R (vO (n:=0) T40.F ck z_list)
 have b40:=sJ G40 T40.F.bd1
 have G44:=R (pU (n:=3) T44.F ck g_Stand mS_i G36.u b36 ck.ce ck.cs mE_ends mS_ends G37.u b37 mE_stages mS_stages G38.u b38 mE_caps mS_caps G40.u b40 g_NoBox xcl C11.u C13.u C12.u C16.u C1.u z_tuple z_max z_sum g_MOST_STAGES r_MOST_STAGES g_MOST_ENDS r_MOST_ENDS g_MOST_PRICE r_MOST_PRICE)
 have b44:=sJ G44 T44.F.bd3
 have b25:aY K g25 ["_law_model_here"] []:=T25.F.bd1
 have G25:=Vk (b:=6) (sp:=LK c Pt iJ) (fun vs H Q E ⟨_,_,_,_,_,_,_,h,_⟩=>absurd h (Nat.not_lt_zero _)) (fun d z=>R (uV (n:=6 + d) T25.F ME G41 b41 g_End (by omega) MS G44 b44 g_Stage (by omega) (T25.cal X G z b25))) 5
 have C25:=T25.cal X G G25 b25
 have G26:=R (uM (n:=13) T26.F v_md C19.u C24.u C21.u bD z_range)
 have C26:=T26.cal X G G26 T26.F.bd2
 have G27:=R (vJ (n:=11) T27.F (c:=c) C25.u z_range z_len)
 have C27:=T27.cal X G G27 T27.F.bd1
 have G28:=R (Az (n:=0) T28.F z_str)
 have C28:=T28.cal X G G28 T28.F.bd2
 have G29:=R (zF (n:=0) T29.F g_NoDeed g_NoBox g_NoOffers g_NoPattern g_NoPlan g_NoRanks g_NoRule g_NoSets g_NoTable g_NoText g_TooMany z_isinstance z_range z_ValueError)
 have C29:=T29.cal X G G29 T29.F.bd2
 have G49:=R (qT (n:=0) T49.F ca z_len)
 have b49:=sJ G49 T49.F.bd1
 have G50:=R (q9 (n:=1) T50.F ca g_NoDeed xclD mt49 G49.u b49 C1.u)
 have b50:=sJ G50 T50.F.bd2
 have G51:=R (wI (n:=2) T51.F ca mt50 G50.u b50)
 have b51:=sJ G51 T51.F.bd2
 have G52:=R (Ba (n:=2) T52.F ca mt50 G50.u b50)
 have b52:=sJ G52 T52.F.bd2
 have G57:=R (Ag (n:=3) T57.F ca mt51 G51.u b51 ck.ce mE_caps G40.u b40)
 have b57:=sJ G57 T57.F.bd2
 have G58:=R (zB (n:=3) T58.F ca mt52 G52.u b52)
 have b58:=sJ G58 T58.F.bd2
 have G42:=R (vQ (n:=0) T42.F (c:=c))
 have b42:=sJ G42 T42.F.bd1
 have G45:=R (rY (n:=0) T45.F (c:=c))
 have b45:=sJ G45 T45.F.bd1
 have G48:=R (qO (n:=2) T48.F ca g_NoBox xcl C17.u z_tuple)
 have b48:=sJ G48 T48.F.bd2
 have G59:=R (uG (n:=4) T59.F ca MCa G48 b48 g_Case (by omega) z_list)
 have b59:=sJ G59 T59.F.bd2
 have G61:=R (vL (n:=5) T61.F ca ck g_NoDeed xclD mt51 G51.u b51 mt42 G42.u b42 mt45 G45.u b45 mt59 G59.u b59 C18.u)
 have b61:=sJ G61 T61.F.bd2
 have G39:=R (q8 (n:=0) T39.F ck)
 have b39:=sJ G39 T39.F.bd1
 have G46:=R (uQ (n:=0) T46.F ck)
 have b46:=sJ G46 T46.F.bd2
 have G60:=R (tO (n:=5) T60.F ca ck g_NoDeed xclD mt51 G51.u b51 mt52 G52.u b52 mt42 G42.u b42 mt45 G45.u b45 mS_reserve G39.u b39 mt46 G46.u b46 mt59 G59.u b59 C18.u C7.u C1.u z_len)
 have b60:=sJ G60 T60.F.bd3
 have G30:=R (uJ (n:=6) T30.F ca ck mt51 G51.u b51 mt52 G52.u b52 mt57 G57.u b57 mt58 G58.u b58 mt61 G61.u b61 mt60 G60.u b60 g_LidError exD)
 have C30:=T30.cal X G G30 T30.F.bd4
 have G53:=R (zM (n:=1) T53.F ca mt49 G49.u b49 z_range)
 have b53:=sJ G53 T53.F.bd1
 have G31:=R (wJ (n:=7) T31.F ca ck mt51 G51.u b51 mt42 G42.u b42 mt45 G45.u b45 mt53 G53.u b53 C30.u C28.u z_len)
 have C31:=T31.cal X G G31 T31.F.bd3
 have G32:=R (z6 (n:=6) T32.F ca ck mt51 G51.u b51 mt42 G42.u b42 mt45 G45.u b45 mt60 G60.u b60 mt53 G53.u b53 mt61 G61.u b61 z_len)
 have C32:=T32.cal X G G32 T32.F.bd3
 have G43:=R (Bx (n:=0) T43.F ck)
 have b43:=sJ G43 T43.F.bd1
 have b47:aY K g47 ["self"] []:=T47.F.bd1
 have G47:=Vk (b:=2) (sp:=JG c) (fun vs H Q E ⟨_,_,_,_,_,_,_,h,_⟩=>absurd h (Nat.not_lt_zero _)) (fun d z=>R (vV (n:=2 + d) T47.F ck ck.ce ck.cs mt43 G43.u b43 mt47 z b47 z_tuple)) 5
 have G54:=R (yZ (n:=0) T54.F ca)
 have b54:=sJ G54 T54.F.bd1
 have G55:=R (Cy (n:=2) T55.F ca ck mt53 G53.u b53 z_sum)
 have b55:=sJ G55 T55.F.bd1
 have G56:=R (wF (n:=0) T56.F ca z_list)
 have b56:=sJ G56 T56.F.bd1
 have G33:=R (yM (n:=7) T33.F ca ck (C_NoDeed:=C_NoDeed) mt51 G51.u b51 mt52 G52.u b52 mt43 G43.u b43 mt47 G47.u b47 mt53 G53.u b53 mt54 G54.u b54 mt55 G55.u b55 mt56 G56.u b56 z_range)
 have C33:=T33.cal X G G33 T33.F.bd2
 have G34:=R (qN (n:=4) T34.F MCa G48 b48 g_Case (by omega) g_LidError exB z_tuple)
 have C34:=T34.cal X G G34 T34.F.bd2
 exact Oj (n:=14) T35.F ca ck lkD lkB MCa G48 b48 g_Case (by omega) C33.u C29.u C34.u C20.u C19.u C31.u C32.u C27.u C26.u
theorem aB2 {l:W.OpenLaw}{q:Program}{loose:List Str}{XP:(Str->Option Value)->Heap->Prop}{YP:World->Heap->Prop}{d d0:DefRec}{K:Params->W.Frag} (hn:l.most=some 63) (hdf:d.params.defaults=[])
  (h0:(recsOf q).find? (fun e=>e.name == ("rising" : Str))=some d0)
  (hY:∀ (w:World) (h:Heap),YP w h->(K w.params).In h)
  (F:∀ (w:World) (mg:Str->Option Value) (fa:Addr) (h:Heap),(K w.params).In h->h.Ns mainGlobals mg->mg d.name=some (.ref fa) ->
   ∃ (fd:FuncData) (c P:Addr),(∀ (s:Shared) (u:Value),BindsTo s fd ⟨[u],[]⟩ [("_law_script",u)]) /\ W.tabIn (K w.params) "rising" = some (c,P) /\ W.codeHdIn (K w.params) c P=true /\ (K w.params).lookup P=none /\ ∀ base:Heap,(K w.params).In base->base.Ns mainGlobals mg->W.CodeHd base c P->base.BuiltinsAt mg P->aP l.prog w (K w.params) mg base dM 15 fa fd ["_law_script"] (sV (K w.params) P iJ)) :
  W.WalkO q loose XP YP l.row.toRowW d [] (fun f vs=>PySem.call f vs) :=
 L2.Jf (n:=63) (k:=15) (x:="_law_script") (x0:="rising") (CX:=fun _=>dM) (sp:=fun w P=>sV (K w.params) P iJ) hn (by decide) hdf ⟨rfl,by decide,by decide⟩ h0 hY F (fun _ _ a P ns hl hP hS=>⟨a,ns,rfl,hS,hl,hP,fun _=>rfl⟩) fun _ _ _ _ _ z=>z
noncomputable section
abbrev OO:=Params->Obj
def E (P:Params) (x:Str) (t:Tok) (v:Value):DictEntry:=⟨PyData.keyHash P x,.str x t,v⟩
abbrev fnO (n q:Str) (st:Stmt) (dV kV doc pm:Value) (an:Option Addr) (cdv ct:Value):FuncData:=W.fnOf n q (iD st) (eZ st) (aK st) dV kV doc pm an cdv ct
def fnT (n q:Str) (st:Stmt):FuncData:={ name:=n,qualname:=q,params:=iD st,body:=.stmts (eZ st),scope:=aK st,globals:=0,closure:=[],defaults:=.none,kwdefaults:=.none }
def s0  : Obj:=⟨(.type "tuple"),none,(.seq #[] 0),#[]⟩
def s1  : Obj:=⟨.none,none,(.fields #[]),#[]⟩
def s2 (x0:Str) (x1:Nat) (x3:Nat) (x5:Nat) (x6:Int) (x16:Nat) (x19:Nat) (x20:Int) (x25:Nat):Obj:=⟨(.type "code"),none,(.fields #[(.str x0 x1),(.str x0 x3),(.str "/claim/cut.py" x5),(.int x6 0),(.int 0 0),(.int 0 0),(.int 0 0),(.int 0 0),(.ref x16),(.bool false),(.int 181 0),(.ref x19),.none,.none,.none,.none,(.int x20 0),(.int x6 0),(.str "/claim/cut.py" x25)]),#[]⟩
def s3 (x0:Nat) (x2:Nat) (x3:Str) (x4:Nat):Obj:=⟨(.type "frame"),none,.plain,#[(some (.ref x0)),(some (.ref 3)),(some (.ref x2)),none,(some (.str x3 x4)),none,(some (.ref 0))]⟩
def s4 (x0:Str) (x1:Nat):Obj:=⟨(.type "tuple"),none,(.seq #[(.str x0 x1)] 0),#[]⟩
def s5 (x0:Str) (x1:Str) (x2:Stmt):Obj:=⟨.none,none,(.func (fnT x0 x1 x2)),#[]⟩
def s6 (x0:Str) (x1:Nat) (x2:Str) (x3:Nat) (x5:Nat) (x6:Int) (x8:Int) (x16:Nat) (x19:Nat) (x20:Nat) (x21:Nat) (x22:Nat) (x23:Int) (x28:Nat):Obj:=⟨(.type "code"),none,(.fields #[(.str x0 x1),(.str x2 x3),(.str "/claim/cut.py" x5),(.int x6 0),(.int x8 0),(.int 0 0),(.int 0 0),(.int 3 0),(.ref x16),(.bool true),(.int 181 0),(.ref x19),.none,(.ref x20),(.ref x21),(.ref x22),(.int x23 0),(.int x6 0),(.str "/claim/cut.py" x28)]),#[]⟩
def s7 (x0:Str) (x1:Str) (x2:Stmt) (x3:Str) (x4:Nat) (x5:Nat):Obj:=⟨(.type "function"),none,(.func (fnO x0 x1 x2 .none .none .none (.str x3 x4) none (.ref x5) .none)),#[]⟩
def s8  : Obj:=⟨(.type "builtin_function_or_method"),none,(.fields #[(.builtin "type.__prepare__"),(.type "type")]),#[]⟩
def s9 (P:Params) (x1:Nat) (x5:Nat) (x6:Str) (x7:Nat) (x9:Nat) (x10:Int) (x11:Nat) (x13:Nat) (x14:Nat):Obj:=⟨(.type "dict"),none,(.dict #[E P "__module__" x1 (.str "lidprice.errors" 194),E P "__qualname__" x5 (.str x6 x7),E P "__firstlineno__" x9 (.int x10 x11),E P "__static_attributes__" x13 (.ref x14)] 4),#[]⟩
def Kz (P:Params) (x1:Nat) (x5:Nat) (x6:Int) (x7:Nat) (x8:Str) (x9:Nat) (x10:Nat) (x11:Str) (x12:Nat) (x13:Nat) (x15:Nat) (x16:Nat):Obj:=⟨(.type "dict"),none,(.dict #[E P "__module__" x1 (.str "lidprice.errors" 194),E P "__firstlineno__" x5 (.int x6 x7),E P x8 x9 (.ref x10),E P x11 x12 (.ref x13),E P "__doc__" x15 .none] x16),#[]⟩
def Ai (x0:Nat):Obj:=⟨(.type "super"),none,(.fields #[(.ref x0),(.ref x0),(.ref x0)]),#[]⟩
def nH (x0:Nat):Obj:=⟨(.type "builtin_function_or_method"),none,(.fields #[(.builtin "object.__init_subclass__"),(.ref x0)]),#[]⟩
def zG (x0:Nat):Obj:=⟨(.type "tuple"),none,(.seq #[(.ref x0)] 0),#[]⟩
def N5 (P:Params) (x1:Nat) (x5:Nat) (x6:Int) (x7:Nat) (x9:Nat) (x10:Nat) (x12:Nat):Obj:=⟨(.type "dict"),none,(.dict #[E P "__module__" x1 (.str "lidprice.errors" 194),E P "__firstlineno__" x5 (.int x6 x7),E P "__static_attributes__" x9 (.ref x10),E P "__doc__" x12 .none] 2),#[]⟩
def KJ (x0:Str) (x2:Nat) (x4:Nat) (x6:Nat) (x8:Nat) (x10:Nat):Obj:=⟨(.type "type"),none,(.cls ⟨x0,[(.ref 31)],[(.ref x2),(.ref 31),(.type "ValueError"),(.type "Exception"),(.type "BaseException"),(.type "object")],x4,x0,true,[],[],false,none,false⟩),#[(some (.ref x6)),none,(some (.str x0 x8)),(some (.str x0 x10)),(some (.builtin "ValueError.__new__")),(some (.bool true))]⟩
def EY (x0:Str) (x1:Nat) (x2:Str) (x3:Nat) (x4:Str) (x5:Nat):Obj:=⟨(.type "tuple"),none,(.seq #[(.str x0 x1),(.str x2 x3),(.str x4 x5)] 0),#[]⟩
def DG (x0:Str) (x1:Nat) (x2:Str) (x3:Nat):Obj:=⟨(.type "tuple"),none,(.seq #[(.str x0 x1),(.str x2 x3)] 0),#[]⟩
def vM (x0:Str) (x1:Nat) (x2:Str) (x3:Nat) (x5:Nat) (x6:Int) (x8:Int) (x16:Nat) (x19:Nat) (x20:Nat) (x21:Int) (x26:Nat):Obj:=⟨(.type "code"),none,(.fields #[(.str x0 x1),(.str x2 x3),(.str "/claim/cut.py" x5),(.int x6 0),(.int x8 0),(.int 0 0),(.int 0 0),(.int 3 0),(.ref x16),(.bool true),(.int 181 0),(.ref x19),.none,.none,.none,(.ref x20),(.int x21 0),(.int x6 0),(.str "/claim/cut.py" x26)]),#[]⟩
def ZP (x0:Str) (x1:Nat) (x2:Str) (x3:Nat) (x4:Str) (x5:Nat) (x6:Str) (x7:Nat) (x8:Str) (x9:Nat):Obj:=⟨(.type "tuple"),none,(.seq #[(.str x0 x1),(.str x2 x3),(.str x4 x5),(.str x6 x7),(.str x8 x9)] 0),#[]⟩
def ZQ (x0:Str) (x1:Nat) (x2:Str) (x3:Nat) (x4:Str) (x5:Nat) (x6:Str) (x7:Nat):Obj:=⟨(.type "tuple"),none,(.seq #[(.str x0 x1),(.str x2 x3),(.str x4 x5),(.str x6 x7)] 0),#[]⟩
def o13:OO:=fun _=>s2 "<module>" 182 183 184 1 11 12 185 186
def o14:OO:=fun _=>s3 13 3 "__main__" 164
def o3:OO:=fun P=>⟨(.type "dict"),none,(.dict #[E P "__name__" 165 (.str "lidprice.errors" 194),E P "__doc__" 166 .none,E P "__package__" 167 .none,E P "__loader__" 168 (.builtin "__main__.__loader__#opaque"),E P "__spec__" 169 .none,E P "__annotations__" 170 (.ref 6),E P "__builtins__" 171 (.ref 4),E P "__file__" 173 (.str "/claim/cut.py" 172),E P "__cached__" 174 .none,E P "_wall" 193 (.ref 21),E P "LidError" 213 (.ref 31),E P "NoTable" 229 (.ref 44),E P "NoBox" 245 (.ref 56),E P "NoDeed" 261 (.ref 68),E P "NoSets" 277 (.ref 80),E P "NoOffers" 293 (.ref 92)] 16),#[]⟩
def YK:OO:=fun _=>⟨.none,none,(.fields #[(.int 1 0),(.int 0 0),(.ref 20),(.int 5 0),(.int 0 0),(.ref 27),(.int 7 0),(.int 0 0),(.ref 40),(.int 9 0),(.int 0 0),(.ref 52),(.int 11 0),(.int 0 0),(.ref 64),(.int 13 0),(.int 0 0),(.ref 76),(.int 15 0),(.int 0 0),(.ref 88)]),#[]⟩
def o17:OO:=fun _=>s4 "k" 190
def o19:OO:=fun _=>s5 "_wall" "_wall" (top 0)
def o20:OO:=fun _=>s6 "_wall" 187 "_wall" 188 189 1 1 15 16 17 18 19 191 192
def o21:OO:=fun _=>s7 "_wall" "_wall" (top 0) "__main__" 164 20
def o22:OO:=fun _=>⟨(.type "tuple"),none,(.seq #[(.type "ValueError")] 0),#[]⟩
def o24:OO:=fun P=>s9 P 203 205 "LidError" 204 207 5 206 208 29
def o27:OO:=fun _=>s2 "LidError" 198 199 200 5 25 26 201 202
def o28:OO:=fun _=>s3 27 24 "lidprice.errors" 194
def o30:OO:=fun P=>Kz P 203 207 5 206 "__static_attributes__" 208 29 "__weakref__" 210 32 211 3
def o31:OO:=fun _=>⟨(.type "type"),none,(.cls ⟨"LidError",[(.type "ValueError")],[(.ref 31),(.type "ValueError"),(.type "Exception"),(.type "BaseException"),(.type "object")],30,"LidError",true,[],[(.ref 44),(.ref 56),(.ref 68),(.ref 80),(.ref 92)],false,none,false⟩),#[(some (.ref 22)),none,(some (.str "LidError" 196)),(some (.str "LidError" 204)),(some (.builtin "ValueError.__new__")),(some (.bool true))]⟩
def o32:OO:=fun _=>⟨(.type "getset_descriptor"),none,(.fields #[(.str "__weakref__" 209),(.ref 31),(.builtin "ExceptionGroup.__weakref__"),.none]),#[]⟩
def o33:OO:=fun _=>Ai 31
def o34:OO:=fun _=>nH 31
def o35:OO:=fun _=>zG 31
def o37:OO:=fun P=>s9 P 221 223 "NoTable" 222 225 7 224 226 42
def o40:OO:=fun _=>s2 "NoTable" 216 217 218 7 38 39 219 220
def o41:OO:=fun _=>s3 40 37 "lidprice.errors" 194
def o43:OO:=fun P=>N5 P 221 225 7 224 226 42 227
def o44:OO:=fun _=>KJ "NoTable" 44 43 35 214 222
def o45:OO:=fun _=>Ai 44
def o46:OO:=fun _=>nH 44
def o47:OO:=fun _=>zG 31
def o49:OO:=fun P=>s9 P 237 239 "NoBox" 238 241 9 240 242 54
def o52:OO:=fun _=>s2 "NoBox" 232 233 234 9 50 51 235 236
def o53:OO:=fun _=>s3 52 49 "lidprice.errors" 194
def o55:OO:=fun P=>N5 P 237 241 9 240 242 54 243
def o56:OO:=fun _=>KJ "NoBox" 56 55 47 230 238
def o57:OO:=fun _=>Ai 56
def o58:OO:=fun _=>nH 56
def o59:OO:=fun _=>zG 31
def o61:OO:=fun P=>s9 P 253 255 "NoDeed" 254 257 11 256 258 66
def o64:OO:=fun _=>s2 "NoDeed" 248 249 250 11 62 63 251 252
def o65:OO:=fun _=>s3 64 61 "lidprice.errors" 194
def o67:OO:=fun P=>N5 P 253 257 11 256 258 66 259
def o68:OO:=fun _=>KJ "NoDeed" 68 67 59 246 254
def o69:OO:=fun _=>Ai 68
def o70:OO:=fun _=>nH 68
def o71:OO:=fun _=>zG 31
def o73:OO:=fun P=>s9 P 269 271 "NoSets" 270 273 13 272 274 78
def o76:OO:=fun _=>s2 "NoSets" 264 265 266 13 74 75 267 268
def o77:OO:=fun _=>s3 76 73 "lidprice.errors" 194
def o79:OO:=fun P=>N5 P 269 273 13 272 274 78 275
def o80:OO:=fun _=>KJ "NoSets" 80 79 71 262 270
def o81:OO:=fun _=>Ai 80
def o82:OO:=fun _=>nH 80
def o83:OO:=fun _=>zG 31
def o85:OO:=fun P=>s9 P 285 287 "NoOffers" 286 289 15 288 290 90
def o88:OO:=fun _=>s2 "NoOffers" 280 281 282 15 86 87 283 284
def o89:OO:=fun _=>s3 88 85 "lidprice.errors" 194
def o91:OO:=fun P=>N5 P 285 289 15 288 290 90 291
def o92:OO:=fun _=>KJ "NoOffers" 92 91 83 278 286
def o93:OO:=fun _=>Ai 92
def o94:OO:=fun _=>nH 92
def aBF:OO:=fun P=>⟨(.type "dict"),none,(.dict #[E P "__name__" 165 (.str "lidprice.errors" 194),E P "__doc__" 166 .none,E P "__package__" 167 .none,E P "__loader__" 168 (.builtin "__main__.__loader__#opaque"),E P "__spec__" 169 .none,E P "__annotations__" 170 (.ref 6),E P "__builtins__" 171 (.ref 4),E P "__file__" 173 (.str "/claim/cut.py" 172),E P "__cached__" 174 .none,E P "_wall" 193 (.ref 21),E P "LidError" 213 (.ref 31),E P "NoTable" 229 (.ref 44),E P "NoBox" 245 (.ref 56),E P "NoDeed" 261 (.ref 68),E P "NoSets" 277 (.ref 80),E P "NoOffers" 293 (.ref 92),E P "NoRule" 309 (.ref 104),E P "NoRanks" 325 (.ref 116),E P "NoText" 341 (.ref 128),E P "NoPattern" 368 (.ref 147),E P "NoPlan" 393 (.ref 166),E P "TooMany" 418 (.ref 185)] 22),#[]⟩
def Vd:OO:=fun _=>⟨.none,none,(.fields #[(.int 1 0),(.int 0 0),(.ref 20),(.int 5 0),(.int 0 0),(.ref 27),(.int 7 0),(.int 0 0),(.ref 40),(.int 9 0),(.int 0 0),(.ref 52),(.int 11 0),(.int 0 0),(.ref 64),(.int 13 0),(.int 0 0),(.ref 76),(.int 15 0),(.int 0 0),(.ref 88),(.int 17 0),(.int 0 0),(.ref 100),(.int 19 0),(.int 0 0),(.ref 112),(.int 21 0),(.int 0 0),(.ref 124),(.int 23 0),(.int 0 0),(.ref 136),(.int 28 0),(.int 0 0),(.ref 155),(.int 32 0),(.int 0 0),(.ref 174)]),#[]⟩
def Nz:OO:=fun _=>⟨(.type "type"),none,(.cls ⟨"LidError",[(.type "ValueError")],[(.ref 31),(.type "ValueError"),(.type "Exception"),(.type "BaseException"),(.type "object")],30,"LidError",true,[],[(.ref 44),(.ref 56),(.ref 68),(.ref 80),(.ref 92),(.ref 104),(.ref 116),(.ref 128),(.ref 147),(.ref 166),(.ref 185)],false,none,false⟩),#[(some (.ref 22)),none,(some (.str "LidError" 196)),(some (.str "LidError" 204)),(some (.builtin "ValueError.__new__")),(some (.bool true))]⟩
def o95:OO:=fun _=>zG 31
def o97:OO:=fun P=>s9 P 301 303 "NoRule" 302 305 17 304 306 102
def Zd:OO:=fun _=>s2 "NoRule" 296 297 298 17 98 99 299 300
def aAc:OO:=fun _=>s3 100 97 "lidprice.errors" 194
def U6:OO:=fun P=>N5 P 301 305 17 304 306 102 307
def Uv:OO:=fun _=>KJ "NoRule" 104 103 95 294 302
def aAa:OO:=fun _=>Ai 104
def Zw:OO:=fun _=>nH 104
def V5:OO:=fun _=>zG 31
def aB1:OO:=fun P=>s9 P 317 319 "NoRanks" 318 321 19 320 322 114
def aCp:OO:=fun _=>s2 "NoRanks" 312 313 314 19 110 111 315 316
def aBR:OO:=fun _=>s3 112 109 "lidprice.errors" 194
def UG:OO:=fun P=>N5 P 317 321 19 320 322 114 323
def XJ:OO:=fun _=>KJ "NoRanks" 116 115 107 310 318
def aAB:OO:=fun _=>Ai 116
def aAI:OO:=fun _=>nH 116
def Yy:OO:=fun _=>zG 31
def aAg:OO:=fun P=>s9 P 333 335 "NoText" 334 337 21 336 338 126
def aBk:OO:=fun _=>s2 "NoText" 328 329 330 21 122 123 331 332
def aCi:OO:=fun _=>s3 124 121 "lidprice.errors" 194
def Rj:OO:=fun P=>N5 P 333 337 21 336 338 126 339
def UJ:OO:=fun _=>KJ "NoText" 128 127 119 326 334
def aCc:OO:=fun _=>Ai 128
def aBY:OO:=fun _=>nH 128
def Tu:OO:=fun _=>zG 31
def aCl:OO:=fun P=>⟨(.type "dict"),none,(.dict #[E P "__module__" 349 (.str "lidprice.errors" 194),E P "__qualname__" 351 (.str "NoPattern" 350),E P "__firstlineno__" 353 (.int 23 352),E P "__init__" 362 (.ref 144),E P "__static_attributes__" 365 (.ref 145)] 5),#[]⟩
def aBl:OO:=fun _=>⟨.none,none,(.fields #[(.int 25 0),(.int 4 0),(.ref 143)]),#[]⟩
def Zx:OO:=fun _=>s2 "NoPattern" 344 345 346 23 134 135 347 348
def aAt:OO:=fun _=>s3 136 133 "lidprice.errors" 194
def Xh:OO:=fun _=>EY "self" 357 "one" 358 "other" 359
def Zv:OO:=fun _=>s5 "__init__" "NoPattern.__init__" (aD (top 11) 0)
def UL:OO:=fun _=>s6 "__init__" 354 "NoPattern.__init__" 355 356 25 3 138 139 140 141 142 360 361
def W9:OO:=fun _=>s7 "__init__" "NoPattern.__init__" (aD (top 11) 0) "lidprice.errors" 194 143
def Xj:OO:=fun _=>DG "one" 363 "other" 364
def W7:OO:=fun P=>Kz P 349 353 23 352 "__init__" 362 144 "__static_attributes__" 365 145 366 2
def Qy:OO:=fun _=>KJ "NoPattern" 147 146 131 342 350
def aBq:OO:=fun _=>Ai 147
def aAp:OO:=fun _=>nH 147
def U0:OO:=fun _=>zG 31
def aBn:OO:=fun P=>⟨(.type "dict"),none,(.dict #[E P "__module__" 376 (.str "lidprice.errors" 194),E P "__qualname__" 378 (.str "NoPlan" 377),E P "__firstlineno__" 380 (.int 28 379),E P "__init__" 388 (.ref 163),E P "__static_attributes__" 390 (.ref 164)] 5),#[]⟩
def aBP:OO:=fun _=>⟨.none,none,(.fields #[(.int 30 0),(.int 4 0),(.ref 162)]),#[]⟩
def aBS:OO:=fun _=>s2 "NoPlan" 371 372 373 28 153 154 374 375
def aAs:OO:=fun _=>s3 155 152 "lidprice.errors" 194
def ZG:OO:=fun _=>DG "self" 384 "way" 385
def aCf:OO:=fun _=>s5 "__init__" "NoPlan.__init__" (aD (top 12) 0)
def Va:OO:=fun _=>s6 "__init__" 381 "NoPlan.__init__" 382 383 30 2 157 158 159 160 161 386 387
def X4:OO:=fun _=>s7 "__init__" "NoPlan.__init__" (aD (top 12) 0) "lidprice.errors" 194 162
def Xp:OO:=fun _=>s4 "way" 389
def Ue:OO:=fun P=>Kz P 376 380 28 379 "__init__" 388 163 "__static_attributes__" 390 164 391 2
def XR:OO:=fun _=>KJ "NoPlan" 166 165 150 369 377
def aBr:OO:=fun _=>Ai 166
def aA1:OO:=fun _=>nH 166
def RZ:OO:=fun _=>zG 31
def aCe:OO:=fun P=>⟨(.type "dict"),none,(.dict #[E P "__module__" 401 (.str "lidprice.errors" 194),E P "__qualname__" 403 (.str "TooMany" 402),E P "__firstlineno__" 405 (.int 32 404),E P "__init__" 413 (.ref 182),E P "__static_attributes__" 415 (.ref 183)] 5),#[]⟩
def aAe:OO:=fun _=>⟨.none,none,(.fields #[(.int 34 0),(.int 4 0),(.ref 181)]),#[]⟩
def aAR:OO:=fun _=>s2 "TooMany" 396 397 398 32 172 173 399 400
def aCh:OO:=fun _=>s3 174 171 "lidprice.errors" 194
def Tj:OO:=fun _=>DG "self" 409 "many" 410
def aB7:OO:=fun _=>s5 "__init__" "TooMany.__init__" (aD (top 13) 0)
def Wb:OO:=fun _=>s6 "__init__" 406 "TooMany.__init__" 407 408 34 2 176 177 178 179 180 411 412
def Qz:OO:=fun _=>s7 "__init__" "TooMany.__init__" (aD (top 13) 0) "lidprice.errors" 194 181
def VB:OO:=fun _=>s4 "many" 414
def Sy:OO:=fun P=>Kz P 401 405 32 404 "__init__" 413 182 "__static_attributes__" 415 183 416 2
def U3:OO:=fun _=>KJ "TooMany" 185 184 169 394 402
def aAy:OO:=fun _=>Ai 185
def Zo:OO:=fun _=>nH 185
def aBi:OO:=fun P=>⟨(.type "dict"),none,(.dict #[E P "__name__" 165 (.str "lidprice.stands" 534),E P "__doc__" 166 .none,E P "__package__" 167 .none,E P "__loader__" 168 (.builtin "__main__.__loader__#opaque"),E P "__spec__" 169 .none,E P "__annotations__" 170 (.ref 6),E P "__builtins__" 171 (.ref 4),E P "__file__" 173 (.str "/claim/cut.py" 172),E P "__cached__" 174 .none,E P "_wall" 193 (.ref 21),E P "LidError" 213 (.ref 31),E P "NoTable" 229 (.ref 44),E P "NoBox" 245 (.ref 56),E P "NoDeed" 261 (.ref 68),E P "NoSets" 277 (.ref 80),E P "NoOffers" 293 (.ref 92),E P "NoRule" 309 (.ref 104),E P "NoRanks" 325 (.ref 116),E P "NoText" 341 (.ref 128),E P "NoPattern" 368 (.ref 147),E P "NoPlan" 393 (.ref 166),E P "TooMany" 418 (.ref 185),E P "is_whole" 429 (.ref 194),E P "common_divisor" 438 (.ref 201),E P "common_multiple" 447 (.ref 208),E P "share" 456 (.ref 215),E P "whole" 463 (.ref 222),E P "below" 471 (.ref 229),E P "lesser" 479 (.ref 236),E P "MOST_WORTH" 483 (.int 1000000000 482),E P "MOST_WEIGHT" 485 (.int 1000 484),E P "rising" 491 (.ref 241),E P "in_form" 497 (.ref 246),E P "all_weights" 503 (.ref 251),E P "by_weights" 509 (.ref 256),E P "above" 515 (.ref 261),E P "capped" 521 (.ref 266),E P "mixed" 527 (.ref 271),E P "level_for" 533 (.ref 276),E P "MOST_PRICE" 537 (.int 1000000000 536),E P "MOST_STAGE_ROWS" 539 (.int 4 538),E P "MOST_STAGES" 541 (.int 4 540),E P "MOST_ENDS" 543 (.int 12 542),E P "MOST_BOXES" 545 (.int 6 544),E P "Stand" 608 (.ref 321),E P "End" 662 (.ref 370)] 46),#[]⟩
def Yw:OO:=fun _=>⟨.none,none,(.fields #[(.int 1 0),(.int 0 0),(.ref 20),(.int 5 0),(.int 0 0),(.ref 27),(.int 7 0),(.int 0 0),(.ref 40),(.int 9 0),(.int 0 0),(.ref 52),(.int 11 0),(.int 0 0),(.ref 64),(.int 13 0),(.int 0 0),(.ref 76),(.int 15 0),(.int 0 0),(.ref 88),(.int 17 0),(.int 0 0),(.ref 100),(.int 19 0),(.int 0 0),(.ref 112),(.int 21 0),(.int 0 0),(.ref 124),(.int 23 0),(.int 0 0),(.ref 136),(.int 28 0),(.int 0 0),(.ref 155),(.int 32 0),(.int 0 0),(.ref 174),(.int 37 0),(.int 0 0),(.ref 193),(.int 39 0),(.int 0 0),(.ref 200),(.int 45 0),(.int 0 0),(.ref 207),(.int 50 0),(.int 0 0),(.ref 214),(.int 55 0),(.int 0 0),(.ref 221),(.int 57 0),(.int 0 0),(.ref 228),(.int 59 0),(.int 0 0),(.ref 235),(.int 64 0),(.int 0 0),(.ref 240),(.int 68 0),(.int 0 0),(.ref 245),(.int 76 0),(.int 0 0),(.ref 250),(.int 78 0),(.int 0 0),(.ref 255),(.int 82 0),(.int 0 0),(.ref 260),(.int 85 0),(.int 0 0),(.ref 265),(.int 87 0),(.int 0 0),(.ref 270),(.int 94 0),(.int 0 0),(.ref 275),(.int 111 0),(.int 0 0),(.ref 282),(.int 130 0),(.int 0 0),(.ref 331)]),#[]⟩
def Tr:OO:=fun _=>EY "thing" 424 "least" 425 "most" 426
def aCj:OO:=fun _=>s5 "is_whole" "is_whole" (top 15)
def We:OO:=fun _=>s6 "is_whole" 421 "is_whole" 422 423 37 3 188 189 190 191 192 427 428
def Y8:OO:=fun _=>s7 "is_whole" "is_whole" (top 15) "lidprice.shares" 419 193
def X7:OO:=fun _=>EY "one" 433 "other" 434 "rest" 435
def aCm:OO:=fun _=>s5 "common_divisor" "common_divisor" (top 16)
def Ra:OO:=fun _=>s6 "common_divisor" 430 "common_divisor" 431 432 39 2 195 196 197 198 199 436 437
def Qw:OO:=fun _=>s7 "common_divisor" "common_divisor" (top 16) "lidprice.shares" 419 200
def Xk:OO:=fun _=>EY "numbers" 442 "multiple" 443 "number" 444
def aCb:OO:=fun _=>s5 "common_multiple" "common_multiple" (top 17)
def Xl:OO:=fun _=>s6 "common_multiple" 439 "common_multiple" 440 441 45 1 202 203 204 205 206 445 446
def Td:OO:=fun _=>s7 "common_multiple" "common_multiple" (top 17) "lidprice.shares" 419 207
def Uw:OO:=fun _=>EY "top" 451 "bottom" 452 "divisor" 453
def aB3:OO:=fun _=>s5 "share" "share" (top 18)
def UV:OO:=fun _=>s6 "share" 448 "share" 449 450 50 2 209 210 211 212 213 454 455
def Rn:OO:=fun _=>s7 "share" "share" (top 18) "lidprice.shares" 419 214
def Tv:OO:=fun _=>s4 "number" 460
def aBb:OO:=fun _=>s5 "whole" "whole" (top 19)
def Rf:OO:=fun _=>s6 "whole" 457 "whole" 458 459 55 1 216 217 218 219 220 461 462
def Vf:OO:=fun _=>s7 "whole" "whole" (top 19) "lidprice.shares" 419 221
def V4:OO:=fun _=>DG "one" 467 "other" 468
def aAK:OO:=fun _=>s5 "below" "below" (top 20)
def YQ:OO:=fun _=>s6 "below" 464 "below" 465 466 57 2 223 224 225 226 227 469 470
def Vw:OO:=fun _=>s7 "below" "below" (top 20) "lidprice.shares" 419 228
def V8:OO:=fun _=>DG "one" 475 "other" 476
def Zu:OO:=fun _=>s5 "lesser" "lesser" (top 21)
def Uu:OO:=fun _=>s6 "lesser" 472 "lesser" 473 474 59 2 230 231 232 233 234 477 478
def Vb:OO:=fun _=>s7 "lesser" "lesser" (top 21) "lidprice.shares" 419 235
def aA8:OO:=fun _=>s5 "rising" "rising" (top 25)
def XD:OO:=fun _=>vM "rising" 486 "rising" 487 488 64 1 237 238 239 489 490
def Yr:OO:=fun _=>s7 "rising" "rising" (top 25) "lidprice.tables" 480 240
def Z9:OO:=fun _=>s5 "in_form" "in_form" (top 26)
def Y0:OO:=fun _=>vM "in_form" 492 "in_form" 493 494 68 1 242 243 244 495 496
def Ua:OO:=fun _=>s7 "in_form" "in_form" (top 26) "lidprice.tables" 480 245
def aBA:OO:=fun _=>s5 "all_weights" "all_weights" (top 27)
def Yh:OO:=fun _=>vM "all_weights" 498 "all_weights" 499 500 76 1 247 248 249 501 502
def YF:OO:=fun _=>s7 "all_weights" "all_weights" (top 27) "lidprice.tables" 480 250
def aAG:OO:=fun _=>s5 "by_weights" "by_weights" (top 28)
def Tw:OO:=fun _=>vM "by_weights" 504 "by_weights" 505 506 78 2 252 253 254 507 508
def Yl:OO:=fun _=>s7 "by_weights" "by_weights" (top 28) "lidprice.tables" 480 255
def aAk:OO:=fun _=>s5 "above" "above" (top 29)
def Vx:OO:=fun _=>vM "above" 510 "above" 511 512 82 2 257 258 259 513 514
def SQ:OO:=fun _=>s7 "above" "above" (top 29) "lidprice.tables" 480 260
def aB0:OO:=fun _=>s5 "capped" "capped" (top 30)
def X6:OO:=fun _=>vM "capped" 516 "capped" 517 518 85 2 262 263 264 519 520
def Xv:OO:=fun _=>s7 "capped" "capped" (top 30) "lidprice.tables" 480 265
def aBC:OO:=fun _=>s5 "mixed" "mixed" (top 31)
def YJ:OO:=fun _=>vM "mixed" 522 "mixed" 523 524 87 1 267 268 269 525 526
def Wo:OO:=fun _=>s7 "mixed" "mixed" (top 31) "lidprice.tables" 480 270
def aAo:OO:=fun _=>s5 "level_for" "level_for" (top 32)
def Wm:OO:=fun _=>vM "level_for" 528 "level_for" 529 530 94 2 272 273 274 531 532
def Wx:OO:=fun _=>s7 "level_for" "level_for" (top 32) "lidprice.tables" 480 275
def aAf:OO:=fun P=>⟨(.type "dict"),none,(.dict #[E P "__module__" 553 (.str "lidprice.stands" 534),E P "__qualname__" 555 (.str "Stand" 554),E P "__firstlineno__" 557 (.int 111 556),E P "__init__" 568 (.ref 290),E P "ends" 575 (.ref 297),E P "stages" 582 (.ref 304),E P "reserve" 589 (.ref 311),E P "caps" 596 (.ref 318),E P "__static_attributes__" 601 (.ref 319)] 9),#[]⟩
def aA4:OO:=fun _=>⟨.none,none,(.fields #[(.int 113 0),(.int 4 0),(.ref 289),(.int 119 0),(.int 4 0),(.ref 296),(.int 122 0),(.int 4 0),(.ref 303),(.int 125 0),(.int 4 0),(.ref 310),(.int 128 0),(.int 4 0),(.ref 317)]),#[]⟩
def aBh:OO:=fun _=>s2 "Stand" 548 549 550 111 280 281 551 552
def aBe:OO:=fun _=>s3 282 279 "lidprice.stands" 534
def YL:OO:=fun _=>ZP "self" 561 "end_count" 562 "stage_count" 563 "level" 564 "cap_rows" 565
def aB9:OO:=fun _=>s5 "__init__" "Stand.__init__" (aD (top 39) 0)
def Uq:OO:=fun _=>s6 "__init__" 558 "Stand.__init__" 559 560 113 5 284 285 286 287 288 566 567
def Qu:OO:=fun _=>s7 "__init__" "Stand.__init__" (aD (top 39) 0) "lidprice.stands" 534 289
def Yd:OO:=fun _=>s4 "self" 572
def aAC:OO:=fun _=>s5 "ends" "Stand.ends" (aD (top 39) 1)
def Um:OO:=fun _=>s6 "ends" 569 "Stand.ends" 570 571 119 1 291 292 293 294 295 573 574
def Sw:OO:=fun _=>s7 "ends" "Stand.ends" (aD (top 39) 1) "lidprice.stands" 534 296
def Rz:OO:=fun _=>s4 "self" 579
def aBJ:OO:=fun _=>s5 "stages" "Stand.stages" (aD (top 39) 2)
def Th:OO:=fun _=>s6 "stages" 576 "Stand.stages" 577 578 122 1 298 299 300 301 302 580 581
def Xa:OO:=fun _=>s7 "stages" "Stand.stages" (aD (top 39) 2) "lidprice.stands" 534 303
def Rg:OO:=fun _=>s4 "self" 586
def aA7:OO:=fun _=>s5 "reserve" "Stand.reserve" (aD (top 39) 3)
def Uo:OO:=fun _=>s6 "reserve" 583 "Stand.reserve" 584 585 125 1 305 306 307 308 309 587 588
def Uy:OO:=fun _=>s7 "reserve" "Stand.reserve" (aD (top 39) 3) "lidprice.stands" 534 310
def Rh:OO:=fun _=>s4 "self" 593
def aAE:OO:=fun _=>s5 "caps" "Stand.caps" (aD (top 39) 4)
def V9:OO:=fun _=>s6 "caps" 590 "Stand.caps" 591 592 128 1 312 313 314 315 316 594 595
def Xq:OO:=fun _=>s7 "caps" "Stand.caps" (aD (top 39) 4) "lidprice.stands" 534 317
def YC:OO:=fun _=>ZQ "cap_rows" 597 "end_count" 598 "level" 599 "stage_count" 600
def W8:OO:=fun P=>⟨(.type "dict"),none,(.dict #[E P "__module__" 553 (.str "lidprice.stands" 534),E P "__firstlineno__" 557 (.int 111 556),E P "__init__" 568 (.ref 290),E P "ends" 575 (.ref 297),E P "stages" 582 (.ref 304),E P "reserve" 589 (.ref 311),E P "caps" 596 (.ref 318),E P "__static_attributes__" 601 (.ref 319),E P "__dict__" 603 (.ref 322),E P "__weakref__" 605 (.ref 323),E P "__doc__" 606 .none] 4),#[]⟩
def Zq:OO:=fun _=>⟨(.type "type"),none,(.cls ⟨"Stand",[(.type "object")],[(.ref 321),(.type "object")],320,"Stand",true,[],[(.ref 370)],false,none,false⟩),#[none,none,(some (.str "Stand" 546)),(some (.str "Stand" 554)),(some (.builtin "object.__new__")),(some (.bool true))]⟩
def Xf:OO:=fun _=>⟨(.type "getset_descriptor"),none,(.fields #[(.str "__dict__" 602),(.ref 321),(.builtin "function.__dict__"),(.builtin "function.__dict__#set")]),#[]⟩
def V0:OO:=fun _=>⟨(.type "getset_descriptor"),none,(.fields #[(.str "__weakref__" 604),(.ref 321),(.builtin "ExceptionGroup.__weakref__"),.none]),#[]⟩
def aAW:OO:=fun _=>Ai 321
def aAJ:OO:=fun _=>nH 321
def WM:OO:=fun _=>zG 321
def aBN:OO:=fun P=>⟨(.type "dict"),none,(.dict #[E P "__module__" 616 (.str "lidprice.stands" 534),E P "__qualname__" 618 (.str "End" 617),E P "__firstlineno__" 620 (.int 130 619),E P "__init__" 628 (.ref 339),E P "is_end" 635 (.ref 346),E P "ways" 642 (.ref 353),E P "beside" 650 (.ref 360),E P "told" 657 (.ref 367),E P "__static_attributes__" 659 (.ref 368)] 9),#[]⟩
def aAj:OO:=fun _=>⟨.none,none,(.fields #[(.int 132 0),(.int 4 0),(.ref 338),(.int 138 0),(.int 4 0),(.ref 345),(.int 141 0),(.int 4 0),(.ref 352),(.int 144 0),(.int 4 0),(.ref 359),(.int 147 0),(.int 4 0),(.ref 366)]),#[]⟩
def Zn:OO:=fun _=>s2 "End" 611 612 613 130 329 330 614 615
def aCn:OO:=fun _=>s3 331 328 "lidprice.stands" 534
def V1:OO:=fun _=>DG "self" 624 "worth" 625
def aBj:OO:=fun _=>s5 "__init__" "End.__init__" (aD (top 40) 0)
def SX:OO:=fun _=>s6 "__init__" 621 "End.__init__" 622 623 132 2 333 334 335 336 337 626 627
def Ru:OO:=fun _=>s7 "__init__" "End.__init__" (aD (top 40) 0) "lidprice.stands" 534 338
def Vj:OO:=fun _=>s4 "self" 632
def Z3:OO:=fun _=>s5 "is_end" "End.is_end" (aD (top 40) 1)
def VG:OO:=fun _=>s6 "is_end" 629 "End.is_end" 630 631 138 1 340 341 342 343 344 633 634
def ZK:OO:=fun _=>s7 "is_end" "End.is_end" (aD (top 40) 1) "lidprice.stands" 534 345
def Sx:OO:=fun _=>s4 "self" 639
def Z6:OO:=fun _=>s5 "ways" "End.ways" (aD (top 40) 2)
def Yz:OO:=fun _=>s6 "ways" 636 "End.ways" 637 638 141 1 347 348 349 350 351 640 641
def X8:OO:=fun _=>s7 "ways" "End.ways" (aD (top 40) 2) "lidprice.stands" 534 352
def Qv:OO:=fun _=>DG "self" 646 "level" 647
def aCq:OO:=fun _=>s5 "beside" "End.beside" (aD (top 40) 3)
def Rt:OO:=fun _=>s6 "beside" 643 "End.beside" 644 645 144 2 354 355 356 357 358 648 649
def R4:OO:=fun _=>s7 "beside" "End.beside" (aD (top 40) 3) "lidprice.stands" 534 359
def WF:OO:=fun _=>s4 "self" 654
def Zy:OO:=fun _=>s5 "told" "End.told" (aD (top 40) 4)
def Vn:OO:=fun _=>s6 "told" 651 "End.told" 652 653 147 1 361 362 363 364 365 655 656
def Rb:OO:=fun _=>s7 "told" "End.told" (aD (top 40) 4) "lidprice.stands" 534 366
def Ss:OO:=fun _=>s4 "worth" 658
def WY:OO:=fun P=>⟨(.type "dict"),none,(.dict #[E P "__module__" 616 (.str "lidprice.stands" 534),E P "__firstlineno__" 620 (.int 130 619),E P "__init__" 628 (.ref 339),E P "is_end" 635 (.ref 346),E P "ways" 642 (.ref 353),E P "beside" 650 (.ref 360),E P "told" 657 (.ref 367),E P "__static_attributes__" 659 (.ref 368),E P "__doc__" 660 .none] 2),#[]⟩
def W2:OO:=fun _=>⟨(.type "type"),none,(.cls ⟨"End",[(.ref 321)],[(.ref 370),(.ref 321),(.type "object")],369,"End",true,[],[],false,none,false⟩),#[(some (.ref 326)),none,(some (.str "End" 609)),(some (.str "End" 617)),(some (.builtin "object.__new__")),(some (.bool true))]⟩
def aBp:OO:=fun _=>Ai 370
def aAH:OO:=fun _=>nH 370
def aBc:OO:=fun P=>⟨(.type "dict"),none,(.dict #[E P "__name__" 165 (.str "lidprice.cases" 757),E P "__doc__" 166 .none,E P "__package__" 167 .none,E P "__loader__" 168 (.builtin "__main__.__loader__#opaque"),E P "__spec__" 169 .none,E P "__annotations__" 170 (.ref 6),E P "__builtins__" 171 (.ref 4),E P "__file__" 173 (.str "/claim/cut.py" 172),E P "__cached__" 174 .none,E P "_wall" 193 (.ref 21),E P "LidError" 213 (.ref 31),E P "NoTable" 229 (.ref 44),E P "NoBox" 245 (.ref 56),E P "NoDeed" 261 (.ref 68),E P "NoSets" 277 (.ref 80),E P "NoOffers" 293 (.ref 92),E P "NoRule" 309 (.ref 104),E P "NoRanks" 325 (.ref 116),E P "NoText" 341 (.ref 128),E P "NoPattern" 368 (.ref 147),E P "NoPlan" 393 (.ref 166),E P "TooMany" 418 (.ref 185),E P "is_whole" 429 (.ref 194),E P "common_divisor" 438 (.ref 201),E P "common_multiple" 447 (.ref 208),E P "share" 456 (.ref 215),E P "whole" 463 (.ref 222),E P "below" 471 (.ref 229),E P "lesser" 479 (.ref 236),E P "MOST_WORTH" 483 (.int 1000000000 482),E P "MOST_WEIGHT" 485 (.int 1000 484),E P "rising" 491 (.ref 241),E P "in_form" 497 (.ref 246),E P "all_weights" 503 (.ref 251),E P "by_weights" 509 (.ref 256),E P "above" 515 (.ref 261),E P "capped" 521 (.ref 266),E P "mixed" 527 (.ref 271),E P "level_for" 533 (.ref 276),E P "MOST_PRICE" 537 (.int 1000000000 536),E P "MOST_STAGE_ROWS" 539 (.int 4 538),E P "MOST_STAGES" 541 (.int 4 540),E P "MOST_ENDS" 543 (.int 12 542),E P "MOST_BOXES" 545 (.int 6 544),E P "Stand" 608 (.ref 321),E P "End" 662 (.ref 370),E P "Stage" 730 (.ref 427),E P "is_stand" 737 (.ref 436),E P "is_stage_row" 744 (.ref 443),E P "is_stage_rows" 750 (.ref 448),E P "need_boxes" 756 (.ref 453),E P "with_thing" 767 (.ref 460),E P "Case" 912 (.ref 569)] 53),#[]⟩
def Yt:OO:=fun _=>⟨.none,none,(.fields #[(.int 1 0),(.int 0 0),(.ref 20),(.int 5 0),(.int 0 0),(.ref 27),(.int 7 0),(.int 0 0),(.ref 40),(.int 9 0),(.int 0 0),(.ref 52),(.int 11 0),(.int 0 0),(.ref 64),(.int 13 0),(.int 0 0),(.ref 76),(.int 15 0),(.int 0 0),(.ref 88),(.int 17 0),(.int 0 0),(.ref 100),(.int 19 0),(.int 0 0),(.ref 112),(.int 21 0),(.int 0 0),(.ref 124),(.int 23 0),(.int 0 0),(.ref 136),(.int 28 0),(.int 0 0),(.ref 155),(.int 32 0),(.int 0 0),(.ref 174),(.int 37 0),(.int 0 0),(.ref 193),(.int 39 0),(.int 0 0),(.ref 200),(.int 45 0),(.int 0 0),(.ref 207),(.int 50 0),(.int 0 0),(.ref 214),(.int 55 0),(.int 0 0),(.ref 221),(.int 57 0),(.int 0 0),(.ref 228),(.int 59 0),(.int 0 0),(.ref 235),(.int 64 0),(.int 0 0),(.ref 240),(.int 68 0),(.int 0 0),(.ref 245),(.int 76 0),(.int 0 0),(.ref 250),(.int 78 0),(.int 0 0),(.ref 255),(.int 82 0),(.int 0 0),(.ref 260),(.int 85 0),(.int 0 0),(.ref 265),(.int 87 0),(.int 0 0),(.ref 270),(.int 94 0),(.int 0 0),(.ref 275),(.int 111 0),(.int 0 0),(.ref 282),(.int 130 0),(.int 0 0),(.ref 331),(.int 149 0),(.int 0 0),(.ref 378),(.int 181 0),(.int 0 0),(.ref 435),(.int 183 0),(.int 0 0),(.ref 442),(.int 187 0),(.int 0 0),(.ref 447),(.int 191 0),(.int 0 0),(.ref 452),(.int 197 0),(.int 0 0),(.ref 459),(.int 199 0),(.int 0 0),(.ref 466)]),#[]⟩
def K7:OO:=fun _=>⟨(.type "type"),none,(.cls ⟨"Stand",[(.type "object")],[(.ref 321),(.type "object")],320,"Stand",true,[],[(.ref 370),(.ref 427)],false,none,false⟩),#[none,none,(some (.str "Stand" 546)),(some (.str "Stand" 554)),(some (.builtin "object.__new__")),(some (.bool true))]⟩
def RT:OO:=fun _=>zG 321
def aAX:OO:=fun P=>⟨(.type "dict"),none,(.dict #[E P "__module__" 670 (.str "lidprice.stands" 534),E P "__qualname__" 672 (.str "Stage" 671),E P "__firstlineno__" 674 (.int 149 673),E P "__init__" 680 (.ref 384),E P "is_end" 687 (.ref 391),E P "row_share" 695 (.ref 398),E P "after" 703 (.ref 405),E P "ways" 710 (.ref 412),E P "beside" 718 (.ref 419),E P "told" 724 (.ref 424),E P "__static_attributes__" 727 (.ref 425)] 11),#[]⟩
def aAi:OO:=fun _=>⟨.none,none,(.fields #[(.int 151 0),(.int 4 0),(.ref 383),(.int 164 0),(.int 4 0),(.ref 390),(.int 167 0),(.int 4 0),(.ref 397),(.int 170 0),(.int 4 0),(.ref 404),(.int 173 0),(.int 4 0),(.ref 411),(.int 176 0),(.int 4 0),(.ref 418),(.int 179 0),(.int 4 0),(.ref 423)]),#[]⟩
def aAl:OO:=fun _=>s2 "Stage" 665 666 667 149 376 377 668 669
def aCg:OO:=fun _=>s3 378 375 "lidprice.stands" 534
def Z8:OO:=fun _=>s5 "__init__" "Stage.__init__" (aD (top 41) 0)
def VL:OO:=fun _=>vM "__init__" 675 "Stage.__init__" 676 677 151 3 380 381 382 678 679
def Yo:OO:=fun _=>s7 "__init__" "Stage.__init__" (aD (top 41) 0) "lidprice.stands" 534 383
def Vc:OO:=fun _=>s4 "self" 684
def aAV:OO:=fun _=>s5 "is_end" "Stage.is_end" (aD (top 41) 1)
def R0:OO:=fun _=>s6 "is_end" 681 "Stage.is_end" 682 683 164 1 385 386 387 388 389 685 686
def V3:OO:=fun _=>s7 "is_end" "Stage.is_end" (aD (top 41) 1) "lidprice.stands" 534 390
def V2:OO:=fun _=>DG "self" 691 "row" 692
def aAS:OO:=fun _=>s5 "row_share" "Stage.row_share" (aD (top 41) 2)
def Yc:OO:=fun _=>s6 "row_share" 688 "Stage.row_share" 689 690 167 2 392 393 394 395 396 693 694
def Ry:OO:=fun _=>s7 "row_share" "Stage.row_share" (aD (top 41) 2) "lidprice.stands" 534 397
def WK:OO:=fun _=>DG "self" 699 "row" 700
def aAx:OO:=fun _=>s5 "after" "Stage.after" (aD (top 41) 3)
def Te:OO:=fun _=>s6 "after" 696 "Stage.after" 697 698 170 2 399 400 401 402 403 701 702
def Tg:OO:=fun _=>s7 "after" "Stage.after" (aD (top 41) 3) "lidprice.stands" 534 404
def VJ:OO:=fun _=>s4 "self" 707
def aBG:OO:=fun _=>s5 "ways" "Stage.ways" (aD (top 41) 4)
def R8:OO:=fun _=>s6 "ways" 704 "Stage.ways" 705 706 173 1 406 407 408 409 410 708 709
def Wr:OO:=fun _=>s7 "ways" "Stage.ways" (aD (top 41) 4) "lidprice.stands" 534 411
def Ug:OO:=fun _=>DG "self" 714 "level" 715
def aAY:OO:=fun _=>s5 "beside" "Stage.beside" (aD (top 41) 5)
def Wk:OO:=fun _=>s6 "beside" 711 "Stage.beside" 712 713 176 2 413 414 415 416 417 716 717
def VN:OO:=fun _=>s7 "beside" "Stage.beside" (aD (top 41) 5) "lidprice.stands" 534 418
def aBO:OO:=fun _=>s5 "told" "Stage.told" (aD (top 41) 6)
def U4:OO:=fun _=>vM "told" 719 "Stage.told" 720 721 179 1 420 421 422 722 723
def RW:OO:=fun _=>s7 "told" "Stage.told" (aD (top 41) 6) "lidprice.stands" 534 423
def VP:OO:=fun _=>DG "price" 725 "rows" 726
def S9:OO:=fun P=>⟨(.type "dict"),none,(.dict #[E P "__module__" 670 (.str "lidprice.stands" 534),E P "__firstlineno__" 674 (.int 149 673),E P "__init__" 680 (.ref 384),E P "is_end" 687 (.ref 391),E P "row_share" 695 (.ref 398),E P "after" 703 (.ref 405),E P "ways" 710 (.ref 412),E P "beside" 718 (.ref 419),E P "told" 724 (.ref 424),E P "__static_attributes__" 727 (.ref 425),E P "__doc__" 728 .none] 2),#[]⟩
def Yq:OO:=fun _=>⟨(.type "type"),none,(.cls ⟨"Stage",[(.ref 321)],[(.ref 427),(.ref 321),(.type "object")],426,"Stage",true,[],[],false,none,false⟩),#[(some (.ref 373)),none,(some (.str "Stage" 663)),(some (.str "Stage" 671)),(some (.builtin "object.__new__")),(some (.bool true))]⟩
def aBX:OO:=fun _=>Ai 427
def Zk:OO:=fun _=>nH 427
def Wc:OO:=fun _=>s4 "thing" 734
def Zi:OO:=fun _=>s5 "is_stand" "is_stand" (top 42)
def Rc:OO:=fun _=>s6 "is_stand" 731 "is_stand" 732 733 181 1 430 431 432 433 434 735 736
def Sv:OO:=fun _=>s7 "is_stand" "is_stand" (top 42) "lidprice.stands" 534 435
def VH:OO:=fun _=>s4 "row" 741
def ZZ:OO:=fun _=>s5 "is_stage_row" "is_stage_row" (top 43)
def Wj:OO:=fun _=>s6 "is_stage_row" 738 "is_stage_row" 739 740 183 1 437 438 439 440 441 742 743
def WQ:OO:=fun _=>s7 "is_stage_row" "is_stage_row" (top 43) "lidprice.stands" 534 442
def aBW:OO:=fun _=>s5 "is_stage_rows" "is_stage_rows" (top 44)
def XC:OO:=fun _=>vM "is_stage_rows" 745 "is_stage_rows" 746 747 187 1 444 445 446 748 749
def Vi:OO:=fun _=>s7 "is_stage_rows" "is_stage_rows" (top 44) "lidprice.stands" 534 447
def aBH:OO:=fun _=>s5 "need_boxes" "need_boxes" (top 45)
def Yp:OO:=fun _=>vM "need_boxes" 751 "need_boxes" 752 753 191 1 449 450 451 754 755
def Ww:OO:=fun _=>s7 "need_boxes" "need_boxes" (top 45) "lidprice.stands" 534 452
def Qx:OO:=fun _=>EY "things" 762 "place" 763 "thing" 764
def aBT:OO:=fun _=>s5 "with_thing" "with_thing" (top 47)
def Ui:OO:=fun _=>s6 "with_thing" 759 "with_thing" 760 761 197 3 454 455 456 457 458 765 766
def YH:OO:=fun _=>s7 "with_thing" "with_thing" (top 47) "lidprice.cases" 757 459
def aBK:OO:=fun P=>⟨(.type "dict"),none,(.dict #[E P "__module__" 775 (.str "lidprice.cases" 757),E P "__qualname__" 777 (.str "Case" 776),E P "__firstlineno__" 779 (.int 199 778),E P "__init__" 785 (.ref 472),E P "how_many" 792 (.ref 479),E P "need_box" 800 (.ref 486),E P "stand" 808 (.ref 493),E P "cap" 816 (.ref 500),E P "kept" 822 (.ref 505),E P "paid" 829 (.ref 512),E P "had" 835 (.ref 517),E P "deeds" 842 (.ref 524),E P "caps" 852 (.ref 531),E P "debt" 861 (.ref 538),E P "left" 868 (.ref 545),E P "behind" 877 (.ref 552),E P "opened" 890 (.ref 559),E P "taken" 899 (.ref 566),E P "__static_attributes__" 905 (.ref 567)] 19),#[]⟩
def Z1:OO:=fun _=>⟨.none,none,(.fields #[(.int 201 0),(.int 4 0),(.ref 471),(.int 209 0),(.int 4 0),(.ref 478),(.int 212 0),(.int 4 0),(.ref 485),(.int 216 0),(.int 4 0),(.ref 492),(.int 220 0),(.int 4 0),(.ref 499),(.int 224 0),(.int 4 0),(.ref 504),(.int 227 0),(.int 4 0),(.ref 511),(.int 230 0),(.int 4 0),(.ref 516),(.int 233 0),(.int 4 0),(.ref 523),(.int 236 0),(.int 4 0),(.ref 530),(.int 241 0),(.int 4 0),(.ref 537),(.int 245 0),(.int 4 0),(.ref 544),(.int 248 0),(.int 4 0),(.ref 551),(.int 256 0),(.int 4 0),(.ref 558),(.int 268 0),(.int 4 0),(.ref 565)]),#[]⟩
def aAZ:OO:=fun _=>s2 "Case" 770 771 772 199 464 465 773 774
def Z5:OO:=fun _=>s3 466 463 "lidprice.cases" 757
def aAm:OO:=fun _=>s5 "__init__" "Case.__init__" (aD (top 48) 0)
def Ym:OO:=fun _=>vM "__init__" 780 "Case.__init__" 781 782 201 2 468 469 470 783 784
def Xz:OO:=fun _=>s7 "__init__" "Case.__init__" (aD (top 48) 0) "lidprice.cases" 757 471
def Xn:OO:=fun _=>s4 "self" 789
def aBm:OO:=fun _=>s5 "how_many" "Case.how_many" (aD (top 48) 1)
def Yx:OO:=fun _=>s6 "how_many" 786 "Case.how_many" 787 788 209 1 473 474 475 476 477 790 791
def TV:OO:=fun _=>s7 "how_many" "Case.how_many" (aD (top 48) 1) "lidprice.cases" 757 478
def Wl:OO:=fun _=>DG "self" 796 "box" 797
def aAh:OO:=fun _=>s5 "need_box" "Case.need_box" (aD (top 48) 2)
def Vp:OO:=fun _=>s6 "need_box" 793 "Case.need_box" 794 795 212 2 480 481 482 483 484 798 799
def Wz:OO:=fun _=>s7 "need_box" "Case.need_box" (aD (top 48) 2) "lidprice.cases" 757 485
def Vv:OO:=fun _=>DG "self" 804 "box" 805
def aAb:OO:=fun _=>s5 "stand" "Case.stand" (aD (top 48) 3)
def Ws:OO:=fun _=>s6 "stand" 801 "Case.stand" 802 803 216 2 487 488 489 490 491 806 807
def V7:OO:=fun _=>s7 "stand" "Case.stand" (aD (top 48) 3) "lidprice.cases" 757 492
def U8:OO:=fun _=>DG "self" 812 "box" 813
def aA5:OO:=fun _=>s5 "cap" "Case.cap" (aD (top 48) 4)
def Rx:OO:=fun _=>s6 "cap" 809 "Case.cap" 810 811 220 2 494 495 496 497 498 814 815
def U9:OO:=fun _=>s7 "cap" "Case.cap" (aD (top 48) 4) "lidprice.cases" 757 499
def aBV:OO:=fun _=>s5 "kept" "Case.kept" (aD (top 48) 5)
def S7:OO:=fun _=>vM "kept" 817 "Case.kept" 818 819 224 1 501 502 503 820 821
def Sh:OO:=fun _=>s7 "kept" "Case.kept" (aD (top 48) 5) "lidprice.cases" 757 504
def Yb:OO:=fun _=>s4 "self" 826
def aBs:OO:=fun _=>s5 "paid" "Case.paid" (aD (top 48) 6)
def UW:OO:=fun _=>s6 "paid" 823 "Case.paid" 824 825 227 1 506 507 508 509 510 827 828
def YS:OO:=fun _=>s7 "paid" "Case.paid" (aD (top 48) 6) "lidprice.cases" 757 511
def aBB:OO:=fun _=>s5 "had" "Case.had" (aD (top 48) 7)
def SM:OO:=fun _=>vM "had" 830 "Case.had" 831 832 230 1 513 514 515 833 834
def YB:OO:=fun _=>s7 "had" "Case.had" (aD (top 48) 7) "lidprice.cases" 757 516
def Tt:OO:=fun _=>s4 "self" 839
def aAP:OO:=fun _=>s5 "deeds" "Case.deeds" (aD (top 48) 8)
def Ys:OO:=fun _=>s6 "deeds" 836 "Case.deeds" 837 838 233 1 518 519 520 521 522 840 841
def W6:OO:=fun _=>s7 "deeds" "Case.deeds" (aD (top 48) 8) "lidprice.cases" 757 523
def RB:OO:=fun _=>ZQ "self" 846 "box" 847 "table" 848 "cap" 849
def Zz:OO:=fun _=>s5 "caps" "Case.caps" (aD (top 48) 9)
def Rr:OO:=fun _=>s6 "caps" 843 "Case.caps" 844 845 236 2 525 526 527 528 529 850 851
def Wq:OO:=fun _=>s7 "caps" "Case.caps" (aD (top 48) 9) "lidprice.cases" 757 530
def Xr:OO:=fun _=>EY "self" 856 "box" 857 "cap" 858
def aBZ:OO:=fun _=>s5 "debt" "Case.debt" (aD (top 48) 10)
def XQ:OO:=fun _=>s6 "debt" 853 "Case.debt" 854 855 241 2 532 533 534 535 536 859 860
def Vr:OO:=fun _=>s7 "debt" "Case.debt" (aD (top 48) 10) "lidprice.cases" 757 537
def Vq:OO:=fun _=>s4 "self" 865
def Zf:OO:=fun _=>s5 "left" "Case.left" (aD (top 48) 11)
def ZF:OO:=fun _=>s6 "left" 862 "Case.left" 863 864 245 1 539 540 541 542 543 866 867
def WL:OO:=fun _=>s7 "left" "Case.left" (aD (top 48) 11) "lidprice.cases" 757 544
def Vs:OO:=fun _=>EY "self" 872 "deed" 873 "case" 874
def aAU:OO:=fun _=>s5 "behind" "Case.behind" (aD (top 48) 12)
def Up:OO:=fun _=>s6 "behind" 869 "Case.behind" 870 871 248 2 546 547 548 549 550 875 876
def Vh:OO:=fun _=>s7 "behind" "Case.behind" (aD (top 48) 12) "lidprice.cases" 757 551
def X3:OO:=fun _=>⟨(.type "tuple"),none,(.seq #[(.str "self" 881),(.str "box" 882),(.str "row" 883),(.str "stage" 884),(.str "cap" 885),(.str "lower" 886),(.str "case" 887)] 0),#[]⟩
def aCo:OO:=fun _=>s5 "opened" "Case.opened" (aD (top 48) 13)
def RM:OO:=fun _=>s6 "opened" 878 "Case.opened" 879 880 256 3 553 554 555 556 557 888 889
def W3:OO:=fun _=>s7 "opened" "Case.opened" (aD (top 48) 13) "lidprice.cases" 757 558
def Yv:OO:=fun _=>EY "self" 894 "box" 895 "case" 896
def Zr:OO:=fun _=>s5 "taken" "Case.taken" (aD (top 48) 14)
def Ud:OO:=fun _=>s6 "taken" 891 "Case.taken" 892 893 268 2 560 561 562 563 564 897 898
def Wf:OO:=fun _=>s7 "taken" "Case.taken" (aD (top 48) 14) "lidprice.cases" 757 565
def Xe:OO:=fun _=>ZP "done" 900 "held" 901 "lowest" 902 "present" 903 "spent" 904
def Vy:OO:=fun P=>⟨(.type "dict"),none,(.dict #[E P "__module__" 775 (.str "lidprice.cases" 757),E P "__firstlineno__" 779 (.int 199 778),E P "__init__" 785 (.ref 472),E P "how_many" 792 (.ref 479),E P "need_box" 800 (.ref 486),E P "stand" 808 (.ref 493),E P "cap" 816 (.ref 500),E P "kept" 822 (.ref 505),E P "paid" 829 (.ref 512),E P "had" 835 (.ref 517),E P "deeds" 842 (.ref 524),E P "caps" 852 (.ref 531),E P "debt" 861 (.ref 538),E P "left" 868 (.ref 545),E P "behind" 877 (.ref 552),E P "opened" 890 (.ref 559),E P "taken" 899 (.ref 566),E P "__static_attributes__" 905 (.ref 567),E P "__dict__" 907 (.ref 570),E P "__weakref__" 909 (.ref 571),E P "__doc__" 910 .none] 4),#[]⟩
def Uc:OO:=fun _=>⟨(.type "type"),none,(.cls ⟨"Case",[(.type "object")],[(.ref 569),(.type "object")],568,"Case",true,[],[],false,none,false⟩),#[none,none,(some (.str "Case" 768)),(some (.str "Case" 776)),(some (.builtin "object.__new__")),(some (.bool true))]⟩
def Xw:OO:=fun _=>⟨(.type "getset_descriptor"),none,(.fields #[(.str "__dict__" 906),(.ref 569),(.builtin "function.__dict__"),(.builtin "function.__dict__#set")]),#[]⟩
def Uk:OO:=fun _=>⟨(.type "getset_descriptor"),none,(.fields #[(.str "__weakref__" 908),(.ref 569),(.builtin "ExceptionGroup.__weakref__"),.none]),#[]⟩
def aA0:OO:=fun _=>Ai 569
def Zm:OO:=fun _=>nH 569
def YW:OO:=fun P=>⟨(.type "dict"),none,(.dict #[E P "__name__" 165 (.str "law_lidprice_k22_cases_refused" 913),E P "__doc__" 166 .none,E P "__package__" 167 .none,E P "__loader__" 168 (.builtin "__main__.__loader__#opaque"),E P "__spec__" 169 .none,E P "__annotations__" 170 (.ref 6),E P "__builtins__" 171 (.ref 4),E P "__file__" 173 (.str "/claim/cut.py" 172),E P "__cached__" 174 .none,E P "_wall" 193 (.ref 21),E P "LidError" 213 (.ref 31),E P "NoTable" 229 (.ref 44),E P "NoBox" 245 (.ref 56),E P "NoDeed" 261 (.ref 68),E P "NoSets" 277 (.ref 80),E P "NoOffers" 293 (.ref 92),E P "NoRule" 309 (.ref 104),E P "NoRanks" 325 (.ref 116),E P "NoText" 341 (.ref 128),E P "NoPattern" 368 (.ref 147),E P "NoPlan" 393 (.ref 166),E P "TooMany" 418 (.ref 185),E P "is_whole" 429 (.ref 194),E P "common_divisor" 438 (.ref 201),E P "common_multiple" 447 (.ref 208),E P "share" 456 (.ref 215),E P "whole" 463 (.ref 222),E P "below" 471 (.ref 229),E P "lesser" 479 (.ref 236),E P "MOST_WORTH" 483 (.int 1000000000 482),E P "MOST_WEIGHT" 485 (.int 1000 484),E P "rising" 491 (.ref 241),E P "in_form" 497 (.ref 246),E P "all_weights" 503 (.ref 251),E P "by_weights" 509 (.ref 256),E P "above" 515 (.ref 261),E P "capped" 521 (.ref 266),E P "mixed" 527 (.ref 271),E P "level_for" 533 (.ref 276),E P "MOST_PRICE" 537 (.int 1000000000 536),E P "MOST_STAGE_ROWS" 539 (.int 4 538),E P "MOST_STAGES" 541 (.int 4 540),E P "MOST_ENDS" 543 (.int 12 542),E P "MOST_BOXES" 545 (.int 6 544),E P "Stand" 608 (.ref 321),E P "End" 662 (.ref 370),E P "Stage" 730 (.ref 427),E P "is_stand" 737 (.ref 436),E P "is_stage_row" 744 (.ref 443),E P "is_stage_rows" 750 (.ref 448),E P "need_boxes" 756 (.ref 453),E P "with_thing" 767 (.ref 460),E P "Case" 912 (.ref 569),E P "_law_cell_at" 922 (.ref 580),E P "_law_mixed" 931 (.ref 587),E P "_law_left" 939 (.ref 594),E P "_law_draw" 948 (.ref 601),E P "_law_ends" 954 (.ref 606),E P "_law_model" 962 (.ref 612),E P "_law_object" 968 (.ref 617),E P "_law_models" 974 (.ref 622),E P "_law_boxes" 984 (.ref 629),E P "_law_odd" 994 (.ref 636),E P "_law_lone" 1000 (.ref 641),E P "_law_caught" 1012 (.ref 648),E P "_law_wrong" 1024 (.ref 655),E P "_law_done" 1035 (.ref 662),E P "_law_told" 1041 (.ref 667),E P "_law_no_boxes" 1052 (.ref 674),E P "law" 1064 (.ref 681)] 70),#[]⟩
def YZ:OO:=fun _=>⟨.none,none,(.fields #[(.int 1 0),(.int 0 0),(.ref 20),(.int 5 0),(.int 0 0),(.ref 27),(.int 7 0),(.int 0 0),(.ref 40),(.int 9 0),(.int 0 0),(.ref 52),(.int 11 0),(.int 0 0),(.ref 64),(.int 13 0),(.int 0 0),(.ref 76),(.int 15 0),(.int 0 0),(.ref 88),(.int 17 0),(.int 0 0),(.ref 100),(.int 19 0),(.int 0 0),(.ref 112),(.int 21 0),(.int 0 0),(.ref 124),(.int 23 0),(.int 0 0),(.ref 136),(.int 28 0),(.int 0 0),(.ref 155),(.int 32 0),(.int 0 0),(.ref 174),(.int 37 0),(.int 0 0),(.ref 193),(.int 39 0),(.int 0 0),(.ref 200),(.int 45 0),(.int 0 0),(.ref 207),(.int 50 0),(.int 0 0),(.ref 214),(.int 55 0),(.int 0 0),(.ref 221),(.int 57 0),(.int 0 0),(.ref 228),(.int 59 0),(.int 0 0),(.ref 235),(.int 64 0),(.int 0 0),(.ref 240),(.int 68 0),(.int 0 0),(.ref 245),(.int 76 0),(.int 0 0),(.ref 250),(.int 78 0),(.int 0 0),(.ref 255),(.int 82 0),(.int 0 0),(.ref 260),(.int 85 0),(.int 0 0),(.ref 265),(.int 87 0),(.int 0 0),(.ref 270),(.int 94 0),(.int 0 0),(.ref 275),(.int 111 0),(.int 0 0),(.ref 282),(.int 130 0),(.int 0 0),(.ref 331),(.int 149 0),(.int 0 0),(.ref 378),(.int 181 0),(.int 0 0),(.ref 435),(.int 183 0),(.int 0 0),(.ref 442),(.int 187 0),(.int 0 0),(.ref 447),(.int 191 0),(.int 0 0),(.ref 452),(.int 197 0),(.int 0 0),(.ref 459),(.int 199 0),(.int 0 0),(.ref 466),(.int 275 0),(.int 0 0),(.ref 579),(.int 279 0),(.int 0 0),(.ref 586),(.int 283 0),(.int 0 0),(.ref 593),(.int 285 0),(.int 0 0),(.ref 600),(.int 292 0),(.int 0 0),(.ref 605),(.int 296 0),(.int 0 0),(.ref 611),(.int 307 0),(.int 0 0),(.ref 616),(.int 311 0),(.int 0 0),(.ref 621),(.int 317 0),(.int 0 0),(.ref 628),(.int 326 0),(.int 0 0),(.ref 635),(.int 330 0),(.int 0 0),(.ref 640),(.int 336 0),(.int 0 0),(.ref 647),(.int 354 0),(.int 0 0),(.ref 654),(.int 367 0),(.int 0 0),(.ref 661),(.int 375 0),(.int 0 0),(.ref 666),(.int 378 0),(.int 0 0),(.ref 673),(.int 386 0),(.int 0 0),(.ref 680)]),#[]⟩
def RC:OO:=fun _=>DG "_law_script" 918 "_law_k" 919
def aAq:OO:=fun _=>s5 "_law_cell_at" "_law_cell_at" (top 50)
def Tn:OO:=fun _=>s6 "_law_cell_at" 915 "_law_cell_at" 916 917 275 2 574 575 576 577 578 920 921
def Xg:OO:=fun _=>s7 "_law_cell_at" "_law_cell_at" (top 50) "law_lidprice_k22_cases_refused" 913 579
def Vm:OO:=fun _=>EY "_law_cell" 926 "_law_k" 927 "_law_number" 928
def aA3:OO:=fun _=>s5 "_law_mixed" "_law_mixed" (top 51)
def Vg:OO:=fun _=>s6 "_law_mixed" 923 "_law_mixed" 924 925 279 2 581 582 583 584 585 929 930
def Wg:OO:=fun _=>s7 "_law_mixed" "_law_mixed" (top 51) "law_lidprice_k22_cases_refused" 913 586
def ZD:OO:=fun _=>DG "_law_script" 935 "_law_k" 936
def aBt:OO:=fun _=>s5 "_law_left" "_law_left" (top 52)
def Yg:OO:=fun _=>s6 "_law_left" 932 "_law_left" 933 934 283 2 588 589 590 591 592 937 938
def Vu:OO:=fun _=>s7 "_law_left" "_law_left" (top 52) "law_lidprice_k22_cases_refused" 913 593
def S5:OO:=fun _=>EY "_law_left_here" 943 "_law_many" 944 "_law_number" 945
def aAQ:OO:=fun _=>s5 "_law_draw" "_law_draw" (top 53)
def ZC:OO:=fun _=>s6 "_law_draw" 940 "_law_draw" 941 942 285 2 595 596 597 598 599 946 947
def R7:OO:=fun _=>s7 "_law_draw" "_law_draw" (top 53) "law_lidprice_k22_cases_refused" 913 600
def aBf:OO:=fun _=>s5 "_law_ends" "_law_ends" (top 54)
def Qq:OO:=fun _=>vM "_law_ends" 949 "_law_ends" 950 951 292 1 602 603 604 952 953
def Wh:OO:=fun _=>s7 "_law_ends" "_law_ends" (top 54) "law_lidprice_k22_cases_refused" 913 605
def XN:OO:=fun _=>⟨(.type "tuple"),none,(.seq #[(.int 0 955),(.int 12 956)] 0),#[]⟩
def aAA:OO:=fun _=>s5 "_law_model" "_law_model" (top 55)
def Yk:OO:=fun _=>vM "_law_model" 957 "_law_model" 958 959 296 3 608 609 610 960 961
def WD:OO:=fun _=>⟨(.type "function"),none,(.func (fnO "_law_model" "_law_model" (top 55) (.ref 607) .none .none (.str "law_lidprice_k22_cases_refused" 913) none (.ref 611) .none)),#[]⟩
def Z0:OO:=fun _=>s5 "_law_object" "_law_object" (top 56)
def Ri:OO:=fun _=>vM "_law_object" 963 "_law_object" 964 965 307 1 613 614 615 966 967
def UT:OO:=fun _=>s7 "_law_object" "_law_object" (top 56) "law_lidprice_k22_cases_refused" 913 616
def Zh:OO:=fun _=>s5 "_law_models" "_law_models" (top 57)
def R9:OO:=fun _=>vM "_law_models" 969 "_law_models" 970 971 311 2 618 619 620 972 973
def Xu:OO:=fun _=>s7 "_law_models" "_law_models" (top 57) "law_lidprice_k22_cases_refused" 913 621
def W4:OO:=fun _=>ZQ "_law_models_here" 978 "_law_boxes_here" 979 "_law_k" 980 "_law_first" 981
def aAO:OO:=fun _=>s5 "_law_boxes" "_law_boxes" (top 58)
def S6:OO:=fun _=>s6 "_law_boxes" 975 "_law_boxes" 976 977 317 1 623 624 625 626 627 982 983
def XF:OO:=fun _=>s7 "_law_boxes" "_law_boxes" (top 58) "law_lidprice_k22_cases_refused" 913 628
def Qp:OO:=fun _=>ZQ "_law_cell" 988 "_law_many" 989 "_law_number" 990 "_law_some" 991
def aAv:OO:=fun _=>s5 "_law_odd" "_law_odd" (top 59)
def Vl:OO:=fun _=>s6 "_law_odd" 985 "_law_odd" 986 987 326 2 630 631 632 633 634 992 993
def Vo:OO:=fun _=>s7 "_law_odd" "_law_odd" (top 59) "law_lidprice_k22_cases_refused" 913 635
def aBd:OO:=fun _=>s5 "_law_lone" "_law_lone" (top 60)
def Ye:OO:=fun _=>vM "_law_lone" 995 "_law_lone" 996 997 330 2 637 638 639 998 999
def RD:OO:=fun _=>s7 "_law_lone" "_law_lone" (top 60) "law_lidprice_k22_cases_refused" 913 640
def Yu:OO:=fun _=>⟨(.type "tuple"),none,(.seq #[(.str "_law_case" 1004),(.str "_law_way" 1005),(.str "_law_box" 1006),(.str "_law_row" 1007),(.str "_law_caught_here" 1008),(.str "e" 1009)] 0),#[]⟩
def aBx:OO:=fun _=>s5 "_law_caught" "_law_caught" (top 61)
def Xm:OO:=fun _=>s6 "_law_caught" 1001 "_law_caught" 1002 1003 336 4 642 643 644 645 646 1010 1011
def Xx:OO:=fun _=>s7 "_law_caught" "_law_caught" (top 61) "law_lidprice_k22_cases_refused" 913 647
def W5:OO:=fun _=>⟨(.type "tuple"),none,(.seq #[(.str "_law_case" 1016),(.str "_law_cell" 1017),(.str "_law_many" 1018),(.str "_law_box" 1019),(.str "_law_way" 1020),(.str "_law_rows" 1021)] 0),#[]⟩
def aAN:OO:=fun _=>s5 "_law_wrong" "_law_wrong" (top 62)
def U7:OO:=fun _=>s6 "_law_wrong" 1013 "_law_wrong" 1014 1015 354 3 649 650 651 652 653 1022 1023
def VD:OO:=fun _=>s7 "_law_wrong" "_law_wrong" (top 62) "law_lidprice_k22_cases_refused" 913 654
def Xb:OO:=fun _=>ZP "_law_case" 1028 "_law_cells" 1029 "_law_many" 1030 "_law_cell" 1031 "_law_box" 1032
def Z7:OO:=fun _=>s5 "_law_done" "_law_done" (top 63)
def Wa:OO:=fun _=>s6 "_law_done" 1025 "_law_done" 1026 1027 367 3 656 657 658 659 660 1033 1034
def TY:OO:=fun _=>s7 "_law_done" "_law_done" (top 63) "law_lidprice_k22_cases_refused" 913 661
def aA6:OO:=fun _=>s5 "_law_told" "_law_told" (top 64)
def Us:OO:=fun _=>vM "_law_told" 1036 "_law_told" 1037 1038 375 2 663 664 665 1039 1040
def Xi:OO:=fun _=>s7 "_law_told" "_law_told" (top 64) "law_lidprice_k22_cases_refused" 913 666
def TJ:OO:=fun _=>ZP "_law_cell" 1045 "_law_boxes_here" 1046 "_law_some" 1047 "_law_caught_here" 1048 "e" 1049
def aB5:OO:=fun _=>s5 "_law_no_boxes" "_law_no_boxes" (top 65)
def YX:OO:=fun _=>s6 "_law_no_boxes" 1042 "_law_no_boxes" 1043 1044 378 2 668 669 670 671 672 1050 1051
def R6:OO:=fun _=>s7 "_law_no_boxes" "_law_no_boxes" (top 65) "law_lidprice_k22_cases_refused" 913 673
def Ul:OO:=fun _=>⟨(.type "tuple"),none,(.seq #[(.str "_law_script" 1056),(.str "_law_many" 1057),(.str "_law_boxes_here" 1058),(.str "_law_case" 1059),(.str "_law_due" 1060),(.str "_law_cell" 1061)] 0),#[]⟩
def Zb:OO:=fun _=>s5 "law" "law" (top 66)
def R5:OO:=fun _=>s6 "law" 1053 "law" 1054 1055 386 1 675 676 677 678 679 1062 1063
def RX:OO:=fun _=>s7 "law" "law" (top 66) "law_lidprice_k22_cases_refused" 913 680
def l0 (P:Params):List Obj:=W.boot_o_0 P :: W.boot_o_1 P :: W.boot_o_2 P :: W.boot_o_3 P :: W.boot_o_4 P :: W.boot_o_5 P :: W.boot_o_6 P :: W.boot_o_7 P :: W.boot_o_8 P :: W.boot_o_9 P :: W.boot_o_10 P :: s0 :: s1 :: o13 P :: o14 P :: []
def t0 (P:Params):W.BT:=L2.bt 14 (l0 P)
def l1 (P:Params):List Obj:=L2.Hc (l0 P) [(3,o3 P),(12,YK P)] ++ (s0 :: s1 :: o17 P :: s0 :: o19 P :: o20 P :: o21 P :: o22 P :: s8 :: o24 P :: s0 :: s1 :: o27 P :: o28 P :: s0 :: o30 P :: o31 P :: o32 P :: o33 P :: o34 P :: o35 P :: s8 :: o37 P :: s0 :: s1 :: o40 P :: o41 P :: s0 :: o43 P :: o44 P :: o45 P :: o46 P :: o47 P :: s8 :: o49 P :: s0 :: s1 :: o52 P :: o53 P :: s0 :: o55 P :: o56 P :: o57 P :: o58 P :: o59 P :: s8 :: o61 P :: s0 :: s1 :: o64 P :: o65 P :: s0 :: o67 P :: o68 P :: o69 P :: o70 P :: o71 P :: s8 :: o73 P :: s0 :: s1 :: o76 P :: o77 P :: s0 :: o79 P :: o80 P :: o81 P :: o82 P :: o83 P :: s8 :: o85 P :: s0 :: s1 :: o88 P :: o89 P :: s0 :: o91 P :: o92 P :: o93 P :: o94 P :: [])
def t1 (P:Params):W.BT:=L2.bt 14 (l1 P)
def l2 (P:Params):List Obj:=L2.Hc (l1 P) [(3,aBF P),(12,Vd P),(31,Nz P)] ++ (o95 P :: s8 :: o97 P :: s0 :: s1 :: Zd P :: aAc P :: s0 :: U6 P :: Uv P :: aAa P :: Zw P :: V5 P :: s8 :: aB1 P :: s0 :: s1 :: aCp P :: aBR P :: s0 :: UG P :: XJ P :: aAB P :: aAI P :: Yy P :: s8 :: aAg P :: s0 :: s1 :: aBk P :: aCi P :: s0 :: Rj P :: UJ P :: aCc P :: aBY P :: Tu P :: s8 :: aCl P :: s0 :: aBl P :: Zx P :: aAt P :: s0 :: s1 :: Xh P :: s0 :: Zv P :: UL P :: W9 P :: Xj P :: W7 P :: Qy P :: aBq P :: aAp P :: U0 P :: s8 :: aBn P :: s0 :: aBP P :: aBS P :: aAs P :: s0 :: s1 :: ZG P :: s0 :: aCf P :: Va P :: X4 P :: Xp P :: Ue P :: XR P :: aBr P :: aA1 P :: RZ P :: s8 :: aCe P :: s0 :: aAe P :: aAR P :: aCh P :: s0 :: s1 :: Tj P :: s0 :: aB7 P :: Wb P :: Qz P :: VB P :: Sy P :: U3 P :: aAy P :: Zo P :: [])
def t2 (P:Params):W.BT:=L2.bt 14 (l2 P)
def l3 (P:Params):List Obj:=L2.Hc (l2 P) [(3,aBi P),(12,Yw P)] ++ (s0 :: s1 :: Tr P :: s0 :: aCj P :: We P :: Y8 P :: s0 :: s1 :: X7 P :: s0 :: aCm P :: Ra P :: Qw P :: s0 :: s1 :: Xk P :: s0 :: aCb P :: Xl P :: Td P :: s0 :: s1 :: Uw P :: s0 :: aB3 P :: UV P :: Rn P :: s0 :: s1 :: Tv P :: s0 :: aBb P :: Rf P :: Vf P :: s0 :: s1 :: V4 P :: s0 :: aAK P :: YQ P :: Vw P :: s0 :: s1 :: V8 P :: s0 :: Zu P :: Uu P :: Vb P :: s0 :: s1 :: aA8 P :: XD P :: Yr P :: s0 :: s1 :: Z9 P :: Y0 P :: Ua P :: s0 :: s1 :: aBA P :: Yh P :: YF P :: s0 :: s1 :: aAG P :: Tw P :: Yl P :: s0 :: s1 :: aAk P :: Vx P :: SQ P :: s0 :: s1 :: aB0 P :: X6 P :: Xv P :: s0 :: s1 :: aBC P :: YJ P :: Wo P :: s0 :: s1 :: aAo P :: Wm P :: Wx P :: s0 :: s8 :: aAf P :: s0 :: aA4 P :: aBh P :: aBe P :: s0 :: s1 :: YL P :: s0 :: aB9 P :: Uq P :: Qu P :: s0 :: s1 :: Yd P :: s0 :: aAC P :: Um P :: Sw P :: s0 :: s1 :: Rz P :: s0 :: aBJ P :: Th P :: Xa P :: s0 :: s1 :: Rg P :: s0 :: aA7 P :: Uo P :: Uy P :: s0 :: s1 :: Rh P :: s0 :: aAE P :: V9 P :: Xq P :: YC P :: W8 P :: Zq P :: Xf P :: V0 P :: aAW P :: aAJ P :: WM P :: s8 :: aBN P :: s0 :: aAj P :: Zn P :: aCn P :: s0 :: s1 :: V1 P :: s0 :: aBj P :: SX P :: Ru P :: s0 :: s1 :: Vj P :: s0 :: Z3 P :: VG P :: ZK P :: s0 :: s1 :: Sx P :: s0 :: Z6 P :: Yz P :: X8 P :: s0 :: s1 :: Qv P :: s0 :: aCq P :: Rt P :: R4 P :: s0 :: s1 :: WF P :: s0 :: Zy P :: Vn P :: Rb P :: Ss P :: WY P :: W2 P :: aBp P :: aAH P :: [])
def t3 (P:Params):W.BT:=L2.bt 14 (l3 P)
def l4 (P:Params):List Obj:=L2.Hc (l3 P) [(3,aBc P),(12,Yt P),(321,K7 P)] ++ (RT P :: s8 :: aAX P :: s0 :: aAi P :: aAl P :: aCg P :: s0 :: s1 :: Z8 P :: VL P :: Yo P :: s0 :: s1 :: Vc P :: s0 :: aAV P :: R0 P :: V3 P :: s0 :: s1 :: V2 P :: s0 :: aAS P :: Yc P :: Ry P :: s0 :: s1 :: WK P :: s0 :: aAx P :: Te P :: Tg P :: s0 :: s1 :: VJ P :: s0 :: aBG P :: R8 P :: Wr P :: s0 :: s1 :: Ug P :: s0 :: aAY P :: Wk P :: VN P :: s0 :: s1 :: aBO P :: U4 P :: RW P :: VP P :: S9 P :: Yq P :: aBX P :: Zk P :: s0 :: s1 :: Wc P :: s0 :: Zi P :: Rc P :: Sv P :: s0 :: s1 :: VH P :: s0 :: ZZ P :: Wj P :: WQ P :: s0 :: s1 :: aBW P :: XC P :: Vi P :: s0 :: s1 :: aBH P :: Yp P :: Ww P :: s0 :: s1 :: Qx P :: s0 :: aBT P :: Ui P :: YH P :: s0 :: s8 :: aBK P :: s0 :: Z1 P :: aAZ P :: Z5 P :: s0 :: s1 :: aAm P :: Ym P :: Xz P :: s0 :: s1 :: Xn P :: s0 :: aBm P :: Yx P :: TV P :: s0 :: s1 :: Wl P :: s0 :: aAh P :: Vp P :: Wz P :: s0 :: s1 :: Vv P :: s0 :: aAb P :: Ws P :: V7 P :: s0 :: s1 :: U8 P :: s0 :: aA5 P :: Rx P :: U9 P :: s0 :: s1 :: aBV P :: S7 P :: Sh P :: s0 :: s1 :: Yb P :: s0 :: aBs P :: UW P :: YS P :: s0 :: s1 :: aBB P :: SM P :: YB P :: s0 :: s1 :: Tt P :: s0 :: aAP P :: Ys P :: W6 P :: s0 :: s1 :: RB P :: s0 :: Zz P :: Rr P :: Wq P :: s0 :: s1 :: Xr P :: s0 :: aBZ P :: XQ P :: Vr P :: s0 :: s1 :: Vq P :: s0 :: Zf P :: ZF P :: WL P :: s0 :: s1 :: Vs P :: s0 :: aAU P :: Up P :: Vh P :: s0 :: s1 :: X3 P :: s0 :: aCo P :: RM P :: W3 P :: s0 :: s1 :: Yv P :: s0 :: Zr P :: Ud P :: Wf P :: Xe P :: Vy P :: Uc P :: Xw P :: Uk P :: aA0 P :: Zm P :: [])
def t4 (P:Params):W.BT:=L2.bt 14 (l4 P)
def l5 (P:Params):List Obj:=L2.Hc (l4 P) [(3,YW P),(12,YZ P)] ++ (s0 :: s1 :: RC P :: s0 :: aAq P :: Tn P :: Xg P :: s0 :: s1 :: Vm P :: s0 :: aA3 P :: Vg P :: Wg P :: s0 :: s1 :: ZD P :: s0 :: aBt P :: Yg P :: Vu P :: s0 :: s1 :: S5 P :: s0 :: aAQ P :: ZC P :: R7 P :: s0 :: s1 :: aBf P :: Qq P :: Wh P :: XN P :: s0 :: s1 :: aAA P :: Yk P :: WD P :: s0 :: s1 :: Z0 P :: Ri P :: UT P :: s0 :: s1 :: Zh P :: R9 P :: Xu P :: s0 :: s1 :: W4 P :: s0 :: aAO P :: S6 P :: XF P :: s0 :: s1 :: Qp P :: s0 :: aAv P :: Vl P :: Vo P :: s0 :: s1 :: aBd P :: Ye P :: RD P :: s0 :: s1 :: Yu P :: s0 :: aBx P :: Xm P :: Xx P :: s0 :: s1 :: W5 P :: s0 :: aAN P :: U7 P :: VD P :: s0 :: s1 :: Xb P :: s0 :: Z7 P :: Wa P :: TY P :: s0 :: s1 :: aA6 P :: Us P :: Xi P :: s0 :: s1 :: TJ P :: s0 :: aB5 P :: YX P :: R6 P :: s0 :: s1 :: Ul P :: s0 :: Zb P :: R5 P :: RX P :: [])
def t5 (P:Params):W.BT:=L2.bt 14 (l5 P)
def v9:Env:={ scope:=PySem.Challenge.pw_lidprice_k22_cases_refused.main.scope,locals:=mainNs,globals:=mainNs,cells:=[],code:=(.ref 13),frame:=some 14 }
def g1:List Stmt:=[top 0,top 1,top 2,top 3,top 4,top 5,top 6,top 7]
def g2:List Stmt:=[top 8,top 9,top 10,top 11,top 12,top 13]
def g3:List Stmt:=[top 14,top 15,top 16,top 17,top 18,top 19,top 20,top 21,top 22,top 23,top 24,top 25,top 26,top 27,top 28,top 29,top 30,top 31,top 32,top 33,top 34,top 35,top 36,top 37,top 38,top 39,top 40]
def g4:List Stmt:=[top 41,top 42,top 43,top 44,top 45,top 46,top 47,top 48]
def g5:List Stmt:=[top 49,top 50,top 51,top 52,top 53,top 54,top 55,top 56,top 57,top 58,top 59,top 60,top 61,top 62,top 63,top 64,top 65,top 66]
def gs:List Stmt:=g1 ++ (g2 ++ (g3 ++ (g4 ++ (g5 ++ []))))
def jC:Code:=.body gs v9
theorem Zg (w:World) (os:OsState):W.segRunT PySem.treeTable PySem.Challenge.pw_lidprice_k22_cases_refused w 11 (some (.ref 6)) 1 1290 (yG (t0 w.params) 15 187 os) (W.piecesOf g1 v9 jC ⟨0,0,0,0⟩ [W.topFrame ⟨0,0,0,0⟩])=some (.next,yG (t1 w.params) 95 294 os,jC,⟨15,0,16,8⟩):=by kernel_rfl
theorem aBE (w:World) (os:OsState):W.segRunT PySem.treeTable PySem.Challenge.pw_lidprice_k22_cases_refused w 11 (some (.ref 6)) 1 1377 (yG (t1 w.params) 95 294 os) (W.piecesOf g2 v9 jC ⟨15,0,16,8⟩ [W.topFrame ⟨0,0,0,0⟩])=some (.next,yG (t2 w.params) 188 419 os,jC,⟨32,0,35,24⟩):=by kernel_rfl
theorem aBQ (w:World) (os:OsState):W.segRunT PySem.treeTable PySem.Challenge.pw_lidprice_k22_cases_refused w 11 (some (.ref 6)) 1 1234 (yG (t2 w.params) 188 419 os) (W.piecesOf g3 v9 jC ⟨32,0,35,24⟩ [W.topFrame ⟨0,0,0,0⟩])=some (.next,yG (t3 w.params) 373 663 os,jC,⟨130,0,148,34⟩):=by kernel_rfl
theorem Zc (w:World) (os:OsState):W.segRunT PySem.treeTable PySem.Challenge.pw_lidprice_k22_cases_refused w 11 (some (.ref 6)) 1 1247 (yG (t3 w.params) 373 663 os) (W.piecesOf g4 v9 jC ⟨130,0,148,34⟩ [W.topFrame ⟨0,0,0,0⟩])=some (.next,yG (t4 w.params) 574 913 os,jC,⟨199,0,273,19⟩):=by kernel_rfl
theorem aCd (w:World) (os:OsState):W.segRunT PySem.treeTable PySem.Challenge.pw_lidprice_k22_cases_refused w 11 (some (.ref 6)) 1 523 (yG (t4 w.params) 574 913 os) (W.piecesOf g5 v9 jC ⟨199,0,273,19⟩ [W.topFrame ⟨0,0,0,0⟩])=some (.next,yG (t5 w.params) 682 1065 os,jC,⟨386,0,396,54⟩):=by kernel_rfl
theorem aBv (w:World) (os:OsState):W.topRun PySem.treeTable PySem.Challenge.pw_lidprice_k22_cases_refused w 11 (some (.ref 6)) 2 (yG (t5 w.params) 682 1065 os).abs (W.restOf [] v9 jC ⟨386,0,396,54⟩ [W.topFrame ⟨0,0,0,0⟩])=some (yG (t5 w.params) 682 1065 os).abs:=by kernel_rfl
theorem aB8 (w:World) (os:OsState):W.topGo PySem.treeTable PySem.Challenge.pw_lidprice_k22_cases_refused w 11 (some (.ref 6)) 12 ⟨W.boot_heap w.params,Array.mk [],W.boot_drawn,W.boot_toks,os⟩ (W.topStub PySem.Challenge.pw_lidprice_k22_cases_refused)=some ((yG (t0 w.params) 15 187 os).abs,⟨denote PySem.treeTable (.body gs v9),jC,⟨0,0,0,0⟩,[W.topFrame ⟨0,0,0,0⟩]⟩):=by kernel_rfl
theorem aBu (w:World) (os:OsState):W.segRun PySem.treeTable PySem.Challenge.pw_lidprice_k22_cases_refused w 11 (some (.ref 6)) 1 1 (yG (t0 w.params) 15 187 os).abs (W.blockOf gs v9 jC ⟨0,0,0,0⟩ [W.topFrame ⟨0,0,0,0⟩])=some (.next,(yG (t0 w.params) 15 187 os).abs,jC,⟨0,0,0,0⟩):=by kernel_rfl
def wL (P:Params):W.Frag :=
(nat_lit 2,W.boot_o_2 P) ::
(nat_lit 3,YW P) ::
(nat_lit 15,s0) ::
(nat_lit 17,o17 P) ::
(nat_lit 18,s0) ::
(nat_lit 20,o20 P) ::
(nat_lit 21,o21 P) ::
(nat_lit 22,o22 P) ::
(nat_lit 29,s0) ::
(nat_lit 30,o30 P) ::
(nat_lit 31,Nz P) ::
(nat_lit 32,o32 P) ::
(nat_lit 35,o35 P) ::
(nat_lit 42,s0) ::
(nat_lit 43,o43 P) ::
(nat_lit 44,o44 P) ::
(nat_lit 47,o47 P) ::
(nat_lit 54,s0) ::
(nat_lit 55,o55 P) ::
(nat_lit 56,o56 P) ::
(nat_lit 59,o59 P) ::
(nat_lit 66,s0) ::
(nat_lit 67,o67 P) ::
(nat_lit 68,o68 P) ::
(nat_lit 71,o71 P) ::
(nat_lit 78,s0) ::
(nat_lit 79,o79 P) ::
(nat_lit 80,o80 P) ::
(nat_lit 83,o83 P) ::
(nat_lit 90,s0) ::
(nat_lit 91,o91 P) ::
(nat_lit 92,o92 P) ::
(nat_lit 95,o95 P) ::
(nat_lit 102,s0) ::
(nat_lit 103,U6 P) ::
(nat_lit 104,Uv P) ::
(nat_lit 107,V5 P) ::
(nat_lit 114,s0) ::
(nat_lit 115,UG P) ::
(nat_lit 116,XJ P) ::
(nat_lit 119,Yy P) ::
(nat_lit 126,s0) ::
(nat_lit 127,Rj P) ::
(nat_lit 128,UJ P) ::
(nat_lit 131,Tu P) ::
(nat_lit 138,s0) ::
(nat_lit 140,Xh P) ::
(nat_lit 141,s0) ::
(nat_lit 143,UL P) ::
(nat_lit 144,W9 P) ::
(nat_lit 145,Xj P) ::
(nat_lit 146,W7 P) ::
(nat_lit 147,Qy P) ::
(nat_lit 150,U0 P) ::
(nat_lit 157,s0) ::
(nat_lit 159,ZG P) ::
(nat_lit 160,s0) ::
(nat_lit 162,Va P) ::
(nat_lit 163,X4 P) ::
(nat_lit 164,Xp P) ::
(nat_lit 165,Ue P) ::
(nat_lit 166,XR P) ::
(nat_lit 169,RZ P) ::
(nat_lit 176,s0) ::
(nat_lit 178,Tj P) ::
(nat_lit 179,s0) ::
(nat_lit 181,Wb P) ::
(nat_lit 182,Qz P) ::
(nat_lit 183,VB P) ::
(nat_lit 184,Sy P) ::
(nat_lit 185,U3 P) ::
(nat_lit 188,s0) ::
(nat_lit 190,Tr P) ::
(nat_lit 191,s0) ::
(nat_lit 193,We P) ::
(nat_lit 194,Y8 P) ::
(nat_lit 195,s0) ::
(nat_lit 197,X7 P) ::
(nat_lit 198,s0) ::
(nat_lit 200,Ra P) ::
(nat_lit 201,Qw P) ::
(nat_lit 202,s0) ::
(nat_lit 204,Xk P) ::
(nat_lit 205,s0) ::
(nat_lit 207,Xl P) ::
(nat_lit 208,Td P) ::
(nat_lit 209,s0) ::
(nat_lit 211,Uw P) ::
(nat_lit 212,s0) ::
(nat_lit 214,UV P) ::
(nat_lit 215,Rn P) ::
(nat_lit 216,s0) ::
(nat_lit 218,Tv P) ::
(nat_lit 219,s0) ::
(nat_lit 221,Rf P) ::
(nat_lit 222,Vf P) ::
(nat_lit 223,s0) ::
(nat_lit 225,V4 P) ::
(nat_lit 226,s0) ::
(nat_lit 228,YQ P) ::
(nat_lit 229,Vw P) ::
(nat_lit 230,s0) ::
(nat_lit 232,V8 P) ::
(nat_lit 233,s0) ::
(nat_lit 235,Uu P) ::
(nat_lit 236,Vb P) ::
(nat_lit 237,s0) ::
(nat_lit 240,XD P) ::
(nat_lit 241,Yr P) ::
(nat_lit 242,s0) ::
(nat_lit 245,Y0 P) ::
(nat_lit 246,Ua P) ::
(nat_lit 247,s0) ::
(nat_lit 250,Yh P) ::
(nat_lit 251,YF P) ::
(nat_lit 252,s0) ::
(nat_lit 255,Tw P) ::
(nat_lit 256,Yl P) ::
(nat_lit 257,s0) ::
(nat_lit 260,Vx P) ::
(nat_lit 261,SQ P) ::
(nat_lit 262,s0) ::
(nat_lit 265,X6 P) ::
(nat_lit 266,Xv P) ::
(nat_lit 267,s0) ::
(nat_lit 270,YJ P) ::
(nat_lit 271,Wo P) ::
(nat_lit 272,s0) ::
(nat_lit 275,Wm P) ::
(nat_lit 276,Wx P) ::
(nat_lit 284,s0) ::
(nat_lit 286,YL P) ::
(nat_lit 287,s0) ::
(nat_lit 289,Uq P) ::
(nat_lit 290,Qu P) ::
(nat_lit 291,s0) ::
(nat_lit 293,Yd P) ::
(nat_lit 294,s0) ::
(nat_lit 296,Um P) ::
(nat_lit 297,Sw P) ::
(nat_lit 298,s0) ::
(nat_lit 300,Rz P) ::
(nat_lit 301,s0) ::
(nat_lit 303,Th P) ::
(nat_lit 304,Xa P) ::
(nat_lit 305,s0) ::
(nat_lit 307,Rg P) ::
(nat_lit 308,s0) ::
(nat_lit 310,Uo P) ::
(nat_lit 311,Uy P) ::
(nat_lit 312,s0) ::
(nat_lit 314,Rh P) ::
(nat_lit 315,s0) ::
(nat_lit 317,V9 P) ::
(nat_lit 318,Xq P) ::
(nat_lit 319,YC P) ::
(nat_lit 320,W8 P) ::
(nat_lit 321,K7 P) ::
(nat_lit 322,Xf P) ::
(nat_lit 323,V0 P) ::
(nat_lit 326,WM P) ::
(nat_lit 333,s0) ::
(nat_lit 335,V1 P) ::
(nat_lit 336,s0) ::
(nat_lit 338,SX P) ::
(nat_lit 339,Ru P) ::
(nat_lit 340,s0) ::
(nat_lit 342,Vj P) ::
(nat_lit 343,s0) ::
(nat_lit 345,VG P) ::
(nat_lit 346,ZK P) ::
(nat_lit 347,s0) ::
(nat_lit 349,Sx P) ::
(nat_lit 350,s0) ::
(nat_lit 352,Yz P) ::
(nat_lit 353,X8 P) ::
(nat_lit 354,s0) ::
(nat_lit 356,Qv P) ::
(nat_lit 357,s0) ::
(nat_lit 359,Rt P) ::
(nat_lit 360,R4 P) ::
(nat_lit 361,s0) ::
(nat_lit 363,WF P) ::
(nat_lit 364,s0) ::
(nat_lit 366,Vn P) ::
(nat_lit 367,Rb P) ::
(nat_lit 368,Ss P) ::
(nat_lit 369,WY P) ::
(nat_lit 370,W2 P) ::
(nat_lit 373,RT P) ::
(nat_lit 380,s0) ::
(nat_lit 383,VL P) ::
(nat_lit 384,Yo P) ::
(nat_lit 385,s0) ::
(nat_lit 387,Vc P) ::
(nat_lit 388,s0) ::
(nat_lit 390,R0 P) ::
(nat_lit 391,V3 P) ::
(nat_lit 392,s0) ::
(nat_lit 394,V2 P) ::
(nat_lit 395,s0) ::
(nat_lit 397,Yc P) ::
(nat_lit 398,Ry P) ::
(nat_lit 399,s0) ::
(nat_lit 401,WK P) ::
(nat_lit 402,s0) ::
(nat_lit 404,Te P) ::
(nat_lit 405,Tg P) ::
(nat_lit 406,s0) ::
(nat_lit 408,VJ P) ::
(nat_lit 409,s0) ::
(nat_lit 411,R8 P) ::
(nat_lit 412,Wr P) ::
(nat_lit 413,s0) ::
(nat_lit 415,Ug P) ::
(nat_lit 416,s0) ::
(nat_lit 418,Wk P) ::
(nat_lit 419,VN P) ::
(nat_lit 420,s0) ::
(nat_lit 423,U4 P) ::
(nat_lit 424,RW P) ::
(nat_lit 425,VP P) ::
(nat_lit 426,S9 P) ::
(nat_lit 427,Yq P) ::
(nat_lit 430,s0) ::
(nat_lit 432,Wc P) ::
(nat_lit 433,s0) ::
(nat_lit 435,Rc P) ::
(nat_lit 436,Sv P) ::
(nat_lit 437,s0) ::
(nat_lit 439,VH P) ::
(nat_lit 440,s0) ::
(nat_lit 442,Wj P) ::
(nat_lit 443,WQ P) ::
(nat_lit 444,s0) ::
(nat_lit 447,XC P) ::
(nat_lit 448,Vi P) ::
(nat_lit 449,s0) ::
(nat_lit 452,Yp P) ::
(nat_lit 453,Ww P) ::
(nat_lit 454,s0) ::
(nat_lit 456,Qx P) ::
(nat_lit 457,s0) ::
(nat_lit 459,Ui P) ::
(nat_lit 460,YH P) ::
(nat_lit 468,s0) ::
(nat_lit 471,Ym P) ::
(nat_lit 472,Xz P) ::
(nat_lit 473,s0) ::
(nat_lit 475,Xn P) ::
(nat_lit 476,s0) ::
(nat_lit 478,Yx P) ::
(nat_lit 479,TV P) ::
(nat_lit 480,s0) ::
(nat_lit 482,Wl P) ::
(nat_lit 483,s0) ::
(nat_lit 485,Vp P) ::
(nat_lit 486,Wz P) ::
(nat_lit 487,s0) ::
(nat_lit 489,Vv P) ::
(nat_lit 490,s0) ::
(nat_lit 492,Ws P) ::
(nat_lit 493,V7 P) ::
(nat_lit 494,s0) ::
(nat_lit 496,U8 P) ::
(nat_lit 497,s0) ::
(nat_lit 499,Rx P) ::
(nat_lit 500,U9 P) ::
(nat_lit 501,s0) ::
(nat_lit 504,S7 P) ::
(nat_lit 505,Sh P) ::
(nat_lit 506,s0) ::
(nat_lit 508,Yb P) ::
(nat_lit 509,s0) ::
(nat_lit 511,UW P) ::
(nat_lit 512,YS P) ::
(nat_lit 513,s0) ::
(nat_lit 516,SM P) ::
(nat_lit 517,YB P) ::
(nat_lit 518,s0) ::
(nat_lit 520,Tt P) ::
(nat_lit 521,s0) ::
(nat_lit 523,Ys P) ::
(nat_lit 524,W6 P) ::
(nat_lit 525,s0) ::
(nat_lit 527,RB P) ::
(nat_lit 528,s0) ::
(nat_lit 530,Rr P) ::
(nat_lit 531,Wq P) ::
(nat_lit 532,s0) ::
(nat_lit 534,Xr P) ::
(nat_lit 535,s0) ::
(nat_lit 537,XQ P) ::
(nat_lit 538,Vr P) ::
(nat_lit 539,s0) ::
(nat_lit 541,Vq P) ::
(nat_lit 542,s0) ::
(nat_lit 544,ZF P) ::
(nat_lit 545,WL P) ::
(nat_lit 546,s0) ::
(nat_lit 548,Vs P) ::
(nat_lit 549,s0) ::
(nat_lit 551,Up P) ::
(nat_lit 552,Vh P) ::
(nat_lit 553,s0) ::
(nat_lit 555,X3 P) ::
(nat_lit 556,s0) ::
(nat_lit 558,RM P) ::
(nat_lit 559,W3 P) ::
(nat_lit 560,s0) ::
(nat_lit 562,Yv P) ::
(nat_lit 563,s0) ::
(nat_lit 565,Ud P) ::
(nat_lit 566,Wf P) ::
(nat_lit 567,Xe P) ::
(nat_lit 568,Vy P) ::
(nat_lit 569,Uc P) ::
(nat_lit 570,Xw P) ::
(nat_lit 571,Uk P) ::
(nat_lit 574,s0) ::
(nat_lit 576,RC P) ::
(nat_lit 577,s0) ::
(nat_lit 579,Tn P) ::
(nat_lit 580,Xg P) ::
(nat_lit 581,s0) ::
(nat_lit 583,Vm P) ::
(nat_lit 584,s0) ::
(nat_lit 586,Vg P) ::
(nat_lit 587,Wg P) ::
(nat_lit 588,s0) ::
(nat_lit 590,ZD P) ::
(nat_lit 591,s0) ::
(nat_lit 593,Yg P) ::
(nat_lit 594,Vu P) ::
(nat_lit 595,s0) ::
(nat_lit 597,S5 P) ::
(nat_lit 598,s0) ::
(nat_lit 600,ZC P) ::
(nat_lit 601,R7 P) ::
(nat_lit 602,s0) ::
(nat_lit 605,Qq P) ::
(nat_lit 606,Wh P) ::
(nat_lit 607,XN P) ::
(nat_lit 608,s0) ::
(nat_lit 611,Yk P) ::
(nat_lit 612,WD P) ::
(nat_lit 613,s0) ::
(nat_lit 616,Ri P) ::
(nat_lit 617,UT P) ::
(nat_lit 618,s0) ::
(nat_lit 621,R9 P) ::
(nat_lit 622,Xu P) ::
(nat_lit 623,s0) ::
(nat_lit 625,W4 P) ::
(nat_lit 626,s0) ::
(nat_lit 628,S6 P) ::
(nat_lit 629,XF P) ::
(nat_lit 630,s0) ::
(nat_lit 632,Qp P) ::
(nat_lit 633,s0) ::
(nat_lit 635,Vl P) ::
(nat_lit 636,Vo P) ::
(nat_lit 637,s0) ::
(nat_lit 640,Ye P) ::
(nat_lit 641,RD P) ::
(nat_lit 642,s0) ::
(nat_lit 644,Yu P) ::
(nat_lit 645,s0) ::
(nat_lit 647,Xm P) ::
(nat_lit 648,Xx P) ::
(nat_lit 649,s0) ::
(nat_lit 651,W5 P) ::
(nat_lit 652,s0) ::
(nat_lit 654,U7 P) ::
(nat_lit 655,VD P) ::
(nat_lit 656,s0) ::
(nat_lit 658,Xb P) ::
(nat_lit 659,s0) ::
(nat_lit 661,Wa P) ::
(nat_lit 662,TY P) ::
(nat_lit 663,s0) ::
(nat_lit 666,Us P) ::
(nat_lit 667,Xi P) ::
(nat_lit 668,s0) ::
(nat_lit 670,TJ P) ::
(nat_lit 671,s0) ::
(nat_lit 673,YX P) ::
(nat_lit 674,R6 P) ::
(nat_lit 675,s0) ::
(nat_lit 677,Ul P) ::
(nat_lit 678,s0) ::
(nat_lit 680,R5 P) ::
(nat_lit 681,RX P) :: []
def Qo:List Addr:=2 :: 3 :: 15 :: 17 :: 18 :: 20 :: 21 :: 22 :: 29 :: 30 :: 31 :: 32 :: 35 :: 42 :: 43 :: 44 :: 47 :: 54 :: 55 :: 56 :: 59 :: 66 :: 67 :: 68 :: 71 :: 78 :: 79 :: 80 :: 83 :: 90 :: 91 :: 92 :: 95 :: 102 :: 103 :: 104 :: 107 :: 114 :: 115 :: 116 :: 119 :: 126 :: 127 :: 128 :: 131 :: 138 :: 140 :: 141 :: 143 :: 144 :: 145 :: 146 :: 147 :: 150 :: 157 :: 159 :: 160 :: 162 :: 163 :: 164 :: 165 :: 166 :: 169 :: 176 :: 178 :: 179 :: 181 :: 182 :: 183 :: 184 :: 185 :: 188 :: 190 :: 191 :: 193 :: 194 :: 195 :: 197 :: 198 :: 200 :: 201 :: 202 :: 204 :: 205 :: 207 :: 208 :: 209 :: 211 :: 212 :: 214 :: 215 :: 216 :: 218 :: 219 :: 221 :: 222 :: 223 :: 225 :: 226 :: 228 :: 229 :: 230 :: 232 :: 233 :: 235 :: 236 :: 237 :: 240 :: 241 :: 242 :: 245 :: 246 :: 247 :: 250 :: 251 :: 252 :: 255 :: 256 :: 257 :: 260 :: 261 :: 262 :: 265 :: 266 :: 267 :: 270 :: 271 :: 272 :: 275 :: 276 :: 284 :: 286 :: 287 :: 289 :: 290 :: 291 :: 293 :: 294 :: 296 :: 297 :: 298 :: 300 :: 301 :: 303 :: 304 :: 305 :: 307 :: 308 :: 310 :: 311 :: 312 :: 314 :: 315 :: 317 :: 318 :: 319 :: 320 :: 321 :: 322 :: 323 :: 326 :: 333 :: 335 :: 336 :: 338 :: 339 :: 340 :: 342 :: 343 :: 345 :: 346 :: 347 :: 349 :: 350 :: 352 :: 353 :: 354 :: 356 :: 357 :: 359 :: 360 :: 361 :: 363 :: 364 :: 366 :: 367 :: 368 :: 369 :: 370 :: 373 :: 380 :: 383 :: 384 :: 385 :: 387 :: 388 :: 390 :: 391 :: 392 :: 394 :: 395 :: 397 :: 398 :: 399 :: 401 :: 402 :: 404 :: 405 :: 406 :: 408 :: 409 :: 411 :: 412 :: 413 :: 415 :: 416 :: 418 :: 419 :: 420 :: 423 :: 424 :: 425 :: 426 :: 427 :: 430 :: 432 :: 433 :: 435 :: 436 :: 437 :: 439 :: 440 :: 442 :: 443 :: 444 :: 447 :: 448 :: 449 :: 452 :: 453 :: 454 :: 456 :: 457 :: 459 :: 460 :: 468 :: 471 :: 472 :: 473 :: 475 :: 476 :: 478 :: 479 :: 480 :: 482 :: 483 :: 485 :: 486 :: 487 :: 489 :: 490 :: 492 :: 493 :: 494 :: 496 :: 497 :: 499 :: 500 :: 501 :: 504 :: 505 :: 506 :: 508 :: 509 :: 511 :: 512 :: 513 :: 516 :: 517 :: 518 :: 520 :: 521 :: 523 :: 524 :: 525 :: 527 :: 528 :: 530 :: 531 :: 532 :: 534 :: 535 :: 537 :: 538 :: 539 :: 541 :: 542 :: 544 :: 545 :: 546 :: 548 :: 549 :: 551 :: 552 :: 553 :: 555 :: 556 :: 558 :: 559 :: 560 :: 562 :: 563 :: 565 :: 566 :: 567 :: 568 :: 569 :: 570 :: 571 :: 574 :: 576 :: 577 :: 579 :: 580 :: 581 :: 583 :: 584 :: 586 :: 587 :: 588 :: 590 :: 591 :: 593 :: 594 :: 595 :: 597 :: 598 :: 600 :: 601 :: 602 :: 605 :: 606 :: 607 :: 608 :: 611 :: 612 :: 613 :: 616 :: 617 :: 618 :: 621 :: 622 :: 623 :: 625 :: 626 :: 628 :: 629 :: 630 :: 632 :: 633 :: 635 :: 636 :: 637 :: 640 :: 641 :: 642 :: 644 :: 645 :: 647 :: 648 :: 649 :: 651 :: 652 :: 654 :: 655 :: 656 :: 658 :: 659 :: 661 :: 662 :: 663 :: 666 :: 667 :: 668 :: 670 :: 671 :: 673 :: 674 :: 675 :: 677 :: 678 :: 680 :: 681 :: []
theorem BJ:∀ P,Qo=(wL P).map (·.1):=fun _=>by kernel_rfl
def vw:Program:={ PySem.Challenge.pw_lidprice_k22_cases_refused with main:={ (PySem.Challenge.pw_lidprice_k22_cases_refused).main with body:=[top 0,top 2,top 3,top 4,top 5,top 6,top 7,top 8,top 9,top 10,top 11,top 12,top 13,top 15,top 16,top 17,top 18,top 19,top 20,top 21,top 23,top 24,top 25,top 26,top 27,top 28,top 29,top 30,top 31,top 32,top 34,top 35,top 36,top 37,top 38,top 39,top 40,top 41,top 42,top 43,top 44,top 45,top 47,top 48,top 50,top 51,top 52,top 53,top 54,top 56,top 57,top 58,top 59,top 60,top 61,top 62,top 63,top 64,top 65,top 66] } }
def xtK (s:Shared):Bool:=W.xlAt vw [] s && W.recOk (W.RowW.records (W.OpenRow.toRowW (W.OpenLaw.row PySem.Challenge.rw_lidprice_k22_cases_refused))) s
theorem Uh:W.LeftO PySem.Challenge.pw_lidprice_k22_cases_refused vw ["_law_model"] xtK (W.Hook.obs (W.kHook wL Qo BJ)) (W.Hook.val (W.kHook wL Qo BJ)) 12058 :=
 L2.Ib (Tb:=t0) (Tf:=t5) (nf:=682) (kf:=1065) (env:=v9) (C:=jC) (gs:=gs) (m0:=11) (ann:=(some (.ref 6))) (by kernel_rfl) (by decide) (fun _=>by kernel_rfl) (fun _=>by kernel_rfl) aB8 aBu (c:=1290 + (1377 + (1234 + (1247 + (523 + (2)))))) (fun w os=>L2.pZ (Zg w os) (L2.pZ (aBE w os) (L2.pZ (aBQ w os) (L2.pZ (Zc w os) (L2.pZ (aCd w os) (aBv w os)))))) (by decide) (fun _=>by kernel_rfl)
end
end K22
open PySem PySem.W PyProof.Rows
set_option maxRecDepth 100000 in
set_option maxHeartbeats 0 in
theorem PySem.Challenge.cw_lidprice_k22_cases_refused_holds : PySem.Challenge.rw_lidprice_k22_cases_refused.Holds := by
 w_on; o_law
 refine PySem.W.holds_open (N:=12058) (q:=K22.vw) (loose:=["_law_model"]) (Xt:=K22.xtK) (XP:=PySem.W.XL K22.vw [])
  (Yf:=PySem.W.Hook.obs (PySem.W.kHook K22.wL K22.Qo K22.BJ)) (Ya:=PySem.W.Hook.val (PySem.W.kHook K22.wL K22.Qo K22.BJ))
  (YP:=PySem.W.Hook.says (PySem.W.kHook K22.wL K22.Qo K22.BJ)) K22.Uh
  (PySem.W.Hook.of _) (PySem.W.Hook.keeps _) (fun s e=>PySem.W.xl_of s (Bool.and_eq_true_iff.mp e).1) PySem.W.XL.keeps
  (by rfl) (by rfl) (by rfl) (fun s e=>PySem.W.recFacts_of (Bool.and_eq_true_iff.mp e).2)
  (by rfl) (by first | assumption | decide +kernel) (by decide +kernel)
  ⟨rfl,rfl,rfl,rfl,rfl,by decide +kernel⟩ ?hw ?hc
 case hw=>w_witness2
 k_fill
 refine K22.aB2 (l:=PySem.Challenge.rw_lidprice_k22_cases_refused) rfl rfl rfl (fun w h Y=>by first | exact PySem.W.kIn_of Y | exact PySem.W.km_in_of Y) ?F
 case F =>
  intro w mg fa h KX G hmg
  apply K22.QJ (cR:=240) (Pt:=238) KX G hmg
  all_goals first | k_is | kit_is | exact ⟨by k_is,L2.JQ (by k_is) (by k_is) (by k_is)⟩ | exact ⟨by k_is,by k_is,L2.JQ (by k_is) (by k_is) (by k_is)⟩ | exact ⟨by k_is,L2.Ms (by k_is) (by k_is) (by k_is)⟩ | (refine ⟨⟨?_,?_,?_,?_⟩,⟨?_,?_,?_,?_⟩,?_,?_,?_,?_,?_,?_,?_,?_,?_,?_,?_⟩ <;> first | k_is | kit_is | kernel_rfl | (unfold L2.bV; kernel_rfl) | decide) | (refine ⟨?_,?_,?_,?_,?_,?_,?_,?_,?_⟩ <;> first | k_is | kit_is | kernel_rfl | (unfold L2.bV; kernel_rfl) | decide) | (refine ⟨?_,?_,?_,?_,?_⟩ <;> first | k_is | kit_is | kernel_rfl | (unfold L2.bV; kernel_rfl) | decide) | (refine ⟨?_⟩ <;> first | k_is | kit_is | kernel_rfl | (unfold L2.bV; kernel_rfl) | decide) | (refine TD.rD.of ⟨?_,?_,?_,?_,?_,?_,?_,?_⟩ ?_ ?_ <;> first | k_is | kit_is | kernel_rfl | (unfold L2.bV; kernel_rfl) | decide) | (refine TD.CN.of ?_ ?_ <;> first | k_is | kit_is | kernel_rfl | (unfold L2.bV; kernel_rfl) | decide) | (refine ⟨?_,?_,⟨?_,?_,?_,?_⟩,?_,?_,?_,?_,?_⟩ <;> first | k_is | kit_is | kernel_rfl | (unfold L2.bV; kernel_rfl) | decide) | kernel_rfl | exact rfl | decide
