import PyProof.Rows.All
import Wide.All
import OpenK.AllK
import Wide.FinOn
import Lean
import PyProof.EqAt
import PyProof.EqKinds
import PyProof.TupleCall
import PyProof.NeKinds
import KE.IntBitsLaws
import KE.KRevIter
import KE.KSortKey
import KE.KLam
import KE.KNestM
import KE.KDictList
import PyProof.ConsumeWalk
import PyProof.ZipIter
import PyProof.Rows.Range3
import PyProof.CollectWalk
import PyProof.ListNew
import KE.KDictOf
import KE.KUnpack
import PyProof.Rows.SetFrom
import PySem.Challenge.RW_lidprice_k21_cases_made
set_option Elab.async false
set_option linter.all false
set_option maxRecDepth 100000
namespace L2
open PySem PySem.Spec PyProof.Rows
abbrev cZ:=Sum Int Str
def xZ:cZ->Value->Bool
 | .inl k,v=>Value.isInt k v
 | .inr x,v=>Value.isStrOf x v
def aAS (w:World):cZ->Int
 | .inl k=>hashInt k
 | .inr x=>hashStr w x
theorem eO:∀ {k:cZ}{v:Value},xZ k v=true->(∃ i t,k=Sum.inl i /\ v=Value.int i t) ∨ (∃ x t,k=Sum.inr x /\ v=Value.str x t)
 | .inl i,v,h=>by
  obtain ⟨t,e⟩:=Value.isInt_shape (k:=i) (v:=v) h
  exact .inl ⟨i,t,rfl,e⟩
 | .inr x,v,h=>by
  obtain ⟨t,e⟩:=Value.isStrOf_shape (x:=x) (v:=v) h
  exact .inr ⟨x,t,rfl,e⟩
theorem HS (i:Int) (t:Tok):xZ (.inl i) (.int i t)=true:=by simp [xZ,Value.isInt]
theorem Hc (x:Str) (t:Tok):xZ (.inr x) (.str x t)=true:=by simp [xZ,Value.isStrOf]
theorem Pa (a b:Int):decide ((Sum.inl a:cZ)=Sum.inl b)=(a == b):=by
 by_cases e:a=b
 ·subst e; simp
 ·have h:¬ (Sum.inl a:cZ)=Sum.inl b:=fun q=>e (Sum.inl.inj q)
  rw [decide_eq_false h]
  exact (beq_eq_false_iff_ne.mpr e).symm
theorem RJ (a b:Str):decide ((Sum.inr a:cZ)=Sum.inr b)=decide (a=b):=by
 by_cases e:a=b
 ·subst e; simp
 ·have h:¬ (Sum.inr a:cZ)=Sum.inr b:=fun q=>e (Sum.inr.inj q)
  rw [decide_eq_false h,decide_eq_false e]
theorem Q3 (a:Int) (b:Str):decide ((Sum.inl a:cZ)=Sum.inr b)=false:=decide_eq_false (fun q=>nomatch q)
theorem Qy (a:Str) (b:Int):decide ((Sum.inr a:cZ)=Sum.inl b)=false:=decide_eq_false (fun q=>nomatch q)
def dZ (prog:Program) (w:World):PySem.KeyKind prog w cZ where
 is:=xZ
 hash:=aAS w
 inj:=fun v a b ha hb=>by
  rcases eO ha with ⟨i,t,rfl,rfl⟩ | ⟨x,t,rfl,rfl⟩
  ·rcases eO hb with ⟨j,u,rfl,e⟩ | ⟨y,u,rfl,e⟩
   ·injection e with e1 _; rw [e1]
   ·exact nomatch e
  ·rcases eO hb with ⟨j,u,rfl,e⟩ | ⟨y,u,rfl,e⟩
   ·exact nomatch e
   ·injection e with e1 _; rw [e1]
 byValue:=fun k v h=>by
  rcases eO h with ⟨i,t,rfl,rfl⟩ | ⟨x,t,rfl,rfl⟩ <;> rfl
 pyHash:=fun hv h=>by
  rcases eO hv with ⟨i,t,rfl,rfl⟩ | ⟨x,t,rfl,rfl⟩
  ·exact wpAny_pyHash_int h
  ·exact wpAny_pyHash_str h
 eqBool:=fun hu hv h=>by
  rcases eO hu with ⟨i,t,rfl,rfl⟩ | ⟨x,t,rfl,rfl⟩
  ·rcases eO hv with ⟨j,u,rfl,rfl⟩ | ⟨y,u,rfl,rfl⟩
   ·rw [Pa] at h; exact wpAny_eqBool_int h
   ·rw [Q3] at h; exact SeqAt.EqAt.int_str i t y u _ _ _ _ h
  ·rcases eO hv with ⟨j,u,rfl,rfl⟩ | ⟨y,u,rfl,rfl⟩
   ·rw [Qy] at h; exact SeqAt.EqAt.str_int x t j u _ _ _ _ h
   ·rw [RJ] at h; exact wpAny_eqBool_str h
 «strs»:=fun k x t v h=>by
  rcases eO h with ⟨i,u,rfl,e⟩ | ⟨y,u,rfl,e⟩
  ·exact nomatch e
  ·injection e with e1 _
   subst e1
   cases v <;> rfl
theorem Cr (prog:Program) (w:World) (i:Int) (t:Tok):(dZ prog w).is (.inl i) (.int i t)=true:=HS i t
theorem Bd (prog:Program) (w:World) (x:Str) (t:Tok):(dZ prog w).is (.inr x) (.str x t)=true:=Hc x t
end L2
namespace L2
open PySem PySem.Spec PyProof.Rows
inductive V where
 | non | bl (b:Bool) | int (i:Int) | str (x:Str) | byt (b:Array UInt8) | flt (b:UInt64) | ref (a:Addr) | ty (n:String)
 deriving DecidableEq
def bL:V->Value->Prop
 | .non,u=>u=Value.none
 | .bl b,u=>u=Value.bool b
 | .int i,u=>∃ t,u=Value.int i t
 | .str x,u=>∃ t,u=Value.str x t
 | .byt b,u=>∃ t,u=Value.bytes b t
 | .flt b,u=>∃ t,u=Value.float b t
 | .ref a,u=>u=Value.ref a
 | .ty n,u=>u=Value.type n
abbrev bI:List V->List Value->Prop:=Paired bL
theorem bI.length {xs:List V}{us:List Value} (r:bI xs us):xs.length=us.length:=Paired.length r
theorem bI.get:∀ {xs:List V}{us:List Value}{i:Nat}{x:V},bI xs us->xs[i]? = some x->∃ u,us[i]? = some u /\ bL x u
 | _,_,_,_,.nil,e=>by simp at e
 | _,_,0,_,.cons r _,e=>by simp at e; subst e; exact ⟨_,rfl,r⟩
 | _,_,i + 1,x,.cons _ t,e=>by
  obtain ⟨u,h1,h2⟩:=bI.get (i:=i) (x:=x) t (by simpa using e)
  exact ⟨u,by simpa using h1,h2⟩
theorem bI.set {x:V}{u:Value} (r:bL x u):∀ {xs:List V}{us:List Value} (i:Nat),bI xs us->bI (xs.set i x) (us.set i u)
 | _,_,_,.nil=>.nil
 | _,_,0,.cons _ t=>.cons r t
 | _,_,i + 1,.cons q t=>.cons q (bI.set r i t)
theorem bI.append:∀ {xs ys:List V}{us ws:List Value},bI xs us->bI ys ws->bI (xs ++ ys) (us ++ ws)
 | _,_,_,_,.nil,s=>s
 | _,_,_,_,.cons r t,s=>.cons r (bI.append t s)
theorem bI.take:∀ {xs:List V}{us:List Value} (n:Nat),bI xs us->bI (xs.take n) (us.take n)
 | _,_,0,_=>.nil
 | _,_,_ + 1,.nil=>.nil
 | _,_,n + 1,.cons r t=>.cons r (bI.take n t)
theorem bI.drop:∀ {xs:List V}{us:List Value} (n:Nat),bI xs us->bI (xs.drop n) (us.drop n)
 | _,_,0,r=>r
 | _,_,_ + 1,.nil=>.nil
 | _,_,n + 1,.cons _ t=>bI.drop n t
theorem bI.none_of:∀ {xs:List V}{us:List Value}{i:Nat},bI xs us->xs[i]? = none->us[i]? = none:=fun {xs us i} r e=>by
 have h1:=r.length
 have h2:xs.length <= i:=List.getElem?_eq_none_iff.mp e
 exact List.getElem?_eq_none_iff.mpr (by omega)
def mJ:Option V->Option Value->Prop
 | some v,some u=>bL v u
 | none,none=>True
 | _,_=>False
def KV {κ : Type}:List (κ × V)->List (κ × Value)->Prop:=Paired fun (p:κ × V) (q:κ × Value)=>p.1=q.1 /\ bL p.2 q.2
def kV:cZ->V
 | .inl i=>.int i
 | .inr x=>.str x
inductive HO where
 | lst (xs:List V)
 | tup (xs:List V)
 | dK (kvs:List (cZ × V)) | dT (kvs:List (List cZ × V))
 | set (S:Int->Bool) (n:Nat)
 | ins (C dx:Addr) (fs:List (Str × V))
 | own (x:Addr)
 | xd (fs:List (Str × V))
 | met (f x:Addr)
 | rng (lo hi:Int)
 | frz (o:Obj) (u:HO)
 | tbl (ps:Array Value)
 | ext (φ : Heap->Prop)
abbrev Hp:=Addr->Option HO
def aU (H:Hp) (a:Addr) (o:HO):Hp:=fun b=>if b=a then some o else H b
theorem aB {H:Hp}{a:Addr}{o:HO}:aU H a o a=some o:=by unfold aU; rw [if_pos rfl]
theorem aH {H:Hp}{a b:Addr}{o:HO} (h:b ≠ a):aU H a o b=H b:=by unfold aU; rw [if_neg h]
theorem bC {H:Hp}{a b:Addr}{o u:HO} (h:H a=some o) (h':H b=some u) (d:o ≠ u):a ≠ b:=by
 intro e; subst e; rw [h] at h'; exact d (Option.some.inj h')
theorem aO {H:Hp}{a b:Addr}{o:HO} (h:H a=some o) (h':H b=none):a ≠ b:=by
 intro e; subst e; rw [h] at h'; cases h'
section
variable (P:Program) (w:World)
def dO (H:Hp) (h:Heap) (a:Addr):HO->Prop
 | .lst xs=>xs.length <= sizeLine /\ ∃ (its:List Value) (n:Nat),bI xs its /\ h.get? a=some { cls:=.type "list",data:=.seq its.toArray n }
 | .tup xs=>xs.length <= sizeLine /\ ∃ its:List Value,bI xs its /\ IsTup h a its.toArray
 | .dK kvs=>kvs.length <= sizeLine /\ (a == sysModules)=false /\ ∃ vs,KV kvs vs /\ h.DictOf (dZ P w) a vs
 | .dT kvs=>kvs.length <= sizeLine /\ (a == sysModules)=false /\ ∃ xs:List (List cZ × Addr × Value),
   Paired (fun (p:List cZ × V) (q:List cZ × Addr × Value)=>p.1=q.1 /\ H q.2.1=some (.tup (p.1.map kV)) /\ bL p.2 q.2.2) kvs xs ∧
   ∃ o es ep,h.get? a=some o /\ o.ExactDict /\ o.data = .dict es ep /\ es.toList=xs.map (entryOfKey (tupleKind (dZ P w))) /\ (xs.map (·.1)).Nodup
 | .set S n=>h.SetOf (intKind P w) a S n
 | .ins C dx fs=>H dx=some (.own a) /\ fs.length <= 1000 /\ dx ≠ a /\ h.get? a=some (PySem.W.instObj C dx) ∧
   ∃ mA,h.Ns1 dx mA /\ (∀ f,mJ (fs.lookup f) (mA f)) /\ PySem.Within mA (fs.map (·.1))
 | .own _=>∃ o,h.get? a=some o
 | .xd fs=>∃ mA,h.Ns1 a mA /\ ∀ f,mJ (fs.lookup f) (mA f)
 | .rng lo hi=>∃ t u v,h.get? a=some { cls:=.type "range",data:=.fields #[.int lo t,.int hi u,.int 1 v] }
 | .frz o u=>h.get? a=some o /\ dO H h a u
 | .tbl ps=>h.get? a=some { cls:=.none,data:=.fields ps }
 | .met f x=>h.get? a=some (PySem.W.methodObj (.ref f) (.ref x))
 | .ext φ=>φ h /\ (∃ o,h.get? a=some o) /\ ∀ h1 h2:Heap,φ h1->(∀ o,h1.get? a=some o->h2.get? a=some o)->φ h2
def nM (H:Hp) (h:Heap):Prop:=∀ a o,H a=some o->dO P w H h a o
end
section
variable {P:Program}{w:World}{H H':Hp}{h h':Heap}{a:Addr}{o:HO}
theorem dO.lt (x:dO P w H h a o):a < h.objs.size:=by
 cases o with
 | lst xs=>obtain ⟨_,_,_,_,e⟩:=x; exact Heap.lt_size e
 | tup xs=>obtain ⟨_,_,_,p⟩:=x; exact p.lt
 | dK kvs=>obtain ⟨_,_,_,_,o,_,_,e,_⟩:=x; exact Heap.lt_size e
 | dT kvs=>obtain ⟨_,_,_,_,o,_,_,e,_⟩:=x; exact Heap.lt_size e
 | set S n=>obtain ⟨o,_,_,_,e,_⟩:=x; exact Heap.lt_size e
 | ins C dx fs=>obtain ⟨_,_,_,e,_⟩:=x; exact Heap.lt_size e
 | own y=>obtain ⟨_,e⟩:=x; exact Heap.lt_size e
 | xd fs=>obtain ⟨_,⟨_,_,_,e,_⟩,_⟩:=x; exact Heap.lt_size e
 | rng lo hi=>obtain ⟨_,_,_,e⟩:=x; exact Heap.lt_size e
 | frz ob u=>obtain ⟨e,_⟩:=x; exact Heap.lt_size e
 | tbl ps=>exact Heap.lt_size (show h.get? a=some _ from x)
 | met f y=>exact Heap.lt_size (show h.get? a=some _ from x)
 | ext φ=>obtain ⟨_,⟨_,e⟩,_⟩:=x; exact Heap.lt_size e
theorem Paired.mapP {α β : Type}{F G:α->β->Prop}:∀ {l₁ : List α}{l₂ : List β},Paired F l₁ l₂->(∀ a b,F a b->G a b)->Paired G l₁ l₂
 | _,_,.nil,_=>.nil
 | _,_,.cons r t,f=>.cons (f _ _ r) (Paired.mapP t f)
theorem dO.stay (x:dO P w H h a o) (k:∀ b u,(b=a ∨ H b=some (.own a))->h.get? b=some u->h'.get? b=some u)
  (ho:∀ b,H b=some (.own a)->H' b=some (.own a)) (ht:∀ b xs,H b=some (.tup xs)->H' b=some (.tup xs)):dO P w H' h' a o:=by
 induction o with
 | lst xs=>obtain ⟨z,its,n,r,e⟩:=x; exact ⟨z,its,n,r,k _ _ (.inl rfl) e⟩
 | tup xs=>obtain ⟨z,its,r,ob,e,c⟩:=x; exact ⟨z,its,r,ob,k _ _ (.inl rfl) e,c⟩
 | dK kvs=>obtain ⟨z,y,vs,r,ob,es,ep,e,c⟩:=x; exact ⟨z,y,vs,r,ob,es,ep,k _ _ (.inl rfl) e,c⟩
 | dT kvs =>
  obtain ⟨z,y,xs,r,ob,es,ep,e,c⟩:=x
  exact ⟨z,y,xs,Paired.mapP r fun p q z=>⟨z.1,ht _ _ z.2.1,z.2.2⟩,ob,es,ep,k _ _ (.inl rfl) e,c⟩
 | set S n=>obtain ⟨ob,es,ep,t,e,c⟩:=x; exact ⟨ob,es,ep,t,k _ _ (.inl rfl) e,c⟩
 | ins C dx fs =>
  obtain ⟨d,z,ne,e,mA,⟨od,es,ep,e2,c⟩,r⟩:=x
  exact ⟨ho _ d,z,ne,k _ _ (.inl rfl) e,mA,⟨od,es,ep,k _ _ (.inr d) e2,c⟩,r⟩
 | own y=>obtain ⟨ob,e⟩:=x; exact ⟨ob,k _ _ (.inl rfl) e⟩
 | xd fs=>obtain ⟨mA,⟨od,es,ep,e,c⟩,r⟩:=x; exact ⟨mA,⟨od,es,ep,k _ _ (.inl rfl) e,c⟩,r⟩
 | rng lo hi=>obtain ⟨t,u,v,e⟩:=x; exact ⟨t,u,v,k _ _ (.inl rfl) e⟩
 | frz ob u ih=>obtain ⟨e,q⟩:=x; exact ⟨k _ _ (.inl rfl) e,ih q⟩
 | tbl ps =>
  have e:h.get? a=some { cls:=.none,data:=.fields ps }:=x
  show h'.get? a=some { cls:=.none,data:=.fields ps }
  exact k a _ (.inl rfl) e
 | met f y =>
  have e:h.get? a=some (PySem.W.methodObj (.ref f) (.ref y)):=x
  show h'.get? a=some (PySem.W.methodObj (.ref f) (.ref y))
  exact k a _ (.inl rfl) e
 | ext φ=>obtain ⟨p,⟨o,e⟩,st⟩:=x; exact ⟨st _ _ p fun o q=>k _ _ (.inl rfl) q,⟨o,k _ _ (.inl rfl) e⟩,st⟩
theorem nM.lt (x:nM P w H h) (e:H a=some o):a < h.objs.size:=(x a o e).lt
theorem nM.fresh (x:nM P w H h) (e:h.objs.size <= a):H a=none:=by
 cases q:H a with
 | none=>rfl
 | some u=>exact absurd (Nat.lt_of_lt_of_le (x.lt q) e) (Nat.lt_irrefl _)
theorem nM.kept (x:nM P w H h) (k:∀ b u,h.get? b=some u->h'.get? b=some u):nM P w H h':=fun a o e =>
 (x a o e).stay (fun b u _ q=>k b u q) (fun _ q=>q) fun _ _ q=>q
theorem nM.laid (x:nM P w H h) (k:∀ b u,h.get? b=some u->h'.get? b=some u) (hp:h.objs.size <= a) (new:dO P w (aU H a o) h' a o):nM P w (aU H a o) h':=fun b u e=>by
 have hn:=x.fresh hp
 by_cases hb:b=a
 ·subst hb; rw [aB] at e; cases e; exact new
 ·rw [aH hb] at e
  exact (x b u e).stay (fun c v _ q=>k c v q) (fun c q=>by rw [aH (aO q hn)]; exact q) fun c xs q=>by rw [aH (aO q hn)]; exact q
end
def Rd (H:Hp) (a:Addr) (u:HO):Prop:=H a=some u ∨ ∃ o,H a=some (.frz o u)
theorem Rd.of {H:Hp}{a:Addr}{u:HO} (h:H a=some u):Rd H a u:=.inl h
theorem Rd.ok {P:Program}{w:World}{H:Hp}{h:Heap}{a:Addr}{u:HO} (r:Rd H a u) (x:nM P w H h):dO P w H h a u:=by
 rcases r with r | ⟨o,r⟩
 ·exact x a u r
 ·obtain ⟨_,q⟩:=x a _ r
  exact q
def Xf:Option HO->Prop
 | some (.lst _)=>True
 | some (.dK _)=>True
 | some (.dT _)=>True
 | some (.set _ _)=>True
 | some (.ins _ _ _)=>True
 | some (.ext _)=>True
 | _=>False
section
variable {P:Program}{w:World}{H:Hp}{h h':Heap}{x e:Addr}{o':HO}
theorem nM.write (ok:nM P w H h) (mu:Xf (H x)) (he:e=x ∨ H e=some (.own x)) (k:∀ b u,b ≠ e->h.get? b=some u->h'.get? b=some u) (heo:∃ u,h'.get? e=some u)
  (new:dO P w (aU H x o') h' x o'):nM P w (aU H x o') h':=fun b u q=>by
 have nown:∀ c y,H c=some (.own y)->c ≠ x:=fun c y r z=>by subst z; rw [r] at mu; exact mu
 have ntup:∀ c xs,H c=some (.tup xs)->c ≠ x:=fun c xs r z=>by subst z; rw [r] at mu; exact mu
 by_cases hb:b=x
 ·subst hb; rw [aB] at q; cases q; exact new
 ·rw [aH hb] at q
  by_cases hbe:b=e
  ·have q':H b=some (.own x):=by
    rcases he with z | z
    ·exact absurd (hbe.trans z) hb
    ·rw [hbe]; exact z
   rw [q] at q'; cases q'
   obtain ⟨v,hv⟩:=heo
   exact ⟨v,by rw [hbe]; exact hv⟩
  ·refine (ok b u q).stay (fun c v hc r=>k c v ?_ r) (fun c r=>by rw [aH (nown c b r)]; exact r) fun c xs r=>by rw [aH (ntup c xs r)]; exact r
   rcases hc with rfl | hc
   ·exact hbe
   ·rintro rfl
    rcases he with z | z
    ·exact nown c b hc z
    ·rw [hc] at z; cases z; exact hb rfl
end
structure Un (fs ex:List Addr) (H H':Hp) (h h':Heap):Prop where
 keep:∀ b o,h.get? b=some o->H b=none->b ∉ fs->b ∉ ex->h'.get? b=some o
 slot:∀ b o,h.get? b=some o->H b=none->b ∈ fs->b ∉ ex->∃ sl,h'.get? b=some { o with slots:=sl }
 free:∀ b o,h.get? b=some o->H b=none->b ∉ ex->H' b=none
 there:∀ b o,h.get? b=some o->b ∉ ex->∃ o',h'.get? b=some o'
 tups:∀ b xs,H b=some (.tup xs)->H' b=some (.tup xs)
 frzs:∀ b o u,H b=some (.frz o u)->H' b=some (.frz o u)
 tbls:∀ b ps,H b=some (.tbl ps)->∃ more,H' b=some (.tbl (ps ++ more))
section
variable {fs fs' ex ex':List Addr}{H H1 H2:Hp}{h h1 h2 h':Heap}{a x e:Addr}{o:HO}
theorem Un.any (u:Un fs ex H H1 h h1) {b:Addr}{ob:Obj} (q:h.get? b=some ob) (n:H b=none) (hx:b ∉ ex):∃ sl,h1.get? b=some { ob with slots:=sl }:=by
 by_cases hb:b ∈ fs
 ·exact u.slot b ob q n hb hx
 ·exact ⟨ob.slots,u.keep b ob q n hb hx⟩
theorem Un.trans (a:Un fs ex H H1 h h1) (b:Un fs ex H1 H2 h1 h2):Un fs ex H H2 h h2 where
 keep:=fun c ob q n hc hx=>b.keep c ob (a.keep c ob q n hc hx) (a.free c ob q n hx) hc hx
 slot:=fun c ob q n hc hx=>by
  obtain ⟨sl,e1⟩:=a.slot c ob q n hc hx
  obtain ⟨sl',e2⟩:=b.slot c _ e1 (a.free c ob q n hx) hc hx
  exact ⟨sl',e2⟩
 free:=fun c ob q n hx=>by
  obtain ⟨o',e1⟩:=a.there c ob q hx
  exact b.free c o' e1 (a.free c ob q n hx) hx
 there:=fun c ob q hx=>by
  obtain ⟨o',e1⟩:=a.there c ob q hx
  exact b.there c o' e1 hx
 tups:=fun c xs q=>b.tups c xs (a.tups c xs q)
 frzs:=fun c ob xs q=>b.frzs c ob xs (a.frzs c ob xs q)
 tbls:=fun c ps q=>by
  obtain ⟨m1,e1⟩:=a.tbls c ps q
  obtain ⟨m2,e2⟩:=b.tbls c _ e1
  exact ⟨m1 ++ m2,by rw [e2,Array.append_assoc]⟩
theorem Un.kept (k:∀ b u,h.get? b=some u->h'.get? b=some u):Un fs ex H H h h' :=
 ⟨fun b ob q _ _ _=>k b ob q,fun b ob q _ _ _=>⟨ob.slots,k b ob q⟩,fun _ _ _ n _=>n,fun b ob q _=>⟨ob,k b ob q⟩,fun _ _ q=>q,fun _ _ _ q=>q,fun _ ps q=>⟨#[],by rw [q]; simp⟩⟩
theorem Un.refl:Un fs ex H H h h:=Un.kept fun _ _ q=>q
theorem Un.laid (k:∀ b u,h.get? b=some u->h'.get? b=some u) (hp:h.objs.size <= a) (hn:H a=none):Un fs ex H (aU H a o) h h' where
 keep:=fun b u q _ _ _=>k b u q
 slot:=fun b u q _ _ _=>⟨u.slots,k b u q⟩
 free:=fun b u q n _=>by rw [aH (Nat.ne_of_lt (Nat.lt_of_lt_of_le (Heap.lt_size q) hp))]; exact n
 there:=fun b u q _=>⟨u,k b u q⟩
 tups:=fun b xs q=>by rw [aH (aO q hn)]; exact q
 frzs:=fun b u xs q=>by rw [aH (aO q hn)]; exact q
 tbls:=fun b ps q=>⟨#[],by rw [aH (aO q hn),q]; simp⟩
theorem Un.write (mu:Xf (H x)) (he:e=x ∨ H e=some (.own x)) (k:∀ b u,b ≠ e->h.get? b=some u->h'.get? b=some u) (heo:∃ u,h'.get? e=some u):Un fs ex H (aU H x o) h h':=by
 have hx:∀ b,H b=none->b ≠ x:=fun b n z=>by subst z; rw [n] at mu; exact mu
 have hb:∀ b,H b=none->b ≠ e:=fun b n z=>by
  subst z
  rcases he with r | r
  ·exact hx b n r
  ·rw [n] at r; cases r
 have hm:∀ b u,H b=some u->¬ Xf (some u)->b ≠ x:=fun b u q nm z=>by subst z; rw [q] at mu; exact nm mu
 refine ⟨fun b u q n _ _=>k b u (hb b n) q,fun b u q n _ _=>⟨u.slots,k b u (hb b n) q⟩,fun b u q n _=>by rw [aH (hx b n)]; exact n,fun b u q _=>?_,
  fun b xs q=>by rw [aH (hm b _ q fun z=>z)]; exact q,fun b u xs q=>by rw [aH (hm b _ q fun z=>z)]; exact q,fun b ps q=>⟨#[],by rw [aH (hm b _ q fun z=>z),q]; simp⟩⟩
 by_cases hbe:b=e
 ·subst hbe; exact heo
 ·exact ⟨u,k b u hbe q⟩
theorem Un.mono (u:Un fs ex H H1 h h1) (hs:∀ b ∈ fs,b ∈ fs') (hx:∀ b ∈ ex,b ∈ ex'):Un fs' ex' H H1 h h1 :=
 ⟨fun b ob q n hb he=>u.keep b ob q n (fun z=>hb (hs b z)) fun z=>he (hx b z),fun _ _ q n _ he=>u.any q n fun z=>he (hx _ z),fun b ob q n he=>u.free b ob q n fun z=>he (hx b z),fun b ob q he=>u.there b ob q fun z=>he (hx b z),u.tups,u.frzs,u.tbls⟩
end
def Yv (h:Heap) (H:Hp):List Addr:=(List.range h.objs.size).filter fun a=>(H a).isSome
def vU (h:Heap) (H:Hp):Heap:=PySem.W.hideAll h (Yv h H)
theorem Hr (h:Heap) (H:Hp):(vU h H).objs.size=h.objs.size:=PySem.W.hideAll_size _ _
theorem Kg {h:Heap}{H:Hp}{b:Addr}{o:Obj} (e:h.get? b=some o) (n:H b=none):(vU h H).get? b=some o :=
 PySem.W.hideAll_get _ e fun hm=>by
  have q:(H b).isSome=true:=(List.mem_filter.mp hm).2
  rw [n] at q; simp at q
theorem Mp {h:Heap}{H:Hp}{b:Addr}{o:Obj} (e:(vU h H).get? b=some o):h.get? b=some o /\ H b=none:=by
 have e':h.get? b=some o:=PySem.W.of_hideAll (Yv h H) e
 refine ⟨e',?_⟩
 cases q:H b with
 | none=>rfl
 | some x =>
  have hm:b ∈ Yv h H:=List.mem_filter.mpr ⟨List.mem_range.mpr (Heap.lt_size e'),by simp [q]⟩
  have z:(vU h H).get? b=none:=PySem.W.hideAll_none (Yv h H) hm
  rw [z] at e; cases e
def Mz (g h:Heap) (L:Addr):List (Addr × Obj):=(List.range h.objs.size).filterMap fun a=>if a=L ∨ (g.get? a).isSome=true then none else (h.get? a).map fun o=>(a,o)
def fW (g h:Heap) (L d:Addr):List (Addr × Obj):=(Mz g h L).filter fun p=>decide (p.1 ≠ d)
end L2
namespace L2
open PySem PySem.Spec PyProof.Rows
structure Mod (K:PySem.W.Frag) (mg:Str->Option Value) (base:Heap):Prop where
 kin:K.In base
 glob:base.Ns mainGlobals mg
 blt:∃ mb,base.Ns builtinsNs mb /\ ∀ x:Str,x ≠ "__name__" -> mb x=bootBuiltins x
 nolimit:base.NoLimit
structure Cx where
 prog:Program
 w:World
 K:PySem.W.Frag
 mg:Str->Option Value
 base:Heap
 A:Around
 N:List Str
 s₀ : Shared
 H₀ : Hp
 env:Env
 outer:List Env
 stack:List Env
 ex:List Addr
 fn:Str->Bool
 calm:Bool
 pn:List (Addr × Obj)
 xe:Value->Shared->Prop
def qZ (l:List Env):List Addr:=l.filterMap (·.frame)
abbrev Cx.fs (X:Cx):List Addr:=qZ X.outer
def Yo (sc:Scope) (x:Str):Prop:=sc.names.lookup x=some .local ∨ sc.names.lookup x=some .cell ∨ sc.names.lookup x=some .free
def Xl (sc:Scope) (x:Str):Prop:=sc.names.lookup x=some .local ∨ sc.names.lookup x=some .cell
def aAr (env:Env) (h:Heap) (m:Str->Option Value) (x:Str) (u:Value):Prop :=
 (env.kindOf x=some .local /\ m x=some u) ∨ ((env.kindOf x=some .cell ∨ env.kindOf x=some .free) /\ ∃ c,env.cells.lookup x=some c /\ h.IsCell c (some u))
structure Cx.Ok (X:Cx):Prop where
 mod:Mod X.K X.mg X.base
 kind:X.env.scope.kind = .function
 glob:X.env.globals=mainGlobals
 blt:X.env.builtins=builtinsNs
 above:X.s₀.heap.objs.size <= X.env.locals
 inj:∀ x y c,X.env.cells.lookup x=some c->X.env.cells.lookup y=some c->x=y
 has:∀ x,(X.env.kindOf x=some .cell ∨ X.env.kindOf x=some .free)->∃ c,X.env.cells.lookup x=some c
 cab:∀ x c,X.fn x=true->X.env.cells.lookup x=some c->X.s₀.heap.objs.size <= c
 hd:X.calm=true->X.A.handled=none
 frames:X.A.frames=some X.stack
 stk:X.stack=X.outer ∨ (X.stack=X.env :: X.outer /\ X.env.frame=some X.env.locals)
 exf:∀ b ∈ X.ex,b ≠ X.env.locals /\ ∀ x c,X.env.cells.lookup x=some c->c ≠ b
 bs:∀ b o,X.base.get? b=some o->X.s₀.heap.get? b=some o /\ X.H₀ b=none
 bsz:X.base.objs.size <= X.s₀.heap.objs.size
 noex:∀ b o,X.base.get? b=some o->b ∉ X.ex
 exfs:∀ b ∈ X.ex,b ∉ X.fs
 funs:X.s₀.heap.FunFrames X.base X.outer
 frf:∀ b ∈ X.fs,X.H₀ b=none
structure aY (X:Cx) (pins:List (Addr × Obj)) (σ : List (Option V)) (H:Hp) (s:Shared):Prop where
 ok:X.Ok
 os:s.os=X.s₀.os
 bare:AllBare s.gens
 base:Un X.fs X.ex X.H₀ H X.s₀.heap s.heap
 loc:∃ m,s.heap.Ns X.env.locals m /\ ∀ (i:Nat) (x:Str) (v:V),X.N[i]? = some x->σ[i]? = some (some v)->Yo X.env.scope x->∃ u,bL v u /\ aAr X.env s.heap m x u
 cell:∀ x c,X.env.cells.lookup x=some c->∃ v,s.heap.IsCell c v
 free:H X.env.locals=none
 freeC:∀ x c,X.env.cells.lookup x=some c->H c=none
 pin:∀ p ∈ X.pn ++ pins,s.heap.get? p.1=some p.2 /\ H p.1=none /\ p.1 ≠ X.env.locals /\ p.1 ∉ X.fs /\ ∀ v,p.2.data ≠ .cell v
 hok:nM X.prog X.w H s.heap
 len:σ.length=X.N.length
section
variable {X:Cx}{pins:List (Addr × Obj)}{σ : List (Option V)}{H H':Hp}{s:Shared}{h':Heap}
theorem Cx.Ok.nofr (ok:X.Ok) {b:Addr}{o:Obj} (e:X.base.get? b=some o):b ∉ X.fs:=fun hb=>by
 have:=(ok.funs.mem hb).1
 rw [e] at this; cases this
theorem aY.bs (I:aY X pins σ H s):∀ b o,X.base.get? b=some o->s.heap.get? b=some o /\ H b=none:=fun b o e =>
 ⟨I.base.keep b o (I.ok.bs b o e).1 (I.ok.bs b o e).2 (I.ok.nofr e) (I.ok.noex b o e),I.base.free b o (I.ok.bs b o e).1 (I.ok.bs b o e).2 (I.ok.noex b o e)⟩
theorem aY.bk (I:aY X pins σ H s):∀ b o,X.base.get? b=some o->s.heap.get? b=some o:=fun b o e=>(I.bs b o e).1
theorem aY.mod (I:aY X pins σ H s):Mod X.K X.mg X.base:=I.ok.mod
theorem aY.kIn (I:aY X pins σ H s):X.K.In s.heap:=I.ok.mod.kin.keeps I.bk
theorem aY.nolimit (I:aY X pins σ H s):s.heap.NoLimit:=I.ok.mod.nolimit.keeps I.bk
theorem aY.fr (I:aY X pins σ H s):∃ m,Fr X.base X.env.locals s.heap m :=
 let ⟨m,hn,_⟩:=I.loc
 ⟨m,hn,I.bk,Nat.le_trans I.ok.bsz I.ok.above⟩
theorem aY.lt (I:aY X pins σ H s):X.env.locals < s.heap.objs.size:=let ⟨_,hn,_⟩:=I.loc; hn.lt
theorem aY.sz (I:aY X pins σ H s):X.s₀.heap.objs.size <= s.heap.objs.size:=Nat.le_trans I.ok.above (Nat.le_of_lt I.lt)
theorem aY.nofs (I:aY X pins σ H s) {a:Addr} (h:s.heap.objs.size <= a):a ∉ X.fs:=fun hb=>by
 obtain ⟨_,o,ho,_⟩:=I.ok.funs.mem hb
 exact absurd (Nat.lt_of_lt_of_le (Heap.lt_size ho) (Nat.le_trans I.sz h)) (Nat.lt_irrefl _)
theorem aY.cne (I:aY X pins σ H s):∀ x c,X.env.cells.lookup x=some c->c ≠ X.env.locals:=fun x c e z=>by
 obtain ⟨v,o,ho,hd⟩:=I.cell x c e
 obtain ⟨m,⟨o',es,ep,ho',hd',_⟩,_⟩:=I.loc
 rw [z,ho'] at ho; cases ho; rw [hd'] at hd; cases hd
theorem aY.funs (I:aY X pins σ H s):s.heap.FunFrames X.base X.outer:=by
 have all:∀ (l:List Env),(∀ b ∈ qZ l,b ∈ X.fs)->X.s₀.heap.FunFrames X.base l->s.heap.FunFrames X.base l:=by
  intro l
  induction l with
  | nil=>intro _ _; trivial
  | cons env r ih =>
   intro hs hl
   obtain ⟨hk,⟨L,o,hf,hn,ho,hd⟩,hr⟩:=hl
   have hL:L ∈ X.fs:=hs L (by unfold qZ; rw [List.filterMap_cons,hf]; exact List.mem_cons_self)
   obtain ⟨sl,e⟩:=I.base.slot L o ho (I.ok.frf L hL) hL fun z=>I.ok.exfs L z hL
   exact ⟨hk,⟨L,_,hf,hn,e,hd⟩,ih (fun b hb=>hs b (by unfold qZ; rw [List.filterMap_cons,hf]; exact List.mem_cons_of_mem _ hb)) hr⟩
 exact all X.outer (fun _ hb=>hb) I.ok.funs
theorem aY.stack (I:aY X pins σ H s):s.heap.FunFrames X.base X.stack:=by
 rcases I.ok.stk with e | ⟨e,hf⟩
 ·rw [e]; exact I.funs
 ·rw [e]
  obtain ⟨m,hn,_⟩:=I.loc
  refine .cons (by rw [I.ok.kind]; decide) hf hn ?_ I.funs
  exact Heap.get?_none_of_le (Nat.le_trans I.ok.bsz I.ok.above)
theorem aY.stkSub (I:aY X pins σ H s):∀ b ∈ qZ X.stack,b ∈ X.env.locals :: X.fs:=fun b hb=>by
 rcases I.ok.stk with e | ⟨e,hf⟩
 ·rw [e] at hb; exact List.mem_cons_of_mem _ hb
 ·rw [e] at hb
  unfold qZ at hb
  rw [List.filterMap_cons,hf] at hb
  exact hb
theorem aY.stkFree (I:aY X pins σ H s):∀ b ∈ qZ X.stack,H b=none:=fun b hb=>by
 rcases List.mem_cons.mp (I.stkSub b hb) with e | hb
 ·rw [e]; exact I.free
 ·obtain ⟨_,o,ho,_⟩:=I.ok.funs.mem hb
  exact I.base.free b o ho (I.ok.frf b hb) fun z=>I.ok.exfs b z hb
theorem aY.step {g':Array GenState}{t':Nat}{d':Drawn}{ch:List Addr} (I:aY X pins σ H s)
  (hch:∀ b ∈ ch,(b ∈ X.ex ∨ X.s₀.heap.objs.size <= b) /\ b ≠ X.env.locals /\ (∀ x c,X.env.cells.lookup x=some c->c ≠ b) /\ ∀ p ∈ X.pn ++ pins,p.1 ≠ b)
  (keep:∀ b o,b ≠ X.env.locals->b ∉ X.fs->b ∉ ch->s.heap.get? b=some o->H b=none->h'.get? b=some o)
  (slot:∀ b o,b ≠ X.env.locals->b ∈ X.fs->b ∉ ch->s.heap.get? b=some o->H b=none->∃ sl,h'.get? b=some { o with slots:=sl }) (free:∀ b o,b ∉ ch->s.heap.get? b=some o->H b=none->H' b=none)
  (there:∀ b o,b ∉ ch->s.heap.get? b=some o->∃ o',h'.get? b=some o')
  (tups:∀ b xs,H b=some (.tup xs)->H' b=some (.tup xs)) (frzs:∀ b o u,H b=some (.frz o u)->H' b=some (.frz o u)) (tbls:∀ b ps,H b=some (.tbl ps)->∃ more,H' b=some (.tbl (ps ++ more)))
  (ns:∀ m,s.heap.Ns X.env.locals m->h'.Ns X.env.locals m) (hok:nM X.prog X.w H' h') (hg:AllBare g') :
  aY X pins σ H' { s with heap:=h',gens:=g',drawn:=d',toks:=t' }:=by
 have neL:∀ b o,X.s₀.heap.get? b=some o->b ≠ X.env.locals:=fun b o e=>Nat.ne_of_lt (Nat.lt_of_lt_of_le (Heap.lt_size e) I.ok.above)
 have neC:∀ b o,X.s₀.heap.get? b=some o->b ∉ X.ex->b ∉ ch:=fun b o e hx hb=>by
  rcases (hch b hb).1 with z | z
  ·exact hx z
  ·exact absurd (Nat.lt_of_lt_of_le (Heap.lt_size e) z) (Nat.lt_irrefl _)
 have cellK:∀ x c,X.env.cells.lookup x=some c->∀ v,s.heap.IsCell c v->h'.IsCell c v:=fun x c e v ⟨o,ho,hd⟩=>by
  have nch:c ∉ ch:=fun z=>(hch c z).2.2.1 x c e rfl
  by_cases hc:c ∈ X.fs
  ·obtain ⟨sl,q⟩:=slot c o (I.cne x c e) hc nch ho (I.freeC x c e)
   exact ⟨_,q,hd⟩
  ·exact ⟨o,keep c o (I.cne x c e) hc nch ho (I.freeC x c e),hd⟩
 refine ⟨I.ok,I.os,hg,⟨fun b o e n hb hx=>?_,fun b o e n hb hx=>?_,fun b o e n hx=>?_,fun b o e hx=>?_,fun b xs e=>tups b xs (I.base.tups b xs e),fun b o xs e=>frzs b o xs (I.base.frzs b o xs e),fun b ps e=>?_⟩,?_,fun x c e=>?_,?_,fun x c e=>?_,fun p hp=>?_,hok,I.len⟩
 ·exact keep b o (neL b o e) hb (neC b o e hx) (I.base.keep b o e n hb hx) (I.base.free b o e n hx)
 ·obtain ⟨sl,e1⟩:=I.base.slot b o e n hb hx
  obtain ⟨sl',e2⟩:=slot b _ (neL b o e) hb (neC b o e hx) e1 (I.base.free b o e n hx)
  exact ⟨sl',e2⟩
 ·obtain ⟨o',e1⟩:=I.base.there b o e hx
  exact free b o' (neC b o e hx) e1 (I.base.free b o e n hx)
 ·obtain ⟨o',e1⟩:=I.base.there b o e hx
  exact there b o' (neC b o e hx) e1
 ·obtain ⟨m1,e1⟩:=I.base.tbls b ps e
  obtain ⟨m2,e2⟩:=tbls b _ e1
  exact ⟨m1 ++ m2,by rw [e2,Array.append_assoc]⟩
 ·obtain ⟨m,hn,hl⟩:=I.loc
  refine ⟨m,ns m hn,fun i x v e1 e2 e3=>?_⟩
  obtain ⟨u,r,l⟩:=hl i x v e1 e2 e3
  refine ⟨u,r,?_⟩
  rcases l with l | ⟨k,c,e,z⟩
  ·exact .inl l
  ·exact .inr ⟨k,c,e,cellK x c e _ z⟩
 ·obtain ⟨v,z⟩:=I.cell x c e
  exact ⟨v,cellK x c e v z⟩
 ·obtain ⟨m,⟨o,_,_,ho,_⟩,_⟩:=I.loc
  exact free _ o (fun z=>(hch _ z).2.1 rfl) ho I.free
 ·obtain ⟨v,o,ho,hd⟩:=I.cell x c e
  exact free c o (fun z=>(hch c z).2.2.1 x c e rfl) ho (I.freeC x c e)
 ·obtain ⟨e,n,ne,nf,d⟩:=I.pin p hp
  have nch:p.1 ∉ ch:=fun z=>(hch p.1 z).2.2.2 p hp rfl
  exact ⟨keep p.1 p.2 ne nf nch e n,free p.1 p.2 nch e n,ne,nf,d⟩
theorem aY.un {t':Nat} (I:aY X pins σ H s) (u:Un X.fs [] H H' s.heap h') (hok:nM X.prog X.w H' h'):aY X pins σ H' { s with heap:=h',toks:=t' }:=by
 obtain ⟨m,⟨o,es,ep,ho,r⟩,_⟩:=id I.loc
 obtain ⟨sl,hL⟩:=u.any ho I.free (by simp)
 exact I.step (g':=s.gens) (d':=s.drawn) (ch:=[]) (fun _ z=>nomatch z) (fun b o _ hb _ e n=>u.keep b o e n hb (by simp)) (fun b o _ hb _ e n=>u.slot b o e n hb (by simp)) (fun b o _ e n=>u.free b o e n (by simp)) (fun b o _ e=>u.there b o e (by simp)) u.tups u.frzs u.tbls (fun m' hm=>by
  obtain ⟨o',es',ep',ho',r'⟩:=hm
  rw [ho] at ho'; cases ho'
  exact ⟨_,es',ep',hL,r'⟩) hok I.bare
theorem aY.call {g':Array GenState}{t':Nat}{d':Drawn}{ch:List Addr} (I:aY X pins σ H s) (u:Un (qZ X.stack) ch H H' s.heap h') (hok:nM X.prog X.w H' h') (hg:AllBare g')
  (hch:∀ b ∈ ch,(b ∈ X.ex ∨ X.s₀.heap.objs.size <= b) /\ b ≠ X.env.locals /\ (∀ x c,X.env.cells.lookup x=some c->c ≠ b) /\ ∀ p ∈ X.pn ++ pins,p.1 ≠ b) :
  aY X pins σ H' { s with heap:=h',gens:=g',drawn:=d',toks:=t' }:=by
 obtain ⟨m,⟨o,es,ep,ho,r⟩,_⟩:=id I.loc
 obtain ⟨sl,hL⟩:=u.any ho I.free fun z=>(hch _ z).2.1 rfl
 exact I.step (ch:=ch) hch (fun b o hL hb hc e n=>u.keep b o e n (fun z=>(List.mem_cons.mp (I.stkSub b z)).elim hL hb) hc) (fun b o _ _ hc e n=>u.any e n hc) (fun b o hc e n=>u.free b o e n hc) (fun b o hc e=>u.there b o e hc) u.tups u.frzs u.tbls (fun m' hm=>by
  obtain ⟨o',es',ep',ho',r'⟩:=hm
  rw [ho] at ho'; cases ho'
  exact ⟨_,es',ep',hL,r'⟩) hok hg
theorem aY.turned {t':Nat}{it:Addr} (I:aY X pins σ H s) (k:∀ b o,b ≠ it->s.heap.get? b=some o->h'.get? b=some o) (hn:H it=none) (hL:it ≠ X.env.locals)
  (h1:it ∈ X.ex ∨ X.s₀.heap.objs.size <= it) (h2:∀ x c,X.env.cells.lookup x=some c->c ≠ it) (h3:∀ p ∈ X.pn ++ pins,p.1 ≠ it):aY X pins σ H { s with heap:=h',toks:=t' }:=by
 have nit:∀ b u,H b=some u->b ≠ it:=fun b u e z=>by rw [z,hn] at e; cases e
 refine I.step (g':=s.gens) (d':=s.drawn) (ch:=[it]) (fun b hb=>?_) (fun b o _ _ hc e _=>k b o (fun z=>hc (by simp [z])) e) (fun b o _ _ hc e _=>⟨o.slots,k b o (fun z=>hc (by simp [z])) e⟩) (fun _ _ _ _ n=>n)
  (fun b o hc e=>⟨o,k b o (fun z=>hc (by simp [z])) e⟩) (fun _ _ e=>e) (fun _ _ _ e=>e) (fun b ps e=>⟨#[],by rw [e]; simp⟩) (fun m hm=>?_) (fun b u e=>?_) I.bare
 ·have e:b=it:=by simpa using hb
  subst e
  exact ⟨h1,hL,h2,h3⟩
 ·obtain ⟨o,es,ep,ho,r⟩:=hm
  exact ⟨o,es,ep,k _ o (Ne.symm hL) ho,r⟩
 ·refine (I.hok b u e).stay (fun c v hc q=>k c v ?_ q) (fun _ q=>q) fun _ _ q=>q
  rcases hc with z | z
  ·rw [z]; exact nit b u e
  ·exact nit c _ z
theorem aY.tok (I:aY X pins σ H s) (t:Nat):aY X pins σ H { s with toks:=t }:=I.un (h':=s.heap) (t':=t) Un.refl I.hok
theorem aY.kept {t':Nat} (I:aY X pins σ H s) (k:∀ b u,s.heap.get? b=some u->h'.get? b=some u):aY X pins σ H { s with heap:=h',toks:=t' }:=I.un (Un.kept k) (I.hok.kept k)
theorem aY.laid {a:Addr}{o:HO}{t':Nat} (I:aY X pins σ H s) (k:∀ b u,s.heap.get? b=some u->h'.get? b=some u) (hp:s.heap.objs.size <= a) (new:dO X.prog X.w (aU H a o) h' a o) :
  aY X pins σ (aU H a o) { s with heap:=h',toks:=t' }:=I.un (Un.laid k hp (I.hok.fresh hp)) (I.hok.laid k hp new)
theorem aY.write {x e:Addr}{o:HO}{t':Nat} (I:aY X pins σ H s) (mu:Xf (H x)) (he:e=x ∨ H e=some (.own x)) (k:∀ b u,b ≠ e->s.heap.get? b=some u->h'.get? b=some u) (heo:∃ u,h'.get? e=some u)
  (new:dO X.prog X.w (aU H x o) h' x o):aY X pins σ (aU H x o) { s with heap:=h',toks:=t' }:=I.un (Un.write mu he k heo) (I.hok.write mu he k heo new)
theorem aY.pins_of {pins':List (Addr × Obj)} (I:aY X pins σ H s) (h:∀ p ∈ pins',s.heap.get? p.1=some p.2 /\ H p.1=none /\ p.1 ≠ X.env.locals /\ p.1 ∉ X.fs /\ ∀ v,p.2.data ≠ .cell v):aY X pins' σ H s :=
 ⟨I.ok,I.os,I.bare,I.base,I.loc,I.cell,I.free,I.freeC,fun p hp=>(List.mem_append.mp hp).elim (fun z=>I.pin p (List.mem_append_left _ z)) (h p),I.hok,I.len⟩
theorem Cj {N:List Str} (hN:N.Nodup) {i j:Nat}{x:Str} (a:N[i]? = some x) (b:N[j]? = some x):i=j:=by
 obtain ⟨h1,e1⟩:=List.getElem?_eq_some_iff.mp a
 obtain ⟨h2,e2⟩:=List.getElem?_eq_some_iff.mp b
 exact (List.getElem_inj hN).mp (e1.trans e2.symm)
theorem xJ {M:Model}{A:Around}{E:Value->Shared->Prop}{i:Nat}{x:Str}{v:V}{u:Value}{Q:Unit->Shared->Prop} (I:aY X pins σ H s) (hN:X.N.Nodup) (hi:X.N[i]? = some x) (hx:Xl X.env.scope x) (r:bL v u)
  (h:∀ s',aY X pins (σ.set i (some v)) H s'->(∃ a,Heap.SameBut a s.heap s'.heap /\ (a=X.env.locals ∨ X.env.cells.lookup x=some a))->Q () s') (hf:X.fn x=true ∨ X.env.scope.names.lookup x=some .local:=by first | exact .inl rfl | exact .inr rfl | assumption):wpAny M A (storeName X.env x u) Q E s:=by
 obtain ⟨m,hn,hl⟩:=id I.loc
 have hcls:(X.env.scope.kind == .class || (X.env.scope.kind == .module && X.env.locals != X.env.globals))=false:=by rw [I.ok.kind]; rfl
 have hiσ : i < σ.length:=by rw [I.len]; exact (List.getElem?_eq_some_iff.mp hi).1
 have cne:=I.cne
 have tracked:∀ {a:Addr}{h':Heap},(∃ o,s.heap.get? a=some o /\ H a=none)->Heap.SameBut a s.heap h'->nM X.prog X.w H h':=fun {a h'} ha hs b ob e=>by
  obtain ⟨_,_,hfree⟩:=ha
  refine (I.hok b ob e).stay (fun c w' hc q=>(hs.2 c ?_).trans q) (fun _ q=>q) fun _ _ q=>q
  rintro rfl
  rcases hc with rfl | hc
  ·rw [hfree] at e; cases e
  ·rw [hfree] at hc; cases hc
 rcases hx with hk | hk
 ·refine wpAny_storeName_local hk hn (fun h' hn' hs=>?_) hcls
  obtain ⟨oL,_,_,hoL,_⟩:=id hn
  refine h _ ⟨I.ok,I.os,I.bare,⟨fun b o e n hb hx=>?_,fun b o e n hb hx=>?_,I.base.free,fun b o e hx=>?_,I.base.tups,I.base.frzs,I.base.tbls⟩,⟨_,hn',fun j y v' e1 e2 e3=>?_⟩,fun y c e=>?_,I.free,I.freeC,fun p hp=>?_,tracked ⟨oL,hoL,I.free⟩ hs,by simpa using I.len⟩ ⟨_,hs,.inl rfl⟩
  ·exact (hs.2 b (Nat.ne_of_lt (Nat.lt_of_lt_of_le (Heap.lt_size e) I.ok.above))).trans (I.base.keep b o e n hb hx)
  ·obtain ⟨sl,e1⟩:=I.base.slot b o e n hb hx
   exact ⟨sl,(hs.2 b (Nat.ne_of_lt (Nat.lt_of_lt_of_le (Heap.lt_size e) I.ok.above))).trans e1⟩
  ·obtain ⟨o',e1⟩:=I.base.there b o e hx
   exact ⟨o',(hs.2 b (Nat.ne_of_lt (Nat.lt_of_lt_of_le (Heap.lt_size e) I.ok.above))).trans e1⟩
  ·by_cases hj:j=i
   ·subst hj
    rw [hi] at e1; cases e1
    rw [List.getElem?_set_self hiσ] at e2
    cases e2
    exact ⟨u,r,.inl ⟨hk,by simp⟩⟩
   ·rw [List.getElem?_set_ne (Ne.symm hj)] at e2
    obtain ⟨u',r',q⟩:=hl j y v' e1 e2 e3
    refine ⟨u',r',?_⟩
    rcases q with ⟨k,e⟩ | ⟨k,c,e,z⟩
    ·refine .inl ⟨k,?_⟩
     have:y ≠ x:=fun e=>hj (Cj hN e1 (e ▸ hi))
     simp [this,e]
    ·exact .inr ⟨k,c,e,z.sameBut hs (cne y c e)⟩
  ·obtain ⟨w',z⟩:=I.cell y c e
   exact ⟨w',z.sameBut hs (cne y c e)⟩
  ·obtain ⟨e,n,ne,nf,d⟩:=I.pin p hp
   exact ⟨(hs.2 p.1 ne).trans e,n,ne,nf,d⟩
 ·have hfn:X.fn x=true:=by
   rcases hf with z | z
   ·exact z
   ·rw [z] at hk; cases hk
  obtain ⟨c,hc⟩:=I.ok.has x (.inl hk)
  obtain ⟨w',z⟩:=I.cell x c hc
  refine wpAny_storeName_cell I.ok.kind hk hc z (fun h' hc' hs=>?_)
  obtain ⟨oc,hoc,hocd⟩:=id z
  refine h { s with heap:=h' } ⟨I.ok,I.os,I.bare,⟨fun b o e n hb hx=>?_,fun b o e n hb hx=>?_,I.base.free,fun b o e hx=>?_,I.base.tups,I.base.frzs,I.base.tbls⟩,⟨m,hn.sameBut hs (Ne.symm (cne x c hc)),fun j y v' e1 e2 e3=>?_⟩,fun y c' e=>?_,I.free,I.freeC,fun p hp=>?_,tracked ⟨oc,hoc,I.freeC x c hc⟩ hs,by simpa using I.len⟩ ⟨c,hs,.inr hc⟩
  ·exact (hs.2 b (Nat.ne_of_lt (Nat.lt_of_lt_of_le (Heap.lt_size e) (I.ok.cab x c hfn hc)))).trans (I.base.keep b o e n hb hx)
  ·obtain ⟨sl,e1⟩:=I.base.slot b o e n hb hx
   exact ⟨sl,(hs.2 b (Nat.ne_of_lt (Nat.lt_of_lt_of_le (Heap.lt_size e) (I.ok.cab x c hfn hc)))).trans e1⟩
  ·obtain ⟨o',e1⟩:=I.base.there b o e hx
   exact ⟨o',(hs.2 b (Nat.ne_of_lt (Nat.lt_of_lt_of_le (Heap.lt_size e) (I.ok.cab x c hfn hc)))).trans e1⟩
  ·by_cases hj:j=i
   ·subst hj
    rw [hi] at e1; cases e1
    rw [List.getElem?_set_self hiσ] at e2
    cases e2
    exact ⟨u,r,.inr ⟨.inl hk,c,hc,hc'⟩⟩
   ·rw [List.getElem?_set_ne (Ne.symm hj)] at e2
    obtain ⟨u',r',q⟩:=hl j y v' e1 e2 e3
    refine ⟨u',r',?_⟩
    rcases q with q | ⟨k,c',e,z'⟩
    ·exact .inl q
    ·refine .inr ⟨k,c',e,z'.sameBut hs ?_⟩
     rintro rfl
     exact hj (Cj hN e1 (I.ok.inj _ _ _ e hc ▸ hi))
  ·by_cases hcc:c'=c
   ·subst hcc; exact ⟨_,hc'⟩
   ·obtain ⟨w2,z2⟩:=I.cell y c' e
    exact ⟨w2,z2.sameBut hs hcc⟩
  ·obtain ⟨e,n,ne,nf,d⟩:=I.pin p hp
   refine ⟨(hs.2 p.1 ?_).trans e,n,ne,nf,d⟩
   intro q
   rw [q,hoc] at e
   have q':oc=p.2:=Option.some.inj e
   exact d w' (by rw [<- q']; exact hocd)
theorem Br {M:Model}{A:Around}{E:Value->Shared->Prop}{i:Nat}{x:Str}{v:V}{u:Value}{Q:Unit->Shared->Prop} (I:aY X pins σ H s) (hN:X.N.Nodup) (hi:X.N[i]? = some x) (hx:Xl X.env.scope x) (r:bL v u)
  (h:∀ s',aY X pins (σ.set i (some v)) H s'->Q () s') (hf:X.fn x=true ∨ X.env.scope.names.lookup x=some .local:=by first | exact .inl rfl | exact .inr rfl | assumption):wpAny M A (storeName X.env x u) Q E s :=
 xJ I hN hi hx r (fun s' I' _=>h s' I') hf
theorem aY.call' {s':Shared}{ch:List Addr} (I:aY X pins σ H s) (ho:s'.os=s.os) (u:Un (qZ X.stack) ch H H' s.heap s'.heap) (hok:nM X.prog X.w H' s'.heap) (hg:AllBare s'.gens)
  (hch:∀ b ∈ ch,(b ∈ X.ex ∨ X.s₀.heap.objs.size <= b) /\ b ≠ X.env.locals /\ (∀ x c,X.env.cells.lookup x=some c->c ≠ b) /\ ∀ p ∈ X.pn ++ pins,p.1 ≠ b):aY X pins σ H' s':=by
 obtain ⟨h',g',d',t',o'⟩:=s'
 have e:o'=s.os:=ho
 subst e
 exact I.call (g':=g') (t':=t') (d':=d') u hok hg hch
end
abbrev XK:=Value->Option Addr->Hp->Prop
abbrev St:=List (Option V)
abbrev VK:=V->Hp->Prop
abbrev TE:=St->Hp->VK->Prop
abbrev TT:=St->Hp->(Bool->Hp->Prop)->Prop
abbrev TA:=St->Hp->(List V->Hp->Prop)->Prop
structure sV where
 nx:St->Hp->Prop
 rt:VK
 bk:St->Hp->Prop:=fun _ _=>False
 ct:St->Hp->Prop:=fun _ _=>False
abbrev TS:=sV->St->Hp->Prop
def EP (X:Cx) (pins:List (Addr × Obj)) (σ : St) (Q:VK) (u:Value) (s':Shared):Prop:=∃ v H',aY X pins σ H' s' /\ bL v u /\ Q v H'
def TP (X:Cx) (pins:List (Addr × Obj)) (σ : St) (Q:Bool->Hp->Prop) (b:Bool) (s':Shared):Prop:=∃ H',aY X pins σ H' s' /\ Q b H'
def AP (X:Cx) (pins:List (Addr × Obj)) (σ : St) (Q:List V->Hp->Prop) (us:List Value) (s':Shared):Prop:=∃ vs H',aY X pins σ H' s' /\ bI vs us /\ Q vs H'
def SP (X:Cx) (pins:List (Addr × Obj)) (D:sV) (f:Flow) (s':Shared):Prop :=
 match f with
 | .next=>∃ σ' H',aY X pins σ' H' s' /\ D.nx σ' H'
 | .brk=>∃ σ' H',aY X pins σ' H' s' /\ D.bk σ' H'
 | .cont=>∃ σ' H',aY X pins σ' H' s' /\ D.ct σ' H'
 | .ret u=>∃ v σ' H',aY X pins σ' H' s' /\ bL v u /\ D.rt v H'
def PE (X:Cx) (e:Expr) (t:TE):Prop :=
 ∀ (pins:List (Addr × Obj)) (s:Shared) (σ : St) (H:Hp) (Q:VK),aY X pins σ H s->t σ H Q->wpAny (model X.prog X.w) X.A (eval e X.env) (EP X pins σ Q) X.xe s
def PT (X:Cx) (e:Expr) (t:TT):Prop :=
 ∀ (pins:List (Addr × Obj)) (s:Shared) (σ : St) (H:Hp) (Q:Bool->Hp->Prop),aY X pins σ H s->t σ H Q->wpAny (model X.prog X.w) X.A (isTrue e X.env (eval e X.env)) (TP X pins σ Q) X.xe s
def PW (X:Cx) (e:Expr) (t:TT):Prop :=
 ∀ (whole:Sem Value) (pins:List (Addr × Obj)) (s:Shared) (σ : St) (H:Hp) (Q:Bool->Hp->Prop),aY X pins σ H s->t σ H Q->wpAny (model X.prog X.w) X.A (isTrue e X.env whole) (TP X pins σ Q) X.xe s
theorem PW.pt {X:Cx}{e:Expr}{t:TT} (h:PW X e t):PT X e t:=h _
def PA (X:Cx) (es:List Expr) (t:TA):Prop :=
 ∀ (pos:Pos) (pins:List (Addr × Obj)) (s:Shared) (σ : St) (H:Hp) (Q:List V->Hp->Prop),aY X pins σ H s->t σ H Q->wpAny (model X.prog X.w) X.A (spliced (backTo pos (starEach es X.env))) (AP X pins σ Q) X.xe s
def PS (X:Cx) (st:Stmt) (t:TS):Prop :=
 ∀ (pins:List (Addr × Obj)) (s:Shared) (σ : St) (H:Hp) (D:sV),aY X pins σ H s->t D σ H->wpAny (model X.prog X.w) X.A (exec st X.env) (SP X pins D) X.xe s
def sJ (X:Cx) (st:List Stmt) (t:TS):Prop :=
 ∀ (pins:List (Addr × Obj)) (s:Shared) (σ : St) (H:Hp) (D:sV),aY X pins σ H s->t D σ H->wpAny (model X.prog X.w) X.A (execs st X.env) (SP X pins D) X.xe s
theorem eN {α : Type}{t:Sem α}{Q Q':α->Shared->Prop}{M:Model}{A:Around}{E:Value->Shared->Prop}{s:Shared} (h:wpAny M A t Q E s) (hQ:∀ a s,Q a s->Q' a s):wpAny M A t Q' E s:=wpAny_mono h hQ fun _ _ x=>x
end L2
namespace L2
open PySem PySem.Spec PyProof.Rows
section
variable {X:Cx}
def Hb (i:Nat):TE:=fun σ H Q=>∃ v,σ[i]? = some (some v) /\ Q v H
def tC (v:V):TE:=fun _ H Q=>Q v H
theorem Jl {i:Nat}{x:Str}{pos:Pos} (hN:X.N[i]? = some x) (hv:Yo X.env.scope x) (hd:(x == ("__debug__" : Str))=false:=by decide) (hcd:(x == ("__classdict__" : Str))=false:=by decide):PE X (.Name x pos) (Hb i):=by
 intro pins s σ H Q I h
 obtain ⟨v,e,h⟩:=h
 obtain ⟨m,hn,hl⟩:=I.loc
 obtain ⟨u,r,l⟩:=hl i x v hN e hv
 have fin:EP X pins σ Q u s:=⟨v,H,I,r,h⟩
 rcases l with ⟨hk,hm⟩ | ⟨hk,c,hc,hcell⟩
 ·exact wpAny_Name (wpAny_loadName_local I.ok.kind hk hn hm fin) hd
 ·rcases hk with hk | hk
  ·exact wpAny_Name (wpAny_loadName_cell I.ok.kind hk hc hcell fin) hd
  ·exact wpAny_Name (wpAny_loadName_free I.ok.kind hk hc hcell fin hcd) hd
theorem aL {i j pos}:PE X (.Constant (.int i) j pos) (tC (.int i)):=fun _ _ _ H _ I h=>wpAny_Constant_int ⟨.int i,H,I.tok _,⟨_,rfl⟩,h⟩
theorem gW {b j pos}:PE X (.Constant (.bool b) j pos) (tC (.bl b)):=fun _ _ _ H _ I h=>Constant_bool ⟨.bl b,H,I,rfl,h⟩
theorem yV {j pos}:PE X (.Constant .none j pos) (tC .non):=fun _ _ _ H _ I h=>Constant_none ⟨.non,H,I,rfl,h⟩
theorem bO {x j pos}:PE X (.Constant (.str x) j pos) (tC (.str x)):=fun _ _ _ H _ I h=>Calls.Constant_str ⟨.str x,H,I.tok _,⟨_,rfl⟩,h⟩
def Gl (X:Cx) (x:Str):Prop:=X.env.kindOf x=some .globalImplicit
theorem pN {E:Value->Shared->Prop}{pins:List (Addr × Obj)}{s:Shared}{σ : St}{H:Hp}{x:Str}{u:Value}{pos:Pos}{Q:Value->Shared->Prop} (I:aY X pins σ H s) (hg:Gl X x) (hm:X.mg x=some u) (h:Q u s)
  (hd:(x == ("__debug__" : Str))=false:=by decide):wpAny (model X.prog X.w) X.A (eval (.Name x pos) X.env) Q E s :=
 Calls.Name_function_global I.ok.kind hg (Calls.loadGlobal_global (by rw [I.ok.glob]; exact I.mod.glob.keeps I.bk) hm h) hd
theorem qM {E:Value->Shared->Prop}{pins:List (Addr × Obj)}{s:Shared}{σ : St}{H:Hp}{x:Str}{u:Value}{pos:Pos}{Q:Value->Shared->Prop} (I:aY X pins σ H s) (hg:Gl X x) (hm:X.mg x=none) (hv:bootBuiltins x=some u) (h:Q u s)
  (hn:x ≠ "__name__":=by decide) (hd:(x == ("__debug__" : Str))=false:=by decide):wpAny (model X.prog X.w) X.A (eval (.Name x pos) X.env) Q E s:=by
 obtain ⟨mb,h1,h2⟩:=I.mod.blt
 exact Calls.Name_function_global I.ok.kind hg (Calls.loadGlobal_builtin (by rw [I.ok.glob]; exact I.mod.glob.keeps I.bk) hm (by rw [I.ok.blt]; exact h1.keeps I.bk) ((h2 x hn).trans hv) h) hd
theorem jM {x:Str}{v:V}{u:Value}{pos:Pos} (hg:Gl X x) (hm:X.mg x=some u) (r:bL v u) (hd:(x == ("__debug__" : Str))=false:=by decide):PE X (.Name x pos) (tC v) :=
 fun _ _ _ H _ I h=>pN I hg hm ⟨v,H,I,r,h⟩ hd
theorem gO {x:Str}{v:V}{u:Value}{pos:Pos} (hg:Gl X x) (hm:X.mg x=none) (hv:bootBuiltins x=some u) (r:bL v u) (hn:x ≠ "__name__":=by decide) (hd:(x == ("__debug__" : Str))=false:=by decide):PE X (.Name x pos) (tC v) :=
 fun _ _ _ H _ I h=>qM I hg hm hv ⟨v,H,I,r,h⟩ hn hd
variable {a b:Expr}{ta tb:TE}{pos:Pos}
def tB (t:TE):TT:=fun σ H Q=>t σ H fun x H1=>∃ c,x = .bl c /\ Q c H1
theorem dH {e:Expr}{t:TE} (h:PE X e t) (he:∀ whole,isTrue e X.env whole=(do let v <- whole; standAt e.pos; holding [v] (truthy v)):=by intro _; rfl):PT X e (tB t):=by
 intro pins s σ H Q I hw
 refine isTrue_plain (eN (h pins s σ H _ I hw) fun v s1 ⟨x,H1,I1,r1,q1⟩=>?_) (he _)
 obtain ⟨d,rfl,q⟩:=q1
 cases r1
 exact wpAny_truthy_bool ⟨H1,I1,q⟩
variable {tA tB':TT}{fW:List Expr}
def ZK (t u:TT):TT:=fun σ H Q=>t σ H fun c H1=>if c=true then u σ H1 Q else Q false H1
def tOr (t u:TT):TT:=fun σ H Q=>t σ H fun c H1=>if c=true then Q true H1 else u σ H1 Q
def Za (t:TT):TT:=fun σ H Q=>t σ H fun c H1=>Q (!c) H1
theorem Lk (ha:PT X a tA):PW X (.BoolOp .And [a] pos) tA:=by
 intro wh pins s σ H Q I h
 refine isTrue_and (eN (ha pins s σ H Q I h) fun c s1 e=>?_)
 cases c with
 | true=>exact isTrue_and_nil e
 | false=>exact e
theorem gC (ha:PT X a tA):PW X (.BoolOp .Or [a] pos) tA:=by
 intro wh pins s σ H Q I h
 refine isTrue_or (eN (ha pins s σ H Q I h) fun c s1 e=>?_)
 cases c with
 | false=>exact isTrue_or_nil e
 | true=>exact e
theorem QX (ha:PT X a tA) (hb:PW X (.BoolOp .And (b :: fW) pos) tB'):PW X (.BoolOp .And (a :: b :: fW) pos) (ZK tA tB'):=by
 intro wh pins s σ H Q I h
 refine isTrue_and (eN (ha pins s σ H _ I h) fun c s1 ⟨H1,I1,q1⟩=>?_)
 cases c with
 | true=>exact hb wh pins s1 σ H1 Q I1 q1
 | false=>exact ⟨H1,I1,q1⟩
theorem iU (ha:PT X a tA) (hb:PW X (.BoolOp .Or (b :: fW) pos) tB'):PW X (.BoolOp .Or (a :: b :: fW) pos) (tOr tA tB'):=by
 intro wh pins s σ H Q I h
 refine isTrue_or (eN (ha pins s σ H _ I h) fun c s1 ⟨H1,I1,q1⟩=>?_)
 cases c with
 | true=>exact ⟨H1,I1,q1⟩
 | false=>exact hb wh pins s1 σ H1 Q I1 q1
theorem fG (ha:PT X a tA):PT X (.UnaryOp .Not a pos) (Za tA):=by
 intro pins s σ H Q I h
 exact isTrue_not (ha pins s σ H (fun c H1=>Q (!c) H1) I h)
def Vn (ta tb:TE):TE:=fun σ H Q=>ta σ H fun x H1=>∃ c,x = .bl c /\ if c=true then tb σ H1 Q else Q (.bl false) H1
def ZF (ta tb:TE):TE:=fun σ H Q=>ta σ H fun x H1=>∃ c,x = .bl c /\ if c=true then Q (.bl true) H1 else tb σ H1 Q
def Ul (ta:TE):TE:=fun σ H Q=>ta σ H fun x H1=>∃ c,x = .bl c /\ Q (.bl (!c)) H1
theorem vM {op}{t:TE} (h:PE X a t):PE X (.BoolOp op [a] pos) t:=fun pins s σ H Q I hw=>BoolOp_one (h pins s σ H Q I hw)
theorem uT (ha:PE X a ta) (hb:PE X (.BoolOp .And (b :: fW) pos) tb):PE X (.BoolOp .And (a :: b :: fW) pos) (Vn ta tb):=by
 intro pins s σ H Q I h
 refine BoolOp_and (eN (ha pins s σ H _ I h) fun v s1 ⟨x,H1,I1,r1,q1⟩=>?_)
 obtain ⟨c,rfl,q1⟩:=q1
 cases r1
 refine wpAny_truthy_bool ?_
 cases c with
 | true=>exact hb pins s1 σ H1 Q I1 q1
 | false=>exact ⟨.bl false,H1,I1,rfl,q1⟩
theorem Uj (ha:PE X a ta) (hb:PE X (.BoolOp .Or (b :: fW) pos) tb):PE X (.BoolOp .Or (a :: b :: fW) pos) (ZF ta tb):=by
 intro pins s σ H Q I h
 refine BoolOp_or (eN (ha pins s σ H _ I h) fun v s1 ⟨x,H1,I1,r1,q1⟩=>?_)
 obtain ⟨c,rfl,q1⟩:=q1
 cases r1
 refine wpAny_truthy_bool ?_
 cases c with
 | false=>exact hb pins s1 σ H1 Q I1 q1
 | true=>exact ⟨.bl true,H1,I1,rfl,q1⟩
theorem Jr (ha:PE X a ta):PE X (.UnaryOp .Not a pos) (Ul ta):=by
 intro pins s σ H Q I h
 refine UnaryOp_ (eN (ha pins s σ H _ I h) fun v s1 ⟨x,H1,I1,r1,q1⟩=>?_)
 obtain ⟨c,rfl,q1⟩:=q1
 cases r1
 exact not_of (wpAny_truthy_bool ⟨.bl (!c),H1,I1,rfl,q1⟩)
def tIf (t:TT) (ta tb:TE):TE:=fun σ H Q=>t σ H fun c H1=>if c=true then ta σ H1 Q else tb σ H1 Q
theorem BV {c:Expr} (hc:PT X c tA) (ha:PE X a ta) (hb:PE X b tb):PE X (.IfExp c a b pos) (tIf tA ta tb):=by
 intro pins s σ H Q I h
 refine wpAny_IfExp (eN (hc pins s σ H _ I h) fun d s1 ⟨H1,I1,q1⟩=>?_)
 cases d with
 | true=>exact ha pins s1 σ H1 Q I1 q1
 | false=>exact hb pins s1 σ H1 Q I1 q1
end
end L2
namespace L2
open PySem PySem.Spec PyProof.Rows
def bM (K:PySem.W.Frag) (H:Hp) (a:Addr) (xs:List V):Prop :=
 Rd H a (.lst xs) ∨
  ∃ (o:Obj) (its:Array Value) (n:Nat),K.lookup a=some o /\ o.cls = .type "list" /\ o.dict=none /\ o.data = .seq its n /\ its.size <= sizeLine /\ bI xs its.toList
def bZ (K:PySem.W.Frag) (H:Hp) (a:Addr) (xs:List V):Prop :=
 Rd H a (.tup xs) ∨
  ∃ (o:Obj) (its:Array Value) (n:Nat),K.lookup a=some o /\ o.cls = .type "tuple" /\ o.data = .seq its n /\ its.size <= sizeLine /\ bI xs its.toList
def Z9:Value->Option V
 | .none=>some .non
 | .bool b=>some (.bl b)
 | .int i _=>some (.int i)
 | .str x _=>some (.str x)
 | .bytes b _=>some (.byt b)
 | .float b _=>some (.flt b)
 | .ref a=>some (.ref a)
 | .type n=>some (.ty n)
 | _=>none
theorem bL.abs {x:V}{u:Value} (r:bL x u):Z9 u=some x:=by
 cases x with
 | non=>cases r; rfl
 | bl _=>cases r; rfl
 | int _=>obtain ⟨t,rfl⟩:=r; rfl
 | str _=>obtain ⟨t,rfl⟩:=r; rfl
 | byt _=>obtain ⟨t,rfl⟩:=r; rfl
 | flt _=>obtain ⟨t,rfl⟩:=r; rfl
 | ref _=>cases r; rfl
 | ty _=>cases r; rfl
theorem bL.inj {x y:V}{u:Value} (r:bL x u) (q:bL y u):x=y:=Option.some.inj (r.abs.symm.trans q.abs)
theorem bI.inj:∀ {xs ys:List V}{us:List Value},bI xs us->bI ys us->xs=ys
 | _,_,_,.nil,.nil=>rfl
 | _,_,_,.cons r t,.cons r' t'=>by rw [r.inj r',bI.inj t t']
section
variable {X:Cx}{pins:List (Addr × Obj)}{σ : St}{H:Hp}{s:Shared}{a:Addr}{xs ys:List V}
theorem bM.of {K:PySem.W.Frag} (h:H a=some (.lst xs)):bM K H a xs:=.inl (.inl h)
theorem bZ.of {K:PySem.W.Frag} (h:H a=some (.tup xs)):bZ K H a xs:=.inl (.inl h)
theorem aY.list (I:aY X pins σ H s) (h:bM X.K H a xs):∃ its:List Value,bI xs its /\ PlainL s.heap a its.toArray /\ xs.length <= sizeLine:=by
 rcases h with h | ⟨o,its,n,hk,hc,hd,hs,hz,r⟩
 ·obtain ⟨z,its,n,r,e⟩:=h.ok I.hok
  exact ⟨its,r,⟨_,n,e,rfl,rfl,rfl⟩,z⟩
 ·refine ⟨its.toList,r,⟨o,n,I.kIn a o hk,hc,hd,by simpa using hs⟩,?_⟩
  have e:=r.length
  simp only [Array.length_toList] at e
  omega
theorem aY.tuple (I:aY X pins σ H s) (h:bZ X.K H a xs):∃ its:List Value,bI xs its /\ IsTup s.heap a its.toArray /\ xs.length <= sizeLine:=by
 rcases h with h | ⟨o,its,n,hk,hc,hs,hz,r⟩
 ·obtain ⟨z,its,r,p⟩:=h.ok I.hok
  exact ⟨its,r,p,z⟩
 ·refine ⟨its.toList,r,⟨o,I.kIn a o hk,hc,n,by simpa using hs⟩,?_⟩
  have e:=r.length
  simp only [Array.length_toList] at e
  omega
theorem aY.list_inj (I:aY X pins σ H s) (h:bM X.K H a xs) (h':bM X.K H a ys):xs=ys:=by
 obtain ⟨its,r,⟨o,n,e,_,_,d⟩,_⟩:=I.list h
 obtain ⟨its',r',⟨o',n',e',_,_,d'⟩,_⟩:=I.list h'
 rw [e] at e'; cases e'
 rw [d] at d'
 injection d' with d1 _
 have:its=its':=by simpa using congrArg Array.toList d1
 subst this
 exact r.inj r'
theorem aY.tuple_inj (I:aY X pins σ H s) (h:bZ X.K H a xs) (h':bZ X.K H a ys):xs=ys:=by
 obtain ⟨its,r,⟨o,e,_,n,d⟩,_⟩:=I.tuple h
 obtain ⟨its',r',⟨o',e',_,n',d'⟩,_⟩:=I.tuple h'
 rw [e] at e'; cases e'
 rw [d] at d'
 injection d' with d1 _
 have:its=its':=by simpa using congrArg Array.toList d1
 subst this
 exact r.inj r'
end
abbrev Cx.wish (X:Cx) (E:Value->Shared->Prop):Cx:={ X with xe:=E }
abbrev Cx.nox (X:Cx):Cx:=X.wish fun _ _=>False
theorem Cx.Ok.wish {X:Cx} (ok:X.Ok) (E:Value->Shared->Prop):(X.wish E).Ok :=
 ⟨ok.mod,ok.kind,ok.glob,ok.blt,ok.above,ok.inj,ok.has,ok.cab,ok.hd,ok.frames,ok.stk,ok.exf,ok.bs,ok.bsz,ok.noex,ok.exfs,ok.funs,ok.frf⟩
theorem Cx.Ok.unwish {X:Cx}{E:Value->Shared->Prop} (ok:(X.wish E).Ok):X.Ok :=
 ⟨ok.mod,ok.kind,ok.glob,ok.blt,ok.above,ok.inj,ok.has,ok.cab,ok.hd,ok.frames,ok.stk,ok.exf,ok.bs,ok.bsz,ok.noex,ok.exfs,ok.funs,ok.frf⟩
section
variable {X:Cx}{pins:List (Addr × Obj)}{σ : St}{H:Hp}{s:Shared}{E:Value->Shared->Prop}
theorem aY.wish (I:aY X pins σ H s) (E:Value->Shared->Prop):aY (X.wish E) pins σ H s:=⟨I.ok.wish E,I.os,I.bare,I.base,I.loc,I.cell,I.free,I.freeC,I.pin,I.hok,I.len⟩
theorem aY.unwish (I:aY (X.wish E) pins σ H s):aY X pins σ H s:=⟨I.ok.unwish,I.os,I.bare,I.base,I.loc,I.cell,I.free,I.freeC,I.pin,I.hok,I.len⟩
theorem SP.unwish {D:sV}{f:Flow}{s':Shared} (h:SP (X.wish E) pins D f s'):SP X pins D f s':=by
 cases f with
 | next=>obtain ⟨σ',H',I,q⟩:=h; exact ⟨σ',H',I.unwish,q⟩
 | brk=>obtain ⟨σ',H',I,q⟩:=h; exact ⟨σ',H',I.unwish,q⟩
 | cont=>obtain ⟨σ',H',I,q⟩:=h; exact ⟨σ',H',I.unwish,q⟩
 | ret u=>obtain ⟨v,σ',H',I,r,q⟩:=h; exact ⟨v,σ',H',I.unwish,r,q⟩
theorem PE.nox {e:Expr}{t:TE} (h:PE X.nox e t):PE X e t:=fun pins s σ H Q I hw =>
 wpAny_mono (h pins s σ H Q (I.wish _) hw) (fun _ _ ⟨v,H',I',r,q⟩=>⟨v,H',I'.unwish,r,q⟩) fun _ _ z=>False.elim z
theorem PT.nox {e:Expr}{t:TT} (h:PT X.nox e t):PT X e t:=fun pins s σ H Q I hw =>
 wpAny_mono (h pins s σ H Q (I.wish _) hw) (fun _ _ ⟨H',I',q⟩=>⟨H',I'.unwish,q⟩) fun _ _ z=>False.elim z
theorem sJ.nox {st:List Stmt}{t:TS} (h:sJ X.nox st t):sJ X st t:=fun pins s σ H D I hw =>
 wpAny_mono (h pins s σ H D (I.wish _) hw) (fun _ _ q=>q.unwish) fun _ _ z=>False.elim z
end
section
variable {X:Cx}{st:Stmt}{fW:List Stmt}{t u:TS}{e:Expr}{te:TE}{pos:Pos}
def SJ:TS:=fun D σ H=>D.nx σ H
def aAA (t u:TS):TS:=fun D σ H=>t { D with nx:=u D } σ H
theorem bU:sJ X [] SJ:=fun _ _ σ H _ I h=>wpAny_execs_nil ⟨σ,H,I,h⟩
theorem aD (h1:PS X st t) (h2:sJ X fW u):sJ X (st :: fW) (aAA t u):=by
 intro pins s σ H D I h
 refine wpAny_execs_cons (eN (h1 pins s σ H { D with nx:=u D } I h) fun f s1 q=>?_)
 cases f with
 | next =>
  obtain ⟨σ',H',I',q⟩:=q
  exact h2 pins s1 σ' H' D I' q
 | ret v=>exact q
 | brk=>exact q
 | cont=>exact q
theorem aJ (h1:PS X st t):sJ X [st] t:=by
 intro pins s σ H D I h
 refine wpAny_execs_cons (eN (h1 pins s σ H D I h) fun f s1 q=>?_)
 cases f with
 | next=>exact wpAny_execs_nil q
 | ret v=>exact q
 | brk=>exact q
 | cont=>exact q
def Pz:TS:=fun D σ H=>D.bk σ H
theorem J3:PS X (.Break pos) Pz:=fun _ _ σ H _ I h=>wpAny_Break ⟨σ,H,I,h⟩
theorem aY.quiet {pins:List (Addr × Obj)}{σ : St}{H:Hp}{s:Shared} (I:aY X pins σ H s):interactive X.env=false:=by simp [interactive,I.ok.kind]
def YF (te:TE):TS:=fun D σ H=>te σ H fun _ H1=>D.nx σ H1
theorem eU (he:PE X e te) (hs:swapsWith e none pos.line X.env=pure false:=by rfl):PS X (.Expr e pos) (YF te):=by
 intro pins s σ H D I h
 exact wpAny_Expr_any (eN (he pins s σ H _ I h) fun v s1 ⟨x,H1,I1,r1,q1⟩=>⟨σ,H1,I1,q1⟩) I.quiet hs
def WQ (te:TE):TS:=fun D σ H=>te σ H D.rt
theorem aR (he:PE X e te):PS X (.Return (some e) pos) (WQ te):=by
 intro pins s σ H D I h
 exact wpAny_Return_some (eN (he pins s σ H _ I h) fun v s1 ⟨x,H1,I1,r1,q1⟩=>⟨x,σ,H1,I1,r1,q1⟩)
def ZZ (c:TT) (t u:TS):TS:=fun D σ H=>c σ H fun b H1=>if b=true then t D σ H1 else u D σ H1
theorem eF {c:Expr}{a b:List Stmt}{tc:TT} (hc:PT X c tc) (ha:sJ X a t) (hb:sJ X b u):PS X (.If c a b pos) (ZZ tc t u):=by
 intro pins s σ H D I h
 refine wpAny_If (eN (hc pins s σ H _ I h) fun d s1 ⟨H1,I1,q1⟩=>?_)
 cases d with
 | true=>exact ha pins s1 σ H1 D I1 q1
 | false=>exact hb pins s1 σ H1 D I1 q1
end
abbrev TG:=V->St->Hp->(St->Hp->Prop)->Prop
abbrev O3:=List V->St->Hp->(St->Hp->Prop)->Prop
def PG (X:Cx) (target:Expr) (t:TG):Prop :=
 ∀ (pins:List (Addr × Obj)) (s:Shared) (σ : St) (H:Hp) (v:V) (u:Value) (Q:St->Hp->Prop),aY X pins σ H s->bL v u->t v σ H Q ->
  wpAny (model X.prog X.w) X.A (assign target X.env u) (fun _ s'=>∃ σ' H',aY X pins σ' H' s' /\ Q σ' H') X.xe s
def Vk (X:Cx) (ts:List Expr) (t:O3):Prop :=
 ∀ (pins:List (Addr × Obj)) (s:Shared) (σ : St) (H:Hp) (vs:List V) (us:List Value) (Q:St->Hp->Prop),aY X pins σ H s->bI vs us->t vs σ H Q ->
  wpAny (model X.prog X.w) X.A (assignInOrder ((assignEach ts X.env).map (·.2)) us) (fun _ s'=>∃ σ' H',aY X pins σ' H' s' /\ Q σ' H') X.xe s
abbrev RG:=V->V->V->Hp->(Hp->Prop)->Prop
def W9 (X:Cx) (t:RG):Prop :=
 ∀ (pins:List (Addr × Obj)) (s:Shared) (σ : St) (H:Hp) (o i v:V) (ov iv u:Value) (Q:Hp->Prop),aY X pins σ H s->bL o ov->bL i iv->bL v u->t o i v H Q ->
  wpAny (model X.prog X.w) X.A (setItem ov iv u) (fun _ s'=>∃ H',aY X pins σ H' s' /\ Q H') X.xe s
section
variable {X:Cx}{pos:Pos}
def oG (i:Nat):TG:=fun v σ H Q=>Q (σ.set i (some v)) H
theorem aW {i:Nat}{x:Str} (hN:X.N.Nodup) (hi:X.N[i]? = some x) (hx:Xl X.env.scope x) (hf:X.fn x=true ∨ X.env.scope.names.lookup x=some .local:=by first | exact .inl rfl | exact .inr rfl | assumption):PG X (.Name x pos) (oG i):=by
 intro pins s σ H v u Q I r h
 exact wpAny_assign_Name (Br I hN hi hx r (fun s' I'=>⟨_,H,I',h⟩) hf)
def aAm:O3:=fun vs σ H Q=>vs=[] /\ Q σ H
def Wg (t:TG) (u:O3):O3:=fun vs σ H Q=>∃ v r,vs=v :: r /\ t v σ H fun σ' H'=>u r σ' H' Q
theorem fP:Vk X [] aAm:=by
 intro pins s σ H vs us Q I r h
 obtain ⟨e,h⟩:=h
 subst e
 cases r
 exact assignInOrder_nil ⟨σ,H,I,h⟩
theorem bK {e:Expr}{es:List Expr}{t:TG}{u:O3} (h1:PG X e t) (h2:Vk X es u)
  (hs:(assignEach (e :: es) X.env).map (·.2)=assign e X.env :: (assignEach es X.env).map (·.2):=by rfl):Vk X (e :: es) (Wg t u):=by
 intro pins s σ H vs us Q I r h
 obtain ⟨v,vr,e1,h⟩:=h
 subst e1
 cases r with
 | cons r rr =>
  rw [hs]
  refine assignInOrder_cons (eN (h1 pins s σ H _ _ _ I r h) fun _ s1 ⟨σ1,H1,I1,q1⟩=>?_)
  exact h2 pins s1 σ1 H1 _ _ Q I1 rr q1
def V2 (K:PySem.W.Frag) (n:Nat) (t:O3):TG:=fun v σ H Q=>∃ a xs,v = .ref a /\ bZ K H a xs /\ xs.length=n /\ t xs σ H Q
theorem vD {es:List Expr}{k:Nat}{t:O3}{n:Nat} (hc:X.calm=true) (h:Vk X es t)
  (hn:(assignEach es X.env).length=n:=by rfl) (hst:(assignEach es X.env).findIdx? (·.1)=none:=by rfl):PG X (.Tuple es k pos) (V2 X.K n t):=by
 intro pins s σ H v u Q I r hw
 obtain ⟨a,xs,e1,hq,hl,hw⟩:=hw
 subst e1
 cases r
 obtain ⟨its,rv,ht,hz⟩:=I.tuple hq
 refine assign_Tuple_tuple (I.ok.hd hc) ht (by simp [hn,<- hl,rv.length]) hst fun h' hx=>?_
 have I1:aY X pins σ H { s with heap:=h' }:=I.kept (t':=s.toks) fun b o e=>hx b o (Nat.ne_of_lt (Heap.lt_size e)) e
 exact h pins _ σ H xs _ Q I1 (by simpa using rv) hw
def aAE (to ti:TE) (t:RG):TG:=fun v σ H Q=>to σ H fun o H1=>ti σ H1 fun i H2=>t o i v H2 fun H3=>Q σ H3
theorem zK {o i:Expr}{to ti:TE}{t:RG} (ho:PE X o to) (hi:PE X i ti) (hs:W9 X t)
  (ha:∀ v,assign (.Subscript o i pos) X.env v=(do
   let ov <- holding [v] (eval o X.env)
   let iv <- holding [v,ov] (eval i X.env)
   standAt pos
   holding [v,ov,iv] (setItem ov iv v)
   release [v,ov,iv] []):=by intro _; rfl):PG X (.Subscript o i pos) (aAE to ti t):=by
 intro pins s σ H v u Q I r h
 rw [ha]
 refine wpAny_bind (wpAny_holding (eN (ho pins s σ H _ I h) fun ov s1 ⟨x,H1,I1,r1,q1⟩=>?_))
 refine wpAny_bind (wpAny_holding (eN (hi pins s1 σ H1 _ I1 q1) fun iv s2 ⟨y,H2,I2,r2,q2⟩=>?_))
 refine wpAny_bind (wpAny_standAt (wpAny_bind (wpAny_holding (eN (hs pins s2 σ H2 x y v ov iv u _ I2 r1 r2 r q2) fun _ s3 ⟨H3,I3,q3⟩=>?_))))
 exact wpAny_release ⟨σ,H3,I3,q3⟩
def Qc (te:TE) (g:TG):TS:=fun D σ H=>te σ H fun x H1=>g x σ H1 D.nx
theorem z7 {tg e:Expr}{te:TE}{g:TG} (he:PE X e te) (hg:PG X tg g) (hs:swapsWithSole [tg] e pos.line X.env=pure false:=by rfl) (hw:swappedStores [tg] e X.env=pure none:=by rfl)
  (h1:(assignEach [tg] X.env).map (·.2)=[assign tg X.env]:=by rfl):PS X (.Assign [tg] e pos) (Qc te g):=by
 intro pins s σ H D I h
 refine wpAny_Assign_stores (eN (he pins s σ H _ I h) fun v s1 ⟨x,H1,I1,r1,q1⟩=>?_) hs hw
 rw [h1]
 exact eN (hg pins s1 σ H1 x v _ I1 r1 q1) fun _ s2 q=>q
theorem aX {i:Nat}{x:Str}{e:Expr}{te:TE}{pos':Pos} (hN:X.N.Nodup) (hi:X.N[i]? = some x) (hx:Xl X.env.scope x) (he:PE X e te) (hs:swapsWith e (some (.Name x pos')) pos.line X.env=pure false:=by rfl) (hf:X.fn x=true ∨ X.env.scope.names.lookup x=some .local:=by first | exact .inl rfl | exact .inr rfl | assumption) :
  PS X (.Assign [.Name x pos'] e pos) (Qc te (oG i)):=by
 intro pins s σ H D I h
 refine wpAny_Assign_Name (eN (he pins s σ H _ I h) fun v s1 ⟨y,H1,I1,r1,q1⟩=>?_) hs
 exact Br I1 hN hi hx r1 (fun s2 I2=>⟨_,H1,I2,q1⟩) hf
end
section
variable {X:Cx}{pos:Pos}
def Jc (c:TT) (tb:TS):TS:=fun D σ H=>∃ W:Nat->St->Hp->Prop,(∃ m,W m σ H) /\ ∀ m σ H,W m σ H ->
 c σ H fun b H1=>if b=true then ∃ N:St->Hp->Prop,(∀ σ' H',N σ' H'->∃ m',m' < m /\ W m' σ' H') /\ tb { D with nx:=N,ct:=N,bk:=D.nx } σ H1 else D.nx σ H1
theorem KQ {c:Expr}{body:List Stmt}{tc:TT}{tb:TS} (hp:PassesOwn (model X.prog X.w) X.A X.env X.xe) (hc:PT X c tc) (hb:sJ X body tb):PS X (.While c body [] pos) (Jc tc tb):=by
 intro pins s σ H D I h
 obtain ⟨W,⟨m0,w0⟩,turn⟩:=h
 refine wpAny_While (codeAny_whileLoop (fun n s'=>∃ σ' H',aY X pins σ' H' s' /\ W n σ' H') ?_ m0 ⟨σ,H,I,w0⟩)
 rintro n s1 ⟨σ1,H1,I1,w1⟩
 refine wpAny_passesOwn hp (eN (hc pins s1 σ1 H1 _ I1 (turn n σ1 H1 w1)) fun b s2 ⟨H2,I2,q2⟩=>?_)
 cases b with
 | true =>
  obtain ⟨N,hN,q2⟩:=q2
  rw [if_pos rfl]
  refine wpAny_passesOwn hp (eN (hb pins s2 σ1 H2 _ I2 q2) fun f s3 q3=>?_)
  cases f with
  | next =>
   obtain ⟨σ3,H3,I3,n3⟩:=q3
   obtain ⟨m',hm,w3⟩:=hN σ3 H3 n3
   exact ⟨m',hm,σ3,H3,I3,w3⟩
  | cont =>
   obtain ⟨σ3,H3,I3,n3⟩:=q3
   obtain ⟨m',hm,w3⟩:=hN σ3 H3 n3
   exact ⟨m',hm,σ3,H3,I3,w3⟩
  | brk=>exact q3
  | ret v=>exact q3
 | false =>
  rw [if_neg Bool.false_ne_true]
  exact wpAny_execs_nil ⟨σ1,H2,I2,q2⟩
end
structure It where
 go:Nat->Hp->Prop
 yld:Nat->Hp->V->Hp->Prop
 stop:Nat->Hp->Prop
def lG (X:Cx) (pins:List (Addr × Obj)) (H:Hp) (b:Addr):Prop :=
 H b=none /\ b ≠ X.env.locals /\ b ∉ X.fs /\ (b ∈ X.ex ∨ X.s₀.heap.objs.size <= b) /\ (∀ x c,X.env.cells.lookup x=some c->c ≠ b) /\ ∀ p ∈ X.pn ++ pins,p.1 ≠ b
theorem aY.fpOk {X:Cx}{pins:List (Addr × Obj)}{σ : St}{H H':Hp}{s:Shared}{b:Addr} (I:aY X pins σ H s) (hb:s.heap.objs.size <= b) (hn:H' b=none):lG X pins H' b:=by
 refine ⟨hn,Nat.ne_of_gt (Nat.lt_of_lt_of_le I.lt hb),I.nofs hb,.inr (Nat.le_trans I.sz hb),fun x c e z=>?_,fun p hp z=>?_⟩
 ·obtain ⟨v,q⟩:=I.cell x c e
  exact absurd (Nat.lt_of_lt_of_le q.lt (by rw [z]; exact hb)) (Nat.lt_irrefl _)
 ·exact absurd (Nat.lt_of_lt_of_le (Heap.lt_size (I.pin p hp).1) (by rw [z]; exact hb)) (Nat.lt_irrefl _)
structure Ey (P:Program) (w:World) (K:PySem.W.Frag) (tg:Expr) (J:It) (fp:List Addr) (it:Addr) (tn:Nat->Heap->Prop):Prop where
 mem:it ∈ fp
 obj:∀ i h,tn i h->∀ b ∈ fp,∃ o,h.get? b=some o /\ ∀ v,o.data ≠ .cell v
 keep:∀ i h h',tn i h->(∀ b ∈ fp,∀ o,h.get? b=some o->h'.get? b=some o)->tn i h'
 item:∀ (X:Cx),X.prog=P->X.w=w->X.K=K->X.calm=true->∀ (i:Nat) (pins:List (Addr × Obj)) (s:Shared) (σ : St) (H:Hp) (E:Value->Shared->Prop),aY X pins σ H s->(∀ b ∈ fp,lG X pins H b)->tn i s.heap->J.go i H ->
  wpAny (model P w) X.A (pyNext (.ref it)) (fun r s1=>∃ u,r=some u ∧
   wpAny (model P w) X.A (letOwnedTupleGo tg (.ref it) u) (fun _ s2=>∃ x H',aY X pins σ H' s2 /\ bL x u /\ J.yld i H x H' /\ tn (i + 1) s2.heap /\ ∀ b ∈ fp,H' b=none) E s1) E s
 done:∀ (X:Cx),X.prog=P->X.w=w->X.K=K->X.calm=true->∀ (i:Nat) (pins:List (Addr × Obj)) (s:Shared) (σ : St) (H:Hp) (E:Value->Shared->Prop),aY X pins σ H s->(∀ b ∈ fp,lG X pins H b)->tn i s.heap->J.stop i H ->
  wpAny (model P w) X.A (pyNext (.ref it)) (fun r s1=>r=none /\ aY X pins σ H s1) E s
 self:∀ (A:Around) (i:Nat) (s:Shared) (Q:Value->Shared->Prop) (E:Value->Shared->Prop),tn i s.heap->Q (.ref it) s->wpAny (model P w) A (pyIter (.ref it)) Q E s
abbrev TI:=St->Hp->(It->Hp->Prop)->Prop
def PIE (X:Cx) (pins:List (Addr × Obj)) (σ : St) (tg:Expr) (R:It->Hp->Prop) (itv:Value) (s2:Shared):Prop :=
 ∃ (it:Addr) (fp:List Addr) (tn:Nat->Heap->Prop) (J:It) (H':Hp),itv = .ref it /\ aY X pins σ H' s2 /\ Ey X.prog X.w X.K tg J fp it tn /\ tn 0 s2.heap /\ (∀ b ∈ fp,lG X pins H' b) /\ R J H'
def PI (X:Cx) (tg iter:Expr) (wi:TI):Prop :=
 ∀ (pins:List (Addr × Obj)) (s:Shared) (σ : St) (H:Hp) (R:It->Hp->Prop),aY X pins σ H s->wi σ H R ->
  wpAny (model X.prog X.w) X.A (eval iter X.env) (fun v s1=>wpAny (model X.prog X.w) X.A (pyIter v) (PIE X pins σ tg R) X.xe s1) X.xe s
theorem Cd {M:Model}{A:Around}{E:Value->Shared->Prop}{s:Shared}{tg:Expr}{it:Addr}{u:Value}{o:Obj}{n:String}{vs:Array Value}{Q:Unit->Shared->Prop} (ho:s.heap.get? it=some o) (hc:o.cls = .type n) (hd:o.data = .fields vs)
  (hn:["enumerate","zip","dict_itemiterator","dict_reverseitemiterator","odict_iterator","itertools.zip_longest","itertools.pairwise"].contains n=false) (hQ:Q () s):wpAny M A (letOwnedTupleGo tg (.ref it) u) Q E s:=by
 unfold letOwnedTupleGo
 cases tg <;> first
  | exact wpAny_pure hQ
  | (cases u <;> first
    | exact wpAny_pure hQ
    | (refine wpAny_bind (wpAny_load ho ?_); rw [hc,hd]; show wpAny M A (if (["enumerate","zip","dict_itemiterator","dict_reverseitemiterator","odict_iterator","itertools.zip_longest","itertools.pairwise"].contains n && vs[0]? == some (rawInt _))=true then _ else _) Q E s; rw [if_neg (by intro h; rw [hn,Bool.false_and] at h; cases h)]; exact wpAny_pure hQ))
def RN (K:PySem.W.Frag) (a:Addr):It :=
 ⟨fun i H=>∃ xs x,bM K H a xs /\ xs[i]? = some x,fun i H x H'=>H'=H /\ ∀ xs,bM K H a xs->xs[i]? = some x,fun i H=>∃ xs,bM K H a xs /\ xs.length <= i⟩
def Itt (K:PySem.W.Frag) (a:Addr):It :=
 ⟨fun i H=>∃ xs x,bZ K H a xs /\ xs[i]? = some x,fun i H x H'=>H'=H /\ ∀ xs,bZ K H a xs->xs[i]? = some x,fun i H=>∃ xs,bZ K H a xs /\ xs.length <= i⟩
def QC (lo:Int) (n:Nat):It:=⟨fun i _=>i < n,fun i H x H'=>H'=H /\ x = .int (lo + i),fun i _=>n <= i⟩
theorem Hm {P:Program}{w:World}{K:PySem.W.Frag}{tg:Expr} (a it:Addr):Ey P w K tg (RN K a) [it] it (fun i h=>h.IsListIter it a i) where
 mem:=by simp
 obj:=fun i h st b hb=>by
  have e:b=it:=by simpa using hb
  subst e
  obtain ⟨o,e,c,d⟩:=st
  exact ⟨o,e,fun v z=>by rw [d] at z; cases z⟩
 keep:=fun i h h' st k=>st.at fun o e=>k it (by simp) o e
 item:=by
  intro X hP hw hK hc i pins s σ H E I hf st hg
  subst hP hw hK
  obtain ⟨xs,x,hq,hx⟩:=hg
  obtain ⟨its,rv,p,hz⟩:=I.list hq
  obtain ⟨u,hu,ru⟩:=rv.get hx
  obtain ⟨f0,f1,f2,f3,f4,f5⟩:=hf it (by simp)
  refine wpAny_pyNext_list_item st p.isList (x:=u) (by simpa using hu) fun h' st' sb=>?_
  have I1:aY X pins σ H { s with heap:=h' }:=I.turned (t':=s.toks) (fun b o hb e=>(sb.2 b hb).trans e) f0 f1 f3 f4 f5
  obtain ⟨o,e,c,d⟩:=id st'
  exact ⟨u,rfl,Cd (s:={ s with heap:=h' }) e c d (by decide) ⟨x,H,I1,ru,⟨rfl,fun ys hy=>by rw [I.list_inj hy hq]; exact hx⟩,st',fun b hb=>(hf b hb).1⟩⟩
 done:=by
  intro X hP hw hK hc i pins s σ H E I hf st hg
  subst hP hw hK
  obtain ⟨xs,hq,hx⟩:=hg
  obtain ⟨its,rv,p,hz⟩:=I.list hq
  obtain ⟨f0,f1,f2,f3,f4,f5⟩:=hf it (by simp)
  have hl:=rv.length
  exact wpAny_pyNext_list_end (I.ok.hd hc) st p.isList (by simp; omega) fun h' eb=>⟨rfl,I.turned (t':=s.toks) (fun b o hb e=>eb b o hb e) f0 f1 f3 f4 f5⟩
 self:=fun _ _ _ _ _ st h=>wpAny_pyIter_listiter st h
theorem Es {P:Program}{w:World}{K:PySem.W.Frag}{tg:Expr} (a it:Addr):Ey P w K tg (Itt K a) [it] it (fun i h=>h.IsTupleIter it a i) where
 mem:=by simp
 obj:=fun i h st b hb=>by
  have e:b=it:=by simpa using hb
  subst e
  obtain ⟨o,e,c,d⟩:=st
  exact ⟨o,e,fun v z=>by rw [d] at z; cases z⟩
 keep:=fun i h h' st k=>st.at fun o e=>k it (by simp) o e
 item:=by
  intro X hP hw hK hc i pins s σ H E I hf st hg
  subst hP hw hK
  obtain ⟨xs,x,hq,hx⟩:=hg
  obtain ⟨its,rv,p,hz⟩:=I.tuple hq
  obtain ⟨u,hu,ru⟩:=rv.get hx
  obtain ⟨f0,f1,f2,f3,f4,f5⟩:=hf it (by simp)
  refine wpAny_pyNext_tuple_item st (show s.heap.IsTuple a its.toArray from p) (x:=u) (by simpa using hu) fun h' st' sb=>?_
  have I1:aY X pins σ H { s with heap:=h' }:=I.turned (t':=s.toks) (fun b o hb e=>(sb.2 b hb).trans e) f0 f1 f3 f4 f5
  obtain ⟨o,e,c,d⟩:=id st'
  exact ⟨u,rfl,Cd (s:={ s with heap:=h' }) e c d (by decide) ⟨x,H,I1,ru,⟨rfl,fun ys hy=>by rw [I.tuple_inj hy hq]; exact hx⟩,st',fun b hb=>(hf b hb).1⟩⟩
 done:=by
  intro X hP hw hK hc i pins s σ H E I hf st hg
  subst hP hw hK
  obtain ⟨xs,hq,hx⟩:=hg
  obtain ⟨its,rv,p,hz⟩:=I.tuple hq
  obtain ⟨f0,f1,f2,f3,f4,f5⟩:=hf it (by simp)
  have hl:=rv.length
  exact wpAny_pyNext_tuple_end (I.ok.hd hc) st (show s.heap.IsTuple a its.toArray from p) (by simp; omega) fun h' eb=>⟨rfl,I.turned (t':=s.toks) (fun b o hb e=>eb b o hb e) f0 f1 f3 f4 f5⟩
 self:=fun _ _ _ _ _ st h=>wpAny_pyIter_tupleiter st h
theorem FZ {P:Program}{w:World}{K:PySem.W.Frag}{tg:Expr} (it:Addr) (lo:Int) (n:Nat):Ey P w K tg (QC lo n) [it] it (fun i h=>IsRangeIter h it (lo + (i:Nat) * 1) ((n:Int) - (i:Nat)) 1) where
 mem:=by simp
 obj:=fun i h st b hb=>by
  have e:b=it:=by simpa using hb
  subst e
  exact ⟨_,st,fun v z=>by
   have z':Data.fields _=Data.cell v:=z
   cases z'⟩
 keep:=fun i h h' st k=>k it (by simp) _ st
 item:=by
  intro X hP hw hK hc i pins s σ H E I hf st hg
  subst hP hw hK
  obtain ⟨f0,f1,f2,f3,f4,f5⟩:=hf it (by simp)
  have W:=Walks.range (prog:=X.prog) (w:=X.w) (I.ok.hd hc) it lo 1 n
  refine W.item i s _ _ hg st fun v h' tk hv st' kk=>?_
  obtain ⟨t,rfl⟩:=hv
  have I1:aY X pins σ H { s with heap:=h',toks:=tk }:=I.turned (fun b o hb e=>kk b o (by simpa using hb) e) f0 f1 f3 f4 f5
  refine ⟨_,rfl,Cd (s:={ s with heap:=h',toks:=tk }) (n:="range_iterator") st' rfl rfl (by decide) ⟨.int (lo + i),H,I1,⟨t,?_⟩,⟨rfl,rfl⟩,st',fun b hb=>(hf b hb).1⟩⟩
  rw [Int.mul_one]
 done:=by
  intro X hP hw hK hc i pins s σ H E I hf st hg
  subst hP hw hK
  obtain ⟨f0,f1,f2,f3,f4,f5⟩:=hf it (by simp)
  exact wpAny_pyNext_range_end (I.ok.hd hc) st (by have:n <= i:=hg; omega) fun h' eb=>⟨rfl,I.turned (t':=s.toks) (fun b o hb e=>eb b o hb e) f0 f1 f3 f4 f5⟩
 self:=fun _ _ _ _ _ st h=>wpAny_pyIter_rangeiter st h
end L2
namespace L2
open PySem PySem.Spec PyProof.Rows
section
variable {X:Cx}{tg:Expr}
def W2 (K:PySem.W.Frag) (tl:TE):TI:=fun σ H R=>tl σ H fun x H1=>∃ a,x = .ref a /\ (∃ xs,bM K H1 a xs) /\ R (RN K a) H1
def Z5 (K:PySem.W.Frag) (tl:TE):TI:=fun σ H R=>tl σ H fun x H1=>∃ a,x = .ref a /\ (∃ xs,bZ K H1 a xs) /\ R (Itt K a) H1
theorem cA {l:Expr}{tl:TE} (hl:PE X l tl):PI X tg l (W2 X.K tl):=by
 intro pins s σ H R I h
 refine eN (hl pins s σ H _ I h) fun v s1 ⟨x,H1,I1,r1,q1⟩=>?_
 obtain ⟨a,e,⟨xs,hq⟩,q⟩:=q1
 subst e
 cases r1
 obtain ⟨its,rv,p,hz⟩:=I1.list hq
 refine wpAny_pyIter_list p.isList ?_
 refine ⟨s1.heap.objs.size,[s1.heap.objs.size],_,_,H1,rfl,I1.kept (t':=s1.toks) fun b o e=>Heap.get?_push_of_some _ e,Hm a _,⟨_,Heap.get?_push_size _ rfl,rfl,rfl⟩,fun b hb=>?_,q⟩
 have e:b=s1.heap.objs.size:=by simpa using hb
 subst e
 exact I1.fpOk (Nat.le_refl _) (I1.hok.fresh (Nat.le_refl _))
theorem zF {l:Expr}{tl:TE} (hl:PE X l tl):PI X tg l (Z5 X.K tl):=by
 intro pins s σ H R I h
 refine eN (hl pins s σ H _ I h) fun v s1 ⟨x,H1,I1,r1,q1⟩=>?_
 obtain ⟨a,e,⟨xs,hq⟩,q⟩:=q1
 subst e
 cases r1
 obtain ⟨its,rv,p,hz⟩:=I1.tuple hq
 refine wpAny_pyIter_tuple (show s1.heap.IsTuple a its.toArray from p) ?_
 refine ⟨s1.heap.objs.size,[s1.heap.objs.size],_,_,H1,rfl,I1.kept (t':=s1.toks) fun b o e=>Heap.get?_push_of_some _ e,Es a _,⟨_,Heap.get?_push_size _ rfl,rfl,rfl⟩,fun b hb=>?_,q⟩
 have e:b=s1.heap.objs.size:=by simpa using hb
 subst e
 exact I1.fpOk (Nat.le_refl _) (I1.hok.fresh (Nat.le_refl _))
theorem JN {pins:List (Addr × Obj)}{σ : St}{H:Hp}{s:Shared}{R:It->Hp->Prop}{E:Value->Shared->Prop}{lo hi:Int}{t u v:Tok}{tk:Nat} (I:aY X pins σ H s) (h1:-(2 ^ 62) <= lo) (h2:lo < 2 ^ 62) (h3:-(2 ^ 62) <= hi) (h4:hi < 2 ^ 62)
  (q:R (QC lo (hi - lo).toNat) H):wpAny (model X.prog X.w) X.A (pyIter (.ref s.heap.objs.size)) (PIE X pins σ tg R) E { s with heap:=s.heap.push { cls:=.type "range",data:=.fields #[.int lo t,.int hi u,.int 1 v] },toks:=tk }:=by
 refine wpAny_pyIter_range (IsRange.new ..) (small_one h1 h2 h3 h4) ?_
 have I1:aY X pins σ H { s with heap:=s.heap.push { cls:=.type "range",data:=.fields #[.int lo t,.int hi u,.int 1 v] },toks:=tk }:=I.kept fun b o e=>Heap.get?_push_of_some _ e
 refine ⟨(s.heap.push { cls:=.type "range",data:=.fields #[.int lo t,.int hi u,.int 1 v] }).objs.size,[(s.heap.push { cls:=.type "range",data:=.fields #[.int lo t,.int hi u,.int 1 v] }).objs.size],_,_,H,rfl,
  I1.kept (t':=tk) fun b o e=>Heap.get?_push_of_some _ e,FZ _ lo (hi - lo).toNat,?_,fun b hb=>?_,q⟩
 ·have e1:lo + ((0:Nat):Int) * 1=lo:=by simp
  have e2:(((hi - lo).toNat:Nat):Int) - ((0:Nat):Int)=Builtin.Range.rangeSize lo hi 1:=by rw [rangeSize_one]; split <;> omega
  show IsRangeIter _ _ (lo + ((0:Nat):Int) * 1) ((((hi - lo).toNat:Nat):Int) - ((0:Nat):Int)) 1
  rw [e1,e2]
  exact Heap.get?_push_size _ rfl
 ·have e:b=(s.heap.push { cls:=.type "range",data:=.fields #[.int lo t,.int hi u,.int 1 v] }).objs.size:=by simpa using hb
  subst e
  exact I1.fpOk (Nat.le_refl _) (I1.hok.fresh (Nat.le_refl _))
def Wl (ta:TA):TI:=fun σ H R=>ta σ H fun vs H1=>∃ j:Int,vs=[.int j] /\ -(2 ^ 62) <= j /\ j < 2 ^ 62 /\ R (QC 0 j.toNat) H1
theorem iD {a:Expr}{ta:TA}{p pos:Pos} (hg:Gl X "range") (hm:X.mg "range" = none) (ha:PA X [a] ta) (hs:starEach [a] X.env=[(false,eval a X.env)]:=by rfl):PI X tg (.Call (.Name "range" p) [a] [] pos) (Wl ta):=by
 intro pins s σ H R I h
 refine Call_ (qM I hg hm boot_range (PyProof.Rows.callWith_type1 (eN (ha pos pins s σ H _ I h) fun us s1 ⟨vs,H1,I1,r1,q1⟩=>?_) hs rfl))
 obtain ⟨j,e,q1,q2,q⟩:=q1
 subst e
 cases r1 with
 | cons r rr =>
  cases rr
  obtain ⟨t,rfl⟩:=r
  exact call_range_1 (JN I1 (by omega) (by omega) q1 q2 (by simpa using q))
def Zx (wi:TI) (g:TG) (tb:TS):TS:=fun D σ H=>wi σ H fun J H1=>∃ W:Nat->Nat->St->Hp->Prop,(∃ m,W 0 m σ H1) /\ ∀ i m σ H,W i m σ H ->
 (J.stop i H /\ D.nx σ H) ∨ (J.go i H /\ ∃ N:St->Hp->Prop,(∀ σ' H',N σ' H'->∃ m',m' < m /\ W (i + 1) m' σ' H') /\ ∀ x H',J.yld i H x H'->g x σ H' fun σ2 H2=>tb { D with nx:=N,ct:=N,bk:=D.nx } σ2 H2)
def vC (fp:List Addr) (h:Heap):List (Addr × Obj):=fp.filterMap fun b=>(h.get? b).map fun o=>(b,o)
theorem lK {fp:List Addr}{h:Heap}{b:Addr}{o:Obj} (hb:b ∈ fp) (e:h.get? b=some o):(b,o) ∈ vC fp h:=List.mem_filterMap.mpr ⟨b,hb,by rw [e]; rfl⟩
theorem Ie {fp:List Addr}{h:Heap}{p:Addr × Obj} (hp:p ∈ vC fp h):p.1 ∈ fp /\ h.get? p.1=some p.2:=by
 obtain ⟨b,hb,e⟩:=List.mem_filterMap.mp hp
 cases q:h.get? b with
 | none=>rw [q] at e; cases e
 | some o =>
  rw [q] at e
  have e':(b,o)=p:=Option.some.inj e
  subst e'
  exact ⟨hb,q⟩
theorem aY.pinned {pins:List (Addr × Obj)}{σ : St}{H:Hp}{s:Shared}{fp:List Addr} (I:aY X pins σ H s) (hf:∀ b ∈ fp,lG X pins H b) (ho:∀ b ∈ fp,∃ o,s.heap.get? b=some o /\ ∀ v,o.data ≠ .cell v):aY X (pins ++ vC fp s.heap) σ H s :=
 I.pins_of fun p hp=>(List.mem_append.mp hp).elim (fun z=>I.pin p (List.mem_append_right _ z)) fun z=>by
  obtain ⟨hb,e⟩:=Ie z
  obtain ⟨f0,f1,f2,_⟩:=hf p.1 hb
  obtain ⟨o,e',d⟩:=ho p.1 hb
  rw [e] at e'; cases e'
  exact ⟨e,f0,f1,f2,d⟩
theorem aY.unpinned {pins pl:List (Addr × Obj)}{σ : St}{H:Hp}{s:Shared} (I:aY X (pins ++ pl) σ H s):aY X pins σ H s:=I.pins_of fun p hp=>I.pin p (List.mem_append_right _ (List.mem_append_left _ hp))
theorem jD {iter:Expr}{body:List Stmt}{wi:TI}{g:TG}{tb:TS}{pos:Pos} (hp:PassesOwn (model X.prog X.w) X.A X.env X.xe) (hc:X.calm=true) (hi:PI X tg iter wi) (hg:PG X tg g) (hb:sJ X body tb)
  (hs:∀ x,foldedSetIterable iter X.env x=pure x:=by intro _; rfl):PS X (.For tg iter body [] pos) (Zx wi g tb):=by
 intro pins s σ H D I h
 refine wpAny_For (eN (hi pins s σ H _ I h) fun v s1 h1=>eN h1 fun itv s2 h2=>?_) hs
 obtain ⟨it,fp,tn,J,H2,e,I2,T,st2,f2,W,⟨m0,w0⟩,turn⟩:=h2
 subst e
 have stat:∀ {H':Hp},(∀ b ∈ fp,H' b=none)->∀ b ∈ fp,lG X pins H' b:=fun hn b hb=>⟨hn b hb,(f2 b hb).2⟩
 refine codeAny_forLoop_any (fun n s'=>∃ i σ' H',aY X pins σ' H' s' /\ tn i s'.heap /\ (∀ b ∈ fp,H' b=none) /\ W i n σ' H') ?_ m0 ⟨0,σ,H2,I2,st2,fun b hb=>(f2 b hb).1,w0⟩
 rintro n s3 ⟨i,σ3,H3,I3,st3,fr3,w3⟩
 rcases turn i n σ3 H3 w3 with ⟨stop,qn⟩ | ⟨go,N,hN,step⟩
 ·refine wpAny_passesOwn hp (eN (T.done X rfl rfl rfl hc i pins s3 σ3 H3 X.xe I3 (stat fr3) st3 stop) fun r s4 ⟨hr,I4⟩=>?_)
  subst hr
  exact wpAny_execs_nil ⟨σ3,H3,I4,qn⟩
 ·refine wpAny_passesOwn hp (eN (T.item X rfl rfl rfl hc i pins s3 σ3 H3 X.xe I3 (stat fr3) st3 go) fun r s4 ⟨u,hr,h4⟩=>?_)
  subst hr
  refine wpAny_passesOwn hp (eN h4 fun _ s5 ⟨x,H5,I5,r5,y5,st5,fr5⟩=>?_)
  have I5':=I5.pinned (stat fr5) (T.obj _ _ st5)
  refine wpAny_passesOwn hp (eN (hg _ s5 σ3 H5 x u _ I5' r5 (step x H5 y5)) fun _ s6 ⟨σ6,H6,I6,q6⟩=>?_)
  refine wpAny_passesOwn hp (eN (hb _ s6 σ6 H6 _ I6 q6) fun f s7 q7=>?_)
  have again:∀ {σ7:St}{H7:Hp},aY X (pins ++ vC fp s5.heap) σ7 H7 s7->N σ7 H7->∃ m,m < n /\ ∃ i σ' H',aY X pins σ' H' s7 /\ tn i s7.heap /\ (∀ b ∈ fp,H' b=none) /\ W i m σ' H':=fun {σ7 H7} I7 n7=>by
   obtain ⟨m',hm,w7⟩:=hN σ7 H7 n7
   refine ⟨m',hm,i + 1,σ7,H7,I7.unpinned,T.keep _ _ _ st5 fun b hb o e=>(I7.pin (b,o) (List.mem_append_right _ (List.mem_append_right _ (lK hb e)))).1,fun b hb=>?_,w7⟩
   obtain ⟨o,e,d⟩:=T.obj _ _ st5 b hb
   exact (I7.pin (b,o) (List.mem_append_right _ (List.mem_append_right _ (lK hb e)))).2.1
  cases f with
  | next=>obtain ⟨σ7,H7,I7,n7⟩:=q7; exact again I7 n7
  | cont=>obtain ⟨σ7,H7,I7,n7⟩:=q7; exact again I7 n7
  | brk=>obtain ⟨σ7,H7,I7,q7⟩:=q7; exact ⟨σ7,H7,I7.unpinned,q7⟩
  | ret v=>obtain ⟨x7,σ7,H7,I7,r7,q7⟩:=q7; exact ⟨x7,σ7,H7,I7.unpinned,r7,q7⟩
end
theorem jT {K:PySem.W.Frag}{a:Addr}{xs:List V}{g:TG}{tb:TS}{D:sV}{σ : St}{H:Hp} (Pv:Nat->St->Hp->Prop) (h0:Pv 0 σ H) (hl:∀ i σ H,i <= xs.length->Pv i σ H->bM K H a xs)
  (hs:∀ i x σ H,xs[i]? = some x->Pv i σ H->g x σ H fun σ2 H2=>tb { D with nx:=Pv (i + 1),ct:=Pv (i + 1),bk:=D.nx } σ2 H2) (hd:∀ σ H,Pv xs.length σ H->D.nx σ H) :
  ∃ W:Nat->Nat->St->Hp->Prop,(∃ m,W 0 m σ H) /\ ∀ i m σ H,W i m σ H ->
   ((RN K a).stop i H /\ D.nx σ H) ∨ ((RN K a).go i H /\ ∃ N:St->Hp->Prop,(∀ σ' H',N σ' H'->∃ m',m' < m /\ W (i + 1) m' σ' H') /\ ∀ x H',(RN K a).yld i H x H'->g x σ H' fun σ2 H2=>tb { D with nx:=N,ct:=N,bk:=D.nx } σ2 H2):=by
 refine ⟨fun i m σ H=>m=xs.length - i /\ i <= xs.length /\ Pv i σ H,⟨xs.length,by simp,Nat.zero_le _,h0⟩,?_⟩
 rintro i m σ H ⟨rfl,hi,p⟩
 have q:=hl i σ H hi p
 by_cases hlt:i < xs.length
 ·refine .inr ⟨⟨xs,xs[i],q,by simp [hlt]⟩,Pv (i + 1),fun σ' H' p'=>⟨xs.length - (i + 1),by omega,rfl,hlt,p'⟩,fun x H' y=>?_⟩
  obtain ⟨e,y⟩:=y
  subst e
  exact hs i x σ _ (y xs q) p
 ·have e:i=xs.length:=by omega
  subst e
  exact .inl ⟨⟨xs,q,Nat.le_refl _⟩,hd σ H p⟩
theorem qX {lo:Int}{n:Nat}{g:TG}{tb:TS}{D:sV}{σ : St}{H:Hp} (Pv:Nat->St->Hp->Prop) (h0:Pv 0 σ H)
  (hs:∀ i σ H,i < n->Pv i σ H->g (.int (lo + i)) σ H fun σ2 H2=>tb { D with nx:=Pv (i + 1),ct:=Pv (i + 1),bk:=D.nx } σ2 H2) (hd:∀ σ H,Pv n σ H->D.nx σ H) :
  ∃ W:Nat->Nat->St->Hp->Prop,(∃ m,W 0 m σ H) /\ ∀ i m σ H,W i m σ H ->
   ((QC lo n).stop i H /\ D.nx σ H) ∨ ((QC lo n).go i H /\ ∃ N:St->Hp->Prop,(∀ σ' H',N σ' H'->∃ m',m' < m /\ W (i + 1) m' σ' H') /\ ∀ x H',(QC lo n).yld i H x H'->g x σ H' fun σ2 H2=>tb { D with nx:=N,ct:=N,bk:=D.nx } σ2 H2):=by
 refine ⟨fun i m σ H=>m=n - i /\ i <= n /\ Pv i σ H,⟨n,by simp,Nat.zero_le _,h0⟩,?_⟩
 rintro i m σ H ⟨rfl,hi,p⟩
 by_cases hlt:i < n
 ·refine .inr ⟨hlt,Pv (i + 1),fun σ' H' p'=>⟨n - (i + 1),by omega,rfl,hlt,p'⟩,fun x H' y=>?_⟩
  obtain ⟨e,y⟩:=y
  subst e y
  exact hs i σ _ hlt p
 ·have e:i=n:=by omega
  subst e
  exact .inl ⟨Nat.le_refl _,hd σ H p⟩
theorem JX {c:TT}{tb:TS}{D:sV}{σ : St}{H:Hp} (Pv:St->Hp->Prop) (μ : St->Hp->Nat) (h0:Pv σ H)
  (hs:∀ σ H,Pv σ H->c σ H fun b H1=>if b=true then tb { D with nx:=fun σ' H'=>Pv σ' H' /\ μ σ' H' < μ σ H,ct:=fun σ' H'=>Pv σ' H' /\ μ σ' H' < μ σ H,bk:=D.nx } σ H1 else D.nx σ H1)
  (mono:∀ σ H Q Q',(∀ b H1,Q b H1->Q' b H1)->c σ H Q->c σ H Q'):Jc c tb D σ H:=by
 refine ⟨fun m σ H=>m = μ σ H /\ Pv σ H,⟨_,rfl,h0⟩,?_⟩
 rintro m σ H ⟨rfl,p⟩
 refine mono σ H _ _ (fun b H1 q=>?_) (hs σ H p)
 cases b with
 | true=>exact ⟨_,fun σ' H' ⟨p',l⟩=>⟨_,l,rfl,p'⟩,q⟩
 | false=>exact q
end L2
namespace L2
open PySem PySem.Spec PyProof.Rows
abbrev R2:=V->V->Hp->VK->Prop
def nW (X:Cx) (f:Value->Value->Sem Value) (r:R2):Prop :=
 ∀ (pins:List (Addr × Obj)) (s:Shared) (σ : St) (H:Hp) (x y:V) (v u:Value) (Q:VK),aY X pins σ H s->bL x v->bL y u->r x y H Q ->
  wpAny (model X.prog X.w) X.A (f v u) (EP X pins σ Q) X.xe s
def UnR (X:Cx) (f:Value->Sem Value) (r:V->Hp->VK->Prop):Prop :=
 ∀ (pins:List (Addr × Obj)) (s:Shared) (σ : St) (H:Hp) (x:V) (v:Value) (Q:VK),aY X pins σ H s->bL x v->r x H Q ->
  wpAny (model X.prog X.w) X.A (f v) (EP X pins σ Q) X.xe s
def gM (X:Cx) (f:Value) (r:List V->Hp->VK->Prop):Prop :=
 ∀ (pins:List (Addr × Obj)) (s:Shared) (σ : St) (H:Hp) (xs:List V) (us:List Value) (Q:VK),aY X pins σ H s->bI xs us->r xs H Q ->
  wpAny (model X.prog X.w) X.A (call f us) (EP X pins σ Q) X.xe s
def YM (r:R2) (ta tb:TE):TE:=fun σ H Q=>ta σ H fun x H1=>tb σ H1 fun y H2=>r x y H2 Q
def tUn (r:V->Hp->VK->Prop) (ta:TE):TE:=fun σ H Q=>ta σ H fun x H1=>r x H1 Q
def rI (C:Int->Int->Prop) (g:Int->Int->V):R2:=fun x y H Q=>∃ i j,x = .int i /\ y = .int j /\ C i j /\ Q (g i j) H
def QZ (g:Int->Int->V):R2:=fun x y H Q=>∃ i j,x = .int i /\ y = .int j /\ Q (g i j) H
def rU (g:Int->V):V->Hp->VK->Prop:=fun x H Q=>∃ i,x = .int i /\ Q (g i) H
section
variable {X:Cx}{a b c:Expr}{ta tb tc:TE}{pos:Pos}
theorem QF (ha:PE X a ta) (hb:PE X b tb) {pins:List (Addr × Obj)}{s:Shared}{σ : St}{H:Hp}{R:V->V->Hp->Prop} (I:aY X pins σ H s)
  (h:ta σ H fun x H1=>tb σ H1 fun y H2=>R x y H2) {Q:Value->Shared->Prop}{f:Value->Value->Sem Value}
  (hf:∀ v u s2 x y H2,aY X pins σ H2 s2->bL x v->bL y u->R x y H2->wpAny (model X.prog X.w) X.A (f v u) Q X.xe s2) :
  wpAny (model X.prog X.w) X.A (eval a X.env) (fun v s₁=>wpAny (model X.prog X.w) X.A (eval b X.env) (fun u s₂=>wpAny (model X.prog X.w) X.A (f v u) Q X.xe s₂) X.xe s₁) X.xe s:=by
 refine eN (ha pins s σ H _ I h) fun v s1 ⟨x,H1,I1,r1,q1⟩=>?_
 refine eN (hb pins s1 σ H1 _ I1 q1) fun u s2 ⟨y,H2,I2,r2,q2⟩=>?_
 exact hf v u s2 x y H2 I2 r1 r2 q2
theorem bA {op:Operator}{r:R2} (ho:nW X (binaryOp op) r) (ha:PE X a ta) (hb:PE X b tb):PE X (.BinOp a op b pos) (YM r ta tb):=by
 intro pins s σ H Q I h
 exact wpAny_BinOp (QF ha hb I h fun v u s2 x y H2 I2 rx ry q=>ho pins s2 σ H2 x y v u Q I2 rx ry q)
theorem Oh {op:UnaryOp}{r:V->Hp->VK->Prop} (ho:UnR X (unaryOp op) r) (ha:PE X a ta):PE X (.UnaryOp op a pos) (tUn r ta):=by
 intro pins s σ H Q I h
 exact UnaryOp_ (eN (ha pins s σ H _ I h) fun v s1 ⟨x,H1,I1,r1,q1⟩=>ho pins s1 σ H1 x v Q I1 r1 q1)
theorem Qs {f:Value->Value->Sem Value}{C:Int->Int->Prop}{g:Int->Int->Int}
  (rule:∀ (i j:Int) (t u:Tok) (s:Shared) (Q:Value->Shared->Prop) (E:Value->Shared->Prop),C i j->Q (.int (g i j) s.toks) { s with toks:=s.toks + 1 }->wpAny (model X.prog X.w) X.A (f (.int i t) (.int j u)) Q E s) :
  nW X f (rI C fun i j=>.int (g i j)):=by
 intro pins s σ H x y v u Q I rx ry h
 obtain ⟨i,j,rfl,rfl,hc,q⟩:=h
 obtain ⟨t,rfl⟩:=rx
 obtain ⟨t',rfl⟩:=ry
 exact rule i j t t' s _ _ hc ⟨.int (g i j),H,I.tok _,⟨_,rfl⟩,q⟩
theorem R0 {f:Value->Value->Sem Value}{g:Int->Int->Int}
  (rule:∀ (i j:Int) (t u:Tok) (s:Shared) (Q:Value->Shared->Prop) (E:Value->Shared->Prop),Q (.int (g i j) s.toks) { s with toks:=s.toks + 1 }->wpAny (model X.prog X.w) X.A (f (.int i t) (.int j u)) Q E s) :
  nW X f (QZ fun i j=>.int (g i j)):=by
 intro pins s σ H x y v u Q I rx ry h
 obtain ⟨i,j,rfl,rfl,q⟩:=h
 obtain ⟨t,rfl⟩:=rx
 obtain ⟨t',rfl⟩:=ry
 exact rule i j t t' s _ _ ⟨.int (g i j),H,I.tok _,⟨_,rfl⟩,q⟩
theorem Qa {f:Value->Value->Sem Value}{g:Int->Int->Bool}
  (rule:∀ (i j:Int) (t u:Tok) (s:Shared) (Q:Value->Shared->Prop) (E:Value->Shared->Prop),Q (.bool (g i j)) s->wpAny (model X.prog X.w) X.A (f (.int i t) (.int j u)) Q E s) :
  nW X f (QZ fun i j=>.bl (g i j)):=by
 intro pins s σ H x y v u Q I rx ry h
 obtain ⟨i,j,rfl,rfl,q⟩:=h
 obtain ⟨t,rfl⟩:=rx
 obtain ⟨t',rfl⟩:=ry
 exact rule i j t t' s _ _ ⟨.bl (g i j),H,I,rfl,q⟩
def aA7 (i j:Int):Prop:=0 < j /\ j < 1073741824
def XR (i j:Int):Prop:=0 <= j /\ j <= 1000000 /\ i.natAbs < 2 ^ 64
def Qu (i j:Int):Prop:=(-(2 ^ 64) < i /\ i < 2 ^ 64) ∨ (-(2 ^ 64) < j /\ j < 2 ^ 64)
theorem Qu.ok {i j:Int} (h:Qu i j):IntMulOk i j:=by
 rcases h with ⟨h1,h2⟩ | ⟨h1,h2⟩
 ·exact .of_left (intBits_le_64 h1 h2)
 ·exact .of_right (intBits_le_64 h1 h2)
theorem fY:nW X (binaryOp .Add) (QZ fun i j=>.int (i + j)):=R0 fun _ _ _ _ _ _ _ q=>add_int q
theorem lR:nW X (binaryOp .Sub) (QZ fun i j=>.int (i - j)):=R0 fun _ _ _ _ _ _ _ q=>sub_int q
theorem QM:nW X (binaryOp .Mult) (rI Qu fun i j=>.int (i * j)):=Qs fun _ _ _ _ _ _ _ hc q=>mul_int q hc.ok
theorem tM:nW X (binaryOp .FloorDiv) (rI aA7 fun i j=>.int (i / j)):=Qs fun i j _ _ _ _ _ hc q=>by
 have h1:(0:Int) < j:=hc.1
 have h2:j < 1073741824:=hc.2
 exact floordiv_int (by omega) (by rw [Int.fdiv_eq_ediv_of_nonneg i (by omega)]; exact q) (.inl (PyProof.noPylong_small (by omega)))
theorem iG:nW X (binaryOp .Mod) (rI (fun _ j=>0 < j) fun i j=>.int (i % j)):=Qs fun i j _ _ _ _ _ hc q=>by
 have h1:(0:Int) < j:=hc
 exact mod_int' (by omega) (by rw [Int.fmod_eq_emod_of_nonneg i (by omega)]; exact q)
theorem Li:nW X (binaryOp .Mod) (rI (fun _ j=>j ≠ 0) fun i j=>.int (i.fmod j)):=Qs fun _ _ _ _ _ _ _ hc q=>mod_int' hc q
theorem LK:nW X (binaryOp .Pow) (rI XR fun i j=>.int (i ^ j.toNat)):=Qs fun _ _ _ _ _ _ _ hc q=>pow_int_small hc.1 hc.2.1 hc.2.2 q
theorem unI {f:Value->Sem Value}{g:Int->Int}
  (rule:∀ (i:Int) (t:Tok) (s:Shared) (Q:Value->Shared->Prop) (E:Value->Shared->Prop),Q (.int (g i) s.toks) { s with toks:=s.toks + 1 }->wpAny (model X.prog X.w) X.A (f (.int i t)) Q E s) :
  UnR X f (rU fun i=>.int (g i)):=by
 intro pins s σ H x v Q I rx h
 obtain ⟨i,rfl,q⟩:=h
 obtain ⟨t,rfl⟩:=rx
 exact rule i t s _ _ ⟨.int (g i),H,I.tok _,⟨_,rfl⟩,q⟩
theorem JV:UnR X (unaryOp .USub) (rU fun i=>.int (-i)):=unI fun _ _ _ _ _ q=>neg_int q
end
def W5:V->V->Bool
 | .non,.non=>true | .non,.int _=>true | .int _,.non=>true | .non,.bl _=>true | .bl _,.non=>true | .non,.str _=>true | .str _,.non=>true
 | .int _,.int _=>true | .bl _,.bl _=>true | .str _,.str _=>true | .byt _,.byt _=>true
 | .int _,.str _=>true | .str _,.int _=>true | .bl _,.str _=>true | .str _,.bl _=>true
 | _,_=>false
def rEq:R2:=fun x y H Q=>W5 x y=true /\ Q (.bl (decide (x=y))) H
def rNe:R2:=fun x y H Q=>W5 x y=true /\ Q (.bl (!decide (x=y))) H
theorem An {i j:Int}:decide (V.int i=V.int j)=(i == j):=by
 rw [Bool.eq_iff_iff]
 simp
theorem KN {i j:Bool}:decide (V.bl i=V.bl j)=(i == j):=by
 rw [Bool.eq_iff_iff]
 simp
theorem Gr {i j:Str}:decide (V.str i=V.str j)=(i == j):=by
 rw [Bool.eq_iff_iff]
 simp
theorem Gg {i j:Array UInt8}:decide (V.byt i=V.byt j)=(i.toList == j.toList):=by
 rw [Bool.eq_iff_iff]
 cases i
 cases j
 simp
section
variable {X:Cx}{a b c:Expr}{ta tb tc:TE}{pos:Pos}
theorem cJ {pins:List (Addr × Obj)}{σ : St}{H:Hp}{s:Shared}{Q:VK}{k k':Bool} (I:aY X pins σ H s) (q:Q (.bl k) H) (e:k=k'):EP X pins σ Q (.bool k') s:=by
 subst e
 exact ⟨.bl k,H,I,rfl,q⟩
theorem uH:nW X (compareOp .Eq) rEq:=by
 intro pins s σ H x y v u Q I rx ry h
 obtain ⟨hs,q⟩:=h
 cases x with
 | non =>
  cases rx
  cases y with
  | non=>cases ry; exact PySem.EqNone.eq_none_none (cJ I q (by simp))
  | bl j=>cases ry; exact PySem.EqNone.eq_none_bool (cJ I q (by simp))
  | int j=>obtain ⟨t',rfl⟩:=ry; exact PySem.EqNone.eq_none_int (cJ I q (by simp))
  | str j=>obtain ⟨t',rfl⟩:=ry; exact PySem.EqNone.eq_none_str (cJ I q (by simp))
  | _=>exact absurd (show false=true from hs) Bool.false_ne_true
 | bl i =>
  cases rx
  cases y with
  | non=>cases ry; exact PySem.EqNone.eq_bool_none (cJ I q (by simp))
  | bl j=>cases ry; exact eq_bool (cJ I q KN)
  | str j=>obtain ⟨t',rfl⟩:=ry; exact PySem.EqMixed.eq_bool_str (cJ I q (by simp))
  | _=>exact absurd (show false=true from hs) Bool.false_ne_true
 | int i =>
  obtain ⟨t,rfl⟩:=rx
  cases y with
  | non=>cases ry; exact PySem.EqNone.eq_int_none (cJ I q (by simp))
  | int j=>obtain ⟨t',rfl⟩:=ry; exact eq_int (cJ I q An)
  | str j=>obtain ⟨t',rfl⟩:=ry; exact PySem.EqMixed.eq_int_str (cJ I q (by simp))
  | _=>exact absurd (show false=true from hs) Bool.false_ne_true
 | str i =>
  obtain ⟨t,rfl⟩:=rx
  cases y with
  | non=>cases ry; exact PySem.EqNone.eq_str_none (cJ I q (by simp))
  | bl j=>cases ry; exact PySem.EqMixed.eq_str_bool (cJ I q (by simp))
  | int j=>obtain ⟨t',rfl⟩:=ry; exact PySem.EqMixed.eq_str_int (cJ I q (by simp))
  | str j=>obtain ⟨t',rfl⟩:=ry; exact eq_str (cJ I q Gr)
  | _=>exact absurd (show false=true from hs) Bool.false_ne_true
 | byt i =>
  obtain ⟨t,rfl⟩:=rx
  cases y with
  | byt j=>obtain ⟨t',rfl⟩:=ry; exact PySem.W.eq_bytes (cJ I q Gg)
  | _=>exact absurd (show false=true from hs) Bool.false_ne_true
 | _=>cases y <;> exact absurd (show false=true from hs) Bool.false_ne_true
theorem uY:nW X (compareOp .NotEq) rNe:=by
 intro pins s σ H x y v u Q I rx ry h
 obtain ⟨hs,q⟩:=h
 cases x with
 | non =>
  cases rx
  cases y with
  | non=>cases ry; exact PySem.EqNone.ne_none_none (cJ I q (by simp))
  | bl j=>cases ry; exact PySem.EqNone.ne_none_bool (cJ I q (by simp))
  | int j=>obtain ⟨t',rfl⟩:=ry; exact PySem.EqNone.ne_none_int (cJ I q (by simp))
  | str j=>obtain ⟨t',rfl⟩:=ry; exact PySem.EqNone.ne_none_str (cJ I q (by simp))
  | _=>exact absurd (show false=true from hs) Bool.false_ne_true
 | bl i =>
  cases rx
  cases y with
  | non=>cases ry; exact PySem.EqNone.ne_bool_none (cJ I q (by simp))
  | bl j=>cases ry; exact ne_bool (cJ I q (congrArg not KN))
  | str j=>obtain ⟨t',rfl⟩:=ry; exact PySem.EqMixed.ne_bool_str (cJ I q (by simp))
  | _=>exact absurd (show false=true from hs) Bool.false_ne_true
 | int i =>
  obtain ⟨t,rfl⟩:=rx
  cases y with
  | non=>cases ry; exact PySem.EqNone.ne_int_none (cJ I q (by simp))
  | int j=>obtain ⟨t',rfl⟩:=ry; exact ne_int (cJ I q (congrArg not An))
  | str j=>obtain ⟨t',rfl⟩:=ry; exact PySem.EqMixed.ne_int_str (cJ I q (by simp))
  | _=>exact absurd (show false=true from hs) Bool.false_ne_true
 | str i =>
  obtain ⟨t,rfl⟩:=rx
  cases y with
  | non=>cases ry; exact PySem.EqNone.ne_str_none (cJ I q (by simp))
  | bl j=>cases ry; exact PySem.EqMixed.ne_str_bool (cJ I q (by simp))
  | int j=>obtain ⟨t',rfl⟩:=ry; exact PySem.EqMixed.ne_str_int (cJ I q (by simp))
  | str j=>obtain ⟨t',rfl⟩:=ry; exact ne_str (cJ I q (congrArg not Gr))
  | _=>exact absurd (show false=true from hs) Bool.false_ne_true
 | byt i =>
  obtain ⟨t,rfl⟩:=rx
  cases y with
  | byt j=>obtain ⟨t',rfl⟩:=ry; exact PySem.W.ne_bytes (cJ I q (congrArg not Gg))
  | _=>exact absurd (show false=true from hs) Bool.false_ne_true
 | _=>cases y <;> exact absurd (show false=true from hs) Bool.false_ne_true
theorem Bl:nW X (compareOp .Lt) (QZ fun i j=>.bl (decide (i < j))):=Qa fun _ _ _ _ _ _ _ q=>lt_int q
theorem uD:nW X (compareOp .LtE) (QZ fun i j=>.bl (decide (i <= j))):=Qa fun _ _ _ _ _ _ _ q=>le_int q
theorem Bu:nW X (compareOp .Gt) (QZ fun i j=>.bl (decide (j < i))):=Qa fun _ _ _ _ _ _ _ q=>gt_int q
theorem LQ:nW X (compareOp .Is) (fun x y H Q=>y = .non /\ Q (.bl (decide (x = .non))) H):=by
 intro pins s σ H x y v u Q I rx ry h
 obtain ⟨rfl,q⟩:=h
 cases ry
 refine is_none_gen (cJ I q ?_)
 cases x <;> first
  | (cases rx; rfl)
  | (obtain ⟨t,rfl⟩:=rx; rfl)
theorem cM (b:Expr) {op:CmpOp} (h:op ≠ .In:=by decide) (h2:op ≠ .NotIn:=by decide):behindInMarks op b=false:=by
 have e1:(op == CmpOp.In)=false:=by cases op <;> first | rfl | exact absurd rfl h
 have e2:(op == CmpOp.NotIn)=false:=by cases op <;> first | rfl | exact absurd rfl h2
 cases b <;> simp [behindInMarks,e1,e2]
theorem Fg {op:CmpOp}{r:R2} (ho:nW X (compareOp op) r) (ha:PE X a ta) (hb:PE X b tb) (hm:behindInMarks op b=false):PE X (.Compare a [op] [b] pos) (YM r ta tb):=by
 intro pins s σ H Q I h
 exact wpAny_Compare1 (QF ha hb I h fun v u s2 x y H2 I2 rx ry q=>ho pins s2 σ H2 x y v u Q I2 rx ry q) hm
def Nu (t:TE):TT:=fun σ H Q=>t σ H fun x H'=>∃ k,x = .bl k /\ Q k H'
theorem bV {op:CmpOp}{r:R2} (ho:nW X (compareOp op) r) (ha:PE X a ta) (hb:PE X b tb) (hm:behindInMarks op b=false):PT X (.Compare a [op] [b] pos) (Nu (YM r ta tb)):=by
 intro pins s σ H Q I h
 refine wpAny_isTrue_Compare1 (eN (ha pins s σ H _ I h) fun v s1 ⟨x,H1,I1,r1,q1⟩=>eN (hb pins s1 σ H1 _ I1 q1) fun u s2 ⟨y,H2,I2,r2,q2⟩ =>
  eN (ho pins s2 σ H2 x y v u _ I2 r1 r2 q2) fun c s3 ⟨z,H3,I3,r3,k,e,q3⟩=>?_) hm
 subst e
 cases r3
 exact wpAny_truthy_bool ⟨H3,I3,q3⟩
def Ka (r r':R2) (ta tb tc:TE):TE:=fun σ H Q=>ta σ H fun x H1=>tb σ H1 fun y H2=>r x y H2 fun z H3=>∃ k,z = .bl k ∧
 (if k=true then tc σ H3 fun w' H4=>r' y w' H4 Q else Q (.bl false) H3)
theorem Kr {op op':CmpOp}{r r':R2} (ho:nW X (compareOp op) r) (ho':nW X (compareOp op') r') (ha:PE X a ta) (hb:PE X b tb) (hc:PE X c tc)
  (hm:lastMarks [op,op'] [b,c]=false:=by with_unfolding_all rfl):PE X (.Compare a [op,op'] [b,c] pos) (Ka r r' ta tb tc):=by
 intro pins s σ H Q I h
 refine Compare_chain (eN (ha pins s σ H _ I h) fun v s1 ⟨x,H1,I1,r1,q1⟩=>chain_link (eN (hb pins s1 σ H1 _ I1 q1) fun u s2 ⟨y,H2,I2,r2,q2⟩ =>
  eN (ho pins s2 σ H2 x y v u _ I2 r1 r2 q2) fun d s3 ⟨z,H3,I3,r3,k,e,q3⟩=>?_)) hm
 subst e
 cases r3
 refine wpAny_truthy_bool ?_
 cases k with
 | false=>exact ite_ff ⟨.bl false,H3,I3,rfl,q3⟩
 | true=>exact ite_tt (chain_last (eN (hc pins s3 σ H3 _ I3 q3) fun w' s4 ⟨z',H4,I4,r4,q4⟩=>ho' pins s4 σ H4 y z' u w' Q I4 r2 r4 q4))
theorem Cy {op op':CmpOp}{r r':R2} (ho:nW X (compareOp op) r) (ho':nW X (compareOp op') r') (ha:PE X a ta) (hb:PE X b tb) (hc:PE X c tc)
  (hm:lastMarks [op,op'] [b,c]=false:=by with_unfolding_all rfl):PT X (.Compare a [op,op'] [b,c] pos) (Nu (Ka r r' ta tb tc)):=by
 intro pins s σ H Q I h
 refine isTrue_chain (eN (ha pins s σ H _ I h) fun v s1 ⟨x,H1,I1,r1,q1⟩=>test_link (eN (hb pins s1 σ H1 _ I1 q1) fun u s2 ⟨y,H2,I2,r2,q2⟩ =>
  eN (ho pins s2 σ H2 x y v u _ I2 r1 r2 q2) fun d s3 ⟨z,H3,I3,r3,k,e,q3⟩=>?_)) hm
 subst e
 cases r3
 refine wpAny_truthy_bool ?_
 cases k with
 | false =>
  obtain ⟨k',e',q'⟩:=q3
  cases e'
  exact ite_ff ⟨H3,I3,q'⟩
 | true =>
  refine ite_tt (test_last (eN (hc pins s3 σ H3 _ I3 q3) fun w' s4 ⟨z',H4,I4,r4,q4⟩=>eN (ho' pins s4 σ H4 y z' u w' _ I4 r2 r4 q4) fun d' s5 ⟨z2,H5,I5,r5,k2,e2,q5⟩=>?_))
  subst e2
  cases r5
  exact wpAny_truthy_bool ⟨H5,I5,q5⟩
theorem zL:(sizeLine:Nat) < 2 ^ 63:=by rw [sizeLine_eq]; decide
theorem j4 {x:V}{us:List Value} (r:bI [x] us):∃ u,us=[u] /\ bL x u:=by
 cases r with
 | cons r1 r2=>cases r2; exact ⟨_,rfl,r1⟩
theorem Kf {x y:V}{us:List Value} (r:bI [x,y] us):∃ u w',us=[u,w'] /\ bL x u /\ bL y w':=by
 cases r with
 | cons r1 r2 =>
  cases r2 with
  | cons r3 r4=>cases r4; exact ⟨_,_,rfl,r1,r3⟩
theorem Jt:gM X (.builtin "abs") (fun xs H Q=>∃ i,xs=[.int i] /\ Q (.int (if i < 0 then -i else i)) H):=by
 intro pins s σ H xs us Q I r h
 obtain ⟨i,rfl,q⟩:=h
 obtain ⟨u,rfl,t,rfl⟩:=j4 r
 exact call_abs_int fun u tk=>⟨.int (if i < 0 then -i else i),H,I.tok _,⟨_,rfl⟩,q⟩
theorem Hz (hc:X.calm=true):gM X (.builtin "min") (fun xs H Q=>∃ i j,xs=[.int i,.int j] /\ Q (.int (if j < i then j else i)) H):=by
 intro pins s σ H xs us Q I r h
 obtain ⟨i,j,rfl,q⟩:=h
 obtain ⟨u,w',rfl,⟨t,rfl⟩,⟨t',rfl⟩⟩:=Kf r
 refine min_two_ints (I.ok.hd hc) fun h' tk k=>⟨_,H,I.kept k,?_,q⟩
 by_cases hj:j < i
 ·rw [if_pos hj,if_pos hj]; exact ⟨_,rfl⟩
 ·rw [if_neg hj,if_neg hj]; exact ⟨_,rfl⟩
theorem HR:gM X (.type "int") (fun xs H Q=>(∃ i,xs=[.int i] /\ Q (.int i) H) ∨ ∃ k,xs=[.bl k] /\ Q (.int (if k then 1 else 0)) H):=by
 intro pins s σ H xs us Q I r h
 rcases h with ⟨i,rfl,q⟩ | ⟨k,rfl,q⟩
 ·obtain ⟨u,rfl,t,rfl⟩:=j4 r
  exact call_int_int ⟨.int i,H,I,⟨_,rfl⟩,q⟩
 ·obtain ⟨u,rfl,r1⟩:=j4 r
  cases r1
  exact call_int_bool ⟨.int (if k then 1 else 0),H,I.tok _,⟨_,rfl⟩,q⟩
end
end L2
namespace L2
open PySem PySem.Spec PyProof.Rows
structure En (h:Heap) (x dx C:Addr) (mA:Str->Option Value):Prop where
 obj:h.get? x=some (PySem.W.instObj C dx)
 ns:h.Ns1 dx mA
 ne:dx ≠ x
theorem Hu {h:Heap}{dx:Addr}{mA:Str->Option Value} (n:h.Ns1 dx mA):∃ od,h.get? dx=some od /\ ∀ name,PySem.W.lookIn name od=some (mA name):=by
 obtain ⟨o,es,ep,ho,hd,hk,_,hm⟩:=n
 refine ⟨o,ho,fun name=>?_⟩
 have e:=hm name
 unfold nsFind findBy at e
 rw [<- Array.find?_toList] at e
 unfold PySem.W.lookIn
 rw [hd]
 dsimp only
 split
 ·rename_i y q
  rw [q] at e
  exact congrArg some e
 ·rename_i q
  rw [q] at e
  have a:es.toList.any (·.refKey)=false:=by
   rw [List.any_eq_false]
   intro y hy
   obtain ⟨z,t,hkey⟩:=hk y (Array.mem_toList_iff.mp hy)
   simp [DictEntry.refKey,hkey]
  have a':¬ es.toList.any (·.refKey)=true:=by rw [a]; exact Bool.false_ne_true
  rw [if_neg a']
  exact congrArg some e
theorem En.look {h:Heap}{x dx C:Addr}{mA:Str->Option Value} (I:En h x dx C mA):∃ od,PySem.W.InstAt h x (PySem.W.instObj C dx) C (some od) /\ ∀ name,PySem.W.lookIn name od=some (mA name) :=
 let ⟨od,ho,hl⟩:=Hu I.ns
 ⟨od,⟨I.obj,rfl,rfl,ho⟩,hl⟩
section
variable {prog:Program}{w:World}{A:Around}{E:Value->Shared->Prop}{s:Shared}{K:PySem.W.Frag}{x dx C f:Addr}{mA:Str->Option Value}{name:Str}{v:Value}
theorem Ln {expr:Bool}{Q:Value->Shared->Prop} (X:K.In s.heap) (I:En s.heap x dx C mA) (hg:PySem.W.plainGet K C name=true) (hh:PySem.W.hasDictIn K C=true)
  (ha:PySem.W.findIn K (.ref C) name=some none) (hv:mA name=some v) (hv':PySem.W.handedIn v=true) (h:Q v { s with toks:=s.toks + 1 }) :
  wpAny (model prog w) A (getAttr (.ref x) name expr) Q E s:=by
 obtain ⟨od,J,hl⟩:=I.look
 exact PySem.W.get_value X J (PySem.W.plainGet_of hg).1 (PySem.W.findObj_own hh ha rfl (by rw [hl,hv])) hv' h
theorem J0 {pl:Sem Bool}{Q:Value × List Value->Shared->Prop} (X:K.In s.heap) (I:En s.heap x dx C mA) (hg:PySem.W.plainGet K C name=true)
  (hf:PySem.W.findIn K (.ref C) name=some (some (.ref f))) (ht:PySem.W.isFn K (.ref f)=true) (hv:mA name=none) (h:Q (.ref f,[.ref x]) s) :
  wpAny (model prog w) A (getMethod (.ref x) name pl) Q E s:=by
 obtain ⟨od,J,hl⟩:=I.look
 exact PySem.W.method_fn X J (PySem.W.plainGet_of hg).1 (PySem.W.plainGet_of hg).2 hf (beq_iff_eq.mp ht) (by show (PySem.W.lookIn name od).map (·.isSome)=some false; rw [hl,hv]; rfl) h
theorem M6 {ns:List Str}{Q:Unit->Shared->Prop} (X:K.In s.heap) (I:En s.heap x dx C mA)
  (hs:PySem.W.findIn K (.ref C) "__setattr__" = some (some (.builtin "object.__setattr__"))) (hp:PySem.W.plainOver K C=true) (ht:PySem.W.takerIn K C name=some none) (hh:PySem.W.hasDictIn K C=true)
  (hw:PySem.Within mA ns) (hsz:ns.length <= sizeLine)
  (h:∀ h',En h' x dx C (fun y=>if y=name then some v else mA y)->Heap.SameBut dx s.heap h'->Q () { s with heap:=h',toks:=s.toks + 2 }) :
  wpAny (model prog w) A (setAttr (.ref x) name v) Q E s:=by
 obtain ⟨od,J,hl⟩:=I.look
 refine PySem.W.set_plain X J hs (PySem.W.osa_open (s:={ s with toks:=s.toks + 1 }) (r:=none) X J hp ht fun b=>?_)
 obtain ⟨cd,hc,hd'⟩:=PySem.W.any_some hh
 have hx:s.heap.get? x=some ⟨.ref C,some dx,.plain,#[]⟩:=I.obj
 refine wpAny_bind (wpAny_pure (wpAny_bind (wpAny_bind (wpAny_loadPart hx (wpAny_bind (PySem.W.Looks.here (s:={ s with toks:=s.toks + 1 }) (PySem.W.looks_clsIn X hc) ?_))))))
 rw [hd']
 refine wpAny_pure (a:=some dx) (wpAny_bind (wpAny_pure (wpAny_bind ?_)))
 refine wpAny_nsSet1 (s:={ s with toks:=s.toks + 1 }) I.ns fun h' hn2 hs2=>?_
 obtain ⟨oD,esD,epD,hoD,hdD,hcD⟩:=hn2.count (PySem.Within.cons name v hw)
 refine wpAny_bind (wpAny_lookBehind hoD (by rw [hdD]; exact pastItsLine_dict (Nat.le_trans hcD (by rw [List.length_cons]; omega))) ?_)
 exact wpAny_pure (h _ ⟨(hs2.2 _ (Ne.symm I.ne)).trans I.obj,hn2,I.ne⟩ hs2)
theorem KC {R:Result->Shared->Prop}{vs:List Value}{kw:List (Str × Value)} (X:K.In s.heap) (hm:PySem.W.makesIn K C=true)
  (hi:PySem.W.findIn K (.ref C) "__init__" = some (some (.ref f))) (hf:PySem.W.typeIn K (.ref f)=some (.type "function"))
  (h:codeAny (model prog w) (A.under (.builtin "type.__call__" ⟨.ref C :: vs,kw⟩)) (.call (.ref f) ⟨.ref (s.heap.objs.size + 1) :: vs,kw⟩) (PySem.W.InitBack (s.heap.objs.size + 1) R)
   { s with heap:=(s.heap.push PySem.W.emptyDict).push (PySem.W.instObj C s.heap.objs.size) }) :
  codeAny (model prog w) A (.call (.ref C) ⟨vs,kw⟩) R s:=by
 obtain ⟨hh,g,d,t,os⟩:=s
 exact PySem.W.make_core (PySem.W.makes_of X hm) (PySem.W.looks_findIn X hi) (fun self=>PySem.W.bind_fn X self hf) (.inl rfl) h
end
def b8 (f:Str) (v:V):List (Str × V)->List (Str × V)
 | []=>[(f,v)]
 | (g,x) :: r=>if g=f then (g,v) :: r else (g,x) :: b8 f v r
theorem rM (f g:Str) (v:V):∀ fs:List (Str × V),(b8 f v fs).lookup g=if g=f then some v else fs.lookup g
 | []=>by
  show List.lookup g [(f,v)]=_
  by_cases h:g=f
  ·have hb:(g == f)=true:=beq_iff_eq.mpr h
   simp only [List.lookup,hb,if_pos h]
  ·have hb:(g == f)=false:=beq_eq_false_iff_ne.mpr h
   simp only [List.lookup,hb,if_neg h]
 | (k,x) :: r=>by
  have ih:=rM f g v r
  rw [show b8 f v ((k,x) :: r)=(if k=f then (k,v) :: r else (k,x) :: b8 f v r) from rfl]
  by_cases hk:k=f
  ·rw [if_pos hk]
   by_cases h:g=k
   ·have hb:(g == k)=true:=beq_iff_eq.mpr h
    simp only [List.lookup,hb,if_pos (h.trans hk)]
   ·have hb:(g == k)=false:=beq_eq_false_iff_ne.mpr h
    simp only [List.lookup,hb,if_neg (fun e:g=f=>h (e.trans hk.symm))]
  ·rw [if_neg hk]
   by_cases h:g=k
   ·have hb:(g == k)=true:=beq_iff_eq.mpr h
    simp only [List.lookup,hb,if_neg (fun e:g=f=>hk (h.symm.trans e))]
   ·have hb:(g == k)=false:=beq_eq_false_iff_ne.mpr h
    simp only [List.lookup,hb]
    exact ih
theorem q8 (f:Str) (v:V):∀ fs:List (Str × V),f ∈ (b8 f v fs).map (·.1) /\ ∀ g,g ∈ fs.map (·.1)->g ∈ (b8 f v fs).map (·.1)
 | []=>⟨by simp [b8],fun g h=>by simp at h⟩
 | (k,x) :: r=>by
  obtain ⟨i1,i2⟩:=q8 f v r
  rw [show b8 f v ((k,x) :: r)=(if k=f then (k,v) :: r else (k,x) :: b8 f v r) from rfl]
  by_cases hk:k=f
  ·rw [if_pos hk]
   subst hk
   exact ⟨by simp,fun g h=>by simpa using h⟩
  ·rw [if_neg hk]
   refine ⟨?_,fun g h=>?_⟩
   ·rw [List.map_cons]
    exact List.mem_cons_of_mem _ i1
   ·rw [List.map_cons] at h ⊢
    rcases List.mem_cons.mp h with e | e
    ·exact List.mem_cons.mpr (.inl e)
    ·exact List.mem_cons_of_mem _ (i2 g e)
theorem rZ (f:Str) (v:V):∀ fs:List (Str × V),(b8 f v fs).length <= fs.length + 1
 | []=>by simp [b8]
 | (k,x) :: r=>by
  have ih:=rZ f v r
  rw [show b8 f v ((k,x) :: r)=(if k=f then (k,v) :: r else (k,x) :: b8 f v r) from rfl]
  by_cases hk:k=f
  ·rw [if_pos hk,List.length_cons,List.length_cons]; omega
  ·rw [if_neg hk,List.length_cons,List.length_cons]; omega
theorem mJ.some_of {v:V}{o:Option Value} (r:mJ (some v) o):∃ u,o=some u /\ bL v u:=by
 cases o with
 | none=>exact (show False from r).elim
 | some u=>exact ⟨u,rfl,r⟩
theorem mJ.none_of {o:Option Value} (r:mJ none o):o=none:=by
 cases o with
 | none=>rfl
 | some u=>exact (show False from r).elim
theorem IV {v:V}{u:Value} (r:bL v u):PySem.W.handedIn u=true:=by
 cases v with
 | non=>cases (show u=Value.none from r); rfl
 | bl b=>cases (show u=Value.bool b from r); rfl
 | int i=>obtain ⟨t,e⟩:=(show ∃ t,u=Value.int i t from r); cases e; rfl
 | str x=>obtain ⟨t,e⟩:=(show ∃ t,u=Value.str x t from r); cases e; rfl
 | byt b=>obtain ⟨t,e⟩:=(show ∃ t,u=Value.bytes b t from r); cases e; rfl
 | flt b=>obtain ⟨t,e⟩:=(show ∃ t,u=Value.float b t from r); cases e; rfl
 | ref a=>cases (show u=Value.ref a from r); rfl
 | ty n=>cases (show u=Value.type n from r); rfl
section
variable {P:Program}{w:World}{H H':Hp}{h h':Heap}{a C dx:Addr}{fs fs':List (Str × V)}
theorem tK (hok:nM P w H h) (e:H a=some (.ins C dx fs)):∃ mA,En h a dx C mA /\ (∀ f,mJ (fs.lookup f) (mA f)) /\ PySem.Within mA (fs.map (·.1)) /\ fs.length <= 1000 /\ H dx=some (.own a):=by
 obtain ⟨d,z,ne,ob,mA,n,r,q⟩:=(show dO P w H h a (.ins C dx fs) from hok a _ e)
 exact ⟨mA,⟨ob,n,ne⟩,r,q,z,d⟩
end
structure Av (K:PySem.W.Frag) (C:Addr):Prop where
 pg:PySem.W.plainGet K C Str.empty=true
 hd:PySem.W.hasDictIn K C=true
 po:PySem.W.plainOver K C=true
 sa:PySem.W.findIn K (.ref C) "__setattr__" = some (some (.builtin "object.__setattr__"))
theorem Av.get {K:PySem.W.Frag}{C:Addr} (c:Av K C) (f:Str):PySem.W.plainGet K C f=true:=c.pg
def cG (K:PySem.W.Frag) (C:Addr) (f:Str):Prop:=PySem.W.findIn K (.ref C) f=some none
theorem cG.taker {K:PySem.W.Frag}{C:Addr}{f:Str} (n:cG K C f):PySem.W.takerIn K C f=some none:=by
 unfold PySem.W.takerIn
 rw [show PySem.W.findIn K (.ref C) f=some none from n]
 rfl
structure Con (K:PySem.W.Frag) (C:Addr) (f:Str) (v:V) (u:Value):Prop where
 at_:PySem.W.findIn K (.ref C) f=some (some u)
 rel:bL v u
 get:PySem.W.specialIn K u "__get__" = some none
 cp:PySem.W.copiedNames.contains f=false
structure dM (K:PySem.W.Frag) (C:Addr) (m:Str) (f:Addr):Prop where
 at_:PySem.W.findIn K (.ref C) m=some (some (.ref f))
 fn:PySem.W.isFn K (.ref f)=true
 kp:PySem.W.keepIn K (.ref f)=true
section
variable {X:Cx}{pins:List (Addr × Obj)}{σ : St}{H:Hp}{s:Shared}{a C dx:Addr}{fs:List (Str × V)}{f:Str}{v:V}{A:Around}{E:Value->Shared->Prop}
theorem Du {b:Bool}{Q:Value->Shared->Prop} (I:aY X pins σ H s) (e:H a=some (.ins C dx fs)) (c:Av X.K C) (n:cG X.K C f) (l:fs.lookup f=some v)
  (h:∀ u s',aY X pins σ H s'->bL v u->Q u s'):wpAny (model X.prog X.w) A (getAttr (.ref a) f b) Q E s:=by
 obtain ⟨mA,O,r,_,_,_⟩:=tK I.hok e
 obtain ⟨u,hu,ru⟩:=mJ.some_of (v:=v) (o:=mA f) (by rw [<- l]; exact r f)
 exact Ln I.kIn O (c.get f) c.hd n hu (IV ru) (h u _ (I.tok _) ru)
theorem vI {m:Str}{g:Addr}{pl:Sem Bool}{Q:Value × List Value->Shared->Prop} (I:aY X pins σ H s) (e:H a=some (.ins C dx fs)) (c:Av X.K C) (k:dM X.K C m g) (l:fs.lookup m=none)
  (h:Q (.ref g,[.ref a]) s):wpAny (model X.prog X.w) A (getMethod (.ref a) m pl) Q E s:=by
 obtain ⟨mA,O,r,_,_,_⟩:=tK I.hok e
 have hn:mA m=none:=mJ.none_of (by rw [<- l]; exact r m)
 exact J0 I.kIn O (c.get m) k.at_ k.fn hn h
theorem Em {y:V}{u:Value}{Q:Unit->Shared->Prop} (I:aY X pins σ H s) (e:H a=some (.ins C dx fs)) (c:Av X.K C) (n:cG X.K C f) (hl:fs.length < 1000) (ry:bL y u)
  (h:∀ s',aY X pins σ (aU H a (.ins C dx (b8 f y fs))) s'->Q () s'):wpAny (model X.prog X.w) A (setAttr (.ref a) f u) Q E s:=by
 obtain ⟨mA,O,r,wi,_,ho⟩:=tK I.hok e
 have hz:(fs.map (·.1)).length <= sizeLine:=by rw [List.length_map,sizeLine_eq]; omega
 refine M6 I.kIn O c.sa c.po n.taker c.hd wi hz fun h' O' sb=>h _ ?_
 have hd:∃ o,h'.get? dx=some o:=let ⟨o,_,_,e',_⟩:=O'.ns; ⟨o,e'⟩
 refine I.write (x:=a) (e:=dx) (by rw [e]; exact True.intro) (.inr ho) (fun b q hb z=>(sb.2 b hb).trans z) hd ?_
 refine ⟨by rw [aH O.ne]; exact ho,?_,O.ne,O'.obj,_,O'.ns,fun g=>?_,fun g hg=>?_⟩
 ·have:=rZ f y fs; omega
 ·show mJ ((b8 f y fs).lookup g) (if g=f then some u else mA g)
  rw [rM]
  by_cases q:g=f
  ·rw [if_pos q,if_pos q]; exact ry
  ·rw [if_neg q,if_neg q]; exact r g
 ·by_cases q:g=f
  ·rw [q]; exact (q8 f y fs).1
  ·refine (q8 f y fs).2 g (wi g fun z=>hg ?_)
   show (if g=f then some u else mA g)=none
   rw [if_neg q]; exact z
theorem aY.made (I:aY X pins σ H s):aY X pins σ (aU (aU H s.heap.objs.size (.own (s.heap.objs.size + 1))) (s.heap.objs.size + 1) (.ins C s.heap.objs.size []))
  { s with heap:=(s.heap.push PySem.W.emptyDict).push (PySem.W.instObj C s.heap.objs.size) }:=by
 have e1:(s.heap.push PySem.W.emptyDict).get? s.heap.objs.size=some PySem.W.emptyDict:=Heap.get?_push_size s.heap rfl
 have e2:((s.heap.push PySem.W.emptyDict).push (PySem.W.instObj C s.heap.objs.size)).get? (s.heap.objs.size + 1)=some (PySem.W.instObj C s.heap.objs.size):=by
  have:=Heap.get?_push_size (s.heap.push PySem.W.emptyDict) (o:=PySem.W.instObj C s.heap.objs.size) rfl
  rwa [Heap.size_push] at this
 have e3:(s.heap.push PySem.W.emptyDict).Ns s.heap.objs.size (fun _=>none):=⟨PySem.W.emptyDict,#[],_,e1,rfl,(fun e he=>absurd he (by simp)),fun _=>rfl⟩
 have I1:=I.laid (a:=s.heap.objs.size) (o:=.own (s.heap.objs.size + 1)) (h':=s.heap.push PySem.W.emptyDict) (t':=s.toks) (fun b u q=>Heap.get?_push_of_some _ q) (Nat.le_refl _) ⟨_,e1⟩
 refine I1.laid (a:=s.heap.objs.size + 1) (o:=.ins C s.heap.objs.size []) (t':=s.toks) (fun b u q=>Heap.get?_push_of_some _ q) (Nat.le_of_eq (Heap.size_push _ _)) ?_
 have ne:s.heap.objs.size ≠ s.heap.objs.size + 1:=Nat.ne_of_lt (Nat.lt_succ_self _)
 refine ⟨by rw [aH ne,aB],Nat.zero_le _,ne,e2,fun _=>none,(Heap.Ns1.of_empty e3).at fun o q=>Heap.get?_push_of_some _ q,fun _=>True.intro,fun y hy=>absurd rfl hy⟩
theorem N8 {prog:Program}{w:World}{env:Env}{e:Expr}{f:Str}{pos:Pos}{s:Shared}{Q:Value->Shared->Prop} (hb:attributeBase e f env (eval e env)=eval e env)
  (h:wpAny (model prog w) A (eval e env) (fun o s₁=>wpAny (model prog w) A (getAttr o f true) Q E s₁) E s):wpAny (model prog w) A (eval (.Attribute e f pos) env) Q E s :=
 Attribute_any_ h (by rw [arm_eval_Attribute,hb])
end
def Tj (K:PySem.W.Frag) (ta:TE) (f:Str):TE:=fun σ H Q=>ta σ H fun x H1=>∃ a C dx fs v,x = .ref a /\ H1 a=some (.ins C dx fs) /\ Av K C /\ cG K C f /\ fs.lookup f=some v /\ Q v H1
def ZC (K:PySem.W.Frag) (ta tv:TE) (f:Str):TS:=fun D σ H=>tv σ H fun y H1=>ta σ H1 fun x H2=>∃ a C dx fs,x = .ref a /\ H2 a=some (.ins C dx fs) /\ Av K C /\ cG K C f /\ fs.length < 1000 ∧
 D.nx σ (aU H2 a (.ins C dx (b8 f y fs)))
section
variable {X:Cx}{o e value:Expr}{f:Str}{pos pos' tpos:Pos}{ta tv:TE}
theorem cV (he:PE X e ta) (hb:attributeBase e f X.env (eval e X.env)=eval e X.env):PE X (.Attribute e f pos) (Tj X.K ta f):=by
 intro pins s σ H Q I h
 refine N8 hb (eN (he pins s σ H _ I h) fun u s1 ⟨x,H1,I1,rx,a,C,dx,fs,v,ex,ea,c,n,l,q⟩=>?_)
 subst ex
 obtain rfl:u=Value.ref a:=rx
 exact Du I1 ea c n l fun u' s2 I2 ru=>⟨v,H1,I2,ru,q⟩
theorem fD (ha:PE X o ta) (hv:PE X value tv) (hs:swapsWith value (some (.Attribute o f pos')) pos.line X.env=pure false):PS X (.Assign [.Attribute o f pos'] value pos) (ZC X.K ta tv f):=by
 intro pins s σ H D I h
 refine plainObj_wpAny_Assign_Attribute (eN (hv pins s σ H _ I h) fun u s1 ⟨y,H1,I1,ry,q⟩=>eN (ha pins s1 σ H1 _ I1 q) fun ov s2 ⟨x,H2,I2,rx,a,C,dx,fs,ex,ea,c,n,l,q2⟩=>?_) hs
 subst ex
 obtain rfl:ov=Value.ref a:=rx
 exact Em I2 ea c n l ry fun s3 I3=>⟨σ,_,I3,q2⟩
end
section
variable {X:Cx}{pins:List (Addr × Obj)}{σ : St}{H:Hp}{s:Shared}{A:Around}{E:Value->Shared->Prop}{Q:Value->Shared->Prop}{c:Value}{b:Bool}
inductive gK (K:PySem.W.Frag) (H:Hp):V->Value->Prop where
 | non:gK K H .non (.type "NoneType")
 | bl (x:Bool):gK K H (.bl x) (.type "bool")
 | int (i:Int):gK K H (.int i) (.type "int")
 | str (x:Str):gK K H (.str x) (.type "str")
 | flt (x:UInt64):gK K H (.flt x) (.type "float")
 | lst {a:Addr}{xs:List V} (e:H a=some (.lst xs)):gK K H (.ref a) (.type "list")
 | frz {a:Addr}{o:Obj}{xs:List V} (e:H a=some (.frz o (.lst xs))):gK K H (.ref a) (.type "list")
 | tup {a:Addr}{xs:List V} (e:H a=some (.tup xs)):gK K H (.ref a) (.type "tuple")
 | dK {a:Addr}{kvs:List (cZ × V)} (e:H a=some (.dK kvs)):gK K H (.ref a) (.type "dict")
 | dT {a:Addr}{kvs:List (List cZ × V)} (e:H a=some (.dT kvs)):gK K H (.ref a) (.type "dict")
 | ins {a C dx:Addr}{fs:List (Str × V)} (e:H a=some (.ins C dx fs)) (cl:Av K C) (ha:PySem.W.findIn K (.ref C) "__class__" = some (some (.builtin "object.__class__")))
   (hn:PySem.W.specialIn K (.builtin "object.__class__") "__get__" = some (some (.builtin "getset_descriptor.__get__"))) (htk:PySem.W.takesIn K (.builtin "object.__class__")=some true)
   (hm:PySem.W.mroIn K C (.type "object")=some true):gK K H (.ref a) (.ref C)
theorem xB {x:V}{u t:Value} (I:aY X pins σ H s) (rx:bL x u) (ty:gK X.K H x t) (e:PySem.W.kitOne X.K t c=some b) (h:∀ tk,Q (.bool b) { s with toks:=tk }) :
  wpAny (model X.prog X.w) A (call (.builtin "isinstance") [u,c]) Q E s:=by
 cases ty with
 | non=>cases (show u=Value.none from rx); exact PySem.W.kia_one PySem.W.kitx_none I.kIn True.intro e (fun z=>nomatch z) h
 | bl y=>cases (show u=Value.bool y from rx); exact PySem.W.kia_one PySem.W.kitx_bool I.kIn True.intro e (fun z=>nomatch z) h
 | int i=>obtain ⟨t,q⟩:=(show ∃ t,u=Value.int i t from rx); cases q; exact PySem.W.kia_one PySem.W.kitx_int I.kIn True.intro e (fun z=>nomatch z) h
 | str y=>obtain ⟨t,q⟩:=(show ∃ t,u=Value.str y t from rx); cases q; exact PySem.W.kia_one PySem.W.kitx_str I.kIn True.intro e (fun z=>nomatch z) h
 | flt y=>obtain ⟨t,q⟩:=(show ∃ t,u=Value.float y t from rx); cases q; exact PySem.W.kia_one PySem.W.kitx_float I.kIn True.intro e (fun z=>nomatch z) h
 | @lst a xs ea =>
  cases (show u=Value.ref a from rx)
  obtain ⟨_,_,n,_,h1⟩:=(show dO X.prog X.w H s.heap a (.lst xs) from I.hok a _ ea)
  exact PySem.W.kia_one PySem.W.kitx_list I.kIn ⟨_,h1,rfl⟩ e (fun z=>nomatch z) h
 | @frz a ob xs ea =>
  cases (show u=Value.ref a from rx)
  obtain ⟨_,_,_,n,_,h1⟩:=(show dO X.prog X.w H s.heap a (.frz ob (.lst xs)) from I.hok a _ ea)
  exact PySem.W.kia_one PySem.W.kitx_list I.kIn ⟨_,h1,rfl⟩ e (fun z=>nomatch z) h
 | @tup a xs ea =>
  cases (show u=Value.ref a from rx)
  obtain ⟨_,_,_,p⟩:=(show dO X.prog X.w H s.heap a (.tup xs) from I.hok a _ ea)
  obtain ⟨o,h1,h2,_⟩:=p
  exact PySem.W.kia_one PySem.W.kitx_tuple I.kIn ⟨o,h1,h2⟩ e (fun z=>nomatch z) h
 | @dK a kvs ea =>
  cases (show u=Value.ref a from rx)
  obtain ⟨_,_,vs,_,p⟩:=(show dO X.prog X.w H s.heap a (.dK kvs) from I.hok a _ ea)
  obtain ⟨o,es,ep,h1,h2,_⟩:=p
  exact PySem.W.kia_one PySem.W.kitx_dict I.kIn ⟨o,h1,h2.1⟩ e (fun z=>nomatch z) h
 | @dT a kvs ea =>
  cases (show u=Value.ref a from rx)
  obtain ⟨_,_,xs,_,o,es,ep,h1,h2,_⟩:=(show dO X.prog X.w H s.heap a (.dT kvs) from I.hok a _ ea)
  exact PySem.W.kia_one PySem.W.kitx_dict I.kIn ⟨o,h1,h2.1⟩ e (fun z=>nomatch z) h
 | @ins a C dx fs ea cl ha hn htk hm =>
  cases (show u=Value.ref a from rx)
  obtain ⟨mA,O,_⟩:=tK I.hok ea
  obtain ⟨od,J,_⟩:=O.look
  exact PySem.W.kia_one (PySem.W.kitx_own (cl.get _) cl.hd ha hn htk hm) I.kIn J e (fun z=>nomatch z) h
end
end L2
namespace L2
open PySem PySem.Spec PyProof.Rows
structure eV (k:Nat) (A:Around):Prop where
 hd:A.handled=none
 dp:A.depth + 3 * k + 5 < recursionLimit
 un:A.units + 16 * k + 200 < cLine
theorem eV.mono {j k:Nat}{A:Around} (r:eV k A) (h:j <= k):eV j A:=⟨r.hd,by have:=r.dp; omega,by have:=r.un; omega⟩
theorem eV.deeper {k:Nat}{A:Around} (r:eV (k + 1) A) (env:Env):eV k (A.deeper env) :=
 ⟨r.hd,by have:=r.dp; show A.depth + 1 + 3 * k + 5 < _; omega,by have:=r.un; show A.units + 3 + 16 * k + 200 < _; omega⟩
theorem eV.in1 {k:Nat}{A:Around} (r:eV (k + 1) A):eV k A.in1 :=
 ⟨r.hd,by have:=r.dp; show A.depth + 3 * k + 5 < _; omega,by have:=r.un; show A.units + 1 + 16 * k + 200 < _; omega⟩
theorem Dq {A:Around}{C:Addr}{us:List Value}{kw:List (Str × Value)}:(A.under (.builtin "type.__call__" ⟨.ref C :: us,kw⟩)).depth=A.depth + 1:=by
 first | rfl | simp [Around.under,Code.weight,Code.isCreation,Code.isGuard,Code.isCaller,Code.frames,Code.isFrame,guardIds]
theorem Eb {A:Around}{C:Addr}{us:List Value}{kw:List (Str × Value)}:(A.under (.builtin "type.__call__" ⟨.ref C :: us,kw⟩)).units=A.units + 1:=by
 first | rfl | simp [Around.under,Code.cUnits,Code.frames,Code.isFrame]
theorem eV.make {k:Nat}{A:Around} (r:eV (k + 1) A) (C:Addr) (us:List Value) (kw:List (Str × Value)):eV k (A.under (.builtin "type.__call__" ⟨.ref C :: us,kw⟩)) :=
 ⟨r.hd,by have:=r.dp; rw [Dq]; omega,by have:=r.un; rw [Eb]; omega⟩
theorem eV.depth {k:Nat}{A:Around} (r:eV k A):A.depth < recursionLimit:=by have:=r.dp; omega
theorem eV.units {k:Nat}{A:Around} (r:eV k A):A.units + 64 < cLine:=by have:=r.un; omega
theorem eV.units0 {k:Nat}{A:Around} (r:eV k A):A.units < cLine:=by have:=r.un; omega
def Dz:TA:=fun _ H Q=>Q [] H
def K6 (ta:TE) (tr:TA):TA:=fun σ H Q=>ta σ H fun x H1=>tr σ H1 fun xs H2=>Q (x :: xs) H2
section
variable {X:Cx}{e:Expr}{es:List Expr}{te:TE}{t:TA}{pos:Pos}
theorem aC:PA X [] Dz:=fun _ _ _ _ H Q I h=>Calls.spliced_nil ⟨[],H,I,.nil,h⟩
theorem aA (ha:PE X e te) (hr:PA X es t) (hs:starEach (e :: es) X.env=(false,eval e X.env) :: starEach es X.env:=by rfl):PA X (e :: es) (K6 te t):=by
 intro pos pins s σ H Q I h
 rw [hs]
 show wpAny _ _ (spliced ((false,eval e X.env) :: backTo pos (starEach es X.env))) _ _ s
 refine Calls.spliced_cons (eN (ha pins s σ H _ I h) fun u s1 ⟨x,H1,I1,r1,q1⟩=>?_)
 exact eN (hr pos pins s1 σ H1 _ I1 q1) fun us s2 ⟨xs,H2,I2,r2,q2⟩=>⟨x :: xs,H2,I2,.cons r1 r2,q2⟩
def aAt (t:TA):TE:=fun σ H Q=>t σ H fun xs H1=>xs.length <= sizeLine /\ ∀ p,H1 p=none->Q (.ref p) (aU H1 p (.tup xs))
def Z2 (t:TA):TE:=fun σ H Q=>t σ H fun xs H1=>xs.length <= sizeLine /\ ∀ p,H1 p=none->Q (.ref p) (aU H1 p (.lst xs))
theorem dI {x1} (h:PA X es t):PE X (.Tuple es x1 pos) (aAt t):=by
 intro pins s σ H Q I hq
 refine wpAny_Tuple_spliced (eN (h pos pins s σ H _ I hq) fun us s1 ⟨xs,H1,I1,r,z,q⟩=>⟨by rw [<- r.length]; exact z,?_⟩)
 have hf:H1 s1.heap.objs.size=none:=I1.hok.fresh (Nat.le_refl _)
 refine ⟨.ref s1.heap.objs.size,aU H1 s1.heap.objs.size (.tup xs),I1.laid (t':=s1.toks) (fun b u e=>Heap.get?_push_of_some _ e) (Nat.le_refl _) ?_,rfl,q _ hf⟩
 exact ⟨z,us,r,⟨_,Heap.get?_push_size _ rfl,rfl,_,rfl⟩⟩
theorem gU (h:PA X es t):PE X (.List es pos) (Z2 t):=by
 intro pins s σ H Q I hq
 refine wpAny_List_spliced (eN (h pos pins s σ H _ I hq) fun us s1 ⟨xs,H1,I1,r,z,q⟩=>⟨by rw [<- r.length]; exact z,?_⟩)
 have hf:H1 s1.heap.objs.size=none:=I1.hok.fresh (Nat.le_refl _)
 refine ⟨.ref s1.heap.objs.size,aU H1 s1.heap.objs.size (.lst xs),I1.laid (t':=s1.toks) (fun b u e=>Heap.get?_push_of_some _ e) (Nat.le_refl _) ?_,rfl,q _ hf⟩
 exact ⟨z,us,0,r,Heap.get?_push_size _ rfl⟩
end
abbrev Sp:=List V->Hp->VK->XK->Prop
abbrev Ab:=List Env->Hp->Shared->XK->Value->Shared->Prop
structure wG (P:Program) (w:World) (K:PySem.W.Frag) (mg:Str->Option Value) (base:Heap) (A:Around) (outer:List Env) (s:Shared) (H:Hp):Prop where
 frames:A.frames=some outer
 mod:Mod K mg base
 bs:∀ b o,base.get? b=some o->s.heap.get? b=some o /\ H b=none
 bsz:base.objs.size <= s.heap.objs.size
 funs:s.heap.FunFrames base outer
 frf:∀ b ∈ qZ outer,H b=none
 hok:nM P w H s.heap
 bare:AllBare s.gens
def CE (outer:List Env) (P:Program) (w:World) (H:Hp) (s:Shared) (Q:VK) (u:Value) (s':Shared):Prop :=
 ∃ v H',s'.os=s.os /\ AllBare s'.gens /\ Un (qZ outer) [] H H' s.heap s'.heap /\ nM P w H' s'.heap /\ bL v u /\ Q v H'
def CR (CX:Ab) (outer:List Env) (P:Program) (w:World) (H:Hp) (s:Shared) (Q:VK) (E:XK) (r:Result) (s':Shared):Prop :=
 match r with
 | .ok (.ret u)=>CE outer P w H s Q u s'
 | .ok _=>False
 | .error e=>CX outer H s E e s'
structure aV (P:Program) (w:World) (K:PySem.W.Frag) (mg:Str->Option Value) (base:Heap) (CX:Ab) (k:Nat) (f:Addr) (fd:FuncData) (ps:List Str) (sp:Sp):Prop where
 len:∀ vs H Q E,sp vs H Q E->vs.length=ps.length
 run:∀ (A:Around) (outer:List Env) (s:Shared) (H:Hp) (args:Args) (us:List Value) (vs:List V) (Q:VK) (E:XK),eV k A->wG P w K mg base A outer s H->BindsTo s fd args (ps.zip us)->bI vs us->sp vs H Q E ->
  codeAny (model P w) A (.call (.ref f) args) (CR CX outer P w H s Q E) s
theorem aV.mono {P:Program}{w:World}{K:PySem.W.Frag}{mg:Str->Option Value}{base:Heap}{CX:Ab}{j k:Nat}{f:Addr}{fd:FuncData}{ps:List Str}{sp:Sp} (F:aV P w K mg base CX j f fd ps sp) (h:j <= k) :
  aV P w K mg base CX k f fd ps sp:=⟨F.len,fun A outer s H args us vs Q E hr=>F.run A outer s H args us vs Q E (hr.mono h)⟩
theorem aV.imp {P:Program}{w:World}{K:PySem.W.Frag}{mg:Str->Option Value}{base:Heap}{CX:Ab}{k:Nat}{f:Addr}{fd:FuncData}{ps:List Str}{sp sp':Sp} (F:aV P w K mg base CX k f fd ps sp)
  (h:∀ vs H Q E,sp' vs H Q E->sp vs H Q E):aV P w K mg base CX k f fd ps sp' :=
 ⟨fun vs H Q E q=>F.len vs H Q E (h _ _ _ _ q),fun A outer s H args us vs Q E hr he hb hv hs=>F.run A outer s H args us vs Q E hr he hb hv (h _ _ _ _ hs)⟩
theorem wG.make {P:Program}{w:World}{K:PySem.W.Frag}{mg:Str->Option Value}{base:Heap}{A:Around}{outer:List Env}{s:Shared}{H:Hp} (e:wG P w K mg base A outer s H) (C:Addr) (us:List Value) (kw:List (Str × Value)) :
  wG P w K mg base (A.under (.builtin "type.__call__" ⟨.ref C :: us,kw⟩)) outer s H:=⟨by first | exact e.frames | (simpa [Around.under,Code.envs,Code.isFrame,pushEnvs] using e.frames),e.mod,e.bs,e.bsz,e.funs,e.frf,e.hok,e.bare⟩
theorem wG.in1 {P:Program}{w:World}{K:PySem.W.Frag}{mg:Str->Option Value}{base:Heap}{A:Around}{outer:List Env}{s:Shared}{H:Hp} (e:wG P w K mg base A outer s H) :
  wG P w K mg base A.in1 outer s H:=⟨e.frames,e.mod,e.bs,e.bsz,e.funs,e.frf,e.hok,e.bare⟩
section
variable {X:Cx}{pins:List (Addr × Obj)}{σ : St}{H:Hp}{s s':Shared}
theorem aY.env0 (I:aY X pins σ H s):wG X.prog X.w X.K X.mg X.base X.A X.stack s H :=
 ⟨I.ok.frames,I.ok.mod,I.bs,Nat.le_trans I.ok.bsz I.sz,I.stack,I.stkFree,I.hok,I.bare⟩
theorem aY.after {Q:VK}{u:Value} (I:aY X pins σ H s) (h:CE X.stack X.prog X.w H s Q u s'):EP X pins σ Q u s':=by
 obtain ⟨v,H',os,bare,un,hok,r,q⟩:=h
 obtain ⟨hh,g,d,t,os'⟩:=s'
 obtain rfl:os'=s.os:=os
 exact ⟨v,H',I.call (h':=hh) (g':=g) (d':=d) (t':=t) (ch:=[]) un hok bare (fun b z=>absurd z (by simp)),r,q⟩
end
def BZ (sp:Sp) (dvs:List V) (E:XK) (t:TA):TE:=fun σ H Q=>t σ H fun vs H1=>sp (vs ++ dvs) H1 Q E
def xY (C:Addr) (m:Str) (sp:Sp) (dvs:List V) (E:XK) (ta:TE) (t:TA):TE:=fun σ H Q=>ta σ H fun x H1=>∃ a dx fs,x = .ref a /\ H1 a=some (.ins C dx fs) /\ fs.lookup m=none ∧
 t σ H1 fun vs H2=>sp (x :: (vs ++ dvs)) H2 Q E
def Ww (C:Addr) (sp:Sp) (dvs:List V) (E:XK) (t:TA):TE:=fun σ H Q=>t σ H fun vs H1=>∀ x dx,H1 x=none->H1 dx=none->dx ≠ x ->
 sp (.ref x :: (vs ++ dvs)) (aU (aU H1 dx (.own x)) x (.ins C dx [])) (fun v H2=>v = .non /\ Q (.ref x) H2) E
def bB (K:PySem.W.Frag) (fd:FuncData) (ps:List Str) (ds:List Value):Prop :=
 ∀ (s:Shared) (us:List Value),K.In s.heap->(us ++ ds).length=ps.length->BindsTo s fd ⟨us,[]⟩ (ps.zip (us ++ ds))
theorem bB.all {K:PySem.W.Frag}{fd:FuncData}{ps:List Str} (h:∀ us:List Value,us.length=ps.length->bindArgs fd ⟨us,[]⟩ = pure (ps.zip us)):bB K fd ps []:=fun s us _ hl=>by
 rw [List.append_nil] at hl ⊢
 exact .of_eq (h us hl)
def jP (CX:Ab) (X:Cx) (E:XK):Prop:=∀ (pins:List (Addr × Obj)) (σ : St) (H:Hp) (s:Shared) (e:Value) (s':Shared),aY X pins σ H s->CX X.stack H s E e s'->X.xe e s'
section
variable {X:Cx}{CX:Ab}{k:Nat}{f C:Addr}{fd:FuncData}{ps:List Str}{sp:Sp}{dvs:List V}{ds:List Value}{E:XK}{x m:Str}{p pos apos:Pos}{e o:Expr}{es:List Expr}{ta:TE}{t:TA}
theorem yS {pins:List (Addr × Obj)}{σ : St}{H:Hp}{s:Shared}{Q:VK}{us:List Value}{vs:List V} (F:aV X.prog X.w X.K X.mg X.base CX k f fd ps sp) (hr:eV k X.A) (hb:bB X.K fd ps ds) (hd:bI dvs ds) (hx:jP CX X E)
  (I:aY X pins σ H s) (r:bI vs us) (h:sp (vs ++ dvs) H Q E):wpAny (model X.prog X.w) X.A (call (.ref f) us) (EP X pins σ Q) X.xe s:=by
 have r2:bI (vs ++ dvs) (us ++ ds):=r.append hd
 have hl:(us ++ ds).length=ps.length:=by rw [<- r2.length]; exact F.len _ _ _ _ h
 refine wpAny_call (codeAny_mono (F.run X.A X.stack s H ⟨us,[]⟩ (us ++ ds) (vs ++ dvs) Q E hr I.env0 (hb s us I.kIn hl) r2 h) fun r s' hq=>?_)
 cases r with
 | error e=>exact hx pins σ H s e s' I hq
 | ok fl =>
  cases fl with
  | ret u=>exact I.after hq
  | next=>exact False.elim hq
  | brk=>exact False.elim hq
  | cont=>exact False.elim hq
theorem zN (F:aV X.prog X.w X.K X.mg X.base CX k f fd ps sp) (hr:eV k X.A) (hg:Gl X x) (hm:X.mg x=some (.ref f)) (hk:PySem.W.keepIn X.K (.ref f)=true) (hb:bB X.K fd ps ds) (hd:bI dvs ds) (hx:jP CX X E)
  (ha:PA X (e :: es) t) (hdb:(x == ("__debug__" : Str))=false:=by decide) (he:starEach (e :: es) X.env=(false,eval e X.env) :: starEach es X.env:=by rfl) (hpl:(backTo pos (starEach es X.env)).any (·.1)=false:=by rfl) :
  PE X (.Call (.Name x p) (e :: es) [] pos) (BZ sp dvs E t):=by
 intro pins s σ H Q I h
 refine wpAny_Call_Name_kw (pN I hg hm ?_ hdb)
 refine PySem.W.callWith_K (h₀:=X.base) I.ok.mod.kin hk (eN (ha pos pins s σ H _ I h) fun us s1 ⟨vs,H1,I1,r,q⟩=>⟨I1.kIn,?_⟩) he hpl
 exact yS F hr hb hd hx I1 r q
theorem fO {pl:Sem Bool} (he:PE X o ta) (c:Av X.K C) (hm:dM X.K C m f) (F:aV X.prog X.w X.K X.mg X.base CX k f fd ps sp) (hr:eV k X.A) (hb:bB X.K fd ps ds) (hd:bI dvs ds) (hx:jP CX X E) (ha:PA X (e :: es) t)
  (hst:starEach (e :: es) X.env=(false,eval e X.env) :: starEach es X.env:=by rfl) (hpl:(backTo pos (starEach es X.env)).any (·.1)=false:=by rfl)
  (ht:eval (.Call (.Attribute o m apos) (e :: es) [] pos) X.env=(do
   let ov <- eval o X.env
   standAt apos.atName
   let (f,first) <- holding [ov] (getMethod ov m pl)
   callWith pos f first (backTo pos (starEach (e :: es) X.env)) (backToKw pos (keywordEach [] X.env))):=by rfl) :
  PE X (.Call (.Attribute o m apos) (e :: es) [] pos) (xY C m sp dvs E ta t):=by
 intro pins s σ H Q I h
 refine PySem.W.methodCall_KW (pl:=pl) (eN (he pins s σ H _ I h) fun u s1 ⟨x,H1,I1,rx,a,dx,fs,ex,ea,l,q⟩=>?_) ht
 subst ex
 obtain rfl:u=Value.ref a:=rx
 refine vI I1 ea c hm l ?_
 refine PySem.W.callWith_K (first:=[.ref a]) (h₀:=X.base) I.ok.mod.kin hm.kp (eN (ha pos pins s1 σ H1 _ I1 q) fun us s2 ⟨vs,H2,I2,r,q2⟩=>⟨I2.kIn,?_⟩) hst hpl
 exact yS (us:=.ref a :: us) (vs:=.ref a :: vs) F hr hb hd hx I2 (.cons rfl r) q2
theorem bN {pl:Sem Bool} (he:PE X o ta) (c:Av X.K C) (hm:dM X.K C m f) (F:aV X.prog X.w X.K X.mg X.base CX k f fd ps sp) (hr:eV k X.A) (hb:bB X.K fd ps ds) (hd:bI dvs ds) (hx:jP CX X E)
  (ht:eval (.Call (.Attribute o m apos) [] [] pos) X.env=(do
   let ov <- eval o X.env
   standAt apos.atName
   let (f,first) <- holding [ov] (getMethod ov m pl)
   callWith pos f first (backTo pos (starEach [] X.env)) (backToKw pos (keywordEach [] X.env))):=by rfl) :
  PE X (.Call (.Attribute o m apos) [] [] pos) (xY C m sp dvs E ta Dz):=by
 intro pins s σ H Q I h
 refine PySem.W.methodCall_KW (pl:=pl) (eN (he pins s σ H _ I h) fun u s1 ⟨x,H1,I1,rx,a,dx,fs,ex,ea,l,q⟩=>?_) ht
 subst ex
 obtain rfl:u=Value.ref a:=rx
 refine vI I1 ea c hm l ?_
 exact PySem.W.callWith_K0 (first:=[.ref a]) I1.kIn hm.kp (yS (us:=[.ref a]) (vs:=[.ref a]) F hr hb hd hx I1 (.cons rfl .nil) q)
structure Mk (K:PySem.W.Frag) (C f:Addr):Prop where
 makes:PySem.W.makesIn K C=true
 init:PySem.W.findIn K (.ref C) "__init__" = some (some (.ref f))
 fn:PySem.W.isFn K (.ref f)=true
 kp:PySem.W.keepIn K (.ref C)=true
theorem Km {pins:List (Addr × Obj)}{σ : St}{H:Hp}{s:Shared}{Q:VK}{us:List Value}{vs:List V} (M:Mk X.K C f) (F:aV X.prog X.w X.K X.mg X.base CX k f fd ps sp) (hr:eV (k + 1) X.A) (hb:bB X.K fd ps ds) (hd:bI dvs ds)
  (hx:jP CX X E) (I:aY X pins σ H s) (r:bI vs us)
  (h:∀ x dx,H x=none->H dx=none->dx ≠ x->sp (.ref x :: (vs ++ dvs)) (aU (aU H dx (.own x)) x (.ins C dx [])) (fun v H2=>v = .non /\ Q (.ref x) H2) E) :
  wpAny (model X.prog X.w) X.A (call (.ref C) us) (EP X pins σ Q) X.xe s:=by
 have hq:=h (s.heap.objs.size + 1) s.heap.objs.size (I.hok.fresh (Nat.le_succ _)) (I.hok.fresh (Nat.le_refl _)) (Nat.ne_of_lt (Nat.lt_succ_self _))
 have I2:=aY.made (C:=C) I
 have r2:bI (V.ref (s.heap.objs.size + 1) :: (vs ++ dvs)) (Value.ref (s.heap.objs.size + 1) :: (us ++ ds)):=.cons rfl (r.append hd)
 have hl:(Value.ref (s.heap.objs.size + 1) :: us ++ ds).length=ps.length:=by
  have e:=r2.length
  rw [F.len _ _ _ _ hq] at e
  exact e.symm
 refine wpAny_call (KC (f:=f) I.kIn M.makes M.init (beq_iff_eq.mp M.fn) (codeAny_mono (F.run _ X.stack _ _ ⟨Value.ref (s.heap.objs.size + 1) :: us,[]⟩ (Value.ref (s.heap.objs.size + 1) :: (us ++ ds)) _ _ E (hr.make C us [])
  (I2.env0.make C us []) (hb _ (Value.ref (s.heap.objs.size + 1) :: us) I2.kIn hl) r2 hq) fun r s' hq'=>?_))
 cases r with
 | error e=>exact hx pins σ _ _ e s' I2 hq'
 | ok fl =>
  cases fl with
  | ret u =>
   obtain ⟨v,H',I3,rv,ev,q3⟩:=I2.after hq'
   subst ev
   exact ⟨rv,⟨V.ref (s.heap.objs.size + 1),H',I3,rfl,q3⟩⟩
  | next=>exact False.elim hq'
  | brk=>exact False.elim hq'
  | cont=>exact False.elim hq'
theorem t7 (M:Mk X.K C f) (F:aV X.prog X.w X.K X.mg X.base CX k f fd ps sp) (hr:eV (k + 1) X.A) (hg:Gl X x) (hm:X.mg x=some (.ref C)) (hb:bB X.K fd ps ds) (hd:bI dvs ds) (hx:jP CX X E)
  (ha:PA X (e :: es) t) (hdb:(x == ("__debug__" : Str))=false:=by decide) (he:starEach (e :: es) X.env=(false,eval e X.env) :: starEach es X.env:=by rfl) (hpl:(backTo pos (starEach es X.env)).any (·.1)=false:=by rfl) :
  PE X (.Call (.Name x p) (e :: es) [] pos) (Ww C sp dvs E t):=by
 intro pins s σ H Q I h
 refine wpAny_Call_Name_kw (pN I hg hm ?_ hdb)
 refine PySem.W.callWith_K (h₀:=X.base) I.ok.mod.kin M.kp (eN (ha pos pins s σ H _ I h) fun us s1 ⟨vs,H1,I1,r,q⟩=>⟨I1.kIn,?_⟩) he hpl
 exact Km M F hr hb hd hx I1 r q
end
section
variable {X:Cx}{CX:Ab}{k:Nat}{f C:Addr}{fd:FuncData}{ps ks:List Str}{sp:Sp}{E:XK}{x m:Str}{p pos apos kpos:Pos}{e o:Expr}{es:List Expr}{kws:List Keyword}{te ta:TE}{t tk:TA}{nm:Option Str}
structure ZP (K:PySem.W.Frag) (fd:FuncData) (ps ks:List Str) (g:List Value->List Value->List Value) (gV:List V->List V->List V):Prop where
 to:∀ (s:Shared) (us ws:List Value),K.In s.heap->(g us ws).length=ps.length->BindsTo s fd ⟨us,ks.zip ws⟩ (ps.zip (g us ws))
 rel:∀ {vs:List V}{us:List Value}{zs:List V}{ws:List Value},bI vs us->bI zs ws->bI (gV vs zs) (g us ws)
variable {g:List Value->List Value->List Value}{gV:List V->List V->List V}
end
structure aP (N P:List Str) (sc:Scope):Prop where
 kind:sc.kind = .function
 co:sc.isCoroutine=false
 gen:sc.isGenerator=false
 nd:N.Nodup
 pre:N.take P.length=P
 par:∀ x ∈ P,sc.names.lookup x=some .local ∨ sc.names.lookup x=some .cell
 nofree:∀ y ∈ sc.names,y.2 ≠ .free
theorem wY {kindOf:Str->Option NameKind}{x:Str}:∀ {binds:List (Str × Value)}{m:Str->Option Value},(∀ v,(x,v) ∉ binds)->bindL kindOf binds m x=m x
 | [],_,_=>rfl
 | (n,v) :: r,m,h=>by
  unfold bindL
  rw [wY fun w hw=>h w (List.mem_cons_of_mem _ hw)]
  split
  ·have:x ≠ n:=by rintro rfl; exact h v List.mem_cons_self
   simp [this]
  ·rfl
theorem wW {kindOf:Str->Option NameKind}{x:Str}:∀ {binds:List (Str × Value)}{m:Str->Option Value},(∀ v,(x,v) ∉ binds)->bindC kindOf binds m x=m x
 | [],_,_=>rfl
 | (n,v) :: r,m,h=>by
  unfold bindC
  rw [wW fun w hw=>h w (List.mem_cons_of_mem _ hw)]
  split
  ·rfl
  ·have:x ≠ n:=by rintro rfl; exact h v List.mem_cons_self
   simp [this]
theorem xQ {kindOf:Str->Option NameKind}{x:Str}{v:Value}:∀ {P:List Str}{vs:List Value}{i:Nat}{m:Str->Option Value},P.Nodup->P[i]? = some x->vs[i]? = some v->kindOf x=some .local ->
  bindL kindOf (P.zip vs) m x=some v
 | [],_,_,_,_,h,_,_=>by simp at h
 | _ :: _,[],_,_,_,_,h,_=>by simp at h
 | p :: P,w :: vs,0,m,nd,h1,h2,hk=>by
  simp at h1 h2; subst h1; subst h2
  show bindL kindOf ((p,w) :: P.zip vs) m p=_
  unfold bindL
  rw [wY fun v hv=>(List.nodup_cons.mp nd).1 (List.of_mem_zip hv).1,if_pos hk]
  simp
 | p :: P,w :: vs,i + 1,m,nd,h1,h2,hk=>by
  show bindL kindOf ((p,w) :: P.zip vs) m x=_
  unfold bindL
  exact xQ (i:=i) (List.nodup_cons.mp nd).2 (by simpa using h1) (by simpa using h2) hk
theorem xA {kindOf:Str->Option NameKind}{x:Str}{v:Value}:∀ {P:List Str}{vs:List Value}{i:Nat}{m:Str->Option Value},P.Nodup->P[i]? = some x->vs[i]? = some v->kindOf x ≠ some .local ->
  bindC kindOf (P.zip vs) m x=some v
 | [],_,_,_,_,h,_,_=>by simp at h
 | _ :: _,[],_,_,_,_,h,_=>by simp at h
 | p :: P,w :: vs,0,m,nd,h1,h2,hk=>by
  simp at h1 h2; subst h1; subst h2
  show bindC kindOf ((p,w) :: P.zip vs) m p=_
  unfold bindC
  rw [wW fun v hv=>(List.nodup_cons.mp nd).1 (List.of_mem_zip hv).1,if_neg hk]
  simp
 | p :: P,w :: vs,i + 1,m,nd,h1,h2,hk=>by
  show bindC kindOf ((p,w) :: P.zip vs) m x=_
  unfold bindC
  exact xA (i:=i) (List.nodup_cons.mp nd).2 (by simpa using h1) (by simpa using h2) hk
def start (N:List Str) (vs:List V):St:=vs.map some ++ List.replicate (N.length - vs.length) none
def vO (CX:Ab) (P:Program) (w:World) (K:PySem.W.Frag) (mg:Str->Option Value) (base:Heap) (N:List Str) (qual:Str) (scope:Scope) (f:Addr) (cd:Value) (A:Around) (outer:List Env) (s:Shared) (H:Hp) (E:XK):Cx where
 prog:=P
 w:=w
 K:=K
 mg:=mg
 base:=base
 A:=A.deeper (envOfC qual scope s.heap.objs.size f cd)
 N:=N
 s₀:=s
 H₀:=H
 env:=envOfC qual scope s.heap.objs.size f cd
 outer:=outer
 stack:=envOfC qual scope s.heap.objs.size f cd :: outer
 ex:=[]
 calm:=true
 fn:=fun _=>true
 pn:=[]
 xe:=fun e s'=>wpAny (model P w) (A.deeper (envOfC qual scope s.heap.objs.size f cd)) (leaving (envOfC qual scope s.heap.objs.size f cd) e) (fun _ s''=>CX outer H s E e s'') (fun e' s''=>CX outer H s E e' s'') s'
theorem Bc {sc:Scope}{n:Nat}{x:Str} (h:sc.names.lookup x=some .cell):∃ c,(cellsFrom n sc.names []).lookup x=some c:=by
 have q:=PySem.W.cellsFrom_some sc.names n [] (.inl h)
 exact Option.isSome_iff_exists.mp q
theorem HX {CX:Ab}{P:Program}{w:World}{K:PySem.W.Frag}{mg:Str->Option Value}{base:Heap}{N ps:List Str}{qual:Str}{scope:Scope}{f:Addr}{cd:Value}{A:Around}{outer:List Env}{s s1:Shared}{H:Hp}{E:XK}{us:List Value}{vs:List V}
  (S:aP N ps scope) (hd:A.handled=none) (e0:wG P w K mg base A outer s H) (hl:vs.length=ps.length) (r:bI vs us)
  (x:InCallC s s.heap.objs.size (bindL (envOfC qual scope s.heap.objs.size f cd).kindOf (ps.zip us) fun _=>none) (cellsFrom (s.heap.objs.size + 1) scope.names []) (bindC (envOfC qual scope s.heap.objs.size f cd).kindOf (ps.zip us) fun _=>none) s1) :
  aY (vO CX P w K mg base N qual scope f cd A outer s H E) [] (start N vs) H s1:=by
 have hpl:ps.length <= N.length:=by have:=congrArg List.length S.pre; rw [List.length_take] at this; omega
 obtain ⟨h1,tk,rfl,hk⟩:=x.done
 have noA:∀ b:Addr,b ∉ (vO CX P w K mg base N qual scope f cd A outer s H E).ex:=fun b z=>absurd (show b ∈ ([]:List Addr) from z) (by simp)
 refine ⟨⟨e0.mod,S.kind,rfl,rfl,Nat.le_refl _,fun y z c h1 h2=>?_,fun y hy=>?_,fun y c _ h=>?_,fun _=>hd,Around.frames_deeper e0.frames,.inr ⟨rfl,rfl⟩,fun b z=>absurd z (noA b),e0.bs,e0.bsz,fun b _ _=>noA b,fun b z=>absurd z (noA b),e0.funs,e0.frf⟩,
  rfl,e0.bare,Un.kept hk,⟨_,x.toInCall.ns,fun i y v h1 h2 h3=>?_⟩,fun y c h=>⟨_,x.cell y c h⟩,e0.hok.fresh (Nat.le_refl _),fun y c h=>?_,fun p hp=>absurd (show p ∈ ([]:List (Addr × Obj)) from hp) (by simp),e0.hok.kept hk,?_⟩
 ·exact name_of_addr x.apart (PySem.mem_of_lookup h1) (PySem.mem_of_lookup h2)
 ·have hy:scope.names.lookup y=some .cell ∨ scope.names.lookup y=some .free:=hy
  rcases hy with hy | hy
  ·exact Bc hy
  ·exact absurd rfl (S.nofree _ (PySem.mem_of_lookup hy))
 ·exact Nat.le_of_lt (x.above y c (PySem.mem_of_lookup h))
 ·have hi:i < vs.length:=by
   unfold start at h2
   by_cases hi:i < vs.length
   ·exact hi
   ·rw [List.getElem?_append_right (by simpa using hi)] at h2
    rw [List.getElem?_replicate] at h2
    split at h2 <;> cases h2
  have ha:vs[i]? = some v:=by
   unfold start at h2
   rw [List.getElem?_append_left (by simpa using hi),List.getElem?_map] at h2
   cases e:vs[i]? with
   | none=>rw [e] at h2; cases h2
   | some a=>rw [e] at h2; cases h2; rfl
  obtain ⟨u,hu,rv⟩:=r.get ha
  have hp:ps[i]? = some y:=by
   rw [<- S.pre,List.getElem?_take_of_lt (by omega)]; exact h1
  have ndP:ps.Nodup:=by rw [<- S.pre]; exact S.nd.sublist (List.take_sublist _ _)
  refine ⟨u,rv,?_⟩
  rcases S.par y (List.mem_of_getElem? hp) with k | k
  ·exact .inl ⟨k,xQ ndP hp hu k⟩
  ·obtain ⟨c,e⟩:=Bc (n:=s.heap.objs.size + 1) k
   refine .inr ⟨.inl k,c,e,?_⟩
   have q:=x.cell y c e
   rw [xA ndP hp hu (by show scope.names.lookup y ≠ _; rw [k]; decide)] at q
   exact q
 ·exact e0.hok.fresh (Nat.le_of_lt (x.above y c (PySem.mem_of_lookup h)))
 ·unfold start
  show _=N.length
  rw [List.length_append,List.length_map,List.length_replicate]
  omega
theorem GQ {CX:Ab}{P:Program}{w:World}{K:PySem.W.Frag}{mg:Str->Option Value}{base:Heap}{k:Nat}{f:Addr}{name qual:Str}{params:Arguments}{body:List Stmt}{scope:Scope}{dV kV doc pm cdv ct oc:Value}{an od:Option Addr}
  {osl:Array (Option Value)}{N ps:List Str}{sp:Sp} (lk:K.lookup f=some ⟨oc,od,.func (PySem.W.fnOf name qual params body scope dV kV doc pm an cdv ct),osl⟩) (hcd:PySem.W.codeIn K cdv qual=true) (S:aP N ps scope)
  (len:∀ vs H Q E,sp vs H Q E->vs.length=ps.length)
  (hbody:∀ (A:Around) (outer:List Env) (s:Shared) (H:Hp) (vs:List V) (Q:VK) (E:XK),eV k (A.deeper (envOfC qual scope s.heap.objs.size f cdv))->sp vs H Q E ->
   ∃ t,sJ (vO CX P w K mg base N qual scope f cdv A outer s H E) body t /\ t { nx:=fun _ H'=>Q .non H',rt:=Q } (start N vs) H) :
  aV P w K mg base CX (k + 1) f (PySem.W.fnOf name qual params body scope dV kV doc pm an cdv ct) ps sp:=by
 refine ⟨len,fun A outer s H args us vs Q E hr e0 hb r hsp=>?_⟩
 have hl:=len _ _ _ _ hsp
 have KX:K.In s.heap:=e0.mod.kin.keeps fun b o e=>(e0.bs b o e).1
 have lim:s.heap.NoLimit:=e0.mod.nolimit.keeps fun b o e=>(e0.bs b o e).1
 have hkind:∀ y ∈ ps.zip us,scope.names.lookup y.1=some .local ∨ (scope.names.lookup y.1=some .cell /\ ((cellsFrom (s.heap.objs.size + 1) scope.names []).lookup y.1).isSome=true):=fun ⟨n,v⟩ hy=>by
  rcases S.par n (List.of_mem_zip hy).1 with q | q
  ·exact .inl q
  ·exact .inr ⟨q,PySem.W.cellsFrom_some _ _ _ (.inl q)⟩
 refine codeAny_call_function hr.depth (KX _ _ lk) rfl S.co S.gen rfl (PySem.W.codeRec_of KX hcd) (hb _ _ _ _ ?_)
 refine wpAny_newFunctionEnv_cells S.kind hkind fun env he s1 x=>?_
 subst he
 refine ⟨lim.keeps x.toInCall.keep,codeAny_func ?_⟩
 obtain ⟨t,ht,hq⟩:=hbody A outer s H vs Q E (hr.deeper _) hsp
 have I:aY (vO CX P w K mg base N qual scope f cdv A outer s H E) [] (start N vs) H s1:=HX S hr.hd e0 hl r x
 refine wpAny_mono (ht [] s1 (start N vs) H _ I hq) (fun fl s' hs=>?_) fun e s' hs=>hs
 have fin:∀ {σ':St}{H':Hp}{v:V}{u:Value},aY (vO CX P w K mg base N qual scope f cdv A outer s H E) [] σ' H' s'->bL v u->Q v H'->CE outer P w H s Q u s' :=
  fun {σ' H' v u} J rv q=>⟨v,H',J.os,J.bare,J.base,J.hok,rv,q⟩
 cases fl with
 | ret u =>
  obtain ⟨v,σ',H',J,rv,q⟩:=hs
  exact fin J rv q
 | next =>
  obtain ⟨σ',H',J,q⟩:=hs
  exact fin (v:=V.non) (u:=Value.none) J rfl q
 | brk =>
  obtain ⟨_,_,_,q⟩:=hs
  exact False.elim q
 | cont =>
  obtain ⟨_,_,_,q⟩:=hs
  exact False.elim q
end L2
namespace L2
open PySem PySem.Spec PyProof.Rows
section
variable {X:Cx}{x:Str}{p pos:Pos}{e:Expr}{es:List Expr}{t:TA}{id T:String}{r:List V->Hp->VK->Prop}
def tCB (r:List V->Hp->VK->Prop) (t:TA):TE:=fun σ H Q=>t σ H fun vs H1=>r vs H1 Q
theorem aZ (hc:gM X (.builtin id) r) (hg:Gl X x) (hm:X.mg x=none) (hv:bootBuiltins x=some (.builtin id)) (ha:PA X (e :: es) t) (hn:x ≠ "__name__":=by decide) (hdb:(x == ("__debug__" : Str))=false:=by decide)
  (he:starEach (e :: es) X.env=(false,eval e X.env) :: starEach es X.env:=by rfl) (hpl:(backTo pos (starEach es X.env)).any (·.1)=false:=by rfl):PE X (.Call (.Name x p) (e :: es) [] pos) (tCB r t):=by
 intro pins s σ H Q I h
 refine wpAny_Call_Name_kw (qM I hg hm hv ?_ hn hdb)
 exact PyProof.Rows.callWith_builtin1 (eN (ha pos pins s σ H _ I h) fun us s1 ⟨vs,H1,I1,r1,q1⟩=>hc pins s1 σ H1 vs us Q I1 r1 q1) he hpl
theorem cU (hc:gM X (.type T) r) (hg:Gl X x) (hm:X.mg x=none) (hv:bootBuiltins x=some (.type T)) (ha:PA X (e :: es) t) (hn:x ≠ "__name__":=by decide) (hdb:(x == ("__debug__" : Str))=false:=by decide)
  (he:starEach (e :: es) X.env=(false,eval e X.env) :: starEach es X.env:=by rfl) (hpl:(backTo pos (starEach es X.env)).any (·.1)=false:=by rfl):PE X (.Call (.Name x p) (e :: es) [] pos) (tCB r t):=by
 intro pins s σ H Q I h
 refine wpAny_Call_Name_kw (qM I hg hm hv ?_ hn hdb)
 exact PyProof.Rows.callWith_type1 (eN (ha pos pins s σ H _ I h) fun us s1 ⟨vs,H1,I1,r1,q1⟩=>hc pins s1 σ H1 vs us Q I1 r1 q1) he hpl
end
end L2
namespace HT
open PySem PyProof.Rows
section
open PySem.SeqAt
open PySem.AutoSeq1 (wpAny_loadPart')
open PySem.MeetsSeq PySem.MeetsSeq2 PySem.MeetsSeq3
end
section
variable {prog:Program}{w:World}{A:Around}{E:Value->Shared->Prop}{s:Shared}
theorem N6 {t b:Addr}{vs ws:List Value}{Q:Value->Shared->Prop} (ht:IsTup s.heap t vs.toArray) (hb:IsTup s.heap b ws.toArray) (hv:vs ≠ [])
  (h1:ws=[]->Q (.ref t) s) (h2:ws ≠ []->Q (.ref s.heap.objs.size) { s with heap:=s.heap.push { cls:=.type "tuple",data:=.seq (vs ++ ws).toArray } })
  (hsz:vs.length + ws.length <= sizeLine):wpAny (model prog w) A (binaryOp .Add (.ref t) (.ref b)) Q E s:=by
 obtain ⟨⟨cls,dd,data,sl⟩,ho,hc,n,hd⟩:=id ht
 obtain ⟨⟨cls2,dd2,data2,sl2⟩,ho2,hc2,n2,hd2⟩:=id hb
 simp only at hc hd hc2 hd2
 subst hc hd hc2 hd2
 have e:vs.toArray ++ ws.toArray=(vs ++ ws).toArray:=by simp
 by_cases hw:ws=[]
 ·exact concat_meets ⟨_,ho,rfl⟩ ⟨_,ho2,rfl⟩ noFill_tuple_add seq_tuple_add PySem.F.slot_tuple_add PySem.F.entry_tuple_add (PySem.F.args_tuple_add_2 _ _)
   (tuple_addW1 t b vs.toArray ws.toArray n n2 dd dd2 sl sl2 (by simpa using hv) (by simp [hw])) ⟨ho,ho2,h1 hw⟩
 ·refine concat_meets ⟨_,ho,rfl⟩ ⟨_,ho2,rfl⟩ noFill_tuple_add seq_tuple_add PySem.F.slot_tuple_add PySem.F.entry_tuple_add (PySem.F.args_tuple_add_2 _ _)
   (tuple_addW2 t b vs.toArray ws.toArray n n2 dd dd2 sl sl2 (by simpa using hv) (by simpa using hw) (by rw [List.size_toArray,List.size_toArray]; exact hsz)) ⟨ho,ho2,?_⟩
  rw [e]
  exact h2 hw
def gY (n d:Nat):Option Int->Nat
 | none=>d
 | some v=>if v < 0 then (v + (n:Int)).toNat else min v.toNat n
theorem pL (n d k:Nat):gY n d (some (k:Int))=min k n:=by
 show (if (k:Int) < 0 then ((k:Int) + (n:Int)).toNat else min (k:Int).toNat n)=min k n
 rw [if_neg (by omega),Int.toNat_natCast]
theorem Qf (n d:Nat) (hd:d <= n) (o:Option Int):gY n d o <= n:=by
 cases o with
 | none=>exact hd
 | some v =>
  show (if v < 0 then (v + (n:Int)).toNat else min v.toNat n) <= n
  by_cases hv:v < 0
  ·rw [if_pos hv]; omega
  ·rw [if_neg hv]; exact Nat.min_le_right _ _
theorem Fz (v:Int) (n d:Nat):(if v < 0 then max (v + (n:Int)) 0 else min v (n:Int))=((gY n d (some v):Nat):Int):=by
 show (if v < 0 then max (v + (n:Int)) 0 else min v (n:Int))=(((if v < 0 then (v + (n:Int)).toNat else min v.toNat n):Nat):Int)
 by_cases hv:v < 0
 ·simp only [if_pos hv]; omega
 ·simp only [if_neg hv]; omega
theorem Et (lo hi:Option Int) (n:Nat):Builtin.Slice.sliceAdjust lo hi 1 (n:Int)=(((gY n 0 lo:Nat):Int),((gY n n hi:Nat):Int)):=by
 have h1:¬ ((1:Int) < 0):=by omega
 unfold Builtin.Slice.sliceAdjust
 simp only [h1,if_false]
 refine Prod.ext ?_ ?_
 ·cases lo with
  | none=>rfl
  | some v=>exact Fz v n 0
 ·cases hi with
  | none=>rfl
  | some v=>exact Fz v n n
theorem Ek (i j:Nat):Builtin.Slice.slicePlaces (i:Int) (j:Int) 1=j - i:=by
 unfold Builtin.Slice.slicePlaces
 have h1:(1:Int) > 0:=by omega
 simp only [h1,if_true,Int.ediv_one]
 split <;> omega
theorem u0 {v:Value}{o:Option Int}{Q:Option Int->Shared->Prop} (p:IsPart v o) (h:Q o s):wpAny (model prog w) A (Builtin.Slice.slicePartIndex v) Q E s:=by
 cases p with
 | none=>exact slicePart_none h
 | int i t=>exact slicePart_int h
theorem rH {sl:Addr}{vl vu:Value}{lo hi:Option Int}{n:Nat}{Q:Int × Int × Nat->Shared->Prop} (hs:s.heap.IsSliceOf sl vl vu .none) (pl:IsPart vl lo) (pu:IsPart vu hi)
  (h:Q (((gY n 0 lo:Nat):Int),1,gY n n hi - gY n 0 lo) s):wpAny (model prog w) A (Builtin.Slice.sliceApplied (.ref sl) (pure (n:Int))) Q E s:=by
 obtain ⟨os,hos,hcs,hds⟩:=id hs
 unfold Builtin.Slice.sliceApplied Builtin.Slice.sliceFields
 refine wpAny_bind (wpAny_bind (wpAny_field hos hds (x:=vl) rfl (wpAny_bind (wpAny_field hos hds (x:=vu) rfl (wpAny_bind (wpAny_field hos hds (x:=.none) rfl (wpAny_pure ?_)))))))
 refine wpAny_bind (slicePart_none ?_)
 show wpAny _ _ (if ((1:Int) == 0)=true then _ else _) _ _ s
 rw [if_neg (by decide)]
 refine wpAny_bind (u0 pl (wpAny_bind (u0 pu (wpAny_bind (wpAny_pure ?_)))))
 show wpAny _ _ (match Builtin.Slice.sliceAdjust lo hi 1 (n:Int) with | (lo,hi)=>pure (lo,(1:Int),Builtin.Slice.slicePlaces lo hi 1)) _ _ s
 rw [Et lo hi n]
 show wpAny _ _ (pure (((gY n 0 lo:Nat):Int),(1:Int),Builtin.Slice.slicePlaces ((gY n 0 lo:Nat):Int) ((gY n n hi:Nat):Int) 1)) _ _ s
 rw [Ek]
 exact wpAny_pure h
theorem JG (xs:Array Value) (i k:Nat):((List.range k).filterMap fun (m:Nat)=>xs[((i:Int) + (m:Int) * 1).toNat]?).toArray=((xs.toList.drop i).take k).toArray:=by
 have e:(fun (m:Nat)=>xs[((i:Int) + (m:Int) * 1).toNat]?)=fun m=>xs[i + m]?:=by
  funext m
  have:((i:Int) + (m:Int) * 1).toNat=i + m:=by omega
  rw [this]
 rw [e]
 have:=pick_run xs i k
 rw [List.filterMap_map] at this
 have e2:((fun x=>xs[x]?) ∘ fun x=>i + x)=fun m=>xs[i + m]?:=rfl
 rw [e2] at this
 rw [this]
theorem pH {t sl:Addr}{items:Array Value}{vl vu:Value}{lo hi:Option Int}{Q:Value->Shared->Prop} (ht:IsTup s.heap t items) (hs:s.heap.IsSliceOf sl vl vu .none) (pl:IsPart vl lo) (pu:IsPart vu hi)
  (hw:¬ (gY items.size 0 lo=0 /\ gY items.size items.size hi=items.size))
  (h:Q (.ref s.heap.objs.size) { s with heap:=s.heap.push { cls:=.type "tuple",data:=.seq ((items.toList.drop (gY items.size 0 lo)).take (gY items.size items.size hi - gY items.size 0 lo)).toArray } })
  (hsz:items.size <= sizeLine):wpAny (model prog w) A (getItem (.ref t) (.ref sl)) Q E s:=by
 have htake:sizeOk (.seq ((items.toList.drop (gY items.size 0 lo)).take (gY items.size items.size hi - gY items.size 0 lo)).toArray):=by
  show ((items.toList.drop (gY items.size 0 lo)).take (gY items.size items.size hi - gY items.size 0 lo)).toArray.size <= sizeLine
  rw [List.size_toArray,List.length_take,List.length_drop,Array.length_toList]
  omega
 have hj:gY items.size items.size hi <= items.size:=Qf _ _ (Nat.le_refl _) hi
 obtain ⟨os,hos,hcs,hds⟩:=id hs
 have hTs:s.TypeIs (.ref sl) "slice":=⟨os,hos,hcs⟩
 unfold getItem
 try with_reducible refine wpAny_holding ?_
 first | refine wpAny_bind (wpAny_pure ?_) | skip
 refine wpAny_bind (wpAny_sequenceKey ht.typeIs (by decide) ?_)
 refine wpAny_bind (wpAny_callSpecial?_slot (name:=Str.ofString "__getitem__") ht.typeIs PyProof.Rows.slot_tuple_getitem
  (wpAny_call_entry PyProof.Rows.slot_tuple_getitem ht.typeIs entry_tuple_getitem ?_ (args_tuple_getitem _ _)))
 show wpAny _ _ (Builtin.Tuple.tupleItemsOf (.ref t) >>= _) _ _ s
 refine wpAny_bind (tupleItemsOf_ ht ?_)
 refine wpAny_bind (wpAny_typeOf hTs ?_)
 rw [if_pos (by decide)]
 refine wpAny_bind (rH hs pl pu ?_)
 have hno:¬ ((((gY items.size 0 lo:Nat):Int) == 0 && (1:Int) == 1 && (gY items.size items.size hi - gY items.size 0 lo) == items.size)=true):=by
  intro q
  rw [Bool.and_eq_true,Bool.and_eq_true] at q
  have q1:((gY items.size 0 lo:Nat):Int)=0:=eq_of_beq q.1.1
  have q2:gY items.size items.size hi - gY items.size 0 lo=items.size:=eq_of_beq q.2
  exact hw ⟨by omega,by omega⟩
 show wpAny _ _ (if (((gY items.size 0 lo:Nat):Int) == 0 && (1:Int) == 1 && (gY items.size items.size hi - gY items.size 0 lo) == items.size)=true then _ else _) _ _ s
 rw [if_neg hno,JG]
 first
  | exact wpAny_bind (m:=Builtin.Tuple.tupleExact _) (wpAny_newObj_type (wpAny_pure ⟨_,rfl,wpAny_pure h⟩) htake)
  | exact wpAny_bind (m:=Builtin.Tuple.tupleExact _) (wpAny_newObj_type (wpAny_bind (wpAny_pure (wpAny_pure ⟨_,rfl,wpAny_pure h⟩))) htake)
  | exact wpAny_bind (wpAny_bind (m:=Builtin.Tuple.tupleExact _) (wpAny_newObj_type (wpAny_pure (wpAny_pure ⟨_,rfl,wpAny_pure h⟩)) htake))
  | exact wpAny_bind (wpAny_bind (m:=Builtin.Tuple.tupleExact _) (wpAny_newObj_type (wpAny_pure ⟨_,rfl,wpAny_pure h⟩) htake))
end
end HT
namespace L2
open PySem PySem.Spec PyProof.Rows
abbrev TO:=St->Hp->(Option Int->Hp->Prop)->Prop
def PO (X:Cx) (e:Option Expr) (t:TO):Prop :=
 ∀ (pins:List (Addr × Obj)) (s:Shared) (σ : St) (H:Hp) (Q:Option Int->Hp->Prop),aY X pins σ H s->t σ H Q ->
  wpAny (model X.prog X.w) X.A (evalPart e X.env) (fun u s'=>∃ o H',aY X pins σ H' s' /\ IsPart u o /\ Q o H') X.xe s
def M5:TO:=fun _ H Q=>Q none H
def Wd (t:TE):TO:=fun σ H Q=>t σ H fun x H1=>∃ i,x = .int i /\ Q (some i) H1
theorem o4 {ns:List Int}:∀ {us:List Value},bI (ns.map V.int) us->IntsAre us ns:=by
 induction ns with
 | nil=>intro us r; rw [List.map_nil] at r; cases r; exact .nil
 | cons n ns ih =>
  intro us r
  rw [List.map_cons] at r
  cases r with
  | cons r1 r2 =>
   obtain ⟨t,e⟩:=r1
   subst e
   exact .cons n t (ih r2)
section
variable {X:Cx}{e:Expr}{te:TE}{lo hi:Option Expr}{tl th:TO}{pos p2:Pos}
theorem GC:PO X none M5:=by
 intro pins s σ H Q I h
 rw [evalPart_none]
 exact wpAny_pure ⟨none,H,I,.none,h⟩
theorem uC (h:PE X e te):PO X (some e) (Wd te):=by
 intro pins s σ H Q I hw
 rw [evalPart_some]
 refine eN (h pins s σ H _ I hw) fun u s1 ⟨x,H1,I1,r1,q1⟩=>?_
 obtain ⟨i,rfl,q⟩:=q1
 obtain ⟨t,rfl⟩:=r1
 exact ⟨some i,H1,I1,.int i t,q⟩
def Zd (X:Cx) (r:V->Option Int->Option Int->Hp->VK->Prop):Prop :=
 ∀ (pins:List (Addr × Obj)) (s:Shared) (σ : St) (H:Hp) (x:V) (v vl vu:Value) (lo hi:Option Int) (sl:Addr) (Q:VK),aY X pins σ H s->bL x v->s.heap.IsSliceOf sl vl vu .none->IsPart vl lo->IsPart vu hi->r x lo hi H Q ->
  ∃ T id,typeLookup (.type T) "__getitem__" = pure (some (.builtin id)) /\ s.TypeIs v T /\ wpAny (model X.prog X.w) X.A (getItem v (.ref sl)) (EP X pins σ Q) X.xe s
def tSl (r:V->Option Int->Option Int->Hp->VK->Prop) (te:TE) (tl th:TO):TE:=fun σ H Q=>te σ H fun x H1=>tl σ H1 fun l H2=>th σ H2 fun u H3=>r x l u H3 Q
theorem vL {r:V->Option Int->Option Int->Hp->VK->Prop} (hr:Zd X r) (he:PE X e te) (hl:PO X lo tl) (hu:PO X hi th):PE X (.Subscript e (.Slice lo hi none p2) pos) (tSl r te tl th):=by
 intro pins s σ H Q I h
 refine Subscript_ (eN (he pins s σ H _ I h) fun v s1 ⟨x,H1,I1,r1,q1⟩=>?_)
 refine wpAny_Slice (eN (hl pins s1 σ H1 _ I1 q1) fun vl s2 ⟨l,H2,I2,pl,q2⟩=>eN (hu pins s2 σ H2 _ I2 q2) fun vu s3 ⟨u,H3,I3,pu,q3⟩=>?_)
 rw [evalPart_none]
 refine wpAny_pure ?_
 have I4:aY X pins σ H3 { s3 with heap:=s3.heap.push { cls:=.type "slice",data:=.fields #[vl,vu,.none] } }:=I3.kept (t':=s3.toks) fun b ob q=>Heap.get?_push_of_some _ q
 obtain ⟨T,id,hT,ht,hg⟩:=hr pins { s3 with heap:=s3.heap.push { cls:=.type "slice",data:=.fields #[vl,vu,.none] } } σ H3 x v vl vu l u s3.heap.objs.size Q I4 r1 (Heap.IsSliceOf.new ..) pl pu q3
 show wpAny (model X.prog X.w) X.A (subscriptTail e (.Slice lo hi none p2) v (.ref s3.heap.objs.size)) (EP X pins σ Q) X.xe { s3 with heap:=s3.heap.push { cls:=.type "slice",data:=.fields #[vl,vu,.none] } }
 exact tail_any (ops:=[.ref s3.heap.objs.size,v]) ht hT hg (by with_unfolding_all rfl)
def jC (xs:List V) (lo hi:Option Int):List V:=(xs.drop (HT.gY xs.length 0 lo)).take (HT.gY xs.length xs.length hi - HT.gY xs.length 0 lo)
theorem rY (xs:List V) (lo hi:Option Int):(jC xs lo hi).length <= xs.length:=by
 unfold jC
 rw [List.length_take,List.length_drop]
 omega
def ZS (K:PySem.W.Frag):V->Option Int->Option Int->Hp->VK->Prop:=fun x lo hi H Q=>∃ a xs,x = .ref a /\ bZ K H a xs ∧
 ¬ (HT.gY xs.length 0 lo=0 /\ HT.gY xs.length xs.length hi=xs.length) /\ ∀ p,H p=none->Q (.ref p) (aU H p (.tup (jC xs lo hi)))
theorem JM:Zd X (ZS X.K):=by
 intro pins s σ H x v vl vu lo hi sl Q I rx hs pl pu h
 obtain ⟨a,xs,rfl,hx,hw,q⟩:=h
 cases rx
 obtain ⟨its,r,ht,hz⟩:=I.tuple hx
 have hlen:its.toArray.size=xs.length:=by rw [List.size_toArray]; exact r.length.symm
 refine ⟨"tuple",_,PyProof.Rows.slot_tuple_getitem.lookup,ht.typeIs,?_⟩
 refine HT.pH ht hs pl pu (by rw [hlen]; exact hw) ?_ (by rw [hlen]; exact hz)
 rw [hlen]
 refine ⟨.ref s.heap.objs.size,_,I.laid (t':=s.toks) (o:=.tup (jC xs lo hi)) (fun b ob q=>Heap.get?_push_of_some _ q) (Nat.le_refl _) ?_,rfl,q _ (I.hok.fresh (Nat.le_refl _))⟩
 exact ⟨Nat.le_trans (rY xs lo hi) hz,_,(r.drop (HT.gY xs.length 0 lo)).take (HT.gY xs.length xs.length hi - HT.gY xs.length 0 lo),IsTup.new _ _⟩
def W6 (K:PySem.W.Frag):R2:=fun x y H Q=>∃ a b xs ys,x = .ref a /\ y = .ref b /\ bZ K H a xs /\ bZ K H b ys /\ xs ≠ [] /\ xs.length + ys.length <= sizeLine ∧
 (ys=[]->Q (.ref a) H) /\ (ys ≠ []->∀ p,H p=none->Q (.ref p) (aU H p (.tup (xs ++ ys))))
theorem bI.nil_iff {xs:List V}{us:List Value} (r:bI xs us):us=[] ↔ xs=[]:=by
 cases r with
 | nil=>simp
 | cons _ _=>simp
theorem Mi:nW X (binaryOp .Add) (W6 X.K):=by
 intro pins s σ H x y v u Q I rx ry h
 obtain ⟨a,b,xs,ys,rfl,rfl,ha,hb,hx,hz,q1,q2⟩:=h
 cases rx
 cases ry
 obtain ⟨its,r1,p1,_⟩:=I.tuple ha
 obtain ⟨its2,r2,p2,_⟩:=I.tuple hb
 refine HT.N6 p1 p2 (fun z=>hx (r1.nil_iff.mp z)) (fun z=>⟨.ref a,H,I,rfl,q1 (r2.nil_iff.mp z)⟩) (fun z=>?_) (by rw [<- r1.length,<- r2.length]; exact hz)
 refine ⟨.ref s.heap.objs.size,_,I.laid (t':=s.toks) (o:=.tup (xs ++ ys)) (fun b ob q=>Heap.get?_push_of_some _ q) (Nat.le_refl _) ?_,rfl,q2 (fun w=>z (r2.nil_iff.mpr w)) _ (I.hok.fresh (Nat.le_refl _))⟩
 exact ⟨by rw [List.length_append]; exact hz,_,r1.append r2,IsTup.new _ _⟩
end
end L2
namespace L2
open PySem PySem.Spec PyProof.Rows
def Nf (n:Nat) (i:Int):Option Nat:=if 0 <= i then (if i < n then some i.toNat else none) else if -(n:Int) <= i then some (i + n).toNat else none
def Gk {α : Type} (xs:List α) (i:Int):Option α:=(Nf xs.length i).bind fun j=>xs[j]?
theorem Fi {n:Nat}{i:Int}{j:Nat} (h:Nf n i=some j):seqIndex? i n=some j /\ j < n /\ -(n:Int) <= i /\ i < n:=by
 unfold Nf at h
 by_cases h0:0 <= i
 ·rw [if_pos h0] at h
  by_cases h1:i < n
  ·rw [if_pos h1] at h
   have e:i.toNat=j:=Option.some.inj h
   exact ⟨by rw [seqIndex_of h0 h1,e],by omega,by omega,h1⟩
  ·rw [if_neg h1] at h; cases h
 ·rw [if_neg h0] at h
  by_cases h1:-(n:Int) <= i
  ·rw [if_pos h1] at h
   have e:(i + n).toNat=j:=Option.some.inj h
   exact ⟨by rw [seqIndex_neg (by omega) h1,e],by omega,h1,by omega⟩
  ·rw [if_neg h1] at h; cases h
theorem Fx {α : Type}{xs:List α}{i:Int}{v:α} (h:Gk xs i=some v):∃ j,seqIndex? i xs.length=some j /\ xs[j]? = some v /\ j < xs.length /\ -(xs.length:Int) <= i /\ i < xs.length:=by
 unfold Gk at h
 cases e:Nf xs.length i with
 | none=>rw [e] at h; cases h
 | some j =>
  rw [e] at h
  obtain ⟨h1,h2,h3,h4⟩:=Fi e
  exact ⟨j,h1,h,h2,h3,h4⟩
theorem dG {α : Type}{xs:List α}{j:Nat}{v:α} (h:xs[j]? = some v):Gk xs (j:Int)=some v:=by
 have hj:j < xs.length:=(List.getElem?_eq_some_iff.mp h).1
 have e:Nf xs.length (j:Int)=some j:=by
  unfold Nf
  rw [if_pos (by omega),if_pos (by omega)]; simp
 unfold Gk; rw [e]; exact h
def Lf (b:Expr):Prop:=∀ o i,subscripted b false o i=operate [o,i] (getItem o i)
def YH (X:Cx) (r:R2):Prop :=
 ∀ (value slice:Expr) (pins:List (Addr × Obj)) (s:Shared) (σ : St) (H:Hp) (x y:V) (v u:Value) (Q:VK),aY X pins σ H s->bL x v->bL y u->r x y H Q ->
  subscripted slice false v u=operate [v,u] (getItem v u)->wpAny (model X.prog X.w) X.A (subscriptTail value slice v u) (EP X pins σ Q) X.xe s
def MtR (X:Cx) (id:String) (r:V->List V->Hp->VK->Prop):Prop :=
 ∀ (pins:List (Addr × Obj)) (s:Shared) (σ : St) (H:Hp) (x:V) (xs:List V) (v:Value) (us:List Value) (Q:VK),aY X pins σ H s->bL x v->bI xs us->r x xs H Q ->
  wpAny (model X.prog X.w) X.A (call (.builtin id) (v :: us)) (EP X pins σ Q) X.xe s
section
variable {X:Cx}{a b:Expr}{ta tb:TE}{pos:Pos}
theorem bJ {r:R2} (hr:YH X r) (ha:PE X a ta) (hb:PE X b tb) (hs:Lf b):PE X (.Subscript a b pos) (YM r ta tb):=by
 intro pins s σ H Q I h
 exact Subscript_ (QF ha hb I h fun v u s2 x y H2 I2 rx ry q=>hr a b pins s2 σ H2 x y v u Q I2 rx ry q (hs _ _))
def Wj (K:PySem.W.Frag):R2:=fun x y H Q=>∃ p xs i v,x = .ref p /\ y = .int i /\ bM K H p xs /\ Gk xs i=some v /\ Q v H
def Ui (K:PySem.W.Frag):R2:=fun x y H Q=>∃ p xs i v,x = .ref p /\ y = .int i /\ bZ K H p xs /\ Gk xs i=some v /\ Q v H
theorem dF:YH X (Wj X.K):=by
 intro value slice pins s σ H x y v u Q I rx ry h hs
 obtain ⟨p,xs,i,z,rfl,rfl,hq,he,q⟩:=h
 cases rx
 obtain ⟨t,rfl⟩:=ry
 obtain ⟨its,r,pl,hz⟩:=I.list hq
 obtain ⟨j,h1,h2,h3,h4,h5⟩:=Fx he
 obtain ⟨w,ew,rw'⟩:=r.get h2
 have hl:=r.length
 have hn:=zL
 have fin:EP X pins σ Q w s:=⟨z,H,I,rw',q⟩
 by_cases h0:0 <= i
 ·have hj:i.toNat=j:=by
   rw [seqIndex_of h0 h5] at h1
   exact Option.some.inj h1
  exact item_listR pl.isList h0 (by omega) (by rw [hj]; simpa using ew) fin hs
 ·have hj:(i + (its.toArray.size:Int)).toNat=j:=by
   rw [seqIndex_neg (by omega) h4] at h1
   rw [List.size_toArray,<- hl]
   exact Option.some.inj h1
  exact subscriptTail_builtinR (x:=w) pl.isList.typeIs slot_list_getitem.lookup
   (wpAny_getItem_list_neg (Q:=fun r s'=>r=w /\ EP X pins σ Q r s') pl.isList (by omega) (by rw [List.size_toArray] <;> omega) (by omega) (by rw [hj]; simpa using ew) ⟨rfl,fin⟩) hs
theorem cO:YH X (Ui X.K):=by
 intro value slice pins s σ H x y v u Q I rx ry h hs
 obtain ⟨p,xs,i,z,rfl,rfl,hq,he,q⟩:=h
 cases rx
 obtain ⟨t,rfl⟩:=ry
 obtain ⟨its,r,pl,hz⟩:=I.tuple hq
 obtain ⟨j,h1,h2,h3,h4,h5⟩:=Fx he
 obtain ⟨w,ew,rw'⟩:=r.get h2
 have hl:=r.length
 have hn:=zL
 have fin:EP X pins σ Q w s:=⟨z,H,I,rw',q⟩
 exact subscriptTail_builtinR (x:=w) pl.typeIs slot_tuple_getitem.lookup
  (getItem_tuple (j:=j) (Q:=fun r s'=>r=w /\ EP X pins σ Q r s') pl (by omega) (by omega) (by rw [List.size_toArray,<- hl]; exact h1) (by simpa using ew) ⟨rfl,fin⟩) hs
theorem FW (its:List Value) (n j:Nat) (u:Value):Obj.mapSeq (·.setIfInBounds j u) { cls:=.type "list",data:=.seq its.toArray n } = { cls:=.type "list",data:=.seq (its.set j u).toArray n }:=by
 simp [Obj.mapSeq]
theorem aY.lst {pins:List (Addr × Obj)}{σ : St}{H:Hp}{s:Shared}{p:Addr}{xs:List V} (I:aY X pins σ H s) (h:H p=some (.lst xs)) :
  ∃ (its:List Value) (n:Nat),bI xs its /\ s.heap.get? p=some { cls:=.type "list",data:=.seq its.toArray n } /\ xs.length <= sizeLine:=by
 obtain ⟨z,its,n,r,e⟩:=I.hok p _ h
 exact ⟨its,n,r,e,z⟩
theorem aY.lstUpd {pins:List (Addr × Obj)}{σ : St}{H:Hp}{s:Shared}{p:Addr}{xs ys:List V}{its its':List Value}{n n':Nat}{f:Obj->Obj} (I:aY X pins σ H s) (h:H p=some (.lst xs))
  (ho:s.heap.get? p=some { cls:=.type "list",data:=.seq its.toArray n }) (hf:f { cls:=.type "list",data:=.seq its.toArray n } = { cls:=.type "list",data:=.seq its'.toArray n' }) (r:bI ys its') (hz:ys.length <= sizeLine) (t:Nat) :
  aY X pins σ (aU H p (.lst ys)) { s with heap:=s.heap.update p f,toks:=t }:=by
 have e:(s.heap.update p f).get? p=some { cls:=.type "list",data:=.seq its'.toArray n' }:=by
  rw [Heap.get?_update_self f ho (by rw [hf] <;> rfl),hf]
 refine I.write (x:=p) (e:=p) (by rw [h]; trivial) (.inl rfl) (fun b u hb q=>(Heap.get?_update_other _ _ (Ne.symm hb)).trans q) ⟨_,e⟩ ?_
 exact ⟨hz,its',n',r,e⟩
def Uk:V->V->V->Hp->(Hp->Prop)->Prop:=fun o i v H Q=>∃ p xs k j,o = .ref p /\ i = .int k /\ H p=some (.lst xs) /\ Nf xs.length k=some j /\ Q (aU H p (.lst (xs.set j v)))
theorem pR:W9 X Uk:=by
 intro pins s σ H o i v ov iv u Q I ro ri rv h
 obtain ⟨p,xs,k,j,rfl,rfl,hp,hj,q⟩:=h
 cases ro
 obtain ⟨t,rfl⟩:=ri
 obtain ⟨its,n,r,ho,hz⟩:=I.lst hp
 obtain ⟨h1,h2,h3,h4⟩:=Fi hj
 have hl:=r.length
 have hn:=zL
 have I':aY X pins σ (aU H p (.lst (xs.set j v))) { s with heap:=s.heap.update p (Obj.mapSeq (·.setIfInBounds j u)) } :=
  I.lstUpd hp ho (FW its n j u) (r.set rv j) (by rw [List.length_set]; exact hz) s.toks
 by_cases h0:0 <= k
 ·have hk:k.toNat=j:=by
   rw [seqIndex_of h0 h4] at h1
   exact Option.some.inj h1
  exact PySem.W.ki_setAt ho h0 (by omega) (by rw [List.size_toArray,<- hl]; exact h4) (by rw [hk]; exact ⟨_,I',q⟩)
 ·have hk:(k + (its.toArray.size:Int)).toNat=j:=by
   rw [seqIndex_neg (by omega) h3] at h1
   rw [List.size_toArray,<- hl]
   exact Option.some.inj h1
  exact PySem.W.ki_setBack ho (by omega) (by rw [List.size_toArray,<- hl]; exact h3) (by omega) (by rw [hk]; exact ⟨_,I',q⟩)
theorem yX (lo hi:Option Int) (n:Nat):(sliceBounds lo hi none n).1=((HT.gY n 0 lo:Nat):Int) /\ (sliceBounds lo hi none n).2.1=((HT.gY n n hi:Nat):Int) /\ (sliceBounds lo hi none n).2.2=1:=by
 refine ⟨?_,?_,rfl⟩
 ·cases lo with
  | none=>simp [sliceBounds,HT.gY]
  | some i =>
   simp only [sliceBounds,HT.gY,Option.getD_none,show (1:Int) > 0 by decide,if_true]
   by_cases h:i < 0
   ·simp only [h,if_true] <;> omega
   ·simp only [h,if_false] <;> omega
 ·cases hi with
  | none=>simp [sliceBounds,HT.gY]
  | some i =>
   simp only [sliceBounds,HT.gY,Option.getD_none,show (1:Int) > 0 by decide,if_true]
   by_cases h:i < 0
   ·simp only [h,if_true] <;> omega
   ·simp only [h,if_false] <;> omega
theorem wR (its:List Value) (lo hi:Option Int):slicePick its.toArray lo hi none=((its.drop (HT.gY its.length 0 lo)).take (HT.gY its.length its.length hi - HT.gY its.length 0 lo)).toArray:=by
 obtain ⟨h1,h2,h3⟩:=yX lo hi its.toArray.size
 unfold slicePick
 rw [h1,h2,h3]
 simp only [sliceRange_one,pick_run,List.size_toArray] <;> rfl
def Zu (K:PySem.W.Frag):V->Option Int->Option Int->Hp->VK->Prop:=fun x lo hi H Q=>∃ a xs,x = .ref a /\ bM K H a xs /\ ∀ p,H p=none->Q (.ref p) (aU H p (.lst (jC xs lo hi)))
theorem MT:Zd X (Zu X.K):=by
 intro pins s σ H x v vl vu lo hi sl Q I rx hs pl pu h
 obtain ⟨a,xs,rfl,hx,q⟩:=h
 cases rx
 obtain ⟨its,r,ht,hz⟩:=I.list hx
 have hlen:=r.length
 refine ⟨"list",_,slot_list_getitem.lookup,ht.isList.typeIs,?_⟩
 refine wpAny_getItem_list_slice ht.isList hs pl pu .none (by simp) ?_ (by rw [List.size_toArray] <;> omega)
 rw [wR,<- hlen]
 refine ⟨.ref s.heap.objs.size,_,I.laid (t':=s.toks) (o:=.lst (jC xs lo hi)) (fun b ob q=>Heap.get?_push_of_some _ q) (Nat.le_refl _) ?_,rfl,q _ (I.hok.fresh (Nat.le_refl _))⟩
 exact ⟨Nat.le_trans (rY xs lo hi) hz,_,0,(r.drop (HT.gY xs.length 0 lo)).take (HT.gY xs.length xs.length hi - HT.gY xs.length 0 lo),Heap.get?_push_size _ rfl⟩
def qG:V->Bool
 | .non=>true
 | .bl _=>true
 | .int _=>true
 | .str _=>true
 | _=>false
def Ny:V->V->Bool
 | .non,.non=>true
 | .bl a,.bl b=>a == b
 | .bl a,.int b=>(if a then 1 else 0) == b
 | .int a,.bl b=>a == (if b then 1 else 0)
 | .int a,.int b=>a == b
 | .str a,.str b=>a == b
 | _,_=>false
theorem Q6 {A:Around}{s:Shared}{y x:V}{u v:Value} (ry:bL y u) (rx:bL x v) (fy:qG y=true) (fx:qG x=true):SeqAt.EqAt A s u v (Ny y x):=by
 cases y with
 | non =>
  cases ry
  cases x with
  | non=>cases rx; exact SeqAt.EqAt.same _
  | bl b=>cases rx; exact SeqAt.EqAt.none_bool b
  | int b=>obtain ⟨t,rfl⟩:=rx; exact SeqAt.EqAt.none_int b t
  | str b=>obtain ⟨t,rfl⟩:=rx; exact SeqAt.EqAt.none_str b t
  | _=>exact absurd (show false=true from fx) Bool.false_ne_true
 | bl a =>
  cases ry
  cases x with
  | non=>cases rx; exact SeqAt.EqAt.bool_none a
  | bl b=>cases rx; exact SeqAt.EqAt.bool_bool a b
  | int b=>obtain ⟨t,rfl⟩:=rx; exact SeqAt.EqAt.bool_int a b t
  | str b=>obtain ⟨t,rfl⟩:=rx; exact SeqAt.EqAt.bool_str a b t
  | _=>exact absurd (show false=true from fx) Bool.false_ne_true
 | int a =>
  obtain ⟨t',rfl⟩:=ry
  cases x with
  | non=>cases rx; exact SeqAt.EqAt.int_none a t'
  | bl b=>cases rx; exact SeqAt.EqAt.int_bool a t' b
  | int b=>obtain ⟨t,rfl⟩:=rx; exact SeqAt.EqAt.int_int a t' b t
  | str b=>obtain ⟨t,rfl⟩:=rx; exact SeqAt.EqAt.int_str a t' b t
  | _=>exact absurd (show false=true from fx) Bool.false_ne_true
 | str a =>
  obtain ⟨t',rfl⟩:=ry
  cases x with
  | non=>cases rx; exact SeqAt.EqAt.str_none a t'
  | bl b=>cases rx; exact SeqAt.EqAt.str_bool a t' b
  | int b=>obtain ⟨t,rfl⟩:=rx; exact SeqAt.EqAt.str_int a t' b t
  | str b=>obtain ⟨t,rfl⟩:=rx; exact SeqAt.EqAt.str_str a t' b t
  | _=>exact absurd (show false=true from fx) Bool.false_ne_true
 | _=>exact absurd (show false=true from fy) Bool.false_ne_true
def Lz (x:V) (u:Value):Bool:=match u with
 | .none=>Ny .non x
 | .bool b=>Ny (.bl b) x
 | .int i _=>Ny (.int i) x
 | .str z _=>Ny (.str z) x
 | _=>false
theorem JR {x y:V}{u:Value} (r:bL y u) (f:qG y=true):Lz x u=Ny y x:=by
 cases y with
 | non=>cases r; rfl
 | bl b=>cases r; rfl
 | int i=>obtain ⟨t,rfl⟩:=r; rfl
 | str z=>obtain ⟨t,rfl⟩:=r; rfl
 | _=>exact absurd (show false=true from f) Bool.false_ne_true
theorem Ak {x:V}:∀ {xs:List V}{us:List Value},bI xs us->xs.all qG=true->us.any (Lz x)=xs.any fun y=>Ny y x
 | _,_,.nil,_=>rfl
 | y :: xs,u :: us,.cons r t,f=>by
  rw [List.all_cons,Bool.and_eq_true] at f
  rw [List.any_cons,List.any_cons,JR r f.1,Ak t f.2]
theorem u5 {A:Around}{s:Shared}{x:V}{v:Value} (rx:bL x v) (fx:qG x=true):∀ {xs:List V}{us:List Value},bI xs us->xs.all qG=true->∀ u ∈ us,SeqAt.EqAt A s u v (Lz x u)
 | _,_,.nil,_=>fun u hu=>by cases hu
 | y :: xs,u :: us,.cons r t,f=>fun u' hu=>by
  rw [List.all_cons,Bool.and_eq_true] at f
  rcases List.mem_cons.mp hu with rfl | hu
  ·rw [JR r f.1]; exact Q6 r rx f.1 fx
  ·exact u5 rx fx t f.2 u' hu
def Yq (x:V) (xs:List V):Bool:=xs.any fun y=>Ny y x
def rIn (K:PySem.W.Frag) (neg:Bool):R2:=fun x y H Q=>∃ p xs,y = .ref p /\ (bM K H p xs ∨ bZ K H p xs) /\ qG x=true /\ xs.all qG=true /\ Q (.bl (if neg then !Yq x xs else Yq x xs)) H
theorem zV:nW X (compareOp .NotIn) (rIn X.K true):=by
 intro pins s σ H x y v u Q I rx ry h
 obtain ⟨p,xs,rfl,hq,fx,fs,q⟩:=h
 cases ry
 rcases hq with hq | hq
 ·obtain ⟨its,r,pl,hz⟩:=I.list hq
  refine SeqAt.notIn_listAt (Lz x) pl.isList (fun w hw=>u5 rx fx r fs w (by simpa using hw)) ⟨.bl _,H,I,rfl,?_⟩
  rw [show its.toArray.any (Lz x)=its.any (Lz x) by simp,Ak r fs]
  exact q
 ·obtain ⟨its,r,pl,hz⟩:=I.tuple hq
  refine SeqAt.notIn_tupleAt (Lz x) pl (fun w hw=>u5 rx fx r fs w (by simpa using hw)) ⟨.bl _,H,I,rfl,?_⟩
  rw [show its.toArray.any (Lz x)=its.any (Lz x) by simp,Ak r fs]
  exact q
theorem cI:gM X (.builtin "len") (fun xs H Q=>∃ p ys,xs=[.ref p] /\ (bM X.K H p ys ∨ bZ X.K H p ys) /\ Q (.int ys.length) H):=by
 intro pins s σ H xs us Q I r h
 obtain ⟨p,ys,rfl,hq,q⟩:=h
 obtain ⟨u,rfl,rx⟩:=j4 r
 cases rx
 have hn:=zL
 rcases hq with hq | hq
 ·obtain ⟨its,r',pl,hz⟩:=I.list hq
  have hlen:=r'.length
  exact Calls.call_len_list pl.isList (by simp only [List.size_toArray] <;> omega) ⟨.int ys.length,H,I.tok _,⟨s.toks + 1,by rw [List.size_toArray,hlen]⟩,q⟩
 ·obtain ⟨its,r',pl,hz⟩:=I.tuple hq
  have hlen:=r'.length
  exact len_tuple pl (by simp only [List.size_toArray] <;> omega) ⟨.int ys.length,H,I.tok _,⟨s.toks + 1,by rw [List.size_toArray,hlen]⟩,q⟩
theorem gA:gM X (.type "list") (fun xs H Q=>∃ p ys,xs=[.ref p] /\ (bM X.K H p ys ∨ bZ X.K H p ys) /\ ∀ l,H l=none->Q (.ref l) (aU H l (.lst ys))):=by
 intro pins s σ H xs us Q I r h
 obtain ⟨p,ys,rfl,hq,q⟩:=h
 obtain ⟨u,rfl,rx⟩:=j4 r
 cases rx
 have fin:∀ (its:List Value),bI ys its->ys.length <= sizeLine->∀ (h':Heap) (c':Nat),(∀ b o',s.heap.get? b=some o'->h'.get? b=some o') ->
   h'.get? s.heap.objs.size=some { cls:=.type "list",dict:=none,data:=.seq its.toArray c',slots:=#[] }->EP X pins σ Q (.ref s.heap.objs.size) { s with heap:=h' }:=fun its r' hz h' c' kp e =>
  ⟨.ref s.heap.objs.size,_,I.laid (t':=s.toks) kp (Nat.le_refl _) (show dO X.prog X.w _ h' _ (.lst ys) from ⟨hz,its,c',r',e⟩),rfl,q _ (I.hok.fresh (Nat.le_refl _))⟩
 rcases hq with hq | hq
 ·obtain ⟨its,r',pl,hz⟩:=I.list hq
  have hlen:=r'.length
  obtain ⟨o,ho,hc,n,hd⟩:=pl.isList
  exact call_list_seq p (.inl rfl) ho hc hd (fun h' c' kp e=>fin its r' hz h' c' kp e) (by simp only [List.size_toArray] <;> omega)
 ·obtain ⟨its,r',pl,hz⟩:=I.tuple hq
  have hlen:=r'.length
  obtain ⟨o,ho,hc,n,hd⟩:=pl
  exact call_list_seq p (.inr rfl) ho hc hd (fun h' c' kp e=>fin its r' hz h' c' kp e) (by simp only [List.size_toArray] <;> omega)
theorem wL:gM X (.type "tuple") (fun xs H Q=>∃ p ys,xs=[.ref p] /\ ((bM X.K H p ys /\ ∀ l,H l=none->Q (.ref l) (aU H l (.tup ys))) ∨ (bZ X.K H p ys /\ Q (.ref p) H))):=by
 intro pins s σ H xs us Q I r h
 obtain ⟨p,ys,rfl,h⟩:=h
 obtain ⟨u,rfl,rx⟩:=j4 r
 cases rx
 rcases h with ⟨hq,q⟩ | ⟨hq,q⟩
 ·obtain ⟨its,r',pl,hz⟩:=I.list hq
  have hlen:=r'.length
  refine call_tuple_list pl.isList (fun h' kp=>?_) (by simp only [List.size_toArray] <;> omega)
  have I1:aY X pins σ H { s with heap:=h' }:=I.kept (t':=s.toks) kp
  have I2:aY X pins σ (aU H h'.objs.size (.tup ys)) { s with heap:=h'.push { cls:=.type "tuple",data:=.seq its.toArray } } :=
   I1.laid (t':=s.toks) (fun b o e=>Heap.get?_push_of_some _ e) (Nat.le_refl _) (show dO X.prog X.w _ _ _ (.tup ys) from ⟨hz,its,r',IsTup.new _ _⟩)
  exact ⟨.ref h'.objs.size,_,I2,rfl,q _ (I1.hok.fresh (Nat.le_refl _))⟩
 ·obtain ⟨its,r',pl,hz⟩:=I.tuple hq
  exact call_tuple_same pl ⟨.ref p,H,I,rfl,q⟩
def Zz (K:PySem.W.Frag) (T:String) (x:V) (H:Hp):Prop:=match x with
 | .str _=>T = "str"
 | .int _=>T = "int"
 | .ref p=>(T = "list" /\ ∃ xs,bM K H p xs) ∨ (T = "tuple" /\ ∃ o,K.lookup p=some o /\ o.cls = .type "tuple" /\ o.dict=none) ∨
   (T = "dict" /\ ((∃ kvs,H p=some (.dK kvs)) ∨ ∃ kvs,H p=some (.dT kvs))) ∨ (T = "set" /\ ∃ S n,H p=some (.set S n))
 | _=>False
theorem Kd {pins:List (Addr × Obj)}{σ : St}{H:Hp}{s:Shared}{T:String}{x:V}{v:Value} (I:aY X pins σ H s) (r:bL x v) (ty:Zz X.K T x H) :
  s.TypeIs v T /\ ∀ a,v = .ref a->∃ ob,s.heap.get? a=some ob /\ ob.dict=none:=by
 cases x with
 | str z =>
  obtain ⟨t,rfl⟩:=r
  cases (show T = "str" from ty)
  exact ⟨typeIs_str s z t,fun _ e=>nomatch e⟩
 | int i =>
  obtain ⟨t,rfl⟩:=r
  cases (show T = "int" from ty)
  exact ⟨typeIs_int s i t,fun _ e=>nomatch e⟩
 | ref p =>
  cases r
  rcases ty with ⟨rfl,xs,hq⟩ | ⟨rfl,o,hk,hc,hd⟩ | ⟨rfl,hk⟩ | ⟨rfl,S,n,hk⟩
  ·obtain ⟨its,_,pl,_⟩:=I.list hq
   refine ⟨pl.isList.typeIs,fun a e=>?_⟩
   cases e
   obtain ⟨o,n,e,c,hd,_⟩:=pl
   exact ⟨o,e,hd⟩
  ·refine ⟨⟨o,I.kIn p o hk,hc⟩,fun a e=>?_⟩
   cases e
   exact ⟨o,I.kIn _ o hk,hd⟩
  ·have z:∃ o,s.heap.get? p=some o /\ o.ExactDict:=by
    rcases hk with ⟨kvs,hk⟩ | ⟨kvs,hk⟩
    ·obtain ⟨_,_,_,_,o,_,_,e,ex,_⟩:=I.hok p _ hk
     exact ⟨o,e,ex⟩
    ·obtain ⟨_,_,_,_,o,_,_,e,ex,_⟩:=I.hok p _ hk
     exact ⟨o,e,ex⟩
   obtain ⟨o,e,ex⟩:=z
   refine ⟨⟨o,e,ex.1⟩,fun a e2=>?_⟩
   cases e2
   exact ⟨o,e,ex.2.1⟩
  ·obtain ⟨o,_,_,_,e,ex,_⟩:=I.hok p _ hk
   refine ⟨⟨o,e,ex.1⟩,fun a e2=>?_⟩
   cases e2
   exact ⟨o,e,ex.2.1⟩
 | _=>exact False.elim ty
def Zh (K:PySem.W.Frag) (T:String) (r:V->List V->Hp->VK->Prop) (to:TE):TE:=fun σ H Q=>to σ H fun x H1=>Zz K T x H1 /\ r x [] H1 Q
def tBM (K:PySem.W.Frag) (T:String) (r:V->List V->Hp->VK->Prop) (to:TE) (t:TA):TE:=fun σ H Q=>to σ H fun x H1=>Zz K T x H1 /\ t σ H1 fun xs H2=>r x xs H2 Q
variable {o e:Expr}{es:List Expr}{to:TE}{t:TA}{name:Str}{apos cpos:Pos}{T id:String}{r:V->List V->Hp->VK->Prop}
theorem QH (pa:PlainAttrs T) (slot:Slot T name id) (hty:typeOf (.builtin id)=pure (.type "method_descriptor")) (hm:MtR X id r) (ho:PE X o to)
  (hbase:attributeBase o name X.env (eval o X.env)=eval o X.env:=by rfl) (hline:(apos.endLine == cpos.line)=true:=by rfl):PE X (.Call (.Attribute o name apos) [] [] cpos) (Zh X.K T r to):=by
 intro pins s σ H Q I h
 refine wpAny_Call_method0_late hbase hline (eN (ho pins s σ H _ I h) fun v s1 ⟨x,H1,I1,r1,ty,q1⟩=>?_)
 obtain ⟨h1,h2⟩:=Kd I1 r1 ty
 exact ⟨T,id,pa,slot,hty,h1,h2,Calls.callWith_builtin rfl (PySem.evalArgs_none (hm pins s1 σ H1 x [] v [] Q I1 r1 .nil q1))⟩
theorem lV (pa:PlainAttrs T) (slot:Slot T name id) (hty:typeOf (.builtin id)=pure (.type "method_descriptor")) (hm:MtR X id r) (ho:PE X o to) (ha:PA X (e :: es) t)
  (hbase:attributeBase o name X.env (eval o X.env)=eval o X.env:=by rfl)
  (hfew:((backTo cpos (starEach (e :: es) X.env)).all (fun x=>!x.1) && (backToKw cpos (keywordEach [] X.env)).all (fun x=>x.1.isSome)
   && decide ((e :: es).length + ([]:List Keyword).length + (if ([]:List Keyword).isEmpty then 0 else 1) < 30))=true:=by rfl)
  (hline:(apos.endLine == cpos.line)=true:=by rfl) (hs:starEach (e :: es) X.env=(false,eval e X.env) :: starEach es X.env:=by rfl) (hplain:(backTo cpos (starEach es X.env)).any (·.1)=false:=by rfl) :
  PE X (.Call (.Attribute o name apos) (e :: es) [] cpos) (tBM X.K T r to t):=by
 intro pins s σ H Q I h
 refine wpAny_Call_method_late hbase hfew hline rfl (eN (ho pins s σ H _ I h) fun v s1 ⟨x,H1,I1,r1,ty,q1⟩=>?_)
 obtain ⟨h1,h2⟩:=Kd I1 r1 ty
 refine ⟨T,id,pa,slot,hty,h1,h2,?_⟩
 have hA:=ha cpos pins s1 σ H1 _ I1 q1
 rw [hs] at hA ⊢
 refine Calls.callWith_builtin (by show (false || (backTo cpos (starEach es X.env)).any (·.1))=false; rw [hplain] <;> rfl) (Calls.evalArgs_plain ?_)
 exact eN hA fun us s2 ⟨vs,H2,I2,r2,q2⟩=>hm pins s2 σ H2 x vs v us Q I2 r1 r2 q2
end
end L2
namespace L2
open PySem PySem.Spec PyProof.Rows
def Yn (X:Cx) (id:String) (r:V->List V->Hp->VK->Prop):Prop :=
 ∀ (pins:List (Addr × Obj)) (s:Shared) (σ : St) (H:Hp) (x:V) (xs:List V) (v:Value) (us:List Value) (Q:VK),aY X pins σ H s->bL x v->bI xs us->r x xs H Q ->
  wpAny (model X.prog X.w) X.A (call (.builtin id) (v :: us)) (EP X pins σ Q) X.xe s
theorem bI.one:∀ {x:V}{us:List Value},bI [x] us->∃ u,us=[u] /\ bL x u
 | _,_,.cons r .nil=>⟨_,rfl,r⟩
theorem bI.two:∀ {x y:V}{us:List Value},bI [x,y] us->∃ u v,us=[u,v] /\ bL x u /\ bL y v
 | _,_,_,.cons r (.cons q .nil)=>⟨_,_,rfl,r,q⟩
theorem bI.zero:∀ {us:List Value},bI [] us->us=[]
 | _,.nil=>rfl
theorem bI.reverse {xs:List V}{us:List Value} (h:bI xs us):bI xs.reverse us.reverse:=by
 induction h with
 | nil=>exact .nil
 | cons r t ih=>rw [List.reverse_cons,List.reverse_cons]; exact bI.append ih (.cons r .nil)
section
variable {X:Cx}{pins:List (Addr × Obj)}{σ : St}{H:Hp}{s:Shared}{l b:Addr}{xs ys zs:List V}
theorem aY.lset {its its':List Value}{n:Nat}{f:Array Value->Array Value}{t':Nat} (I:aY X pins σ H s) (hH:H l=some (.lst xs))
  (e:s.heap.get? l=some { cls:=.type "list",data:=.seq its.toArray n }) (hf:f its.toArray=its'.toArray) (hv:bI ys its') (hz:ys.length <= sizeLine) :
  aY X pins σ (aU H l (.lst ys)) { s with heap:=s.heap.update l (Obj.mapSeq f),toks:=t' }:=by
 have q:=PySem.IsL.update e f
 rw [hf] at q
 refine I.write (x:=l) (e:=l) (by rw [hH]; exact trivial) (.inl rfl) (fun b' u hb hu=>(Heap.get?_update_other s.heap (Obj.mapSeq f) (Ne.symm hb)).trans hu) ⟨_,q⟩ ?_
 exact ⟨hz,its',_,hv,q⟩
theorem aY.fresh (I:aY X pins σ H s):H s.heap.objs.size=none:=I.hok.fresh (Nat.le_refl _)
theorem aY.lstM (I:aY X pins σ H s) (hH:H l=some (.lst xs)):xs.length <= sizeLine /\ ∃ (its:List Value) (n:Nat),bI xs its /\ xs.length=its.length /\ s.heap.get? l=some { cls:=.type "list",data:=.seq its.toArray n }:=by
 obtain ⟨z,its,n,r,e⟩:=I.hok l _ hH
 exact ⟨z,its,n,r,r.length,e⟩
theorem Je {n:Nat} (h:n <= sizeLine):Builtin.List.listTooLong n=false:=by
 unfold Builtin.List.listTooLong
 exact decide_eq_false (by omega)
end
section
variable {X:Cx}
def NZ:V->List V->Hp->VK->Prop:=fun x vs H Q=>∃ l xs y,x = .ref l /\ vs=[y] /\ H l=some (.lst xs) /\ xs.length < sizeLine /\ Q .non (aU H l (.lst (xs ++ [y])))
theorem fC:Yn X "list.append" NZ:=by
 intro pins s σ H x vs v us Q I rx rv h
 obtain ⟨l,xs,y,rfl,rfl,hH,hz,q⟩:=h
 cases rx
 obtain ⟨u,rfl,ru⟩:=rv.one
 obtain ⟨z,its,n,r,hl,e⟩:=I.lstM hH
 refine call_meets F.slot_list_append ⟨_,e,rfl⟩ F.entry_list_append (F.args_list_append_2 _ _) (PySem.list_append l its.toArray n u (by rw [List.size_toArray]; omega)) ⟨e,?_⟩
 refine ⟨.non,_,I.lset (its':=its ++ [u]) hH e (by simp) (r.append (.cons ru .nil)) ?_,rfl,q⟩
 rw [List.length_append,List.length_singleton]
 omega
def Ma:V->List V->Hp->VK->Prop:=fun x vs H Q=>∃ l b xs zs,x = .ref l /\ vs=[.ref b] /\ H l=some (.lst xs) /\ H b=some (.lst zs) /\ xs.length + zs.length <= sizeLine /\ Q .non (aU H l (.lst (xs ++ zs)))
theorem Hg:Yn X "list.extend" Ma:=by
 intro pins s σ H x vs v us Q I rx rv h
 obtain ⟨l,b,xs,zs,rfl,rfl,hH,hB,hz,q⟩:=h
 cases rx
 obtain ⟨u,rfl,ru⟩:=rv.one
 cases ru
 obtain ⟨z,its,n,r,hl,e⟩:=I.lstM hH
 obtain ⟨z2,its2,n2,r2,hl2,e2⟩:=I.lstM hB
 have hsz:its.toArray.size + its2.toArray.size <= sizeLine:=by rw [List.size_toArray,List.size_toArray]; omega
 have hlong:¬ (!its.toArray.isEmpty && Builtin.List.listTooLong (its.toArray.size + its2.toArray.size))=true:=by
  rw [Je hsz,Bool.and_false]
  exact Bool.false_ne_true
 refine call_meets F.slot_list_extend ⟨_,e,rfl⟩ F.entry_list_extend (F.args_list_extend_2 _ _)
  (AutoSeq1.list_extend_list_list_0 l its.toArray n b its2.toArray n2 hlong (by rw [List.size_toArray]; omega) (by omega)) ⟨e,e2,?_⟩
 refine ⟨.non,_,I.lset (its':=its ++ its2) hH e (by simp) (r.append r2) ?_,rfl,q⟩
 rw [List.length_append]
 omega
def Qj:V->List V->Hp->VK->Prop:=fun x vs H Q=>∃ l xs,x = .ref l /\ vs=[] /\ H l=some (.lst xs) /\ Q .non (aU H l (.lst []))
theorem Jj:Yn X "list.clear" Qj:=by
 intro pins s σ H x vs v us Q I rx rv h
 obtain ⟨l,xs,rfl,rfl,hH,q⟩:=h
 cases rx
 have hus:=rv.zero
 subst hus
 obtain ⟨z,its,n,r,hl,e⟩:=I.lstM hH
 refine call_meets F.slot_list_clear ⟨_,e,rfl⟩ F.entry_list_clear (F.args_list_clear_1 _) (AutoSeq1.list_clear_list_0 l its.toArray n (by rw [List.size_toArray]; omega)) ⟨e,?_⟩
 exact ⟨.non,_,I.lset (its':=[]) (ys:=[]) hH e rfl .nil (Nat.zero_le _),rfl,q⟩
end
section
variable {prog:Program}{w:World}{A:Around}{E:Value->Shared->Prop}{s:Shared}
end
section
variable {X:Cx}
end
end L2
namespace Att
open PySem PySem.W PySem.Calls PyProof.Rows
theorem sH {P:Params}{h:Heap}:∀ (ns:List Int) (vs:List Value),WellAll P h vs (ns.map WData.int)->IntsAre vs ns:=by
 intro ns
 induction ns with
 | nil =>
  intro vs w
  rw [List.map_nil] at w
  cases w
  exact .nil
 | cons n ns ih =>
  intro vs w
  rw [List.map_cons] at w
  cases w with
  | cons a b =>
   cases a
   exact .cons _ _ (ih _ b)
theorem Ih {l:OpenLaw}{n:Nat} (hn:l.most=some n) {P:Params}{h:Heap}{args:List WData}{vals:List Value}
  (hpre:l.row.toRowW.claim.pre args=true) (hwl:WellAll P h vals args) :
  ∃ a vs ns,vals=[Value.ref a] /\ args=[WData.list (ns.map WData.int)] /\ h.get? a=some { cls:=.type "list",data:=.seq vs.toArray } /\ IntsAre vs ns /\ ns.length <= n:=by
 have hsh:WShape.hasAll [] args [.list .int]=true:=(pre_splitW hpre).1
 have hc:l.pre.holds [] { args:=args } = true:=(pre_splitW hpre).2
 obtain ⟨d,r,rfl,h1,h2⟩:=hasAllW_cons hsh
 obtain rfl:=hasAllW_nil h2
 obtain ⟨xs,rfl,h3⟩:=hasW_list h1
 obtain ⟨ns,rfl⟩:=items_int h3
 have hlen:ns.length <= n:=by
  unfold OpenLaw.pre at hc
  have h4:(WTm.not (.lt (.lit (.int (n:Int))) (.len (.arg 0)))).holds [] { args:=[.list (ns.map .int)] } = true:=by
   have h4:=(holds_andW hc).1
   rw [hn] at h4
   exact h4
  have h5:=condW_of h4 (w_not (w_lt w_lit (w_len_list (w_arg rfl))))
  rw [List.length_map] at h5
  refine Nat.le_of_not_lt fun q=>?_
  have q':(n:Int) < ((ns.length:Nat):Int):=by omega
  first
   | (rw [decide_eq_true q'] at h5; exact absurd h5 (by decide))
   | (simp at h5; omega)
 cases hwl with
 | cons w1 w2 =>
  cases w2
  cases w1 with
  | list ho hall=>exact ⟨_,_,ns,rfl,rfl,ho,sH ns _ hall,hlen⟩
theorem HJ (l:OpenLaw) (args:List WData):l.row.toRowW.claim.post args (.bool true) args=true :=
 postW_of (r:=l.row.toRowW) (X:=(true == true))
  (show WShape.has [] (.bool true) .bool=true by first | rfl | decide | simp [WShape.has,WShape.arms,WShape.armsAll])
  (show (WTm.eq .res (.lit (.bool true))).value [] { args:=args,res:=some (.bool true),after:=args } = some (.bool (true == true)) from w_eq_bool (w_res rfl) w_lit) rfl
theorem Ay {l:OpenLaw}{n:Nat}{q:Program}{loose:List Str}{XP:(Str->Option Value)->Heap->Prop}{YP:World->Heap->Prop}{d:DefRec}
  (hn:l.most=some n) (hdf:d.params.defaults=[])
  (call:∀ (w:World) (s₀ s₁ : Shared) (mg mb:Str->Option Value) (fa:Addr) (o:Obj) (pm cd doc:Value) (a:Addr) (vs:List Value) (ns:List Int),
   Ground q loose [] XP w s₀ mg mb s₁.heap->YP w s₁.heap ->
   s₁.heap.get? fa=some o->o.data = .func (docDef d.name d.params d.body d.scope pm cd doc)->s₁.heap.CodeRec cd d.name->mg d.name=some (.ref fa) ->
   s₁.heap.get? a=some { cls:=.type "list",data:=.seq vs.toArray }->IntsAre vs ns->ns.length <= n->s₁.gens = #[] ->
   codeAny (model l.prog w) callerA (.call (.ref fa) ⟨[.ref a],[]⟩) (fun r s'=>r = .ok (.ret (.bool true)) /\ OldK s₁.heap s'.heap /\ s'.os=s₁.os /\ AllBare s'.gens) s₁) :
  WalkO q loose XP YP l.row.toRowW d [] (fun f vs=>PySem.call f vs):=by
 intro w s₀ s₁ mg mb G Y fa o pm cd doc dV kV ho hd hcd hD hmg hg args vals as hpre hlay hrd hwl hlo
 obtain rfl:dV = .none:=Dflts.none hD hdf
 obtain rfl:kV = .none:=Dflts.noKw hD
 obtain ⟨a,vs,ns,rfl,rfl,hobj,hints,hlen⟩:=Ih hn hpre hwl
 refine enter_call (codeAny_mono (call w s₀ s₁ mg mb fa o pm cd doc a vs ns G Y ho (fd_plain hd) hcd hmg hobj hints hlen hg) fun r s' hq=>?_)
 obtain ⟨rfl,h2,h3,h4⟩:=hq
 exact ⟨.inl ⟨.bool true,.bool true,[],rfl,fun _=>rfl,.bool true,HJ l _,fun _=>⟨List.Pairwise.nil,fun _ hm=>(nomatch hm)⟩⟩,h2,h3,h4⟩
section
variable {prog:Program}{w:World}{A:Around}{E:Value->Shared->Prop}{s:Shared}{K:Frag}
end
end Att
namespace L2
open PySem PySem.Spec PyProof.Rows
theorem qU:∀ {vs:List Value}{ns:List Int},IntsAre vs ns->bI (ns.map V.int) vs
 | _,_,.nil=>.nil
 | _,_,.cons n t h=>.cons ⟨t,rfl⟩ (qU h)
end L2
namespace L2
open PySem PySem.Spec PyProof.Rows
end L2
namespace L2
open PySem PySem.Spec PyProof.Rows
def aF (s:Stmt) (j:Nat):Stmt:=match s with
 | .ClassDef _ _ _ body _ _ _ _ _ _ _=>body.getD j (.Pass ⟨0,0,0,0⟩)
 | _=>.Pass ⟨0,0,0,0⟩
def iR (s:Stmt):Arguments:=match s with
 | .FunctionDef _ a _ _ _ _ _ _ _ _=>a
 | _=>{ posonlyargs:=[],args:=[],vararg:=none,kwonlyargs:=[],kw_defaults:=[],kwarg:=none,defaults:=[] }
def fX (s:Stmt):List Stmt:=match s with
 | .FunctionDef _ _ b _ _ _ _ _ _ _=>b
 | _=>[]
def aK (s:Stmt):Scope:=match s with
 | .FunctionDef _ _ _ _ _ _ sc _ _ _=>sc
 | _=>{ kind:=.function,names:=[],isGenerator:=false,isCoroutine:=false }
abbrev eG:Ab:=fun _ _ _ _ _ _=>False
abbrev E0:XK:=fun _ _ _=>False
theorem c7 {X:Cx}:jP eG X E0:=fun _ _ _ _ _ _ _ h=>h.elim
structure eX (K:PySem.W.Frag) (x qual:Str) (st:Stmt) (f:Addr) (fd:FuncData):Prop where
 ex:∃ (oc:Value) (od:Option Addr) (kV doc pm:Value) (an:Option Addr) (cdv ct:Value) (osl:Array (Option Value)),
  fd=PySem.W.fnOf x qual (iR st) (fX st) (aK st) .none kV doc pm an cdv ct /\ K.lookup f=some ⟨oc,od,.func fd,osl⟩ /\ PySem.W.codeIn K cdv qual=true
 kp:PySem.W.keepIn K (.ref f)=true
section
variable {P:Program}{w:World}{K:PySem.W.Frag}{mg:Str->Option Value}{base:Heap}
theorem eX.ok {x qual:Str}{st:Stmt}{f:Addr}{fd:FuncData}{N ps:List Str}{k:Nat}{sp:Sp} (F:eX K x qual st f fd) (S:aP N ps (aK st)) (len:∀ vs H Q E,sp vs H Q E->vs.length=ps.length)
  (hbody:∀ (cdv:Value) (A:Around) (outer:List Env) (s:Shared) (H:Hp) (vs:List V) (Q:VK) (E:XK),eV k (A.deeper (envOfC qual (aK st) s.heap.objs.size f cdv))->sp vs H Q E ->
   ∃ t,sJ (vO eG P w K mg base N qual (aK st) f cdv A outer s H E).nox (fX st) t /\ t { nx:=fun _ H'=>Q .non H',rt:=Q } (start N vs) H):aV P w K mg base eG (k + 1) f fd ps sp:=by
 obtain ⟨oc,od,kV,doc,pm,an,cdv,ct,osl,rfl,lk,hcd⟩:=F.ex
 refine GQ lk hcd S len fun A outer s H vs Q E hr hsp=>?_
 obtain ⟨t,h,q⟩:=hbody cdv A outer s H vs Q E hr hsp
 exact ⟨t,h.nox,q⟩
theorem eX.binds {x qual:Str}{st:Stmt}{f:Addr}{fd:FuncData}{ps:List Str} (F:eX K x qual st f fd)
  (h:∀ (kV doc pm:Value) (an:Option Addr) (cdv ct:Value) (us:List Value),us.length=ps.length->bindArgs (PySem.W.fnOf x qual (iR st) (fX st) (aK st) .none kV doc pm an cdv ct) ⟨us,[]⟩ = pure (ps.zip us)):bB K fd ps []:=by
 obtain ⟨oc,od,kV,doc,pm,an,cdv,ct,osl,rfl,lk,hcd⟩:=F.ex
 exact .all (h kV doc pm an cdv ct)
theorem Jz {x qual:Str}{st:Stmt}{f:Addr}{oc:Value}{od an:Option Addr}{osl:Array (Option Value)}{kV doc pm cdv ct:Value} (l:K.lookup f=some ⟨oc,od,.func (PySem.W.fnOf x qual (iR st) (fX st) (aK st) .none kV doc pm an cdv ct),osl⟩)
  (c:PySem.W.codeIn K cdv qual=true) (k:PySem.W.keepIn K (.ref f)=true):eX K x qual st f (PySem.W.fnOf x qual (iR st) (fX st) (aK st) .none kV doc pm an cdv ct):=⟨⟨oc,od,kV,doc,pm,an,cdv,ct,osl,rfl,l,c⟩,k⟩
end
theorem uI {A:Around}{k:Nat} (hr:eV k A):A.units + 1 < cLine:=Nat.lt_of_le_of_lt (Nat.add_le_add_left (by decide:1 <= 64) _) hr.units
theorem aQ {n:Nat} (h:n <= 1000):n < sizeLine:=Nat.lt_of_le_of_lt h (by decide)
section
variable {X:Cx}
theorem pv (i:Nat) {x:Str}{pos:Pos} (hN:X.N[i]? = some x:=by rfl) (hv:Yo X.env.scope x:=by first | exact Or.inl rfl | exact Or.inr (Or.inl rfl) | exact Or.inr (Or.inr rfl)) (hd:(x == ("__debug__" : Str))=false:=by decide)
  (hcd:(x == ("__classdict__" : Str))=false:=by decide):PE X (.Name x pos) (Hb i):=Jl hN hv hd hcd
end
theorem fH {A B:Prop} (h:B):if false=true then A else B:=by
 rw [if_neg Bool.false_ne_true]
 exact h
theorem iI {A B:Prop} (h:A):if true=true then A else B:=by
 rw [if_pos rfl]
 exact h
theorem Ag {c A B:Prop} [Decidable c] (h1:c->A) (h2:¬ c->B):if c then A else B:=by
 by_cases h:c
 ·rw [if_pos h]
  exact h1 h
 ·rw [if_neg h]
  exact h2 h
def aM (H H':Hp):Prop:=∀ b o,H b=some o->H' b=some o
theorem aM.refl (H:Hp):aM H H:=fun _ _ h=>h
theorem aM.trans {H H1 H2:Hp} (a:aM H H1) (b:aM H1 H2):aM H H2:=fun c o h=>b c o (a c o h)
theorem aM.free {H H':Hp} (e:aM H H') {l:Addr} (h:H' l=Option.none):H l=Option.none:=by
 cases q:H l with
 | none=>rfl
 | some o =>
  rw [e l o q] at h
  cases h
theorem aM.seq {K:PySem.W.Frag}{H H':Hp}{a:Addr}{xs:List V} (e:aM H H') (h:bM K H a xs):bM K H' a xs:=by
 rcases h with (h | ⟨o,h⟩) | h
 ·exact .inl (.inl (e _ _ h))
 ·exact .inl (.inr ⟨o,e _ _ h⟩)
 ·exact .inr h
end L2
namespace L2
open PySem PySem.Spec PyProof.Rows
section
variable {κ : Type} [DecidableEq κ]
def lL (kvs:List (κ × V)) (k:κ):Option V:=(kvs.find? fun kv=>decide (kv.1=k)).map (·.2)
def jB (kvs:List (κ × V)) (k:κ) (v:V):List (κ × V) :=
 if (kvs.any fun kv=>decide (kv.1=k))=true then kvs.map (fun kv=>if kv.1=k then (kv.1,v) else kv) else kvs ++ [(k,v)]
def Om (kvs:List (κ × V)) (k:κ):List (κ × V):=kvs.filter fun kv=>decide (kv.1 ≠ k)
theorem uU {p:κ × V}{r:List (κ × V)}{k:κ} (e:p.1=k):lL (p :: r) k=some p.2:=by simp [lL,List.find?_cons,e]
theorem u6 {p:κ × V}{r:List (κ × V)}{k:κ} (e:¬ p.1=k):lL (p :: r) k=lL r k:=by simp [lL,List.find?_cons,e]
theorem uR (k:κ):∀ kvs:List (κ × V),(kvs.any fun kv=>decide (kv.1=k))=(lL kvs k).isSome
 | []=>rfl
 | p :: r=>by
  rw [List.any_cons]
  by_cases e:p.1=k
  ·simp only [uU e,decide_eq_true e,Bool.true_or,Option.isSome_some]
  ·rw [u6 e,decide_eq_false e,Bool.false_or]; exact uR k r
theorem j7 (kvs:List (κ × V)) (k:κ) (v:V):(jB kvs k v).length <= kvs.length + 1:=by
 unfold jB
 split
 ·rw [List.length_map]; omega
 ·rw [List.length_append,List.length_cons,List.length_nil]; omega
theorem mJ.isSome_eq {o:Option V}{u:Option Value} (r:mJ o u):o.isSome=u.isSome:=by
 cases o with
 | none=>cases u with
  | none=>rfl
  | some _=>exact (show False from r).elim
 | some _=>cases u with
  | none=>exact (show False from r).elim
  | some _=>rfl
theorem mJ.getD {o:Option V}{u:Option Value}{d:V}{d':Value} (r:mJ o u) (rd:bL d d'):bL (o.getD d) (u.getD d'):=by
 cases o with
 | none=>cases u with
  | none=>exact rd
  | some _=>exact (show False from r).elim
 | some _=>cases u with
  | none=>exact (show False from r).elim
  | some _=>exact r
theorem KV.val {kvs:List (κ × V)}{vs:List (κ × Value)} (r:KV kvs vs) (k:κ):mJ (lL kvs k) (valueAt vs k):=by
 unfold KV at r
 induction r with
 | nil=>exact True.intro
 | @cons p q ps qs h t ih =>
  obtain ⟨h1,h2⟩:=h
  by_cases e:p.1=k
  ·have e':q.1=k:=h1.symm.trans e
   have b:valueAt (q :: qs) k=some q.2:=by simp [valueAt,List.find?_cons,e']
   rw [uU e,b]; exact h2
  ·have e':¬ q.1=k:=fun z=>e (h1.trans z)
   have b:valueAt (q :: qs) k=valueAt qs k:=by simp [valueAt,List.find?_cons,e']
   rw [u6 e,b]; exact ih
theorem KV.any {kvs:List (κ × V)}{vs:List (κ × Value)} (r:KV kvs vs) (k:κ):(kvs.any fun kv=>decide (kv.1=k))=vs.any fun kv=>decide (kv.1=k):=by
 unfold KV at r
 induction r with
 | nil=>rfl
 | cons h t ih=>rw [List.any_cons,List.any_cons,ih,h.1]
theorem KV.repl {kvs:List (κ × V)}{vs:List (κ × Value)} (r:KV kvs vs) (k:κ) {y:V}{u:Value} (ry:bL y u) :
  KV (kvs.map fun kv=>if kv.1=k then (kv.1,y) else kv) (vs.map fun kv=>if kv.1=k then (kv.1,u) else kv):=by
 unfold KV at r ⊢
 induction r with
 | nil=>exact .nil
 | @cons p q ps qs h t ih =>
  rw [List.map_cons,List.map_cons]
  refine .cons ?_ ih
  obtain ⟨h1,h2⟩:=h
  by_cases e:p.1=k
  ·rw [if_pos e,if_pos (h1.symm.trans e)]; exact ⟨h1,ry⟩
  ·rw [if_neg e,if_neg (fun z=>e (h1.trans z))]; exact ⟨h1,h2⟩
theorem KV.put {kvs:List (κ × V)}{vs:List (κ × Value)} (r:KV kvs vs) (k:κ) {y:V}{u:Value} (ry:bL y u):KV (jB kvs k y) (stored vs k u):=by
 unfold jB stored
 rw [r.any k]
 by_cases e:(vs.any fun kv=>decide (kv.1=k))=true
 ·rw [if_pos e,if_pos e]; exact r.repl k ry
 ·rw [if_neg e,if_neg e]; exact Paired.snoc r ⟨rfl,ry⟩
theorem KV.drop {kvs:List (κ × V)}{vs:List (κ × Value)} (r:KV kvs vs) (k:κ):KV (Om kvs k) (without vs k):=by
 unfold KV at r ⊢
 unfold Om without
 induction r with
 | nil=>exact .nil
 | @cons p q ps qs h t ih =>
  obtain ⟨h1,h2⟩:=h
  rw [List.filter_cons,List.filter_cons]
  by_cases e:p.1=k
  ·have a:¬ decide (p.1 ≠ k)=true:=by simp [e]
   have b:¬ decide (q.1 ≠ k)=true:=by simp [h1.symm.trans e]
   rw [if_neg a,if_neg b]; exact ih
  ·have e':¬ q.1=k:=fun z=>e (h1.trans z)
   have a:decide (p.1 ≠ k)=true:=by simp [e]
   have b:decide (q.1 ≠ k)=true:=by simp [e']
   rw [if_pos a,if_pos b]; exact .cons ⟨h1,h2⟩ ih
theorem KV.keys {kvs:List (κ × V)}{vs:List (κ × Value)} (r:KV kvs vs):kvs.map (·.1)=vs.map (·.1):=by
 unfold KV at r
 induction r with
 | nil=>rfl
 | cons h t ih=>rw [List.map_cons,List.map_cons,ih,h.1]
theorem KV.length {kvs:List (κ × V)}{vs:List (κ × Value)} (r:KV kvs vs):kvs.length=vs.length:=Paired.length r
end
theorem Ck {P:Program}{w:World}{k:cZ}{u:Value} (r:bL (kV k) u):(dZ P w).is k u=true:=by
 cases k with
 | inl i=>obtain ⟨t,e⟩:=(show ∃ t,u=Value.int i t from r); subst e; exact Cr P w i t
 | inr x=>obtain ⟨t,e⟩:=(show ∃ t,u=Value.str x t from r); subst e; exact Bd P w x t
theorem xR {P:Program}{w:World}:∀ {ks:List cZ}{us:List Value},bI (ks.map kV) us->ItemsAre (dZ P w) ks us
 | [],_,r=>by rw [List.map_nil] at r; cases r; exact .nil
 | k :: ks,_,r=>by
  rw [List.map_cons] at r
  cases r with
  | cons h t=>exact .cons (Ck h) (xR t)
abbrev KT (H:Hp):List (List cZ × V)->List (List cZ × Addr × Value)->Prop:=Paired fun p q=>p.1=q.1 /\ H q.2.1=some (.tup (p.1.map kV)) /\ bL p.2 q.2.2
theorem KT.val {H:Hp}{kvs:List (List cZ × V)}{xs:List (List cZ × Addr × Value)} (r:KT H kvs xs) (k:List cZ):mJ (lL kvs k) ((atKey xs k).map (·.2)):=by
 induction r with
 | nil=>exact True.intro
 | @cons p q ps qs h t ih =>
  obtain ⟨h1,_,h2⟩:=h
  by_cases e:p.1=k
  ·have e':q.1=k:=h1.symm.trans e
   have b:atKey (q :: qs) k=some q.2:=by simp [atKey,List.find?_cons,e']
   rw [uU e,b]; exact h2
  ·have e':¬ q.1=k:=fun z=>e (h1.trans z)
   have b:atKey (q :: qs) k=atKey qs k:=by simp [atKey,List.find?_cons,e']
   rw [u6 e,b]; exact ih
theorem KT.repl {H:Hp}{kvs:List (List cZ × V)}{xs:List (List cZ × Addr × Value)} (r:KT H kvs xs) (k:List cZ) {y:V}{u:Value} (ry:bL y u) :
  KT H (kvs.map fun kv=>if kv.1=k then (kv.1,y) else kv) (xs.map (putAt k u)):=by
 induction r with
 | nil=>exact .nil
 | @cons p q ps qs h t ih =>
  rw [List.map_cons,List.map_cons]
  refine .cons ?_ ih
  obtain ⟨h1,h2,h3⟩:=h
  unfold putAt
  by_cases e:p.1=k
  ·rw [if_pos e,if_pos (h1.symm.trans e)]; exact ⟨h1,h2,ry⟩
  ·rw [if_neg e,if_neg (fun z=>e (h1.trans z))]; exact ⟨h1,h2,h3⟩
theorem KT.put {H:Hp}{kvs:List (List cZ × V)}{xs:List (List cZ × Addr × Value)} (r:KT H kvs xs) (k:List cZ) {b:Addr}{y:V}{u:Value} (hb:H b=some (.tup (k.map kV))) (ry:bL y u) :
  KT H (jB kvs k y) (storedH xs k b u):=by
 have e:(kvs.any fun kv=>decide (kv.1=k))=(atKey xs k).isSome:=by
  rw [uR,(r.val k).isSome_eq,Option.isSome_map]
 unfold jB storedH
 rw [e]
 by_cases q:(atKey xs k).isSome=true
 ·rw [if_pos q,if_pos q]; exact r.repl k ry
 ·rw [if_neg q,if_neg q]; exact Paired.snoc r ⟨rfl,hb,ry⟩
theorem KT.keeps {H H':Hp}{kvs:List (List cZ × V)}{xs:List (List cZ × Addr × Value)} (r:KT H kvs xs) (ht:∀ b ys,H b=some (.tup ys)->H' b=some (.tup ys)):KT H' kvs xs :=
 Paired.mapP r fun _ _ z=>⟨z.1,ht _ _ z.2.1,z.2.2⟩
section
variable {P:Program}{w:World}{H:Hp}{h:Heap}{a:Addr}
theorem Oo {u:HO} (ok:nM P w H h) (e:Rd H a u):dO P w H h a u:=e.ok ok
theorem By {kvs:List (cZ × V)} (ok:nM P w H h) (e:Rd H a (.dK kvs)):kvs.length <= sizeLine /\ (a == sysModules)=false /\ ∃ vs,KV kvs vs /\ h.DictOf (dZ P w) a vs :=
 show dO P w H h a (.dK kvs) from Oo ok e
theorem J2 {kvs:List (cZ × V)} (ok:nM P w H h) (e:H a=some (.dK kvs)):kvs.length <= sizeLine /\ (a == sysModules)=false /\ ∃ vs,KV kvs vs /\ h.DictOf (dZ P w) a vs:=By ok (.inl e)
theorem Ac {ks:List cZ} (ok:nM P w H h) (e:H a=some (.tup (ks.map kV))):(tupleKind (dZ P w)).is h ks a:=by
 obtain ⟨_,its,r,o,h1,h2,n,h3⟩:=(show dO P w H h a (.tup (ks.map kV)) from ok a _ e)
 exact ⟨o,its.toArray,n,h1,h2,h3,by simpa using xR r⟩
theorem BK {kvs:List (List cZ × V)} (ok:nM P w H h) (e:Rd H a (.dT kvs)):kvs.length <= sizeLine /\ (a == sysModules)=false ∧
  ∃ xs,KT H kvs xs /\ h.DictOfH (tupleKind (dZ P w)) a xs:=by
 obtain ⟨z,y,xs,r,o,es,ep,h1,h2,h3,h4,h5⟩:=(show dO P w H h a (.dT kvs) from Oo ok e)
 refine ⟨z,y,xs,r,o,es,ep,h1,h2,h3,h4,fun x hx=>?_,h5⟩
 have all:∀ {l:List (List cZ × V)}{m:List (List cZ × Addr × Value)},KT H l m->∀ x ∈ m,(tupleKind (dZ P w)).is h x.1 x.2.1:=by
  intro l m q
  induction q with
  | nil=>intro x hx; exact nomatch hx
  | @cons p q ps qs hq t ih =>
   intro x hx
   rcases List.mem_cons.mp hx with e | hx
   ·subst e
    exact Ac ok (by rw [<- hq.1]; exact hq.2.1)
   ·exact ih x hx
 exact all r x hx
theorem Sx {kvs:List (List cZ × V)} (ok:nM P w H h) (e:H a=some (.dT kvs)):kvs.length <= sizeLine /\ (a == sysModules)=false ∧
  ∃ xs,KT H kvs xs /\ h.DictOfH (tupleKind (dZ P w)) a xs:=BK ok (.inl e)
end
def gB (H:Hp) (a:Addr) (y:V) (r:Option V):Prop :=
 (∃ kvs k,Rd H a (.dK kvs) /\ y=kV k /\ r=lL kvs k) ∨ ∃ kvs k b,Rd H a (.dT kvs) /\ y = .ref b /\ H b=some (.tup (k.map kV)) /\ r=lL kvs k
def El (H:Hp) (a:Addr) (y v:V) (H':Hp):Prop :=
 (∃ kvs k,H a=some (.dK kvs) /\ y=kV k /\ kvs.length < sizeLine /\ H'=aU H a (.dK (jB kvs k v))) ∨
 ∃ kvs k b,H a=some (.dT kvs) /\ y = .ref b /\ H b=some (.tup (k.map kV)) /\ kvs.length < sizeLine /\ H'=aU H a (.dT (jB kvs k v))
theorem gB.k {H:Hp}{a:Addr}{kvs:List (cZ × V)}{k:cZ} (e:H a=some (.dK kvs)):gB H a (kV k) (lL kvs k):=.inl ⟨kvs,k,.inl e,rfl,rfl⟩
theorem gB.t {H:Hp}{a b:Addr}{kvs:List (List cZ × V)}{k:List cZ} (e:H a=some (.dT kvs)) (eb:H b=some (.tup (k.map kV))):gB H a (.ref b) (lL kvs k):=.inr ⟨kvs,k,b,.inl e,rfl,eb,rfl⟩
theorem El.k {H:Hp}{a:Addr}{kvs:List (cZ × V)}{k:cZ}{v:V} (e:H a=some (.dK kvs)) (hl:kvs.length < sizeLine):El H a (kV k) v (aU H a (.dK (jB kvs k v))):=.inl ⟨kvs,k,e,rfl,hl,rfl⟩
theorem El.t {H:Hp}{a b:Addr}{kvs:List (List cZ × V)}{k:List cZ}{v:V} (e:H a=some (.dT kvs)) (eb:H b=some (.tup (k.map kV))) (hl:kvs.length < sizeLine) :
  El H a (.ref b) v (aU H a (.dT (jB kvs k v))):=.inr ⟨kvs,k,b,e,rfl,eb,hl,rfl⟩
section
variable {X:Cx}{pins:List (Addr × Obj)}{σ : St}{H:Hp}{s:Shared}{a:Addr}{y v:V}{u r:Value}{o:Option V}{A:Around}{E:Value->Shared->Prop}
theorem aY.big (I:aY X pins σ H s):sysModules < s.heap.objs.size:=by
 have h:mainGlobals < s.heap.objs.size:=(I.mod.glob.keeps I.bk).lt
 exact Nat.lt_trans (by decide) h
theorem Hs {Q:Value->Shared->Prop} (hu:A.units + 1 < cLine) (I:aY X pins σ H s) (g:gB H a y (some v)) (ry:bL y u) (h:∀ w' s',aY X pins σ H s'->bL v w'->Q w' s') :
  wpAny (model X.prog X.w) A (getItem (.ref a) u) Q E s:=by
 rcases g with ⟨kvs,k,e,ey,l⟩ | ⟨kvs,k,b,e,ey,eb,l⟩
 ·subst ey
  obtain ⟨z,hd,vs,rel,dd⟩:=By I.hok e
  obtain ⟨w',hw,rw'⟩:=mJ.some_of (v:=v) (o:=valueAt vs k) (by rw [l]; exact rel.val k)
  exact wpAny_getItem_of (Ck ry) dd.mapOf hw (h w' _ (I.tok _) rw')
 ·subst ey
  cases (show u=Value.ref b from ry)
  obtain ⟨z,hd,xs,rel,dd⟩:=BK I.hok e
  obtain ⟨w',hw,rw'⟩:=mJ.some_of (v:=v) (o:=(atKey xs k).map (·.2)) (by rw [l]; exact rel.val k)
  obtain ⟨p,hp,hp2⟩:=Option.map_eq_some_iff.mp hw
  refine wpAny_getItem_heap (tupleKind_room_in1 hu) (Ac I.hok eb) dd hp ?_
  rw [hp2]
  exact h w' _ (I.tok _) rw'
theorem tV {h':Heap}{t':Nat}{ob:HO} (I:aY X pins σ H s) (mu:Xf (H a)) (hs:Heap.SameBut a s.heap h') (he:∃ q,h'.get? a=some q) (new:dO X.prog X.w (aU H a ob) h' a ob) :
  aY X pins σ (aU H a ob) { s with heap:=h',toks:=t' } :=
 I.write (x:=a) (e:=a) mu (.inl rfl) (fun b q hb z=>(hs.2 b hb).trans z) he new
theorem Eu {P:Program}{w:World}{H':Hp}{h':Heap}{kvs:List (cZ × V)}{vs:List (cZ × Value)} (z:kvs.length <= sizeLine) (hd:(a == sysModules)=false) (rel:KV kvs vs) (dd:h'.DictOf (dZ P w) a vs) :
  dO P w H' h' a (.dK kvs):=⟨z,hd,vs,rel,dd⟩
theorem HN {H':Hp}{Q:Unit->Shared->Prop} (hu:A.units + 1 < cLine) (I:aY X pins σ H s) (g:El H a y v H') (ry:bL y u) (rv:bL v r) (h:∀ s',aY X pins σ H' s'->Q () s') :
  wpAny (model X.prog X.w) A (setItem (.ref a) u r) Q E s:=by
 rcases g with ⟨kvs,k,e,ey,l,eH⟩ | ⟨kvs,k,b,e,ey,eb,l,eH⟩
 ·subst ey eH
  obtain ⟨z,hd,vs,rel,dd⟩:=J2 I.hok e
  have hz:vs.length <= sizeLine:=by rw [<- rel.length]; exact z
  have hl:(jB kvs k v).length <= sizeLine:=by have:=j7 kvs k v; omega
  refine wpAny_setItem_pairs (hsz:=hz) (Ck ry) dd fun h' dd' hs=>h _ ?_
  have he:∃ q,h'.get? a=some q:=let ⟨q,_,_,hq,_⟩:=dd'; ⟨q,hq⟩
  exact tV I (by rw [e]; exact True.intro) hs he (Eu hl hd (rel.put k rv) dd')
 ·subst ey eH
  cases (show u=Value.ref b from ry)
  obtain ⟨z,hd,xs,rel,dd⟩:=Sx I.hok e
  have hz:xs.length <= sizeLine:=by rw [<- Paired.length rel]; exact z
  have hl:(jB kvs k v).length <= sizeLine:=by have:=j7 kvs k v; omega
  refine wpAny_setItem_heap (hsz:=hz) (tupleKind_room_in1 hu) (Ac I.hok eb) dd fun h' dd' hs=>h _ ?_
  obtain ⟨q,es,ep,hq,h2,h3,h4,_,h5⟩:=dd'
  refine tV I (by rw [e]; exact True.intro) hs ⟨q,hq⟩ ⟨hl,hd,_,(rel.put k eb rv).keeps fun c ys ec=>?_,q,es,ep,hq,h2,h3,h4,h5⟩
  rw [aH (bC ec e (fun z=>nomatch z))]
  exact ec
end
section
variable {X:Cx}{pins:List (Addr × Obj)}{σ : St}{H:Hp}{s:Shared}{a:Addr}{kvs:List (cZ × V)}{k:cZ}{u:Value}{A:Around}{E:Value->Shared->Prop}
end
def Us (i:Expr):Prop:=∀ ov iv,subscripted i false ov iv=operate [ov,iv] (getItem ov iv)
theorem Lr {prog:Program}{w:World}{A:Around}{E:Value->Shared->Prop}{s:Shared}{env:Env}{value slice:Expr}{pos:Pos}{T id:String}{Q:Value->Shared->Prop}
  (hl:typeLookup (.type T) "__getitem__" = pure (some (.builtin id))) (hs:Us slice)
  (h:wpAny (model prog w) A (eval value env) (fun o s₁=>wpAny (model prog w) A (eval slice env) (fun i s₂=>s₂.TypeIs o T /\ wpAny (model prog w) A (getItem o i) Q E s₂) E s₁) E s) :
  wpAny (model prog w) A (eval (.Subscript value slice pos) env) Q E s:=by
 refine Subscript_ (wpAny_mono h (fun o s₁ h₁=>wpAny_mono h₁ (fun i s₂ h₂=>?_) fun _ _ x=>x) fun _ _ x=>x)
 obtain ⟨hT,h₂⟩:=h₂
 unfold subscriptTail
 refine wpAny_bind ?_
 rw [getitemInPython_of_ne hT.not_modules]
 refine wpAny_bind (wpAny_specialOf hT hl ?_)
 have fin:wpAny (model prog w) A (subscripted slice false o i) (fun r s₃=>wpAny (model prog w) A (letTemporaryGo value o r >>= fun _=>pure r) Q E s₃) E s₂:=by
  rw [hs o i]
  exact wpAny_operating (wpAny_mono h₂ (fun r s₃ h₃=>wpAny_bind (wpAny_letTemporaryGo (wpAny_pure h₃))) fun _ _ x=>x)
 first
  | exact wpAny_pure (wpAny_bind fin)
  | exact wpAny_bind (wpAny_pure (wpAny_bind fin))
  | exact wpAny_bind fin
theorem DY {X:Cx}{pins:List (Addr × Obj)}{σ : St}{H:Hp}{s:Shared}{a:Addr}{y:V}{o:Option V} (I:aY X pins σ H s) (g:gB H a y o):s.TypeIs (.ref a) "dict":=by
 rcases g with ⟨kvs,k,e,_,_⟩ | ⟨kvs,k,b,e,_,_,_⟩
 ·obtain ⟨_,_,vs,_,dd⟩:=By I.hok e
  exact dd.typeIs
 ·obtain ⟨_,_,xs,_,dd⟩:=BK I.hok e
  exact dd.typeIs
def VL (td ty:TE):TE:=fun σ H Q=>td σ H fun x H1=>ty σ H1 fun y H2=>∃ a v,x = .ref a /\ gB H2 a y (some v) /\ Q v H2
def Wf (td ty tv:TE):TS:=fun D σ H=>tv σ H fun v H1=>td σ H1 fun x H2=>ty σ H2 fun y H3=>∃ a H4,x = .ref a /\ El H3 a y v H4 /\ D.nx σ H4
section
variable {X:Cx}{o i e value:Expr}{pos pos' tpos:Pos}{td ty tv:TE}
theorem cY (hu:X.A.units + 1 < cLine) (ho:PE X o td) (hi:PE X i ty) (hs:Us i):PE X (.Subscript o i pos) (VL td ty):=by
 intro pins s σ H Q I h
 refine Lr PySem.F.slot_dict_getitem.lookup hs (eN (ho pins s σ H _ I h) fun u s1 ⟨x,H1,I1,rx,q1⟩=>eN (hi pins s1 σ H1 _ I1 q1) fun iv s2 ⟨y,H2,I2,ry,a,v,ex,g,q2⟩=>?_)
 subst ex
 obtain rfl:u=Value.ref a:=rx
 exact ⟨DY I2 g,Hs hu I2 g ry fun w' s3 I3 rw'=>⟨v,H2,I3,rw',q2⟩⟩
theorem zX (hu:X.A.units + 1 < cLine) (ho:PE X o td) (hi:PE X i ty) (hv:PE X value tv) (hs:swapsWith value (some (.Subscript o i pos')) pos.line X.env=pure false) :
  PS X (.Assign [.Subscript o i pos'] value pos) (Wf td ty tv):=by
 intro pins s σ H D I h
 refine wpAny_Assign_Subscript (eN (hv pins s σ H _ I h) fun r s1 ⟨v,H1,I1,rv,q1⟩=>eN (ho pins s1 σ H1 _ I1 q1) fun u s2 ⟨x,H2,I2,rx,q2⟩=>eN (hi pins s2 σ H2 _ I2 q2) fun iv s3 ⟨y,H3,I3,ry,a,H4,ex,g,q3⟩=>?_) hs
 subst ex
 obtain rfl:u=Value.ref a:=rx
 exact HN hu I3 g ry rv fun s4 I4=>⟨σ,H4,I4,q3⟩
end
theorem CP {P:Program}{w:World}{H:Hp} (h:Heap) (hb:sysModules < h.objs.size):dO P w H (h.push { cls:=.type "dict",data:=.dict #[] }) h.objs.size (.dK []) :=
 ⟨Nat.zero_le _,beq_eq_false_iff_ne.mpr (Ne.symm (Nat.ne_of_lt hb)),[],.nil,Heap.DictOf.new h⟩
theorem JW {P:Program}{w:World}{H:Hp} (h:Heap) (hb:sysModules < h.objs.size):dO P w H (h.push { cls:=.type "dict",data:=.dict #[] }) h.objs.size (.dT []) :=
 ⟨Nat.zero_le _,beq_eq_false_iff_ne.mpr (Ne.symm (Nat.ne_of_lt hb)),[],.nil,_,#[],0,Heap.get?_push_size _ rfl,⟨rfl,rfl,rfl⟩,rfl,rfl,List.nodup_nil⟩
def Qt:TE:=fun _ H Q=>∀ p,H p=none->Q (.ref p) (aU H p (.dT []))
section
variable {X:Cx}{pos:Pos}
theorem Jf:PE X (.Dict [] [] pos) Qt:=fun pins s σ H Q I h =>
 wpAny_Dict_empty ⟨.ref s.heap.objs.size,_,I.laid (a:=s.heap.objs.size) (o:=.dT []) (t':=s.toks) (fun _ _ q=>Heap.get?_push_of_some _ q) (Nat.le_refl _) (JW s.heap I.big),rfl,h _ (I.hok.fresh (Nat.le_refl _))⟩
end
def Ep:List (TE × TE)->St->Hp->(List (V × V)->Hp->Prop)->Prop
 | [],_,H,Q=>Q [] H
 | (tk,tv) :: r,σ,H,Q=>tk σ H fun x H1=>tv σ H1 fun y H2=>Ep r σ H2 fun ps H3=>Q ((x,y) :: ps) H3
abbrev VV:List (V × V)->List (Value × Value)->Prop:=Paired fun p q=>bL p.1 q.1 /\ bL p.2 q.2
def S7 (X:Cx) (pos:Pos) (keys:List (Option Expr)) (values:List Expr) (trs:List (TE × TE)):Prop :=
 ∀ (pins:List (Addr × Obj)) (s:Shared) (σ : St) (H:Hp) (Q:List (V × V)->Hp->Prop),aY X pins σ H s->Ep trs σ H Q ->
  wpAny (model X.prog X.w) X.A (evalPairs (pairTrees keys values X.env pos)) (fun vs s'=>∃ ps H',aY X pins σ H' s' /\ VV ps vs /\ Q ps H') X.xe s
theorem Mu {X:Cx}{pos:Pos}:S7 X pos [] [] []:=fun pins s σ H Q I h=>pairTrees_nil_walk ⟨[],H,I,.nil,h⟩
theorem m7 {X:Cx}{pos:Pos}{k v:Expr}{ks:List (Option Expr)}{vs:List Expr}{tk tv:TE}{trs:List (TE × TE)} (hk:PE X k tk) (hv:PE X v tv) (hr:S7 X pos ks vs trs) :
  S7 X pos (some k :: ks) (v :: vs) ((tk,tv) :: trs):=fun pins s σ H Q I h =>
 pairTrees_cons_walk (eN (hk pins s σ H _ I h) fun u s1 ⟨x,H1,I1,rx,q1⟩=>eN (hv pins s1 σ H1 _ I1 q1) fun w2 s2 ⟨y,H2,I2,ry,q2⟩ =>
  eN (hr pins s2 σ H2 _ I2 q2) fun ws s3 ⟨ps,H3,I3,rel,q3⟩=>⟨(x,y) :: ps,H3,I3,.cons ⟨rx,ry⟩ rel,q3⟩)
def qR (kvs more:List (cZ × V)):List (cZ × V):=more.foldl (fun acc kv=>jB acc kv.1 kv.2) kvs
theorem KV.merge:∀ {more:List (cZ × V)}{rs:List (cZ × Value)}{kvs:List (cZ × V)}{vs:List (cZ × Value)},KV more rs->KV kvs vs->KV (qR kvs more) (merged vs rs):=by
 intro more rs kvs vs r
 unfold KV at r
 induction r generalizing kvs vs with
 | nil=>intro q; exact q
 | @cons p q ps qs h t ih =>
  intro r0
  have e:KV (jB kvs p.1 p.2) (stored vs q.1 q.2):=by
   have:=r0.put p.1 h.2
   rw [<- h.1]; exact this
  exact ih e
theorem oW:∀ (more kvs:List (cZ × V)),(qR kvs more).length <= kvs.length + more.length
 | [],kvs=>by show kvs.length <= kvs.length + 0; omega
 | p :: r,kvs=>by
  have h1:=oW r (jB kvs p.1 p.2)
  have h2:=j7 kvs p.1 p.2
  show (qR (jB kvs p.1 p.2) r).length <= _
  rw [List.length_cons]; omega
theorem uN {P:Program}{w:World}:∀ {kvs:List (cZ × V)}{ws:List (Value × Value)},VV (kvs.map fun kv=>(kV kv.1,kv.2)) ws->∃ rs,Carries (dZ P w) ws rs /\ KV kvs rs
 | [],_,r=>by rw [List.map_nil] at r; cases r; exact ⟨[],True.intro,.nil⟩
 | p :: kvs,_,r=>by
  rw [List.map_cons] at r
  cases r with
  | @cons a b as bs h t =>
   obtain ⟨rs,c,q⟩:=uN (P:=P) (w:=w) t
   obtain ⟨b1,b2⟩:=b
   exact ⟨(p.1,b2) :: rs,⟨Ck h.1,rfl,c⟩,.cons ⟨rfl,h.2⟩ q⟩
def R6 (trs:List (TE × TE)):TE:=fun σ H Q=>∀ p,H p=none->Ep trs σ (aU H p (.dK [])) fun ps H2=>H2 p=some (.dK []) /\ ∃ kvs:List (cZ × V),ps=kvs.map (fun kv=>(kV kv.1,kv.2)) /\ kvs.length <= 15 /\ Q (.ref p) (aU H2 p (.dK (qR [] kvs)))
theorem NT {X:Cx}{pos:Pos}{keys:List (Option Expr)}{values:List Expr}{trs:List (TE × TE)} (h:S7 X pos keys values trs) (hall:keys.all (·.isSome)=true) (hl:keys.length=values.length) (h0:keys ≠ [])
  (h15:keys.length <= 15):PE X (.Dict keys values pos) (R6 trs):=by
 intro pins s σ H Q I q
 have hn:=I.hok.fresh (Nat.le_refl s.heap.objs.size)
 have I1:=I.laid (a:=s.heap.objs.size) (o:=.dK []) (h':=s.heap.push { cls:=.type "dict",data:=.dict #[] }) (t':=s.toks) (fun _ _ q=>Heap.get?_push_of_some _ q) (Nat.le_refl _) (CP s.heap I.big)
 refine wpAny_Dict_walk (knd:=dZ X.prog X.w) hall hl h0 h15 (eN (h pins _ σ _ _ I1 (q _ hn)) fun ws s2 ⟨ps,H2,I2,rel,e,kvs,ep,lk,q2⟩=>?_)
 subst ep
 obtain ⟨rs,c,rk⟩:=uN (P:=X.prog) (w:=X.w) rel
 obtain ⟨z,hd,vs0,r0,dd⟩:=J2 I2.hok e
 cases r0
 refine ⟨rs,c,dd,fun h' dd' hs=>⟨.ref s.heap.objs.size,_,?_,rfl,q2⟩⟩
 have hz:(qR [] kvs).length <= sizeLine:=by
  have h1:=oW kvs []
  rw [List.length_nil] at h1
  rw [sizeLine_eq]; omega
 have he:∃ q,h'.get? s.heap.objs.size=some q:=let ⟨q,_,_,hq,_⟩:=dd'; ⟨q,hq⟩
 exact tV I2 (by rw [e]; exact True.intro) hs he (Eu hz hd (rk.merge .nil) dd')
structure M1 (X:Cx) (o:Expr) (m:Str) (apos:Pos) (e:Expr) (cpos:Pos):Prop where
 base:attributeBase o m X.env (eval o X.env)=eval o X.env
 few:((backTo cpos (starEach [e] X.env)).all (fun x=>!x.1) && (backToKw cpos (keywordEach [] X.env)).all (fun x=>x.1.isSome)
  && decide (([e]:List Expr).length + ([]:List Keyword).length + (if ([]:List Keyword).isEmpty then 0 else 1) < 30))=true
 line:(apos.endLine == cpos.line)=true
 trees:backTo cpos (starEach [e] X.env)=[(false,eval e X.env)]
structure M2 (X:Cx) (o:Expr) (m:Str) (apos:Pos) (e f:Expr) (cpos:Pos):Prop where
 base:attributeBase o m X.env (eval o X.env)=eval o X.env
 few:((backTo cpos (starEach [e,f] X.env)).all (fun x=>!x.1) && (backToKw cpos (keywordEach [] X.env)).all (fun x=>x.1.isSome)
  && decide (([e,f]:List Expr).length + ([]:List Keyword).length + (if ([]:List Keyword).isEmpty then 0 else 1) < 30))=true
 line:(apos.endLine == cpos.line)=true
 trees:backTo cpos (starEach [e,f] X.env)=[(false,eval e X.env),(false,eval f X.env)]
def IsD (H:Hp) (a:Addr):Prop:=(∃ kvs,Rd H a (.dK kvs)) ∨ ∃ kvs,Rd H a (.dT kvs)
theorem Ou {X:Cx}{pins:List (Addr × Obj)}{σ : St}{H:Hp}{s:Shared}{a:Addr} (I:aY X pins σ H s) (d:IsD H a) :
  s.TypeIs (.ref a) "dict" /\ (∀ b,Value.ref a = .ref b->∃ ob,s.heap.get? b=some ob /\ ob.dict=none) /\ (a == sysModules)=false:=by
 rcases d with ⟨kvs,e⟩ | ⟨kvs,e⟩
 ·obtain ⟨_,hd,vs,_,dd⟩:=By I.hok e
  refine ⟨dd.typeIs,fun b q=>?_,hd⟩
  cases q
  obtain ⟨ob,_,_,h1,h2,_⟩:=dd
  exact ⟨ob,h1,h2.2.1⟩
 ·obtain ⟨_,hd,xs,_,dd⟩:=BK I.hok e
  refine ⟨dd.typeIs,fun b q=>?_,hd⟩
  cases q
  obtain ⟨ob,_,_,h1,h2,_⟩:=dd
  exact ⟨ob,h1,h2.2.1⟩
section
variable {X:Cx}{pins:List (Addr × Obj)}{σ : St}{H:Hp}{s:Shared}{a:Addr}{y d:V}{u r:Value}{o:Option V}{A:Around}{E:Value->Shared->Prop}
theorem Q5 {Q:Value->Shared->Prop} (hu:A.units + 1 < cLine) (I:aY X pins σ H s) (g:gB H a y o) (ry:bL y u) (rd:bL d r) (h:∀ w' s',aY X pins σ H s'->bL (o.getD d) w'->Q w' s') :
  wpAny (model X.prog X.w) A (call (.builtin "dict.get") [.ref a,u,r]) Q E s:=by
 rcases g with ⟨kvs,k,e,ey,l⟩ | ⟨kvs,k,b,e,ey,eb,l⟩
 ·subst ey
  obtain ⟨z,hd,vs,rel,dd⟩:=By I.hok e
  refine call_meetsIn PySem.F.slot_dict_get dd.typeIs PySem.F.entry_dict_get (PySem.F.args_dict_get_3 _ _ _) (meets_dict_get_default (dZ X.prog X.w) a (Ck ry) hd r) ⟨_,dd.mapOf,h _ _ (I.tok _) ?_⟩
  rw [l]
  exact (rel.val k).getD rd
 ·subst ey
  cases (show u=Value.ref b from ry)
  obtain ⟨z,hd,xs,rel,dd⟩:=BK I.hok e
  refine call_meetsIn PySem.F.slot_dict_get dd.typeIs PySem.F.entry_dict_get (PySem.F.args_dict_get_3 _ _ _) (meetsH_dict_get_default (tupleKind (dZ X.prog X.w)) a b hd r) ⟨tupleKind_room_in1 hu,k,xs,Ac I.hok eb,dd,h _ _ (I.tok _) ?_⟩
  rw [l]
  exact (rel.val k).getD rd
end
def PQ (td ty tx:TE):TE:=fun σ H Q=>td σ H fun x H1=>∃ a,x = .ref a /\ IsD H1 a /\ ty σ H1 fun y H2=>tx σ H2 fun z H3=>∃ o,gB H3 a y o /\ Q (o.getD z) H3
section
variable {X:Cx}{o e f:Expr}{apos cpos:Pos}{td ty tx:TE}
theorem JQ (hu:X.A.units + 1 < cLine) (ho:PE X o td) (he:PE X e ty) (hf:PE X f tx) (m:M2 X o "get" apos e f cpos):PE X (.Call (.Attribute o "get" apos) [e,f] [] cpos) (PQ td ty tx):=by
 intro pins s σ H Q I h
 refine wpAny_Call_method m.base m.few m.line PySem.F.plainAttrs_dict PySem.F.slot_dict_get PySem.F.type_dict_get (eN (ho pins s σ H _ I h) fun u s1 ⟨x,H1,I1,rx,a,ex,d,q1⟩=>?_)
 subst ex
 obtain rfl:u=Value.ref a:=rx
 obtain ⟨t1,t2,_⟩:=Ou I1 d
 refine ⟨t1,t2,?_⟩
 rw [m.trees]
 refine Calls.callWith_builtin rfl (Calls.evalArgs_plain (Calls.spliced_cons (eN (he pins s1 σ H1 _ I1 q1) fun iv s2 ⟨y,H2,I2,ry,q2⟩ =>
  Calls.spliced_cons (eN (hf pins s2 σ H2 _ I2 q2) fun fv s3 ⟨z,H3,I3,rz,ov,g,q3⟩=>Calls.spliced_nil ?_))))
 exact Q5 hu I3 g ry rz fun w' s4 I4 rw'=>⟨_,H3,I4,rw',q3⟩
end
section
variable {X:Cx}{pins:List (Addr × Obj)}{σ : St}{H:Hp}{s:Shared}{a:Addr}{kvs:List (cZ × V)}{A:Around}{E:Value->Shared->Prop}
end
section
variable {X:Cx}{pins:List (Addr × Obj)}{σ : St}{H:Hp}{s:Shared}{a:Addr}{y:V}{u:Value}{A:Around}{E:Value->Shared->Prop}
end
end L2
namespace L2
open PySem PySem.Spec PyProof.Rows
section
variable {X:Cx}
end
section
variable {κ : Type} [DecidableEq κ]
theorem Ko {kvs:List (κ × V)}{k:κ} (h:lL kvs k=none):¬ k ∈ kvs.map (·.1):=by
 intro m
 obtain ⟨p,hp,e⟩:=List.mem_map.mp m
 have q:(kvs.any fun kv=>decide (kv.1=k))=true:=List.any_eq_true.mpr ⟨p,hp,decide_eq_true e⟩
 rw [uR,h] at q
 exact absurd q (by simp)
end
end L2
namespace PySem
section
variable {prog:Program}{w:World}{A:Around}{E:Value->Shared->Prop}{R:Result->Shared->Prop}{s:Shared}
theorem yO {elt target iter:Expr}{ifs:List Expr}{scope:Scope}{pos:Pos}{it acc:Value}{env:Env} (I:Nat->Shared->Prop)
  (turn:∀ n s,I n s->∀ E':Value->Shared->Prop,wpAny (model prog w) A (pyNext it) (fun r s₁=>match r with
   | none=>R (.ok .next) s₁
   | some v=>wpAny (model prog w) A (letOwnedTupleGo target it v) (fun _ s₁'=>wpAny (model prog w) A (assign target env v) (fun _ s₂ =>
     wpAny (model prog w) A (forIn ifs true fun c r=>if r=true then do let ok <- isTrue c env (eval c env); pure (ForInStep.yield ok) else pure (ForInStep.yield r)) (fun ok s₃ =>
      if ok=true then wpAny (model prog w) A (eval elt env) (fun x s₄ =>
       wpAny (model prog w) A (call (.builtin "list.append") [acc,x]) (fun _ s₅=>∃ m,m < n /\ I m s₅) E' s₄) E' s₃
      else ∃ m,m < n /\ I m s₃) E' s₂) E' s₁') E' s₁) E' s)
  (n:Nat) (h:I n s) :
  codeAny (model prog w) A (.compLoop (.ListComp elt [⟨target,iter,ifs,0⟩] scope pos) 0 it acc env) R s:=by
 refine codeAny_loop rfl I (fun n s hI=>?_) n h
 show wpAny _ A ((compTurn (.ListComp elt [⟨target,iter,ifs,0⟩] scope pos) 0 it acc env).onRaise (fun x=>do noteFrame x env; theTreesLotGoes x)) _ _ s
 refine wpAny_noted ?_
 rw [compTurn_list]
 refine wpAny_bind (wpAny_standAt (wpAny_bind (wpAny_mono (turn n s hI _) (fun r s₁ h₁=>?_) fun _ _ h'=>h')))
 cases r with
 | none=>exact wpAny_pure h₁
 | some v =>
  refine wpAny_bind (wpAny_mono h₁ (fun _ s₁' h₁'=>?_) fun _ _ h'=>h')
  refine wpAny_bind (wpAny_mono h₁' (fun _ s₂ h₂=>wpAny_bind (wpAny_mono h₂ (fun ok s₃ h₃=>?_) fun _ _ h'=>h')) fun _ _ h'=>h')
  cases ok with
  | false=>exact wpAny_pure ⟨rfl,h₃⟩
  | true =>
   exact wpAny_bind (wpAny_bind (wpAny_mono h₃ (fun x s₄ h₄=>wpAny_bind (wpAny_mono h₄ (fun _ s₅ h₅=>wpAny_pure (wpAny_pure ⟨rfl,h₅⟩)) fun _ _ h'=>h')) fun _ _ h'=>h'))
end
end PySem
namespace PySem
def fV (env:Env):List (Str × NameKind)->List (Str × Addr)->List (Str × Addr)
 | [],cs=>cs
 | (n,k) :: r,cs=>fV env r (if k == .free then (match env.cells.lookup n with | some a=>(n,a) :: cs | none=>cs) else cs)
theorem rJ {scope:Scope}{env:Env} (h:∀ y ∈ scope.names,y.2 = .free->∃ c,env.cells.lookup y.1=some c):closureFor scope env=pure (fV env scope.names []):=by
 unfold closureFor
 have key:∀ (l:List (Str × NameKind)) (cs:List (Str × Addr)),(∀ y ∈ l,y.2 = .free->∃ c,env.cells.lookup y.1=some c) ->
   (forIn l cs fun x r=>(match x with
    | (name,kind)=>if (kind == NameKind.free)=true then (do let a <- cellOf env name; pure (ForInStep.yield ((name,a) :: r))) else pure (ForInStep.yield r):Sem (ForInStep (List (Str × Addr)))))=(pure (fV env l cs):Sem _):=by
  intro l
  induction l with
  | nil=>intro cs _; rfl
  | cons y r ih =>
   intro cs hy
   obtain ⟨n,k⟩:=y
   rw [List.forIn_cons]
   by_cases hk:(k == NameKind.free)=true
   ·obtain ⟨c,hc⟩:=hy (n,k) List.mem_cons_self (by simpa using hk)
    have e:cellOf env n=pure c:=by unfold cellOf; rw [hc]
    simp only [hk,if_true,e,pure_bind]
    rw [ih _ fun z hz=>hy z (List.mem_cons_of_mem _ hz)]
    show _=pure (fV env r (if (k == NameKind.free)=true then (match env.cells.lookup n with | some a=>(n,a) :: cs | none=>cs) else cs))
    rw [if_pos hk,hc]
   ·have hk2:(k == NameKind.free)=false:=by simpa using hk
    simp only [hk2,Bool.false_eq_true,if_false,pure_bind]
    rw [ih _ fun z hz=>hy z (List.mem_cons_of_mem _ hz)]
    show _=pure (fV env r (if (k == NameKind.free)=true then (match env.cells.lookup n with | some a=>(n,a) :: cs | none=>cs) else cs))
    rw [if_neg hk]
 have k2:=key scope.names [] h
 simp only [bind_pure]
 first
  | exact k2
  | (rw [<- k2]; rfl)
theorem rG {env:Env}:∀ (l:List (Str × NameKind)) (cs:List (Str × Addr)) (p:Str × Addr),p ∈ fV env l cs->p ∈ cs ∨ env.cells.lookup p.1=some p.2
 | [],_,_,h=>.inl h
 | (n,k) :: r,cs,p,h=>by
  rcases rG r _ p h with q | q
  ·by_cases hk:(k == NameKind.free)=true
   ·rw [if_pos hk] at q
    cases e:env.cells.lookup n with
    | none=>rw [e] at q; exact .inl q
    | some a =>
     rw [e] at q
     rcases List.mem_cons.mp q with z | z
     ·subst z; exact .inr e
     ·exact .inl z
   ·rw [if_neg hk] at q; exact .inl q
  ·exact .inr q
theorem xU {env:Env}:∀ (l:List (Str × NameKind)) (cs:List (Str × Addr)) (p:Str × Addr),p ∈ cs->p ∈ fV env l cs
 | [],_,_,h=>h
 | (n,k) :: r,cs,p,h=>by
  refine xU r _ p ?_
  by_cases hk:(k == NameKind.free)=true
  ·rw [if_pos hk]
   cases e:env.cells.lookup n with
   | none=>exact h
   | some a=>exact List.mem_cons_of_mem _ h
  ·rw [if_neg hk]; exact h
theorem rD {env:Env}{n:Str}{c:Addr} (e:env.cells.lookup n=some c):∀ (l:List (Str × NameKind)) (cs:List (Str × Addr)),(n,NameKind.free) ∈ l->(n,c) ∈ fV env l cs
 | [],_,h=>nomatch h
 | (m,k) :: r,cs,h=>by
  rcases List.mem_cons.mp h with z | z
  ·cases z
   refine xU r _ _ ?_
   rw [if_pos (by rfl),e]
   exact List.mem_cons_self
  ·exact rD e r _ z
theorem kJ {β : Type}{n:Str}{c:β}:∀ {l:List (Str × β)},(n,c) ∈ l->∃ d,l.lookup n=some d
 | [],h=>nomatch h
 | (m,d) :: r,h=>by
  cases q:n == m with
  | true=>exact ⟨d,by simp only [List.lookup_cons,q]⟩
  | false =>
   rcases List.mem_cons.mp h with z | z
   ·cases z
    simp at q
   ·obtain ⟨d',e⟩:=kJ z
    exact ⟨d',by simp only [List.lookup_cons,q,e]⟩
theorem iV {env:Env}:∀ {names:List (Str × NameKind)}{x:Str}{k:NameKind},
  (names.map fun (n,k)=>if (k == NameKind.free && env.scope.kind == .function && env.kindOf n == some .cell) then (n,NameKind.cell) else (n,k)).lookup x=some k ->
  ∃ k',names.lookup x=some k' /\ (k'=k ∨ (k' = .free /\ k = .cell))
 | [],_,_,h=>by simp at h
 | (n,j) :: r,x,k,h=>by
  cases hx:x == n with
  | true =>
   refine ⟨j,by simp only [List.lookup_cons,hx],?_⟩
   by_cases hc:(j == NameKind.free && env.scope.kind == .function && env.kindOf n == some .cell)=true
   ·simp only [List.map_cons,if_pos hc,List.lookup_cons,hx] at h
    cases h
    refine .inr ⟨?_,rfl⟩
    simp only [Bool.and_eq_true,beq_iff_eq] at hc
    exact hc.1.1
   ·simp only [List.map_cons,if_neg hc,List.lookup_cons,hx] at h
    cases h
    exact .inl rfl
  | false =>
   by_cases hc:(j == NameKind.free && env.scope.kind == .function && env.kindOf n == some .cell)=true
   ·simp only [List.map_cons,if_pos hc,List.lookup_cons,hx] at h
    obtain ⟨k',e1,e2⟩:=iV h
    exact ⟨k',by simp only [List.lookup_cons,hx,e1],e2⟩
   ·simp only [List.map_cons,if_neg hc,List.lookup_cons,hx] at h
    obtain ⟨k',e1,e2⟩:=iV h
    exact ⟨k',by simp only [List.lookup_cons,hx,e1],e2⟩
end PySem
namespace L2
open PySem PySem.Spec PyProof.Rows
open Builtin.Int (intBits)
section
variable {X:Cx}
def Kh (i j:Int):Prop:=intBits i + intBits j <= 134217728
def Xg (i j:Int):Prop:=j ≠ 0 /\ intBits j <= 9000
theorem dU:nW X (binaryOp .Mult) (rI Kh fun i j=>.int (i * j)):=Qs fun _ _ _ _ _ _ _ hc q=>mul_int q (IntMulOk.of_le (Nat.le_refl _) (Nat.le_refl _) hc)
theorem Af {j:Int} (h0:j ≠ 0) (h:intBits j <= 9000):j.natAbs.log2 < 9000:=by
 unfold Builtin.Int.intBits at h
 have e:(j == 0)=false:=by simpa using h0
 rw [e] at h
 simp only [Bool.false_eq_true,if_false] at h
 omega
theorem jU:nW X (binaryOp .FloorDiv) (rI Xg fun i j=>.int (i.fdiv j)):=Qs fun _ _ _ _ _ _ _ hc q=>floordiv_int hc.1 q (.inl (PyProof.noPylong_of_log2 (Af hc.1 hc.2)))
theorem dD {T:String}:gM X (.builtin "isinstance") (fun xs H Q=>∃ x t b,xs=[x,.ty T] /\ gK X.K H x t /\ PySem.W.kitOne X.K t (.type T)=some b /\ Q (.bl b) H):=by
 intro pins s σ H xs us Q I r h
 obtain ⟨x,t,b,rfl,ty,e,q⟩:=h
 obtain ⟨u,w',rfl,rx,rt⟩:=Kf r
 cases (show w'=Value.type T from rt)
 exact xB I rx ty e fun tk=>⟨.bl b,H,I.tok _,rfl,q⟩
theorem gK.tupS {K:PySem.W.Frag}{H:Hp}{a:Addr}{xs:List V} (e:H a=some (.tup xs)):gK K H (.ref a) (.type "tuple"):=.tup e
theorem fQ {α : Type}{l:List α}{d:α}{i:Nat} (h:i < l.length):l.getD i d=l[i]:=by simp [h]
theorem BP:∀ (ns ms:List Int),((List.range (min ns.length ms.length)).all (fun j=>ns.getD j 0 == ms.getD j 0) && ns.length == ms.length)=decide (ns=ms):=by
 intro ns ms
 rw [Bool.eq_iff_iff]
 simp only [Bool.and_eq_true,List.all_eq_true,List.mem_range,beq_iff_eq,decide_eq_true_eq]
 constructor
 ·rintro ⟨h,hl⟩
  refine List.ext_getElem hl fun i h1 h2=>?_
  have q:=h i (by omega)
  rw [fQ h1,fQ h2] at q
  exact q
 ·rintro rfl
  exact ⟨fun _ _=>rfl,rfl⟩
theorem Fd {us:List Value}{ns:List Int} (h:bI (ns.map V.int) us) {j:Nat} (hj:j < us.length):∃ t,us[j]=Value.int (ns.getD j 0) t:=by
 have hl:=h.length
 rw [List.length_map] at hl
 have e:(ns.map V.int)[j]? = some (.int (ns.getD j 0)):=by
  rw [List.getElem?_map,List.getElem?_eq_getElem (by omega),fQ (by omega)]
  rfl
 obtain ⟨u,hu,t,r⟩:=h.get e
 rw [List.getElem?_eq_getElem hj] at hu
 exact ⟨t,(Option.some.inj hu).trans r⟩
def Zo (K:PySem.W.Frag):R2:=fun x y H Q=>∃ (a b:Addr) (ns ms:List Int),x = .ref a /\ y = .ref b /\ bZ K H a (ns.map V.int) /\ bZ K H b (ms.map V.int) /\ Q (.bl (!decide (ns=ms))) H
theorem Ht {A:Around}{s:Shared}{its its2:List Value}{ns ms:List Int} (r1:bI (ns.map V.int) its) (r2:bI (ms.map V.int) its2) :
  ∀ j (h1:j < its.toArray.size) (h2:j < its2.toArray.size),PySem.SeqAt.EqAt A s its.toArray[j] its2.toArray[j] (ns.getD j 0 == ms.getD j 0):=fun j h1 h2=>by
 obtain ⟨t1,e1⟩:=Fd r1 (j:=j) (by simpa using h1)
 obtain ⟨t2,e2⟩:=Fd r2 (j:=j) (by simpa using h2)
 rw [List.getElem_toArray,List.getElem_toArray,e1,e2]
 exact PySem.SeqAt.EqAt.int_int _ _ _ _
theorem Ef {its its2:List Value}{ns ms:List Int} (r1:bI (ns.map V.int) its) (r2:bI (ms.map V.int) its2) :
  ((List.range (min its.toArray.size its2.toArray.size)).all (fun j=>ns.getD j 0 == ms.getD j 0) && its.toArray.size == its2.toArray.size)=decide (ns=ms):=by
 have l1:=r1.length
 have l2:=r2.length
 rw [List.length_map] at l1 l2
 rw [List.size_toArray,List.size_toArray,<- l1,<- l2]
 exact BP ns ms
theorem QQ (hu:X.A.units < cLine):nW X (compareOp .NotEq) (Zo X.K):=by
 intro pins s σ H x y v u Q I rx ry h
 obtain ⟨a,b,ns,ms,rfl,rfl,ha,hb,q⟩:=h
 cases rx
 cases ry
 obtain ⟨its,r1,p1,_⟩:=I.tuple ha
 obtain ⟨its2,r2,p2,_⟩:=I.tuple hb
 refine PySem.SeqAt.RcNeAt.tuples (show s.heap.IsTuple a its.toArray from p1) (show s.heap.IsTuple b its2.toArray from p2) hu (Ht r1 r2) X.prog X.w _ _ ?_
 rw [Ef r1 r2]
 exact ⟨.bl (!decide (ns=ms)),H,I,rfl,q⟩
end
structure bR (sc scope:Scope):Prop where
 kind:scope.kind = .function
 nocell:∀ y ∈ scope.names,y.2 ≠ .cell
 loc:∀ y ∈ scope.names,y.2 = .local->scope.names.lookup y.1=some .local
 free:∀ y ∈ scope.names,y.2 = .free->sc.names.lookup y.1=some .cell ∨ sc.names.lookup y.1=some .free
def Ft (sc scope:Scope):Bool:=(scope.kind == .function) && scope.names.all fun y=>(y.2 != .cell) && ((y.2 != .local) || (scope.names.lookup y.1 == some .local)) && ((y.2 != .free) || (sc.names.lookup y.1 == some .cell) || (sc.names.lookup y.1 == some .free))
theorem bR.of {sc scope:Scope} (h:Ft sc scope=true):bR sc scope:=by
 unfold Ft at h
 rw [Bool.and_eq_true,List.all_eq_true] at h
 obtain ⟨hk,h⟩:=h
 refine ⟨eq_of_beq hk,fun y hy=>?_,fun y hy e=>?_,fun y hy e=>?_⟩
 ·have q:=h y hy
  simp only [Bool.and_eq_true,bne_iff_ne] at q
  exact q.1.1
 ·have q:=h y hy
  simp only [Bool.and_eq_true,Bool.or_eq_true,bne_iff_ne,beq_iff_eq] at q
  exact q.1.2.resolve_left fun z=>z e
 ·have q:=h y hy
  simp only [Bool.and_eq_true,Bool.or_eq_true,bne_iff_ne,beq_iff_eq] at q
  rcases q.2 with (z | z) | z
  ·exact absurd e z
  ·exact .inl z
  ·exact .inr z
structure NL (N M:List Str) (scope:Scope):Prop where
 len:M.length=N.length
 loc:∀ (j:Nat) x,M[j]? = some x->scope.names.lookup x ≠ some .local
 free:∀ (j:Nat) x,M[j]? = some x->scope.names.lookup x=some .free->N[j]? = some x
def nlB (scope:Scope):List Str->List Str->Bool
 | [],[]=>true
 | x :: M,y :: N=>(scope.names.lookup x != some .local) && ((scope.names.lookup x != some .free) || x == y) && nlB scope M N
 | _,_=>false
theorem NL.of {scope:Scope}:∀ {N M:List Str},nlB scope M N=true->NL N M scope
 | [],[],_=>⟨rfl,fun j x h=>by simp at h,fun j x h=>by simp at h⟩
 | [],_ :: _,h=>by cases h
 | _ :: _,[],h=>by cases h
 | y :: N,x :: M,h=>by
  have h':((scope.names.lookup x != some .local) && ((scope.names.lookup x != some .free) || x == y) && nlB scope M N)=true:=h
  simp only [Bool.and_eq_true,Bool.or_eq_true,bne_iff_ne,beq_iff_eq] at h'
  obtain ⟨⟨h1,h2⟩,h3⟩:=h'
  have q:=NL.of h3
  refine ⟨by simp [q.len],fun j z e=>?_,fun j z e f=>?_⟩
  ·cases j with
   | zero=>simp at e; subst e; exact h1
   | succ j=>exact q.loc j z (by simpa using e)
  ·cases j with
   | zero =>
    simp at e; subst e
    rcases h2 with w | w
    ·exact absurd f w
    ·simp [w]
   | succ j=>simpa using q.free j z (by simpa using e) f
def fL (X:Cx) (ls M:List Str) (scope:Scope) (C:Addr) (fp:List Addr) (s:Shared) (H:Hp):Cx where
 prog:=X.prog
 w:=X.w
 K:=X.K
 mg:=X.mg
 base:=X.base
 A:=X.A
 N:=ls ++ M
 s₀:=s
 H₀:=H
 env:=compEnvC scope (fV X.env scope.names []) C X.env
 outer:=X.stack
 stack:=X.stack
 ex:=fp
 fn:=fun _=>false
 calm:=X.calm
 pn:=[]
 xe:=fun _ _=>False
def Vs (Y:Cx) (ifs:List Expr) (c:TT):Prop :=
 ∀ (pins:List (Addr × Obj)) (s:Shared) (σ : St) (H:Hp) (Q:Bool->Hp->Prop),aY Y pins σ H s->c σ H Q ->
  wpAny (model Y.prog Y.w) Y.A (forIn ifs true fun c r=>if r=true then do let ok <- isTrue c Y.env (eval c Y.env); pure (ForInStep.yield ok) else pure (ForInStep.yield r)) (TP Y pins σ Q) Y.xe s
def Q9:TT:=fun _ H Q=>Q true H
theorem cT {Y:Cx}:Vs Y [] Q9:=fun _ _ _ H _ I h=>wpAny_tests_nil ⟨H,I,h⟩
theorem tU {Y:Cx}{e:Expr}{c:TT} (h:PT Y e c):Vs Y [e] c:=fun pins s σ H Q I hw=>wpAny_tests_one (h pins s σ H Q I hw)
def DK (k:Nat) (J:It) (g:TG) (c:TT) (te:TE) (σ : St) (H1:Hp) (D:Addr) (Q:VK):Prop :=
 ∃ W:Nat->Nat->St->Hp->Prop,(∃ m,W 0 m (List.replicate k none ++ σ) (aU H1 D (.lst []))) /\ ∀ i m τ H,W i m τ H ->
  (J.stop i H /\ Q (.ref D) H) ∨ (J.go i H /\ ∀ x H',J.yld i H x H'->g x τ H' fun τ2 H2=>c τ2 H2 fun b H3=>if b=true then te τ2 H3 fun y H4=>∃ ys m',m' < m /\ H4 D=some (.lst ys) /\ ys.length < sizeLine /\ W (i + 1) m' τ2 (aU H4 D (.lst (ys ++ [y]))) else ∃ m',m' < m /\ W (i + 1) m' τ2 H3)
def OD (k:Nat) (wi:TI) (g:TG) (c:TT) (te:TE):TE:=fun σ H Q=>wi σ H fun J H1=>∀ D,H1 D=none->DK k J g c te σ H1 D Q
structure Ls (X:Cx) (pins:List (Addr × Obj)) (H:Hp) (C:Addr) (s:Shared):Prop where
 ns:∃ m,s.heap.Ns C m
 none:H C=none
 ne:C ≠ X.env.locals
 young:X.s₀.heap.objs.size <= C
 cells:∀ x c,X.env.cells.lookup x=some c->c ≠ C
 pins:∀ p ∈ X.pn ++ pins,p.1 ≠ C
theorem aY.gone {X:Cx}{pins:List (Addr × Obj)}{σ : St}{H:Hp}{C:Addr}{s:Shared}{h':Heap} (I:aY X pins σ H s) (o:Ls X pins H C s) (hs:Heap.SameBut C s.heap h'):aY X pins σ H { s with heap:=h' } :=
 I.turned (t':=s.toks) (it:=C) (fun b ob hb e=>(hs.2 b hb).trans e) o.none o.ne (.inr o.young) o.cells o.pins
section
variable {X:Cx}{elt tg iter:Expr}{ifs:List Expr}{scope:Scope}{pos:Pos}{ls M:List Str}{g:TG}{c:TT}{te:TE}
theorem xC {J:It}{fp:List Addr}{tn:Nat->Heap->Prop}{it:Addr}{pins:List (Addr × Obj)}{σ : St}{H2:Hp}{s2:Shared}{Qe:VK}{RR:Value->Addr->Result->Shared->Prop}{E:Value->Shared->Prop}
  (hc:X.calm=true) (S:bR X.env.scope scope) (nl:NL X.N M scope)
  (hb:∀ C fp s H,PG (fL X ls M scope C fp s H) tg g /\ Vs (fL X ls M scope C fp s H) ifs c /\ PE (fL X ls M scope C fp s H) elt te)
  (I2:aY X pins σ H2 s2) (T:Ey X.prog X.w X.K tg J fp it tn) (st2:tn 0 s2.heap) (f2:∀ b ∈ fp,lG X pins H2 b)
  (hW:∀ D,H2 D=none->DK ls.length J g c te σ H2 D Qe)
  (hRR:∀ D C H' s',aY X pins σ H' s'->Ls X pins H' C s'->Qe (.ref D) H'->RR (.ref D) C (.ok .next) s') :
  wpAny (model X.prog X.w) X.A (newList []) (fun acc s₃=>wpAny (model X.prog X.w) X.A (newFunctionEnv scope X.env.globals (fV X.env scope.names []) [] X.env.qual none .none (some X.env)) (fun cenv s₄ =>
   codeAny (model X.prog X.w) X.A (.compStart (.ListComp elt [⟨tg,iter,ifs,0⟩] scope pos) 0 (.ref it) acc { cenv with scope:=relabel scope X.env }) (RR acc cenv.locals) s₄) E s₃) E s2:=by
 refine wpAny_newObj_type (wpAny_newFunctionEnv S.nocell (by intro y hy; simp at hy) (fun h₁ hns₁ hsb₁=>?_) S.kind)
 dsimp only at hns₁ hsb₁ ⊢
 have I3:aY X pins σ (aU H2 s2.heap.objs.size (.lst [])) { s2 with heap:=s2.heap.push { cls:=.type "list",dict:=none,data:=.seq ([]:List Value).toArray },toks:=s2.toks } :=
  I2.laid (fun _ _ q=>Heap.get?_push_of_some _ q) (Nat.le_refl _) ⟨Nat.zero_le _,[],0,.nil,Heap.get?_push_size _ rfl⟩
 have hfreshD:H2 s2.heap.objs.size=none:=I2.hok.fresh (Nat.le_refl _)
 generalize hHH:s2.heap.push { cls:=.type "list",dict:=none,data:=.seq ([]:List Value).toArray } = HH at hns₁ hsb₁ I3 ⊢
 have up:∀ b o,s2.heap.get? b=some o->HH.get? b=some o:=fun b o e=>by rw [<- hHH]; exact Heap.get?_push_of_some _ e
 have old:∀ b o,HH.get? b=some o->h₁.get? b=some o:=fun b o e=>hsb₁.extBut b o (Nat.ne_of_lt (Heap.lt_size e)) (Heap.get?_push_of_some _ e)
 generalize hH3:aU H2 s2.heap.objs.size (.lst [])=H3 at I3
 have f3:∀ b ∈ fp,lG X pins H3 b:=fun b hb=>by
  obtain ⟨f0,fr⟩:=f2 b hb
  refine ⟨?_,fr⟩
  obtain ⟨o,e,_⟩:=T.obj 0 _ st2 b hb
  rw [<- hH3,aH (Nat.ne_of_lt (Heap.lt_size e))]
  exact f0
 have fplt:∀ b ∈ fp,b < HH.objs.size:=fun b hb=>by
  obtain ⟨o,e,_⟩:=T.obj 0 _ st2 b hb
  exact Heap.lt_size (up b o e)
 have sub:∀ x a,(fV X.env scope.names []).lookup x=some a->X.env.cells.lookup x=some a:=fun x a e=>by
  rcases rG _ _ _ (PySem.mem_of_lookup e) with z | z
  ·exact absurd z (by simp)
  ·exact z
 have kin:∀ x,scope.names.lookup x=some .free->X.env.kindOf x=some .cell ∨ X.env.kindOf x=some .free:=fun x e=>S.free (x,.free) (PySem.mem_of_lookup e) rfl
 have has:∀ x a,scope.names.lookup x=some .free->X.env.cells.lookup x=some a->(fV X.env scope.names []).lookup x=some a:=fun x a e ec=>by
  obtain ⟨d,hd⟩:=kJ (rD ec scope.names [] (PySem.mem_of_lookup e))
  have:=sub x d hd
  rw [ec] at this
  cases this
  exact hd
 have rel:∀ x k,(relabel scope X.env).names.lookup x=some k->(k = .cell ∨ k = .free)->scope.names.lookup x=some .free:=fun x k e hk=>by
  obtain ⟨k',e1,e2⟩:=iV (show (scope.names.map fun (n,k)=>if (k == NameKind.free && X.env.scope.kind == .function && X.env.kindOf n == some .cell) then (n,NameKind.cell) else (n,k)).lookup x=some k from e)
  rcases e2 with e2 | ⟨e2,_⟩
  ·subst e2
   rcases hk with hk | hk
   ·subst hk; exact absurd rfl (S.nocell _ (PySem.mem_of_lookup e1))
   ·subst hk; exact e1
  ·subst e2; exact e1
 have okY:(fL X ls M scope HH.objs.size fp { s2 with heap:=HH,toks:=s2.toks } H3).Ok:=by
  refine ⟨I3.ok.mod,S.kind,I3.ok.glob,I3.ok.blt,Nat.le_refl _,fun x y a h1 h2=>I3.ok.inj x y a (sub x a h1) (sub y a h2),fun x hx=>?_,(fun x a h=>nomatch h),I3.ok.hd,I3.ok.frames,.inl rfl,fun b hb'=>⟨Nat.ne_of_lt (fplt b hb'),fun x a e=>(f3 b hb').2.2.2.2.1 x a (sub x a e)⟩,
   I3.bs,Nat.le_trans I3.ok.bsz I3.sz,fun b o e hb'=>?_,fun b hb' hs=>?_,I3.stack,I3.stkFree⟩
  ·have hf:scope.names.lookup x=some .free:=by
    rcases hx with hx | hx
    ·exact rel x _ hx (.inl rfl)
    ·exact rel x _ hx (.inr rfl)
   obtain ⟨a,ea⟩:=I3.ok.has x (kin x hf)
   exact ⟨a,has x a hf ea⟩
  ·rcases (f3 b hb').2.2.2.1 with z | z
   ·exact I3.ok.noex b o e z
   ·exact absurd (Nat.lt_of_lt_of_le (Heap.lt_size e) (Nat.le_trans I3.ok.bsz z)) (Nat.lt_irrefl _)
  ·rcases List.mem_cons.mp (I3.stkSub b hs) with z | z
   ·exact (f3 b hb').2.1 z
   ·exact (f3 b hb').2.2.1 z
 have IY:aY (fL X ls M scope HH.objs.size fp { s2 with heap:=HH,toks:=s2.toks } H3) [] (List.replicate ls.length none ++ σ) H3 { s2 with heap:=h₁,toks:=s2.toks + ([]:List (Str × Value)).length }:=by
  refine ⟨okY,rfl,I2.bare,Un.kept old,⟨_,hns₁,fun i x v e1 e2 e3=>?_⟩,fun x a e=>?_,I3.hok.fresh (Nat.le_refl _),fun x a e=>I3.freeC x a (sub x a e),fun p hp=>absurd (show p ∈ ([]:List (Addr × Obj)) from hp) (by simp),I3.hok.kept old,?_⟩
  ·have hi:ls.length <= i:=by
    by_cases hi:ls.length <= i
    ·exact hi
    ·rw [List.getElem?_append_left (by simp; omega),List.getElem?_replicate] at e2
     split at e2 <;> cases e2
   rw [List.getElem?_append_right (by simpa using hi),List.length_replicate] at e2
   have e0:M[i - ls.length]? = some x:=by
    have z:(ls ++ M)[i]? = some x:=e1
    rw [List.getElem?_append_right hi] at z
    exact z
   have hnl:=nl.loc _ x e0
   have hf:scope.names.lookup x=some .free:=by
    rcases e3 with e3 | e3 | e3
    ·obtain ⟨k',q1,q2⟩:=iV (show (scope.names.map fun (n,k)=>if (k == NameKind.free && X.env.scope.kind == .function && X.env.kindOf n == some .cell) then (n,NameKind.cell) else (n,k)).lookup x=some .local from e3)
     rcases q2 with q2 | ⟨_,q2⟩
     ·subst q2; exact absurd q1 hnl
     ·cases q2
    ·exact rel x _ e3 (.inl rfl)
    ·exact rel x _ e3 (.inr rfl)
   have e1':=nl.free _ x e0 hf
   have hk:=kin x hf
   obtain ⟨m,hn,hl⟩:=I3.loc
   obtain ⟨u,ru,lk⟩:=hl (i - ls.length) x v e1' e2 (hk.elim (fun z=>.inr (.inl z)) fun z=>.inr (.inr z))
   refine ⟨u,ru,?_⟩
   rcases lk with ⟨z,_⟩ | ⟨_,a,ea,hcell⟩
   ·rcases hk with hk | hk <;> (rw [hk] at z; cases z)
   ·obtain ⟨o,eo,hd⟩:=hcell
    refine .inr ⟨?_,a,has x a hf ea,⟨o,old a o eo,hd⟩⟩
    rcases e3 with e3 | e3 | e3
    ·obtain ⟨k',q1,q2⟩:=iV (show (scope.names.map fun (n,k)=>if (k == NameKind.free && X.env.scope.kind == .function && X.env.kindOf n == some .cell) then (n,NameKind.cell) else (n,k)).lookup x=some .local from e3)
     rcases q2 with q2 | ⟨_,q2⟩
     ·subst q2; exact absurd q1 hnl
     ·cases q2
    ·exact .inl e3
    ·exact .inr e3
  ·obtain ⟨v,o,eo,hd⟩:=I3.cell x a (sub x a e)
   exact ⟨v,o,old a o eo,hd⟩
  ·show (List.replicate ls.length none ++ σ).length=(ls ++ M).length
   rw [List.length_append,List.length_append,List.length_replicate,I3.len,nl.len]
 have st1:tn 0 h₁:=T.keep 0 _ _ st2 fun b _ o e=>old b o (up b o e)
 obtain ⟨hPG,hPT,hPE⟩:=hb HH.objs.size fp { s2 with heap:=HH,toks:=s2.toks } H3
 obtain ⟨W,⟨m0,w0⟩,turn⟩:=hW s2.heap.objs.size hfreshD
 rw [hH3] at w0
 have back:∀ {τ : St}{H':Hp}{s':Shared},aY (fL X ls M scope HH.objs.size fp { s2 with heap:=HH,toks:=s2.toks } H3) [] τ H' s'->aY X pins σ H' s' /\ Ls X pins H' HH.objs.size s':=fun {τ H' s'} J=>by
  refine ⟨I3.call' (ch:=fp) J.os J.base J.hok J.bare fun b hb'=>?_,?_⟩
  ·obtain ⟨_,g1,g2,g3,g4,g5⟩:=f3 b hb'
   exact ⟨g3,g1,g4,g5⟩
  ·obtain ⟨m,hn,_⟩:=J.loc
   refine ⟨⟨m,hn⟩,J.free,Ne.symm (Nat.ne_of_lt I3.lt),I3.sz,fun x a e=>?_,fun p hp=>Nat.ne_of_lt (Heap.lt_size (I3.pin p hp).1)⟩
   obtain ⟨v,q⟩:=I3.cell x a e
   exact Nat.ne_of_lt q.lt
 have stat:∀ {H':Hp},(∀ b ∈ fp,H' b=none)->∀ b ∈ fp,lG (fL X ls M scope HH.objs.size fp { s2 with heap:=HH,toks:=s2.toks } H3) [] H' b:=fun {H'} hn b hb'=>by
  obtain ⟨_,g1,g2,g3,g4,g5⟩:=f3 b hb'
  refine ⟨hn b hb',Nat.ne_of_lt (fplt b hb'),fun hs=>?_,.inl hb',fun x a e=>g4 x a (sub x a e),fun p hp=>absurd (show p ∈ ([]:List (Addr × Obj)) from hp) (by simp)⟩
  rcases List.mem_cons.mp (I3.stkSub b hs) with z | z
  ·exact g1 z
  ·exact g2 z
 have loop:∀ s₃ : Shared,s₃ = { s2 with heap:=h₁,toks:=s2.toks + ([]:List (Str × Value)).length } ->
   codeAny (model X.prog X.w) X.A (.compLoop (.ListComp elt [⟨tg,iter,ifs,0⟩] scope pos) 0 (.ref it) (.ref s2.heap.objs.size) (compEnvC scope (fV X.env scope.names []) HH.objs.size X.env)) (RR (.ref s2.heap.objs.size) HH.objs.size) s₃:=by
  rintro s₃ rfl
  refine yO (fun n s'=>∃ i τ H',aY (fL X ls M scope HH.objs.size fp { s2 with heap:=HH,toks:=s2.toks } H3) [] τ H' s' /\ tn i s'.heap /\ (∀ b ∈ fp,H' b=none) /\ W i n τ H') ?_ m0 ⟨0,_,H3,IY,st1,fun b hb'=>(f3 b hb').1,w0⟩
  rintro n s3 ⟨i,τ,H',I4,st4,fr4,w4⟩ E'
  rcases turn i n τ H' w4 with ⟨stop,qn⟩ | ⟨go,step⟩
  ·refine eN (T.done (fL X ls M scope HH.objs.size fp { s2 with heap:=HH,toks:=s2.toks } H3) rfl rfl rfl hc i [] s3 τ H' E' I4 (stat fr4) st4 stop) fun r s4 ⟨hr,I5⟩=>?_
   subst hr
   obtain ⟨b1,b2⟩:=back I5
   exact hRR _ _ H' s4 b1 b2 qn
  ·refine eN (T.item (fL X ls M scope HH.objs.size fp { s2 with heap:=HH,toks:=s2.toks } H3) rfl rfl rfl hc i [] s3 τ H' E' I4 (stat fr4) st4 go) fun r s4 ⟨u,hr,h4⟩=>?_
   subst hr
   refine eN h4 fun _ s5 ⟨x,H5,I5,r5,y5,st5,fr5⟩=>?_
   have I5':=I5.pinned (stat fr5) (T.obj _ _ st5)
   refine wpAny_mono (hPG _ s5 τ H5 x u _ I5' r5 (step x H5 y5)) (fun _ s6 ⟨σ6,H6,I6,q6⟩=>?_) fun _ _ z=>z.elim
   refine wpAny_mono (hPT _ s6 σ6 H6 _ I6 q6) (fun ok s7 ⟨H7,I7,q7⟩=>?_) fun _ _ z=>z.elim
   have again:∀ {σ8:St}{H8:Hp}{s8:Shared}{m':Nat},aY (fL X ls M scope HH.objs.size fp { s2 with heap:=HH,toks:=s2.toks } H3) ([] ++ vC fp s5.heap) σ8 H8 s8->m' < n->W (i + 1) m' σ8 H8 ->
     ∃ m,m < n /\ ∃ i τ H',aY (fL X ls M scope HH.objs.size fp { s2 with heap:=HH,toks:=s2.toks } H3) [] τ H' s8 /\ tn i s8.heap /\ (∀ b ∈ fp,H' b=none) /\ W i m τ H':=fun {σ8 H8 s8 m'} I8 hm w8=>by
    refine ⟨m',hm,i + 1,σ8,H8,I8.unpinned,T.keep _ _ _ st5 fun b hb' o e=>(I8.pin (b,o) (List.mem_append_right _ (List.mem_append_right _ (lK hb' e)))).1,fun b hb'=>?_,w8⟩
    obtain ⟨o,e,d⟩:=T.obj _ _ st5 b hb'
    exact (I8.pin (b,o) (List.mem_append_right _ (List.mem_append_right _ (lK hb' e)))).2.1
   cases ok with
   | false =>
    rw [if_neg Bool.false_ne_true] at q7 ⊢
    obtain ⟨m',hm,w7⟩:=q7
    exact again I7 hm w7
   | true =>
    rw [if_pos rfl] at q7 ⊢
    refine wpAny_mono (hPE _ s7 σ6 H7 _ I7 q7) (fun yv s8 ⟨y,H8,I8,r8,ys,m',hm,hD,hz,w8⟩=>?_) fun _ _ z=>z.elim
    refine wpAny_mono (fC (X:=(fL X ls M scope HH.objs.size fp { s2 with heap:=HH,toks:=s2.toks } H3)) _ s8 σ6 H8 (.ref s2.heap.objs.size) [y] (.ref s2.heap.objs.size) [yv] (fun _ H9=>W (i + 1) m' σ6 H9) I8 rfl (.cons r8 .nil) ⟨_,ys,y,rfl,rfl,hD,hz,w8⟩) (fun _ s9 ⟨_,H9,I9,_,w9⟩=>?_) fun _ _ z=>z.elim
    exact again I9 hm w9
 exact codeAny_compStart_list (loop _ rfl) (T.self _ 0 _ _ _ st1 (loop _ rfl))
theorem Dv (S:bR X.env.scope scope) (ok:X.Ok):closureFor scope X.env=pure (fV X.env scope.names []) :=
 rJ fun y hy e=>ok.has y.1 (S.free y hy e)
theorem cB {wi:TI} (hc:X.calm=true) (S:bR X.env.scope scope) (nl:NL X.N M scope) (hi:PI X tg iter wi)
  (hb:∀ C fp s H,PG (fL X ls M scope C fp s H) tg g /\ Vs (fL X ls M scope C fp s H) ifs c /\ PE (fL X ls M scope C fp s H) elt te)
  (hs:∀ x,foldedSetIterable iter X.env x=pure x:=by intro _; rfl):PE X (.ListComp elt [⟨tg,iter,ifs,0⟩] scope pos) (OD ls.length wi g c te):=by
 intro pins s σ H Q I h
 rw [eval_ListComp]
 refine wpAny_comprehension_free (use:=none) rfl hs (Dv S I.ok) S.kind S.loc (eN (hi pins s σ H _ I h) fun xv s1 h1=>eN h1 fun itv s2 h2=>?_)
 obtain ⟨it,fp,tn,J,H2,e,I2,T,st2,f2,hW⟩:=h2
 subst e
 refine xC (RR:=fun acc C=>compPost (model X.prog X.w) X.A X.xe none (EP X pins σ Q) acc C) (Qe:=Q) hc S nl hb I2 T st2 f2 hW fun D C H' s' I' o q=>?_
 exact ⟨o.ns.choose,o.ns.choose_spec,fun h' hs'=>⟨.ref D,H',I'.gone o hs',rfl,q⟩⟩
theorem Mf {wi:TI}{i:Nat}{y:Str}{py spos:Pos} (hc:X.calm=true) (S:bR X.env.scope scope) (nl:NL X.N M scope) (hN:X.N.Nodup) (hiy:X.N[i]? = some y) (hy:Xl X.env.scope y)
  (hi:PI X tg iter wi) (hb:∀ C fp s H,PG (fL X ls M scope C fp s H) tg g /\ Vs (fL X ls M scope C fp s H) ifs c /\ PE (fL X ls M scope C fp s H) elt te)
  (hsw:swapsWith (.ListComp elt [⟨tg,iter,ifs,0⟩] scope pos) (some (.Name y py)) spos.line X.env=pure true:=by rfl)
  (hs:∀ x,foldedSetIterable iter X.env x=pure x:=by intro _; rfl) (hf:X.fn y=true ∨ X.env.scope.names.lookup y=some .local:=by first | exact .inl rfl | exact .inr rfl) :
  PS X (.Assign [.Name y py] (.ListComp elt [⟨tg,iter,ifs,0⟩] scope pos) spos) (Qc (OD ls.length wi g c te) (oG i)):=by
 intro pins s σ H D I h
 rw [exec_Assign_Name_used _ _ _ _ hsw]
 refine wpAny_bind (wpAny_standAt (wpAny_bind ?_))
 show wpAny _ X.A (do let _ <- comprehension (.ListComp elt [⟨tg,iter,ifs,0⟩] scope pos) scope X.env _ (newList []) false (eval iter X.env) (some (assign (.Name y py) X.env))) _ _ s
 refine wpAny_bind (wpAny_mono (wpAny_comprehension_free (use:=some (assign (.Name y py) X.env)) (Q:=fun _ s'=>SP X pins D .next s') rfl hs (Dv S I.ok) S.kind S.loc (eN (hi pins s σ H _ I h) fun xv s1 h1=>eN h1 fun itv s2 h2=>?_)) (fun _ s' hq=>wpAny_pure (wpAny_pure hq)) fun _ _ e=>e)
 obtain ⟨it,fp,tn,J,H2,e,I2,T,st2,f2,hW⟩:=h2
 subst e
 refine xC (RR:=fun acc C=>compPost (model X.prog X.w) X.A X.xe (some (assign (.Name y py) X.env)) (fun _ s'=>SP X pins D .next s') acc C) hc S nl hb I2 T st2 f2 hW fun Dl C H' s' I' o q=>?_
 show wpAny _ X.A (assign (.Name y py) X.env (.ref Dl)) _ _ _
 refine wpAny_assign_Name (xJ I' hN hiy hy (v:=.ref Dl) rfl (fun s'' I'' ⟨a,hsa,ha⟩=>?_) hf)
 have hCa:C ≠ a:=by
  rcases ha with z | z
  ·rw [z]; exact o.ne
  ·exact Ne.symm (o.cells y a z)
 obtain ⟨m,hm⟩:=o.ns
 have o2:Ls X pins H' C s'':=⟨⟨m,hm.sameBut hsa hCa⟩,o.none,o.ne,o.young,o.cells,o.pins⟩
 exact ⟨m,hm.sameBut hsa hCa,fun h' hs'=>⟨_,H',I''.gone o2 hs',q⟩⟩
end
def CW (n:Nat) (Pv:Nat->St->Hp->Prop) (i m:Nat) (τ : St) (H:Hp):Prop:=m=n - i /\ i <= n /\ Pv i τ H
theorem bG {n i m:Nat}{Pv:Nat->St->Hp->Prop}{τ : St}{H4:Hp}{D:Addr}{ys:List V}{y:V} (hm:m=n - i) (hi:i < n) (e1:H4 D=some (.lst ys)) (e2:ys.length < sizeLine) (p:Pv (i + 1) τ (aU H4 D (.lst (ys ++ [y])))) :
  ∃ ys m',m' < m /\ H4 D=some (.lst ys) /\ ys.length < sizeLine /\ CW n Pv (i + 1) m' τ (aU H4 D (.lst (ys ++ [y]))):=⟨ys,n - (i + 1),by omega,e1,e2,rfl,hi,p⟩
theorem nF {n i m:Nat}{Pv:Nat->St->Hp->Prop}{τ : St}{H3:Hp} (hm:m=n - i) (hi:i < n) (p:Pv (i + 1) τ H3):∃ m',m' < m /\ CW n Pv (i + 1) m' τ H3:=⟨n - (i + 1),by omega,rfl,hi,p⟩
theorem lO {k:Nat}{lo:Int}{n:Nat}{g:TG}{c:TT}{te:TE}{σ : St}{H1:Hp}{D:Addr}{Q:VK} (Pv:Nat->St->Hp->Prop) (h0:Pv 0 (List.replicate k none ++ σ) (aU H1 D (.lst [])))
  (hs:∀ i m τ H,m=n - i->i < n->Pv i τ H->g (.int (lo + i)) τ H fun τ2 H2=>c τ2 H2 fun b H3=>if b=true then te τ2 H3 fun y H4=>∃ ys m',m' < m /\ H4 D=some (.lst ys) /\ ys.length < sizeLine /\ CW n Pv (i + 1) m' τ2 (aU H4 D (.lst (ys ++ [y]))) else ∃ m',m' < m /\ CW n Pv (i + 1) m' τ2 H3)
  (hd:∀ τ H,Pv n τ H->Q (.ref D) H):DK k (QC lo n) g c te σ H1 D Q:=by
 refine ⟨CW n Pv,⟨n,rfl,Nat.zero_le _,h0⟩,?_⟩
 rintro i m τ H ⟨hm,hi,p⟩
 by_cases hlt:i < n
 ·refine .inr ⟨hlt,fun x H' y=>?_⟩
  obtain ⟨e,y⟩:=y
  subst e y
  exact hs i m τ _ hm hlt p
 ·have e:i=n:=by omega
  subst e
  exact .inl ⟨Nat.le_refl _,hd τ H p⟩
theorem bY {K:PySem.W.Frag}{a:Addr}{xs:List V}{k:Nat}{g:TG}{c:TT}{te:TE}{σ : St}{H1:Hp}{D:Addr}{Q:VK} (Pv:Nat->St->Hp->Prop) (h0:Pv 0 (List.replicate k none ++ σ) (aU H1 D (.lst [])))
  (hl:∀ i τ H,i <= xs.length->Pv i τ H->bM K H a xs)
  (hs:∀ i m x τ H,m=xs.length - i->i < xs.length->xs[i]? = some x->Pv i τ H->g x τ H fun τ2 H2=>c τ2 H2 fun b H3=>if b=true then te τ2 H3 fun y H4=>∃ ys m',m' < m /\ H4 D=some (.lst ys) /\ ys.length < sizeLine /\ CW xs.length Pv (i + 1) m' τ2 (aU H4 D (.lst (ys ++ [y]))) else ∃ m',m' < m /\ CW xs.length Pv (i + 1) m' τ2 H3)
  (hd:∀ τ H,Pv xs.length τ H->Q (.ref D) H):DK k (RN K a) g c te σ H1 D Q:=by
 refine ⟨CW xs.length Pv,⟨xs.length,rfl,Nat.zero_le _,h0⟩,?_⟩
 rintro i m τ H ⟨hm,hi,p⟩
 have q:=hl i τ H hi p
 by_cases hlt:i < xs.length
 ·refine .inr ⟨⟨xs,xs[i],q,by simp [hlt]⟩,fun x H' y=>?_⟩
  obtain ⟨e,y⟩:=y
  subst e
  exact hs i m x τ _ hm hlt (y xs q) p
 ·have e:i=xs.length:=by omega
  subst e
  exact .inl ⟨⟨xs,q,Nat.le_refl _⟩,hd τ H p⟩
theorem eZ {τ : St}{H:Hp}{A B:Hp->Prop} (h:A H):Q9 τ H (fun b H3=>if b=true then A H3 else B H3):=by
 show (if true=true then A H else B H)
 rw [if_pos rfl]
 exact h
theorem zW {c:Bool}{A B:Prop} (h:c=true) (a:A):if c=true then A else B:=by
 rw [if_pos h]
 exact a
theorem t8 {c:Bool}{A B:Prop} (h:c=false) (b:B):if c=true then A else B:=by
 rw [if_neg (by rw [h]; exact Bool.false_ne_true)]
 exact b
theorem Fb:bootBuiltins "int" = some (.type "int"):=by decide +kernel
theorem zU:bootBuiltins "bool" = some (.type "bool"):=by decide +kernel
theorem gR:bootBuiltins "list" = some (.type "list"):=by decide +kernel
theorem gP:bootBuiltins "tuple" = some (.type "tuple"):=by decide +kernel
theorem MJ:bootBuiltins "dict" = some (.type "dict"):=by decide +kernel
theorem jA:bootBuiltins "len" = some (.builtin "len"):=by decide +kernel
theorem Qn:bootBuiltins "abs" = some (.builtin "abs"):=by decide +kernel
theorem bQ:bootBuiltins "isinstance" = some (.builtin "isinstance"):=by decide +kernel
theorem qI:bootBuiltins "sum" = some (.builtin "sum"):=by decide +kernel
theorem K3:bootBuiltins "max" = some (.builtin "max"):=by decide +kernel
theorem QJ:bootBuiltins "min" = some (.builtin "min"):=by decide +kernel
theorem yK:bootBuiltins "sorted" = some (.builtin "sorted"):=by decide +kernel
theorem Jm:bootBuiltins "all" = some (.builtin "all"):=by decide +kernel
def Dy:List Str->Bool
 | []=>true
 | x :: r=>(r.all fun y=>x != y) && Dy r
theorem cQ:∀ {l:List Str},Dy l=true->l.Nodup
 | [],_=>.nil
 | x :: r,h=>by
  have h':((r.all fun y=>x != y) && Dy r)=true:=h
  rw [Bool.and_eq_true,List.all_eq_true] at h'
  refine List.nodup_cons.mpr ⟨fun z=>?_,cQ h'.2⟩
  have:=h'.1 x z
  simp at this
structure gF (P:Program) (w:World) (K:PySem.W.Frag) (mg:Str->Option Value) (base:Heap) (n:Nat) (x:Str) (ps:List Str) (sp:Sp) (g:Addr) (gd:FuncData):Prop where
 ok:aV P w K mg base eG n g gd ps sp
 bi:bB K gd ps []
 kp:PySem.W.keepIn K (.ref g)=true
 at_:mg x=some (.ref g)
theorem gF.up {P:Program}{w:World}{K:PySem.W.Frag}{mg:Str->Option Value}{base:Heap}{n m:Nat}{x:Str}{ps:List Str}{sp:Sp}{g:Addr}{gd:FuncData} (c:gF P w K mg base n x ps sp g gd) (h:n <= m):gF P w K mg base m x ps sp g gd:=⟨c.ok.mono h,c.bi,c.kp,c.at_⟩
theorem aN {X:Cx}{n:Nat}{x:Str}{ps:List Str}{sp:Sp}{g:Addr}{gd:FuncData}{p pos:Pos}{e:Expr}{es:List Expr}{t:TA} (c:gF X.prog X.w X.K X.mg X.base n x ps sp g gd) (hr:eV n X.A) (ha:PA X (e :: es) t) (hg:Gl X x:=by rfl)
  (hd:(x == ("__debug__" : Str))=false:=by decide) (he:starEach (e :: es) X.env=(false,eval e X.env) :: starEach es X.env:=by rfl) (hpl:(backTo pos (starEach es X.env)).any (·.1)=false:=by rfl) :
  PE X (.Call (.Name x p) (e :: es) [] pos) (BZ sp [] E0 t):=zN c.ok hr hg c.at_ c.kp c.bi .nil c7 ha hd he hpl
theorem aM.tup {K:PySem.W.Frag}{H H':Hp}{a:Addr}{xs:List V} (e:aM H H') (h:bZ K H a xs):bZ K H' a xs:=by
 rcases h with (h | ⟨o,h⟩) | h
 ·exact .inl (.inl (e _ _ h))
 ·exact .inl (.inr ⟨o,e _ _ h⟩)
 ·exact .inr h
theorem aG {H:Hp}{p:Addr} (h:H p=none) (o:HO):aM H (aU H p o):=fun b u q=>by rw [aH (aO q h)]; exact q
theorem aM.upd_new {H H':Hp}{p:Addr} (s:aM H H') (h:H p=none) (o:HO):aM H (aU H' p o):=fun b u q=>by rw [aH (aO q h)]; exact s b u q
theorem Kl {L:List Int}{i:Int} (h0:0 <= i) (h1:i < (L.length:Int)):Gk (L.map V.int) i=some (.int (L.getD i.toNat 0)):=by
 have hi:i.toNat < L.length:=by omega
 have e:i=((i.toNat:Nat):Int):=by omega
 have q:Gk (L.map V.int) ((i.toNat:Nat):Int)=some (.int (L.getD i.toNat 0)):=dG (by rw [List.getElem?_map,List.getElem?_eq_getElem hi,fQ hi] <;> rfl)
 rw [<- e] at q
 exact q
end L2
namespace L2
open PySem PySem.Spec PyProof.Rows
section
variable {X:Cx}{pins:List (Addr × Obj)}{σ : St}{H:Hp}{s:Shared}
theorem aY.track {a:Addr}{o:HO} (I:aY X pins σ H s) (f:lG X pins H a) (hy:X.s₀.heap.objs.size <= a) (new:dO X.prog X.w (aU H a o) s.heap a o):aY X pins σ (aU H a o) s:=by
 obtain ⟨f0,f1,f2,f3,f4,f5⟩:=f
 have ne:∀ b u,H b=some u->b ≠ a:=fun b u e=>aO e f0
 refine ⟨I.ok,I.os,I.bare,⟨I.base.keep,I.base.slot,fun b ob e n hx=>?_,I.base.there,fun b xs e=>?_,fun b ob u e=>?_,fun b ps e=>?_⟩,I.loc,I.cell,?_,fun x c e=>?_,fun p hp=>?_,fun b u e=>?_,I.len⟩
 ·rw [aH (Nat.ne_of_lt (Nat.lt_of_lt_of_le (Heap.lt_size e) hy))]
  exact I.base.free b ob e n hx
 ·have q:=I.base.tups b xs e
  rw [aH (ne _ _ q)]; exact q
 ·have q:=I.base.frzs b ob u e
  rw [aH (ne _ _ q)]; exact q
 ·obtain ⟨m,q⟩:=I.base.tbls b ps e
  exact ⟨m,by rw [aH (ne _ _ q)]; exact q⟩
 ·rw [aH (Ne.symm f1)]; exact I.free
 ·rw [aH (f4 x c e)]; exact I.freeC x c e
 ·obtain ⟨g1,g2,g3,g4,g5⟩:=I.pin p hp
  exact ⟨g1,by rw [aH (f5 p hp)]; exact g2,g3,g4,g5⟩
 ·by_cases hb:b=a
  ·subst hb; rw [aB] at e; cases e; exact new
  ·rw [aH hb] at e
   exact (I.hok b u e).stay (fun _ _ _ q=>q) (fun c q=>by rw [aH (ne _ _ q)]; exact q) fun c xs q=>by rw [aH (ne _ _ q)]; exact q
theorem lG.pin {b:Addr}{o:Obj} (f:lG X pins H b) (e:s.heap.get? b=some o) (d:∀ v,o.data ≠ .cell v):s.heap.get? b=some o /\ H b=none /\ b ≠ X.env.locals /\ b ∉ X.fs /\ ∀ v,o.data ≠ .cell v:=⟨e,f.1,f.2.1,f.2.2.1,d⟩
def Mq (X:Cx) (pins:List (Addr × Obj)) (σ : St) (H:Hp) (A:Around) (f v:Value) (k:Int):Prop :=
 ∀ (more:List (Addr × Obj)) (s:Shared),aY X (pins ++ more) σ H s->wpAny (model X.prog X.w) A (call f [v]) (fun r s'=>(∃ t,r=Value.int k t) /\ aY X (pins ++ more) σ H s') (fun _ _=>False) s
variable {A:Around}{E:Value->Shared->Prop}{P:PySem.Fin->Shared->Prop}{a kS:Addr}{b:Bool}{vs:List Value}{kz:List Int}{keys:Array Value}{e e1:Nat}{f:Value}
theorem Cg {st:SortSt} (I:aY X pins σ H s) (fk:lG X pins H kS) (fa:lG X pins H a) (hka:kS ≠ a) (ek:s.heap.get? kS=some (seqObj "list" keys e)) (ea:s.heap.get? a=some (seqObj "list" #[] e1))
  (hk:IntsAre keys.toList kz) (hlen:kz.length=vs.length) (h64:vs.length < 64) (hp:(arrOf st).Perm (keys.zip vs.toArray)) (hs:SortedTo (arrOf st) (arrOf st).size) (hfl:failedOf st=none)
  (done:∀ s' out c,aY X pins σ H s'->s'.heap.get? a=some (seqObj "list" out c)->KskOut b kz vs out.toList->P (.done (.ret .none)) s') :
  wpAny (model X.prog X.w) A (ksk_tail a b e1 (.ref kS) st) P E s:=by
 have hsz:keys.size=vs.length:=by
  have h1:=hk.length
  rw [Array.length_toList] at h1
  omega
 have hsz2:(arrOf st).size=vs.length:=by
  have z:(arrOf st).size=(keys.zip vs.toArray).size:=hp.size_eq
  have z2:(keys.zip vs.toArray).size=vs.length:=by rw [Array.size_zip,hsz]; simp
  exact z.trans z2
 have ko:=ksk_out (b:=b) hk hp hs
 have hout:(if b=true then ((arrOf st).map (·.2)).reverse else (arrOf st).map (·.2)).size=vs.length:=by
  cases b <;> simp [hsz2]
 generalize hO:(if b=true then ((arrOf st).map (·.2)).reverse else (arrOf st).map (·.2))=out at ko hout
 have I1:aY X pins σ H { s with heap:=s.heap.update kS (Obj.mapSeq fun _=>(#[]:Array Value)) } :=
  I.turned (t':=s.toks) (fun b o hb q=>((Heap.SameBut.update s.heap kS _).2 b hb).trans q) fk.1 fk.2.1 fk.2.2.2.1 fk.2.2.2.2.1 fk.2.2.2.2.2
 have ea1:(s.heap.update kS (Obj.mapSeq fun _=>(#[]:Array Value))).get? a=some (seqObj "list" #[] e1):=((Heap.SameBut.update s.heap kS _).2 a (Ne.symm hka)).trans ea
 have I2:aY X pins σ H { s with heap:=(s.heap.update kS (Obj.mapSeq fun _=>(#[]:Array Value))).update a (Obj.mapSeq fun _=>out) } :=
  I1.turned (t':=s.toks) (fun b o hb q=>((Heap.SameBut.update _ a _).2 b hb).trans q) fa.1 fa.2.1 fa.2.2.2.1 fa.2.2.2.2.1 fa.2.2.2.2.2
 unfold ksk_tail
 dsimp only
 refine wpAny_bind (listUpdate_at ek rfl ?_ (by rw [hsz]; exact Nat.le_trans (Nat.le_of_lt h64) (by decide)) (Nat.zero_le _))
 refine wpAny_bind (wpAny_letGo ?_)
 refine wpAny_bind (seqEpoch_at ea1 rfl ?_)
 rw [hO]
 refine wpAny_bind (listUpdate_at ea1 rfl ?_ (Nat.zero_le _) (by rw [hout]; exact Nat.le_trans (Nat.le_of_lt h64) (by decide)))
 rw [hfl]
 simp only [bne_self_eq_false,Bool.false_eq_true,if_false]
 exact wpAny_pure (done _ out _ I2 (get?_update_seq ea1 fun _=>out) ko)
theorem NK (I:aY X pins σ H s) (fk:lG X pins H kS) (fa:lG X pins H a) (hka:kS ≠ a) (ek:s.heap.get? kS=some (seqObj "list" keys e)) (ea:s.heap.get? a=some (seqObj "list" #[] e1))
  (hk:IntsAre keys.toList kz) (hlen:kz.length=vs.length) (h64:vs.length < 64)
  (done:∀ s' out c,aY X pins σ H s'->s'.heap.get? a=some (seqObj "list" out c)->KskOut false kz vs out.toList->P (.done (.ret .none)) s') :
  wpAny (model X.prog X.w) A (ksk_end a false vs.toArray e1 (.ref kS) keys) P E s:=by
 have hsz:keys.size=vs.length:=by
  have h1:=hk.length
  rw [Array.length_toList] at h1
  omega
 have hzs:(keys.zip vs.toArray).size=vs.length:=by rw [Array.size_zip,hsz,List.size_toArray]; omega
 unfold ksk_end
 dsimp only
 simp only [Bool.false_eq_true,if_false]
 by_cases h2:vs.toArray.size < 2
 ·rw [if_pos h2,if_pos h2]
  refine wpAny_bind (wpAny_pure ?_)
  rw [StateT.run_pure]
  refine wpAny_bind (wpAny_pure ?_)
  refine Cg (st:=SortSt.mk' general' (keys.zip vs.toArray) #[] 7 none) I fk fa hka ek ea hk hlen h64 (Array.Perm.refl _) (fun i j hij hj=>?_) rfl done
  have hj':j < (keys.zip vs.toArray).size:=hj
  rw [hzs] at hj'
  rw [List.size_toArray] at h2
  have z:i=j:=by omega
  rw [z]
  exact Int.le_refl _
 ·rw [if_neg h2,if_neg h2]
  rw [List.size_toArray] at h2
  rw [ksk_kind hk (by omega)]
  refine wpAny_bind (wpAny_pure ?_)
  refine wpAny_bind (wpAny_mono (wpS_sortRuns (a₀:=keys.zip vs.toArray) (st:=SortSt.mk' oneType' (keys.zip vs.toArray) #[] 7 none)
   (Q:=fun _ t=>(arrOf t).Perm (keys.zip vs.toArray) /\ failedOf t=none /\ SortedTo (arrOf t) (keys.zip vs.toArray).size)
   (ksk_intKeys hk) ⟨Array.Perm.refl _,rfl,rfl,rfl⟩ (by omega) (by omega) fun t z1 z2 z3=>⟨z1,z2,z3⟩) ?_ fun _ _ z=>z)
  rintro ⟨⟨⟩,t⟩ s2 ⟨rfl,p1,p2,p3⟩
  exact Cg I fk fa hka ek ea hk hlen h64 p1 (by rw [p1.size_eq]; exact p3) p2 done
theorem Iw (I:aY X pins σ H s) (fk:lG X pins H kS) (fa:lG X pins H a) (hka:kS ≠ a) (ek:s.heap.get? kS=some (seqObj "list" #[] 0)) (ea:s.heap.get? a=some (seqObj "list" #[] e1))
  (hlen:kz.length=vs.length) (h64:vs.length < 64) (turn:∀ (i:Nat) v k,vs[i]? = some v->kz[i]? = some k->Mq X pins σ H A f v k)
  (done:∀ s' out c,aY X pins σ H s'->s'.heap.get? a=some (seqObj "list" out c)->KskOut false kz vs out.toList->P (.done (.ret .none)) s') :
  wpAny (model X.prog X.w) A (ksk_rest a f false vs.toArray e1 (.ref kS)) P E s:=by
 unfold ksk_rest
 refine wpAny_bind (wpAny_rule ?_)
 rw [List.forIn_toArray]
 refine wpAny_bind (ksk_fold (fun i s'=>aY X pins σ H s' /\ s'.heap.get? a=some (seqObj "list" #[] e1) /\ ∃ kA e,s'.heap.get? kS=some (seqObj "list" kA e) /\ IntsAre kA.toList (kz.take i)) vs 0 s ⟨I,ea,#[],0,ek,by simpa using IntsAre.nil⟩ ?step ?fin)
 case step =>
  rintro j x s1 hx ⟨I1,ea1,kA,e,ek1,hk⟩
  rw [Nat.zero_add] at hk ⊢
  have hj:j < vs.length:=(List.getElem?_eq_some_iff.mp hx).1
  have hkj:kz[j]? = some kz[j]:=List.getElem?_eq_getElem (by omega)
  have hz:kA.size <= vs.length:=by
   have h1:=hk.length
   rw [Array.length_toList,List.length_take] at h1
   omega
  have I2:aY X (pins ++ [(kS,seqObj "list" kA e),(a,seqObj "list" #[] e1)]) σ H s1:=I1.pins_of fun p hp=>by
   rcases List.mem_append.mp hp with z | z
   ·exact I1.pin p (List.mem_append_right _ z)
   ·rcases List.mem_cons.mp z with z | z
    ·subst z; exact fk.pin ek1 fun v q=>nomatch q
    ·rw [List.mem_singleton.mp z]; exact fa.pin ea1 fun v q=>nomatch q
  refine wpAny_bind (wpAny_attempt (wpAny_mono (turn j x _ hx hkj _ s1 I2) (fun v s2 h2=>?_) fun _ _ z=>z.elim))
  obtain ⟨⟨t,rfl⟩,I3⟩:=h2
  have ek2:=(I3.pin (kS,seqObj "list" kA e) (List.mem_append_right _ (List.mem_append_right _ (.head _)))).1
  have ea2:=(I3.pin (a,seqObj "list" #[] e1) (List.mem_append_right _ (List.mem_append_right _ (.tail _ (.head _))))).1
  have I4:=I3.unpinned
  refine wpAny_bind (listUpdate_at ek2 rfl ?_ (Nat.le_trans hz (Nat.le_trans (Nat.le_of_lt h64) (by decide))) (Nat.le_trans (Nat.le_of_eq (Array.size_push ..)) (Nat.succ_le_succ (Nat.le_trans hz (Nat.le_trans (Nat.le_of_lt h64) (by decide))))))
  refine wpAny_pure ⟨rfl,I4.turned (t':=s2.toks) (fun b o hb q=>((Heap.SameBut.update s2.heap kS _).2 b hb).trans q) fk.1 fk.2.1 fk.2.2.2.1 fk.2.2.2.2.1 fk.2.2.2.2.2,((Heap.SameBut.update s2.heap kS _).2 a (Ne.symm hka)).trans ea2,kA.push (.int kz[j] t),_,get?_update_seq ek2 (·.push (.int kz[j] t)),?_⟩
  have q1:kz.take (j + 1)=kz.take j ++ [kz[j]]:=by rw [List.take_add_one,hkj]; rfl
  rw [q1,Array.toList_push]
  exact ksk_snoc hk
 case fin =>
  rintro s1 ⟨I1,ea1,kA,e,ek1,hk⟩
  have hk':IntsAre kA.toList kz:=by
   rw [Nat.zero_add,<- hlen,List.take_length] at hk
   exact hk
  exact wpAny_bind (listItems_at ek1 rfl (NK I1 fk fa hka ek1 ea1 hk' hlen h64 done))
end
end L2
namespace L2
open PySem PySem.Spec PyProof.Rows
section
variable {X:Cx}{pins:List (Addr × Obj)}{σ : St}{H:Hp}{s:Shared}{A:Around}{E:Value->Shared->Prop}{P:PySem.Fin->Shared->Prop}{a:Addr}{vs:List Value}{kz:List Int}{n:Nat}{f:Value}
theorem Jw (I:aY X pins σ H s) (fa:lG X pins H a) (ea:s.heap.get? a=some (seqObj "list" vs.toArray n)) (hlen:kz.length=vs.length) (h64:vs.length < 64)
  (turn:∀ (i:Nat) v k,vs[i]? = some v->kz[i]? = some k->Mq X pins σ H A f v k)
  (done:∀ s' out c,aY X pins σ H s'->s'.heap.get? a=some (seqObj "list" out c)->KskOut false kz vs out.toList->P (.done (.ret .none)) s') :
  wpAny (model X.prog X.w) A (ksk_tree a f false) P E s:=by
 have I1:aY X pins σ H { s with heap:=s.heap.update a (Obj.mapSeq fun _=>(#[]:Array Value)) } :=
  I.turned (t':=s.toks) (fun b o hb q=>((Heap.SameBut.update s.heap a _).2 b hb).trans q) fa.1 fa.2.1 fa.2.2.2.1 fa.2.2.2.2.1 fa.2.2.2.2.2
 have ea1:=get?_update_seq ea fun _=>(#[]:Array Value)
 generalize hh:s.heap.update a (Obj.mapSeq fun _=>(#[]:Array Value))=h1 at I1 ea1
 have I2:aY X pins σ H { s with heap:=(h1.push (seqObj "tuple" vs.toArray 0)).push (seqObj "list" #[] 0) } :=
  I1.kept (t':=s.toks) fun b o q=>Heap.get?_push_of_some _ (Heap.get?_push_of_some _ q)
 have hlt:a < h1.objs.size:=Heap.lt_size ea1
 have hsz:(h1.push (seqObj "tuple" vs.toArray 0)).objs.size=h1.objs.size + 1:=size_push' _ _
 have h64':vs.length <= sizeLine:=Nat.le_trans (Nat.le_of_lt h64) (by decide)
 unfold ksk_tree
 refine wpAny_bind (listItems_at ea rfl ?_)
 refine wpAny_bind (listUpdate_at ea rfl ?_ (by rw [List.size_toArray]; exact h64') (Nat.zero_le _))
 rw [hh]
 refine wpAny_bind (seqEpoch_at (s:={ s with heap:=h1 }) ea1 rfl ?_)
 refine wpAny_bind (wpAny_newTuple ?_ (by simpa using h64'))
 refine wpAny_bind (wpAny_newList ?_ (Nat.zero_le _))
 refine wpAny_holding ?_
 refine Iw (s:={ s with heap:=(h1.push (seqObj "tuple" vs.toArray 0)).push (seqObj "list" #[] 0) }) (kS:=(h1.push (seqObj "tuple" vs.toArray 0)).objs.size) I2 ?_ fa ?_ (Heap.get?_push_size _ rfl) (Heap.get?_push_of_some _ (Heap.get?_push_of_some _ ea1)) hlen h64 turn done
 ·exact I1.fpOk (by rw [hsz]; exact Nat.le_succ _) (I1.hok.fresh (by rw [hsz]; exact Nat.le_succ _))
 ·rw [hsz]
  exact Nat.ne_of_gt (Nat.lt_succ_of_lt hlt)
def Oe:Value->Addr
 | .ref a=>a
 | _=>0
theorem xG:∀ {qs:List Addr}{vs:List Value},bI (qs.map V.ref) vs->vs=qs.map Value.ref
 | [],_,h=>by cases h; rfl
 | q :: qs,_,h=>by
  cases h with
  | cons r t=>rw [xG t,show _=Value.ref q from r]; rfl
theorem qP:∀ (qs:List Addr),bI (qs.map V.ref) (qs.map Value.ref)
 | []=>.nil
 | q :: qs=>.cons rfl (qP qs)
theorem Gy {kz:List Int}{qs:List Addr}{out:List Value} (h:KskOut false kz (qs.map Value.ref) out):∃ ps:List (Int × Addr),ps.Perm (kz.zip qs) /\ out=ps.map (fun p=>Value.ref p.2) /\ ps.Pairwise (fun p q=>p.1 <= q.1):=by
 obtain ⟨ps,hp,ho,hs⟩:=h
 have e0:kz.zip (qs.map Value.ref)=(kz.zip qs).map fun p=>(p.1,Value.ref p.2):=by rw [List.zip_map_right]; exact List.map_congr_left fun ⟨x,y⟩ _=>rfl
 rw [e0] at hp
 have mem:∀ p ∈ ps,p.2=Value.ref (Oe p.2):=fun p hm=>by
  obtain ⟨q,_,rfl⟩:=List.mem_map.mp (hp.mem_iff.mp hm)
  rfl
 refine ⟨ps.map fun p=>(p.1,Oe p.2),?_,?_,?_⟩
 ·have z:=hp.map fun p=>(p.1,Oe p.2)
  rw [List.map_map] at z
  have e1:(kz.zip qs).map ((fun p=>(p.1,Oe p.2)) ∘ fun p=>(p.1,Value.ref p.2))=kz.zip qs:=by
   conv=>rhs; rw [<- List.map_id (kz.zip qs)]
   exact List.map_congr_left fun ⟨x,y⟩ _=>rfl
  rw [e1] at z
  exact z
 ·rw [ho,List.map_map]
  exact List.map_congr_left fun p hm=>mem p hm
 ·rw [List.pairwise_map]
  exact hs
theorem KJ {l fa:Addr}{qs:List Addr}{Q:VK} (I:aY X pins σ H s) (hS:bM X.K H l (qs.map V.ref)) (hlen:kz.length=qs.length) (h64:qs.length < 64)
  (turn:∀ (i:Nat) q k,qs[i]? = some q->kz[i]? = some k->Mq X pins σ H X.A.in1.in1 (.ref fa) (.ref q) k)
  (done:∀ D (ps:List (Int × Addr)),H D=none->ps.Perm (kz.zip qs)->ps.Pairwise (fun p q=>p.1 <= q.1)->Q (.ref D) (aU H D (.lst (ps.map fun p=>V.ref p.2)))) :
  wpAny (model X.prog X.w) X.A (call (.builtin "sorted") [.ref l] [(Str.ofString "key",.ref fa)]) (EP X pins σ Q) E s:=by
 obtain ⟨its,rv,pl,hz⟩:=I.list hS
 have ei:=xG rv
 subst ei
 have hl64:(qs.map Value.ref).length < 64:=by rw [List.length_map]; exact h64
 have h64':(qs.map Value.ref).length <= sizeLine:=Nat.le_trans (Nat.le_of_lt hl64) (by decide)
 refine call_function_entry_kw kind_sorted plain_sorted entry_sorted (ksk_s1 _ _) ?_
 unfold Builtin.«sorted»
 refine wpAny_bind (m:=checkCount "sorted" 1 1 _) (wpAny_pure ?_)
 refine wpAny_bind (collect_list pl.isList ?_ h64')
 refine wpAny_bind (wpAny_newList ?_ h64')
 have up:∀ b o,s.heap.get? b=some o->((s.heap.push (seqObj "list" #[] 0)).update s.heap.objs.size (Obj.mapSeq (· ++ (qs.map Value.ref).toArray))).get? b=some o:=fun b o q =>
  ((Heap.SameBut.update (s.heap.push (seqObj "list" #[] 0)) s.heap.objs.size _).2 b (Nat.ne_of_lt (Heap.lt_size q))).trans (Heap.get?_push_of_some _ q)
 have hsz:((s.heap.push (seqObj "list" #[] 0)).update s.heap.objs.size (Obj.mapSeq (· ++ (qs.map Value.ref).toArray))).objs.size=s.heap.objs.size + 1:=by rw [Heap.size_update,size_push']
 generalize (s.heap.push (seqObj "list" #[] 0)).update s.heap.objs.size (Obj.mapSeq (· ++ (qs.map Value.ref).toArray))=h1 at up hsz
 have I1:aY X pins σ H { s with heap:=h1.push (seqObj "list" (qs.map Value.ref).toArray 0) }:=I.kept (t':=s.toks) fun b o q=>Heap.get?_push_of_some _ (up b o q)
 have fr:H h1.objs.size=none:=I.hok.fresh (by rw [hsz]; exact Nat.le_succ _)
 have fp:lG X pins H h1.objs.size:=I.fpOk (by rw [hsz]; exact Nat.le_succ _) fr
 have yo:X.s₀.heap.objs.size <= h1.objs.size:=Nat.le_trans I.sz (by rw [hsz]; exact Nat.le_succ _)
 have ea:(h1.push (seqObj "list" (qs.map Value.ref).toArray 0)).get? h1.objs.size=some (seqObj "list" (qs.map Value.ref).toArray 0):=Heap.get?_push_size _ rfl
 refine wpAny_bind (wpAny_holding (wpAny_call_entry_kw PyProof.Rows.slot_list_sort ⟨_,ea,rfl⟩ PyProof.Rows.entry_list_sort ?body (ksk_l1 _ _)))
 case body =>
  show wpAny (model X.prog X.w) X.A.in1.in1 (Builtin.«list.sort» ⟨[.ref h1.objs.size],[(Str.ofString "key",.ref fa)]⟩) _ _ _
  rw [ksk_t1]
  refine Jw (kz:=kz) (s:={ s with heap:=h1.push (seqObj "list" (qs.map Value.ref).toArray 0) }) I1 fp ea (by rw [List.length_map]; exact hlen) hl64 (fun i v k hv hk=>?_) fun s2 out c I2 e2 ko=>⟨_,rfl,?_⟩
  ·rw [List.getElem?_map] at hv
   cases eq:qs[i]? with
   | none=>rw [eq] at hv; cases hv
   | some q =>
    rw [eq] at hv
    cases hv
    exact turn i q k eq hk
  ·obtain ⟨ps,hp,ho,hs⟩:=Gy ko
   have hpl:ps.length=qs.length:=by
    rw [hp.length_eq,List.length_zip,hlen,Nat.min_self]
   refine wpAny_pure ⟨_,rfl,.ref h1.objs.size,_,I2.track (o:=.lst (ps.map fun p=>V.ref p.2)) fp yo ⟨?_,out.toList,c,?_,?_⟩,rfl,done _ ps fr hp hs⟩
   ·rw [List.length_map,hpl]
    exact Nat.le_trans (Nat.le_of_lt h64) (by decide)
   ·rw [ho]
    have z:=qP (ps.map Prod.snd)
    rw [List.map_map,List.map_map] at z
    exact z
   ·rw [Array.toArray_toList]
    exact e2
end
end L2
namespace L2
open PySem PySem.Spec PyProof.Rows
def Gh (X:Cx) (A:Around) (p:Str) (M:List Str) (scope:Scope) (qual:Str) (f c':Addr) (s:Shared) (H:Hp):Cx where
 prog:=X.prog
 w:=X.w
 K:=X.K
 mg:=X.mg
 base:=X.base
 A:=A.deeper (PySem.W.envX qual scope s.heap.objs.size f (.ref c') (fV X.env scope.names []))
 N:=p :: M
 s₀:=s
 H₀:=H
 env:=PySem.W.envX qual scope s.heap.objs.size f (.ref c') (fV X.env scope.names [])
 outer:=X.stack
 stack:=PySem.W.envX qual scope s.heap.objs.size f (.ref c') (fV X.env scope.names []) :: X.stack
 ex:=[]
 fn:=fun _=>false
 calm:=true
 pn:=[]
 xe:=fun _ _=>False
abbrev u9 (c':Addr) (qual:Str):HO:=.ext fun h=>h.CodeRec (.ref c') qual
section
variable {X:Cx}{pins:List (Addr × Obj)}{σ : St}{H:Hp}{A:Around}{p qual:Str}{M:List Str}{scope:Scope}{params:Arguments}{body:Expr}{pm ctv:Value}{c' f:Addr}{te:TE}
theorem Mh (hA:A.frames=some X.stack) (hd:A.handled=none) (hdep:A.depth < recursionLimit) (S:bR X.env.scope scope) (nl:NL X.N M scope) (hp:scope.names.lookup p=some .local)
  (hco:scope.isCoroutine=false) (hgen:scope.isGenerator=false) (hbind:∀ (cl:List (Str × Addr)) (pm cdv ctv u:Value),bindArgs (PySem.W.kla_fn "<lambda>" qual params body scope cl pm cdv ctv) ⟨[u],[]⟩ = pure [(p,u)])
  (hb:∀ f c' s H,PE (Gh X A p M scope qual f c' s H) body te) {x:V}{u:Value}{k:Int} (rx:bL x u) (hf:(f,PySem.W.kla_obj "<lambda>" qual params body scope (fV X.env scope.names []) pm c' ctv) ∈ pins)
  (hcr:H c'=some (u9 c' qual)) (h:te (some x :: σ) H fun r H'=>r = .int k /\ H'=H):Mq X pins σ H A (.ref f) u k:=by
 intro more s I
 have hcd:s.heap.CodeRec (.ref c') qual:=(I.hok c' _ hcr).1
 have ho:=(I.pin _ (List.mem_append_right _ (List.mem_append_left _ hf))).1
 have sub:∀ x a,(fV X.env scope.names []).lookup x=some a->X.env.cells.lookup x=some a:=fun x a e=>by
  rcases rG _ _ _ (PySem.mem_of_lookup e) with z | z
  ·exact absurd z (by simp)
  ·exact z
 have kin:∀ x,scope.names.lookup x=some .free->X.env.kindOf x=some .cell ∨ X.env.kindOf x=some .free:=fun x e=>S.free (x,.free) (PySem.mem_of_lookup e) rfl
 have has:∀ x a,scope.names.lookup x=some .free->X.env.cells.lookup x=some a->(fV X.env scope.names []).lookup x=some a:=fun x a e ec=>by
  obtain ⟨d,hd⟩:=kJ (rD ec scope.names [] (PySem.mem_of_lookup e))
  have:=sub x d hd
  rw [ec] at this
  cases this
  exact hd
 have nocell:∀ x,scope.names.lookup x ≠ some .cell:=fun x e=>S.nocell _ (PySem.mem_of_lookup e) rfl
 refine wpAny_call (PySem.W.kla_callFunE hdep ho rfl hco hgen rfl hcd ?_)
 rw [hbind]
 refine wpAny_pure (wpAny_newFunctionEnv S.nocell (fun y hy=>?_) (fun h₁ hns hsb=>⟨?_,?_⟩) S.kind)
 ·rw [List.mem_singleton.mp hy]; exact hp
 ·exact I.nolimit.keeps fun b o e=>hsb.extBut b o (Nat.ne_of_lt (Heap.lt_size e)) (Heap.get?_push_of_some _ e)
 have old:∀ b o,s.heap.get? b=some o->h₁.get? b=some o:=fun b o e=>hsb.extBut b o (Nat.ne_of_lt (Heap.lt_size e)) (Heap.get?_push_of_some _ e)
 have okY:(Gh X A p M scope qual f c' s H).Ok:=by
  refine ⟨I.ok.mod,S.kind,rfl,rfl,Nat.le_refl _,fun x y a h1 h2=>I.ok.inj x y a (sub x a h1) (sub y a h2),fun x hx=>?_,(fun x a h=>nomatch h),fun _=>hd,Around.frames_deeper hA,.inr ⟨rfl,rfl⟩,(fun b hb'=>nomatch hb'),
   I.bs,Nat.le_trans I.ok.bsz I.sz,(fun b o e hb'=>nomatch hb'),(fun b hb'=>nomatch hb'),I.stack,I.stkFree⟩
  have hf:scope.names.lookup x=some .free:=by
   rcases hx with hx | hx
   ·exact absurd hx (nocell x)
   ·exact hx
  obtain ⟨a,ea⟩:=I.ok.has x (kin x hf)
  exact ⟨a,has x a hf ea⟩
 have IY:aY (Gh X A p M scope qual f c' s H) [] (some x :: σ) H { s with heap:=h₁,toks:=s.toks + [(p,u)].length }:=by
  refine ⟨okY,rfl,I.bare,Un.kept old,⟨_,hns,fun i y v e1 e2 e3=>?_⟩,fun y a e=>?_,I.hok.fresh (Nat.le_refl _),fun y a e=>I.freeC y a (sub y a e),(fun q hq=>nomatch hq),I.hok.kept old,?_⟩
  ·cases i with
   | zero =>
    have e1':some p=some y:=e1
    have e2':some (some x)=some (some v):=e2
    cases e1'
    cases e2'
    refine ⟨u,rx,.inl ⟨hp,?_⟩⟩
    show List.lookup p [(p,u)]=some u
    simp
   | succ i =>
    have e0:M[i]? = some y:=e1
    have e2':σ[i]? = some (some v):=e2
    have hf:scope.names.lookup y=some .free:=by
     rcases e3 with e3 | e3 | e3
     ·exact absurd e3 (nl.loc _ y e0)
     ·exact absurd e3 (nocell y)
     ·exact e3
    have hk:=kin y hf
    obtain ⟨m,hn,hl⟩:=I.loc
    obtain ⟨z,rz,lk⟩:=hl i y v (nl.free _ y e0 hf) e2' (hk.elim (fun z=>.inr (.inl z)) fun z=>.inr (.inr z))
    refine ⟨z,rz,.inr ⟨.inr hf,?_⟩⟩
    rcases lk with ⟨q,_⟩ | ⟨_,a,ea,o,eo,hdd⟩
    ·rcases hk with hk | hk <;> (rw [hk] at q; cases q)
    ·exact ⟨a,has y a hf ea,o,old a o eo,hdd⟩
  ·obtain ⟨v,o,eo,hdd⟩:=I.cell y a (sub y a e)
   exact ⟨v,o,old a o eo,hdd⟩
  ·show σ.length + 1=M.length + 1
   rw [I.len,nl.len]
 refine PySem.W.kla_codeExpr (wpAny_mono (hb f c' s H [] _ (some x :: σ) H _ IY h) (fun r s2 h2=>?_) fun _ _ z=>z.elim)
 obtain ⟨v,H2,J,rv,hv,hH⟩:=h2
 subst hv hH
 exact ⟨rv,I.call' (ch:=[]) J.os J.base J.hok J.bare (fun b hb'=>nomatch hb')⟩
end
end L2
namespace L2
open PySem PySem.Spec PyProof.Rows
def Py (pos:Pos) (c':Addr):Array Value:=#[rawInt pos.line,rawInt pos.col,.ref c']
def RK (P:Addr) (pos:Pos) (qual:Str) (c':Addr) (H:Hp):Prop:=H P=some (.tbl (Py pos c')) /\ H c'=some (u9 c' qual)
def fJ (P:Addr) (pos:Pos) (qual:Str) (H:Hp):Prop:=H P=some (.tbl #[]) ∨ ∃ c',RK P pos qual c' H
def cD (P:Addr) (H H':Hp):Prop:=∀ b o,b ≠ P->H b=some o->H' b=some o
theorem cD.refl {P:Addr} (H:Hp):cD P H H:=fun _ _ _ e=>e
theorem cD.trans {P:Addr}{H H1 H2:Hp} (a:cD P H H1) (b:cD P H1 H2):cD P H H2:=fun c o n e=>b c o n (a c o n e)
theorem aM.toT {P:Addr}{H H':Hp} (a:aM H H'):cD P H H':=fun b o _ e=>a b o e
theorem cD.free {P:Addr}{H H':Hp} (a:cD P H H') {l:Addr} (h:H' l=none) (hP:∃ ps,H' P=some (.tbl ps)):H l=none:=by
 cases q:H l with
 | none=>rfl
 | some o =>
  by_cases e:l=P
  ·obtain ⟨ps,z⟩:=hP
   rw [e,z] at h; cases h
  ·rw [a l o e q] at h; cases h
theorem cD.upd_new {P:Addr}{H H':Hp}{p:Addr} (s:cD P H H') (h:H p=none) (o:HO):cD P H (aU H' p o):=fun b u n q=>by rw [aH (aO q h)]; exact s b u n q
theorem fJ.at_ {P:Addr}{pos:Pos}{qual:Str}{H:Hp} (t:fJ P pos qual H):∃ ps,H P=some (.tbl ps):=by
 rcases t with t | ⟨c,t,_⟩
 ·exact ⟨_,t⟩
 ·exact ⟨_,t⟩
theorem cD.get {P:Addr}{pos:Pos}{qual:Str}{H H':Hp} (a:cD P H H') (t:fJ P pos qual H) {b:Addr}{o:HO} (e:H b=some o) (n:∀ ps,o ≠ .tbl ps):H' b=some o:=by
 obtain ⟨ps,z⟩:=t.at_
 exact a b o (bC e z (n ps)) e
theorem fJ.same {P:Addr}{pos:Pos}{qual:Str}{H H':Hp} (t:fJ P pos qual H) (s:aM H H'):fJ P pos qual H':=by
 rcases t with t | ⟨c,t,u⟩
 ·exact .inl (s _ _ t)
 ·exact .inr ⟨c,s _ _ t,s _ _ u⟩
theorem cD.lst {K:PySem.W.Frag}{P:Addr}{pos:Pos}{qual:Str}{H H':Hp} (a:cD P H H') (t:fJ P pos qual H) {b:Addr}{xs:List V} (h:bM K H b xs):bM K H' b xs:=by
 rcases h with (h | ⟨o,h⟩) | h
 ·exact .inl (.inl (a.get t h fun _ z=>nomatch z))
 ·exact .inl (.inr ⟨o,a.get t h fun _ z=>nomatch z⟩)
 ·exact .inr h
theorem Ij {h h':Heap}{mg:Str->Option Value}{P:Addr} (b:h.BuiltinsAt mg P) (k:∀ a o,h.get? a=some o->h'.get? a=some o):h'.BuiltinsAt mg P:=by
 obtain ⟨bm,o,b1,b2,b3,b4,b5,b6⟩:=b
 exact ⟨bm,o,b1,b2,b3,b4,k _ _ b5,b6⟩
theorem Ad {c':Addr}{qual:Str}:∀ h1 h2:Heap,h1.CodeRec (.ref c') qual->(∀ o,h1.get? c'=some o->h2.get? c'=some o)->h2.CodeRec (.ref c') qual:=fun h1 h2 ⟨c,oc,vs,t,e,g,r⟩ k=>by
 cases e
 exact ⟨_,oc,vs,t,rfl,k _ g,r⟩
section
variable {X:Cx}{pins:List (Addr × Obj)}{σ : St}{H:Hp}{s:Shared}{E:Value->Shared->Prop}{c P:Addr}{pos:Pos}{params:Arguments}{body:Expr}{scope:Scope}{Q:Value->Shared->Prop}
theorem J7 (I:aY X pins σ H s) (hcode:X.env.code = .ref c) (C:PySem.W.CodeHd X.base c P) (B:X.base.BuiltinsAt X.mg P) (T:fJ P pos (X.env.qual ++ "<lambda>") H) (S:bR X.env.scope scope) (hdef:defaultsOf params X.env=([],[]))
  (q:∀ f c' pm ctv H' s',cD P H H'->RK P pos (X.env.qual ++ "<lambda>") c' H'->aY X (pins ++ [(f,PySem.W.kla_obj "<lambda>" (X.env.qual ++ "<lambda>") params body scope (fV X.env scope.names []) pm c' ctv)]) σ H' s'->Q (.ref f) s') :
  wpAny (model X.prog X.w) X.A (eval (.Lambda params body scope pos) X.env) Q E s:=by
 have hcl:=Dv S I.ok
 have hg:=I.ok.mod.glob.keeps I.bk
 have hB:=Ij B I.bk
 obtain ⟨ps0,hP0⟩:=T.at_
 have hgP:mainGlobals ≠ P:=fun z=>by
  obtain ⟨o,es,ep,e,_⟩:=I.ok.mod.glob
  have:=(I.bs _ o e).2
  rw [z,hP0] at this
  cases this
 refine PySem.W.kla_eval hdef ?_
 rcases T with T | ⟨c',T,U⟩
 ·have hP:s.heap.get? P=some (PySem.W.tabObj #[]):=I.hok P _ T
  refine PySem.W.kla_makeFunction (mg:=X.mg) hcl I.ok.glob hg hcode (C.keeps I.bk) hP trivial rfl hgP hB fun c' ctv h' tk hx hge hlt hrec htb=>?_
  have cn:H c'=none:=I.hok.fresh hge
  have cP:c' ≠ P:=Ne.symm (aO T cn)
  have new1:∀ b o,b ≠ P->s.heap.get? b=some o->(h'.push (PySem.W.kla_obj "<lambda>" (X.env.qual ++ "<lambda>") params body scope (fV X.env scope.names []) ((X.mg "__name__").getD .none) c' ctv)).get? b=some o:=fun b o hb e=>Heap.get?_push_of_some _ (hx b o hb e)
  have nP:∀ b,H b=none->b ≠ P:=fun b n z=>by rw [z,T] at n; cases n
  have ups:∀ b u,H b=some u->(∀ ps,u ≠ .tbl ps)->aU (aU H P (.tbl (Py pos c'))) c' (u9 c' (X.env.qual ++ "<lambda>")) b=some u:=fun b u e nt=>by
   rw [aH (aO e cn),aH (bC e T (nt _))]; exact e
  have hfresh:H h'.objs.size=none:=I.hok.fresh (Nat.le_trans hge (Nat.le_of_lt hlt))
  have I1:aY X pins σ (aU (aU H P (.tbl (Py pos c'))) c' (u9 c' (X.env.qual ++ "<lambda>"))) { s with heap:=h'.push (PySem.W.kla_obj "<lambda>" (X.env.qual ++ "<lambda>") params body scope (fV X.env scope.names []) ((X.mg "__name__").getD .none) c' ctv),toks:=tk }:=by
   refine I.un (t':=tk) ⟨fun b o e n _ _=>new1 b o (nP b n) e,fun b o e n _ _=>⟨o.slots,new1 b o (nP b n) e⟩,fun b o e n _=>?_,fun b o e _=>?_,fun b xs e=>ups b _ e (fun _ z=>nomatch z),fun b o u e=>ups b _ e (fun _ z=>nomatch z),fun b ps e=>?_⟩ fun b u e=>?_
   ·rw [aH (Nat.ne_of_lt (Nat.lt_of_lt_of_le (Heap.lt_size e) hge)),aH (nP b n)]; exact n
   ·by_cases z:b=P
    ·rw [z]; exact ⟨_,Heap.get?_push_of_some _ htb⟩
    ·exact ⟨o,new1 b o z e⟩
   ·by_cases z:b=P
    ·rw [z,T] at e
     cases e
     refine ⟨Py pos c',?_⟩
     rw [z,aH (Ne.symm cP),aB]
     simp
    ·exact ⟨#[],by rw [aH (aO e cn),aH z,e]; simp⟩
   ·by_cases z:b=c'
    ·subst z
     rw [aB] at e
     cases e
     obtain ⟨c2,oc,vs,t,e2,g2,r2⟩:=hrec
     cases e2
     exact ⟨⟨_,oc,vs,t,rfl,Heap.get?_push_of_some _ g2,r2⟩,⟨oc,Heap.get?_push_of_some _ g2⟩,Ad⟩
    ·rw [aH z] at e
     by_cases z2:b=P
     ·subst z2
      rw [aB] at e
      cases e
      have q2:=Heap.get?_push_of_some (PySem.W.kla_obj "<lambda>" (X.env.qual ++ "<lambda>") params body scope (fV X.env scope.names []) ((X.mg "__name__").getD .none) c' ctv) htb
      rw [Array.empty_append] at q2
      exact q2
     ·rw [aH z2] at e
      refine (I.hok b u e).stay (fun d v hd r=>new1 d v ?_ r) (fun d r=>ups d _ r fun _ z=>nomatch z) fun d xs r=>ups d _ r fun _ z=>nomatch z
      rcases hd with z3 | z3
      ·rw [z3]; exact z2
      ·exact bC z3 T fun z=>nomatch z
  refine q _ c' ((X.mg "__name__").getD .none) ctv _ _ (fun b o n e=>?_) ⟨?_,aB⟩ (I1.pins_of fun p hp=>?_)
  ·rw [aH (aO e cn),aH n]; exact e
  ·rw [aH (Ne.symm cP),aB]
  ·rcases List.mem_append.mp hp with z | z
   ·exact I1.pin p (List.mem_append_right _ z)
   ·rw [List.mem_singleton.mp z]
    have fp:=I.fpOk (H':=aU (aU H P (.tbl (Py pos c'))) c' (u9 c' (X.env.qual ++ "<lambda>"))) (b:=h'.objs.size) (Nat.le_trans hge (Nat.le_of_lt hlt)) (by rw [aH (Nat.ne_of_gt hlt),aH (nP _ hfresh)]; exact hfresh)
    exact ⟨Heap.get?_push_size _ rfl,fp.1,fp.2.1,fp.2.2.1,fun v z=>nomatch z⟩
 ·have hP:s.heap.get? P=some (PySem.W.tabObj (Py pos c')):=I.hok P _ T
  have am:codeAmong pos (Py pos c').toList=some (.ref c'):=by
   show codeAmong pos [rawInt pos.line,rawInt pos.col,.ref c']=some (.ref c')
   simp [codeAmong,rawInt]
  refine PySem.W.kla_makeFunctionHit (mg:=X.mg) hcl I.ok.glob hg hcode (C.keeps I.bk) hP trivial am hB fun ctv h' tk hk hsz=>?_
  have I1:aY X pins σ H { s with heap:=h'.push (PySem.W.kla_obj "<lambda>" (X.env.qual ++ "<lambda>") params body scope (fV X.env scope.names []) ((X.mg "__name__").getD .none) c' ctv),toks:=tk }:=I.kept (t':=tk) fun b o e=>Heap.get?_push_of_some _ (hk b o e)
  refine q _ c' ((X.mg "__name__").getD .none) ctv H _ (cD.refl H) ⟨T,U⟩ (I1.pins_of fun p hp=>?_)
  rcases List.mem_append.mp hp with z | z
  ·exact I1.pin p (List.mem_append_right _ z)
  ·rw [List.mem_singleton.mp z]
   have fp:=I.fpOk (H':=H) (b:=h'.objs.size) hsz (I.hok.fresh hsz)
   exact ⟨Heap.get?_push_size _ rfl,fp.1,fp.2.1,fp.2.2.1,fun v z=>nomatch z⟩
end
end L2
namespace L2
open PySem PySem.Spec PyProof.Rows
def Qg (K:PySem.W.Frag) (P:Addr) (pos:Pos) (qual:Str) (tl tb:TE):TE:=fun σ H Q=>tl σ H fun x H1=>∃ (l:Addr) (qs:List Addr) (kz:List Int),x = .ref l /\ bM K H1 l (qs.map V.ref) /\ kz.length=qs.length /\ qs.length < 64 /\ fJ P pos qual H1 ∧
 ∀ H2 c',cD P H1 H2->RK P pos qual c' H2->(∀ (i:Nat) q k,qs[i]? = some q->kz[i]? = some k->tb (some (.ref q) :: σ) H2 fun r H'=>r = .int k /\ H'=H2) ∧
  ∀ D (ps:List (Int × Addr)),H2 D=none->ps.Perm (kz.zip qs)->ps.Pairwise (fun p q=>p.1 <= q.1)->Q (.ref D) (aU H2 D (.lst (ps.map fun p=>V.ref p.2)))
theorem JC {X:Cx}{c P:Addr}{k:Nat}{p:Str}{M:List Str}{scope:Scope}{params:Arguments}{body e:Expr}{p0 pos lpos kpos:Pos}{tl tb:TE} (hr:eV k X.A) (hc:X.calm=true) (hg:Gl X "sorted") (hm:X.mg "sorted" = none)
  (hcode:X.env.code = .ref c) (C:PySem.W.CodeHd X.base c P) (B:X.base.BuiltinsAt X.mg P) (S:bR X.env.scope scope) (nl:NL X.N M scope) (hp:scope.names.lookup p=some .local) (hco:scope.isCoroutine=false) (hgen:scope.isGenerator=false)
  (he:PE X e tl) (hb:∀ A f c' s H,PE (Gh X A p M scope (X.env.qual ++ "<lambda>") f c' s H) body tb)
  (hdef:defaultsOf params X.env=([],[]):=by rfl)
  (hbind:∀ (cl:List (Str × Addr)) (pm cdv ctv u:Value),bindArgs (PySem.W.kla_fn "<lambda>" (X.env.qual ++ "<lambda>") params body scope cl pm cdv ctv) ⟨[u],[]⟩ = pure [(p,u)]:=by intro _ _ _ _ _; rfl)
  (hs:starEach [e] X.env=[(false,eval e X.env)]:=by rfl) :
  PE X (.Call (.Name "sorted" p0) [e] [⟨some "key",.Lambda params body scope lpos,kpos⟩] pos) (Qg X.K P lpos (X.env.qual ++ "<lambda>") tl tb):=by
 intro pins s σ H Q I h
 refine wpAny_Call_Name_kw (qM I hg hm yK ?_ (by decide) (by decide))
 refine callWith_kw (eN (aA he aC hs pos pins s σ H (fun vs H1=>∃ x,vs=[x] /\ ∃ (l:Addr) (qs:List Addr) (kz:List Int),x = .ref l /\ bM X.K H1 l (qs.map V.ref) /\ kz.length=qs.length /\ qs.length < 64 /\ fJ P lpos (X.env.qual ++ "<lambda>") H1 ∧
  ∀ H2 c',cD P H1 H2->RK P lpos (X.env.qual ++ "<lambda>") c' H2->(∀ (i:Nat) q k,qs[i]? = some q->kz[i]? = some k->tb (some (.ref q) :: σ) H2 fun r H'=>r = .int k /\ H'=H2) ∧
   ∀ D (ps:List (Int × Addr)),H2 D=none->ps.Perm (kz.zip qs)->ps.Pairwise (fun p q=>p.1 <= q.1)->Q (.ref D) (aU H2 D (.lst (ps.map fun p=>V.ref p.2)))) I ?_) fun us s1 ⟨vs,H1,I1,r1,x,ev,l,qs,kz,ex,hS,hlen,h64,hT,q1⟩=>?_) ?_ ?_ rfl rfl
 ·show tl σ H fun x H1=>_
  have mono:=h
  exact (show tl σ H fun x H1=>∃ x',[x]=[x'] /\ _ from by
   have e1:(fun (x:V) (H1:Hp)=>∃ x',[x]=[x'] /\ ∃ (l:Addr) (qs:List Addr) (kz:List Int),x' = .ref l /\ bM X.K H1 l (qs.map V.ref) /\ kz.length=qs.length /\ qs.length < 64 /\ fJ P lpos (X.env.qual ++ "<lambda>") H1 ∧
  ∀ H2 c',cD P H1 H2->RK P lpos (X.env.qual ++ "<lambda>") c' H2->(∀ (i:Nat) q k,qs[i]? = some q->kz[i]? = some k->tb (some (.ref q) :: σ) H2 fun r H'=>r = .int k /\ H'=H2) ∧
   ∀ D (ps:List (Int × Addr)),H2 D=none->ps.Perm (kz.zip qs)->ps.Pairwise (fun p q=>p.1 <= q.1)->Q (.ref D) (aU H2 D (.lst (ps.map fun p=>V.ref p.2))))=fun x H1=>∃ (l:Addr) (qs:List Addr) (kz:List Int),x = .ref l /\ bM X.K H1 l (qs.map V.ref) /\ kz.length=qs.length /\ qs.length < 64 /\ fJ P lpos (X.env.qual ++ "<lambda>") H1 ∧
  ∀ H2 c',cD P H1 H2->RK P lpos (X.env.qual ++ "<lambda>") c' H2->(∀ (i:Nat) q k,qs[i]? = some q->kz[i]? = some k->tb (some (.ref q) :: σ) H2 fun r H'=>r = .int k /\ H'=H2) ∧
   ∀ D (ps:List (Int × Addr)),H2 D=none->ps.Perm (kz.zip qs)->ps.Pairwise (fun p q=>p.1 <= q.1)->Q (.ref D) (aU H2 D (.lst (ps.map fun p=>V.ref p.2))):=by
    funext x H1
    refine propext ⟨?_,?_⟩
    ·rintro ⟨x',z,r⟩
     injection z with z
     subst z
     exact r
    ·intro r
     exact ⟨x,rfl,r⟩
   rw [e1]
   exact mono)
 ·subst ev ex
  obtain ⟨u,rfl,ru⟩:=j4 r1
  cases (show u=Value.ref l from ru)
  show wpAny _ _ (evalAll [do let v <- eval (.Lambda params body scope lpos) X.env; standAt pos; pure v]) _ _ s1
  refine wpAny_evalAll_cons (wpAny_bind (J7 I1 hcode C B hT S hdef fun f c' pm ctv H2 s2 st hit I2=>wpAny_bind (wpAny_standAt (wpAny_pure (wpAny_evalAll_nil ?_)))))
  obtain ⟨q2,q3⟩:=q1 H2 c' st hit
  have fin:=KJ (E:=X.xe) (Q:=Q) (fa:=f) (kz:=kz) I2 (cD.lst st hT hS) hlen h64 (fun i q k eq ek=>Mh (A:=X.A.in1.in1) I2.ok.frames (I2.ok.hd hc) hr.depth S nl hp hco hgen hbind (hb X.A.in1.in1) (x:=.ref q) rfl (List.mem_append_right _ (.head _)) hit.2 (q2 i q k eq ek)) fun D ps hD hp hs=>q3 D ps hD hp hs
  exact eN fin fun r s3 ⟨v,H3,I3,rv,qv⟩=>⟨v,H3,I3.unpinned,rv,qv⟩
 ·show backTo pos (starEach [e] X.env)=(false,eval e X.env) :: _
  rw [hs]
  rfl
 ·rw [hs]
  rfl
theorem eX.okc {P:Program}{w:World}{K:PySem.W.Frag}{mg:Str->Option Value}{base:Heap}{x qual:Str}{st:Stmt}{f c:Addr}{fd:FuncData}{N ps:List Str}{k:Nat}{sp:Sp} (F:eX K x qual st f fd) (hc:fd.code = .ref c) (S:aP N ps (aK st)) (len:∀ vs H Q E,sp vs H Q E->vs.length=ps.length)
  (hbody:∀ (A:Around) (outer:List Env) (s:Shared) (H:Hp) (vs:List V) (Q:VK) (E:XK),eV k (A.deeper (envOfC qual (aK st) s.heap.objs.size f (.ref c)))->sp vs H Q E ->
   ∃ t,sJ (vO eG P w K mg base N qual (aK st) f (.ref c) A outer s H E).nox (fX st) t /\ t { nx:=fun _ H'=>Q .non H',rt:=Q } (start N vs) H):aV P w K mg base eG (k + 1) f fd ps sp:=by
 obtain ⟨oc,od,kV,doc,pm,an,cdv,ct,osl,rfl,lk,hcd⟩:=F.ex
 cases (show cdv=Value.ref c from hc)
 refine GQ lk hcd S len fun A outer s H vs Q E hr hsp=>?_
 obtain ⟨t,h,q⟩:=hbody A outer s H vs Q E hr hsp
 exact ⟨t,h.nox,q⟩
end L2
namespace L2
open PySem PySem.W
def ev {α : Type}:List α->List α
 | []=>[]
 | [a]=>[a]
 | a :: _ :: r=>a :: ev r
def od {α : Type}:List α->List α
 | []=>[]
 | [_]=>[]
 | _ :: b :: r=>b :: od r
def bt:Nat->List Obj->BT
 | 0,_=>.nil
 | _ + 1,[]=>.nil
 | n + 1,o :: r=>.node o (bt n (ev r)) (bt n (od r))
def NB (l:List Obj):List (Nat × Obj)->List Obj
 | []=>l
 | p :: r=>NB (l.set p.1 p.2) r
noncomputable def Dp (T:BT) (n k:Nat) (os:OsState):SharedT:=⟨T,n,{},Array.mk [],boot_drawn,k,os⟩
theorem z8 {tb:String->Option Builtin}{p:Program}{w:World}{m0:Nat}{ann:Option Value}{env:Env}{q:Pos}{n N:Nat}{s s':SharedT}{r:Shared}{l fW:List Stmt}{c:Code}{pos p':Pos}
  (h:segRunT tb p w m0 ann 1 n s (piecesOf l env c pos [topFrame q])=some (.next,s',c,p')) (k:topRun tb p w m0 ann N s'.abs (restOf fW env c p' [topFrame q])=some r):topRun tb p w m0 ann (n + N) s.abs (restOf (l ++ fW) env c pos [topFrame q])=some r :=
 piece_app (segRun_of h) k
theorem Jq {p q:Program}{loose:List Str}{Xt:Shared->Bool}{α : Type}{Yf:Shared->α}{Ya:World->α}{N:Nat}{Tb Tf:Params->BT}{nb nf ka kf:Nat}{env:Env}{C:Code}{gs:List Stmt}{posA posB qp:Pos}{m0:Nat}{ann:Option Value}{a b c:Nat}
  (e1:opening p=plainProg p.main.scope.names) (h6:Nat.ble 600 N=true) (e2:∀ s,fenceModules? p s=some s)
  (size:∀ w:World,((boot_heap w.params).isNs mainGlobals && (Array.mk []:Array GenState).size == 0,(boot_heap w.params).objs.size,(boot_heap w.params).nsMap mainGlobals "__annotations__")=(true,m0,ann))
  (pre:∀ (w:World) (os:OsState),topGo treeTable p w m0 ann a ⟨boot_heap w.params,Array.mk [],boot_drawn,boot_toks,os⟩ (topStub p)=some ((Dp (Tb w.params) nb ka os).abs,⟨denote treeTable (.body gs env),C,posA,[topFrame qp]⟩))
  (blk:∀ (w:World) (os:OsState),segRun treeTable p w m0 ann 1 b (Dp (Tb w.params) nb ka os).abs (blockOf gs env C posA [topFrame qp])=some (.next,(Dp (Tb w.params) nb ka os).abs,C,posB))
  (run:∀ (w:World) (os:OsState),topRun treeTable p w m0 ann c (Dp (Tb w.params) nb ka os).abs (restOf gs env C posB [topFrame qp])=some (Dp (Tf w.params) nf kf os).abs)
  (le:Nat.ble (a + (b + c)) N=true)
  (looks:∀ w:World,(fun os=>((staticsOk (importedModules p.main.body) (boot_heap w.params) (absHeap (Tf w.params) nf {}) && namesBound p (absHeap (Tf w.params) nf {}) && gensDone ⟨absHeap (Tf w.params) nf {},Array.mk [],boot_drawn,kf,os⟩ && laidKept (boot_heap w.params) (absHeap (Tf w.params) nf {})),
    openSeen q loose (importedModules p.main.body) Xt true ⟨absHeap (Tf w.params) nf {},Array.mk [],boot_drawn,kf,os⟩,Yf ⟨absHeap (Tf w.params) nf {},Array.mk [],boot_drawn,kf,os⟩))=fun _=>(true,openGood q loose,Ya w)):LeftO p q loose Xt Yf Ya N :=
 LeftO.of_pieces (H₁:=fun P=>absHeap (Tf P) nf {}) (boot_open e1 h6 e2) size (fun w os=>go_top (pre w os) (piece_block (blk w os) (run w os))) le looks
end L2
namespace L2
open PySem PySem.Spec PyProof.Rows
inductive DE (K:PySem.W.Frag) (H:Hp):Nat->V->V->Bool->Prop
 | int (n:Nat) (i j:Int):DE K H n (.int i) (.int j) (i == j)
 | bl (n:Nat) (i j:Bool):DE K H n (.bl i) (.bl j) (i == j)
 | str (n:Nat) (i j:Str):DE K H n (.str i) (.str j) (i == j)
 | tup {n:Nat}{a b:Addr}{xs ys:List V} (e:Nat->Bool) (ha:bZ K H a xs) (hb:bZ K H b ys) (h:∀ (j:Nat) x y,xs[j]? = some x->ys[j]? = some y->DE K H n x y (e j)) :
   DE K H (n + 1) (.ref a) (.ref b) ((List.range (min xs.length ys.length)).all e && xs.length == ys.length)
 | lst {n:Nat}{a b:Addr}{xs ys:List V} (e:Nat->Bool) (ha:bM K H a xs) (hb:bM K H b ys) (hl:xs.length=ys.length) (h:∀ (j:Nat) x y,xs[j]? = some x->ys[j]? = some y->DE K H n x y (e j)) :
   DE K H (n + 1) (.ref a) (.ref b) ((List.range xs.length).all e)
 | lstN {n:Nat}{a b:Addr}{xs ys:List V} (ha:bM K H a xs) (hb:bM K H b ys) (hl:xs.length ≠ ys.length):DE K H (n + 1) (.ref a) (.ref b) false
section
variable {X:Cx}{pins:List (Addr × Obj)}{σ : St}{H:Hp}{s:Shared}
theorem DE.self (I:aY X pins σ H s) {n:Nat}{x y:V}{k:Bool} (d:DE X.K H n x y k):x=y->k=true:=by
 induction d with
 | int n i j=>intro e; cases e; simp
 | bl n i j=>intro e; cases e; simp
 | str n i j=>intro e; cases e; simp
 | @tup n a b xs ys e ha hb h ih =>
  intro z
  cases z
  have q:=I.tuple_inj ha hb
  subst q
  rw [Bool.and_eq_true]
  refine ⟨List.all_eq_true.mpr fun j hj=>?_,by simp⟩
  rw [List.mem_range,Nat.min_self] at hj
  exact ih j _ _ (List.getElem?_eq_getElem hj) (List.getElem?_eq_getElem hj) rfl
 | @lst n a b xs ys e ha hb hl h ih =>
  intro z
  cases z
  have q:=I.list_inj ha hb
  subst q
  refine List.all_eq_true.mpr fun j hj=>?_
  rw [List.mem_range] at hj
  exact ih j _ _ (List.getElem?_eq_getElem hj) (List.getElem?_eq_getElem hj) rfl
 | @lstN n a b xs ys ha hb hl =>
  intro z
  cases z
  exact absurd (congrArg List.length (I.list_inj ha hb)) hl
theorem iQ {xs:List V}{its:List Value} (r:bI xs its) {j:Nat} (hj:j < its.length):∃ x,xs[j]? = some x /\ bL x its[j]:=by
 have hl:=r.length
 obtain ⟨u,hu,ru⟩:=r.get (List.getElem?_eq_getElem (l:=xs) (i:=j) (by omega))
 rw [List.getElem?_eq_getElem hj] at hu
 cases hu
 exact ⟨_,List.getElem?_eq_getElem (by omega),ru⟩
theorem jO (A:Around):A.in1.units=A.units + 1:=rfl
theorem DE.eqAt (I:aY X pins σ H s) {n:Nat}{x y:V}{k:Bool} (d:DE X.K H n x y k):∀ (A:Around) (u v:Value),A.units + n < cLine->bL x u->bL y v->PySem.SeqAt.EqAt A s u v k:=by
 induction d with
 | int n i j =>
  intro A u v _ ru rv
  obtain ⟨t,rfl⟩:=ru
  obtain ⟨t',rfl⟩:=rv
  exact PySem.SeqAt.EqAt.int_int _ _ _ _
 | bl n i j =>
  intro A u v _ ru rv
  cases (show u=Value.bool i from ru)
  cases (show v=Value.bool j from rv)
  exact PySem.SeqAt.EqAt.bool_bool _ _
 | str n i j =>
  intro A u v _ ru rv
  obtain ⟨t,rfl⟩:=ru
  obtain ⟨t',rfl⟩:=rv
  exact PySem.SeqAt.EqAt.str_str _ _ _ _
 | @tup n a b xs ys e ha hb h ih =>
  intro A u v hu ru rv
  cases (show u=Value.ref a from ru)
  cases (show v=Value.ref b from rv)
  by_cases hab:a=b
  ·have q:=(DE.tup e ha hb h).self I (by rw [hab])
   rw [q]
   subst hab
   exact PySem.SeqAt.EqAt.same _
  ·obtain ⟨its,r1,p1,_⟩:=I.tuple ha
   obtain ⟨its2,r2,p2,_⟩:=I.tuple hb
   refine PySem.SeqAt.EqAt.of_refs hab ?_
   have q:=PySem.SeqAt.RcAt.tuples (A:=A) (e:=e) (show s.heap.IsTuple a its.toArray from p1) (show s.heap.IsTuple b its2.toArray from p2) (by omega) (fun j h1 h2=>by
    obtain ⟨x,ex,rx⟩:=iQ r1 (j:=j) (by simpa using h1)
    obtain ⟨y,ey,ry⟩:=iQ r2 (j:=j) (by simpa using h2)
    rw [List.getElem_toArray,List.getElem_toArray]
    exact ih j x y ex ey A.in1 _ _ (by rw [jO]; omega) rx ry)
   rw [List.size_toArray,List.size_toArray,<- r1.length,<- r2.length] at q
   exact q
 | @lst n a b xs ys e ha hb hl h ih =>
  intro A u v hu ru rv
  cases (show u=Value.ref a from ru)
  cases (show v=Value.ref b from rv)
  by_cases hab:a=b
  ·have q:=(DE.lst e ha hb hl h).self I (by rw [hab])
   rw [q]
   subst hab
   exact PySem.SeqAt.EqAt.same _
  ·obtain ⟨its,r1,p1,_⟩:=I.list ha
   obtain ⟨its2,r2,p2,_⟩:=I.list hb
   refine PySem.SeqAt.EqAt.of_refs hab ?_
   have q:=PySem.SeqAt.RcAt.lists (A:=A) (e:=e) p1.isList p2.isList (by rw [List.size_toArray,List.size_toArray,<- r1.length,<- r2.length]; exact hl) (by omega) (fun j h1 h2=>by
    obtain ⟨x,ex,rx⟩:=iQ r1 (j:=j) (by simpa using h1)
    obtain ⟨y,ey,ry⟩:=iQ r2 (j:=j) (by simpa using h2)
    rw [List.getElem_toArray,List.getElem_toArray]
    exact ih j x y ex ey A.in1 _ _ (by rw [jO]; omega) rx ry)
   rw [List.size_toArray,<- r1.length] at q
   exact q
 | @lstN n a b xs ys ha hb hl =>
  intro A u v hu ru rv
  cases (show u=Value.ref a from ru)
  cases (show v=Value.ref b from rv)
  have hab:a ≠ b:=fun z=>by subst z; exact hl (congrArg List.length (I.list_inj ha hb))
  obtain ⟨its,r1,p1,_⟩:=I.list ha
  obtain ⟨its2,r2,p2,_⟩:=I.list hb
  refine PySem.SeqAt.EqAt.of_refs hab (PySem.SeqAt.RcAt.lists_lengths p1.isList p2.isList ?_ (by omega))
  rw [List.size_toArray,List.size_toArray,<- r1.length,<- r2.length]
  simpa using hl
def aAC (K:PySem.W.Frag) (n:Nat):R2:=fun x y H Q=>∃ a b k,x = .ref a /\ y = .ref b /\ DE K H (n + 1) x y k /\ Q (.bl (!k)) H
theorem Dt {n:Nat} (hu:X.A.units + n + 1 < cLine):nW X (compareOp .NotEq) (aAC X.K n):=by
 intro pins s σ H x y v u Q I rx ry h
 obtain ⟨a,b,k,rfl,rfl,d,q⟩:=h
 cases (show v=Value.ref a from rx)
 cases (show u=Value.ref b from ry)
 cases d with
 | @tup n a b xs ys e ha hb h =>
  obtain ⟨its,r1,p1,_⟩:=I.tuple ha
  obtain ⟨its2,r2,p2,_⟩:=I.tuple hb
  refine PySem.SeqAt.RcNeAt.tuples (e:=e) (show s.heap.IsTuple a its.toArray from p1) (show s.heap.IsTuple b its2.toArray from p2) (by omega) (fun j h1 h2=>by
    obtain ⟨x,ex,rx⟩:=iQ r1 (j:=j) (by simpa using h1)
    obtain ⟨y,ey,ry⟩:=iQ r2 (j:=j) (by simpa using h2)
    rw [List.getElem_toArray,List.getElem_toArray]
    exact (h j x y ex ey).eqAt I X.A.in1 _ _ (by rw [jO]; omega) rx ry) X.prog X.w _ _ ?_
  rw [List.size_toArray,List.size_toArray,<- r1.length,<- r2.length]
  exact ⟨.bl _,H,I,rfl,q⟩
 | @lst n a b xs ys e ha hb hl h =>
  obtain ⟨its,r1,p1,_⟩:=I.list ha
  obtain ⟨its2,r2,p2,_⟩:=I.list hb
  refine PySem.SeqAt.RcNeAt.lists (e:=e) p1.isList p2.isList (by rw [List.size_toArray,List.size_toArray,<- r1.length,<- r2.length]; exact hl) (by omega) (fun j h1 h2=>by
    obtain ⟨x,ex,rx⟩:=iQ r1 (j:=j) (by simpa using h1)
    obtain ⟨y,ey,ry⟩:=iQ r2 (j:=j) (by simpa using h2)
    rw [List.getElem_toArray,List.getElem_toArray]
    exact (h j x y ex ey).eqAt I X.A.in1 _ _ (by rw [jO]; omega) rx ry) X.prog X.w _ _ ?_
  rw [List.size_toArray,<- r1.length]
  exact ⟨.bl _,H,I,rfl,q⟩
 | @lstN n a b xs ys ha hb hl =>
  obtain ⟨its,r1,p1,_⟩:=I.list ha
  obtain ⟨its2,r2,p2,_⟩:=I.list hb
  exact PySem.SeqAt.RcNeAt.lists_lengths p1.isList p2.isList (by rw [List.size_toArray,List.size_toArray,<- r1.length,<- r2.length]; simpa using hl) (by omega) X.prog X.w _ _ ⟨.bl _,H,I,rfl,q⟩
end
end L2
namespace L2
open PySem PySem.Spec PyProof.Rows
section
variable {X:Cx}
theorem lC (hc:X.calm=true):gM X (.builtin "sum") (fun xs H Q=>∃ (a:Addr) (ns:List Int),xs=[.ref a] /\ bM X.K H a (ns.map V.int) /\ Q (.int ns.sum) H):=by
 intro pins s σ H xs us Q I r h
 obtain ⟨a,ns,rfl,hS,q⟩:=h
 obtain ⟨u,rfl,ru⟩:=j4 r
 cases (show u=Value.ref a from ru)
 obtain ⟨its,rv,p,hz⟩:=I.list hS
 have hi:=o4 rv
 obtain ⟨zs,e⟩:=(IntsAre.allInts hi).items
 have hl:=p.isList
 rw [e] at hl
 refine sum_intListG (I.ok.hd hc) hl fun h' tk t' hk=>⟨.int ns.sum,H,I.kept hk,⟨t',?_⟩,q⟩
 have n1:=nums_intItems (xs:=zs)
 rw [<- e,show its.toArray.toList=its from rfl,IntsAre.numsOf hi] at n1
 rw [preSum_eq,List.take_of_length_le (by simp),<- n1]
section
variable {prog:Program}{w:World}{A:Around}{E:Value->Shared->Prop}{s:Shared}{d it:Addr}{od:Obj}{es:Array DictEntry}{ep i:Nat}
theorem yI {Q:Value->Shared->Prop} (hd:(d == sysModules)=false) (ho:s.heap.get? d=some od) (hx:od.ExactDict) (hdat:od.data = .dict es ep)
  (hQ:Q (.ref s.heap.objs.size) { s with heap:=s.heap.push { cls:=.type "dict_keyiterator",data:=.fields #[.ref d,.int 0 0,.int es.size 0,.int ep 0] } }) :
  wpAny (model prog w) A (pyIter (.ref d)) Q E s:=by
 have ty:s.TypeIs (.ref d) "dict":=⟨od,ho,hx.1⟩
 apply wpAny_pyIter_slot ty F.slot_dict_iter
 refine wpAny_call_entry F.slot_dict_iter ty F.entry_dict_iter ?body (F.args_dict_iter_1 _)
 case body =>
  unfold Builtin.«dict.__iter__»
  apply wpAny_bind
  unfold Builtin.Dict.dictSlotNone
  refine wpAny_bind (wpAny_notOrdered_dict ty (wpAny_pure (a:=Value.ref d) ?_))
  show wpAny _ _ (Builtin.Dict.showsAll d >>= fun _=>_) _ _ s
  unfold Builtin.Dict.showsAll
  rw [hd,if_neg Bool.false_ne_true]
  refine wpAny_bind (wpAny_pure (wpAny_bind (wpAny_dictEntries ho hdat (wpAny_bind (wpAny_dictEpoch ho hdat ?_)))))
  refine wpAny_bind (wpAny_newObj_type (wpAny_pure ⟨_,rfl,"dict_keyiterator",_,⟨_,Heap.get?_push_size _ rfl,rfl⟩,F.slot_dict_keyiterator_next.lookup,?_⟩))
  simpa only [rawInt] using hQ
theorem xN {e:DictEntry}{Q:Option Value->Shared->Prop} (hit:s.heap.IsKeyIter it d i es.size ep) (ho:s.heap.get? d=some od) (hdat:od.data = .dict es ep) (hx:es[i]? = some e)
  (hQ:∀ h',h'.IsKeyIter it d (i + 1) es.size ep->Heap.SameBut it s.heap h'->Q (some e.key) { s with heap:=h' }):wpAny (model prog w) A (pyNext (.ref it)) Q E s:=by
 obtain ⟨oi,hoi,hci,hdi⟩:=id hit
 have ty:=hit.typeIs
 have own:Builtin.Dict_items.ownsTuple "dict_keyiterator" = false:=by decide
 unfold pyNext
 apply wpAny_bind
 apply wpAny_attempt
 refine wpAny_callSpecial?_slot (name:=Str.ofString "__next__") ty F.slot_dict_keyiterator_next ?call
 case call =>
  refine wpAny_call_entry F.slot_dict_keyiterator_next ty F.entry_dict_keyiterator_next ?body (F.args_dict_keyiterator_next_1 _)
  case body =>
   refine wpAny_bind (wpAny_pure (wpAny_bind (wpAny_bind ?_)))
   refine wpAny_bind (wpAny_typeNameOfWhole_keyiter ty (wpAny_pure (wpAny_bind (wpAny_fieldsOf hoi hdi ?_))))
   simp only [own,Bool.false_eq_true,if_false]
   show wpAny _ _ (if (Value.ref d == Value.none)=true then _ else _) _ _ s
   rw [if_neg (fun z:(Value.ref d == Value.none)=true=>Bool.false_ne_true z)]
   refine wpAny_bind (wpAny_pure (wpAny_bind (wpAny_dictEntries ho hdat ?_)))
   rw [if_neg (by simp)]
   refine wpAny_bind (wpAny_pure (wpAny_bind (wpAny_dictEpoch ho hdat ?_)))
   rw [if_neg (by simp)]
   apply wpAny_pure
   have neg:¬ ((i:Int) < 0):=by omega
   simp only [neg,if_false,Int.toNat_natCast,hx]
   refine wpAny_bind (wpAny_bind (wpAny_typeNameOfWhole_keyiter ty (wpAny_pure (wpAny_bind (wpAny_isOneOf_keyiter ty ?_)))))
   show wpAny _ _ (setField (.ref it) 1 (rawInt ((i:Int) + 1)) >>= fun _=>_) _ _ s
   refine wpAny_bind (wpAny_setField hoi hdi (by simp) ?_)
   have nx:(s.heap.update it (Obj.mapFields (·.setIfInBounds 1 (rawInt ((i:Int) + 1))))).IsKeyIter it d (i + 1) es.size ep :=
    ⟨_,Heap.get?_update_self _ hoi (Obj.isFreed_of_fields (Obj.data_mapFields hdi _)),(Obj.cls_mapFields ..).trans hci,by rw [Obj.data_mapFields hdi]; simp [rawInt]⟩
   refine wpAny_bind (wpAny_holding (wpAny_bind (wpAny_isOneOf_keyiter (s:={ s with heap:=s.heap.update it (Obj.mapFields (·.setIfInBounds 1 (rawInt ((i:Int) + 1)))) }) nx.typeIs ?_)))
   show wpAny _ _ (pure e.key) _ _ _
   exact wpAny_pure (wpAny_pure ⟨_,rfl,wpAny_pure (hQ _ nx (Heap.SameBut.update ..))⟩)
theorem Ce {Q:Option Value->Shared->Prop} (hh:A.handled=none) (hit:s.heap.IsKeyIter it d i es.size ep) (ho:s.heap.get? d=some od) (hdat:od.data = .dict es ep) (hx:es.size <= i)
  (hQ:∀ h',Heap.ExtBut it s.heap h'->Q none { s with heap:=h' }):wpAny (model prog w) A (pyNext (.ref it)) Q E s:=by
 obtain ⟨oi,hoi,hci,hdi⟩:=id hit
 have ty:=hit.typeIs
 have own:Builtin.Dict_items.ownsTuple "dict_keyiterator" = false:=by decide
 unfold pyNext
 apply wpAny_bind
 apply wpAny_attempt
 refine wpAny_callSpecial?_slot (name:=Str.ofString "__next__") ty F.slot_dict_keyiterator_next ?call
 case call =>
  refine wpAny_call_entry F.slot_dict_keyiterator_next ty F.entry_dict_keyiterator_next ?body (F.args_dict_keyiterator_next_1 _)
  case body =>
   refine wpAny_bind (wpAny_pure (wpAny_bind (wpAny_bind ?_)))
   refine wpAny_bind (wpAny_typeNameOfWhole_keyiter ty (wpAny_pure (wpAny_bind (wpAny_fieldsOf hoi hdi ?_))))
   simp only [own,Bool.false_eq_true,if_false]
   show wpAny _ _ (if (Value.ref d == Value.none)=true then _ else _) _ _ s
   rw [if_neg (fun z:(Value.ref d == Value.none)=true=>Bool.false_ne_true z)]
   refine wpAny_bind (wpAny_pure (wpAny_bind (wpAny_dictEntries ho hdat ?_)))
   rw [if_neg (by simp)]
   refine wpAny_bind (wpAny_pure (wpAny_bind (wpAny_dictEpoch ho hdat ?_)))
   rw [if_neg (by simp)]
   apply wpAny_pure
   have neg:¬ ((i:Int) < 0):=by omega
   simp only [neg,if_false,Int.toNat_natCast,Array.getElem?_eq_none hx]
   refine wpAny_bind (wpAny_bind (wpAny_typeNameOfWhole_keyiter ty (wpAny_pure ?_)))
   show wpAny _ _ (setField (.ref it) 0 .none >>= fun _=>_) _ _ s
   refine wpAny_bind (wpAny_setField hoi hdi (by simp) ?_)
   show wpAny _ _ (newExc (.type "StopIteration") [] >>= fun _=>_) _ _ _
   apply wpAny_bind
   simp only [newExc,newTuple]
   refine wpAny_bind (wpAny_newObj_type (wpAny_bind (m:=firstArgMember _ _) (wpAny_of_eq (a:=Value.none) (by first | rfl | (simp only [firstArgMember]; rfl)) (wpAny_newObj_type ?_ (by size_fits)))) (by size_fits))
   simp only [raiseNew]
   refine wpAny_bind (wpAny_handled ?_)
   rw [show A.in1.handled=Option.none from hh]
   refine wpAny_bind (wpAny_pure (wpAny_throw ?thr))
   apply wpAny_bind
   refine wpAny_isInstance (T:="StopIteration") (b:=true) ⟨_,Heap.get?_push_size _ rfl,rfl⟩ isSubtype_stop ?ends
   exact wpAny_pure (hQ _ (((Heap.SameBut.update ..).extBut.push _).push _))
end
def Qo (a:Addr) (o:Obj) (kvs:List (List cZ × V)):It :=
 ⟨fun i H=>H a=some (.frz o (.dT kvs)) /\ i < kvs.length,fun i H x H'=>H'=H /\ ∃ k v q,kvs[i]? = some (k,v) /\ x = .ref q /\ H q=some (.tup (k.map kV)),fun i H=>H a=some (.frz o (.dT kvs)) /\ kvs.length <= i⟩
theorem Ew {P:Program}{w:World}{H:Hp}{h:Heap}{a:Addr}{o:Obj}{kvs:List (List cZ × V)} (ok:nM P w H h) (e:H a=some (.frz o (.dT kvs))) :
  h.get? a=some o /\ o.ExactDict /\ ∃ es ep,o.data = .dict es ep /\ es.size=kvs.length /\ ∀ (i:Nat) k v,kvs[i]? = some (k,v)->∃ q ent,es[i]? = some ent /\ ent.key = .ref q /\ H q=some (.tup (k.map kV)):=by
 obtain ⟨e1,z,y,xs,r,ob,es,ep,e2,ex,hd,he,nd⟩:=ok a _ e
 rw [e1] at e2
 cases e2
 have hl:kvs.length=xs.length:=Paired.length r
 refine ⟨e1,ex,es,ep,hd,?_,fun i k v hk=>?_⟩
 ·rw [<- Array.length_toList,he,List.length_map,hl]
 ·have get:∀ {l1:List (List cZ × V)}{l2:List (List cZ × Addr × Value)}{i:Nat}{k:List cZ}{v:V},Paired (fun (p:List cZ × V) (q:List cZ × Addr × Value)=>p.1=q.1 /\ H q.2.1=some (.tup (p.1.map kV)) /\ bL p.2 q.2.2) l1 l2->l1[i]? = some (k,v) ->
    ∃ q:List cZ × Addr × Value,l2[i]? = some q /\ H q.2.1=some (.tup (k.map kV)):=by
   intro l1 l2 i k v r
   induction r generalizing i with
   | nil=>intro z; simp at z
   | cons h t ih =>
    intro z
    cases i with
    | zero=>simp at z; subst z; exact ⟨_,rfl,h.2.1⟩
    | succ j=>exact ih (by simpa using z)
  obtain ⟨q,hq,ht⟩:=get r hk
  refine ⟨q.2.1,entryOfKey (tupleKind (dZ P w)) q,?_,rfl,ht⟩
  rw [<- Array.getElem?_toList,he,List.getElem?_map,hq]
  rfl
theorem Hk {P:Program}{w:World}{K:PySem.W.Frag}{tg:Expr} (a it:Addr) (o:Obj) (kvs:List (List cZ × V)) (es:Array DictEntry) (ep:Nat) (hd:o.data = .dict es ep) :
  Ey P w K tg (Qo a o kvs) [it] it (fun i h=>h.IsKeyIter it a i es.size ep) where
 mem:=by simp
 obj:=fun i h st b hb=>by
  have e:b=it:=by simpa using hb
  subst e
  obtain ⟨o,e,c,d⟩:=st
  exact ⟨o,e,fun v z=>by rw [d] at z; cases z⟩
 keep:=fun i h h' st k=>st.at fun o e=>k it (by simp) o e
 item:=by
  intro X hP hw hK hc i pins s σ H E I hf st hg
  subst hP hw hK
  obtain ⟨hH,hi⟩:=hg
  obtain ⟨e1,ex,es',ep',hd',hsz,get⟩:=Ew I.hok hH
  rw [hd] at hd'
  cases hd'
  obtain ⟨q,ent,hent,hkey,ht⟩:=get i _ _ (List.getElem?_eq_getElem hi)
  obtain ⟨f0,f1,f2,f3,f4,f5⟩:=hf it (by simp)
  refine xN st e1 hd hent fun h' st' sb=>?_
  have I1:aY X pins σ H { s with heap:=h' }:=I.turned (t':=s.toks) (fun b o hb e=>(sb.2 b hb).trans e) f0 f1 f3 f4 f5
  obtain ⟨oo,e,c,d⟩:=id st'
  exact ⟨_,rfl,Cd (s:={ s with heap:=h' }) e c d (by decide) ⟨.ref q,H,I1,hkey,⟨rfl,_,_,q,List.getElem?_eq_getElem hi,rfl,ht⟩,st',fun b hb=>(hf b hb).1⟩⟩
 done:=by
  intro X hP hw hK hc i pins s σ H E I hf st hg
  subst hP hw hK
  obtain ⟨hH,hi⟩:=hg
  obtain ⟨e1,ex,es',ep',hd',hsz,get⟩:=Ew I.hok hH
  rw [hd] at hd'
  cases hd'
  obtain ⟨f0,f1,f2,f3,f4,f5⟩:=hf it (by simp)
  exact Ce (I.ok.hd hc) st e1 hd (by omega) fun h' eb=>⟨rfl,I.turned (t':=s.toks) (fun b o hb e=>eb b o hb e) f0 f1 f3 f4 f5⟩
 self:=fun _ _ _ _ _ st h=>wpAny_pyIter_keyiter st h
theorem aY.freeze {pins:List (Addr × Obj)}{σ : St}{H:Hp}{s:Shared}{a:Addr}{kvs:List (List cZ × V)} (I:aY X pins σ H s) (e:H a=some (.dT kvs)):∃ o,s.heap.get? a=some o /\ aY X pins σ (aU H a (.frz o (.dT kvs))) s:=by
 have ok:=I.hok a _ e
 obtain ⟨z,y,xs,r,ob,es,ep,e2,c⟩:=id ok
 refine ⟨ob,e2,?_⟩
 refine I.write (x:=a) (e:=a) (h':=s.heap) (t':=s.toks) (by rw [e]; exact trivial) (.inl rfl) (fun _ _ _ q=>q) ⟨_,e2⟩ ⟨e2,?_⟩
 refine ok.stay (fun _ _ _ q=>q) (fun b q=>?_) fun b ys q=>?_
 ·rw [aH (fun w=>by rw [w,e] at q; cases q)]; exact q
 ·rw [aH (fun w=>by rw [w,e] at q; cases q)]; exact q
def XC (tl:TE):TI:=fun σ H R=>tl σ H fun x H1=>∃ a kvs,x = .ref a /\ ((H1 a=some (.dT kvs) /\ ∀ o,R (Qo a o kvs) (aU H1 a (.frz o (.dT kvs)))) ∨ ∃ o,H1 a=some (.frz o (.dT kvs)) /\ R (Qo a o kvs) H1)
theorem Fp {pins:List (Addr × Obj)}{σ : St}{H:Hp}{s:Shared}{tg:Expr}{a:Addr}{o:Obj}{kvs:List (List cZ × V)}{R:It->Hp->Prop} (I:aY X pins σ H s) (e:H a=some (.frz o (.dT kvs))) (q:R (Qo a o kvs) H) :
  wpAny (model X.prog X.w) X.A (pyIter (.ref a)) (PIE X pins σ tg R) X.xe s:=by
 obtain ⟨e1,ex,es,ep,hd,hsz,get⟩:=Ew I.hok e
 obtain ⟨_,_,y,_⟩:=I.hok a _ e
 refine yI y e1 ex hd ?_
 refine ⟨s.heap.objs.size,[s.heap.objs.size],_,_,H,rfl,I.kept (t':=s.toks) fun b o e=>Heap.get?_push_of_some _ e,Hk a _ o kvs es ep hd,⟨_,Heap.get?_push_size _ rfl,rfl,rfl⟩,fun b hb=>?_,q⟩
 have e:b=s.heap.objs.size:=by simpa using hb
 subst e
 exact I.fpOk (Nat.le_refl _) (I.hok.fresh (Nat.le_refl _))
theorem Mj {tg l:Expr}{tl:TE} (hl:PE X l tl):PI X tg l (XC tl):=by
 intro pins s σ H R I h
 refine eN (hl pins s σ H _ I h) fun v s1 ⟨x,H1,I1,r1,q1⟩=>?_
 obtain ⟨a,kvs,rfl,q1⟩:=q1
 cases (show v=Value.ref a from r1)
 rcases q1 with ⟨e,q⟩ | ⟨o,e,q⟩
 ·obtain ⟨o,_,I2⟩:=I1.freeze e
  exact Fp I2 aB (q o)
 ·exact Fp I1 e q
def Xo (K:PySem.W.Frag) (a:Addr) (xs:List V):It :=
 ⟨fun i H=>i < xs.length /\ bM K H a xs,fun i H x H'=>H'=H /\ xs[xs.length - 1 - i]? = some x,fun i H=>xs.length <= i⟩
theorem Im {P:Program}{w:World}{K:PySem.W.Frag}{tg:Expr} (a it:Addr) (xs:List V):Ey P w K tg (Xo K a xs) [it] it (fun i h=>i <= xs.length /\ h.IsRevIter it a ((xs.length:Int) - 1 - (i:Int))) where
 mem:=by simp
 obj:=fun i h st b hb=>by
  have e:b=it:=by simpa using hb
  subst e
  obtain ⟨_,o,e,c,d⟩:=st
  exact ⟨o,e,fun v z=>by rw [d] at z; cases z⟩
 keep:=fun i h h' st k=>⟨st.1,st.2.at fun o e=>k it (by simp) o e⟩
 item:=by
  intro X hP hw hK hc i pins s σ H E I hf st hg
  subst hP hw hK
  obtain ⟨hi,hS⟩:=hg
  obtain ⟨_,st⟩:=st
  obtain ⟨its,rv,p,hz⟩:=I.list hS
  have hix:xs.length - 1 - i < xs.length:=by omega
  obtain ⟨u,hu,ru⟩:=rv.get (List.getElem?_eq_getElem hix)
  have ei:(xs.length:Int) - 1 - (i:Int)=((xs.length - 1 - i:Nat):Int):=by omega
  rw [ei] at st
  obtain ⟨f0,f1,f2,f3,f4,f5⟩:=hf it (by simp)
  refine wpAny_pyNext_rev_item st p.isList (x:=u) (by simpa using hu) fun h' st' sb=>?_
  have I1:aY X pins σ H { s with heap:=h' }:=I.turned (t':=s.toks) (fun b o hb e=>(sb.2 b hb).trans e) f0 f1 f3 f4 f5
  obtain ⟨o,e,c,d⟩:=id st'
  refine ⟨u,rfl,Cd (s:={ s with heap:=h' }) e c d (by decide) ⟨_,H,I1,ru,⟨rfl,List.getElem?_eq_getElem hix⟩,⟨hi,?_⟩,fun b hb=>(hf b hb).1⟩⟩
  have ej:(xs.length:Int) - 1 - ((i + 1:Nat):Int)=((xs.length - 1 - i:Nat):Int) - 1:=by omega
  rw [ej]
  exact st'
 done:=by
  intro X hP hw hK hc i pins s σ H E I hf st hg
  subst hP hw hK
  obtain ⟨hi,st⟩:=st
  have hg:xs.length <= i:=hg
  have ei:(xs.length:Int) - 1 - (i:Int) = -1:=by omega
  rw [ei] at st
  obtain ⟨f0,f1,f2,f3,f4,f5⟩:=hf it (by simp)
  exact wpAny_pyNext_rev_end (I.ok.hd hc) st fun h' eb=>⟨rfl,I.turned (t':=s.toks) (fun b o hb e=>eb b o hb e) f0 f1 f3 f4 f5⟩
 self:=fun _ _ _ _ _ st h=>wpAny_pyIter_revIter st.2 h
def aAg (K:PySem.W.Frag) (ta:TA):TI:=fun σ H R=>ta σ H fun vs H1=>∃ a xs,vs=[.ref a] /\ bM K H1 a xs /\ R (Xo K a xs) H1
theorem Cu:bootBuiltins "reversed" = some (.type "reversed"):=by decide +kernel
theorem Pb {tg a:Expr}{ta:TA}{p pos:Pos} (hg:Gl X "reversed") (hm:X.mg "reversed" = none) (ha:PA X [a] ta) (hs:starEach [a] X.env=[(false,eval a X.env)]:=by rfl):PI X tg (.Call (.Name "reversed" p) [a] [] pos) (aAg X.K ta):=by
 intro pins s σ H R I h
 refine Call_ (qM I hg hm Cu (PyProof.Rows.callWith_type1 (eN (ha pos pins s σ H _ I h) fun us s1 ⟨vs,H1,I1,r1,q1⟩=>?_) hs rfl))
 obtain ⟨b,xs,e,hS,q⟩:=q1
 subst e
 obtain ⟨u,rfl,ru⟩:=j4 r1
 cases (show u=Value.ref b from ru)
 obtain ⟨its,rv,pl,hz⟩:=I1.list hS
 refine call_reversed_list pl.isList ?_
 have hsz:its.toArray.size=xs.length:=by rw [List.size_toArray]; exact rv.length.symm
 rw [hsz]
 have st:Heap.IsRevIter (s1.heap.push (revObj b ((xs.length:Int) - 1))) s1.heap.objs.size b ((xs.length:Int) - 1 - ((0:Nat):Int)):=by
  rw [show (xs.length:Int) - 1 - ((0:Nat):Int)=(xs.length:Int) - 1 by omega]
  exact ⟨_,Heap.get?_push_size _ rfl,rfl,rfl⟩
 have I2:aY X pins σ H1 { s1 with heap:=s1.heap.push (revObj b ((xs.length:Int) - 1)) }:=I1.kept (t':=s1.toks) fun b o e=>Heap.get?_push_of_some _ e
 refine wpAny_pyIter_revIter (s:={ s1 with heap:=s1.heap.push (revObj b ((xs.length:Int) - 1)) }) st ?_
 refine ⟨s1.heap.objs.size,[s1.heap.objs.size],_,_,H1,rfl,I2,Im b _ xs,⟨Nat.zero_le _,st⟩,fun c hc=>?_,q⟩
 have e:c=s1.heap.objs.size:=by simpa using hc
 subst e
 exact I1.fpOk (Nat.le_refl _) (I1.hok.fresh (Nat.le_refl _))
end
theorem jG {X:Cx}{K:PySem.W.Frag} (h:X.K=K):YH X (Ui K):=by subst h; exact cO
theorem pP {X:Cx}{K:PySem.W.Frag} (h:X.K=K):YH X (Wj K):=by subst h; exact dF
theorem gQ {X:Cx}{K:PySem.W.Frag} (hK:X.K=K) {pos:Pos}{es:List Expr}{k:Nat}{t:O3}{n:Nat} (hc:X.calm=true) (h:Vk X es t)
  (hn:(assignEach es X.env).length=n:=by rfl) (hst:(assignEach es X.env).findIdx? (·.1)=none:=by rfl):PG X (.Tuple es k pos) (V2 K n t):=by
 subst hK
 exact vD hc h hn hst
theorem JL {a:Addr}{o:Obj}{kvs:List (List cZ × V)}{g:TG}{tb:TS}{D:sV}{σ : St}{H:Hp} (Pv:Nat->St->Hp->Prop) (h0:Pv 0 σ H) (hl:∀ i σ H,i <= kvs.length->Pv i σ H->H a=some (.frz o (.dT kvs)))
  (hs:∀ i k v q σ H,kvs[i]? = some (k,v)->H q=some (.tup (k.map kV))->Pv i σ H->g (.ref q) σ H fun σ2 H2=>tb { D with nx:=Pv (i + 1),ct:=Pv (i + 1),bk:=D.nx } σ2 H2) (hd:∀ σ H,Pv kvs.length σ H->D.nx σ H) :
  ∃ W:Nat->Nat->St->Hp->Prop,(∃ m,W 0 m σ H) /\ ∀ i m σ H,W i m σ H ->
   ((Qo a o kvs).stop i H /\ D.nx σ H) ∨ ((Qo a o kvs).go i H /\ ∃ N:St->Hp->Prop,(∀ σ' H',N σ' H'->∃ m',m' < m /\ W (i + 1) m' σ' H') /\ ∀ x H',(Qo a o kvs).yld i H x H'->g x σ H' fun σ2 H2=>tb { D with nx:=N,ct:=N,bk:=D.nx } σ2 H2):=by
 refine ⟨fun i m σ H=>m=kvs.length - i /\ i <= kvs.length /\ Pv i σ H,⟨kvs.length,by simp,Nat.zero_le _,h0⟩,?_⟩
 rintro i m σ H ⟨rfl,hi,p⟩
 have q:=hl i σ H hi p
 by_cases hlt:i < kvs.length
 ·refine .inr ⟨⟨q,hlt⟩,Pv (i + 1),fun σ' H' p'=>⟨kvs.length - (i + 1),by omega,rfl,hlt,p'⟩,fun x H' y=>?_⟩
  obtain ⟨e,k,v,z,hk,ex,ht⟩:=y
  subst e ex
  exact hs i k v z σ _ hk ht p
 ·have e:i=kvs.length:=by omega
  subst e
  exact .inl ⟨⟨q,Nat.le_refl _⟩,hd σ H p⟩
end L2
namespace L2
open PySem PySem.Spec PyProof.Rows
theorem Ii {Pg:Program}{w:World}{K:PySem.W.Frag}{mg mb:Str->Option Value}{CX:Ab}{k:Nat}{fa a P c:Addr}{fd:FuncData}{x:Str}{sp:Sp}{s₁ : Shared}{vs:List Value}{ns:List Int}
  (KX:K.In s₁.heap) (hns:s₁.heap.Ns mainGlobals mg) (hb:s₁.heap.Ns builtinsNs mb) (hbb:∀ x:Str,x ≠ "__name__" -> mb x=bootBuiltins x) (hlim:s₁.heap.NoLimit) (hg:s₁.gens = #[])
  (ha:s₁.heap.get? a=some { cls:=.type "list",data:=.seq vs.toArray }) (hi:IntsAre vs ns) (hl:ns.length <= sizeLine) (hr:eV k callerA)
  (hP:s₁.heap.get? P=some (PySem.W.tabObj #[])) (hC:PySem.W.CodeHd s₁.heap c P) (hB:∃ bm ob,mg "__builtins__" = some (.ref bm) /\ bm ≠ builtinsNs /\ s₁.heap.get? bm=some ob /\ ob.cls = .type "module" /\ ob.dict=some builtinsNs /\ ob.data = .plain)
  (hKP:K.lookup P=none) (hCK:∀ h,K.In h->PySem.W.CodeHd h c P)
  (F:∀ base:Heap,K.In base->base.Ns mainGlobals mg->PySem.W.CodeHd base c P->base.BuiltinsAt mg P->aV Pg w K mg base CX k fa fd [x] sp) (hbind:∀ (s:Shared) (u:Value),BindsTo s fd ⟨[u],[]⟩ [(x,u)])
  (hsp:∀ H:Hp,H P=some (.tbl #[])->bM K H a (ns.map V.int)->sp [.ref a] H (fun v _=>v = .bl true) fun _ _ _=>False)
  (hCX:∀ H e s',CX [] H s₁ (fun _ _ _=>False) e s'->False) :
  codeAny (model Pg w) callerA (.call (.ref fa) ⟨[.ref a],[]⟩) (fun r s'=>r = .ok (.ret (.bool true)) /\ OldK s₁.heap s'.heap /\ s'.os=s₁.os /\ AllBare s'.gens) s₁:=by
 have rv:=qU hi
 have lenV:=hi.length
 have haP:a ≠ P:=fun z=>by rw [z,hP] at ha; cases ha
 have core:∀ H:Hp,H P=some (.tbl #[])->(∀ b,b ≠ P->H b=none ∨ ∃ xs,b=a /\ H b=some (.frz { cls:=.type "list",data:=.seq vs.toArray } (.lst xs)))->bM K H a (ns.map V.int)->nM Pg w H s₁.heap->(H a ≠ none->K.lookup a=none) ->
   codeAny (model Pg w) callerA (.call (.ref fa) ⟨[.ref a],[]⟩) (fun r s'=>r = .ok (.ret (.bool true)) /\ OldK s₁.heap s'.heap /\ s'.os=s₁.os /\ AllBare s'.gens) s₁:=by
  intro H hHP hO hS hok hK
  have base_of:∀ {b:Addr}{o:Obj},s₁.heap.get? b=some o->H b=none->(vU s₁.heap H).get? b=some o:=fun e n=>Kg e n
  have free:∀ {b:Addr}{o:Obj},s₁.heap.get? b=some o->(∀ xs n,o.data ≠ .seq xs n)->b ≠ P->H b=none:=fun {b o} e d nP=>by
   rcases hO b nP with z | ⟨xs,z,_⟩
   ·exact z
   ·rw [z,ha] at e
    cases e
    exact absurd rfl (d _ _)
  have ndP:∀ {b:Addr}{o:Obj}{es:Array DictEntry}{ep:Nat},s₁.heap.get? b=some o->o.data = .dict es ep->b ≠ P:=fun {b o es ep} e d z=>by
   rw [z,hP] at e
   cases e
   have d':Data.fields #[]=Data.dict es ep:=d
   cases d'
  have nsK:∀ {b:Addr}{m:Str->Option Value},s₁.heap.Ns b m->(vU s₁.heap H).Ns b m:=fun {b m} ⟨o,es,ep,e,d,r⟩=>⟨o,es,ep,base_of e (free e (fun xs n z=>by rw [d] at z; cases z) (ndP e d)),d,r⟩
  have hKb:K.In (vU s₁.heap H):=fun b o e=>base_of (KX b o e) (by
   by_cases z:b=P
   ·rw [z,hKP] at e; cases e
   ·rcases hO b z with q | ⟨xs,q,r⟩
    ·exact q
    ·subst q
     rw [hK (by rw [r]; simp)] at e; cases e)
  have hM:Mod K mg (vU s₁.heap H):=⟨hKb,nsK hns,⟨mb,nsK hb,hbb⟩,let ⟨mc,h1,h2⟩:=hlim; ⟨mc,nsK h1,h2⟩⟩
  have e0:wG Pg w K mg (vU s₁.heap H) callerA [] s₁ H:=⟨rfl,hM,fun b o e=>Mp e,Nat.le_of_eq (Hr _ _),trivial,fun b hb=>absurd (show b ∈ ([]:List Addr) from hb) (by simp),hok,.of_eq hg⟩
  have hBA:(vU s₁.heap H).BuiltinsAt mg P:=by
   obtain ⟨bm,ob,b1,b2,b3,b4,b5,b6⟩:=hB
   have nP:bm ≠ P:=fun z=>by rw [z,hP] at b3; cases b3; cases b4
   have nG:bm ≠ mainGlobals:=fun z=>by
    obtain ⟨o,es,ep,e,d,_⟩:=hns
    rw [z,e] at b3
    cases b3
    rw [d] at b6
    cases b6
   exact ⟨bm,ob,b1,b2,nG,nP,base_of b3 (free b3 (fun xs n z=>by rw [b6] at z; cases z) nP),b4,b5,b6⟩
  refine codeAny_mono ((F _ hKb (nsK hns) (hCK _ hKb) hBA).run callerA [] s₁ H ⟨[.ref a],[]⟩ [.ref a] [.ref a] _ _ hr e0 (hbind s₁ (.ref a)) (.cons rfl .nil) (hsp H hHP hS)) fun r s' h=>?_
  cases r with
  | error e=>exact (hCX H e s' h).elim
  | ok fl =>
   cases fl with
   | next=>exact False.elim h
   | brk=>exact False.elim h
   | cont=>exact False.elim h
   | ret u =>
    obtain ⟨v,H',os,bare,un,hok',r',q⟩:=h
    have q':v = .bl true:=q
    subst q'
    obtain rfl:u=Value.bool true:=r'
    have keep:∀ b o,b ≠ P->s₁.heap.get? b=some o->s'.heap.get? b=some o:=fun b o nP e=>by
     rcases hO b nP with z | ⟨xs,z1,z⟩
     ·exact un.keep b o e z (by intro z; exact absurd (show b ∈ ([]:List Addr) from z) (by simp)) (by simp)
     ·obtain ⟨e1,_⟩:=hok b _ z
      obtain ⟨e2,_⟩:=hok' b _ (un.frzs b _ _ z)
      rw [e] at e1; cases e1
      exact e2
    obtain ⟨more,hm⟩:=un.tbls P #[] hHP
    have hP':s'.heap.get? P=some { cls:=.none,data:=.fields (#[] ++ more) }:=hok' P _ hm
    refine ⟨rfl,⟨fun b o e=>?_,fun b o e=>?_⟩,os,bare⟩
    ·by_cases z:b=P
     ·subst z
      rw [hP] at e
      cases e
      exact .inr (.inl ⟨(hC.tab hP).isCodeTable,rfl,#[],more,rfl,hP'⟩)
     ·exact .inl (keep b o z e)
    ·by_cases z:b=P
     ·subst z; exact ⟨_,hP'⟩
     ·exact ⟨o,keep b o z e⟩
 cases hk:K.lookup a with
 | some o =>
  have e:=KX a o hk
  rw [ha] at e
  cases e
  refine core (fun b=>if b=P then some (.tbl #[]) else none) (if_pos rfl) (fun b z=>.inl (if_neg z)) (.inr ⟨_,vs.toArray,_,hk,rfl,rfl,rfl,by rw [List.size_toArray,lenV]; exact hl,by simpa using rv⟩) (fun b u z=>?_) fun z=>absurd (if_neg haP) z
  by_cases hb:b=P
  ·have z':=(if_pos hb).symm.trans z
   cases z'
   subst hb
   exact hP
  ·have z':=(if_neg hb).symm.trans z
   cases z'
 | none =>
  refine core (fun b=>if b=P then some (.tbl #[]) else if b=a then some (.frz { cls:=.type "list",data:=.seq vs.toArray } (.lst (ns.map V.int))) else none) (if_pos rfl) (fun b z=>?_) (.inl (.inr ⟨{ cls:=.type "list",data:=.seq vs.toArray },(if_neg haP).trans (if_pos rfl)⟩)) (fun b u z=>?_) fun _=>hk
  ·by_cases hb:b=a
   ·exact .inr ⟨_,hb,(if_neg z).trans (if_pos hb)⟩
   ·exact .inl ((if_neg z).trans (if_neg hb))
  ·by_cases hb:b=P
   ·have z':=(if_pos hb).symm.trans z
    cases z'
    subst hb
    exact hP
   ·have z1:=(if_neg hb).symm.trans z
    by_cases hb2:b=a
    ·have z':=(if_pos hb2).symm.trans z1
     cases z'
     subst hb2
     exact ⟨ha,by rw [List.length_map]; exact hl,vs,_,rv,ha⟩
    ·have z':=(if_neg hb2).symm.trans z1
     cases z'
theorem JS {l:PySem.W.OpenLaw}{n k:Nat}{q:Program}{loose:List Str}{XP:(Str->Option Value)->Heap->Prop}{YP:World->Heap->Prop}{d d0:DefRec}{K:Params->PySem.W.Frag}{CX:World->Ab}{sp:World->Addr->Sp}{x x0:Str}
  (hn:l.most=some n) (hn2:n <= sizeLine) (hdf:d.params.defaults=[]) (hr:eV k callerA)
  (h0:(recsOf q).find? (fun e=>e.name == x0)=some d0)
  (hY:∀ (w:World) (h:Heap),YP w h->(K w.params).In h)
  (F:∀ (w:World) (mg:Str->Option Value) (fa:Addr) (h:Heap),(K w.params).In h->h.Ns mainGlobals mg->mg d.name=some (.ref fa) ->
   ∃ (fd:FuncData) (c P:Addr),(∀ (s:Shared) (u:Value),BindsTo s fd ⟨[u],[]⟩ [(x,u)]) /\ PySem.W.tabIn (K w.params) x0=some (c,P) /\ PySem.W.codeHdIn (K w.params) c P=true /\ (K w.params).lookup P=none ∧
    ∀ base:Heap,(K w.params).In base->base.Ns mainGlobals mg->PySem.W.CodeHd base c P->base.BuiltinsAt mg P->aV l.prog w (K w.params) mg base (CX w) k fa fd [x] (sp w P))
  (hsp:∀ (w:World) (H:Hp) (a P:Addr) (ns:List Int),ns.length <= n->H P=some (.tbl #[])->bM (K w.params) H a (ns.map V.int)->sp w P [.ref a] H (fun v _=>v = .bl true) fun _ _ _=>False)
  (hCX:∀ (w:World) (H:Hp) (s:Shared) (e:Value) (s':Shared),CX w [] H s (fun _ _ _=>False) e s'->False) :
  PySem.W.WalkO q loose XP YP l.row.toRowW d [] (fun f vs=>PySem.call f vs):=by
 refine Att.Ay hn hdf fun w s₀ s₁ mg mb fa o pm cd doc a vs ns G Y ho hd hcd hmg hobj hints hlen hg=>?_
 have KX:=hY w _ Y
 obtain ⟨fd,c,P,hb,ht,hcd,hkp,hF⟩:=F w mg fa _ KX G.T.g hmg
 obtain ⟨hC,hP⟩:=PySem.W.tab_of G.T KX h0 ht
 exact Ii KX G.T.g G.T.b G.T.builtins G.T.nolimit hg hobj hints (Nat.le_trans hlen hn2) hr hP hC G.T.bmain hkp (fun h X=>PySem.W.codeHd_of_K X hcd) hF hb (fun H hO hS=>hsp w H a P ns hlen hO hS) fun H e s'=>hCX w H s₁ e s'
end L2
namespace L2
open PySem PySem.Spec PyProof.Rows
theorem yJ {X:Cx} (hc:X.calm=true):gM X (.builtin "max") (fun xs H Q=>∃ (a:Addr) (ns:List Int),xs=[.ref a] /\ bM X.K H a (ns.map V.int) /\ ns ≠ [] /\ ∀ M,M ∈ ns->(∀ n ∈ ns,n <= M)->Q (.int M) H):=by
 intro pins s σ H xs us Q I r h
 obtain ⟨a,ns,rfl,hS,hne,q⟩:=h
 obtain ⟨u,rfl,ru⟩:=j4 r
 cases (show u=Value.ref a from ru)
 obtain ⟨its,rv,p,hz⟩:=I.list hS
 have hi:=o4 rv
 obtain ⟨zs,e⟩:=(IntsAre.allInts hi).items
 have hl:=p.isList
 rw [e] at hl
 have hns:ns=zs.toList.map (·.1):=by
  have n1:=nums_intItems (xs:=zs)
  rw [<- e,show its.toArray.toList=its from rfl,IntsAre.numsOf hi] at n1
  exact n1
 have hsz:0 < zs.size:=by
  rcases Nat.eq_zero_or_pos zs.size with z | z
  ·exfalso
   apply hne
   rw [hns]
   have:zs = #[]:=Array.eq_empty_of_size_eq_zero z
   rw [this]
   rfl
  ·exact z
 refine max_intList (I.ok.hd hc) hl hsz fun v h' tk hv hk=>?_
 obtain ⟨t,rfl⟩:=intItems_at hv
 obtain ⟨h1,h2⟩:=argBest_gt (numAt zs) (zs.size - 1)
 refine ⟨.int _,H,I.kept hk,⟨t,rfl⟩,q _ ?_ fun n hn=>?_⟩
 ·rw [hns,numAt_eq]; exact getD_mem (by rw [List.length_map,Array.length_toList]; omega)
 ·rw [hns] at hn
  obtain ⟨j,hj,rfl⟩:=mem_getD hn
  rw [List.length_map,Array.length_toList] at hj
  rw [<- numAt_eq]; exact h2 j (by omega)
theorem Pj {P:Program}{w:World}{H:Hp}{h:Heap}{a:Addr}{kvs:List (List cZ × V)} (ok:dO P w H h a (.dT kvs)) :
  (a == sysModules)=false /\ ∃ o,h.get? a=some o /\ o.ExactDict /\ ∃ es ep,o.data = .dict es ep /\ es.size=kvs.length /\ ∀ (i:Nat) k v,kvs[i]? = some (k,v)->∃ q ent,es[i]? = some ent /\ ent.key = .ref q /\ H q=some (.tup (k.map kV)):=by
 obtain ⟨z,y,xs,r,ob,es,ep,e2,ex,hd,he,nd⟩:=ok
 have hl:kvs.length=xs.length:=Paired.length r
 refine ⟨y,ob,e2,ex,es,ep,hd,?_,fun i k v hk=>?_⟩
 ·rw [<- Array.length_toList,he,List.length_map,hl]
 ·have get:∀ {l1:List (List cZ × V)}{l2:List (List cZ × Addr × Value)}{i:Nat}{k:List cZ}{v:V},Paired (fun (p:List cZ × V) (q:List cZ × Addr × Value)=>p.1=q.1 /\ H q.2.1=some (.tup (p.1.map kV)) /\ bL p.2 q.2.2) l1 l2->l1[i]? = some (k,v) ->
    ∃ q:List cZ × Addr × Value,l2[i]? = some q /\ H q.2.1=some (.tup (k.map kV)):=by
   intro l1 l2 i k v r
   induction r generalizing i with
   | nil=>intro z; simp at z
   | cons h t ih =>
    intro z
    cases i with
    | zero=>simp at z; subst z; exact ⟨_,rfl,h.2.1⟩
    | succ j=>exact ih (by simpa using z)
  obtain ⟨q,hq,ht⟩:=get r hk
  refine ⟨q.2.1,entryOfKey (tupleKind (dZ P w)) q,?_,rfl,ht⟩
  rw [<- Array.getElem?_toList,he,List.getElem?_map,hq]
  rfl
theorem Hh {P:Program}{w:World}{A:Around} (hh:A.handled=none) (it d:Addr) (hne:it ≠ d) (o:Obj) (es:Array DictEntry) (ep:Nat) (hd:o.data = .dict es ep) :
  Walks P w A it [it,d] [it] es.size (fun i v=>∃ ent,es[i]? = some ent /\ ent.key=v) (fun i h=>h.IsKeyIter it d i es.size ep /\ h.get? d=some o) where
 sub:=fun b hb=>by rw [List.mem_singleton.mp hb]; exact .head _
 frame:=fun i h h' st k=>⟨st.1.at fun o e=>k it (.head _) o e,k d (.tail _ (.head _)) _ st.2⟩
 item:=fun i s Q E hi st hQ=>by
  refine xN st.1 st.2 hd (Array.getElem?_eq_getElem hi) fun h' st' sb=>?_
  exact hQ _ h' s.toks ⟨_,Array.getElem?_eq_getElem hi,rfl⟩ ⟨st',(sb.2 d (Ne.symm hne)).trans st.2⟩ fun b o hb e=>(sb.2 b (fun z=>hb (by rw [z]; exact .head _))).trans e
 done:=fun s Q E st hQ=>by
  refine Ce hh st.1 st.2 hd (Nat.le_refl _) fun h' eb=>?_
  exact hQ h' s.toks fun b o hb e=>eb b o (fun z=>hb (by rw [z]; exact .head _)) e
 self:=fun i s Q E st hQ=>wpAny_pyIter_keyiter st.1 hQ
theorem Ja {P:Program}{w:World} (d:Addr) (lo:(d == sysModules)=false) (o:Obj) (ex:o.ExactDict) (es:Array DictEntry) (ep:Nat) (hd:o.data = .dict es ep) :
  PySem.W.KdlSrc P w "dict" d d es.size (fun i v=>∃ ent,es[i]? = some ent /\ ent.key=v) (fun h=>h.get? d=some o) where
 type:=fun s e=>⟨o,e,ex.1⟩
 there:=fun h e=>⟨Heap.lt_size e,Heap.lt_size e⟩
 keep:=fun h h' e k=>k d (.inl rfl) o e
 notList:=by decide
 notTuple:=by decide
 hint:=fun A E s Q e hq=>PySem.W.kdl_hint_dict ⟨o,e,ex.1⟩ hq
 iter:=fun A s hh e=>⟨_,_,(fun E Q hq=>yI lo e ex hd hq),Hh hh _ d (Nat.ne_of_gt (Heap.lt_size e)) o es ep hd,⟨⟨_,Heap.get?_push_size _ rfl,rfl,rfl⟩,Heap.get?_push_of_some _ e⟩⟩
theorem Er {X:Cx} (hc:X.calm=true):gM X (.type "list") (fun xs H Q=>∃ (d:Addr) (kvs:List (List cZ × V)),xs=[.ref d] /\ (H d=some (.dT kvs) ∨ ∃ o,H d=some (.frz o (.dT kvs))) ∧
  ∀ (l:Addr) (qs:List Addr),H l=none->qs.length=kvs.length->(∀ (i:Nat) k v,kvs[i]? = some (k,v)->∃ q,qs[i]? = some q /\ H q=some (.tup (k.map kV)))->Q (.ref l) (aU H l (.lst (qs.map V.ref)))):=by
 intro pins s σ H xs us Q I r h
 obtain ⟨d,kvs,rfl,hD,q⟩:=h
 obtain ⟨u,rfl,ru⟩:=j4 r
 cases (show u=Value.ref d from ru)
 have ok:dO X.prog X.w H s.heap d (.dT kvs):=by
  rcases hD with e | ⟨o,e⟩
  ·exact I.hok d _ e
  ·exact (I.hok d _ e).2
 have hz:kvs.length <= sizeLine:=ok.1
 obtain ⟨lo,o,e,ex,es,ep,hd,hsz,get⟩:=Pj ok
 refine PySem.W.kdl_call (Ja d lo o ex es ep hd) (I.ok.hd hc) e (by rw [hsz]; exact hz) fun h' tk acc c hk hl hacc=>?_
 have key:∀ (i:Nat),i < kvs.length->∃ q,acc.toList[i]? = some (Value.ref q) /\ ∀ k v,kvs[i]? = some (k,v)->H q=some (.tup (k.map kV)):=fun i hi=>by
  have hia:i < acc.size:=by rw [hacc.1,hsz]; exact hi
  obtain ⟨ent,e1,e2⟩:=hacc.2 i _ (Array.getElem?_eq_getElem hia)
  obtain ⟨q,ent',e3,e4,e5⟩:=get i _ _ (List.getElem?_eq_getElem hi)
  rw [e1] at e3
  cases e3
  refine ⟨q,?_,fun k v ek=>?_⟩
  ·rw [Array.getElem?_toList,Array.getElem?_eq_getElem hia,<- e2,e4]
  ·rw [List.getElem?_eq_getElem hi] at ek
   have ek:=Option.some.inj ek
   have:kvs[i].1=k:=by rw [ek]
   rw [<- this]
   exact e5
 have hla:acc.toList.length=kvs.length:=by rw [Array.length_toList,hacc.1,hsz]
 have eacc:acc.toList=(acc.toList.map Oe).map Value.ref:=by
  refine List.ext_getElem? fun i=>?_
  rw [List.getElem?_map,List.getElem?_map]
  by_cases hi:i < kvs.length
  ·obtain ⟨q,e1,_⟩:=key i hi
   rw [e1]
   rfl
  ·rw [List.getElem?_eq_none (by omega)]
   rfl
 refine ⟨.ref s.heap.objs.size,_,I.laid (t':=tk) hk (Nat.le_refl _) (show dO X.prog X.w _ h' _ (.lst ((acc.toList.map Oe).map V.ref)) from ⟨?_,acc.toList,c,?_,?_⟩),rfl,q _ (acc.toList.map Oe) (I.hok.fresh (Nat.le_refl _)) (by rw [List.length_map,hla]) fun i k v ek=>?_⟩
 ·rw [List.length_map,List.length_map,hla]; exact hz
 ·have z:=qP (acc.toList.map Oe)
  rw [<- eacc] at z
  exact z
 ·rw [Array.toArray_toList]; exact hl
 ·have hi:=(List.getElem?_eq_some_iff.mp ek).1
  obtain ⟨q2,e1,e2⟩:=key i hi
  exact ⟨q2,by rw [List.getElem?_map,e1]; rfl,e2 k v ek⟩
end L2
namespace Fr
theorem Kc (a b:Int):Int.gcd b (a.fmod b)=Int.gcd a b:=by
 rw [Int.fmod_def,Int.gcd_sub_mul_left_right,Int.gcd_comm]
theorem Gz {a b:Int} (hb:b ≠ 0):(a.fmod b).natAbs < b.natAbs:=by
 rcases Int.lt_or_gt_of_ne hb with h | h
 ·have e:a.fmod b = -((-a).fmod (-b)):=by
   rw [Int.fmod_def,Int.fmod_def,Int.neg_fdiv_neg,Int.neg_mul]
   omega
  have h1:=Int.fmod_nonneg_of_pos (-a) (show (0:Int) < -b by omega)
  have h2:=Int.fmod_lt_of_pos (-a) (show (0:Int) < -b by omega)
  omega
 ·have h1:=Int.fmod_nonneg_of_pos a h
  have h2:=Int.fmod_lt_of_pos a h
  omega
def dv (t b:Int):Int:=if b < 0 then -(Int.gcd t b:Int) else (Int.gcd t b:Int)
def sh (t b:Int):Int × Int:=(t.fdiv (dv t b),b.fdiv (dv t b))
structure jJ (t b:Int):Prop where
 pos:0 < b
 red:Int.gcd t b=1
theorem qW (t b:Int):(dv t b).natAbs=Int.gcd t b:=by unfold dv; split <;> omega
theorem Oa {t b:Int} (hb:b ≠ 0):dv t b ≠ 0:=by
 have:=Int.gcd_pos_of_ne_zero_right t hb
 have e:=qW t b
 omega
theorem Cw (t b:Int):dv t b ∣ t:=by
 have h:=Int.gcd_dvd_left t b
 unfold dv
 split
 ·exact Int.neg_dvd.mpr h
 ·exact h
theorem zR (t b:Int):dv t b ∣ b:=by
 have h:=Int.gcd_dvd_right t b
 unfold dv
 split
 ·exact Int.neg_dvd.mpr h
 ·exact h
theorem Dr (t b:Int):(sh t b).1 * dv t b=t:=Int.fdiv_mul_cancel (Cw t b)
theorem zT (t b:Int):(sh t b).2 * dv t b=b:=Int.fdiv_mul_cancel (zR t b)
theorem mX (t b:Int):(sh t b).1 * b=t * (sh t b).2:=by
 have h1:=Dr t b
 have h2:=zT t b
 generalize (sh t b).1=x at *
 generalize (sh t b).2=y at *
 generalize dv t b=d at *
 rw [<- h1,<- h2]
 rw [Int.mul_assoc x d y,Int.mul_comm d y]
theorem FT {t b:Int} (hb:b ≠ 0):0 < (sh t b).2:=by
 have h2:=zT t b
 have g:=Int.gcd_pos_of_ne_zero_right t hb
 rcases Int.lt_or_gt_of_ne hb with h | h
 ·have e:dv t b < 0:=by unfold dv; rw [if_pos h]; omega
  rcases (by omega:0 < (sh t b).2 ∨ (sh t b).2 <= 0) with q | q
  ·exact q
  ·have:=Int.mul_nonneg_of_nonpos_of_nonpos q (Int.le_of_lt e)
   omega
 ·have e:0 < dv t b:=by unfold dv; rw [if_neg (by omega)]; omega
  rcases (by omega:0 < (sh t b).2 ∨ (sh t b).2 <= 0) with q | q
  ·exact q
  ·have:=Int.mul_nonpos_of_nonpos_of_nonneg q (Int.le_of_lt e)
   omega
theorem Ex {t b:Int} (hb:b ≠ 0):Int.gcd (sh t b).1 (sh t b).2=1:=by
 have h:=Int.gcd_mul_right (sh t b).1 (dv t b) (sh t b).2
 rw [Dr,zT,qW] at h
 have g:=Int.gcd_pos_of_ne_zero_right t hb
 have:1 * Int.gcd t b=Int.gcd (sh t b).1 (sh t b).2 * Int.gcd t b:=by omega
 exact (Nat.eq_of_mul_eq_mul_right g this).symm
theorem Js {t b:Int} (hb:b ≠ 0):jJ (sh t b).1 (sh t b).2:=⟨FT hb,Ex hb⟩
theorem Yt {a b d:Int} (g:Int.gcd a b=1) (h:b ∣ a * d):b ∣ d:=by
 have h1:=Int.natAbs_dvd_natAbs.mpr h
 rw [Int.natAbs_mul] at h1
 have h2:Nat.Coprime b.natAbs a.natAbs:=by
  show Nat.gcd b.natAbs a.natAbs=1
  rw [Nat.gcd_comm]
  exact g
 exact Int.natAbs_dvd_natAbs.mp (h2.dvd_of_dvd_mul_left h1)
theorem Ea {a b c d:Int} (p:jJ a b) (q:jJ c d) (e:a * d=c * b):a=c /\ b=d:=by
 have pp:=p.pos
 have qp:=q.pos
 have h1:b ∣ d:=by
  have:b ∣ a * d:=⟨c,by rw [e,Int.mul_comm]⟩
  exact Yt p.red this
 have h2:d ∣ b:=by
  have:d ∣ c * b:=⟨a,by rw [<- e,Int.mul_comm]⟩
  exact Yt q.red this
 have hbd:b=d:=Int.dvd_antisymm (Int.le_of_lt pp) (Int.le_of_lt qp) h1 h2
 subst hbd
 exact ⟨Int.eq_of_mul_eq_mul_right (by omega) e,rfl⟩
end Fr
namespace Tb
structure Rw where
 t:Int
 b:Int
 w:Int
def T (B:Int) (r:Rw):Int:=r.t * (B / r.b)
def mx (x:Int):Int:=if 0 < x then x else 0
def S (B l0 l1:Int) (rs:List Rw):Int:=(rs.map fun r=>r.w * mx (T B r * l1 - l0 * B)).sum
def WT (B:Int) (rs:List Rw):Int:=(rs.map fun r=>r.w * T B r).sum
def W (rs:List Rw):Int:=(rs.map (·.w)).sum
structure CM (B:Int) (rs:List Rw):Prop where
 pos:0 < B
 dv:∀ r ∈ rs,0 < r.b /\ r.b ∣ B
theorem iH (r:Rw) (rs:List Rw):W (r :: rs)=r.w + W rs:=by simp [W]
theorem tX (B:Int) (r:Rw) (rs:List Rw):WT B (r :: rs)=r.w * T B r + WT B rs:=by simp [WT]
theorem uK (B l0 l1:Int) (r:Rw) (rs:List Rw):S B l0 l1 (r :: rs)=r.w * mx (T B r * l1 - l0 * B) + S B l0 l1 rs:=by simp [S]
theorem Be (B l0 l1:Int) (xs ys:List Rw):S B l0 l1 (xs ++ ys)=S B l0 l1 xs + S B l0 l1 ys:=by simp [S]
theorem BW (xs ys:List Rw):W (xs ++ ys)=W xs + W ys:=by simp [W]
theorem Yu {B b:Int} (hb:0 < b) (hB:0 < B) (h:b ∣ B):∃ c,0 < c /\ B=b * c /\ B / b=c:=by
 obtain ⟨c,e⟩:=h
 have hc:0 < c:=by
  rcases (by omega:0 < c ∨ c <= 0) with z | z
  ·exact z
  ·have:=Int.mul_nonpos_of_nonneg_of_nonpos (Int.le_of_lt hb) z
   omega
 refine ⟨c,hc,e,?_⟩
 rw [e,Int.mul_comm,Int.mul_ediv_cancel _ (by omega)]
theorem Gm {B:Int}{r:Rw} (hb:0 < r.b) (hB:0 < B) (h:r.b ∣ B):T B r * r.b=r.t * B:=by
 obtain ⟨c,hc,e,q⟩:=Yu hb hB h
 unfold T
 rw [q,e]
 grind
theorem Bb {c x:Int} (hc:0 < c):0 < c * x ↔ 0 < x:=by
 constructor
 ·intro h
  rcases (by omega:0 < x ∨ x <= 0) with z | z
  ·exact z
  ·have:=Int.mul_nonpos_of_nonneg_of_nonpos (Int.le_of_lt hc) z
   omega
 ·intro h
  exact Int.mul_pos hc h
theorem Hj {B l0 l1:Int}{r:Rw} (hb:0 < r.b) (hB:0 < B) (h:r.b ∣ B):0 < T B r * l1 - l0 * B ↔ l0 * r.b < r.t * l1:=by
 obtain ⟨c,hc,e,q⟩:=Yu hb hB h
 have e2:T B r * l1 - l0 * B=c * (r.t * l1 - l0 * r.b):=by
  unfold T
  rw [q,e]
  grind
 rw [e2,Bb hc]
 omega
theorem Rf (x:Int):0 <= mx x:=by unfold mx; split <;> omega
theorem Xc (x:Int):x <= mx x:=by unfold mx; split <;> omega
theorem Sw {B l0 l1 ws tops:Int} (hw:0 < ws) (hl:0 < l1) (hc:l0 * (ws * B)=tops * l1):∀ {hi:List Rw},(∀ r ∈ hi,tops <= T B r * ws)->ws * S B l0 l1 hi=l1 * (ws * WT B hi - tops * W hi)
 | [],_=>by simp [S,WT,W]
 | r :: hi,h=>by
  have ih:=Sw hw hl hc (fun x hx=>h x (List.mem_cons_of_mem _ hx))
  have hr:=h r List.mem_cons_self
  have e:ws * (T B r * l1 - l0 * B)=l1 * (T B r * ws - tops):=by grind
  have m:mx (T B r * l1 - l0 * B)=T B r * l1 - l0 * B:=by
   unfold mx
   split
   ·rfl
   ·rename_i n
    have h1:0 <= l1 * (T B r * ws - tops):=Int.mul_nonneg (Int.le_of_lt hl) (by omega)
    rw [<- e] at h1
    rcases (by omega:T B r * l1 - l0 * B=0 ∨ T B r * l1 - l0 * B < 0) with z | z
    ·omega
    ·have:=Int.mul_neg_of_pos_of_neg hw z
     omega
  rw [uK,tX,iH,m]
  have a1:ws * (r.w * (T B r * l1 - l0 * B) + S B l0 l1 hi)=r.w * (ws * (T B r * l1 - l0 * B)) + ws * S B l0 l1 hi:=by grind
  rw [a1,e,ih]
  grind
theorem Um {B l0 l1 ws tops:Int} (hw:0 < ws) (hl:0 < l1) (hc:l0 * (ws * B)=tops * l1):∀ {lo:List Rw},(∀ r ∈ lo,T B r * ws <= tops)->S B l0 l1 lo=0
 | [],_=>by simp [S]
 | r :: lo,h=>by
  have ih:=Um hw hl hc (fun x hx=>h x (List.mem_cons_of_mem _ hx))
  have hr:=h r List.mem_cons_self
  have e:ws * (T B r * l1 - l0 * B)=l1 * (T B r * ws - tops):=by grind
  have m:mx (T B r * l1 - l0 * B)=0:=by
   unfold mx
   split
   ·rename_i n
    have h1:=Int.mul_pos hw n
    have h2:l1 * (T B r * ws - tops) <= 0:=Int.mul_nonpos_of_nonneg_of_nonpos (Int.le_of_lt hl) (by omega)
    omega
   ·rfl
  rw [uK,m,ih]
  simp
theorem Hw {B l0 l1 ws tops P:Int}{lo hi:List Rw} (hw:0 < ws) (hl:0 < l1) (hc:l0 * (ws * B)=tops * l1) (ew:ws=W hi) (et:tops=WT B hi - P) (h1:∀ r ∈ hi,tops <= T B r * ws) (h2:∀ r ∈ lo,T B r * ws <= tops) :
  S B l0 l1 (lo ++ hi)=P * l1:=by
 have a:=Sw hw hl hc h1
 have b:=Um hw hl hc h2
 rw [Be,b,Int.zero_add]
 have:ws * S B l0 l1 hi=ws * (P * l1):=by rw [a,<- ew]; grind
 exact Int.eq_of_mul_eq_mul_left (by omega) this
theorem U0 (B m0 m1:Int):∀ {hi:List Rw},(∀ r ∈ hi,0 <= r.w)->m1 * WT B hi - m0 * B * W hi <= S B m0 m1 hi
 | [],_=>by simp [S,WT,W]
 | r :: hi,h=>by
  have ih:=U0 B m0 m1 (fun x hx=>h x (List.mem_cons_of_mem _ hx))
  have hr:=h r List.mem_cons_self
  have g:=Int.mul_le_mul_of_nonneg_left (Xc (T B r * m1 - m0 * B)) hr
  rw [uK,tX,iH]
  have e:m1 * (r.w * T B r + WT B hi) - m0 * B * (r.w + W hi)=r.w * (T B r * m1 - m0 * B) + (m1 * WT B hi - m0 * B * W hi):=by grind
  rw [e]
  omega
theorem Rb (B m0 m1:Int):∀ {lo:List Rw},(∀ r ∈ lo,0 <= r.w)->0 <= S B m0 m1 lo
 | [],_=>by simp [S]
 | r :: lo,h=>by
  have ih:=Rb B m0 m1 (fun x hx=>h x (List.mem_cons_of_mem _ hx))
  have g:=Int.mul_nonneg (h r List.mem_cons_self) (Rf (T B r * m1 - m0 * B))
  rw [uK]
  omega
theorem Ez {B l0 l1 m0 m1 ws tops P:Int}{lo hi:List Rw} (hB:0 < B) (hw:0 < ws) (hl:0 < l1) (hc:l0 * (ws * B)=tops * l1) (ew:ws=W hi) (et:tops=WT B hi - P)
  (hp:∀ r ∈ lo ++ hi,0 <= r.w) (lt:m0 * l1 < l0 * m1):P * m1 < S B m0 m1 (lo ++ hi):=by
 have a:=U0 B m0 m1 (hi:=hi) (fun r hr=>hp r (List.mem_append_right _ hr))
 have b:=Rb B m0 m1 (lo:=lo) (fun r hr=>hp r (List.mem_append_left _ hr))
 rw [Be]
 have q:=Int.mul_lt_mul_of_pos_left lt (Int.mul_pos hw hB)
 have e1:ws * B * (m0 * l1)=l1 * (m0 * B * ws):=by grind
 have e2:ws * B * (l0 * m1)=l1 * (m1 * tops):=by grind
 rw [e1,e2] at q
 have q2:m0 * B * ws < m1 * tops:=Int.lt_of_mul_lt_mul_left q (Int.le_of_lt hl)
 have e3:m1 * WT B hi - m0 * B * W hi=m1 * tops + P * m1 - m0 * B * ws:=by rw [<- ew]; grind
 omega
def Le (x y:Rw):Prop:=x.t * y.b <= y.t * x.b
theorem Qv {B:Int}{x y:Rw} (hB:0 < B) (hx:0 < x.b) (hy:0 < y.b) (dx:x.b ∣ B) (dy:y.b ∣ B) (h:Le x y):T B x <= T B y:=by
 have e1:=Gm hx hB dx
 have e2:=Gm hy hB dy
 have g:=Int.mul_le_mul_of_nonneg_left h (Int.le_of_lt hB)
 have k:(x.b * y.b) * T B x <= (x.b * y.b) * T B y:=by
  have a1:(x.b * y.b) * T B x=B * (x.t * y.b):=by grind
  have a2:(x.b * y.b) * T B y=B * (y.t * x.b):=by grind
  rw [a1,a2]
  exact g
 exact Int.le_of_mul_le_mul_left k (Int.mul_pos hx hy)
structure Lp (B P:Int) (rs:List Rw) (i:Nat) (tops ws:Int):Prop where
 le:i <= rs.length
 ew:ws=W (rs.drop (rs.length - i))
 et:tops=WT B (rs.drop (rs.length - i)) - P
 hi:0 < i->∀ r ∈ rs.drop (rs.length - i),tops <= T B r * ws
 z:P=0->i <= 1
theorem Lp.start {B P:Int}{rs:List Rw} (e:0 <= P):Lp B P rs 0 (-P) 0:=by
 refine ⟨Nat.zero_le _,?_,?_,fun h=>absurd h (by omega),fun _=>by omega⟩
 ·simp [W]
 ·simp [WT]
structure Qz (B:Int) (rs:List Rw):Prop where
 cm:CM B rs
 w:∀ r ∈ rs,1 <= r.w
 so:rs.Pairwise Le
theorem Iv:∀ {rs:List Rw},(∀ r ∈ rs,1 <= r.w)->rs ≠ []->0 < W rs
 | [],_,h=>absurd rfl h
 | [r],h,_=>by
  have:=h r List.mem_cons_self
  simp [W]
  omega
 | r :: s :: rs,h,_=>by
  have:=h r List.mem_cons_self
  have q:=Iv (rs:=s :: rs) (fun x hx=>h x (List.mem_cons_of_mem _ hx)) (by simp)
  rw [iH]
  omega
theorem qJ {rs:List Rw}{i:Nat} (h:i < rs.length):∃ r,rs[rs.length - 1 - i]? = some r /\ rs.drop (rs.length - (i + 1))=r :: rs.drop (rs.length - i) /\ r ∈ rs:=by
 have hk:rs.length - 1 - i < rs.length:=by omega
 refine ⟨rs[rs.length - 1 - i],List.getElem?_eq_getElem hk,?_,List.getElem_mem hk⟩
 have e1:rs.length - (i + 1)=rs.length - 1 - i:=by omega
 have e2:rs.length - i=rs.length - 1 - i + 1:=by omega
 rw [e1,e2]
 exact List.drop_eq_getElem_cons hk
theorem Qz.mono {B:Int}{rs:List Rw} (tb:Qz B rs) {x y:Rw} (hx:x ∈ rs) (hy:y ∈ rs) (h:Le x y):T B x <= T B y :=
 Qv tb.cm.pos (tb.cm.dv x hx).1 (tb.cm.dv y hy).1 (tb.cm.dv x hx).2 (tb.cm.dv y hy).2 h
theorem Lp.ws_pos {B P tops ws:Int}{rs:List Rw}{i:Nat} (tb:Qz B rs) (l:Lp B P rs i tops ws) (h:0 < i):0 < ws:=by
 rw [l.ew]
 have:=l.le
 refine Iv (fun r hr=>tb.w r (List.mem_of_mem_drop hr)) ?_
 intro e
 have:=congrArg List.length e
 simp at this
 omega
theorem Lp.next {B P tops ws:Int}{rs:List Rw}{i:Nat}{r:Rw} (tb:Qz B rs) (hP:0 <= P) (l:Lp B P rs i tops ws) (hi:i < rs.length) (hr:rs[rs.length - 1 - i]? = some r) (go:¬ (0 < ws /\ T B r * ws <= tops)) :
  Lp B P rs (i + 1) (tops + r.w * T B r) (ws + r.w):=by
 obtain ⟨r',e1,e2,hm⟩:=qJ hi
 rw [hr] at e1
 cases e1
 have hw:=tb.w r hm
 have last:tops <= T B r * ws:=by
  by_cases h0:0 < i
  ·have:=l.ws_pos tb h0
   omega
  ·have z:i=0:=by omega
   subst z
   have a:=l.ew
   have b:=l.et
   simp [W] at a
   simp [WT] at b
   rw [a,b]
   omega
 have mine:tops + r.w * T B r <= T B r * (ws + r.w):=by
  have:T B r * (ws + r.w)=T B r * ws + r.w * T B r:=by grind
  omega
 have wp:0 < ws + r.w:=by
  by_cases h0:0 < i
  ·have:=l.ws_pos tb h0
   omega
  ·have z:i=0:=by omega
   subst z
   have a:=l.ew
   simp [W] at a
   omega
 refine ⟨hi,?_,?_,fun _ x hx=>?_,fun p0=>?_⟩
 ·rw [e2,iH,<- l.ew]; omega
 ·rw [e2,tX,l.et]; omega
 ·rw [e2] at hx
  rcases List.mem_cons.mp hx with z | z
  ·subst z; exact mine
  ·have pw:(r :: rs.drop (rs.length - i)).Pairwise Le:=by
    rw [<- e2]
    exact tb.so.sublist (List.drop_sublist _ _)
   have le:=(List.pairwise_cons.mp pw).1 x z
   have tm:=tb.mono hm (List.mem_of_mem_drop z) le
   have:=Int.mul_le_mul_of_nonneg_right tm (Int.le_of_lt wp)
   omega
 ·have k:=l.z p0
  rcases (by omega:i=0 ∨ i=1) with z | z
  ·omega
  ·exfalso
   subst z
   apply go
   have wp1:=l.ws_pos tb (by decide)
   refine ⟨wp1,?_⟩
   obtain ⟨r2,f1,f2,fm⟩:=qJ (rs:=rs) (i:=0) (by omega)
   have f3:rs.drop (rs.length - 1)=[r2]:=by
    have:rs.drop (rs.length - 0)=[]:=by simp
    rw [f2,this]
   have a:=l.ew
   have b:=l.et
   rw [f3] at a b
   simp [W] at a
   simp [WT] at b
   have pw:(r :: rs.drop (rs.length - 1)).Pairwise Le:=by
    rw [<- e2]
    exact tb.so.sublist (List.drop_sublist _ _)
   have le:=(List.pairwise_cons.mp pw).1 r2 (by rw [f3]; exact List.mem_cons_self)
   have tm:=tb.mono hm fm le
   have:=Int.mul_le_mul_of_nonneg_right tm (Int.le_of_lt wp1)
   rw [b,a] at *
   have e:T B r2 * r2.w=r2.w * T B r2:=Int.mul_comm _ _
   omega
structure Lv (B P l0 l1:Int) (rs:List Rw):Prop where
 pos:0 < l1
 has:S B l0 l1 rs=P * l1
 more:∀ m0 m1:Int,m0 * l1 < l0 * m1->P * m1 < S B m0 m1 rs
theorem Lp.ends {B P tops ws l0 l1:Int}{rs:List Rw}{i:Nat} (tb:Qz B rs) (l:Lp B P rs i tops ws) (h0:0 < i) (stop:i=rs.length ∨ ∃ r,rs[rs.length - 1 - i]? = some r /\ i < rs.length /\ T B r * ws <= tops)
  (hl:0 < l1) (hc:l0 * (ws * B)=tops * l1):Lv B P l0 l1 rs:=by
 have wp:=l.ws_pos tb h0
 have e:rs=rs.take (rs.length - i) ++ rs.drop (rs.length - i):=(List.take_append_drop _ _).symm
 have lo:∀ r ∈ rs.take (rs.length - i),T B r * ws <= tops:=by
  rcases stop with z | ⟨r,hr,hi,ht⟩
  ·subst z
   simp
  ·intro x hx
   obtain ⟨j,hj,ex⟩:=List.mem_iff_getElem.mp hx
   rw [List.length_take] at hj
   rw [List.getElem_take] at ex
   have hk:rs.length - 1 - i < rs.length:=by omega
   rw [List.getElem?_eq_getElem hk] at hr
   have er:=Option.some.inj hr
   have tm:T B x <= T B r:=by
    by_cases ej:j=rs.length - 1 - i
    ·subst ej
     rw [<- ex,<- er]
     exact Int.le_refl _
    ·have le:=List.pairwise_iff_getElem.mp tb.so j (rs.length - 1 - i) (by omega) hk (by omega)
     rw [ex,er] at le
     exact tb.mono (by rw [<- ex]; exact List.getElem_mem _) (by rw [<- er]; exact List.getElem_mem _) le
   have:=Int.mul_le_mul_of_nonneg_right tm (Int.le_of_lt wp)
   omega
 refine ⟨hl,?_,fun m0 m1 lt=>?_⟩
 ·rw [e]
  exact Hw wp hl hc l.ew l.et (l.hi h0) lo
 ·rw [e]
  exact Ez tb.cm.pos wp hl hc l.ew l.et (fun r hr=>by rw [<- e] at hr; have:=tb.w r hr; omega) lt
theorem Lp.zero {B tops ws:Int}{rs:List Rw}{i:Nat} (tb:Qz B rs) (fr:∀ r ∈ rs,Fr.jJ r.t r.b) (l:Lp B 0 rs i tops ws) (h0:0 < i):∃ r,rs[rs.length - 1]? = some r /\ (Fr.sh tops (ws * B))=(r.t,r.b):=by
 have k:=l.z rfl
 have z:i=1:=by omega
 subst z
 have hle:=l.le
 obtain ⟨r2,f1,f2,fm⟩:=qJ (rs:=rs) (i:=0) (by omega)
 have f3:rs.drop (rs.length - 1)=[r2]:=by
  have:rs.drop (rs.length - 0)=[]:=by simp
  rw [f2,this]
 have a:=l.ew
 have b:=l.et
 rw [f3] at a b
 simp [W] at a
 simp [WT] at b
 have hw:=tb.w r2 fm
 have hB:=tb.cm.pos
 have hb:=(tb.cm.dv r2 fm).1
 refine ⟨r2,by simpa using f1,?_⟩
 have ne:ws * B ≠ 0:=Int.ne_of_gt (Int.mul_pos (by omega) hB)
 have cr:=Fr.mX tops (ws * B)
 have tm:=Gm hb hB (tb.cm.dv r2 fm).2
 have ok:=Fr.Js (t:=tops) ne
 have q:(Fr.sh tops (ws * B)).1 * r2.b=r2.t * (Fr.sh tops (ws * B)).2:=by
  generalize (Fr.sh tops (ws * B)).1=x at *
  generalize (Fr.sh tops (ws * B)).2=y at *
  rw [a,b] at cr
  have:(r2.w * B) * (x * r2.b)=(r2.w * B) * (r2.t * y):=by grind
  exact Int.eq_of_mul_eq_mul_left (Int.ne_of_gt (Int.mul_pos (by omega) hB)) this
 obtain ⟨u1,u2⟩:=Fr.Ea ok (fr r2 fm) q
 exact Prod.ext u1 u2
end Tb
namespace Tb
def Wt (ps:List Rw) (t b:Int):Int:=(ps.map fun r=>if r.t=t /\ r.b=b then r.w else 0).sum
def tH (ps:List Rw) (t b:Int):Prop:=∃ p ∈ ps,p.t=t /\ p.b=b
def Lt (x y:Rw):Prop:=x.t * y.b < y.t * x.b
structure DP (ps ys:List Rw):Prop where
 lt:ys.Pairwise Lt
 fr:∀ y ∈ ys,Fr.jJ y.t y.b
 has:∀ t b,tH ys t b ↔ tH ps t b
 d:∃ d,0 < d /\ ∀ y ∈ ys,Wt ps y.t y.b=y.w * d
 one:∀ e:Int,(∀ y ∈ ys,e ∣ y.w)->e ∣ 1
theorem PX (t b:Int):Wt [] t b=0:=rfl
theorem lM (r:Rw) (ps:List Rw) (t b:Int):Wt (r :: ps) t b=(if r.t=t /\ r.b=b then r.w else 0) + Wt ps t b:=by simp [Wt]
theorem w6 (ps qs:List Rw) (t b:Int):Wt (ps ++ qs) t b=Wt ps t b + Wt qs t b:=by simp [Wt]
theorem lJ {ps qs:List Rw}{t b:Int}:tH (ps ++ qs) t b ↔ tH ps t b ∨ tH qs t b:=by
 constructor
 ·rintro ⟨p,hp,e⟩
  rcases List.mem_append.mp hp with z | z
  ·exact .inl ⟨p,z,e⟩
  ·exact .inr ⟨p,z,e⟩
 ·rintro (⟨p,hp,e⟩ | ⟨p,hp,e⟩)
  ·exact ⟨p,List.mem_append_left _ hp,e⟩
  ·exact ⟨p,List.mem_append_right _ hp,e⟩
theorem jV {r:Rw}{ps:List Rw}{t b:Int}:tH (r :: ps) t b ↔ (r.t=t /\ r.b=b) ∨ tH ps t b:=by
 constructor
 ·rintro ⟨p,hp,e⟩
  rcases List.mem_cons.mp hp with z | z
  ·subst z; exact .inl e
  ·exact .inr ⟨p,z,e⟩
 ·rintro (e | ⟨p,hp,e⟩)
  ·exact ⟨r,List.mem_cons_self,e⟩
  ·exact ⟨p,List.mem_cons_of_mem _ hp,e⟩
theorem uA {t b:Int}:¬ tH [] t b:=by rintro ⟨p,hp,_⟩; cases hp
theorem Gq:∀ {ps:List Rw}{t b:Int},¬ tH ps t b->Wt ps t b=0
 | [],_,_,_=>rfl
 | r :: ps,t,b,h=>by
  rw [lM,if_neg fun e=>h (jV.mpr (.inl e)),Gq fun e=>h (jV.mpr (.inr e))]
  rfl
theorem Od:∀ {ps:List Rw} (t b:Int),(∀ r ∈ ps,1 <= r.w)->0 <= Wt ps t b
 | [],_,_,_=>Int.le_refl 0
 | r :: ps,t,b,h=>by
  have:=Od t b fun x hx=>h x (List.mem_cons_of_mem _ hx)
  have hr:=h r List.mem_cons_self
  rw [lM]
  split <;> omega
theorem yQ:∀ {ps:List Rw}{t b:Int},(∀ r ∈ ps,1 <= r.w)->tH ps t b->1 <= Wt ps t b
 | [],_,_,_,h=>absurd h uA
 | r :: ps,t,b,h,q=>by
  have hr:=h r List.mem_cons_self
  have hn:=Od t b fun x hx=>h x (List.mem_cons_of_mem _ hx)
  rw [lM]
  split
  ·omega
  ·rename_i ne
   rcases jV.mp q with z | z
   ·exact absurd z ne
   ·have:=yQ (fun x hx=>h x (List.mem_cons_of_mem _ hx)) z
    omega
theorem Nm:∀ {ps:List Rw} (t b:Int),(∀ r ∈ ps,1 <= r.w)->Wt ps t b <= W ps
 | [],_,_,_=>Int.le_refl 0
 | r :: ps,t,b,h=>by
  have hr:=h r List.mem_cons_self
  have:=Nm t b fun x hx=>h x (List.mem_cons_of_mem _ hx)
  rw [lM,iH]
  split <;> omega
theorem Ks {x y:Rw} (h:Lt x y) (e1:x.t=y.t) (e2:x.b=y.b):False:=by
 unfold Lt at h
 rw [e1,e2] at h
 omega
theorem JF {t b u c m:Int} (hb:0 < b) (hc:0 < c) (bm:b <= m) (cm:c <= m) (lt:t * c < u * b):(t * (m * m)).fdiv b < (u * (m * m)).fdiv c:=by
 have hm:0 < m:=by omega
 rw [Int.fdiv_eq_ediv_of_nonneg _ (Int.le_of_lt hb),Int.fdiv_eq_ediv_of_nonneg _ (Int.le_of_lt hc)]
 have k1:(t * (m * m)) / b * b <= t * (m * m):=Int.ediv_mul_le _ (Int.ne_of_gt hb)
 have hbc:b * c <= m * m:=Int.mul_le_mul bm cm (Int.le_of_lt hc) (Int.le_of_lt hm)
 have h1:(t * c + 1) * (m * m) <= u * b * (m * m):=Int.mul_le_mul_of_nonneg_right (by omega) (Int.le_of_lt (Int.mul_pos hm hm))
 suffices h:(t * (m * m)) / b + 1 <= (u * (m * m)) / c by omega
 refine (Int.le_ediv_iff_mul_le hc).mpr ?_
 have h2:b * (((t * (m * m)) / b + 1) * c) <= b * (u * (m * m)):=by
  have e1:b * (((t * (m * m)) / b + 1) * c)=c * ((t * (m * m)) / b * b) + b * c:=by grind
  have e2:b * (u * (m * m))=u * b * (m * m):=by grind
  have e3:(t * c + 1) * (m * m)=c * (t * (m * m)) + m * m:=by grind
  have h3:=Int.mul_le_mul_of_nonneg_left k1 (Int.le_of_lt hc)
  omega
 exact Int.le_of_mul_le_mul_left h2 hb
def sO (ns:List Int):Int:=ns.foldl (fun d n=>((Int.gcd d n:Nat):Int)) 0
theorem Hq (ns:List Int) (n:Int):sO (ns ++ [n])=((Int.gcd (sO ns) n:Nat):Int):=by unfold sO; rw [List.foldl_append]; rfl
theorem vN:∀ (ns:List Int) (d:Int),(ns.foldl (fun d n=>((Int.gcd d n:Nat):Int)) d ∣ d) /\ (∀ n ∈ ns,ns.foldl (fun d n=>((Int.gcd d n:Nat):Int)) d ∣ n) /\ ∀ e:Int,e ∣ d->(∀ n ∈ ns,e ∣ n)->e ∣ ns.foldl (fun d n=>((Int.gcd d n:Nat):Int)) d
 | [],d=>⟨Int.dvd_refl d,(fun _ h=>nomatch h),fun e h _=>h⟩
 | n :: ns,d=>by
  obtain ⟨a,b,c⟩:=vN ns ((Int.gcd d n:Nat):Int)
  refine ⟨Int.dvd_trans a (Int.gcd_dvd_left d n),fun k hk=>?_,fun e he hn=>c e (Int.dvd_coe_gcd he (hn n List.mem_cons_self)) fun k hk=>hn k (List.mem_cons_of_mem _ hk)⟩
  rcases List.mem_cons.mp hk with z | z
  ·subst z; exact Int.dvd_trans a (Int.gcd_dvd_right d k)
  ·exact b k z
theorem uJ {ns:List Int}{n:Int} (h:n ∈ ns):sO ns ∣ n:=(vN ns 0).2.1 n h
theorem Ed {ns:List Int}{e:Int} (h:∀ n ∈ ns,e ∣ n):e ∣ sO ns:=(vN ns 0).2.2 e (Int.dvd_zero e) h
theorem Gj:∀ (ns:List Int) (d:Int),0 <= d->0 <= ns.foldl (fun d n=>((Int.gcd d n:Nat):Int)) d
 | [],_,h=>h
 | n :: ns,d,_=>Gj ns _ (Int.natCast_nonneg _)
theorem Ip {ns:List Int}{n:Int} (h:n ∈ ns) (hn:1 <= n):0 < sO ns:=by
 have h0:0 <= sO ns:=Gj ns 0 (Int.le_refl 0)
 rcases (by omega:0 < sO ns ∨ sO ns=0) with z | z
 ·exact z
 ·have:=uJ h
  rw [z] at this
  have:=Int.zero_dvd.mp this
  omega
end Tb
set_option maxHeartbeats 4000000
namespace TD
open PySem L2
open Builtin.Int (intBits)
structure dJ where
 p:Addr
 q:Addr
 t:Int
 b:Int
 w:Int
def dJ.r (x:dJ):Tb.Rw:=⟨x.t,x.b,x.w⟩
def jY (H:Hp) (x:dJ):Prop:=H x.p=some (.tup [.ref x.q,.int x.w]) /\ H x.q=some (.tup [.int x.t,.int x.b])
def jZ (xs:List dJ):List V:=xs.map fun x=>V.ref x.p
structure gD (H:Hp) (a:Addr) (xs:List dJ):Prop where
 lst:H a=some (.lst (jZ xs))
 rows:∀ x ∈ xs,jY H x
def dX (xs:List dJ):List Tb.Rw:=xs.map dJ.r
theorem jY.same {H H':Hp}{x:dJ} (s:aM H H') (h:jY H x):jY H' x:=⟨s _ _ h.1,s _ _ h.2⟩
theorem gD.same {H H':Hp}{a:Addr}{xs:List dJ} (s:aM H H') (h:gD H a xs):gD H' a xs:=⟨s _ _ h.lst,fun x hx=>(h.rows x hx).same s⟩
theorem dB (xs:List dJ):(jZ xs).length=xs.length:=List.length_map _
theorem fM (xs:List dJ):(dX xs).length=xs.length:=List.length_map _
theorem nH {xs:List dJ}{i:Nat}{v:V} (h:(jZ xs)[i]? = some v):∃ x,xs[i]? = some x /\ v = .ref x.p:=by
 unfold jZ at h
 rw [List.getElem?_map] at h
 cases e:xs[i]? with
 | none=>rw [e] at h; cases h
 | some x=>rw [e] at h; cases h; exact ⟨x,rfl,rfl⟩
theorem nJ (xs:List dJ) (y:dJ):jZ (xs ++ [y])=jZ xs ++ [V.ref y.p]:=by unfold jZ; rw [List.map_append]; rfl
theorem lB (xs:List dJ) (y:dJ):dX (xs ++ [y])=dX xs ++ [y.r]:=by unfold dX; rw [List.map_append]; rfl
theorem Ec (xs ys:List dJ):dX (xs ++ ys)=dX xs ++ dX ys:=by unfold dX; rw [List.map_append]
theorem bH {α : Type}{xs:List α}{i:Nat}{x:α} (h:xs[i]? = some x):xs.take (i + 1)=xs.take i ++ [x]:=by
 rw [List.take_add_one,h]
 rfl
theorem jY.over {H:Hp}{a:Addr}{xs zs:List V}{x:dJ} (h:jY H x) (e:H a=some (.lst xs)):jY (aU H a (.lst zs)) x :=
 ⟨by rw [aH (bC h.1 e fun z=>nomatch z)]; exact h.1,by rw [aH (bC h.2 e fun z=>nomatch z)]; exact h.2⟩
theorem X8:1 <= sizeLine:=Nat.le_of_lt (aQ (by decide))
theorem tO:2 <= sizeLine:=Nat.le_of_lt (aQ (by decide))
theorem RM:3 <= sizeLine:=Nat.le_of_lt (aQ (by decide))
theorem gH {m n:Nat}{x y:Int} (hx:intBits x <= m) (hy:intBits y <= n) (h:m + n <= 134217728):Kh x y:=Nat.le_trans (Nat.add_le_add hx hy) h
theorem fU {K:PySem.W.Frag} (T:String):PySem.W.kitOne K (.type T) (.type T)=some true:=by
 unfold PySem.W.kitOne
 rw [if_pos (beq_self_eq_true _)]
theorem lN {K:PySem.W.Frag}:PySem.W.kitOne K (.type "int") (.type "bool")=some false:=by rfl
structure Rs where
 q:Addr
 t:Int
 b:Int
def mD (rs:List Rs):List V:=rs.map fun r=>V.ref r.q
def RL (x y:Rs):Prop:=x.t * y.b < y.t * x.b
def LeR (x y:Rs):Prop:=x.t * y.b <= y.t * x.b
def kI (r:Rs):List cZ:=[.inl r.t,.inl r.b]
def Pu (H:Hp) (r:Rs):Prop:=H r.q=some (.tup [.int r.t,.int r.b])
theorem pD (rs:List Rs):(mD rs).length=rs.length:=List.length_map _
theorem M9 (rs:List Rs):mD rs=(rs.map (·.q)).map V.ref:=by unfold mD; rw [List.map_map]; rfl
theorem Dh {rs:List Rs}{i:Nat}{v:V} (h:(mD rs)[i]? = some v):∃ x,rs[i]? = some x /\ v = .ref x.q:=by
 unfold mD at h
 rw [List.getElem?_map] at h
 cases e:rs[i]? with
 | none=>rw [e] at h; cases h
 | some x=>rw [e] at h; cases h; exact ⟨x,rfl,rfl⟩
theorem tY {x:Rs}{t b:Int}:kI x=[.inl t,.inl b] ↔ x.t=t /\ x.b=b:=by
 unfold kI
 constructor
 ·intro h
  injection h with h1 h2
  injection h2 with h2 _
  injection h1 with h1
  injection h2 with h2
  exact ⟨h1,h2⟩
 ·rintro ⟨rfl,rfl⟩; rfl
theorem Vy {x y:Rs} (fx:Fr.jJ x.t x.b) (fy:Fr.jJ y.t y.b) (h:LeR x y) (ne:kI x ≠ kI y):RL x y:=by
 unfold LeR at h
 unfold RL
 rcases (by omega:x.t * y.b < y.t * x.b ∨ x.t * y.b=y.t * x.b) with z | z
 ·exact z
 ·obtain ⟨e1,e2⟩:=Fr.Ea fx fy z
  exact absurd (tY.mpr ⟨e1,e2⟩) ne
structure Dk (ps:List Tb.Rw) (kvs:List (List cZ × V)):Prop where
 nd:(kvs.map (·.1)).Nodup
 en:∀ kv ∈ kvs,∃ t b,kv=([.inl t,.inl b],.int (Tb.Wt ps t b)) /\ Tb.tH ps t b
 all:∀ t b,Tb.tH ps t b->([Sum.inl t,Sum.inl b]:List cZ) ∈ kvs.map (·.1)
theorem Dk.nil:Dk [] []:=⟨List.nodup_nil,(fun _ h=>nomatch h),fun t b h=>absurd h Tb.uA⟩
theorem uG {kvs:List (List cZ × V)}{k:List cZ}{v:V} (h:lL kvs k=some v):(k,v) ∈ kvs:=by
 unfold lL at h
 cases e:kvs.find? fun kv=>decide (kv.1=k) with
 | none=>rw [e] at h; cases h
 | some kv =>
  rw [e] at h
  have h1:kv.2=v:=Option.some.inj h
  have h2:=List.find?_some e
  have h3:kv.1=k:=of_decide_eq_true h2
  rw [<- h1,<- h3]
  exact List.mem_of_find?_eq_some e
theorem Gv {t b t' b':Int} (h:([Sum.inl t,Sum.inl b]:List cZ)=[.inl t',.inl b']):t=t' /\ b=b':=by
 injection h with h1 h2
 injection h2 with h2 _
 injection h1 with h1
 injection h2 with h2
 exact ⟨h1,h2⟩
theorem Dk.val {ps:List Tb.Rw}{kvs:List (List cZ × V)} (d:Dk ps kvs) {t b:Int} (h:Tb.tH ps t b):lL kvs [.inl t,.inl b]=some (.int (Tb.Wt ps t b)):=by
 cases e:lL kvs [.inl t,.inl b] with
 | none=>exact absurd (d.all t b h) (Ko e)
 | some v =>
  obtain ⟨t',b',e2,_⟩:=d.en _ (uG e)
  injection e2 with e3 e4
  obtain ⟨rfl,rfl⟩:=Gv e3
  rw [e4]
theorem Dk.get {ps:List Tb.Rw}{kvs:List (List cZ × V)} (d:Dk ps kvs) (t b:Int):(lL kvs [.inl t,.inl b]).getD (.int 0) = .int (Tb.Wt ps t b):=by
 by_cases h:Tb.tH ps t b
 ·rw [d.val h]; rfl
 ·cases e:lL kvs [.inl t,.inl b] with
  | none=>rw [Tb.Gq h]; rfl
  | some v =>
   obtain ⟨t',b',e2,h2⟩:=d.en _ (uG e)
   injection e2 with e3 e4
   obtain ⟨rfl,rfl⟩:=Gv e3
   exact absurd h2 h
theorem J8 {kvs:List (List cZ × V)}{k:List cZ}{v:V}{kv:List cZ × V} (h:kv ∈ jB kvs k v):kv=(k,v) ∨ (kv ∈ kvs /\ kv.1 ≠ k):=by
 unfold jB at h
 split at h
 ·obtain ⟨x,hx,e⟩:=List.mem_map.mp h
  split at e
  ·rename_i ek
   left
   rw [<- e,ek]
  ·rename_i ek
   right
   rw [<- e]
   exact ⟨hx,ek⟩
 ·rename_i na
  rcases List.mem_append.mp h with z | z
  ·right
   refine ⟨z,fun ek=>na ?_⟩
   exact List.any_eq_true.mpr ⟨kv,z,decide_eq_true ek⟩
  ·exact .inl (by simpa using z)
theorem yH {kvs:List (List cZ × V)}{k:List cZ}{v:V}:(jB kvs k v).map (·.1)=if (kvs.any fun kv=>decide (kv.1=k))=true then kvs.map (·.1) else kvs.map (·.1) ++ [k]:=by
 unfold jB
 split
 ·rw [List.map_map]
  refine List.map_congr_left fun x _=>?_
  show (if x.1=k then (x.1,v) else x).1=x.1
  split <;> rfl
 ·rw [List.map_append]; rfl
theorem Dk.put {ps:List Tb.Rw}{kvs:List (List cZ × V)} (d:Dk ps kvs) (x:Tb.Rw):Dk (ps ++ [x]) (jB kvs [.inl x.t,.inl x.b] (.int (Tb.Wt ps x.t x.b + x.w))):=by
 have hx:∀ t b,Tb.Wt [x] t b=if x.t=t /\ x.b=b then x.w else 0:=fun t b=>by rw [Tb.lM,Tb.PX,Int.add_zero]
 refine ⟨?_,fun kv hkv=>?_,fun t b h=>?_⟩
 ·rw [yH]
  split
  ·exact d.nd
  ·rename_i na
   refine List.nodup_append.mpr ⟨d.nd,List.nodup_cons.mpr ⟨List.not_mem_nil,List.nodup_nil⟩,fun y hy z hz=>?_⟩
   rw [List.mem_singleton.mp hz]
   rintro rfl
   obtain ⟨kv,hkv,e⟩:=List.mem_map.mp hy
   exact na (List.any_eq_true.mpr ⟨kv,hkv,decide_eq_true e⟩)
 ·rcases J8 hkv with z | ⟨z,ne⟩
  ·refine ⟨x.t,x.b,?_,Tb.lJ.mpr (.inr ⟨x,List.mem_cons_self,rfl,rfl⟩)⟩
   rw [z,Tb.w6,hx,if_pos ⟨rfl,rfl⟩]
  ·obtain ⟨t,b,e,h⟩:=d.en kv z
   refine ⟨t,b,?_,Tb.lJ.mpr (.inl h)⟩
   rw [Tb.w6,hx,if_neg ?_,Int.add_zero]
   ·exact e
   ·rintro ⟨rfl,rfl⟩
    exact ne (by rw [e])
 ·rw [yH]
  have key:([Sum.inl t,Sum.inl b]:List cZ) ∈ kvs.map (·.1) ∨ ([Sum.inl t,Sum.inl b]:List cZ)=[.inl x.t,.inl x.b]:=by
   rcases Tb.lJ.mp h with z | ⟨p,hp,e1,e2⟩
   ·exact .inl (d.all t b z)
   ·right
    rw [List.mem_singleton.mp hp] at e1 e2
    rw [e1,e2]
  split
  ·rename_i ya
   rcases key with z | z
   ·exact z
   ·obtain ⟨kv,hkv,e⟩:=List.any_eq_true.mp ya
    rw [z,<- of_decide_eq_true e]
    exact List.mem_map.mpr ⟨kv,hkv,rfl⟩
  ·rcases key with z | z
   ·exact List.mem_append_left _ z
   ·rw [z]; exact List.mem_append_right _ (.head _)
def wOf (kv:List cZ × V):Int:=match kv.2 with | .int w=>w | _=>0
def jE (kvs:List (List cZ × V)):Int:=Tb.sO (kvs.map wOf)
theorem Dk.wOf {ps:List Tb.Rw}{kvs:List (List cZ × V)} (d:Dk ps kvs) {t b:Int} (h:Tb.tH ps t b):Tb.Wt ps t b ∈ kvs.map TD.wOf:=by
 have m:=uG (d.val h)
 exact List.mem_map.mpr ⟨_,m,rfl⟩
theorem Dk.ne {ps:List Tb.Rw}{kvs:List (List cZ × V)} (d:Dk ps kvs) (h:ps ≠ []):kvs ≠ []:=by
 cases ps with
 | nil=>exact absurd rfl h
 | cons p ps =>
  intro e
  have:=d.all p.t p.b (Tb.jV.mpr (.inl ⟨rfl,rfl⟩))
  rw [e] at this
  cases this
theorem Dk.div_pos {ps:List Tb.Rw}{kvs:List (List cZ × V)} (d:Dk ps kvs) (h:ps ≠ []) (hw:∀ p ∈ ps,1 <= p.w):0 < jE kvs:=by
 cases ps with
 | nil=>exact absurd rfl h
 | cons p ps =>
  have hp:Tb.tH (p :: ps) p.t p.b:=Tb.jV.mpr (.inl ⟨rfl,rfl⟩)
  exact Tb.Ip (d.wOf hp) (Tb.yQ hw hp)
theorem M8 {w d:Int} (hd:0 < d) (hw:1 <= w) (h:d ∣ w):w=w.fdiv d * d /\ 1 <= w.fdiv d /\ w.fdiv d <= w:=by
 obtain ⟨c,e⟩:=h
 have ec:w.fdiv d=c:=by
  have h:=Int.mul_fdiv_cancel_left (a:=d) c (Int.ne_of_gt hd)
  rw [<- e] at h
  exact h
 rw [ec]
 have cp:0 < c:=by
  rcases (by omega:0 < c ∨ c <= 0) with z | z
  ·exact z
  ·have:=Int.mul_nonpos_of_nonneg_of_nonpos (Int.le_of_lt hd) z
   omega
 have:=Int.mul_le_mul_of_nonneg_right (show (1:Int) <= d by omega) (Int.le_of_lt cp)
 refine ⟨by rw [e,Int.mul_comm],by omega,by omega⟩
theorem Qx {ps:List Tb.Rw}{kvs:List (List cZ × V)}{rs:List Rs}{ys:List dJ} (d:Dk ps kvs) (hw:∀ p ∈ ps,1 <= p.w) (hf:∀ p ∈ ps,Fr.jJ p.t p.b) (hne:ps ≠ []) (pr:(rs.map kI).Perm (kvs.map (·.1))) (so:rs.Pairwise RL)
  (ey:ys.map (fun y=>Rs.mk y.q y.t y.b)=rs) (yw:∀ y ∈ ys,y.w=(Tb.Wt ps y.t y.b).fdiv (jE kvs)):Tb.DP ps (dX ys) /\ ∀ y ∈ ys,1 <= y.w /\ y.w <= Tb.Wt ps y.t y.b:=by
 have dp:=d.div_pos hne hw
 have yk:∀ y ∈ ys,Tb.tH ps y.t y.b:=fun y hy=>by
  have h1:kI (Rs.mk y.q y.t y.b) ∈ rs.map kI:=by
   rw [<- ey]
   exact List.mem_map.mpr ⟨_,List.mem_map.mpr ⟨y,hy,rfl⟩,rfl⟩
  obtain ⟨kv,hkv,e⟩:=List.mem_map.mp (pr.mem_iff.mp h1)
  obtain ⟨t,b,e2,h⟩:=d.en kv hkv
  rw [e2] at e
  obtain ⟨e3,e4⟩:=tY.mp e.symm
  have e3:y.t=t:=e3
  have e4:y.b=b:=e4
  rw [e3,e4]
  exact h
 have pb:∀ y ∈ ys,Tb.Wt ps y.t y.b=y.w * jE kvs /\ 1 <= y.w /\ y.w <= Tb.Wt ps y.t y.b:=fun y hy=>by
  rw [yw y hy]
  exact M8 dp (Tb.yQ hw (yk y hy)) (Tb.uJ (d.wOf (yk y hy)))
 have back:∀ t b,Tb.tH ps t b->∃ y ∈ ys,y.t=t /\ y.b=b:=fun t b h=>by
  obtain ⟨r,hr,e⟩:=List.mem_map.mp (pr.mem_iff.mpr (d.all t b h))
  rw [<- ey] at hr
  obtain ⟨y,hy,rfl⟩:=List.mem_map.mp hr
  exact ⟨y,hy,tY.mp e⟩
 refine ⟨⟨?_,fun y hy=>?_,fun t b=>?_,⟨jE kvs,dp,fun y hy=>?_⟩,fun e he=>?_⟩,fun y hy=>(pb y hy).2⟩
 ·have h:(ys.map fun y=>Rs.mk y.q y.t y.b).Pairwise RL:=by rw [ey]; exact so
  unfold dX
  rw [List.pairwise_map] at h ⊢
  exact h
 ·obtain ⟨z,hz,rfl⟩:=List.mem_map.mp hy
  obtain ⟨p,hp,e1,e2⟩:=yk z hz
  have:=hf p hp
  rw [e1,e2] at this
  exact this
 ·constructor
  ·rintro ⟨y,hy,rfl,rfl⟩
   obtain ⟨z,hz,rfl⟩:=List.mem_map.mp hy
   exact yk z hz
  ·intro h
   obtain ⟨y,hy,e1,e2⟩:=back t b h
   exact ⟨y.r,List.mem_map.mpr ⟨y,hy,rfl⟩,e1,e2⟩
 ·obtain ⟨z,hz,rfl⟩:=List.mem_map.mp hy
  exact (pb z hz).1
 ·have g:e * jE kvs ∣ jE kvs:=by
   refine Tb.Ed fun n hn=>?_
   obtain ⟨kv,hkv,rfl⟩:=List.mem_map.mp hn
   obtain ⟨t,b,e2,h⟩:=d.en kv hkv
   obtain ⟨y,hy,rfl,rfl⟩:=back t b h
   have q:=(pb y hy).1
   have q2:=he y.r (List.mem_map.mpr ⟨y,hy,rfl⟩)
   rw [e2]
   show e * jE kvs ∣ Tb.Wt ps y.t y.b
   rw [q]
   exact Int.mul_dvd_mul_right _ q2
  have g2:e * jE kvs ∣ 1 * jE kvs:=by rw [Int.one_mul]; exact g
  exact Int.dvd_of_mul_dvd_mul_right (Int.ne_of_gt dp) g2
theorem HB {α β : Type}{f:α->β}:∀ {x m:List β},x.Perm m->∀ l:List α,x=l.map f->∃ l':List α,l'.Perm l /\ m=l'.map f:=by
 intro x m h
 induction h with
 | nil=>intro l e; exact ⟨l,.refl _,e⟩
 | cons a p ih =>
  intro l e
  cases l with
  | nil=>cases e
  | cons b l =>
   injection e with e1 e2
   obtain ⟨l',p',e'⟩:=ih l e2
   exact ⟨b :: l',p'.cons b,by rw [List.map_cons,<- e1,<- e']⟩
 | swap a b t =>
  intro l e
  match l,e with
  | c :: d :: l,e =>
   injection e with e1 e2
   injection e2 with e2 e3
   exact ⟨d :: c :: l,.swap ..,by rw [List.map_cons,List.map_cons,<- e1,<- e2,<- e3]⟩
 | trans p q ih1 ih2 =>
  intro l e
  obtain ⟨l1,p1,e1⟩:=ih1 l e
  obtain ⟨l2,p2,e2⟩:=ih2 l1 e1
  exact ⟨l2,p2.trans p1,e2⟩
def J4 (m:Int) (r:Rs):Int:=(r.t * (m * m)).fdiv r.b
theorem DR {β : Type} (f:Rs->β) (g:Rs->Addr):∀ rs:List Rs,(rs.map f).zip (rs.map g)=rs.map fun r=>(f r,g r)
 | []=>rfl
 | r :: rs=>by simp [DR f g rs]
theorem Lj {m:Int}{rs:List Rs}{ps:List (Int × Addr)} (hp:ps.Perm ((rs.map (J4 m)).zip (rs.map (·.q)))) (hs:ps.Pairwise fun p q=>p.1 <= q.1) (nd:(rs.map kI).Nodup) (fr:∀ r ∈ rs,Fr.jJ r.t r.b) (hm:∀ r ∈ rs,r.b <= m) :
  ∃ rs':List Rs,rs'.Perm rs /\ ps.map (fun p=>V.ref p.2)=mD rs' /\ rs'.Pairwise RL:=by
 rw [DR] at hp
 obtain ⟨rs',p',e⟩:=HB hp.symm rs rfl
 refine ⟨rs',p',?_,?_⟩
 ·rw [e,List.map_map]; rfl
 ·have nd':(rs'.map kI).Nodup:=(p'.map kI).nodup_iff.mpr nd
  rw [e,List.pairwise_map] at hs
  have nd2:rs'.Pairwise fun x y=>kI x ≠ kI y:=List.pairwise_map.mp nd'
  refine (hs.and nd2).imp_of_mem fun {x y} hx hy h=>?_
  have fx:=fr x (p'.mem_iff.mp hx)
  have fy:=fr y (p'.mem_iff.mp hy)
  refine Vy fx fy ?_ h.2
  unfold LeR
  rcases (by omega:x.t * y.b <= y.t * x.b ∨ y.t * x.b < x.t * y.b) with z | z
  ·exact z
  ·have:=Tb.JF fy.pos fx.pos (hm y (p'.mem_iff.mp hy)) (hm x (p'.mem_iff.mp hx)) z
   have h1:J4 m x <= J4 m y:=h.1
   unfold J4 at h1
   omega
end TD
namespace L2
open PySem PySem.Spec PyProof.Rows
end L2
namespace TD
open PySem L2
open Builtin.Int (intBits)
def dW (m n:Int):Int:=m * (n.fdiv ((Int.gcd m n:Nat):Int))
def dY (ns:List Int):Int:=ns.foldl dW 1
theorem Eh {m n:Int} (hm:0 < m) (hn:0 < n):0 < dW m n /\ m ∣ dW m n /\ n ∣ dW m n:=by
 have hg:0 < ((Int.gcd m n:Nat):Int):=by have:=Int.gcd_pos_of_ne_zero_right m (Int.ne_of_gt hn); omega
 obtain ⟨c,hc⟩:=Int.gcd_dvd_right m n
 obtain ⟨d,hd⟩:=Int.gcd_dvd_left m n
 have e:n.fdiv ((Int.gcd m n:Nat):Int)=c:=by
  have h:=Int.mul_fdiv_cancel_left (a:=((Int.gcd m n:Nat):Int)) c (by omega)
  rw [<- hc] at h
  exact h
 have cp:0 < c:=by
  rcases (by omega:0 < c ∨ c <= 0) with z | z
  ·exact z
  ·have:=Int.mul_nonpos_of_nonneg_of_nonpos (Int.le_of_lt hg) z
   omega
 unfold dW
 rw [e]
 refine ⟨Int.mul_pos hm cp,⟨c,rfl⟩,⟨d,?_⟩⟩
 generalize ((Int.gcd m n:Nat):Int)=g at *
 rw [hc,hd]
 grind
theorem Bv:∀ (ns:List Int) (m:Int),0 < m->(∀ n ∈ ns,0 < n)->0 < ns.foldl dW m /\ m ∣ ns.foldl dW m /\ ∀ n ∈ ns,n ∣ ns.foldl dW m
 | [],m,hm,_=>⟨hm,Int.dvd_refl m,fun _ h=>nomatch h⟩
 | n :: ns,m,hm,h=>by
  obtain ⟨a,b,c⟩:=Eh hm (h n List.mem_cons_self)
  obtain ⟨x,y,z⟩:=Bv ns (dW m n) a fun k hk=>h k (List.mem_cons_of_mem _ hk)
  refine ⟨x,Int.dvd_trans b y,fun k hk=>?_⟩
  rcases List.mem_cons.mp hk with e | e
  ·subst e; exact Int.dvd_trans c y
  ·exact z k e
theorem GJ {ns:List Int} (h:∀ n ∈ ns,0 < n):0 < dY ns /\ ∀ n ∈ ns,n ∣ dY ns:=by
 obtain ⟨a,_,c⟩:=Bv ns 1 (by decide) h
 exact ⟨a,c⟩
theorem Bw:∀ (ns:List Int) (m:Int) (k:Nat),intBits m <= k->intBits (ns.foldl dW m) <= k + (ns.map intBits).sum
 | [],m,k,h=>by simpa using h
 | n :: ns,m,k,h=>by
  have h1:intBits (dW m n) <= k + intBits n:=PySem.intBits_mul_le h (PySem.intBits_fdiv_le (Nat.le_refl _))
  have:=Bw ns (dW m n) _ h1
  simp only [List.map_cons,List.sum_cons]
  show intBits (ns.foldl dW (dW m n)) <= _
  omega
theorem yL (ns:List Int):intBits (dY ns) <= 1 + (ns.map intBits).sum:=Bw ns 1 1 (by decide)
theorem Hx (ns:List Int) (n:Int):dY (ns ++ [n])=dW (dY ns) n:=by unfold dY; rw [List.foldl_append]; rfl
theorem DW (ns:List Int) (i:Nat):((ns.take i).map intBits).sum <= (ns.map intBits).sum:=by
 have e:ns.map intBits=(ns.take i).map intBits ++ (ns.drop i).map intBits:=by rw [<- List.map_append,List.take_append_drop]
 rw [e,List.sum_append]
 omega
theorem o6 {k:Nat}:∀ {l:List Nat},(∀ n ∈ l,n <= k)->l.sum <= k * l.length
 | [],_=>by simp
 | n :: l,h=>by
  have a:=o6 (l:=l) fun m hm=>h m (List.mem_cons_of_mem _ hm)
  have b:=h n List.mem_cons_self
  simp only [List.sum_cons,List.length_cons]
  rw [Nat.mul_add,Nat.mul_one]
  omega
def Mg:Sp:=fun vs H Q _=>∃ a b:Int,vs=[.int a,.int b] /\ Q (.int ((Int.gcd a b:Nat):Int)) H
def Ah:Sp:=fun vs H Q _=>∃ t b:Int,vs=[.int t,.int b] /\ b ≠ 0 /\ intBits b <= 9000 /\ ∀ p H',aM H H'->H' p=some (.tup [.int (Fr.sh t b).1,.int (Fr.sh t b).2])->Q (.ref p) H'
structure Sz (a b c d:Int):Prop where
 a:intBits a <= 10000
 b:intBits b <= 10000
 c:intBits c <= 10000
 d:intBits d <= 10000
def Fl (K:PySem.W.Frag):Sp:=fun vs H Q _=>∃ p q a b c d,vs=[.ref p,.ref q] /\ bZ K H p [.int a,.int b] /\ bZ K H q [.int c,.int d] /\ Sz a b c d /\ Q (.bl (decide (a * d < c * b))) H
def qY:Sp:=fun vs H Q _=>∃ i:Int,vs=[.int i] /\ Q (.bl true) H
def QR (K:PySem.W.Frag):Sp:=fun vs H Q _=>∃ (a:Addr) (ns:List Int),vs=[.ref a] /\ bM K H a (ns.map V.int) /\ (∀ n ∈ ns,0 < n) /\ (∀ n ∈ ns,intBits n <= 9000) /\ (ns.map intBits).sum <= 200000 /\ Q (.int (dY ns)) H
def cN (xs:List dJ):Int:=(xs.map dJ.w).sum
def Qd:Sp:=fun vs H Q _=>∃ (a:Addr) (xs:List dJ),vs=[.ref a] /\ gD H a xs /\ xs.length <= 1000 /\ ∀ H',aM H H'->Q (.int (cN xs)) H'
def lQ:Str:=("rising" : Str) ++ ".<locals>." ++ "<lambda>"
def Jv (K:PySem.W.Frag) (P:Addr) (lp:Pos):Sp:=fun vs H Q _=>∃ (a:Addr) (rs:List Rs),vs=[.ref a] /\ bM K H a (mD rs) /\ rs ≠ [] /\ rs.length < 64 /\ (∀ r ∈ rs,Pu H r /\ Fr.jJ r.t r.b /\ intBits r.t <= 4000 /\ intBits r.b <= 4000) /\ (rs.map kI).Nodup /\ fJ P lp lQ H ∧
 ∀ (D:Addr) (H':Hp) (rs':List Rs),cD P H H'->fJ P lp lQ H'->H' D=some (.lst (mD rs'))->rs'.Perm rs->rs'.Pairwise RL->Q (.ref D) H'
def Bs:Int:=2 ^ 4000
def PB (xs:List dJ):Prop:=∀ x ∈ xs,Fr.jJ x.t x.b /\ intBits x.t <= 4000 /\ intBits x.b <= 4000 /\ 1 <= x.w /\ x.w <= Bs
structure HY (ps:List Tb.Rw) (ys:List dJ):Prop where
 tab:Tb.DP ps (dX ys)
 w:∀ y ∈ ys,1 <= y.w /\ y.w <= Tb.Wt ps y.t y.b
def Dw (P:Addr) (lp:Pos):Sp:=fun vs H Q _=>∃ (a:Addr) (xs:List dJ),vs=[.ref a] /\ gD H a xs /\ xs ≠ [] /\ xs.length < 64 /\ PB xs /\ fJ P lp lQ H ∧
 ∀ (r:Addr) (H':Hp) (ys:List dJ),cD P H H'->fJ P lp lQ H'->H r=none->gD H' r ys->HY (dX xs) ys->ys.length <= xs.length->Q (.ref r) H'
theorem PB.ps {xs:List dJ} (h:PB xs):(∀ p ∈ dX xs,1 <= p.w) /\ ∀ p ∈ dX xs,Fr.jJ p.t p.b:=by
 refine ⟨fun p hp=>?_,fun p hp=>?_⟩ <;>
 ·obtain ⟨x,hx,rfl⟩:=List.mem_map.mp hp
  first | exact (h x hx).2.2.2.1 | exact (h x hx).1
theorem qQ (xs:List dJ):cN xs=Tb.W (dX xs):=by
 unfold cN Tb.W dX
 rw [List.map_map]
 rfl
theorem Wo {m:Int} (hm:0 <= m):∀ {ps:List Tb.Rw},(∀ p ∈ ps,1 <= p.w /\ p.w <= m)->0 <= Tb.W ps /\ Tb.W ps <= m * (ps.length:Int)
 | [],_=>by simp [Tb.W]
 | p :: ps,h=>by
  obtain ⟨a,b⟩:=Wo hm (ps:=ps) fun y hy=>h y (List.mem_cons_of_mem _ hy)
  obtain ⟨c,d⟩:=h p List.mem_cons_self
  have f:m * ((p :: ps).length:Int)=m + m * (ps.length:Int):=by rw [List.length_cons]; grind
  rw [Tb.iH]
  omega
theorem HY.key {ps:List Tb.Rw}{ys:List dJ} (o:HY ps ys) {y:dJ} (hy:y ∈ ys):∃ p ∈ ps,p.t=y.t /\ p.b=y.b:=(o.tab.has y.t y.b).mp ⟨y.r,List.mem_map.mpr ⟨y,hy,rfl⟩,rfl,rfl⟩
theorem HY.ne {ps:List Tb.Rw}{ys:List dJ} (o:HY ps ys) (h:ps ≠ []):ys ≠ []:=by
 rintro rfl
 cases ps with
 | nil=>exact h rfl
 | cons p ps=>exact Tb.uA ((o.tab.has p.t p.b).mpr (Tb.jV.mpr (.inl ⟨rfl,rfl⟩)))
theorem K9 {ps:List Tb.Rw}{kvs:List (List cZ × V)} (d:Dk ps kvs) (hne:ps ≠ []) (hw:∀ p ∈ ps,1 <= p.w /\ p.w <= Bs) (hl:ps.length <= 1000):intBits (jE kvs) <= 9000:=by
 have dp:=d.div_pos hne fun p hp=>(hw p hp).1
 cases ps with
 | nil=>exact absurd rfl hne
 | cons p ps =>
  have hp:Tb.tH (p :: ps) p.t p.b:=Tb.jV.mpr (.inl ⟨rfl,rfl⟩)
  have w1:=Tb.yQ (fun p hp=>(hw p hp).1) hp
  have w2:=Tb.Nm p.t p.b (ps:=p :: ps) fun p hp=>(hw p hp).1
  have w3:=(Wo (by decide) hw).2
  have dv:=Int.le_of_dvd (by omega) (Tb.uJ (d.wOf hp))
  have dv:jE kvs <= Tb.Wt (p :: ps) p.t p.b:=dv
  refine PySem.intBits_le_iff.mpr ?_
  have e:Bs * (((p :: ps).length:Nat):Int) <= Bs * 1000:=Int.mul_le_mul_of_nonneg_left (by omega) (by decide)
  have e2:Bs * 1000 < ((2 ^ 9000:Nat):Int):=by decide +kernel
  omega
end TD
namespace Sd
structure Fq (t b N k:Int):Prop where
 fr:Fr.jJ t b
 dv:b ∣ N
 lo:-(k * b) <= t
 hi:t <= k * b
theorem jW {a b c:Int} (h:a <= b) (hc:0 <= c):a * c <= b * c:=Int.mul_le_mul_of_nonneg_right h hc
theorem Fq.mono {t b N k N' k':Int} (f:Fq t b N k) (h:N ∣ N') (hk:k <= k'):Fq t b N' k':=by
 have p:=Int.le_of_lt f.fr.pos
 have e:=jW hk p
 exact ⟨f.fr,Int.dvd_trans f.dv h,by have:=f.lo; omega,by have:=f.hi; omega⟩
theorem Ox {t b u N:Int} (hb:0 < b) (e:t * N=u * b):(Fr.sh t b).2 ∣ N:=by
 have hn:b ≠ 0:=Int.ne_of_gt hb
 have cr:=Fr.mX t b
 refine Fr.Yt (a:=(Fr.sh t b).1) (Fr.Ex hn) ⟨u,?_⟩
 have h:(Fr.sh t b).1 * N * b=(Fr.sh t b).2 * u * b:=by
  have h1:(Fr.sh t b).1 * N * b=((Fr.sh t b).1 * b) * N:=by grind
  have h2:(Fr.sh t b).2 * u * b=(Fr.sh t b).2 * (u * b):=by grind
  rw [h1,h2,cr,<- e]
  grind
 exact Int.eq_of_mul_eq_mul_right hn h
theorem Oq {t b u N k:Int} (hb:0 < b) (e:t * N=u * b) (lo:-(k * b) <= t) (hi:t <= k * b):Fq (Fr.sh t b).1 (Fr.sh t b).2 N k:=by
 have hn:b ≠ 0:=Int.ne_of_gt hb
 have cr:=Fr.mX t b
 have yp:=Int.le_of_lt (Fr.FT (t:=t) hn)
 refine ⟨Fr.Js hn,Ox hb e,?_,?_⟩
 ·have h:=jW lo yp
  rw [<- cr] at h
  refine Int.le_of_mul_le_mul_right (a:=b) ?_ hb
  have:-(k * (Fr.sh t b).2) * b = -(k * b) * (Fr.sh t b).2:=by grind
  rw [this]
  exact h
 ·have h:=jW hi yp
  rw [<- cr] at h
  refine Int.le_of_mul_le_mul_right (a:=b) ?_ hb
  have:k * (Fr.sh t b).2 * b=k * b * (Fr.sh t b).2:=by grind
  rw [this]
  exact h
def tms (x y:Int × Int):Int × Int:=Fr.sh (x.1 * y.1) (x.2 * y.2)
abbrev FQ (x:Int × Int) (N k:Int):Prop:=Fq x.1 x.2 N k
theorem FQ.tms {x y:Int × Int}{M N k:Int} (f:FQ x M 1) (h0:0 <= x.1) (g:FQ y N k) (hk:0 <= k):FQ (tms x y) (M * N) k:=by
 obtain ⟨n1,e1⟩:=f.dv
 obtain ⟨n2,e2⟩:=g.dv
 have xp:=f.fr.pos
 have yp:=g.fr.pos
 have x1:=f.hi
 have kp:0 <= k * y.2:=Int.mul_nonneg hk (Int.le_of_lt yp)
 refine Oq (u:=x.1 * n1 * (y.1 * n2)) (Int.mul_pos xp yp) ?_ ?_ ?_
 ·rw [e1,e2]
  grind
 ·have a:=Int.mul_le_mul_of_nonneg_left g.lo h0
  have b:=jW x1 kp
  have c:x.1 * -(k * y.2) = -(x.1 * (k * y.2)):=by grind
  have d:k * (x.2 * y.2)=1 * x.2 * (k * y.2):=by grind
  rw [d]
  rw [c] at a
  omega
 ·have a:=Int.mul_le_mul_of_nonneg_left g.hi h0
  have b:=jW x1 kp
  have d:k * (x.2 * y.2)=1 * x.2 * (k * y.2):=by grind
  rw [d]
  omega
inductive Sd where
 | en (v:Int)
 | st (p:Int) (rs:List (Int × Sd))
inductive Ok:Sd->Nat->Nat->Prop
 | en {v:Int}{d m:Nat} (h0:0 <= v) (h9:v <= 1000000000) (hm:1 <= m):Ok (.en v) d m
 | st {p:Int}{rs:List (Int × Sd)}{d m:Nat}{f:Int × Sd->Nat} (h0:0 <= p) (h9:p <= 1000000000) (ne:rs ≠ []) (l4:rs.length <= 4) (w:∀ r ∈ rs,1 <= r.1 /\ r.1 <= 1000) (sub:∀ r ∈ rs,Ok r.2 d (f r)) (hk:(rs.map f).sum <= m):Ok (.st p rs) (d + 1) m
def iB (rs:List (Int × Sd)):Int:=(rs.map (·.1)).sum
def fZ:List Int->Int
 | []=>1
 | n :: ns=>n * fZ ns
theorem nU:∀ {l:List Int},(∀ n ∈ l,0 < n)->0 < fZ l
 | [],_=>by decide
 | n :: l,h=>Int.mul_pos (h n List.mem_cons_self) (nU fun m hm=>h m (List.mem_cons_of_mem _ hm))
theorem qO:∀ {l:List Int}{n:Int},n ∈ l->n ∣ fZ l
 | m :: l,n,h=>by
  rcases List.mem_cons.mp h with e | e
  ·subst e; exact ⟨_,rfl⟩
  ·exact Int.dvd_trans (qO e) ⟨m,by show m * fZ l=fZ l * m; grind⟩
theorem cL (n:Nat):(0:Int) < 2 ^ n:=Int.pow_pos (by decide)
theorem Cq {e:Nat}:∀ {l:List Int},(∀ n ∈ l,0 < n /\ n <= 2 ^ e)->fZ l <= 2 ^ (l.length * e)
 | [],_=>by simp [fZ]
 | n :: l,h=>by
  have ih:=Cq (l:=l) fun m hm=>h m (List.mem_cons_of_mem _ hm)
  have hn:=h n List.mem_cons_self
  have pp:=nU (l:=l) fun m hm=>(h m (List.mem_cons_of_mem _ hm)).1
  show n * fZ l <= _
  rw [List.length_cons,Nat.succ_mul,Nat.add_comm,Int.pow_add]
  exact Int.le_trans (Int.mul_le_mul_of_nonneg_right hn.2 (Int.le_of_lt pp)) (Int.mul_le_mul_of_nonneg_left ih (Int.le_of_lt (cL e)))
theorem O6:∀ {rs:List (Int × Sd)},(∀ r ∈ rs,1 <= r.1 /\ r.1 <= 1000)->(rs.length:Int) <= iB rs /\ iB rs <= 1000 * (rs.length:Int)
 | [],_=>by decide
 | r :: rs,h=>by
  have ih:=O6 (rs:=rs) fun x hx=>h x (List.mem_cons_of_mem _ hx)
  have hr:=h r List.mem_cons_self
  have e:iB (r :: rs)=r.1 + iB rs:=by unfold iB; rw [List.map_cons,List.sum_cons]
  rw [e,List.length_cons]
  push_cast
  omega
theorem eY {a b:Nat} (h:a <= b):(2:Int) ^ a <= 2 ^ b:=by
 obtain ⟨c,rfl⟩:=Nat.exists_eq_add_of_le h
 rw [Int.pow_add]
 have h1:(1:Int) <= 2 ^ c:=by have:=cL c; omega
 have:=Int.mul_le_mul_of_nonneg_left h1 (Int.le_of_lt (cL a))
 omega
theorem QB {rs:List (Int × Sd)} (ne:rs ≠ []) (w:∀ r ∈ rs,1 <= r.1 /\ r.1 <= 1000) (l4:rs.length <= 4):1 <= iB rs /\ iB rs <= 4000:=by
 have:=O6 w
 have:0 < rs.length:=List.length_pos_iff.mpr ne
 omega
theorem Ok.m1 {s:Sd}{d m:Nat} (ok:Ok s d m):1 <= m:=by
 induction ok with
 | en _ _ h=>exact h
 | @st p rs d m k h0 h9 ne l4 w sub hk ih =>
  cases rs with
  | nil=>exact absurd rfl ne
  | cons r rs =>
   have h1:=ih r List.mem_cons_self
   rw [List.map_cons,List.sum_cons] at hk
   omega
theorem MK {α : Type}{f:α->Nat}{m:Nat}:∀ {l:List α},(l.map f).sum <= m->∀ x ∈ l,f x <= m
 | y :: l,h,x,hx=>by
  rw [List.map_cons,List.sum_cons] at h
  rcases List.mem_cons.mp hx with e | e
  ·subst e; omega
  ·exact MK (l:=l) (by omega) x e
def kB:Nat->Int
 | 0=>2147483648
 | d + 1=>1000000000 + 4 * kB d
structure Lv (l:Int × Int):Prop where
 fr:Fr.jJ l.1 l.2
 b:l.2 <= 2 ^ 10
 lo:-(2147483648 * l.2) <= l.1
 hi:l.1 <= 2147483648 * l.2
theorem Lv.fq {l:Int × Int} (h:Lv l):FQ l l.2 2147483648:=⟨h.fr,Int.dvd_refl _,h.lo,h.hi⟩
theorem fr1 (v:Int):Fr.jJ v 1:=⟨by decide,by simp⟩
end Sd
namespace L2
open PySem PySem.Spec PyProof.Rows
theorem HD (bs:List Bool):(List.range bs.length).all (fun i=>bs.getD i false)=bs.all id:=by
 rw [Bool.eq_iff_iff]
 simp only [List.all_eq_true,List.mem_range]
 constructor
 ·intro h b hb
  obtain ⟨i,hi,e⟩:=List.mem_iff_getElem.mp hb
  have q:=h i hi
  rw [fQ hi,e] at q
  exact q
 ·intro h i hi
  rw [fQ hi]
  exact h _ (List.getElem_mem hi)
section
variable {X:Cx}{K:PySem.W.Frag}
theorem PK {us:List Value}{bs:List Bool} (h:bI (bs.map V.bl) us) {i:Nat}{v:Value} (e:us[i]? = some v):v = .bool (bs.getD i false):=by
 have hl:=h.length
 rw [List.length_map] at hl
 have hi:i < us.length:=(List.getElem?_eq_some_iff.mp e).1
 have e2:(bs.map V.bl)[i]? = some (.bl (bs.getD i false)):=by
  rw [List.getElem?_map,List.getElem?_eq_getElem (by omega),fQ (by omega)]
  rfl
 obtain ⟨u,hu,r⟩:=h.get e2
 rw [e] at hu
 cases hu
 exact r
theorem yC (hK:X.K=K) (hc:X.calm=true):gM X (.builtin "all") (fun xs H Q=>∃ (a:Addr) (bs:List Bool),xs=[.ref a] /\ bM K H a (bs.map V.bl) /\ Q (.bl (bs.all id)) H):=by
 subst hK
 intro pins s σ H xs us Q I r h
 obtain ⟨a,bs,rfl,hS,q⟩:=h
 obtain ⟨u,rfl,ru⟩:=j4 r
 cases (show u=Value.ref a from ru)
 obtain ⟨its,rv,pl,hz⟩:=I.list hS
 have lt:a < s.heap.objs.size:=by obtain ⟨o,e,_⟩:=pl.isList; exact Heap.lt_size e
 have hl:=rv.length
 rw [List.length_map] at hl
 refine call_all_walk (wpAny_pyIter_list pl.isList ⟨s.heap.objs.size,_,_,_,_,_,fun i=>bs.getD i false,rfl,Walks.list (A:=X.A.in1) (I.ok.hd hc) s.heap.objs.size a (Nat.ne_of_lt lt) its.toArray,⟨⟨_,Heap.get?_push_size _ rfl,rfl,rfl⟩,pl.isList.push _⟩,?_,fun h' tk hk=>?_⟩)
 ·intro i v s' Q' E' hv hQ
  have e:=PK rv (i:=i) (v:=v) (by simpa using hv)
  rw [e]
  exact wpAny_truthy_bool hQ
 ·refine ⟨.bl (bs.all id),H,I.kept (t':=tk) fun b o e=>hk b o (fun z=>?_) (Heap.get?_push_of_some _ e),?_,q⟩
  ·rw [List.mem_singleton.mp z] at e
   exact absurd (Heap.lt_size e) (Nat.lt_irrefl _)
  ·show Value.bool _=Value.bool _
   rw [List.size_toArray,<- hl,HD]
end
end L2
namespace L2
open PySem PySem.Spec PyProof.Rows
structure Ml (K:PySem.W.Frag) (C:Addr) (m:Str) (f:Addr):Prop where
 ga:PySem.W.specialIn K (.ref C) "__getattribute__" = some (some (.builtin "type.__getattribute__"))
 rd:PySem.W.readsIn K C (.type "type")=true
 at_:PySem.W.findCls K (.ref C) (.type "type") m=some (.val (.ref f))
 hd:PySem.W.handedIn (.ref f)=true
 kp:PySem.W.keepIn K (.ref f)=true
section
variable {X:Cx}{CX:Ab}{C f:Addr}{fd:FuncData}{k:Nat}{x m:Str}{ps:List Str}{ds:List Value}{dvs:List V}{sp:Sp}{E:XK}{e:Expr}{es:List Expr}{t:TA}{p apos pos:Pos}
theorem Gn {pl:Sem Bool} (hg:Gl X x) (hm:X.mg x=some (.ref C)) (c:Ml X.K C m f) (F:aV X.prog X.w X.K X.mg X.base CX k f fd ps sp) (hr:eV k X.A) (hb:bB X.K fd ps ds) (hd:bI dvs ds) (hx:jP CX X E) (ha:PA X (e :: es) t)
  (hdb:(x == ("__debug__" : Str))=false:=by decide)
  (hst:starEach (e :: es) X.env=(false,eval e X.env) :: starEach es X.env:=by rfl) (hpl:(backTo pos (starEach es X.env)).any (·.1)=false:=by rfl)
  (ht:eval (.Call (.Attribute (.Name x p) m apos) (e :: es) [] pos) X.env=(do
   let ov <- eval (.Name x p) X.env
   standAt apos.atName
   let (f,first) <- holding [ov] (getMethod ov m pl)
   callWith pos f first (backTo pos (starEach (e :: es) X.env)) (backToKw pos (keywordEach [] X.env))):=by rfl) :
  PE X (.Call (.Attribute (.Name x p) m apos) (e :: es) [] pos) (BZ sp dvs E t):=by
 intro pins s σ H Q I h
 refine PySem.W.methodCall_KW (pl:=pl) (pN I hg hm ?_ hdb) ht
 refine PySem.W.method_cls I.kIn c.ga (PySem.W.cls_value I.kIn c.rd c.at_ c.hd ?_)
 have I2:=I.tok (s.toks + 1)
 refine PySem.W.callWith_K (first:=[]) (h₀:=X.base) I.ok.mod.kin c.kp (eN (ha pos pins _ σ H _ I2 h) fun us s1 ⟨vs,H1,I1,r,q⟩=>⟨I1.kIn,?_⟩) hst hpl
 exact yS F hr hb hd hx I1 r q
theorem gZ {e:Expr}{t u:TE} (h1:PE X e t) (h2:PE X e u):PE X e (fun σ H Q=>t σ H Q ∨ u σ H Q):=fun pins s σ H Q I h=>h.elim (h1 pins s σ H Q I) (h2 pins s σ H Q I)
theorem p8 {K:PySem.W.Frag} (hK:X.K=K):gM X (.builtin "isinstance") (fun xs H Q=>∃ (x:V) (C:Addr) (t:Value) (b:Bool),xs=[x,.ref C] /\ gK K H x t /\ PySem.W.kitOne K t (.ref C)=some b /\ Q (.bl b) H):=by
 subst hK
 intro pins s σ H xs us Q I r h
 obtain ⟨x,C,t,b,rfl,ty,e,q⟩:=h
 obtain ⟨u,w',rfl,rx,rt⟩:=Kf r
 cases (show w'=Value.ref C from rt)
 exact xB I rx ty e fun tk=>⟨.bl b,H,I.tok _,rfl,q⟩
end
end L2
namespace L2
open PySem PySem.Spec PyProof.Rows
def oX (P:Program) (w:World):Ab:=fun outer H s E e s' =>
 ∃ (a:Addr) (cls a0:Value) (H':Hp) (B:Heap),e = .ref a /\ s'.os=s.os /\ AllBare s'.gens /\ Un (qZ outer) [] H H' s.heap s'.heap /\ nM P w H' s'.heap /\ Heap.FlyingW B outer a cls a0 s'.heap ∧
  (∀ b o,s.heap.get? b=some o->b ∉ qZ outer->∃ o',B.get? b=some o') /\ (∀ b u,H' b=some u->∃ o',B.get? b=some o') /\ E cls none H'
section
variable {P:Program}{w:World}{H H':Hp}{B h0 h1 h2:Heap}{fs:List Addr}
theorem Fj (b1:B.StaysIn h1) (b2:B.StaysIn h2) {b:Addr}{o:Obj} (q:h1.get? b=some o) (x:∃ o',B.get? b=some o'):h2.get? b=some o:=by
 obtain ⟨o',e⟩:=x
 have:=b1 b o' e
 rw [q] at this
 cases this
 exact b2 b _ e
theorem JT (u:Un fs [] H H' h0 h1) (b1:B.StaysIn h1) (b2:B.StaysIn h2) (up:h1.UpToSlots h2) (nf:∀ b ∈ fs,∃ o,h1.get? b=some o /\ ∀ vs,o.data ≠ .fields vs)
  (hB:∀ b o,h0.get? b=some o->b ∉ fs->∃ o',B.get? b=some o'):Un fs [] H H' h0 h2:=by
 refine ⟨fun b o q n hb hx=>Fj b1 b2 (u.keep b o q n hb hx) (hB b o q hb),fun b o q n hb hx=>?_,u.free,fun b o q hx=>?_,u.tups,u.frzs,u.tbls⟩
 ·obtain ⟨sl,e⟩:=u.slot b o q n hb hx
  obtain ⟨o1,e1,d1⟩:=nf b hb
  rw [e] at e1
  cases e1
  obtain ⟨sl2,e2⟩:=up b _ e d1
  exact ⟨sl2,e2⟩
 ·by_cases hb:b ∈ fs
  ·obtain ⟨o1,e1,d1⟩:=nf b hb
   obtain ⟨sl2,e2⟩:=up b _ e1 d1
   exact ⟨_,e2⟩
  ·obtain ⟨o1,e1⟩:=hB b o q hb
   exact ⟨_,b2 b _ e1⟩
theorem Fv (x:nM P w H h1) (b1:B.StaysIn h1) (b2:B.StaysIn h2) (hH:∀ b u,H b=some u->∃ o',B.get? b=some o'):nM P w H h2:=fun a o e =>
 (x a o e).stay (fun b u hb q=>Fj b1 b2 q (by
  rcases hb with rfl | hb
  ·exact hH _ _ e
  ·exact hH _ _ hb)) (fun _ q=>q) fun _ _ q=>q
end
theorem Ir {P:Program}{w:World}{H:Hp}{h:Heap}{b:Addr}{u:HO} (x:dO P w H h b u) (z:h.get? b=none):False:=by
 cases u with
 | lst xs=>obtain ⟨_,_,_,_,e⟩:=x; rw [z] at e; cases e
 | tup xs=>obtain ⟨_,_,_,_,e,_⟩:=x; rw [z] at e; cases e
 | dK kvs=>obtain ⟨_,_,_,_,o,_,_,e,_⟩:=x; rw [z] at e; cases e
 | dT kvs=>obtain ⟨_,_,_,_,o,_,_,e,_⟩:=x; rw [z] at e; cases e
 | set S n=>obtain ⟨o,_,_,_,e,_⟩:=x; rw [z] at e; cases e
 | ins C dx fs=>obtain ⟨_,_,_,e,_⟩:=x; rw [z] at e; cases e
 | own y=>obtain ⟨_,e⟩:=x; rw [z] at e; cases e
 | xd fs=>obtain ⟨_,⟨_,_,_,e,_⟩,_⟩:=x; rw [z] at e; cases e
 | rng lo hi=>obtain ⟨_,_,_,e⟩:=x; rw [z] at e; cases e
 | frz ob v=>obtain ⟨e,_⟩:=x; rw [z] at e; cases e
 | tbl ps=>have e:=(show h.get? b=some _ from x); rw [z] at e; cases e
 | met f y=>have e:=(show h.get? b=some _ from x); rw [z] at e; cases e
 | ext φ=>obtain ⟨_,⟨_,e⟩,_⟩:=x; rw [z] at e; cases e
theorem Gp {env:Env}{outer:List Env}{L b:Addr} (hf:env.frame=some L):b ∈ qZ (env :: outer) ↔ b=L ∨ b ∈ qZ outer:=by
 unfold qZ
 rw [List.filterMap_cons,hf]
 exact List.mem_cons
structure sU (K:PySem.W.Frag) (C:Addr):Prop where
 isx:PySem.W.excIn K C ([.type "ValueError",.type "Exception",.type "BaseException",.type "object"]) "ValueError.__new__" = true
section
variable {X:Cx}
def KY (X:Cx) (E:XK):Prop:=∀ (pins:List (Addr × Obj)) (σ : St) (H:Hp) (s:Shared) (h':Heap) (e:Addr) (cls:Value) (args:List Value),aY X pins σ H s->Heap.MadeExcOf s.heap h' e cls args->E cls none H ->
 X.xe (.ref e) { s with heap:=h' }
end
section
variable {P:Program}{w:World}{K:PySem.W.Frag}{mg:Str->Option Value}{base:Heap}{N:List Str}{qual:Str}{scope:Scope}{f:Addr}{cd:Value}{A:Around}{outer:List Env}{s:Shared}{H:Hp}{E:XK}
theorem gJ:KY (vO (oX P w) P w K mg base N qual scope f cd A outer s H E) E:=by
 intro pins σ H1 s1 h' e cls args I mk hE
 have hfr:=I.ok.frames
 have hst:=I.stack
 have nsz:∀ b o,s.heap.get? b=some o->b ≠ s.heap.objs.size:=fun b o q z=>absurd (Heap.lt_size q) (by rw [z]; exact Nat.lt_irrefl _)
 have hide:∀ b o,s1.heap.get? b=some o->b ∉ qZ (envOfC qual scope s.heap.objs.size f cd :: outer)->(PySem.W.hideAll s1.heap (qZ (envOfC qual scope s.heap.objs.size f cd :: outer))).get? b=some o:=fun b o q hb=>PySem.W.hideAll_get _ q hb
 have inS:∀ b o,s.heap.get? b=some o->b ∉ qZ outer->∃ o',(PySem.W.hideAll s1.heap (qZ (envOfC qual scope s.heap.objs.size f cd :: outer))).get? b=some o':=fun b o q hb=>by
  obtain ⟨o',e'⟩:=I.base.there b o q (by show b ∉ ([]:List Addr); simp)
  exact ⟨o',hide b o' e' fun z=>((Gp rfl).mp z).elim (nsz b o q) hb⟩
 have inH:∀ b u,H1 b=some u->∃ o',(PySem.W.hideAll s1.heap (qZ (envOfC qual scope s.heap.objs.size f cd :: outer))).get? b=some o':=fun b u q=>by
  have lt:=I.hok.lt q
  obtain ⟨o',e'⟩ : ∃ o',s1.heap.get? b=some o':=by
   have:=I.hok b u q
   cases z:s1.heap.get? b with
   | some o'=>exact ⟨o',rfl⟩
   | none=>exact (Ir this z).elim
  refine ⟨o',hide b o' e' fun z=>?_⟩
  have:=I.stkFree b z
  rw [q] at this
  cases this
 show wpAny (model P w) (A.deeper (envOfC qual scope s.heap.objs.size f cd)) (leaving (envOfC qual scope s.heap.objs.size f cd) (.ref e)) _ _ _
 refine wpAny_leaves_madeW (h:=s1.heap) (base:=PySem.W.hideAll s1.heap (qZ (envOfC qual scope s.heap.objs.size f cd :: outer))) hfr rfl (fun b o q=>PySem.W.of_hideAll _ q)
  (PySem.W.funFrames_hide hst fun env he b hb=>List.mem_filterMap.mpr ⟨env,he,hb⟩) mk fun h'' t fl _ _ up=>?_
 have b1:Heap.StaysIn (PySem.W.hideAll s1.heap (qZ (envOfC qual scope s.heap.objs.size f cd :: outer))) h':=fun b o q=>mk.keeps _ _ (PySem.W.of_hideAll _ q)
 refine ⟨e,cls,.ref t,H1,_,rfl,I.os,I.bare,?_,Fv (I.hok.kept mk.keeps) b1 fl.1 inH,fl,inS,inH,hE⟩
 have u1:Un (qZ outer) [] H H1 s.heap h':=Un.trans (show Un (qZ outer) [] H H1 s.heap s1.heap from I.base) (Un.kept mk.keeps)
 refine JT u1 b1 fl.1 up (fun b hb=>?_) inS
 obtain ⟨_,o,ho,hd⟩:=I.funs.mem hb
 exact ⟨o,mk.keeps _ _ ho,hd⟩
theorem iJ:jP (oX P w) (vO (oX P w) P w K mg base N qual scope f cd A outer s H E) E:=by
 rintro pins σ H1 s1 e s' I ⟨a,cls,a0,H',B,rfl,hos,hg,un,hok,fl,inB,inH,hE⟩
 have nsz:∀ b o,s.heap.get? b=some o->b ≠ s.heap.objs.size:=fun b o q z=>absurd (Heap.lt_size q) (by rw [z]; exact Nat.lt_irrefl _)
 have J:=I.call' (s':=s') (H':=H') (ch:=[]) hos un hok hg (fun b z=>absurd z (by simp))
 have inS:∀ b o,s.heap.get? b=some o->b ∉ qZ outer->∃ o',B.get? b=some o':=fun b o q hb=>by
  obtain ⟨o',e'⟩:=I.base.there b o q (by show b ∉ ([]:List Addr); simp)
  exact inB b o' e' fun z=>((Gp rfl).mp z).elim (nsz b o q) hb
 show wpAny (model P w) (A.deeper (envOfC qual scope s.heap.objs.size f cd)) (leaving (envOfC qual scope s.heap.objs.size f cd) (.ref a)) _ _ _
 refine wpAny_leaves_onW I.ok.frames rfl fl fun h'' fl' up=>?_
 refine ⟨a,cls,a0,H',B,rfl,J.os,hg,?_,Fv hok fl.1 fl'.1 inH,fl',inS,inH,hE⟩
 refine JT (show Un (qZ outer) [] H H' s.heap s'.heap from J.base) fl.1 fl'.1 up (fun b hb=>?_) inS
 obtain ⟨_,o,ho,hd⟩:=fl.2.2.1.mem (List.mem_filterMap.mpr (by
  obtain ⟨env,he,z⟩:=List.mem_filterMap.mp hb
  exact ⟨env,List.mem_cons_of_mem _ he,z⟩))
 exact ⟨o,ho,hd⟩
end
end L2
namespace L2
open PySem PySem.Spec PySem.Calls PyProof.Rows PySem.W Builtin Builtin.ObjectAttr Builtin.Getset_descriptor
def IsX (a:Addr) (cls:Value) (h:Heap):Prop:=∃ o,h.get? a=some o /\ o.cls=cls
theorem IsX.ty {a:Addr}{cls:Value}{h:Heap}{M:Model} (x:IsX a cls h):Looks M h (typeOf (.ref a)) cls:=by
 obtain ⟨o,e,rfl⟩:=x
 exact (Looks.ld e).andThen .now
structure XTy (K:Frag) (D:Addr):Prop where
 ga:findIn K (.ref D) "__getattribute__" = some (some (.builtin "BaseException.__getattribute__"))
 gt:findIn K (.ref D) "__getattr__" = some none
 mb:mroIn K D (.type "BaseException")=some true
 cl:(clsIn K D).isSome=true
 fi:findIn K (.ref D) "__class__" = some (some (.builtin "object.__class__"))
 sp:specialIn K (.builtin "object.__class__") "__get__" = some (some (.builtin "getset_descriptor.__get__"))
 tk:takesIn K (.builtin "object.__class__")=some true
 mr:mroIn K D (.type "object")=some true
section
variable {prog:Program}{w:World}{A:Around}{E:Value->Shared->Prop}{s:Shared}{K:Frag}{a D:Addr}
end
section
variable {X:Cx}
end
end L2
namespace L2
open PySem PySem.Spec PySem.W PyProof.Rows
section
variable {X:Cx}
end
end L2
namespace L2
open PySem PySem.Spec PyProof.Rows
section
variable {X:Cx}
end
end L2
namespace L2
open PySem PySem.Spec PyProof.Rows
section
variable {X:Cx}{tg:Expr}
end
end L2
namespace PySem
namespace F
end F
end PySem
namespace L2
open PySem PySem.Spec PyProof.Rows
section
variable {X:Cx}
end
end L2
namespace L2
open PySem PySem.Spec PyProof.Rows
theorem pK {K:PySem.W.Frag}{a:Addr}{xs:List V}{k:Nat}{g:TG}{c:TT}{te:TE}{σ : St}{H1:Hp}{D:Addr}{Q:VK} (Pv:Nat->St->Hp->Prop) (h0:Pv 0 (List.replicate k none ++ σ) (aU H1 D (.lst [])))
  (hl:∀ i τ H,i <= xs.length->Pv i τ H->bZ K H a xs)
  (hs:∀ i m x τ H,m=xs.length - i->i < xs.length->xs[i]? = some x->Pv i τ H->g x τ H fun τ2 H2=>c τ2 H2 fun b H3=>if b=true then te τ2 H3 fun y H4=>∃ ys m',m' < m /\ H4 D=some (.lst ys) /\ ys.length < sizeLine /\ CW xs.length Pv (i + 1) m' τ2 (aU H4 D (.lst (ys ++ [y]))) else ∃ m',m' < m /\ CW xs.length Pv (i + 1) m' τ2 H3)
  (hd:∀ τ H,Pv xs.length τ H->Q (.ref D) H):DK k (Itt K a) g c te σ H1 D Q:=by
 refine ⟨CW xs.length Pv,⟨xs.length,rfl,Nat.zero_le _,h0⟩,?_⟩
 rintro i m τ H ⟨hm,hi,p⟩
 have q:=hl i τ H hi p
 by_cases hlt:i < xs.length
 ·refine .inr ⟨⟨xs,xs[i],q,by simp [hlt]⟩,fun x H' y=>?_⟩
  obtain ⟨e,y⟩:=y
  subst e
  exact hs i m x τ _ hm hlt (y xs q) p
 ·have e:i=xs.length:=by omega
  subst e
  exact .inl ⟨⟨xs,q,Nat.le_refl _⟩,hd τ H p⟩
theorem Bt {i:Nat}{v:V}{τ : St}{H:Hp}{A B:St->Hp->Prop} (h:A (τ.set i (some v)) H):oG i v τ H (fun τ2 H2=>Q9 τ2 H2 (fun b H3=>if b=true then A τ2 H3 else B τ2 H3)):=eZ (τ:=τ.set i (some v)) (A:=A (τ.set i (some v))) (B:=B (τ.set i (some v))) h
theorem N5 {K:PySem.W.Frag}{a:Addr}{xs:List V}{g:TG}{tb:TS}{D:sV}{σ : St}{H:Hp} (Pv:Nat->St->Hp->Prop) (h0:Pv 0 σ H) (hl:∀ i σ H,i <= xs.length->Pv i σ H->bM K H a xs)
  (hs:∀ i x σ H,i < xs.length->xs[xs.length - 1 - i]? = some x->Pv i σ H->g x σ H fun σ2 H2=>tb { D with nx:=Pv (i + 1),ct:=Pv (i + 1),bk:=D.nx } σ2 H2) (hd:∀ σ H,Pv xs.length σ H->D.nx σ H) :
  ∃ W:Nat->Nat->St->Hp->Prop,(∃ m,W 0 m σ H) /\ ∀ i m σ H,W i m σ H ->
   ((Xo K a xs).stop i H /\ D.nx σ H) ∨ ((Xo K a xs).go i H /\ ∃ N:St->Hp->Prop,(∀ σ' H',N σ' H'->∃ m',m' < m /\ W (i + 1) m' σ' H') /\ ∀ x H',(Xo K a xs).yld i H x H'->g x σ H' fun σ2 H2=>tb { D with nx:=N,ct:=N,bk:=D.nx } σ2 H2):=by
 refine ⟨fun i m σ H=>m=xs.length - i /\ i <= xs.length /\ Pv i σ H,⟨xs.length,by simp,Nat.zero_le _,h0⟩,?_⟩
 rintro i m σ H ⟨rfl,hi,p⟩
 have q:=hl i σ H hi p
 by_cases hlt:i < xs.length
 ·refine .inr ⟨⟨hlt,q⟩,Pv (i + 1),fun σ' H' p'=>⟨xs.length - (i + 1),by omega,rfl,hlt,p'⟩,fun x H' y=>?_⟩
  obtain ⟨e,y⟩:=y
  subst e
  exact hs i x σ _ hlt y p
 ·have e:i=xs.length:=by omega
  subst e
  exact .inl ⟨Nat.le_refl _,hd σ H p⟩
end L2
namespace TD
open PySem L2
open Builtin.Int (intBits)
abbrev Tq (H:Hp) (p:Addr) (x:Int × Int):Prop:=H p=some (.tup [.int x.1,.int x.2])
structure Z4 (x:Int × Int):Prop where
 t:intBits x.1 <= 4400
 b:intBits x.2 <= 4400
 p:0 < x.2
abbrev Is (ns:List Int):List V:=ns.map V.int
theorem xK (ns:List Int):(Is ns).length=ns.length:=List.length_map _
theorem GR (xs:List Int) (y:Int):Is (xs ++ [y])=Is xs ++ [V.int y]:=by show (xs ++ [y]).map V.int=_; rw [List.map_append]; rfl
def UV:Sp:=fun vs H Q _=>∃ i:Int,vs=[.int i] /\ ∀ p H',aM H H'->Tq H' p (i,1)->Q (.ref p) H'
def Pn (K:PySem.W.Frag):Sp:=fun vs H Q _=>∃ p q a b c d,vs=[.ref p,.ref q] /\ bZ K H p [.int a,.int b] /\ bZ K H q [.int c,.int d] /\ Sz a b c d /\ (c * b < a * d->Q (.ref q) H) /\ (¬ c * b < a * d->Q (.ref p) H)
theorem nT {x:Int}{k:Nat} (h0:-(2 ^ k) < x) (h1:x < 2 ^ k):intBits x <= k:=by
 refine PySem.intBits_le_iff.mpr ?_
 have e:((2 ^ k:Nat):Int)=2 ^ k:=by push_cast; rfl
 omega
theorem pO {t b N k:Int}{n j:Nat} (f:Sd.Fq t b N k) (hN:0 < N) (hn:N <= 2 ^ n) (k0:0 <= k) (hj:k <= 2 ^ j):intBits b <= n + 1 /\ intBits t <= n + j + 1:=by
 have bp:=f.fr.pos
 have bl:=Int.le_of_dvd hN f.dv
 have e1:b <= 2 ^ n:=Int.le_trans bl hn
 have e2:k * b <= 2 ^ j * 2 ^ n:=Int.le_trans (Int.mul_le_mul_of_nonneg_right hj (Int.le_of_lt bp)) (Int.mul_le_mul_of_nonneg_left e1 (Int.le_of_lt (Sd.cL j)))
 rw [<- Int.pow_add,Nat.add_comm] at e2
 have p1:(2:Int) ^ (n + 1)=2 * 2 ^ n:=by rw [Int.pow_succ]; omega
 have p2:(2:Int) ^ (n + j + 1)=2 * 2 ^ (n + j):=by rw [Int.pow_succ]; omega
 have q1:=Sd.cL n
 have q2:=Sd.cL (n + j)
 have l:=f.lo
 have h:=f.hi
 exact ⟨nT (by omega) (by omega),nT (by omega) (by omega)⟩
structure GT (xs:List dJ) (n:Nat) (W M k:Int):Prop where
 ne:xs ≠ []
 len:xs.length <= n
 w1:∀ x ∈ xs,1 <= x.w
 ws:cN xs <= W
 mp:0 < M
 fq:∀ x ∈ xs,Sd.Fq x.t x.b M k
structure Cp (n:Nat) (W M k:Int):Prop where
 n:n <= 12
 w:W <= 2 ^ 600
 m:M <= 2 ^ 1600
 k0:0 <= k
 k:k <= 2 ^ 1600
theorem mQ {xs:List dJ} (w1:∀ x ∈ xs,1 <= x.w):∀ {x:dJ},x ∈ xs->x.w <= cN xs:=by
 induction xs with
 | nil=>intro x h; cases h
 | cons y ys ih =>
  intro x hx
  have e:cN (y :: ys)=y.w + cN ys:=by unfold cN; rw [List.map_cons,List.sum_cons]
  have y1:=w1 y List.mem_cons_self
  have n0:0 <= cN ys:=by
   clear ih hx
   induction ys with
   | nil=>exact Int.le_refl _
   | cons z zs ih =>
    have e:cN (z :: zs)=z.w + cN zs:=by unfold cN; rw [List.map_cons,List.sum_cons]
    have z1:=w1 z (List.mem_cons_of_mem _ List.mem_cons_self)
    have:=ih (fun x hx=>by
     rcases List.mem_cons.mp hx with h | h
     ·subst h; exact y1
     ·exact w1 x (List.mem_cons_of_mem _ (List.mem_cons_of_mem _ h))) (by unfold cN; rw [List.map_cons,List.sum_cons])
    omega
  rcases List.mem_cons.mp hx with h | h
  ·subst h; omega
  ·have:=ih (fun x hx=>w1 x (List.mem_cons_of_mem _ hx)) h
   omega
theorem GT.bits {xs:List dJ}{n:Nat}{W M k:Int} (g:GT xs n W M k) (c:Cp n W M k) {x:dJ} (hx:x ∈ xs):intBits x.b <= 1601 /\ intBits x.t <= 3201:=by
 have:=pO (g.fq x hx) g.mp c.m c.k0 c.k
 omega
theorem GT.pb {xs:List dJ}{n:Nat}{W M k:Int} (g:GT xs n W M k) (c:Cp n W M k):PB xs:=fun x hx=>by
 have b:=g.bits c hx
 have w:=mQ g.w1 hx
 have w2:=g.ws
 have w3:=c.w
 have e:(2:Int) ^ 600 <= Bs:=by decide +kernel
 exact ⟨(g.fq x hx).fr,by omega,by omega,g.w1 x hx,by omega⟩
theorem GT.tot {xs:List dJ}{n:Nat}{W M k:Int} (g:GT xs n W M k):1 <= cN xs:=by
 cases xs with
 | nil=>exact absurd rfl g.ne
 | cons x xs =>
  have:=mQ g.w1 (x:=x) List.mem_cons_self
  have:=g.w1 x List.mem_cons_self
  omega
def Dj (H:Hp) (a:Addr) (xs:List dJ):Prop:=H a=some (.tup (jZ xs)) /\ ∀ x ∈ xs,jY H x
theorem Dj.same {H H':Hp}{a:Addr}{xs:List dJ} (s:aM H H') (h:Dj H a xs):Dj H' a xs:=⟨s _ _ h.1,fun x hx=>(h.2 x hx).same s⟩
def be:Nat->Nat
 | 0=>1
 | d + 1=>be d + (12 * (d + 1) + 1)
def ka:Nat->Nat
 | 0=>30
 | d + 1=>ka d + (12 * (d + 1) + 1) * 12 + 1
def wB (d m:Nat):Int:=2 ^ ((12 * d + 1) * m)
def kK (d:Nat):Int:=2 ^ ka d
theorem GD {d m:Nat}{M:Int} (hd:d <= 4) (hm:m <= 12) (hM:M <= 2 ^ (be d * m)):Cp m (wB d m) M (kK d):=by
 have b:be d <= 125:=by
  rcases (by omega:d=0 ∨ d=1 ∨ d=2 ∨ d=3 ∨ d=4) with z | z | z | z | z <;> subst z <;> decide
 have a:ka d <= 1600:=by
  rcases (by omega:d=0 ∨ d=1 ∨ d=2 ∨ d=3 ∨ d=4) with z | z | z | z | z <;> subst z <;> decide
 refine ⟨hm,Sd.eY ?_,Int.le_trans hM (Sd.eY ?_),Int.le_of_lt (Sd.cL _),Sd.eY a⟩
 ·calc (12 * d + 1) * m <= 49 * m:=Nat.mul_le_mul_right _ (by omega)
   _ <= 49 * 12:=Nat.mul_le_mul_left _ hm
   _ <= 600:=by decide
 ·calc be d * m <= 125 * m:=Nat.mul_le_mul_right _ b
   _ <= 125 * 12:=Nat.mul_le_mul_left _ hm
   _ <= 1600:=by decide
end TD
namespace Fr
theorem Nk {x y t b:Int} (f:jJ x y) (hb:b ≠ 0) (e:x * b=t * y):(x,y)=sh t b:=by
 have q:=Js (t:=t) hb
 have c2:=mX t b
 generalize (sh t b)=z at *
 obtain ⟨z1,z2⟩:=z
 have k:b * (x * z2)=b * (z1 * y):=by
  have k1:b * (x * z2)=(x * b) * z2:=by grind
  have k2:b * (z1 * y)=(z1 * b) * y:=by grind
  rw [k1,k2,c2,e]
  grind
 obtain ⟨a,c⟩:=Ea f q (Int.eq_of_mul_eq_mul_left hb k)
 rw [a,c]
end Fr
namespace Tb
def PS (B:Int) (ps:List (Int × Int)):Int:=(ps.map fun p=>p.1 * (B / p.2)).sum
structure Uo (ps:List (Int × Int)) (t b:Int):Prop where
 pos:0 < b
 eq:∀ B,0 < B->(∀ p ∈ ps,0 < p.2 /\ p.2 ∣ B)->t * B=b * PS B ps
theorem Lg (B:Int) (p:Int × Int) (ps:List (Int × Int)):PS B (p :: ps)=p.1 * (B / p.2) + PS B ps:=by simp [PS]
theorem Hi (B:Int) (ps qs:List (Int × Int)):PS B (ps ++ qs)=PS B ps + PS B qs:=by simp [PS]
theorem Uo.nil:Uo [] 0 1:=⟨by decide,fun B _ _=>by simp [PS]⟩
theorem Uo.snoc {ps:List (Int × Int)}{t b n d:Int} (h:Uo ps t b) (hd:0 < d):Uo (ps ++ [(n,d)]) (t * d + n * b) (b * d):=by
 refine ⟨Int.mul_pos h.pos hd,fun B hB q=>?_⟩
 have e:=h.eq B hB fun p hp=>q p (List.mem_append_left _ hp)
 obtain ⟨c,_,e1,e2⟩:=Yu hd hB (q (n,d) (by simp)).2
 rw [Hi,Lg]
 show _=b * d * (PS B ps + (n * (B / d) + PS B []))
 rw [e2]
 have z:PS B []=0:=rfl
 rw [z]
 have k:(t * d + n * b) * B=(t * B) * d + n * b * B:=by grind
 rw [k,e]
 conv=>lhs; rw [e1]
 grind
def jR (l0 l1:Int) (r:Rw):Rw:=if l0 * r.b < r.t * l1 then ⟨l0,l1,r.w⟩ else r
end Tb
namespace TD
open PySem L2
open Builtin.Int (intBits)
structure iZ where
 p:Addr
 w:Int
 a:Addr
 ys:List dJ
def xV (H:Hp) (e:iZ):Prop:=H e.p=some (.tup [.int e.w,.ref e.a]) /\ gD H e.a e.ys
def pG (es:List iZ):List V:=es.map fun e=>V.ref e.p
structure vB (H:Hp) (a:Addr) (es:List iZ):Prop where
 lst:H a=some (.lst (pG es))
 ents:∀ e ∈ es,xV H e
theorem xV.same {H H':Hp}{e:iZ} (s:aM H H') (h:xV H e):xV H' e:=⟨s _ _ h.1,h.2.same s⟩
theorem vB.same {H H':Hp}{a:Addr}{es:List iZ} (s:aM H H') (h:vB H a es):vB H' a es:=⟨s _ _ h.lst,fun e he=>(h.ents e he).same s⟩
theorem qC (es:List iZ):(pG es).length=es.length:=List.length_map _
theorem Bg {es:List iZ}{i:Nat}{v:V} (h:(pG es)[i]? = some v):∃ x,es[i]? = some x /\ v = .ref x.p:=by
 unfold pG at h
 rw [List.getElem?_map] at h
 cases e:es[i]? with
 | none=>rw [e] at h; cases h
 | some x=>rw [e] at h; cases h; exact ⟨x,rfl,rfl⟩
theorem Ds (xs:List iZ) (y:iZ):pG (xs ++ [y])=pG xs ++ [V.ref y.p]:=by unfold pG; rw [List.map_append]; rfl
def qH (S:Int) (e:iZ):Int:=e.w * S.fdiv (cN e.ys)
def cH (S:Int) (es:List iZ):List Tb.Rw:=es.flatMap fun e=>e.ys.map fun y=>⟨y.t,y.b,qH S e * y.w⟩
def cX (es:List iZ):List Int:=es.map fun e=>cN e.ys
theorem zM (S:Int) (es:List iZ) (e:iZ):cH S (es ++ [e])=cH S es ++ e.ys.map fun y=>⟨y.t,y.b,qH S e * y.w⟩:=by
 unfold cH
 rw [List.flatMap_append]
 simp
def bT (xs:List dJ):Int:=dY (xs.map dJ.b)
theorem FJ {m n:Int} (hn:0 < n):dW m n=m * (Fr.sh m n).2:=by
 unfold dW Fr.sh Fr.dv
 rw [if_neg (by omega)]
theorem DG {m n M:Int} (hn:0 < n) (h1:m ∣ M) (h2:n ∣ M):dW m n ∣ M:=by
 rw [FJ hn]
 obtain ⟨a,ea⟩:=h1
 obtain ⟨b,eb⟩:=h2
 have d1:=Fr.Dr m n
 have d2:=Fr.zT m n
 have dn:=Fr.Oa (t:=m) (Int.ne_of_gt hn)
 have h:(Fr.sh m n).2 ∣ (Fr.sh m n).1 * a:=by
  refine ⟨b,Int.eq_of_mul_eq_mul_right dn ?_⟩
  have e1:(Fr.sh m n).1 * a * Fr.dv m n=((Fr.sh m n).1 * Fr.dv m n) * a:=by grind
  have e2:(Fr.sh m n).2 * b * Fr.dv m n=((Fr.sh m n).2 * Fr.dv m n) * b:=by grind
  rw [e1,e2,d1,d2,<- ea,<- eb]
 obtain ⟨c,hc⟩:=Fr.Yt (Fr.Ex (t:=m) (Int.ne_of_gt hn)) h
 exact ⟨c,by rw [ea,hc]; grind⟩
theorem pU:∀ (ns:List Int) (m M:Int),(∀ n ∈ ns,0 < n)->m ∣ M->(∀ n ∈ ns,n ∣ M)->ns.foldl dW m ∣ M
 | [],_,_,_,h,_=>h
 | n :: ns,m,M,hp,h,hd=>pU ns _ M (fun k hk=>hp k (List.mem_cons_of_mem _ hk)) (DG (hp n List.mem_cons_self) h (hd n List.mem_cons_self)) fun k hk=>hd k (List.mem_cons_of_mem _ hk)
theorem Cm {ns:List Int}{M:Int} (hp:∀ n ∈ ns,0 < n) (hd:∀ n ∈ ns,n ∣ M):dY ns ∣ M:=pU ns 1 M hp ⟨M,(Int.one_mul _).symm⟩ hd
theorem Ga {ns:List Int} (hp:∀ n ∈ ns,0 < n):dY ns <= Sd.fZ ns:=Int.le_of_dvd (Sd.nU hp) (Cm hp fun n hn=>Sd.qO hn)
theorem GT.bp {xs:List dJ}{n:Nat}{W M k:Int} (g:GT xs n W M k):∀ b ∈ xs.map dJ.b,0 < b:=fun b hb=>by
 obtain ⟨x,hx,rfl⟩:=List.mem_map.mp hb
 exact (g.fq x hx).fr.pos
theorem GT.lcm {xs:List dJ}{n:Nat}{W M k:Int} (g:GT xs n W M k):0 < bT xs /\ bT xs ∣ M /\ ∀ x ∈ xs,x.b ∣ bT xs:=by
 obtain ⟨a,b⟩:=GJ g.bp
 exact ⟨a,Cm g.bp fun b hb=>by obtain ⟨x,hx,rfl⟩:=List.mem_map.mp hb; exact (g.fq x hx).dv,fun x hx=>b _ (List.mem_map.mpr ⟨x,hx,rfl⟩)⟩
theorem GT.own {xs:List dJ}{n:Nat}{W M k:Int} (g:GT xs n W M k):GT xs n W (bT xs) k /\ bT xs <= M:=by
 obtain ⟨a,b,c⟩:=g.lcm
 exact ⟨⟨g.ne,g.len,g.w1,g.ws,a,fun x hx=>⟨(g.fq x hx).fr,c x hx,(g.fq x hx).lo,(g.fq x hx).hi⟩⟩,Int.le_of_dvd g.mp b⟩
theorem Gw {r:Tb.Rw} (hr:1 <= r.w):∀ {ys:List Tb.Rw},ys.Pairwise Tb.Lt->(ys.map fun y=>if r.t=y.t /\ r.b=y.b then r.w else 0).sum <= r.w
 | [],_=>by show (0:Int) <= r.w; omega
 | y :: ys,h=>by
  obtain ⟨h1,h2⟩:=List.pairwise_cons.mp h
  rw [List.map_cons,List.sum_cons]
  by_cases e:r.t=y.t /\ r.b=y.b
  ·rw [if_pos e]
   have z:(ys.map fun y=>if r.t=y.t /\ r.b=y.b then r.w else 0).sum=0:=by
    have:∀ zs:List Tb.Rw,(∀ z ∈ zs,Tb.Lt y z)->(zs.map fun y=>if r.t=y.t /\ r.b=y.b then r.w else 0).sum=0:=by
     intro zs
     induction zs with
     | nil=>intro _; rfl
     | cons z zs ih =>
      intro hz
      rw [List.map_cons,List.sum_cons,ih fun x hx=>hz x (List.mem_cons_of_mem _ hx),if_neg fun q=>Tb.Ks (hz z List.mem_cons_self) (e.1.symm.trans q.1) (e.2.symm.trans q.2)]
      rfl
    exact this ys h1
   omega
  ·rw [if_neg e]
   have:=Gw hr h2
   omega
theorem K8 {ys:List Tb.Rw} (so:ys.Pairwise Tb.Lt):∀ {ps:List Tb.Rw},(∀ r ∈ ps,1 <= r.w)->(ys.map fun y=>Tb.Wt ps y.t y.b).sum <= Tb.W ps
 | [],_=>by
  have:∀ zs:List Tb.Rw,(zs.map fun y=>Tb.Wt [] y.t y.b).sum=0:=by
   intro zs
   induction zs with
   | nil=>rfl
   | cons z zs ih=>rw [List.map_cons,List.sum_cons,ih]; rfl
  rw [this]
  exact Int.le_refl _
 | r :: ps,h=>by
  have ih:=K8 so (ps:=ps) fun x hx=>h x (List.mem_cons_of_mem _ hx)
  have k:=Gw (h r List.mem_cons_self) so
  have e:∀ zs:List Tb.Rw,(zs.map fun y=>Tb.Wt (r :: ps) y.t y.b).sum=(zs.map fun y=>if r.t=y.t /\ r.b=y.b then r.w else 0).sum + (zs.map fun y=>Tb.Wt ps y.t y.b).sum:=by
   intro zs
   induction zs with
   | nil=>rfl
   | cons z zs ih =>
    rw [List.map_cons,List.sum_cons,List.map_cons,List.sum_cons,List.map_cons,List.sum_cons,ih,Tb.lM]
    omega
  rw [e,Tb.iH]
  omega
theorem HY.sum {ps:List Tb.Rw}{ys:List dJ} (o:HY ps ys) (h:∀ r ∈ ps,1 <= r.w):cN ys <= Tb.W ps:=by
 have s:=K8 o.tab.lt h
 have le:∀ zs:List dJ,(∀ y ∈ zs,y.w <= Tb.Wt ps y.t y.b)->cN zs <= ((dX zs).map fun y=>Tb.Wt ps y.t y.b).sum:=by
  intro zs
  induction zs with
  | nil=>intro _; exact Int.le_refl _
  | cons z zs ih =>
   intro hz
   have e:cN (z :: zs)=z.w + cN zs:=by unfold cN; rw [List.map_cons,List.sum_cons]
   have e2:dX (z :: zs)=z.r :: dX zs:=rfl
   rw [e,e2,List.map_cons,List.sum_cons]
   have h1:=hz z List.mem_cons_self
   have h2:=ih fun y hy=>hz y (List.mem_cons_of_mem _ hy)
   have h3:Tb.Wt ps z.r.t z.r.b=Tb.Wt ps z.t z.b:=rfl
   omega
 exact Int.le_trans (le ys fun y hy=>(o.w y hy).2) s
structure GM (es:List iZ) (k0:Nat) (W0 kk:Int):Prop where
 ne:es ≠ []
 len:es.length <= 4
 k:k0 <= 12
 n:es.length * k0 <= 48
 w:∀ e ∈ es,1 <= e.w /\ e.w <= 1000
 g:∀ e ∈ es,GT e.ys k0 W0 (bT e.ys) kk
 c:∀ e ∈ es,Cp k0 W0 (bT e.ys) kk
theorem GM.tp {es:List iZ}{k0:Nat}{W0 kk:Int} (g:GM es k0 W0 kk):∀ n ∈ cX es,0 < n /\ n <= 2 ^ 600:=fun n hn=>by
 obtain ⟨e,he,rfl⟩:=List.mem_map.mp hn
 have:=(g.g e he).tot
 have:=(g.g e he).ws
 have:=(g.c e he).w
 omega
theorem GM.tb {es:List iZ}{k0:Nat}{W0 kk:Int} (g:GM es k0 W0 kk):(∀ n ∈ cX es,intBits n <= 601) /\ ((cX es).map intBits).sum <= 2404:=by
 have e1:∀ n ∈ cX es,intBits n <= 601:=fun n hn=>by
  have:=g.tp n hn
  have p1:(2:Int) ^ 601=2 * 2 ^ 600:=by rw [Int.pow_succ]; omega
  have q1:=Sd.cL 600
  exact nT (by omega) (by omega)
 have h:=o6 (k:=601) (l:=(cX es).map intBits) fun n hn=>by
  obtain ⟨z,hz,rfl⟩:=List.mem_map.mp hn
  exact e1 z hz
 have l:=g.len
 have e:((cX es).map intBits).length=es.length:=by rw [List.length_map]; unfold cX; rw [List.length_map]
 rw [e] at h
 exact ⟨e1,by omega⟩
theorem GM.S {es:List iZ}{k0:Nat}{W0 kk:Int} (g:GM es k0 W0 kk):0 < dY (cX es) /\ dY (cX es) <= 2 ^ 2400 /\ intBits (dY (cX es)) <= 2405 /\ ∀ e ∈ es,cN e.ys ∣ dY (cX es):=by
 have tp:∀ n ∈ cX es,0 < n:=fun n hn=>(g.tp n hn).1
 obtain ⟨a,b⟩:=GJ tp
 have l:=g.len
 have pl:=Sd.Cq (e:=600) g.tp
 have e:(cX es).length=es.length:=by unfold cX; rw [List.length_map]
 rw [e] at pl
 have hb:=yL (cX es)
 have:=g.tb.2
 exact ⟨a,Int.le_trans (Int.le_trans (Ga tp) pl) (Sd.eY (by omega)),by omega,fun e he=>b _ (List.mem_map.mpr ⟨e,he,rfl⟩)⟩
theorem zO {S:Int}{e:iZ} (hp:1 <= cN e.ys) (d:cN e.ys ∣ S):qH S e * cN e.ys=e.w * S:=by
 unfold qH
 obtain ⟨s,es⟩:=d
 have q1:S.fdiv (cN e.ys)=s:=by rw [es]; exact Int.mul_fdiv_cancel_left _ (by omega)
 rw [q1,es]
 grind
theorem M7 {S:Int}{e:iZ} (hw:1 <= e.w) (hp:1 <= cN e.ys) (hS:0 < S) (d:cN e.ys ∣ S):1 <= qH S e:=by
 have h:=zO hp d
 have p:0 < e.w * S:=Int.mul_pos (by omega) hS
 rcases Int.lt_or_le 0 (qH S e) with z | z
 ·omega
 ·have:=Int.mul_nonpos_of_nonpos_of_nonneg z (show (0:Int) <= cN e.ys by omega)
  omega
theorem GM.part {es:List iZ}{k0:Nat}{W0 kk:Int} (g:GM es k0 W0 kk) {e:iZ} (he:e ∈ es) {y:dJ} (hy:y ∈ e.ys):1 <= qH (dY (cX es)) e * y.w /\ qH (dY (cX es)) e * y.w <= 1000 * dY (cX es):=by
 obtain ⟨Sp,_,_,Sd'⟩:=g.S
 have ge:=g.g e he
 have w:=g.w e he
 have f1:=M7 w.1 ge.tot Sp (Sd' e he)
 have y1:=ge.w1 y hy
 have y2:=mQ ge.w1 hy
 have a:=zO ge.tot (Sd' e he)
 have b:=Int.mul_le_mul_of_nonneg_left y2 (show 0 <= qH (dY (cX es)) e by omega)
 have c:=Int.mul_le_mul_of_nonneg_right w.2 (Int.le_of_lt Sp)
 have d:1 * 1 <= qH (dY (cX es)) e * y.w:=Int.mul_le_mul f1 y1 (by decide) (by omega)
 omega
theorem GM.pb {es:List iZ}{k0:Nat}{W0 kk:Int} (g:GM es k0 W0 kk) {e:iZ} (he:e ∈ es) {y:dJ} (hy:y ∈ e.ys):Fr.jJ y.t y.b /\ intBits y.t <= 4000 /\ intBits y.b <= 4000 /\ 1 <= qH (dY (cX es)) e * y.w /\ qH (dY (cX es)) e * y.w <= Bs:=by
 have b:=(g.g e he).bits (g.c e he) hy
 have p:=g.part he hy
 have s:=g.S.2.1
 have m:(1000:Int) * 2 ^ 2400 <= Bs:=by decide +kernel
 exact ⟨((g.g e he).fq y hy).fr,by omega,by omega,p.1,by omega⟩
theorem Gs {S:Int}:∀ {es:List iZ},(∀ e ∈ es,1 <= cN e.ys /\ cN e.ys ∣ S /\ e.w <= 1000)->0 <= S->Tb.W (cH S es) <= 1000 * (es.length:Int) * S
 | [],_,_=>by show (0:Int) <= _; simp
 | e :: es,h,hS=>by
  have ih:=Gs (es:=es) (fun x hx=>h x (List.mem_cons_of_mem _ hx)) hS
  obtain ⟨h1,h2,h3⟩:=h e List.mem_cons_self
  have e1:cH S (e :: es)=(e.ys.map fun y=>⟨y.t,y.b,qH S e * y.w⟩) ++ cH S es:=rfl
  have e2:∀ zs:List dJ,Tb.W (zs.map fun y=>(⟨y.t,y.b,qH S e * y.w⟩ : Tb.Rw))=qH S e * cN zs:=by
   intro zs
   induction zs with
   | nil=>show (0:Int)=_ * 0; simp
   | cons z zs ih =>
    have e:cN (z :: zs)=z.w + cN zs:=by unfold cN; rw [List.map_cons,List.sum_cons]
    rw [List.map_cons,Tb.iH,ih,e,Int.mul_add]
  rw [e1,Tb.BW,e2,zO h1 h2,List.length_cons]
  have:=Int.mul_le_mul_of_nonneg_right h3 hS
  push_cast
  have e3:1000 * ((es.length:Int) + 1) * S=1000 * (es.length:Int) * S + 1000 * S:=by grind
  rw [e3]
  omega
theorem Hf {S:Int}{es:List iZ}{t b:Int} (h:Tb.tH (cH S es) t b):∃ e ∈ es,∃ y ∈ e.ys,y.t=t /\ y.b=b:=by
 obtain ⟨p,hp,e1,e2⟩:=h
 obtain ⟨e,he,hq⟩:=List.mem_flatMap.mp hp
 obtain ⟨y,hy,rfl⟩:=List.mem_map.mp hq
 exact ⟨e,he,y,hy,e1,e2⟩
theorem GM.out {es:List iZ}{k0:Nat}{W0 kk:Int}{ys:List dJ} (g:GM es k0 W0 kk) (o:HY (cH (dY (cX es)) es) ys) (hl:ys.length <= es.length * k0) :
  GT ys (es.length * k0) (4000 * Sd.fZ (cX es)) (Sd.fZ (es.map fun e=>bT e.ys)) kk:=by
 obtain ⟨Sp,_,_,Sd'⟩:=g.S
 have tp:∀ n ∈ cX es,0 < n:=fun n hn=>(g.tp n hn).1
 have pw:∀ r ∈ cH (dY (cX es)) es,1 <= r.w:=fun r hr=>by
  obtain ⟨e,he,hq⟩:=List.mem_flatMap.mp hr
  obtain ⟨y,hy,rfl⟩:=List.mem_map.mp hq
  exact (g.part he hy).1
 have pne:cH (dY (cX es)) es ≠ []:=by
  cases es with
  | nil=>exact absurd rfl g.ne
  | cons e es =>
   intro z
   have h1:=(List.append_eq_nil_iff.mp (show (e.ys.map fun y=>(⟨y.t,y.b,qH _ e * y.w⟩ : Tb.Rw)) ++ cH _ es=[] from z)).1
   exact (g.g e List.mem_cons_self).ne (List.map_eq_nil_iff.mp h1)
 have wp:=Gs (S:=dY (cX es)) (es:=es) (fun e he=>⟨(g.g e he).tot,Sd' e he,(g.w e he).2⟩) (Int.le_of_lt Sp)
 have sl:=Ga tp
 have l:=g.len
 have mpos:∀ n ∈ es.map (fun e=>bT e.ys),0 < n:=fun n hn=>by
  obtain ⟨e,he,rfl⟩:=List.mem_map.mp hn
  exact (g.g e he).mp
 refine ⟨o.ne pne,hl,fun y hy=>(o.w y hy).1,?_,Sd.nU mpos,fun y hy=>?_⟩
 ·have a:=o.sum pw
  have b:1000 * (es.length:Int) * dY (cX es) <= 4000 * dY (cX es):=Int.mul_le_mul_of_nonneg_right (by omega) (Int.le_of_lt Sp)
  omega
 ·obtain ⟨p,hp,e1,e2⟩:=o.key hy
  obtain ⟨e,he,z,hz,e3,e4⟩:=Hf ⟨p,hp,e1,e2⟩
  have f:=(g.g e he).fq z hz
  rw [e3,e4] at f
  exact Sd.Fq.mono f (Sd.qO (List.mem_map.mpr ⟨e,he,rfl⟩)) (Int.le_refl _)
end TD
namespace TD
open PySem L2
open Builtin.Int (intBits)
theorem GT.cm {xs:List dJ}{n:Nat}{W M k:Int} (g:GT xs n W M k):Tb.CM (bT xs) (dX xs):=by
 obtain ⟨a,b,c⟩:=g.lcm
 refine ⟨a,fun r hr=>?_⟩
 obtain ⟨x,hx,rfl⟩:=List.mem_map.mp hr
 exact ⟨(g.fq x hx).fr.pos,c x hx⟩
theorem GT.tab {xs:List dJ}{n:Nat}{W M k:Int} (g:GT xs n W M k) (so:(dX xs).Pairwise Tb.Lt):Tb.Qz (bT xs) (dX xs) :=
 ⟨g.cm,fun r hr=>by obtain ⟨x,hx,rfl⟩:=List.mem_map.mp hr; exact g.w1 x hx,so.imp fun h=>Int.le_of_lt h⟩
theorem aBk {B k:Int}{r:Tb.Rw} (hb:0 < r.b) (hB:0 < B) (d:r.b ∣ B) (lo:-(k * r.b) <= r.t) (hi:r.t <= k * r.b):-(k * B) <= Tb.T B r /\ Tb.T B r <= k * B:=by
 obtain ⟨c,hc,e,q⟩:=Tb.Yu hb hB d
 unfold Tb.T
 rw [q,e]
 have h1:=Int.mul_le_mul_of_nonneg_right lo (Int.le_of_lt hc)
 have h2:=Int.mul_le_mul_of_nonneg_right hi (Int.le_of_lt hc)
 have e1:-(k * r.b) * c = -(k * (r.b * c)):=by grind
 have e2:k * r.b * c=k * (r.b * c):=by grind
 rw [e1] at h1
 rw [e2] at h2
 exact ⟨h1,h2⟩
theorem O9 {B k:Int} (kB:0 <= k * B):∀ {rs:List Tb.Rw},(∀ r ∈ rs,1 <= r.w /\ -(k * B) <= Tb.T B r /\ Tb.T B r <= k * B)->-(k * B * Tb.W rs) <= Tb.WT B rs /\ Tb.WT B rs <= k * B * Tb.W rs
 | [],_=>by simp [Tb.W,Tb.WT]
 | r :: rs,h=>by
  obtain ⟨a,b⟩:=O9 kB (rs:=rs) fun x hx=>h x (List.mem_cons_of_mem _ hx)
  obtain ⟨w1,l,u⟩:=h r List.mem_cons_self
  rw [Tb.tX,Tb.iH]
  have h1:=Int.mul_le_mul_of_nonneg_left l (show 0 <= r.w by omega)
  have h2:=Int.mul_le_mul_of_nonneg_left u (show 0 <= r.w by omega)
  have e1:r.w * -(k * B) = -(k * B * r.w):=by grind
  have e2:r.w * (k * B)=k * B * r.w:=by grind
  have e3:k * B * (r.w + Tb.W rs)=k * B * r.w + k * B * Tb.W rs:=by grind
  rw [e1] at h1
  rw [e2] at h2
  rw [e3]
  omega
theorem PJ {rs:List Tb.Rw} (h:∀ r ∈ rs,1 <= r.w) (j:Nat):0 <= Tb.W (rs.drop j) /\ Tb.W (rs.drop j) <= Tb.W rs:=by
 have nn:∀ zs:List Tb.Rw,(∀ r ∈ zs,1 <= r.w)->0 <= Tb.W zs:=by
  intro zs
  induction zs with
  | nil=>intro _; exact Int.le_refl _
  | cons z zs ih =>
   intro hz
   rw [Tb.iH]
   have:=hz z List.mem_cons_self
   have:=ih fun x hx=>hz x (List.mem_cons_of_mem _ hx)
   omega
 have e:Tb.W rs=Tb.W (rs.take j) + Tb.W (rs.drop j):=by rw [<- Tb.BW,List.take_append_drop]
 have a:=nn (rs.take j) fun r hr=>h r (List.mem_of_mem_take hr)
 have b:=nn (rs.drop j) fun r hr=>h r (List.mem_of_mem_drop hr)
 omega
theorem GT.lp {xs:List dJ}{n:Nat}{W M k p tops ws:Int}{i:Nat} (g:GT xs n W M k) (k0:0 <= k) (p0:0 <= p) (l:Tb.Lp (bT xs) (p * Tb.W (dX xs) * bT xs) (dX xs) i tops ws) :
  0 <= ws /\ ws <= cN xs /\ -((p + k) * cN xs * bT xs) <= tops /\ tops <= (p + k) * cN xs * bT xs:=by
 have cm:=g.cm
 have Bp:=cm.pos
 have w1:∀ r ∈ dX xs,1 <= r.w:=fun r hr=>by obtain ⟨x,hx,rfl⟩:=List.mem_map.mp hr; exact g.w1 x hx
 have wd:=PJ w1 ((dX xs).length - i)
 have kB:0 <= k * bT xs:=Int.mul_nonneg k0 (Int.le_of_lt Bp)
 have wt:=O9 kB (rs:=(dX xs).drop ((dX xs).length - i)) fun r hr=>by
  obtain ⟨x,hx,rfl⟩:=List.mem_map.mp (List.mem_of_mem_drop hr)
  have f:=g.fq x hx
  exact ⟨g.w1 x hx,aBk (r:=x.r) f.fr.pos Bp (g.lcm.2.2 x hx) f.lo f.hi⟩
 have ew:=l.ew
 have et:=l.et
 rw [<- ew] at wd wt
 have m:=Int.mul_le_mul_of_nonneg_left wd.2 kB
 have P0:0 <= p * Tb.W (dX xs) * bT xs:=Int.mul_nonneg (Int.mul_nonneg p0 (by omega)) (Int.le_of_lt Bp)
 have e:(p + k) * cN xs * bT xs=p * Tb.W (dX xs) * bT xs + k * bT xs * Tb.W (dX xs):=by rw [qQ]; grind
 rw [e,qQ]
 exact ⟨wd.1,wd.2,by omega,by omega⟩
theorem Ql {tops ws B k:Int} (hw:1 <= ws) (hB:0 < B) (k0:0 <= k) (lo:-(k * B) <= tops) (hi:tops <= k * B):Sd.FQ (Fr.sh tops (ws * B)) (ws * B) k:=by
 have p:0 < ws * B:=Int.mul_pos (by omega) hB
 have kb:0 <= k * B:=Int.mul_nonneg k0 (Int.le_of_lt hB)
 have e:k * (ws * B)=k * B * ws:=by grind
 have h:k * B * 1 <= k * B * ws:=Int.mul_le_mul_of_nonneg_left hw kb
 exact Sd.Oq (u:=tops) p rfl (by rw [e]; omega) (by rw [e]; omega)
def O4:Sp:=fun vs H Q _=>∃ (a:Addr) (xs:List dJ) (p:Int) (n:Nat) (W k:Int),vs=[.ref a,.int p] /\ gD H a xs /\ GT xs n W (bT xs) k /\ Cp n W (bT xs) k /\ (dX xs).Pairwise Tb.Lt /\ 0 <= p /\ p <= 1000000000 ∧
 ∀ (r:Addr) (H':Hp) (l:Int × Int) (u:Int),aM H H'->Tq H' r l->1 <= u->u <= cN xs->Sd.FQ l (u * bT xs) ((p + k) * cN xs)->Tb.Lv (bT xs) (p * Tb.W (dX xs) * bT xs) l.1 l.2 (dX xs)->Q (.ref r) H'
theorem Px {xs ys:List dJ}{n:Nat}{W M k l0 l1:Int} (g:GT xs n W M k) (f:Sd.Fq l0 l1 M k) (o:HY ((dX xs).map (Tb.jR l0 l1)) ys) (hl:ys.length <= xs.length):GT ys n W M k:=by
 have cw:∀ r:Tb.Rw,(Tb.jR l0 l1 r).w=r.w:=fun r=>by unfold Tb.jR; split <;> rfl
 have pw:∀ r ∈ (dX xs).map (Tb.jR l0 l1),1 <= r.w:=fun r hr=>by
  obtain ⟨p,hp,rfl⟩:=List.mem_map.mp hr
  obtain ⟨x,hx,rfl⟩:=List.mem_map.mp hp
  rw [cw]
  exact g.w1 x hx
 have eW:∀ rs:List Tb.Rw,Tb.W (rs.map (Tb.jR l0 l1))=Tb.W rs:=by
  intro rs
  induction rs with
  | nil=>rfl
  | cons r rs ih=>rw [List.map_cons,Tb.iH,Tb.iH,ih,cw]
 have s:=o.sum pw
 rw [eW,<- qQ] at s
 refine ⟨o.ne fun z=>g.ne (List.map_eq_nil_iff.mp (List.map_eq_nil_iff.mp z)),Nat.le_trans hl g.len,fun y hy=>(o.w y hy).1,Int.le_trans s g.ws,g.mp,fun y hy=>?_⟩
 obtain ⟨p,hp,e1,e2⟩:=o.key hy
 obtain ⟨q,hq,rfl⟩:=List.mem_map.mp hp
 obtain ⟨x,hx,rfl⟩:=List.mem_map.mp hq
 rw [<- e1,<- e2]
 unfold Tb.jR
 split
 ·exact f
 ·exact g.fq x hx
theorem QD {xs ys:List dJ}{n:Nat}{W M k l0 l1:Int} (g:GT xs n W M k) (c:Cp n W M k) (f:Sd.Fq l0 l1 M k) (e:dX ys=(dX xs).map (Tb.jR l0 l1)):PB ys:=fun y hy=>by
 have m:y.r ∈ (dX xs).map (Tb.jR l0 l1):=by rw [<- e]; exact List.mem_map.mpr ⟨y,hy,rfl⟩
 obtain ⟨p,hp,ep⟩:=List.mem_map.mp m
 obtain ⟨x,hx,rfl⟩:=List.mem_map.mp hp
 have pb:=g.pb c x hx
 have lb:=pO f g.mp c.m c.k0 c.k
 unfold Tb.jR at ep
 by_cases cc:l0 * x.r.b < x.r.t * l1
 ·rw [if_pos cc] at ep
  have e1:l0=y.t:=congrArg Tb.Rw.t ep
  have e2:l1=y.b:=congrArg Tb.Rw.b ep
  have e3:x.w=y.w:=congrArg Tb.Rw.w ep
  rw [<- e1,<- e2,<- e3]
  exact ⟨f.fr,by omega,by omega,pb.2.2.2.1,pb.2.2.2.2⟩
 ·rw [if_neg cc] at ep
  have e1:x.t=y.t:=congrArg Tb.Rw.t ep
  have e2:x.b=y.b:=congrArg Tb.Rw.b ep
  have e3:x.w=y.w:=congrArg Tb.Rw.w ep
  rw [<- e1,<- e2,<- e3]
  exact pb
def J1 (Pt:Addr) (lp:Pos):Sp:=fun vs H Q _=>∃ (a l:Addr) (xs:List dJ) (x:Int × Int) (n:Nat) (W M k:Int),vs=[.ref a,.ref l] /\ gD H a xs /\ GT xs n W M k /\ Cp n W M k /\ Tq H l x /\ Sd.FQ x M k /\ fJ Pt lp lQ H ∧
 ∀ (r:Addr) (H':Hp) (ys:List dJ),cD Pt H H'->fJ Pt lp lQ H'->H r=none->gD H' r ys->GT ys n W M k->HY ((dX xs).map (Tb.jR x.1 x.2)) ys->Q (.ref r) H'
def Kv (Pt:Addr) (lp:Pos):Sp:=fun vs H Q _=>∃ (a:Addr) (es:List iZ) (k0:Nat) (W0 kk:Int),vs=[.ref a] /\ vB H a es /\ GM es k0 W0 kk /\ fJ Pt lp lQ H ∧
 ∀ (r:Addr) (H':Hp) (ys:List dJ),cD Pt H H'->fJ Pt lp lQ H'->H r=none->gD H' r ys->GT ys (es.length * k0) (4000 * Sd.fZ (cX es)) (Sd.fZ (es.map fun e=>bT e.ys)) kk->HY (cH (dY (cX es)) es) ys->ys.length <= (cH (dY (cX es)) es).length->Q (.ref r) H'
def Hy (xs:List dJ) (d m:Nat):Prop:=GT xs m (wB d m) (bT xs) (kK d) /\ bT xs <= 2 ^ (be d * m)
theorem Hy.up {xs:List dJ}{d k:Nat} (h:Hy xs d k) (hk:k <= 12):Hy xs d 12:=by
 obtain ⟨g,l⟩:=h
 have a:wB d k <= wB d 12:=Sd.eY (Nat.mul_le_mul_left _ hk)
 exact ⟨⟨g.ne,Nat.le_trans g.len hk,g.w1,Int.le_trans g.ws a,g.mp,g.fq⟩,Int.le_trans l (Sd.eY (Nat.mul_le_mul_left _ hk))⟩
inductive Ae (d:Nat) (f:Int × Sd.Sd->Nat):List iZ->List (Int × Sd.Sd)->Prop
 | nil:Ae d f [] []
 | cons {e:iZ}{t:Int × Sd.Sd}{es:List iZ}{rs:List (Int × Sd.Sd)} (g:Hy e.ys d (f t)) (h:Ae d f es rs):Ae d f (e :: es) (t :: rs)
theorem Ae.snoc {d:Nat}{f:Int × Sd.Sd->Nat}{es:List iZ}{rs:List (Int × Sd.Sd)} (h:Ae d f es rs) {e:iZ}{t:Int × Sd.Sd} (g:Hy e.ys d (f t)):Ae d f (es ++ [e]) (rs ++ [t]):=by
 induction h with
 | nil=>exact .cons g .nil
 | cons g' _ ih=>exact .cons g' ih
structure AeB (d n:Nat) (es:List iZ):Prop where
 t0:0 < Sd.fZ (cX es)
 t:Sd.fZ (cX es) <= 2 ^ ((12 * d + 1) * n)
 l:Sd.fZ (es.map fun e=>bT e.ys) <= 2 ^ (be d * n)
 p:∀ S,(cH S es).length <= n
theorem Ae.b {d:Nat}{f:Int × Sd.Sd->Nat}{es:List iZ}{rs:List (Int × Sd.Sd)} (h:Ae d f es rs):AeB d (rs.map f).sum es:=by
 induction h with
 | nil=>exact ⟨by decide,by show (1:Int) <= _; simp,by show (1:Int) <= _; simp,fun _=>Nat.zero_le _⟩
 | @cons e t es rs g _ ih =>
  have a:=g.1.tot
  have b:=g.1.ws
  unfold wB at b
  have c:=g.1.mp
  have e1:cX (e :: es)=cN e.ys :: cX es:=rfl
  have lp:0 < Sd.fZ (es.map fun e=>bT e.ys) ∨ True:=.inr trivial
  rw [List.map_cons,List.sum_cons]
  refine ⟨?_,?_,?_,fun S=>?_⟩
  ·rw [e1]; exact Int.mul_pos (by omega) ih.t0
  ·rw [e1,Nat.mul_add,Int.pow_add]
   exact Int.le_trans (Int.mul_le_mul_of_nonneg_right b (Int.le_of_lt ih.t0)) (Int.mul_le_mul_of_nonneg_left ih.t (Int.le_of_lt (Sd.cL _)))
  ·rw [List.map_cons,Nat.mul_add,Int.pow_add]
   exact Int.le_trans (Int.mul_le_mul_of_nonneg_left ih.l (Int.le_of_lt c)) (Int.mul_le_mul_of_nonneg_right g.2 (Int.le_of_lt (Sd.cL _)))
  ·have e2:cH S (e :: es)=(e.ys.map fun y=>⟨y.t,y.b,qH S e * y.w⟩) ++ cH S es:=rfl
   rw [e2,List.length_append,List.length_map]
   have:=g.1.len
   have:=ih.p S
   omega
theorem Ae.all {d:Nat}{f:Int × Sd.Sd->Nat}{es:List iZ}{rs:List (Int × Sd.Sd)} (h:Ae d f es rs) (hf:∀ t ∈ rs,f t <= 12):∀ e ∈ es,Hy e.ys d 12:=by
 induction h with
 | nil=>intro e he; cases he
 | @cons e t es rs g _ ih =>
  intro x hx
  rcases List.mem_cons.mp hx with z | z
  ·subst z; exact g.up (hf t List.mem_cons_self)
  ·exact ih (fun u hu=>hf u (List.mem_cons_of_mem _ hu)) x z
theorem YZ {es:List iZ}{d:Nat} (hd:d <= 4) (ne:es ≠ []) (l4:es.length <= 4) (w:∀ e ∈ es,1 <= e.w /\ e.w <= 1000) (g:∀ e ∈ es,Hy e.ys d 12):GM es 12 (wB d 12) (kK d) :=
 ⟨ne,l4,by decide,by omega,w,fun e he=>(g e he).1,fun e he=>GD hd (by decide) (g e he).2⟩
structure Mx (es:List iZ) (ys:List dJ) (d m:Nat):Prop where
 g:GT ys m (wB (d + 1) m) (bT ys) (kK d)
 l:bT ys <= 2 ^ (be d * m)
theorem Rj {es:List iZ}{ys:List dJ}{d m n n0:Nat} (ab:AeB d n es) (hn:n <= m) (hm1:1 <= m) (o:ys.length <= n) (h:GT ys n0 (4000 * Sd.fZ (cX es)) (Sd.fZ (es.map fun e=>bT e.ys)) (kK d)):Mx es ys d m:=by
 have x2:(12 * d + 1) * n <= (12 * d + 1) * m:=Nat.mul_le_mul_left _ hn
 have x3:12 + (12 * d + 1) * m <= (12 * (d + 1) + 1) * m:=by
  have:(12 * (d + 1) + 1) * m=12 * m + (12 * d + 1) * m:=by rw [show 12 * (d + 1) + 1=12 + (12 * d + 1) by omega,Nat.add_mul]
  omega
 have y2:be d * n <= be d * m:=Nat.mul_le_mul_left _ hn
 have W1:4000 * Sd.fZ (cX es) <= wB (d + 1) m:=by
  have a:4000 * Sd.fZ (cX es) <= 2 ^ 12 * Sd.fZ (cX es):=Int.mul_le_mul_of_nonneg_right (by decide) (Int.le_of_lt ab.t0)
  have b:(2:Int) ^ 12 * Sd.fZ (cX es) <= 2 ^ 12 * 2 ^ ((12 * d + 1) * n):=Int.mul_le_mul_of_nonneg_left ab.t (by decide)
  rw [<- Int.pow_add] at b
  have c:(2:Int) ^ (12 + (12 * d + 1) * n) <= wB (d + 1) m:=Sd.eY (by omega)
  omega
 obtain ⟨o1,o2⟩:=h.own
 have M1:bT ys <= 2 ^ (be d * m):=Int.le_trans (Int.le_trans o2 ab.l) (Sd.eY (by omega))
 exact ⟨⟨o1.ne,Nat.le_trans o hn,o1.w1,Int.le_trans o1.ws W1,o1.mp,o1.fq⟩,M1⟩
theorem Mx.cp {es:List iZ}{ys:List dJ}{d m:Nat} (x:Mx es ys d m) (hd:d + 1 <= 4) (hm:m <= 12):Cp m (wB (d + 1) m) (bT ys) (kK d):=by
 have a:=GD (d:=d) (by omega) hm x.l
 have b:=GD (d:=d + 1) (m:=m) (M:=1) hd hm (by have:=Sd.cL (be (d + 1) * m); omega)
 exact ⟨hm,b.w,a.m,a.k0,a.k⟩
theorem k30 (d:Nat):(1000000000:Int) <= kK d:=by
 have h:30 <= ka d:=by
  induction d with
  | zero=>exact Nat.le_refl _
  | succ d ih=>show 30 <= ka d + (12 * (d + 1) + 1) * 12 + 1; omega
 have:=Sd.eY h
 have e:(2:Int) ^ 30=1073741824:=by decide
 unfold kK
 omega
structure Lx (ys:List dJ) (l:Int × Int) (M k:Int) (d m:Nat):Prop where
 g:GT ys m (wB (d + 1) m) M k
 c:Cp m (wB (d + 1) m) M k
 f:Sd.FQ l M k
 m:M <= 2 ^ (be (d + 1) * m)
 k:k <= kK (d + 1)
theorem Vo {es:List iZ}{ys:List dJ}{d m:Nat}{p u:Int}{l:Int × Int} (x:Mx es ys d m) (hd:d + 1 <= 4) (hm:m <= 12) (p0:0 <= p) (p9:p <= 1000000000) (u1:1 <= u) (u2:u <= cN ys) (f:Sd.FQ l (u * bT ys) ((p + kK d) * cN ys)) :
  Lx ys l (u * bT ys) ((p + kK d) * cN ys) d m:=by
 have kp:=Sd.cL (ka d)
 have kp:0 < kK d:=kp
 have k9:=k30 d
 have ws:=x.g.ws
 have w1:=x.g.tot
 have mp:=x.g.mp
 have wp:(0:Int) < wB (d + 1) m:=Sd.cL _
 have kk:kK d <= (p + kK d) * cN ys:=by
  have a:(p + kK d) * 1 <= (p + kK d) * cN ys:=Int.mul_le_mul_of_nonneg_left w1 (by omega)
  omega
 have M1:u * bT ys <= 2 ^ (be (d + 1) * m):=by
  have a:u * bT ys <= wB (d + 1) m * 2 ^ (be d * m):=Int.le_trans (Int.mul_le_mul_of_nonneg_right (Int.le_trans u2 ws) (Int.le_of_lt mp)) (Int.mul_le_mul_of_nonneg_left x.l (Int.le_of_lt wp))
  unfold wB at a
  rw [<- Int.pow_add] at a
  refine Int.le_trans a (Sd.eY ?_)
  have e:be (d + 1) * m=be d * m + (12 * (d + 1) + 1) * m:=by rw [<- Nat.add_mul]; rfl
  omega
 have K1:(p + kK d) * cN ys <= kK (d + 1):=by
  have a:(p + kK d) * cN ys <= (2 * kK d) * wB (d + 1) m:=Int.le_trans (Int.mul_le_mul_of_nonneg_right (by omega) (by omega)) (Int.mul_le_mul_of_nonneg_left ws (by omega))
  have e:(2 * kK d) * wB (d + 1) m=2 ^ (ka d + 1 + (12 * (d + 1) + 1) * m):=by
   unfold kK wB
   rw [Int.pow_add,Int.pow_succ]
   grind
  rw [e] at a
  refine Int.le_trans a (Sd.eY ?_)
  show _ <= ka d + (12 * (d + 1) + 1) * 12 + 1
  have:=Nat.mul_le_mul_left (12 * (d + 1) + 1) hm
  omega
 have c1:=GD (d:=d + 1) hd hm M1
 refine ⟨⟨x.g.ne,x.g.len,x.g.w1,x.g.ws,Int.mul_pos (by omega) mp,fun y hy=>Sd.Fq.mono (x.g.fq y hy) ⟨u,by grind⟩ kk⟩,⟨hm,c1.w,c1.m,by omega,Int.le_trans K1 c1.k⟩,f,M1,K1⟩
theorem VB {ys zs:List dJ}{l:Int × Int}{M k:Int}{d m:Nat} (x:Lx ys l M k d m) (g:GT zs m (wB (d + 1) m) M k):Hy zs (d + 1) m:=by
 obtain ⟨a,b⟩:=g.own
 exact ⟨⟨a.ne,a.len,a.w1,a.ws,a.mp,fun y hy=>Sd.Fq.mono (a.fq y hy) (Int.dvd_refl _) x.k⟩,Int.le_trans b x.m⟩
end TD
namespace Sd
def V (x:Int × Int):Rat:=(x.1:Rat) / (x.2:Rat)
def Az (a b:Rat):Rat:=if a < b then b else a
def rb (l:Rat):Nat->Sd->Rat
 | 0,_=>0
 | _ + 1,.en v=>Az l (v:Rat)
 | n + 1,.st p rs=>Az l (rs.foldl (fun a r=>a + (r.1:Rat) / (iB rs:Rat) * rb l n r.2) (-(p:Rat)))
def Ys (l:Rat):Nat->Sd->Rat
 | 0,_=>0
 | _ + 1,.en v=>(v:Rat)
 | n + 1,.st p rs=>rs.foldl (fun a r=>a + (r.1:Rat) / (iB rs:Rat) * rb l n r.2) (-(p:Rat))
theorem QL (l:Rat) (n:Nat) (s:Sd):rb l (n + 1) s=Az l (Ys l (n + 1) s):=by cases s <;> rfl
theorem iK {b:Int} (h:0 < b):(0:Rat) < (b:Rat):=by exact_mod_cast h
theorem kO {b:Int} (h:0 < b):(b:Rat) ≠ 0:=by have:=iK h; grind
theorem Qq {x y:Int × Int} (hx:0 < x.2) (hy:0 < y.2):x.1 * y.2 < y.1 * x.2 ↔ V x < V y:=by
 have p1:=iK hx
 have p2:=iK hy
 have n1:=kO hx
 have n2:=kO hy
 have e1:V x * (x.2:Rat)=(x.1:Rat):=by unfold V; grind
 have e2:V y * (y.2:Rat)=(y.1:Rat):=by unfold V; grind
 have pp:(0:Rat) < (x.2:Rat) * (y.2:Rat):=Rat.mul_pos p1 p2
 have c:x.1 * y.2 < y.1 * x.2 ↔ (x.1:Rat) * (y.2:Rat) < (y.1:Rat) * (x.2:Rat):=by
  constructor
  ·intro h; exact_mod_cast h
  ·intro h; exact_mod_cast h
 rw [c,<- e1,<- e2]
 constructor
 ·intro h
  by_cases z:V x < V y
  ·exact z
  ·have:=Rat.mul_le_mul_of_nonneg_right (Rat.not_lt.mp z) (c:=(x.2:Rat) * (y.2:Rat)) (by grind)
   grind
 ·intro h
  have:=Rat.mul_lt_mul_of_pos_right h pp
  grind
theorem YW {x y:Int × Int} (fx:Fr.jJ x.1 x.2) (fy:Fr.jJ y.1 y.2) (h:V x=V y):x=y:=by
 have n1:=kO fx.pos
 have n2:=kO fy.pos
 have c:(x.1:Rat) * (y.2:Rat)=(y.1:Rat) * (x.2:Rat):=by unfold V at h; grind
 have c':x.1 * y.2=y.1 * x.2:=by exact_mod_cast c
 have e:=Fr.Nk fx (Int.ne_of_gt fy.pos) c'
 have e2:=Fr.Nk fy (Int.ne_of_gt fy.pos) (rfl:y.1 * y.2=y.1 * y.2)
 exact e.trans e2.symm
def cv (r:Tb.Rw):Rat:=(r.t:Rat) / (r.b:Rat)
def up (l:Rat) (ys:List Tb.Rw):Rat:=(ys.map fun r=>(r.w:Rat) * (Az l (cv r) - l)).sum
def eE (ys:List Tb.Rw):Rat:=(ys.map fun r=>(r.w:Rat)).sum
theorem uX (l:Rat):up l []=0:=rfl
theorem jK (l:Rat) (r:Tb.Rw) (ys:List Tb.Rw):up l (r :: ys)=(r.w:Rat) * (Az l (cv r) - l) + up l ys:=by unfold up; rw [List.map_cons,List.sum_cons]
theorem jN (r:Tb.Rw) (ys:List Tb.Rw):eE (r :: ys)=(r.w:Rat) + eE ys:=by unfold eE; rw [List.map_cons,List.sum_cons]
theorem Ik (l:Rat) (xs ys:List Tb.Rw):up l (xs ++ ys)=up l xs + up l ys:=by unfold up; rw [List.map_append,List.sum_append]
theorem DX (xs ys:List Tb.Rw):eE (xs ++ ys)=eE xs + eE ys:=by unfold eE; rw [List.map_append,List.sum_append]
theorem vQ:∀ ys:List Tb.Rw,eE ys=((Tb.W ys:Int):Rat)
 | []=>rfl
 | r :: ys=>by rw [jN,Tb.iH,vQ ys]; push_cast; rfl
theorem Fo {f:Int->Int->Rat}{r:Tb.Rw}:∀ {ys:List Tb.Rw},ys.Pairwise Tb.Lt->((ys.map fun y=>(((if r.t=y.t /\ r.b=y.b then r.w else 0:Int)):Rat) * f y.t y.b).sum=if (∃ y ∈ ys,y.t=r.t /\ y.b=r.b) then (r.w:Rat) * f r.t r.b else 0)
 | [],_=>by simp
 | y :: ys,so=>by
  obtain ⟨h1,h2⟩:=List.pairwise_cons.mp so
  rw [List.map_cons,List.sum_cons,Fo (f:=f) (r:=r) h2]
  by_cases e:r.t=y.t /\ r.b=y.b
  ·have no:¬ ∃ z ∈ ys,z.t=r.t /\ z.b=r.b:=by
    rintro ⟨z,hz,e1,e2⟩
    exact Tb.Ks (h1 z hz) (by omega) (by omega)
   rw [if_pos e,if_neg no,if_pos ⟨y,List.mem_cons_self,e.1.symm,e.2.symm⟩,<- e.1,<- e.2]
   grind
  ·rw [if_neg e]
   by_cases h:∃ z ∈ ys,z.t=r.t /\ z.b=r.b
   ·obtain ⟨z,hz,ez⟩:=h
    rw [if_pos ⟨z,hz,ez⟩,if_pos ⟨z,List.mem_cons_of_mem _ hz,ez⟩]
    push_cast
    grind
   ·rw [if_neg h,if_neg]
    ·push_cast
     grind
    ·rintro ⟨z,hz,ez⟩
     rcases List.mem_cons.mp hz with w | w
     ·subst w; exact e ⟨ez.1.symm,ez.2.symm⟩
     ·exact h ⟨z,w,ez⟩
theorem Gu {α : Type}{f g:α->Rat}:∀ l:List α,(l.map fun x=>f x + g x).sum=(l.map f).sum + (l.map g).sum
 | []=>by show (0:Rat)=0 + 0; grind
 | x :: l=>by rw [List.map_cons,List.sum_cons,Gu l,List.map_cons,List.sum_cons,List.map_cons,List.sum_cons]; grind
theorem yU {α : Type}{f:α->Rat} (d:Rat):∀ l:List α,(l.map fun x=>d * f x).sum=d * (l.map f).sum
 | []=>by simp
 | x :: l=>by rw [List.map_cons,List.sum_cons,yU d l,List.map_cons,List.sum_cons]; grind
theorem CG {ys:List Tb.Rw} (so:ys.Pairwise Tb.Lt) (f:Int->Int->Rat):∀ {ps:List Tb.Rw},(∀ r ∈ ps,Tb.tH ys r.t r.b)->(ps.map fun r=>(r.w:Rat) * f r.t r.b).sum=(ys.map fun y=>((Tb.Wt ps y.t y.b:Int):Rat) * f y.t y.b).sum
 | [],_=>by
  have e:(ys.map fun y=>((Tb.Wt [] y.t y.b:Int):Rat) * f y.t y.b)=ys.map fun y=>(0:Rat) * f y.t y.b:=List.map_congr_left fun y _=>rfl
  rw [e,yU]
  simp
 | r :: ps,h=>by
  rw [List.map_cons,List.sum_cons,CG so f fun x hx=>h x (List.mem_cons_of_mem _ hx)]
  have e:(ys.map fun y=>((Tb.Wt (r :: ps) y.t y.b:Int):Rat) * f y.t y.b)=ys.map fun y=>(((if r.t=y.t /\ r.b=y.b then r.w else 0:Int)):Rat) * f y.t y.b + ((Tb.Wt ps y.t y.b:Int):Rat) * f y.t y.b:=List.map_congr_left fun y _=>by
   rw [Tb.lM]
   push_cast
   grind
  rw [e,Gu,Fo so,if_pos]
  obtain ⟨y,hy,e1,e2⟩:=h r List.mem_cons_self
  exact ⟨y,hy,e1,e2⟩
theorem BL {ps ys:List Tb.Rw} (h:Tb.DP ps ys):∃ d:Rat,0 < d /\ (∀ l,up l ps=d * up l ys) /\ eE ps=d * eE ys:=by
 obtain ⟨d,d0,hd⟩:=h.d
 have hh:∀ r ∈ ps,Tb.tH ys r.t r.b:=fun r hr=>(h.has r.t r.b).mpr ⟨r,hr,rfl,rfl⟩
 have key:∀ f:Int->Int->Rat,(ps.map fun r=>(r.w:Rat) * f r.t r.b).sum=(d:Rat) * (ys.map fun y=>(y.w:Rat) * f y.t y.b).sum:=fun f=>by
  rw [CG h.lt f hh,<- yU]
  congr 1
  refine List.map_congr_left fun y hy=>?_
  rw [hd y hy]
  push_cast
  grind
 refine ⟨(d:Rat),iK d0,fun l=>key fun t b=>Az l ((t:Rat) / (b:Rat)) - l,?_⟩
 have k1:=key fun _ _=>1
 unfold eE
 have e:∀ l:List Tb.Rw,(l.map fun r=>(r.w:Rat) * 1)=l.map fun r=>(r.w:Rat):=fun l=>List.map_congr_left fun r _=>by grind
 rw [e,e] at k1
 exact k1
theorem GX {l l':Rat} (h:l <= l'):∀ {ys:List Tb.Rw},(∀ r ∈ ys,1 <= r.w)->up l' ys <= up l ys
 | [],_=>by rw [uX,uX]; grind
 | r :: ys,hw=>by
  have a:=GX h (ys:=ys) fun x hx=>hw x (List.mem_cons_of_mem _ hx)
  have w:=iK (show 0 < r.w by have:=hw r List.mem_cons_self; omega)
  have m:Az l' (cv r) - l' <= Az l (cv r) - l:=by unfold Az; split <;> split <;> grind
  have b:=Rat.mul_le_mul_of_nonneg_left m (c:=(r.w:Rat)) (by grind)
  rw [jK,jK]
  grind
theorem Jo {ys:List Tb.Rw} (ne:ys ≠ []) (h:∀ r ∈ ys,1 <= r.w):0 < eE ys:=by
 rw [vQ]
 exact iK (Tb.Iv h ne)
theorem RC {l0 l1:Int} (hl:0 < l1) {r:Tb.Rw} (hb:0 < r.b):cv (Tb.jR l0 l1 r)=(if V (l0,l1) < cv r then V (l0,l1) else cv r) /\ (Tb.jR l0 l1 r).w=r.w:=by
 have e:=Qq (x:=(l0,l1)) (y:=(r.t,r.b)) hl hb
 have e:l0 * r.b < r.t * l1 ↔ V (l0,l1) < cv r:=e
 unfold Tb.jR
 by_cases h:l0 * r.b < r.t * l1
 ·rw [if_pos h,if_pos (e.mp h)]
  exact ⟨rfl,rfl⟩
 ·rw [if_neg h,if_neg (fun z=>h (e.mpr z))]
  exact ⟨rfl,rfl⟩
theorem FP {l0 l1:Int} (hl:0 < l1) {l:Rat}:∀ {ys:List Tb.Rw},(∀ r ∈ ys,0 < r.b)->up l (ys.map (Tb.jR l0 l1))=(if l < V (l0,l1) then up l ys - up (V (l0,l1)) ys else 0) /\ eE (ys.map (Tb.jR l0 l1))=eE ys
 | [],_=>by
  constructor
  ·simp only [List.map_nil,uX]; split <;> grind
  ·rfl
 | r :: ys,h=>by
  obtain ⟨a,b⟩:=FP (l0:=l0) hl (l:=l) (ys:=ys) fun x hx=>h x (List.mem_cons_of_mem _ hx)
  obtain ⟨c,d⟩:=RC (l0:=l0) hl (h r List.mem_cons_self)
  rw [List.map_cons,jK,jN,a,b,c,d,jN,jK,jK]
  refine ⟨?_,rfl⟩
  unfold Az
  by_cases h1:l < V (l0,l1)
  ·rw [if_pos h1,if_pos h1]
   by_cases h2:V (l0,l1) < cv r
   ·simp only [if_pos h2]
    rw [if_pos h1,if_pos (show l < cv r by grind)]
    grind
   ·simp only [if_neg h2]
    by_cases h3:l < cv r
    ·rw [if_pos h3]; grind
    ·rw [if_neg h3]; grind
  ·rw [if_neg h1,if_neg h1]
   have:¬ l < (if V (l0,l1) < cv r then V (l0,l1) else cv r):=by split <;> grind
   rw [if_neg this]
   grind
theorem RB {B l0 l1:Int} (hB:0 < B) (hl:0 < l1):∀ {ys:List Tb.Rw},(∀ r ∈ ys,0 < r.b /\ r.b ∣ B)->((Tb.S B l0 l1 ys:Int):Rat)=(B:Rat) * (l1:Rat) * up (V (l0,l1)) ys
 | [],_=>by rw [uX]; show ((0:Int):Rat)=_; push_cast; grind
 | r :: ys,h=>by
  have a:=RB (l0:=l0) hB hl (ys:=ys) fun x hx=>h x (List.mem_cons_of_mem _ hx)
  obtain ⟨hb,dv⟩:=h r List.mem_cons_self
  have tm:=Tb.Gm hb hB dv
  have ai:=Tb.Hj (l0:=l0) (l1:=l1) hb hB dv
  have e:=Qq (x:=(l0,l1)) (y:=(r.t,r.b)) hl hb
  have e:l0 * r.b < r.t * l1 ↔ V (l0,l1) < cv r:=e
  have n1:=kO hB
  have n2:=kO hl
  have n3:=kO hb
  have tm':((Tb.T B r:Int):Rat) * (r.b:Rat)=(r.t:Rat) * (B:Rat):=by exact_mod_cast tm
  rw [Tb.uK,jK]
  push_cast
  rw [a]
  unfold Tb.mx Az
  by_cases c:V (l0,l1) < cv r
  ·rw [if_pos (ai.mpr (e.mpr c)),if_pos c]
   push_cast
   unfold V cv
   have t2:((Tb.T B r:Int):Rat)=(r.t:Rat) * (B:Rat) / (r.b:Rat):=by grind
   rw [t2]
   grind
  ·rw [if_neg (fun z=>c (e.mp (ai.mp z))),if_neg c]
   push_cast
   grind
structure LvR (p:Int) (L:Rat) (ys:List Tb.Rw):Prop where
 has:up L ys=(p:Rat) * eE ys
 more:∀ m:Rat,m < L->(p:Rat) * eE ys < up m ys
theorem OJ (m:Rat):V (m.num,(m.den:Int))=m:=by
 unfold V
 show (m.num:Rat) / ((m.den:Int):Rat)=m
 rw [<- Rat.divInt_eq_div,Rat.num_divInt_den]
theorem Q7 {B p l0 l1:Int}{ys:List Tb.Rw} (hB:0 < B) (h:∀ r ∈ ys,0 < r.b /\ r.b ∣ B) (L:Tb.Lv B (p * Tb.W ys * B) l0 l1 ys):LvR p (V (l0,l1)) ys:=by
 have n1:=kO hB
 have n2:=kO L.pos
 have q1:=iK hB
 constructor
 ·have a:=RB (l0:=l0) hB L.pos h
  rw [L.has] at a
  push_cast at a
  rw [vQ]
  grind
 ·intro m hm
  have mp:(0:Int) < (m.den:Int):=by exact_mod_cast m.den_pos
  have lt:=(Qq (x:=(m.num,(m.den:Int))) (y:=(l0,l1)) mp L.pos).mpr (by rw [OJ]; exact hm)
  have b:=L.more m.num m.den lt
  have a:=RB (l0:=m.num) hB mp h
  rw [OJ] at a
  have b':((p * Tb.W ys * B * (m.den:Int):Int):Rat) < ((Tb.S B m.num m.den ys:Int):Rat):=by exact_mod_cast b
  rw [a] at b'
  push_cast at b'
  have q2:=iK mp
  push_cast at q2
  have q3:(0:Rat) < (B:Rat) * (m.den:Rat):=Rat.mul_pos q1 q2
  rw [vQ]
  by_cases z:(p:Rat) * ((Tb.W ys:Int):Rat) < up m ys
  ·exact z
  ·have:=Rat.mul_le_mul_of_nonneg_right (Rat.not_lt.mp z) (c:=(B:Rat) * (m.den:Rat)) (by grind)
   grind
end Sd
namespace Sd
open TD
structure Mt (s:Sd) (d:Nat) (lv:Int × Int) (ys:List Tb.Rw):Prop where
 a:∀ n,d < n->∀ l:Rat,(rb l n s - l) * eE ys=up l ys
 b:∀ l:Rat,0 < up l ys ↔ l < V lv
 c:∀ n,d < n->Ys (V lv) n s=V lv
 t:0 < eE ys
inductive Al (d:Nat):List iZ->List (Int × Sd)->Prop
 | nil:Al d [] []
 | cons {e:iZ}{t:Int × Sd}{es:List iZ}{rs:List (Int × Sd)} (w:e.w=t.1) (m:∃ lv,Mt t.2 d lv (dX e.ys)) (h:Al d es rs):Al d (e :: es) (t :: rs)
theorem Al.snoc {d:Nat}{es:List iZ}{rs:List (Int × Sd)} (h:Al d es rs) {e:iZ}{t:Int × Sd} (w:e.w=t.1) (m:∃ lv,Mt t.2 d lv (dX e.ys)):Al d (es ++ [e]) (rs ++ [t]):=by
 induction h with
 | nil=>exact .cons w m .nil
 | cons w' m' _ ih=>exact .cons w' m' ih
theorem Bj (l:Rat) (k:Int):∀ ys:List dJ,up l (ys.map fun y=>⟨y.t,y.b,k * y.w⟩)=(k:Rat) * up l (dX ys) /\ eE (ys.map fun y=>(⟨y.t,y.b,k * y.w⟩ : Tb.Rw))=(k:Rat) * eE (dX ys)
 | []=>by
  constructor
  ·show (0:Rat)=(k:Rat) * 0; grind
  ·show (0:Rat)=(k:Rat) * 0; grind
 | y :: ys=>by
  obtain ⟨a,b⟩:=Bj l k ys
  have e:dX (y :: ys)=y.r :: dX ys:=rfl
  rw [List.map_cons,jK,jN,a,b,e,jK,jN]
  have e2:cv y.r=cv ⟨y.t,y.b,k * y.w⟩:=rfl
  have e3:y.r.w=y.w:=rfl
  rw [e2,e3]
  push_cast
  constructor <;> grind
theorem Kw {S:Int}{d n:Nat} (hn:d < n) (l:Rat) {es:List iZ}{rs:List (Int × Sd)} (al:Al d es rs):(∀ e ∈ es,1 <= cN e.ys /\ cN e.ys ∣ S) ->
  up l (cH S es)=(S:Rat) * (rs.map fun t=>(t.1:Rat) * (rb l n t.2 - l)).sum /\ eE (cH S es)=(S:Rat) * ((iB rs:Int):Rat):=by
 induction al with
 | nil =>
  intro _
  constructor
  ·show (0:Rat)=(S:Rat) * 0; grind
  ·show (0:Rat)=(S:Rat) * ((0:Int):Rat); push_cast; grind
 | @cons e t es rs w m _ ih =>
  intro h
  obtain ⟨a,b⟩:=ih fun x hx=>h x (List.mem_cons_of_mem _ hx)
  obtain ⟨h1,h2⟩:=h e List.mem_cons_self
  obtain ⟨lv,mt⟩:=m
  have ef:=zO h1 h2
  have ew:eE (dX e.ys)=((cN e.ys:Int):Rat):=by rw [vQ,qQ]
  have ef':((qH S e:Int):Rat) * eE (dX e.ys)=(t.1:Rat) * (S:Rat):=by
   rw [ew,<- w]
   exact_mod_cast ef
  have ma:=mt.a n hn l
  have pe:cH S (e :: es)=(e.ys.map fun y=>(⟨y.t,y.b,qH S e * y.w⟩ : Tb.Rw)) ++ cH S es:=rfl
  obtain ⟨u1,u2⟩:=Bj l (qH S e) e.ys
  have wt:iB (t :: rs)=t.1 + iB rs:=by unfold iB; rw [List.map_cons,List.sum_cons]
  rw [pe,Ik,DX,u1,u2,a,b,List.map_cons,List.sum_cons,wt,<- ma,ef']
  push_cast
  constructor
  ·have:((qH S e:Int):Rat) * ((rb l n t.2 - l) * eE (dX e.ys))=(rb l n t.2 - l) * (((qH S e:Int):Rat) * eE (dX e.ys)):=by grind
   rw [this,ef']
   grind
  ·grind
theorem Dm (W l:Rat) (n:Nat):∀ (rs:List (Int × Sd)) (z:Rat),rs.foldl (fun a r=>a + (r.1:Rat) / W * rb l n r.2) z=z + (rs.map fun r=>(r.1:Rat) / W * rb l n r.2).sum
 | [],z=>by show z=z + 0; grind
 | r :: rs,z=>by rw [List.foldl_cons,Dm W l n rs,List.map_cons,List.sum_cons]; grind
theorem xO {W:Rat} (hW:W ≠ 0) (l:Rat) (n:Nat):∀ rs:List (Int × Sd),(rs.map fun r=>(r.1:Rat) / W * rb l n r.2).sum=(rs.map fun t=>(t.1:Rat) * (rb l n t.2 - l)).sum / W + l * ((iB rs:Int):Rat) / W
 | []=>by show (0:Rat)=0 / W + l * ((0:Int):Rat) / W; push_cast; grind
 | r :: rs=>by
  have wt:iB (r :: rs)=r.1 + iB rs:=by unfold iB; rw [List.map_cons,List.sum_cons]
  rw [List.map_cons,List.sum_cons,xO hW l n rs,List.map_cons,List.sum_cons,wt]
  push_cast
  grind
theorem RD {p:Int}{rs:List (Int × Sd)} (hW:0 < iB rs) (l:Rat) (n:Nat):Ys l (n + 1) (.st p rs)=l - (p:Rat) + (rs.map fun t=>(t.1:Rat) * (rb l n t.2 - l)).sum / ((iB rs:Int):Rat):=by
 have ne:=kO hW
 show rs.foldl (fun a r=>a + (r.1:Rat) / (iB rs:Rat) * rb l n r.2) (-(p:Rat))=_
 rw [Dm,xO ne]
 grind
theorem Uw (v:Int) (d:Nat):Mt (.en v) d (v,1) [⟨v,1,1⟩]:=by
 have e1:V (v,1)=(v:Rat):=by unfold V; push_cast; grind
 have e2:cv ⟨v,1,1⟩ = (v:Rat):=e1
 have e3:eE [⟨v,1,1⟩]=1:=by rw [jN]; show ((1:Int):Rat) + 0=1; push_cast; grind
 have e4:∀ l:Rat,up l [⟨v,1,1⟩]=Az l (v:Rat) - l:=fun l=>by rw [jK,e2,uX]; push_cast; grind
 refine ⟨fun n hn l=>?_,fun l=>?_,fun n hn=>?_,by rw [e3]; grind⟩
 ·obtain ⟨n,rfl⟩ : ∃ k,n=k + 1:=⟨n - 1,by omega⟩
  rw [e3,e4]
  show (Az l (v:Rat) - l) * 1=_
  grind
 ·rw [e4,e1]
  unfold Az
  split <;> grind
 ·obtain ⟨n,rfl⟩ : ∃ k,n=k + 1:=⟨n - 1,by omega⟩
  rw [e1]
  rfl
theorem Xq {d:Nat}{es:List iZ}{rs:List (Int × Sd)}{S p:Int}{lv:Int × Int}{ys zs:List Tb.Rw} (al:Al d es rs) (hS:0 < S) (hd:∀ e ∈ es,1 <= cN e.ys /\ cN e.ys ∣ S) (hW:0 < iB rs) (o:Tb.DP (cH S es) ys) (ne:ys ≠ []) (hw:∀ r ∈ ys,1 <= r.w) (hb:∀ r ∈ ys,0 < r.b)
  (lp:0 < lv.2) (L:LvR p (V lv) ys) (o2:Tb.DP (ys.map (Tb.jR lv.1 lv.2)) zs):Mt (.st p rs) (d + 1) lv zs:=by
 obtain ⟨k1,k1p,u1,t1⟩:=BL o
 obtain ⟨k2,k2p,u2,t2⟩:=BL o2
 have Tp:=Jo ne hw
 have Wp:=iK hW
 have Sp:=iK hS
 obtain ⟨_,tc⟩:=FP (l0:=lv.1) lp (l:=0) hb
 have t2':eE ys=k2 * eE zs:=by rw [<- tc,t2]
 have op:∀ n,d < n->∀ l:Rat,Ys l (n + 1) (.st p rs)=l - (p:Rat) + up l ys / eE ys:=fun n hn l=>by
  obtain ⟨a,b⟩:=Kw hn l al hd
  rw [RD hW]
  rw [u1] at a
  rw [t1] at b
  have n1:((iB rs:Int):Rat) ≠ 0:=by grind
  have n2:eE ys ≠ 0:=by grind
  have n3:(S:Rat) ≠ 0:=by grind
  have n4:k1 ≠ 0:=by grind
  have c:(rs.map fun t=>(t.1:Rat) * (rb l n t.2 - l)).sum * eE ys=up l ys * ((iB rs:Int):Rat):=by
   have e1:(S:Rat) * ((rs.map fun t=>(t.1:Rat) * (rb l n t.2 - l)).sum * eE ys) * k1=(S:Rat) * (up l ys * ((iB rs:Int):Rat)) * k1:=by grind
   grind
  grind
 have cap:∀ l:Rat,k2 * up l zs=if l < V lv then up l ys - (p:Rat) * eE ys else 0:=fun l=>by
  rw [<- u2,(FP (l0:=lv.1) lp (l:=l) hb).1]
  show (if l < V lv then up l ys - up (V lv) ys else 0)=_
  rw [L.has]
 have key:∀ l:Rat,(Az l (l - (p:Rat) + up l ys / eE ys) - l) * eE ys=if l < V lv then up l ys - (p:Rat) * eE ys else 0:=fun l=>by
  have n2:eE ys ≠ 0:=by grind
  have q:up l ys / eE ys * eE ys=up l ys:=by grind
  by_cases h:l < V lv
  ·have m:=L.more l h
   have g:(p:Rat) < up l ys / eE ys:=by
    by_cases z:(p:Rat) < up l ys / eE ys
    ·exact z
    ·have:=Rat.mul_le_mul_of_nonneg_right (Rat.not_lt.mp z) (c:=eE ys) (by grind)
     grind
   unfold Az
   rw [if_pos h,if_pos (by grind)]
   grind
  ·have m:=GX (l:=V lv) (l':=l) (by grind) hw
   rw [L.has] at m
   have g:¬ (p:Rat) < up l ys / eE ys:=fun z=>by
    have:=Rat.mul_lt_mul_of_pos_right z Tp
    grind
   unfold Az
   rw [if_neg h,if_neg (by grind)]
   grind
 have tz:0 < eE zs:=by
  by_cases z:0 < eE zs
  ·exact z
  ·have:=Rat.mul_le_mul_of_nonneg_left (Rat.not_lt.mp z) (c:=k2) (by grind)
   grind
 refine ⟨fun n hn l=>?_,fun l=>?_,fun n hn=>?_,tz⟩
 ·obtain ⟨n,rfl⟩ : ∃ k,n=k + 1:=⟨n - 1,by omega⟩
  rw [QL,op n (by omega) l]
  have a:=key l
  rw [<- cap l,t2'] at a
  have n4:k2 ≠ 0:=by grind
  rw [t2']
  grind
 ·have c:=cap l
  have n4:k2 ≠ 0:=by grind
  by_cases h:l < V lv
  ·have m:=L.more l h
   rw [if_pos h] at c
   refine ⟨fun _=>h,fun _=>?_⟩
   by_cases z:0 < up l zs
   ·exact z
   ·have:=Rat.mul_le_mul_of_nonneg_left (Rat.not_lt.mp z) (c:=k2) (by grind)
    grind
  ·rw [if_neg h] at c
   refine ⟨fun z=>?_,fun z=>absurd z h⟩
   have:=Rat.mul_lt_mul_of_pos_left z k2p
   grind
 ·obtain ⟨n,rfl⟩ : ∃ k,n=k + 1:=⟨n - 1,by omega⟩
  rw [op n (by omega),L.has]
  have n2:eE ys ≠ 0:=by grind
  grind
def Rv (s:Sd) (d:Nat) (lv:Int × Int):Prop:=∃ ys,Mt s d lv ys
theorem Rv.iff {s:Sd}{d:Nat}{lv:Int × Int} (h:Rv s d lv) {n:Nat} (hn:d < n) (l:Rat):l < V lv ↔ l < rb l n s:=by
 obtain ⟨ys,m⟩:=h
 rw [<- m.b l,<- m.a n hn l]
 have t:=m.t
 constructor
 ·intro z
  by_cases y:l < rb l n s
  ·exact y
  ·have:=Rat.mul_le_mul_of_nonneg_right (a:=rb l n s - l) (b:=0) (c:=eE ys) (by grind) (by grind)
   grind
 ·intro z
  exact Rat.mul_pos (by grind) t
theorem M4 {a b:Rat} (h:∀ l:Rat,l < a ↔ l < b):a=b:=by
 have h1:=h a
 have h2:=h b
 grind
theorem Rv.one {s:Sd}{d:Nat}{lv lw:Int × Int} (h:Rv s d lv) (h':Rv s d lw) (f:Fr.jJ lv.1 lv.2) (f':Fr.jJ lw.1 lw.2):lv=lw :=
 YW f f' (M4 fun l=>(h.iff (Nat.lt_succ_self d) l).trans (h'.iff (Nat.lt_succ_self d) l).symm)
end Sd
namespace Sd
structure Lw (l:Int × Int):Prop where
 fr:Fr.jJ l.1 l.2
 b:l.2 <= 2 ^ 1500
 lo:-(2 ^ 1530 * l.2) <= l.1
 hi:l.1 <= 2 ^ 1530 * l.2
theorem p30:(1000000000:Int) <= 2 ^ 1530:=by decide +kernel
theorem Lw.fq {l:Int × Int} (h:Lw l):FQ l l.2 (2 ^ 1530):=⟨h.fr,Int.dvd_refl _,h.lo,h.hi⟩
theorem Lv.lw {l:Int × Int} (h:Lv l):Lw l:=by
 have p:=h.fr.pos
 have e:(2147483648:Int) <= 2 ^ 1530:=by decide +kernel
 have f:=jW e (Int.le_of_lt p)
 have:=h.lo
 have:=h.hi
 exact ⟨h.fr,Int.le_trans h.b (eY (by decide)),by omega,by omega⟩
end Sd
namespace TD
open PySem L2
open Builtin.Int (intBits)
theorem SM {x:Int × Int}{N k:Int} (f:Sd.FQ x N k) (hN:0 < N) (hn:N <= 2 ^ 2200) (k0:0 <= k) (hk:k <= 2 ^ 1600):Z4 x:=by
 have h:=pO f hN hn k0 hk
 exact ⟨by omega,by omega,f.fr.pos⟩
theorem Nj {l:Int × Int} (h:Sd.Lw l):Z4 l:=SM h.fq h.fr.pos (Int.le_trans h.b (Sd.eY (by decide))) (Int.le_of_lt (Sd.cL _)) (Sd.eY (by decide))
end TD
namespace Sd
open TD
end Sd
namespace Sd
def nE:Nat->Sd->Int
 | 0,_=>0
 | _ + 1,.en _=>1
 | n + 1,.st _ rs=>(rs.map fun r=>nE n r.2).sum
def Lb (l:List Int):Int:=l.foldl max 0
def nS:Nat->Sd->Int
 | 0,_=>0
 | _ + 1,.en _=>0
 | n + 1,.st _ rs=>1 + Lb (rs.map fun r=>nS n r.2)
theorem mR:∀ (l:List Int) (a:Int),a <= l.foldl max a /\ (∀ x ∈ l,x <= l.foldl max a) /\ (l.foldl max a=a ∨ l.foldl max a ∈ l)
 | [],a=>⟨Int.le_refl _,(fun _ h=>nomatch h),.inl rfl⟩
 | y :: l,a=>by
  obtain ⟨h1,h2,h3⟩:=mR l (max a y)
  rw [List.foldl_cons]
  refine ⟨by omega,fun x hx=>?_,?_⟩
  ·rcases List.mem_cons.mp hx with e | e
   ·subst e; omega
   ·exact h2 x e
  ·rcases h3 with e | e
   ·rw [e]
    by_cases z:a <= y
    ·right; rw [show max a y=y by omega]; exact List.mem_cons_self
    ·left; omega
   ·exact .inr (List.mem_cons_of_mem _ e)
theorem Qk {l:List Int}{M:Int} (h0:∀ x ∈ l,0 <= x) (hm:M ∈ l) (hx:∀ x ∈ l,x <= M):M=Lb l:=by
 obtain ⟨h1,h2,h3⟩:=mR l 0
 have a:=h2 M hm
 unfold Lb
 rcases h3 with e | e
 ·have:=h0 M hm
  omega
 ·have:=hx _ e
  omega
theorem Ok.nE {s:Sd}{d m:Nat} (ok:Ok s d m):∀ n,d < n->nE n s <= (m:Int):=by
 induction ok with
 | en _ _ hm=>intro n hn; obtain ⟨n,rfl⟩ : ∃ k,n=k + 1:=⟨n - 1,by omega⟩; show (1:Int) <= _; omega
 | @st p rs d m k h0 h9 ne l4 w sub hk ih =>
  intro n hn
  obtain ⟨n,rfl⟩ : ∃ k,n=k + 1:=⟨n - 1,by omega⟩
  show (rs.map fun r=>Sd.nE n r.2).sum <= _
  have key:∀ l:List (Int × Sd),(∀ r ∈ l,r ∈ rs)->(l.map fun r=>Sd.nE n r.2).sum <= (((l.map k).sum:Nat):Int):=by
   intro l
   induction l with
   | nil=>intro _; exact Int.le_refl _
   | cons r l ih2 =>
    intro h
    have a:=ih2 fun x hx=>h x (List.mem_cons_of_mem _ hx)
    have b:=ih r (h r List.mem_cons_self) n (by omega)
    rw [List.map_cons,List.sum_cons,List.map_cons,List.sum_cons]
    push_cast
    omega
  have a:=key rs fun r hr=>hr
  omega
end Sd
namespace TD
open PySem L2
open Builtin.Int (intBits)
structure Cs where
 e:Addr
 s:Addr
def fB (n k:Int) (l cp:Addr):List (Str × V):=[("end_count",.int n),("stage_count",.int k),("level",.ref l),("cap_rows",.ref cp)]
def fE (n k:Int) (l cp:Addr) (v:Int):List (Str × V):=[("end_count",.int n),("stage_count",.int k),("level",.ref l),("cap_rows",.ref cp),("worth",.int v)]
def fS (n k:Int) (l cp:Addr) (p:Int) (r:Addr):List (Str × V):=[("end_count",.int n),("stage_count",.int k),("level",.ref l),("cap_rows",.ref cp),("price",.int p),("rows",.ref r)]
structure PL (H:Hp) (l cp:Addr) (s:Sd.Sd) (lq:Int × Int) (xs:List dJ) (n k:Int) (d m:Nat):Prop where
 lv:Tq H l lq
 caps:Dj H cp xs
 gs:Hy xs d m
 so:(dX xs).Pairwise Tb.Lt
 n1:1 <= n
 nm:n <= (m:Int)
 k0:0 <= k
 kd:k <= (d:Int)
 mt:Sd.Mt s d lq (dX xs)
 lw:Sd.Lw lq
 nx:n=Sd.nE (d + 1) s
 kx:k=Sd.nS (d + 1) s
inductive d7 (c:Cs) (H:Hp):Addr->Sd.Sd->Nat->Nat->Prop
 | en {x dx l cp:Addr}{v n k:Int}{d m:Nat}{xs:List dJ} (h:H x=some (.ins c.e dx (fE n k l cp v))) (vv:PL H l cp (.en v) (v,1) xs n k d m) (ok:Sd.Ok (.en v) d m):d7 c H x (.en v) d m
 | st {x dx l cp r:Addr}{p n k:Int}{lv:Int × Int}{d m:Nat}{j:Int × Sd.Sd->Nat}{xs:List dJ}{rs:List (Int × Sd.Sd)}{ps ys:List Addr} (h:H x=some (.ins c.s dx (fS n k l cp p r))) (vv:PL H l cp (.st p rs) lv xs n k (d + 1) m) (g:H r=some (.tup (ps.map V.ref)))
   (lp:ps.length=rs.length) (ly:ys.length=rs.length) (row:∀ (i:Nat) q y t,ps[i]? = some q->ys[i]? = some y->rs[i]? = some t->H q=some (.tup [.int t.1,.ref y])) (sub:∀ (i:Nat) y t,ys[i]? = some y->rs[i]? = some t->d7 c H y t.2 d (j t))
   (p0:0 <= p) (p9:p <= 1000000000) (ne:rs ≠ []) (l4:rs.length <= 4) (w:∀ r ∈ rs,1 <= r.1 /\ r.1 <= 1000) (hk:(rs.map j).sum <= m):d7 c H x (.st p rs) (d + 1) m
def Kp (H H':Hp):Prop:=∀ b o,H b=some o->(∀ ps,o ≠ .tbl ps)->(∀ C dx,o ≠ .ins C dx [])->H' b=some o
theorem aM.kp {H H':Hp} (s:aM H H'):Kp H H':=fun b o h _ _=>s b o h
theorem cD.kp {P:Addr}{pos:Pos}{qual:Str}{H H':Hp} (s:cD P H H') (t:fJ P pos qual H):Kp H H':=fun b o h n _=>s.get t h n
theorem Kp.trans {H H1 H2:Hp} (a:Kp H H1) (b:Kp H1 H2):Kp H H2:=fun c o h n m=>b c o (a c o h n m) n m
theorem Kp.tup {H H':Hp} (k:Kp H H') {b:Addr}{xs:List V} (h:H b=some (.tup xs)):H' b=some (.tup xs):=k _ _ h (fun _ z=>nomatch z) (fun _ _ z=>nomatch z)
theorem Kp.ins {H H':Hp} (k:Kp H H') {b C dx:Addr}{f:Str × V}{fs:List (Str × V)} (h:H b=some (.ins C dx (f :: fs))):H' b=some (.ins C dx (f :: fs)):=k _ _ h (fun _ z=>nomatch z) (fun _ _ z=>by injection z with _ _ z; exact nomatch z)
theorem Kp.lst {H H':Hp} (k:Kp H H') {b:Addr}{xs:List V} (h:H b=some (.lst xs)):H' b=some (.lst xs):=k _ _ h (fun _ z=>nomatch z) (fun _ _ z=>nomatch z)
theorem jY.kp {H H':Hp}{x:dJ} (s:Kp H H') (h:jY H x):jY H' x:=⟨s.tup h.1,s.tup h.2⟩
theorem Dj.kp {H H':Hp}{a:Addr}{xs:List dJ} (s:Kp H H') (h:Dj H a xs):Dj H' a xs:=⟨s.tup h.1,fun x hx=>(h.2 x hx).kp s⟩
theorem gD.kp {H H':Hp}{a:Addr}{xs:List dJ} (s:Kp H H') (h:gD H a xs):gD H' a xs:=⟨s.lst h.lst,fun x hx=>(h.rows x hx).kp s⟩
theorem PL.kp {H H':Hp}{l cp:Addr}{sd:Sd.Sd}{lv:Int × Int}{xs:List dJ}{n k:Int}{d m:Nat} (s:Kp H H') (h:PL H l cp sd lv xs n k d m):PL H' l cp sd lv xs n k d m:=⟨s.tup h.lv,h.caps.kp s,h.gs,h.so,h.n1,h.nm,h.k0,h.kd,h.mt,h.lw,h.nx,h.kx⟩
theorem d7.kp {c:Cs}{H H':Hp}{x:Addr}{s:Sd.Sd}{d m:Nat} (h:d7 c H x s d m) (k:Kp H H'):d7 c H' x s d m:=by
 induction h with
 | en h vv ok=>exact .en (k.ins h) (vv.kp k) ok
 | st h vv g lp ly row sub p0 p9 ne l4 w hk ih=>exact .st (k.ins h) (vv.kp k) (k.tup g) lp ly (fun i q y t a b c=>k.tup (row i q y t a b c)) ih p0 p9 ne l4 w hk
theorem d7.same {c:Cs}{H H':Hp}{x:Addr}{s:Sd.Sd}{d m:Nat} (k:aM H H') (h:d7 c H x s d m):d7 c H' x s d m:=h.kp (aM.kp k)
theorem K7 {α β : Type}{ys:List α}{rs:List β} (l:ys.length=rs.length) {r:β} (h:r ∈ rs):∃ (i:Nat) (y:α),ys[i]? = some y /\ rs[i]? = some r:=by
 obtain ⟨i,hi,e⟩:=List.getElem_of_mem h
 exact ⟨i,ys[i]'(by omega),List.getElem?_eq_getElem _,by rw [List.getElem?_eq_getElem hi,e]⟩
theorem d7.ok {c:Cs}{H:Hp}{x:Addr}{s:Sd.Sd}{d m:Nat} (h:d7 c H x s d m):Sd.Ok s d m:=by
 induction h with
 | en _ _ ok=>exact ok
 | st h vv g lp ly row sub p0 p9 ne l4 w hk ih=>exact .st p0 p9 ne l4 w (fun r hr=>by obtain ⟨i,y,a,b⟩:=K7 ly hr; exact ih i y r a b) hk
inductive fK (H:Hp):Addr->Sd.Sd->Prop
 | en {a:Addr}{v:Int} (h:H a=some (.tup [.str "end",.int v])):fK H a (.en v)
 | st {a r:Addr}{p:Int}{rs:List (Int × Sd.Sd)}{ps ys:List Addr} (h:H a=some (.tup [.str "stage",.int p,.ref r])) (g:H r=some (.tup (ps.map V.ref))) (lp:ps.length=rs.length) (ly:ys.length=rs.length)
   (row:∀ (i:Nat) q y t,ps[i]? = some q->ys[i]? = some y->rs[i]? = some t->H q=some (.tup [.int t.1,.ref y])) (sub:∀ (i:Nat) y t,ys[i]? = some y->rs[i]? = some t->fK H y t.2):fK H a (.st p rs)
theorem fK.keep {H H':Hp}{a:Addr}{s:Sd.Sd} (h:fK H a s) (k:∀ b xs,H b=some (.tup xs)->H' b=some (.tup xs)):fK H' a s:=by
 induction h with
 | en h=>exact .en (k _ _ h)
 | st h g lp ly row sub ih=>exact .st (k _ _ h) (k _ _ g) lp ly (fun i q y t a b c=>k _ _ (row i q y t a b c)) ih
theorem fK.kp {H H':Hp}{a:Addr}{s:Sd.Sd} (h:fK H a s) (k:Kp H H'):fK H' a s:=h.keep fun b xs e=>k.tup e
theorem fK.same {H H':Hp}{a:Addr}{s:Sd.Sd} (k:aM H H') (h:fK H a s):fK H' a s:=h.keep fun b xs e=>k _ _ e
structure CK (K:PySem.W.Frag) (c:Cs):Prop where
 ce:Av K c.e
 cs:Av K c.s
 e1:cG K c.e "end_count"
 e2:cG K c.e "stage_count"
 e3:cG K c.e "level"
 e4:cG K c.e "cap_rows"
 e5:cG K c.e "worth"
 s1:cG K c.s "end_count"
 s2:cG K c.s "stage_count"
 s3:cG K c.s "level"
 s4:cG K c.s "cap_rows"
 s5:cG K c.s "price"
 s6:cG K c.s "rows"
structure CT (K:PySem.W.Frag) (c:Cs):Prop where
 hn:PySem.W.specialIn K (.builtin "object.__class__") "__get__" = some (some (.builtin "getset_descriptor.__get__"))
 htk:PySem.W.takesIn K (.builtin "object.__class__")=some true
 ea:PySem.W.findIn K (.ref c.e) "__class__" = some (some (.builtin "object.__class__"))
 em:PySem.W.mroIn K c.e (.type "object")=some true
 sa:PySem.W.findIn K (.ref c.s) "__class__" = some (some (.builtin "object.__class__"))
 sm:PySem.W.mroIn K c.s (.type "object")=some true
 ee:PySem.W.kitOne K (.ref c.e) (.ref c.e)=some true
 se:PySem.W.kitOne K (.ref c.s) (.ref c.e)=some false
 ss:PySem.W.kitOne K (.ref c.s) (.ref c.s)=some true
def JK (c:Cs):Sp:=fun vs H Q _=>∃ (x:Addr) (s:Sd.Sd) (d m:Nat),vs=[.ref x] /\ d7 c H x s d m /\ ∀ n:Int,1 <= n->n <= (m:Int)->n=Sd.nE (d + 1) s->Q (.int n) H
def Jx (c:Cs):Sp:=fun vs H Q _=>∃ (x:Addr) (s:Sd.Sd) (d m:Nat),vs=[.ref x] /\ d7 c H x s d m /\ ∀ k:Int,0 <= k->k <= (d:Int)->k=Sd.nS (d + 1) s->Q (.int k) H
def JZ (c:Cs):Sp:=fun vs H Q _=>∃ (x:Addr) (s:Sd.Sd) (d m:Nat),vs=[.ref x] /\ d7 c H x s d m /\ ∀ (r:Addr) (H':Hp) (xs:List dJ),aM H H'->H r=none->gD H' r xs->Hy xs d m->(dX xs).Pairwise Tb.Lt->(∃ lv,Sd.Mt s d lv (dX xs) /\ Sd.Lw lv)->Q (.ref r) H'
def Jp (c:Cs):Sp:=fun vs H Q _=>∃ (x:Addr) (s:Sd.Sd) (d m:Nat),vs=[.ref x] /\ d7 c H x s d m /\ ∀ l lv,Tq H l lv->Sd.Lw lv->Sd.Rv s d lv->Q (.ref l) H
def K5 (c:Cs):Sp:=fun vs H Q _=>∃ (x dx C l a:Addr) (n k:Int) (xs:List dJ),vs=[.ref x,.int n,.int k,.ref l,.ref a] /\ (C=c.e ∨ C=c.s) /\ H x=some (.ins C dx []) /\ gD H a xs ∧
 ∀ (cp:Addr) (H':Hp),H cp=none->(∀ b o,b ≠ x->H b=some o->H' b=some o)->H' x=some (.ins C dx (fB n k l cp))->H' cp=some (.tup (jZ xs))->Q .non H'
structure qT (c:Cs) (H:Hp) (ps ys:List Addr) (rs:List (Int × Sd.Sd)) (d:Nat) (j:Int × Sd.Sd->Nat):Prop where
 lp:ps.length=rs.length
 ly:ys.length=rs.length
 row:∀ (i:Nat) q y t,ps[i]? = some q->ys[i]? = some y->rs[i]? = some t->H q=some (.tup [.int t.1,.ref y])
 sub:∀ (i:Nat) y t,ys[i]? = some y->rs[i]? = some t->d7 c H y t.2 d (j t)
theorem qT.kp {c:Cs}{H H':Hp}{ps ys:List Addr}{rs:List (Int × Sd.Sd)}{d:Nat}{j:Int × Sd.Sd->Nat} (h:qT c H ps ys rs d j) (k:Kp H H'):qT c H' ps ys rs d j:=⟨h.lp,h.ly,fun i q y t a b e=>k.tup (h.row i q y t a b e),fun i y t a b=>(h.sub i y t a b).kp k⟩
theorem qT.at_ {c:Cs}{H:Hp}{ps ys:List Addr}{rs:List (Int × Sd.Sd)}{d i:Nat}{j:Int × Sd.Sd->Nat}{v:V} (h:qT c H ps ys rs d j) (hv:(ps.map V.ref)[i]? = some v):∃ q y t,ps[i]? = some q /\ ys[i]? = some y /\ rs[i]? = some t /\ v = .ref q /\ H q=some (.tup [.int t.1,.ref y]) /\ d7 c H y t.2 d (j t) /\ t ∈ rs:=by
 rw [List.getElem?_map] at hv
 cases e:ps[i]? with
 | none=>rw [e] at hv; cases hv
 | some q =>
  rw [e] at hv
  cases hv
  have hi:=(List.getElem?_eq_some_iff.mp e).1
  have l1:=h.lp
  have l2:=h.ly
  have ey:ys[i]? = some (ys[i]'(by omega)):=List.getElem?_eq_getElem _
  have er:rs[i]? = some (rs[i]'(by omega)):=List.getElem?_eq_getElem _
  exact ⟨q,_,_,rfl,ey,er,rfl,h.row i q _ _ e ey er,h.sub i _ _ ey er,List.mem_of_getElem? er⟩
def Ue (c:Cs):Sp:=fun vs H Q _=>∃ (x:Addr) (p:Int) (rs:List (Int × Sd.Sd)) (d m i:Nat) (t:Int × Sd.Sd),vs=[.ref x,.int (i:Int)] /\ d7 c H x (.st p rs) (d + 1) m /\ rs[i]? = some t /\ ∀ (y:Addr) (j:Nat),j <= m->d7 c H y t.2 d j->Q (.ref y) H
theorem Ov {p q:Addr}{v:Int}{d m:Nat} (h0:0 <= v) (h9:v <= 1000000000) (hm:1 <= m):Hy [⟨p,q,v,1,1⟩] d m:=by
 have e:bT [⟨p,q,v,1,1⟩]=1:=by show dY [1]=1; decide
 have w1:cN [(⟨p,q,v,1,1⟩ : dJ)]=1:=rfl
 have wp:=Sd.cL ((12 * d + 1) * m)
 have bp:=Sd.cL (be d * m)
 have k9:=k30 d
 unfold Hy
 rw [e]
 refine ⟨⟨by simp,by show 1 <= m; exact hm,fun x hx=>?_,by rw [w1]; unfold wB; omega,by decide,fun x hx=>?_⟩,by omega⟩
 ·rw [List.mem_singleton.mp hx]; exact Int.le_refl _
 ·rw [List.mem_singleton.mp hx]
  exact ⟨Sd.fr1 v,Int.dvd_refl _,by show -(kK d * 1) <= v; omega,by show v <= kK d * 1; omega⟩
def Dg (x:Addr) (H H':Hp):Prop:=∀ b o,b ≠ x->H b=some o->H' b=some o
theorem Dg.kp {x C dx:Addr}{H H':Hp} (s:Dg x H H') (hx:H x=some (.ins C dx [])):Kp H H':=fun b o h _ n=>s b o (fun e=>by rw [e,hx] at h; cases h; exact n C dx rfl) h
theorem fJ.sameX {P x C dx:Addr}{pos:Pos}{qual:Str}{fs:List (Str × V)}{H H':Hp} (t:fJ P pos qual H) (s:Dg x H H') (hx:H x=some (.ins C dx fs)):fJ P pos qual H':=by
 rcases t with t | ⟨c,t,u⟩
 ·exact .inl (s _ _ (bC t hx fun z=>nomatch z) t)
 ·exact .inr ⟨c,s _ _ (bC t hx fun z=>nomatch z) t,s _ _ (bC u hx fun z=>by unfold u9 at z; exact nomatch z) u⟩
theorem LC {c:Cs}{H H0:Hp}{y:Addr}{s:Sd.Sd}{d m:Nat}{σ : St}{ta:TE}{nm:Str}{sp:Sp}{Q:VK} (st:d7 c H y s d m) (le:∀ n k l cp v,(fE n k l cp v).lookup nm=none) (ls:∀ n k l cp p r,(fS n k l cp p r).lookup nm=none) (hv:∀ R:VK,R (.ref y) H->ta σ H0 R) (q:sp [.ref y] H Q E0) :
  xY c.e nm sp [] E0 ta Dz σ H0 Q ∨ xY c.s nm sp [] E0 ta Dz σ H0 Q:=by
 cases st with
 | en h vv ok=>exact .inl (hv _ ⟨y,_,_,rfl,h,le _ _ _ _ _,q⟩)
 | st h vv g lp ly row sub p0 p9 ne l4 w hk=>exact .inr (hv _ ⟨y,_,_,rfl,h,ls _ _ _ _ _ _,q⟩)
def Gx (K:PySem.W.Frag):Sp:=fun vs H Q _=>∃ (a:Addr) (ns:List Int) (k:Int),vs=[.ref a,.int k] /\ bM K H a (ns.map V.int) /\ 0 <= k /\ ∀ j,Q (.int j) H
def Nz:Sp:=fun vs H Q _=>∃ c k:Int,vs=[.int c,.int k] /\ 0 <= k /\ k <= 100000 /\ ∀ j,0 <= j->j < 2147483587->Q (.int j) H
def pp:Nat->Nat->Nat
 | 0,_=>2
 | d + 1,m=>((List.range 4).map fun i=>if i + 1 <= m then 2 + (i + 1) * (1 + pp d (m / (i + 1))) else 2).foldl max 2
def M3 (c:Cs) (Pt:Addr) (lp:Pos) (n:Nat):Sp:=fun vs H Q _=>∃ (a:Addr) (s:Sd.Sd) (d m:Nat),vs=[.ref a] /\ fK H a s /\ Sd.Ok s d m /\ d < n /\ d <= 4 /\ m <= 12 /\ fJ Pt lp lQ H /\ ∀ (x:Addr) (H':Hp),cD Pt H H'->fJ Pt lp lQ H'->d7 c H' x s d m->Q (.ref x) H'
def tZ (K:PySem.W.Frag) (Pt:Addr) (lp:Pos):Sp:=fun vs H Q _=>∃ (a:Addr) (ns:List Int),vs=[.ref a] /\ bM K H a (ns.map V.int) /\ ns.length <= 63 /\ H Pt=some (.tbl #[]) /\ ∀ H',Q (.bl true) H'
theorem PN {v:Int} (h0:0 <= v) (h9:v <= 1000000000):Sd.Lw (v,1):=by
 have:=Sd.p30
 exact ⟨Sd.fr1 v,Sd.cL 1500,by show -(2 ^ 1530 * 1) <= v; omega,by show v <= 2 ^ 1530 * 1; omega⟩
theorem be4:∀ d,d + 1 <= 4->be (d + 1) <= 125 /\ ka (d + 1) <= 1530
 | 0,_=>by decide
 | 1,_=>by decide
 | 2,_=>by decide
 | 3,_=>by decide
 | d + 4,h=>by omega
theorem Wa {ys:List dJ}{l:Int × Int}{M k:Int}{d m:Nat} (x:Lx ys l M k d m) (hd:d + 1 <= 4) (hm:m <= 12):Sd.Lw l:=by
 obtain ⟨b1,b2⟩:=be4 d hd
 have a:=Int.le_of_dvd x.g.mp x.f.dv
 have e:(2:Int) ^ (be (d + 1) * m) <= 2 ^ 1500:=Sd.eY (Nat.le_trans (Nat.mul_le_mul b1 hm) (by decide))
 have g:k <= 2 ^ 1530:=Int.le_trans x.k (Sd.eY b2)
 have h:=Sd.jW g (Int.le_of_lt x.f.fr.pos)
 have:=x.f.lo
 have:=x.f.hi
 exact ⟨x.f.fr,Int.le_trans a (Int.le_trans x.m e),by omega,by omega⟩
theorem U4 {d:Nat}{es:List iZ}{rs:List (Int × Sd.Sd)}{p:Int}{lv:Int × Int}{ys zs:List dJ}{n:Nat}{W k W0 kk:Int}{k0:Nat} (al:Sd.Al d es rs) (gm:GM es k0 W0 kk) (hW:0 < Sd.iB rs) (o:HY (cH (dY (cX es)) es) ys) (g:GT ys n W (bT ys) k)
  (lp:0 < lv.2) (L:Tb.Lv (bT ys) (p * Tb.W (dX ys) * bT ys) lv.1 lv.2 (dX ys)) (o2:HY ((dX ys).map (Tb.jR lv.1 lv.2)) zs):Sd.Mt (.st p rs) (d + 1) lv (dX zs):=by
 obtain ⟨S1,_,_,S2⟩:=gm.S
 have fr:∀ r ∈ dX ys,0 < r.b /\ r.b ∣ bT ys:=fun r hr=>by
  obtain ⟨y,hy,rfl⟩:=List.mem_map.mp hr
  exact ⟨(g.fq y hy).fr.pos,(g.fq y hy).dv⟩
 refine Sd.Xq al S1 (fun e he=>⟨(gm.g e he).tot,S2 e he⟩) hW o.tab (fun e=>g.ne (List.map_eq_nil_iff.mp e)) (fun r hr=>?_) (fun r hr=>(fr r hr).1) lp (Sd.Q7 g.mp fr L) o2.tab
 obtain ⟨y,hy,rfl⟩:=List.mem_map.mp hr
 exact g.w1 y hy
end TD
namespace TD
open PySem L2
open Builtin.Int (intBits)
inductive Ge (H:Hp):Nat->V->V->Prop
 | int (n:Nat) (i:Int):Ge H n (.int i) (.int i)
 | str (n:Nat) (x:Str):Ge H n (.str x) (.str x)
 | tup {n:Nat}{a b:Addr}{xs ys:List V} (ha:H a=some (.tup xs)) (hb:H b=some (.tup ys)) (l:xs.length=ys.length) (h:∀ (j:Nat) x y,xs[j]? = some x->ys[j]? = some y->Ge H n x y):Ge H (n + 1) (.ref a) (.ref b)
 | lst {n:Nat}{a b:Addr}{xs ys:List V} (ha:H a=some (.lst xs)) (hb:H b=some (.lst ys)) (l:xs.length=ys.length) (h:∀ (j:Nat) x y,xs[j]? = some x->ys[j]? = some y->Ge H n x y):Ge H (n + 1) (.ref a) (.ref b)
theorem Ge.same {H H':Hp} (s:aM H H') {n:Nat}{x y:V} (h:Ge H n x y):Ge H' n x y:=by
 induction h with
 | int n i=>exact .int n i
 | str n x=>exact .str n x
 | tup ha hb l _ ih=>exact .tup (s _ _ ha) (s _ _ hb) l ih
 | lst ha hb l _ ih=>exact .lst (s _ _ ha) (s _ _ hb) l ih
theorem Ge.mono {H:Hp}{n:Nat}{x y:V} (h:Ge H n x y):∀ {m:Nat},n <= m->Ge H m x y:=by
 induction h with
 | int n i=>intro m _; exact .int m i
 | str n x=>intro m _; exact .str m x
 | tup ha hb l _ ih=>intro m hm; obtain ⟨m,rfl⟩ : ∃ k,m=k + 1:=⟨m - 1,by omega⟩; exact .tup ha hb l fun j x y a b=>ih j x y a b (by omega)
 | lst ha hb l _ ih=>intro m hm; obtain ⟨m,rfl⟩ : ∃ k,m=k + 1:=⟨m - 1,by omega⟩; exact .lst ha hb l fun j x y a b=>ih j x y a b (by omega)
theorem Ge.de {K:PySem.W.Frag}{H:Hp}{n:Nat}{x y:V} (h:Ge H n x y):DE K H n x y true:=by
 induction h with
 | int n i=>have d:=DE.int (K:=K) (H:=H) n i i; rwa [beq_self_eq_true] at d
 | str n x=>have d:=DE.str (K:=K) (H:=H) n x x; rwa [beq_self_eq_true] at d
 | @tup n a b xs ys ha hb l _ ih =>
  have d:=DE.tup (K:=K) (n:=n) (fun _=>true) (bZ.of ha) (bZ.of hb) ih
  have e:((List.range (min xs.length ys.length)).all (fun _=>true) && xs.length == ys.length)=true:=by rw [l]; simp
  rwa [e] at d
 | @lst n a b xs ys ha hb l _ ih =>
  have d:=DE.lst (K:=K) (n:=n) (fun _=>true) (bM.of ha) (bM.of hb) l ih
  have e:(List.range xs.length).all (fun _=>true)=true:=by simp
  rwa [e] at d
structure Wv where
 w:List Int
 p:Int × Int
 c:Int × Int
 v:Int
structure Wy where
 a:Addr
 q:Addr
 b:Addr
 e:Addr
 z:Wv
def Ej (H:Hp) (y:Wy):Prop:=H y.a=some (.tup [.ref y.q,.ref y.b,.ref y.e,.int y.z.v]) /\ H y.q=some (.tup (Is y.z.w)) /\ Tq H y.b y.z.p /\ Tq H y.e y.z.c
def xX (ys:List Wy):List V:=ys.map fun y=>V.ref y.a
structure wZ (H:Hp) (a:Addr) (ys:List Wy):Prop where
 lst:H a=some (.lst (xX ys))
 each:∀ y ∈ ys,Ej H y
theorem Ej.same {H H':Hp} (s:aM H H') {y:Wy} (h:Ej H y):Ej H' y:=⟨s _ _ h.1,s _ _ h.2.1,s _ _ h.2.2.1,s _ _ h.2.2.2⟩
theorem wZ.same {H H':Hp} (s:aM H H') {a:Addr}{ys:List Wy} (h:wZ H a ys):wZ H' a ys:=⟨s _ _ h.lst,fun y hy=>(h.each y hy).same s⟩
theorem FN (ys:List Wy) (y:Wy):xX (ys ++ [y])=xX ys ++ [V.ref y.a]:=by unfold xX; rw [List.map_append]; rfl
theorem wZ.push {H:Hp}{a:Addr}{ys:List Wy}{y:Wy} (h:wZ H a ys) (hy:Ej H y):wZ (aU H a (.lst (xX ys ++ [.ref y.a]))) a (ys ++ [y]):=by
 have k:∀ z,Ej H z->Ej (aU H a (.lst (xX ys ++ [.ref y.a]))) z:=fun z hz =>
  ⟨by rw [aH (bC hz.1 h.lst fun w=>nomatch w)]; exact hz.1,by rw [aH (bC hz.2.1 h.lst fun w=>nomatch w)]; exact hz.2.1,by unfold Tq; rw [aH (bC hz.2.2.1 h.lst fun w=>nomatch w)]; exact hz.2.2.1,by unfold Tq; rw [aH (bC hz.2.2.2 h.lst fun w=>nomatch w)]; exact hz.2.2.2⟩
 refine ⟨by rw [aB,FN],fun z hz=>?_⟩
 rcases List.mem_append.mp hz with w | w
 ·exact k z (h.each z w)
 ·rw [List.mem_singleton.mp w]
  exact k y hy
end TD
namespace Sd
open TD
def lss (L c:Int × Int):Int × Int:=if c.1 * L.2 < L.1 * c.2 then c else L
def O5 (L:Int × Int) (j:Nat) (sh:Int × Int) (y:Wv):Wv:=⟨(j:Int) :: y.w,tms sh y.p,lss L y.c,y.v⟩
def PP (L:Int × Int) (rs:List (Int × Sd)) (wss:List (List Wv)) (j:Nat):List Wv:=match rs[j]?,wss[j]? with
 | some t,some ws=>ws.map (O5 L j (Fr.sh t.1 (iB rs)))
 | _,_=>[]
def KD (L:Int × Int) (rs:List (Int × Sd)) (wss:List (List Wv)) (i:Nat):List Wv:=(List.range i).flatMap (PP L rs wss)
inductive WR:Nat->Sd->List Wv->Prop
 | en (v:Int) (d:Nat):WR d (.en v) [⟨[],(1,1),(v,1),v⟩]
 | st {p:Int}{rs:List (Int × Sd)}{d:Nat}{L:Int × Int}{wss:List (List Wv)} (rv:Rv (.st p rs) (d + 1) L) (lw:Lw L) (l:wss.length=rs.length) (h:∀ (i:Nat) t ws,rs[i]? = some t->wss[i]? = some ws->WR d t.2 ws):WR (d + 1) (.st p rs) (KD L rs wss rs.length)
theorem WR.one {d:Nat}{s:Sd}{ws:List Wv} (h:WR d s ws):∀ {ws':List Wv},WR d s ws'->ws=ws':=by
 induction h with
 | en v d=>intro ws' h'; cases h'; rfl
 | @st p rs d L wss rv lw l h ih =>
  intro ws' h'
  cases h' with
  | @st _ _ _ L' wss' rv' lw' l' h' =>
   have e:=rv.one rv' lw.fr lw'.fr
   subst e
   have e2:wss=wss':=by
    refine List.ext_getElem? fun i=>?_
    by_cases hi:i < rs.length
    ·have a:wss[i]? = some (wss[i]'(by omega)):=List.getElem?_eq_getElem _
     have b:wss'[i]? = some (wss'[i]'(by omega)):=List.getElem?_eq_getElem _
     have r:rs[i]? = some (rs[i]'hi):=List.getElem?_eq_getElem _
     rw [a,b,ih i _ _ r a (h' i _ _ r b)]
    ·rw [List.getElem?_eq_none (by omega),List.getElem?_eq_none (by omega)]
   rw [e2]
theorem Hv {L:Int × Int}{rs:List (Int × Sd)}{wss:List (List Wv)}{i:Nat}{t:Int × Sd}{ws:List Wv} (ht:rs[i]? = some t) (hw:wss[i]? = some ws):KD L rs wss (i + 1)=KD L rs wss i ++ ws.map (O5 L i (Fr.sh t.1 (iB rs))):=by
 unfold KD
 rw [List.range_succ,List.flatMap_append]
 congr 1
 show [i].flatMap (PP L rs wss)=_
 rw [List.flatMap_cons,List.flatMap_nil,List.append_nil]
 unfold PP
 rw [ht,hw]
structure WB (d:Nat) (y:Wv):Prop where
 p:∃ N:Int,0 < N /\ N <= 2 ^ (12 * d) /\ FQ y.p N 1
 c:Lw y.c
 l:y.w.length <= d
theorem WR.len {d:Nat}{s:Sd}{ws:List Wv} (h:WR d s ws):(ws.length:Int)=nE (d + 1) s:=by
 induction h with
 | en v d=>rfl
 | @st p rs d L wss rv lw l h ih =>
  have key:∀ i,i <= rs.length->((KD L rs wss i).length:Int)=((rs.take i).map fun r=>nE (d + 1) r.2).sum:=by
   intro i
   induction i with
   | zero=>intro _; rfl
   | succ i ih2 =>
    intro hi
    have er:rs[i]? = some (rs[i]'(by omega)):=List.getElem?_eq_getElem _
    have ew:wss[i]? = some (wss[i]'(by omega)):=List.getElem?_eq_getElem _
    rw [Hv er ew,List.length_append,List.length_map,List.take_add_one,er]
    show _=(List.map _ (List.take i rs ++ [rs[i]'(by omega)])).sum
    rw [List.map_append,List.sum_append,<- ih2 (by omega)]
    show _=_ + (nE (d + 1) (rs[i]'(by omega)).2 + 0)
    rw [<- ih i _ _ er ew]
    push_cast
    omega
  rw [key _ (Nat.le_refl _),List.take_length]
  rfl
end Sd
namespace TD
open PySem L2
def xT (c:Cs) (b:Bool):Sp:=fun vs H Q _=>∃ (x:Addr),vs=[.ref x] /\ Q (.bl b) H
def J5 (c:Cs) (n:Nat):Sp:=fun vs H Q _=>∃ (x:Addr) (p:Int) (rs:List (Int × Sd.Sd)) (d m:Nat),vs=[.ref x] /\ d7 c H x (.st p rs) d m /\ d < n /\ ∀ r H',aM H H'->fK H' r (.st p rs)->Q (.ref r) H'
def GZ (c:Cs):Sp:=fun vs H Q _=>∃ (x:Addr) (v:Int) (d m:Nat),vs=[.ref x] /\ d7 c H x (.en v) d m /\ ∀ r H',aM H H'->fK H' r (.en v)->Q (.ref r) H'
theorem Oj {c:Cs}{H H0:Hp}{y:Addr}{s:Sd.Sd}{d m n:Nat}{σ : St}{ta:TE}{Q:VK} (st:d7 c H y s d m) (hn:d < n) (hv:∀ R:VK,R (.ref y) H->ta σ H0 R) (q:∀ r H',aM H H'->fK H' r s->Q (.ref r) H') :
  xY c.e "told" (GZ c) [] E0 ta Dz σ H0 Q ∨ xY c.s "told" (J5 c n) [] E0 ta Dz σ H0 Q:=by
 have st2:=st
 cases st with
 | en h vv ok=>exact .inl (hv _ ⟨y,_,_,rfl,h,rfl,y,_,_,_,rfl,st2,q⟩)
 | st h vv g lp ly row sub p0 p9 ne l4 w hk=>exact .inr (hv _ ⟨y,_,_,rfl,h,rfl,y,_,_,_,_,rfl,st2,hn,q⟩)
end TD
namespace Sd
theorem Ph {l:List Int}{x:Int} (h:x ∈ l):x <= Lb l:=(mR l 0).2.1 x h
theorem xD:∀ (n:Nat) (s:Sd),0 <= nE n s
 | 0,_=>Int.le_refl _
 | _ + 1,.en _=>by show (0:Int) <= 1; decide
 | n + 1,.st _ rs=>by
  show 0 <= (rs.map fun r=>nE n r.2).sum
  have key:∀ l:List (Int × Sd),0 <= (l.map fun r=>nE n r.2).sum:=by
   intro l
   induction l with
   | nil=>exact Int.le_refl _
   | cons r l ih=>rw [List.map_cons,List.sum_cons]; have:=xD n r.2; omega
  exact key rs
theorem VF {s:Sd}{d m:Nat} (ok:Ok s d m):∀ {d' m':Nat},nE (d + 1) s <= (m':Int)->nS (d + 1) s <= (d':Int)->Ok s d' m':=by
 induction ok with
 | @en v d m h0 h9 hm =>
  intro d' m' h1 h2
  have h1:(1:Int) <= (m':Int):=h1
  exact .en h0 h9 (by omega)
 | @st p rs d m f h0 h9 ne l4 w sub hk ih =>
  intro d' m' h1 h2
  have h1:(rs.map fun r=>nE (d + 1) r.2).sum <= (m':Int):=h1
  have h2:1 + Lb (rs.map fun r=>nS (d + 1) r.2) <= (d':Int):=h2
  have mp:=(mR (rs.map fun r=>nS (d + 1) r.2) 0).1
  obtain ⟨e,rfl⟩ : ∃ e,d'=e + 1:=⟨d' - 1,by unfold Lb at h2; omega⟩
  refine .st (f:=fun r=>(nE (d + 1) r.2).toNat) h0 h9 ne l4 w (fun r hr=>ih r hr ?_ ?_) ?_
  ·have:=xD (d + 1) r.2; omega
  ·have:=Ph (List.mem_map.mpr ⟨r,hr,rfl⟩ : nS (d + 1) r.2 ∈ rs.map fun r=>nS (d + 1) r.2)
   push_cast at h2
   omega
  ·have key:∀ l:List (Int × Sd),(((l.map fun r=>(nE (d + 1) r.2).toNat).sum:Nat):Int)=(l.map fun r=>nE (d + 1) r.2).sum:=by
    intro l
    induction l with
    | nil=>rfl
    | cons r l ih2 =>
     rw [List.map_cons,List.sum_cons,List.map_cons,List.sum_cons]
     push_cast
     rw [ih2]
     have:=xD (d + 1) r.2
     omega
   have:=key rs
   omega
theorem Xd {s:Sd}{d m:Nat} (ok:Ok s d m):nS (d + 1) s <= (d:Int):=by
 induction ok with
 | @en v d m _ _ _=>show (0:Int) <= _; omega
 | @st p rs d m f h0 h9 ne l4 w sub hk ih =>
  show 1 + Lb (rs.map fun r=>nS (d + 1) r.2) <= _
  have h:=(mR (rs.map fun r=>nS (d + 1) r.2) 0).2.2
  have:Lb (rs.map fun r=>nS (d + 1) r.2) <= (d:Int):=by
   rcases h with e | e
   ·unfold Lb; omega
   ·obtain ⟨r,hr,e2⟩:=List.mem_map.mp e
    have:=ih r hr
    unfold Lb
    omega
  push_cast
  omega
end Sd
namespace L2
open PySem PySem.Spec PyProof.Rows
abbrev U5:List Value:=[.type "ValueError",.type "Exception",.type "BaseException",.type "object"]
theorem sU.obj {K:PySem.W.Frag}{h:Heap}{C:Addr} (x:sU K C) (k:K.In h):∃ (bm:List Value) (N:Addr) (nm q:Str) (bs:List Value) (hdct:Bool) (sn:List Str) (sub:List Value) (ab:Bool) (col:Option Bool) (dd:Option Addr) (k0 k1 k2 k3 k5:Option Value) (mN:Str->Option Value),
  h.get? C=some (excClassObj nm q C N bs bm hdct sn sub ab col dd k0 k1 k2 k3 k5 "ValueError.__new__") /\ h.Ns N mN /\ mN "__init__" = none /\ OwnTail h U5 bm:=by
 have z:=x.isx
 unfold PySem.W.excIn at z
 split at z
 case h_2=>cases z
 case h_1 dd cd sl ho =>
  split at z
  case h_2=>cases z
  case h_1 C' bm k0 k1 k2 k3 n k5 hm hs =>
   simp only [Bool.and_eq_true,beq_iff_eq,Bool.not_eq_true'] at z
   obtain ⟨⟨⟨⟨⟨e1,e2⟩,hdel⟩,ht⟩,hok⟩,hni⟩:=z
   subst e1
   subst e2
   obtain ⟨nm,bs,mro,ns,qn,hd,sn,sub,ab,col,del⟩:=cd
   dsimp only at hm hdel hok hni
   subst hm
   subst hdel
   obtain ⟨l⟩:=sl
   obtain rfl:l=[k0,k1,k2,k3,some (.builtin "ValueError.__new__"),k5]:=hs
   have g:=k _ _ ho
   have nn:=PySem.W.isNs_of_in k hok
   exact ⟨bm,ns,nm,qn,bs,hd,sn,sub,ab,col,dd,k0,k1,k2,k3,k5,_,g,.of_isNs nn,PySem.W.nsMap_none_of_in k hok hni,PySem.W.tail_of_in k ht⟩
theorem iT {X:Cx}{x:Str}{C:Addr}{E:XK}{np cpos pos:Pos} (T:KY X E) (hc:X.calm=true) (hg:Gl X x) (hm:X.mg x=some (.ref C)) (xc:sU X.K C) (hd:(x == ("__debug__" : Str))=false:=by decide) :
  PS X (.Raise (some (.Call (.Name x np) [] [] cpos)) none pos) (fun _ _ H=>E (.ref C) none H):=by
 intro pins s σ H D I h
 obtain ⟨bm,N,nm,q,bs,hdct,sn,sub,ab,col,dd,k0,k1,k2,k3,k5,mN,hC,hN,hni,TL⟩:=xc.obj I.kIn
 refine wpAny_Raise_call_subT (C:=C) (nm:=nm) (q:=q) (N:=N) (bs:=bs) (bm:=bm) (hdct:=hdct) (sn:=sn) (sub:=sub) (ab:=ab) (col:=col) (dd:=dd) (k0:=k0) (k1:=k1) (k2:=k2) (k3:=k3) (k5:=k5) PySem.F.excBase_ValueError (mN:=mN)
  (TL.hasType PySem.F.excBase_ValueError.hasBase) (I.ok.hd hc) rfl hni (pN I hg hm ⟨rfl,?_⟩ hd)
 exact evalArgs_empty ⟨rfl,Nat.zero_le _,hC,hN,TL,fun h' e mk=>T pins σ H s h' e _ _ I mk h⟩
section
variable {P:Program}{w:World}{K:PySem.W.Frag}{mg:Str->Option Value}{base:Heap}
theorem eX.okX {x qual:Str}{st:Stmt}{f:Addr}{fd:FuncData}{N ps:List Str}{k:Nat}{sp:Sp} (F:eX K x qual st f fd) (S:aP N ps (aK st)) (len:∀ vs H Q E,sp vs H Q E->vs.length=ps.length)
  (hbody:∀ (cdv:Value) (A:Around) (outer:List Env) (s:Shared) (H:Hp) (vs:List V) (Q:VK) (E:XK),eV k (A.deeper (envOfC qual (aK st) s.heap.objs.size f cdv))->sp vs H Q E ->
   ∃ t,sJ (vO (oX P w) P w K mg base N qual (aK st) f cdv A outer s H E) (fX st) t /\ t { nx:=fun _ H'=>Q .non H',rt:=Q } (start N vs) H):aV P w K mg base (oX P w) (k + 1) f fd ps sp:=by
 obtain ⟨oc,od,kV,doc,pm,an,cdv,ct,osl,rfl,lk,hcd⟩:=F.ex
 exact GQ lk hcd S len fun A outer s H vs Q E hr hsp=>hbody cdv A outer s H vs Q E hr hsp
def PS0 (X:Cx) (st:Stmt) (t:TS):Prop :=
 ∀ (s:Shared) (σ : St) (H:Hp) (D:sV),aY X [] σ H s->t D σ H->wpAny (model X.prog X.w) X.A (exec st X.env) (SP X [] D) X.xe s
def aAv (X:Cx) (st:List Stmt) (t:TS):Prop :=
 ∀ (s:Shared) (σ : St) (H:Hp) (D:sV),aY X [] σ H s->t D σ H->wpAny (model X.prog X.w) X.A (execs st X.env) (SP X [] D) X.xe s
theorem sJ.zero {X:Cx}{st:List Stmt}{t:TS} (h:sJ X st t):aAv X st t:=fun s σ H D I q=>h [] s σ H D I q
theorem PS.zero {X:Cx}{st:Stmt}{t:TS} (h:PS X st t):PS0 X st t:=fun s σ H D I q=>h [] s σ H D I q
end
end L2
namespace L2
open PySem PySem.Spec PyProof.Rows
section
variable {X:Cx}{σ : St}{H:Hp}{s:Shared}{a:Addr}{h':Heap}{B:Heap}
end
section
variable {X:Cx}
end
end L2
namespace L2
open PySem PySem.Spec PyProof.Rows
structure zJ (P:Program) (w:World) (K:PySem.W.Frag) (mg:Str->Option Value) (base:Heap) (n:Nat) (x:Str) (ps:List Str) (sp:Sp) (g:Addr) (gd:FuncData):Prop where
 ok:aV P w K mg base (oX P w) n g gd ps sp
 bi:bB K gd ps []
 kp:PySem.W.keepIn K (.ref g)=true
 at_:mg x=some (.ref g)
theorem zJ.up {P:Program}{w:World}{K:PySem.W.Frag}{mg:Str->Option Value}{base:Heap}{n m:Nat}{x:Str}{ps:List Str}{sp:Sp}{g:Addr}{gd:FuncData} (c:zJ P w K mg base n x ps sp g gd) (h:n <= m):zJ P w K mg base m x ps sp g gd:=⟨c.ok.mono h,c.bi,c.kp,c.at_⟩
theorem nZ {X:Cx}:jP (oX X.prog X.w) X E0:=fun _ _ _ _ _ _ _ ⟨_,_,_,_,_,_,_,_,_,_,_,_,_,h⟩=>False.elim h
theorem J6 {X:Cx}{n:Nat}{x:Str}{ps:List Str}{sp:Sp}{g:Addr}{gd:FuncData}{E:XK}{p pos:Pos}{e:Expr}{es:List Expr}{t:TA} (c:zJ X.prog X.w X.K X.mg X.base n x ps sp g gd) (hr:eV n X.A) (hx:jP (oX X.prog X.w) X E) (ha:PA X (e :: es) t) (hg:Gl X x:=by rfl)
  (hd:(x == ("__debug__" : Str))=false:=by decide) (he:starEach (e :: es) X.env=(false,eval e X.env) :: starEach es X.env:=by rfl) (hpl:(backTo pos (starEach es X.env)).any (·.1)=false:=by rfl) :
  PE X (.Call (.Name x p) (e :: es) [] pos) (BZ sp [] E t):=zN c.ok hr hg c.at_ c.kp c.bi .nil hx ha hd he hpl
theorem PS.nox {X:Cx}{st:Stmt}{t:TS} (h:PS X.nox st t):PS X st t:=fun pins s σ H D I hw =>
 wpAny_mono (h pins s σ H D (I.wish _) hw) (fun _ _ q=>q.unwish) fun _ _ z=>False.elim z
end L2
namespace TD
open PySem L2
open Builtin.Int (intBits)
theorem gK.same {K:PySem.W.Frag}{H H':Hp}{v:V}{t:Value} (s:aM H H') (h:gK K H v t):gK K H' v t:=by
 cases h with
 | non=>exact .non
 | bl x=>exact .bl x
 | int i=>exact .int i
 | str x=>exact .str x
 | flt x=>exact .flt x
 | lst e=>exact .lst (s _ _ e)
 | frz e=>exact .frz (s _ _ e)
 | tup e=>exact .tup (s _ _ e)
 | dK e=>exact .dK (s _ _ e)
 | dT e=>exact .dT (s _ _ e)
 | ins e a b c d f=>exact .ins (s _ _ e) a b c d f
def N7 (H:Hp) (T:String) (v:V):Prop:=∀ K:PySem.W.Frag,∃ t,gK K H v t /\ PySem.W.kitOne K t (.type T)=some false
theorem N7.same {H H':Hp}{T:String}{v:V} (s:aM H H') (h:N7 H T v):N7 H' T v:=fun K=>let ⟨t,a,b⟩:=h K; ⟨t,gK.same s a,b⟩
theorem yZ {K:PySem.W.Frag}:PySem.W.kitOne K (.type "bool") (.type "int")=some true:=by rfl
inductive lU (H:Hp) (lo hi:Int):V->Bool->Prop where
 | no {v:V} (h:N7 H "int" v):lU H lo hi v false
 | bl (c:Bool):lU H lo hi (.bl c) false
 | int (i:Int):lU H lo hi (.int i) (decide (lo <= i) && decide (i <= hi))
theorem lU.same {H H':Hp}{lo hi:Int}{v:V}{b:Bool} (s:aM H H') (h:lU H lo hi v b):lU H' lo hi v b:=by
 cases h with
 | no h=>exact .no (h.same s)
 | bl c=>exact .bl c
 | int i=>exact .int i
theorem lU.yes {H:Hp}{lo hi i:Int} (h1:lo <= i) (h2:i <= hi):lU H lo hi (.int i) true:=by
 have h:=lU.int (H:=H) (lo:=lo) (hi:=hi) i
 rw [decide_eq_true h1,decide_eq_true h2] at h
 exact h
theorem lU.not {H:Hp}{lo hi i:Int} (h1:i < lo ∨ hi < i):lU H lo hi (.int i) false:=by
 have h:=lU.int (H:=H) (lo:=lo) (hi:=hi) i
 have e:(decide (lo <= i) && decide (i <= hi))=false:=by
  rcases h1 with h1 | h1
  ·rw [decide_eq_false (by omega)]; rfl
  ·rw [decide_eq_false (p:=i <= hi) (by omega),Bool.and_false]
 rw [e] at h
 exact h
def rA:Sp:=fun vs H Q _=>∃ (v:V) (lo hi:Int) (b:Bool),vs=[v,.int lo,.int hi] /\ lU H lo hi v b /\ Q (.bl b) H
theorem gK.kp {K:PySem.W.Frag}{H H':Hp}{v:V}{t:Value} (s:∀ b o,H b=some o->(∀ ps,o ≠ .tbl ps)->H' b=some o) (h:gK K H v t):gK K H' v t:=by
 cases h with
 | non=>exact .non
 | bl x=>exact .bl x
 | int i=>exact .int i
 | str x=>exact .str x
 | flt x=>exact .flt x
 | lst e=>exact .lst (s _ _ e fun _ z=>nomatch z)
 | frz e=>exact .frz (s _ _ e fun _ z=>nomatch z)
 | tup e=>exact .tup (s _ _ e fun _ z=>nomatch z)
 | dK e=>exact .dK (s _ _ e fun _ z=>nomatch z)
 | dT e=>exact .dT (s _ _ e fun _ z=>nomatch z)
 | ins e a b c d f=>exact .ins (s _ _ e fun _ z=>nomatch z) a b c d f
def Kt (H H':Hp):Prop:=∀ b o,H b=some o->(∀ ps,o ≠ .tbl ps)->H' b=some o
theorem aM.kt {H H':Hp} (s:aM H H'):Kt H H':=fun b o h _=>s b o h
theorem cD.kt {P:Addr}{pos:Pos}{qual:Str}{H H':Hp} (s:cD P H H') (t:fJ P pos qual H):Kt H H':=fun b o h n=>s.get t h n
theorem Kt.trans {H H1 H2:Hp} (a:Kt H H1) (b:Kt H1 H2):Kt H H2:=fun c o h n=>b c o (a c o h n) n
theorem Kt.kp {H H':Hp} (k:Kt H H'):Kp H H':=fun b o h n _=>k b o h n
theorem Kt.refl (H:Hp):Kt H H:=fun _ _ h _=>h
theorem Kt.tup {H H':Hp} (k:Kt H H') {b:Addr}{xs:List V} (h:H b=some (.tup xs)):H' b=some (.tup xs):=k _ _ h fun _ z=>nomatch z
theorem Kt.lst {H H':Hp} (k:Kt H H') {b:Addr}{xs:List V} (h:H b=some (.lst xs)):H' b=some (.lst xs):=k _ _ h fun _ z=>nomatch z
theorem N7.kt {H H':Hp}{T:String}{v:V} (s:Kt H H') (h:N7 H T v):N7 H' T v:=fun K=>let ⟨t,a,b⟩:=h K; ⟨t,gK.kp s a,b⟩
theorem lU.kt {H H':Hp}{lo hi:Int}{v:V}{b:Bool} (s:Kt H H') (h:lU H lo hi v b):lU H' lo hi v b:=by
 cases h with
 | no h=>exact .no (h.kt s)
 | bl c=>exact .bl c
 | int i=>exact .int i
theorem lU.inv {H:Hp}{lo hi:Int}{v:V} (h:lU H lo hi v true):∃ i,v = .int i /\ lo <= i /\ i <= hi:=by
 generalize hb:true=b at h
 cases h with
 | no h=>cases hb
 | bl c=>cases hb
 | int i =>
  have:=hb.symm
  rw [Bool.and_eq_true,decide_eq_true_eq,decide_eq_true_eq] at this
  exact ⟨i,rfl,this⟩
structure CN (K:PySem.W.Frag) (c:Cs):Prop where
 all:∀ T ∈ ["tuple","int","NoneType","str","list"],PySem.W.kitOne K (.type T) (.ref c.e)=some false /\ PySem.W.kitOne K (.type T) (.ref c.s)=some false
 et:PySem.W.kitOne K (.ref c.e) (.type "tuple")=some false
inductive Am (c:Cs) (K:PySem.W.Frag) (H:Hp):V->Bool->Prop where
 | yes {x:Addr}{s:Sd.Sd}{d m:Nat} (h:d7 c H x s d m):Am c K H (.ref x) true
 | no {v:V}{T:String} (h:gK K H v (.type T)) (ht:T ∈ ["tuple","int","NoneType","str","list"]):Am c K H v false
inductive Aq (c:Cs) (K:PySem.W.Frag) (H:Hp):V->Bool->Prop where
 | no {v:V}{t:Value} (h:gK K H v t) (hk:PySem.W.kitOne K t (.type "tuple")=some false):Aq c K H v false
 | len {a:Addr}{xs:List V} (e:H a=some (.tup xs)) (hl:xs.length ≠ 2):Aq c K H (.ref a) false
 | two {a:Addr}{x y:V}{b b2:Bool} (e:H a=some (.tup [x,y])) (hx:lU H 1 1000 x b) (hy:Am c K H y b2):Aq c K H (.ref a) (b && b2)
inductive kY (c:Cs) (K:PySem.W.Frag) (H:Hp):V->Bool->Prop where
 | no {v:V} (h:N7 H "list" v):kY c K H v false
 | len {a:Addr}{xs:List V} (e:H a=some (.lst xs)) (hl:¬ (1 <= xs.length /\ xs.length <= 4)):kY c K H (.ref a) false
 | all {a:Addr}{xs:List V}{bs:List Bool} (e:H a=some (.lst xs)) (h1:1 <= xs.length) (h4:xs.length <= 4) (hb:bs.length=xs.length) (h:∀ (i:Nat) x,xs[i]? = some x->Aq c K H x (bs.getD i false)):kY c K H (.ref a) (bs.all id)
inductive sG (c:Cs) (K:PySem.W.Frag) (H:Hp):V->Bool->Prop where
 | no {v:V} (h:N7 H "list" v):sG c K H v false
 | len {a:Addr}{xs:List V} (e:H a=some (.lst xs)) (hl:¬ (1 <= xs.length /\ xs.length <= 6)):sG c K H (.ref a) false
 | all {a:Addr}{xs:List V}{bs:List Bool} (e:H a=some (.lst xs)) (h1:1 <= xs.length) (h6:xs.length <= 6) (hb:bs.length=xs.length) (h:∀ (i:Nat) x,xs[i]? = some x->Am c K H x (bs.getD i false)):sG c K H (.ref a) (bs.all id)
section
variable {c:Cs}{K:PySem.W.Frag}{H H':Hp}{v:V}{b:Bool}
theorem Am.kt (s:Kt H H') (h:Am c K H v b):Am c K H' v b:=by
 cases h with
 | yes h=>exact .yes (h.kp s.kp)
 | no h ht=>exact .no (gK.kp s h) ht
theorem Aq.kt (s:Kt H H') (h:Aq c K H v b):Aq c K H' v b:=by
 cases h with
 | no h hk=>exact .no (gK.kp s h) hk
 | len e hl=>exact .len (s.tup e) hl
 | two e hx hy=>exact .two (s.tup e) (hx.kt s) (hy.kt s)
theorem kY.kt (s:Kt H H') (h:kY c K H v b):kY c K H' v b:=by
 cases h with
 | no h=>exact .no (h.kt s)
 | len e hl=>exact .len (s.lst e) hl
 | all e h1 h4 hb h=>exact .all (s.lst e) h1 h4 hb fun i x hx=>(h i x hx).kt s
theorem sG.kt (s:Kt H H') (h:sG c K H v b):sG c K H' v b:=by
 cases h with
 | no h=>exact .no (h.kt s)
 | len e hl=>exact .len (s.lst e) hl
 | all e h1 h6 hb h=>exact .all (s.lst e) h1 h6 hb fun i x hx=>(h i x hx).kt s
end
def JP (c:Cs) (K:PySem.W.Frag):Sp:=fun vs H Q _=>∃ (v:V) (b:Bool),vs=[v] /\ Am c K H v b /\ Q (.bl b) H
def Ff (c:Cs) (K:PySem.W.Frag):Sp:=fun vs H Q _=>∃ (v:V) (b:Bool),vs=[v] /\ Aq c K H v b /\ Q (.bl b) H
def Ax (c:Cs) (K:PySem.W.Frag):Sp:=fun vs H Q _=>∃ (v:V) (b:Bool),vs=[v] /\ kY c K H v b /\ ∀ H',aM H H'->Q (.bl b) H'
def Ni (c:Cs) (C:Addr):Sp:=fun vs H Q E =>
 (∃ (x dx:Addr) (v:Int),vs=[.ref x,.int v] /\ H x=some (.ins c.e dx []) /\ 0 <= v /\ v <= 1000000000 /\ ∀ H':Hp,(∀ b o,b ≠ x->H b=some o->H' b=some o)->(∀ d m:Nat,1 <= m->d7 c H' x (.en v) d m)->Q .non H') ∨
 ∃ (x:Addr) (v:V),vs=[.ref x,v] /\ lU H 0 1000000000 v false /\ E (.ref C) none H
structure EY (c:Cs) (H:Hp) (a:Addr) (ps ys:List Addr) (rs:List (Int × Sd.Sd)) (d:Nat) (j:Int × Sd.Sd->Nat):Prop where
 ha:H a=some (.lst (ps.map V.ref))
 R:qT c H ps ys rs d j
 ne:rs ≠ []
 l4:rs.length <= 4
 ww:∀ r ∈ rs,1 <= r.1 /\ r.1 <= 1000
def Np (c:Cs) (K:PySem.W.Frag) (C Pt:Addr) (lp:Pos):Sp:=fun vs H Q E =>
 (∃ (x dx a:Addr) (p:Int) (ps ys:List Addr) (rs:List (Int × Sd.Sd)) (d:Nat) (j:Int × Sd.Sd->Nat),vs=[.ref x,.int p,.ref a] /\ H x=some (.ins c.s dx []) /\ EY c H a ps ys rs d j /\ 0 <= p /\ p <= 1000000000 ∧
  (((12 < Sd.nE (d + 1 + 1) (.st p rs) ∨ 4 < Sd.nS (d + 1 + 1) (.st p rs)) /\ ∀ H',aM H H'->E (.ref C) none H') ∨
   ∃ m:Nat,(rs.map j).sum <= m /\ m <= 12 /\ d + 1 <= 4 /\ fJ Pt lp lQ H /\ ∀ H':Hp,(∀ b o,b ≠ x->b ≠ Pt->H b=some o->H' b=some o)->fJ Pt lp lQ H'->d7 c H' x (.st p rs) (d + 1) m->Q .non H')) ∨
 ∃ (x:Addr) (v w:V),vs=[.ref x,v,w] /\ (lU H 0 1000000000 v false ∨ (lU H 0 1000000000 v true /\ kY c K H w false)) /\ ∀ H',aM H H'->E (.ref C) none H'
def SX (c:Cs) (K:PySem.W.Frag) (C:Addr):Sp:=fun vs H Q E=>∃ (v:V) (b:Bool),vs=[v] /\ sG c K H v b /\ (b=true->∀ H',aM H H'->Q .non H') /\ (b=false->∀ H',aM H H'->E (.ref C) none H')
end TD
namespace TD
open PySem L2
open Builtin.Int (intBits)
inductive Nr (c:Cs) (K:PySem.W.Frag) (H:Hp):V->V->Bool->Prop where
 | price {v w:V} (h:lU H 0 1000000000 v false):Nr c K H v w false
 | rows {v w:V} (h:lU H 0 1000000000 v true) (h2:kY c K H w false):Nr c K H v w false
 | big {p:Int}{a:Addr}{ps ys:List Addr}{rs:List (Int × Sd.Sd)}{d:Nat}{j:Int × Sd.Sd->Nat} (p0:0 <= p) (p9:p <= 1000000000) (g:EY c H a ps ys rs d j) (h:12 < Sd.nE (d + 1 + 1) (.st p rs) ∨ 4 < Sd.nS (d + 1 + 1) (.st p rs)):Nr c K H (.int p) (.ref a) false
 | good {p:Int}{a:Addr}{ps ys:List Addr}{rs:List (Int × Sd.Sd)}{d m:Nat}{j:Int × Sd.Sd->Nat} (p0:0 <= p) (p9:p <= 1000000000) (g:EY c H a ps ys rs d j) (hm:(rs.map j).sum <= m) (m12:m <= 12) (d4:d + 1 <= 4):Nr c K H (.int p) (.ref a) true
inductive RP (c:Cs) (K:PySem.W.Frag) (H:Hp):Str->V->V->Bool->Prop where
 | en {v w:V}{b:Bool} (h:lU H 0 1000000000 v b):RP c K H "end" v w b
 | st {v w:V}{b:Bool} (h:Nr c K H v w b):RP c K H "stage" v w b
 | bx {v w:V}{b:Bool} (h:sG c K H v b):RP c K H "boxes" v w b
section
variable {c:Cs}{K:PySem.W.Frag}{H H':Hp}{a:Addr}{ps ys:List Addr}{rs:List (Int × Sd.Sd)}{d:Nat}{j:Int × Sd.Sd->Nat}
theorem EY.kt (s:Kt H H') (g:EY c H a ps ys rs d j):EY c H' a ps ys rs d j:=⟨s.lst g.ha,g.R.kp s.kp,g.ne,g.l4,g.ww⟩
theorem Nr.kt (s:Kt H H') {v u:V}{b:Bool} (h:Nr c K H v u b):Nr c K H' v u b:=by
 cases h with
 | price h=>exact .price (h.kt s)
 | rows h h2=>exact .rows (h.kt s) (h2.kt s)
 | big p0 p9 g h=>exact .big p0 p9 (g.kt s) h
 | good p0 p9 g hm m12 d4=>exact .good p0 p9 (g.kt s) hm m12 d4
theorem RP.kt (s:Kt H H') {z:Str}{v u:V}{b:Bool} (h:RP c K H z v u b):RP c K H' z v u b:=by
 cases h with
 | en h=>exact .en (h.kt s)
 | st h=>exact .st (h.kt s)
 | bx h=>exact .bx (h.kt s)
theorem made {x dx:Addr}{o1 o2:HO} (hx:H x=none) (hd:H dx=none) (kp:∀ b o,b ≠ x->aU (aU H dx o1) x o2 b=some o->H' b=some o):aM H H':=fun b o e=>kp b o (aO e hx) (by rw [aH (aO e hx),aH (aO e hd)]; exact e)
theorem Gf {x dx:Addr}{o1 o2:HO} (hx:H x=none) (hd:H dx=none) (ne:dx ≠ x):aM H (aU (aU H dx o1) x o2):=(aG hd o1).trans (aG (by rw [aH (Ne.symm ne)]; exact hx) o2)
end
section
variable {c:Cs}{H H':Hp}
theorem pX (kt:∀ b xs,H b=some (.tup xs)->H' b=some (.tup xs)) {l cp:Addr}{sd:Sd.Sd}{lv:Int × Int}{xs:List dJ}{n k:Int}{d m:Nat} (h:PL H l cp sd lv xs n k d m):PL H' l cp sd lv xs n k d m :=
 ⟨kt _ _ h.lv,⟨kt _ _ h.caps.1,fun x hx=>⟨kt _ _ (h.caps.2 x hx).1,kt _ _ (h.caps.2 x hx).2⟩⟩,h.gs,h.so,h.n1,h.nm,h.k0,h.kd,h.mt,h.lw,h.nx,h.kx⟩
theorem Aa (kt:∀ b xs,H b=some (.tup xs)->H' b=some (.tup xs)) (ki:∀ b C dx f fs,H b=some (.ins C dx (f :: fs))->H' b=some (.ins C dx (f :: fs))) {x:Addr}{s:Sd.Sd}{d m:Nat} (h:d7 c H x s d m):d7 c H' x s d m:=by
 induction h with
 | en h vv ok=>exact .en (ki _ _ _ _ _ h) (pX kt vv) ok
 | st h vv g lp ly row sub p0 p9 ne l4 w hk ih=>exact .st (ki _ _ _ _ _ h) (pX kt vv) (kt _ _ g) lp ly (fun i q y t a b c=>kt _ _ (row i q y t a b c)) ih p0 p9 ne l4 w hk
theorem q9 {D:Addr}{zs zs':List V} (hD:H D=some (.lst zs)) {x:Addr}{s:Sd.Sd}{d m:Nat} (h:d7 c H x s d m):d7 c (aU H D (.lst zs')) x s d m :=
 Aa (fun b xs e=>by rw [aH (bC e hD fun z=>nomatch z)]; exact e) (fun b C dx f fs e=>by rw [aH (bC e hD fun z=>nomatch z)]; exact e) h
def ER (c:Cs) (H:Hp) (tr:List (Addr × Addr × Int × Sd.Sd)):Prop:=∀ r ∈ tr,H r.1=some (.tup [.int r.2.2.1,.ref r.2.1]) /\ ∀ d m:Nat,1 <= m->d7 c H r.2.1 r.2.2.2 d m
theorem ER.kt {tr:List (Addr × Addr × Int × Sd.Sd)} (s:Kt H H') (h:ER c H tr):ER c H' tr:=fun r hr=>⟨s.tup (h r hr).1,fun d m hm=>((h r hr).2 d m hm).kp s.kp⟩
theorem ER.lst {tr:List (Addr × Addr × Int × Sd.Sd)}{D:Addr}{zs zs':List V} (hD:H D=some (.lst zs)) (h:ER c H tr):ER c (aU H D (.lst zs')) tr:=fun r hr=>⟨by rw [aH (bC (h r hr).1 hD fun z=>nomatch z)]; exact (h r hr).1,fun d m hm=>q9 hD ((h r hr).2 d m hm)⟩
theorem ER.snoc {tr:List (Addr × Addr × Int × Sd.Sd)}{r:Addr × Addr × Int × Sd.Sd} (h:ER c H tr) (h1:H r.1=some (.tup [.int r.2.2.1,.ref r.2.1])) (h2:∀ d m:Nat,1 <= m->d7 c H r.2.1 r.2.2.2 d m):ER c H (tr ++ [r]):=fun x hx=>by
 rcases List.mem_append.mp hx with e | e
 ·exact h x e
 ·rw [List.mem_singleton.mp e]; exact ⟨h1,h2⟩
end
end TD
namespace L2
open PySem PySem.Spec PyProof.Rows
section
variable {X:Cx}
def Qi:Value->Addr
 | .ref a=>a
 | _=>0
def Ly (K:PySem.W.Frag) (n:Nat):V->List V->Hp->VK->Prop:=fun x vs H Q=>∃ (l v:Addr) (as:List Addr) (e:Addr->Bool) (j:Nat) (aj:Addr),x = .ref l /\ vs=[.ref v] /\ H l=some (.lst (as.map V.ref)) /\ as.length <= 1000 /\ (∀ a ∈ as,DE K H n (.ref a) (.ref v) (e a)) ∧
 as[j]? = some aj /\ e aj=true /\ (∀ m am,m < j->as[m]? = some am->e am=false) /\ Q (.int (j:Int)) H
theorem Bk:∀ {as:List Addr}{us:List Value},bI (as.map V.ref) us->us=as.map Value.ref
 | [],_,.nil=>rfl
 | a :: as,_,.cons r h=>by
  rw [Bk h]
  exact congrArg (· :: as.map Value.ref) r
theorem Ia {n:Nat} (hu:X.A.units + n + 2 < cLine):Yn X "list.index" (Ly X.K n):=by
 intro pins s σ H x vs v us Q I rx rv h
 obtain ⟨l,y,as,e,j,aj,rfl,rfl,hH,h9,he,hj,hit,hno,q⟩:=h
 cases rx
 obtain ⟨u,rfl,ru⟩:=rv.one
 cases (show u=Value.ref y from ru)
 obtain ⟨z,its,m,r,hl,eo⟩:=I.lstM hH
 obtain rfl:=Bk r
 have hjl:j < as.length:=(List.getElem?_eq_some_iff.mp hj).1
 refine call_meets F.slot_list_index ⟨_,eo,rfl⟩ F.entry_list_index (F.args_list_index_2 _ _) (SeqAt.list_indexAt l (as.map Value.ref).toArray m none #[] (.ref y) (fun z=>e (Qi z)) j (by simpa using hjl) (by omega) ?_ (fun k hk hlt=>?_)) ⟨eo,fun z hz=>?_,?_⟩
 ·have:as[j]=aj:=by rw [List.getElem?_eq_getElem hjl] at hj; exact Option.some.inj hj
  simp only [List.getElem_toArray,List.getElem_map,Qi,this,hit]
 ·have hk':k < as.length:=by simpa using hk
  simp only [List.getElem_toArray,List.getElem_map,Qi]
  exact hno k _ hlt (List.getElem?_eq_getElem hk')
 ·obtain ⟨a,ha,rfl⟩:=List.mem_map.mp (show z ∈ as.map Value.ref by simpa using hz)
  exact (he a ha).eqAt I _ _ _ (by first | (show X.A.units + _ + n < cLine; omega) | (simp only [jO]; omega)) rfl rfl
 ·exact ⟨.int (j:Int),H,I.kept (h':=s.heap) (fun _ _ e=>e),⟨s.toks,rfl⟩,q⟩
end
end L2
namespace TD
open PySem L2
open Builtin.Int (intBits)
theorem Fy {K:PySem.W.Frag}{H:Hp}{s:Sd.Sd}{d m:Nat} (ok:Sd.Ok s d m):∀ {a b:Addr}{t:Sd.Sd}{n:Nat},fK H a s->fK H b t->3 * d + 1 <= n->∃ k,DE K H n (.ref a) (.ref b) k /\ (k=true ↔ s=t):=by
 induction ok with
 | @en v d m h0 h9 hm =>
  intro a b t n ha hb hn
  obtain ⟨n,rfl⟩ : ∃ q,n=q + 1:=⟨n - 1,by omega⟩
  cases ha with
  | en ha =>
   cases hb with
   | @en _ v' hb =>
    refine ⟨_,.tup (fun j=>match j with | 0=>true | _=>(v == v')) (bZ.of ha) (bZ.of hb) fun j x y hx hy=>?_,?_⟩
    ·match j,hx,hy with
     | 0,hx,hy=>cases hx; cases hy; exact DE.str n "end" "end"
     | 1,hx,hy=>cases hx; cases hy; exact DE.int n v v'
     | j + 2,hx,_=>simp at hx
    ·show ((true && ((v == v') && true)) && true)=true ↔ _
     rw [Bool.and_true,Bool.and_true,Bool.true_and,beq_iff_eq]
     exact ⟨fun e=>by rw [e],fun e=>by injection e⟩
   | @st _ r p rs ps ys hb g lp ly row sub =>
    refine ⟨_,.tup (fun j=>match j with | 0=>false | _=>(v == p)) (bZ.of ha) (bZ.of hb) fun j x y hx hy=>?_,?_⟩
    ·match j,hx,hy with
     | 0,hx,hy=>cases hx; cases hy; exact DE.str n "end" "stage"
     | 1,hx,hy=>cases hx; cases hy; exact DE.int n v p
     | j + 2,hx,_=>simp at hx
    ·exact ⟨(fun e=>by cases e),(fun e=>by cases e)⟩
 | @st p rs d m f h0 h9 ne l4 w sub hk ih =>
  intro a b t n ha hb hn
  obtain ⟨n,rfl⟩ : ∃ q,n=q + 1 + 1 + 1:=⟨n - 3,by omega⟩
  cases ha with
  | @st _ r _ _ ps ys ha g lp ly row sub1 =>
  cases hb with
  | @en _ v' hb =>
   refine ⟨_,.tup (fun j=>match j with | 0=>false | _=>(p == v')) (bZ.of ha) (bZ.of hb) fun j x y hx hy=>?_,?_⟩
   ·match j,hx,hy with
    | 0,hx,hy=>cases hx; cases hy; exact DE.str _ "stage" "end"
    | 1,hx,hy=>cases hx; cases hy; exact DE.int _ p v'
    | j + 2,_,hy=>simp at hy
   ·exact ⟨(fun e=>by cases e),(fun e=>by cases e)⟩
  | @st _ r' p' rs' ps' ys' hb g' lp' ly' row' sub' =>
   have each:∀ j:Nat,∃ k,∀ x y,(ps.map V.ref)[j]? = some x->(ps'.map V.ref)[j]? = some y->DE K H (n + 1) x y k /\ (k=true ↔ rs[j]? = rs'[j]?):=fun j=>by
    by_cases h1:j < rs.length
    ·by_cases h2:j < rs'.length
     ·have e1:ps[j]? = some (ps[j]'(by omega)):=List.getElem?_eq_getElem _
      have e2:ys[j]? = some (ys[j]'(by omega)):=List.getElem?_eq_getElem _
      have e3:rs[j]? = some rs[j]:=List.getElem?_eq_getElem _
      have f1:ps'[j]? = some (ps'[j]'(by omega)):=List.getElem?_eq_getElem _
      have f2:ys'[j]? = some (ys'[j]'(by omega)):=List.getElem?_eq_getElem _
      have f3:rs'[j]? = some rs'[j]:=List.getElem?_eq_getElem _
      obtain ⟨k,de,hk⟩:=ih rs[j] (List.getElem_mem h1) (n:=n) (sub1 j _ _ e2 e3) (sub' j _ _ f2 f3) (by omega)
      refine ⟨(rs[j].1 == rs'[j].1) && k,fun x y hx hy=>⟨?_,?_⟩⟩
      ·rw [List.getElem?_map,e1] at hx
       rw [List.getElem?_map,f1] at hy
       cases hx
       cases hy
       have z:=DE.tup (K:=K) (fun i=>match i with | 0=>(rs[j].1 == rs'[j].1) | _=>k) (bZ.of (row j _ _ _ e1 e2 e3)) (bZ.of (row' j _ _ _ f1 f2 f3)) (n:=n) fun i x y hx hy=>by
        match i,hx,hy with
        | 0,hx,hy=>cases hx; cases hy; exact DE.int n _ _
        | 1,hx,hy=>cases hx; cases hy; exact de
        | i + 2,hx,_=>simp at hx
       have ez:((List.range (min [V.int rs[j].1,V.ref ys[j]].length [V.int rs'[j].1,V.ref ys'[j]].length)).all (fun i=>match i with | 0=>(rs[j].1 == rs'[j].1) | _=>k) && [V.int rs[j].1,V.ref ys[j]].length == [V.int rs'[j].1,V.ref ys'[j]].length)=((rs[j].1 == rs'[j].1) && k):=by
        generalize (rs[j].1 == rs'[j].1)=u
        cases u <;> cases k <;> rfl
       rw [ez] at z
       exact z
      ·rw [e3,f3,Bool.and_eq_true,beq_iff_eq,hk]
       exact ⟨fun ⟨q1,q2⟩=>congrArg some (Prod.ext q1 q2),fun q=>by injection q with q; exact ⟨by rw [q],by rw [q]⟩⟩
     ·exact ⟨false,fun x y hx hy=>by rw [List.getElem?_eq_none (by rw [List.length_map]; omega)] at hy; cases hy⟩
    ·exact ⟨false,fun x y hx hy=>by rw [List.getElem?_eq_none (by rw [List.length_map]; omega)] at hx; cases hx⟩
   have dr:DE K H (n + 1 + 1) (.ref r) (.ref r') ((List.range (min (ps.map V.ref).length (ps'.map V.ref).length)).all (fun j=>Classical.choose (each j)) && (ps.map V.ref).length == (ps'.map V.ref).length) :=
    .tup _ (bZ.of g) (bZ.of g') fun j x y hx hy=>(Classical.choose_spec (each j) x y hx hy).1
   have er:((List.range (min (ps.map V.ref).length (ps'.map V.ref).length)).all (fun j=>Classical.choose (each j)) && (ps.map V.ref).length == (ps'.map V.ref).length)=true ↔ rs=rs':=by
    rw [Bool.and_eq_true,beq_iff_eq,List.length_map,List.length_map,lp,lp',List.all_eq_true]
    have at_:∀ j,j < rs.length->j < rs'.length->(Classical.choose (each j)=true ↔ rs[j]? = rs'[j]?):=fun j h1 h2 =>
     (Classical.choose_spec (each j) (V.ref (ps[j]'(by omega))) (V.ref (ps'[j]'(by omega))) (by rw [List.getElem?_map,List.getElem?_eq_getElem (by omega)]; rfl) (by rw [List.getElem?_map,List.getElem?_eq_getElem (by omega)]; rfl)).2
    constructor
    ·rintro ⟨q1,q2⟩
     refine List.ext_getElem? fun j=>?_
     by_cases h:j < rs.length
     ·exact (at_ j h (by omega)).mp (q1 j (List.mem_range.mpr (by omega)))
     ·rw [List.getElem?_eq_none (by omega),List.getElem?_eq_none (by omega)]
    ·rintro rfl
     exact ⟨fun j hj=>(at_ j (by have:=List.mem_range.mp hj; omega) (by have:=List.mem_range.mp hj; omega)).mpr rfl,rfl⟩
   generalize ((List.range (min (ps.map V.ref).length (ps'.map V.ref).length)).all (fun j=>Classical.choose (each j)) && (ps.map V.ref).length == (ps'.map V.ref).length)=kr at dr er
   refine ⟨_,.tup (fun j=>match j with | 0=>true | 1=>(p == p') | _=>kr) (bZ.of ha) (bZ.of hb) fun j x y hx hy=>?_,?_⟩
   ·match j,hx,hy with
    | 0,hx,hy=>cases hx; cases hy; exact DE.str _ "stage" "stage"
    | 1,hx,hy=>cases hx; cases hy; exact DE.int _ p p'
    | 2,hx,hy=>cases hx; cases hy; exact dr
    | j + 3,hx,_=>simp at hx
   ·show ((true && ((p == p') && (kr && true))) && true)=true ↔ _
    rw [Bool.and_true,Bool.and_true,Bool.true_and,Bool.and_eq_true,beq_iff_eq,er]
    exact ⟨fun ⟨q1,q2⟩=>by rw [q1,q2],fun q=>by injection q with q1 q2; exact ⟨q1,q2⟩⟩
end TD
namespace L2
open PySem PySem.Spec PyProof.Rows
section
variable {X:Cx}
def TJ (K:PySem.W.Frag):R2:=fun x y H Q=>∃ a b xs ys,x = .ref a /\ y = .ref b /\ bZ K H a xs /\ bZ K H b ys /\ xs.length + ys.length <= sizeLine ∧
 (xs=[]->Q (.ref b) H) /\ (ys=[]->Q (.ref a) H) /\ ∀ p,H p=none->Q (.ref p) (aU H p (.tup (xs ++ ys)))
theorem zA:nW X (binaryOp .Add) (TJ X.K):=by
 intro pins s σ H x y v u Q I rx ry h
 obtain ⟨a,b,xs,ys,rfl,rfl,ha,hb,hz,q0,q1,q2⟩:=h
 by_cases hx:xs=[]
 ·cases rx
  cases ry
  obtain ⟨its,r1,p1,_⟩:=I.tuple ha
  obtain ⟨its2,r2,p2,_⟩:=I.tuple hb
  have e1:its=[]:=r1.nil_iff.mpr hx
  obtain ⟨⟨cls,dd,data,sl⟩,ho,hc,n,hd⟩:=id p1
  obtain ⟨⟨cls2,dd2,data2,sl2⟩,ho2,hc2,n2,hd2⟩:=id p2
  simp only at hc hd hc2 hd2
  subst hc hd hc2 hd2
  exact concat_meets ⟨_,ho,rfl⟩ ⟨_,ho2,rfl⟩ noFill_tuple_add seq_tuple_add PySem.F.slot_tuple_add PySem.F.entry_tuple_add (PySem.F.args_tuple_add_2 _ _)
   (tuple_addW0 a b its.toArray its2.toArray n n2 dd dd2 sl sl2 (by rw [e1]; rfl)) ⟨ho,ho2,.ref b,H,I,rfl,q0 hx⟩
 ·exact Mi pins s σ H _ _ v u Q I rx ry ⟨a,b,xs,ys,rfl,rfl,ha,hb,hx,hz,q1,fun _=>q2⟩
def La (K:PySem.W.Frag) (H:Hp) (n:Nat) (x y:V):Prop:=∀ (X:Cx) (pins:List (Addr × Obj)) (σ : St) (s:Shared),X.K=K->aY X pins σ H s->∀ (A:Around) (u v:Value),A.units + n < cLine->bL x u->bL y v->PySem.SeqAt.EqAt A s u v true
section
variable {K:PySem.W.Frag}{H:Hp}{n:Nat}
theorem La.of {x y:V} (d:DE K H n x y true):La K H n x y:=fun X pins σ s hK I A u v hu r1 r2=>by
 subst hK
 exact d.eqAt I A u v hu r1 r2
theorem La.non:La K H n .non .non:=fun X pins σ s hK I A u v hu r1 r2=>by
 cases (show u=Value.none from r1)
 cases (show v=Value.none from r2)
 exact PySem.SeqAt.EqAt.same _
theorem La.up {m:Nat}{x y:V} (h:La K H n x y) (hm:n <= m):La K H m x y:=fun X pins σ s hK I A u v hu r1 r2=>h X pins σ s hK I A u v (by omega) r1 r2
theorem La.lst {a b:Addr}{xs ys:List V} (ha:bM K H a xs) (hb:bM K H b ys) (hl:xs.length=ys.length) (h:∀ (j:Nat) x y,xs[j]? = some x->ys[j]? = some y->La K H n x y):La K H (n + 1) (.ref a) (.ref b):=fun X pins σ s hK I A u v hu r1 r2=>by
 subst hK
 cases (show u=Value.ref a from r1)
 cases (show v=Value.ref b from r2)
 by_cases hab:a=b
 ·subst hab
  exact PySem.SeqAt.EqAt.same _
 ·obtain ⟨its,r1,p1,_⟩:=I.list ha
  obtain ⟨its2,r2,p2,_⟩:=I.list hb
  refine PySem.SeqAt.EqAt.of_refs hab ?_
  have q:=PySem.SeqAt.RcAt.lists (A:=A) (e:=fun _=>true) p1.isList p2.isList (by rw [List.size_toArray,List.size_toArray,<- r1.length,<- r2.length]; exact hl) (by omega) (fun j h1 h2=>by
   obtain ⟨x,ex,rx⟩:=iQ r1 (j:=j) (by simpa using h1)
   obtain ⟨y,ey,ry⟩:=iQ r2 (j:=j) (by simpa using h2)
   rw [List.getElem_toArray,List.getElem_toArray]
   exact h j x y ex ey X pins σ s rfl I A.in1 _ _ (by rw [jO]; omega) rx ry)
  rw [show (List.range its.toArray.size).all (fun _=>true)=true from by simp] at q
  exact q
end
end
end L2
namespace TD
open PySem L2
open Builtin.Int (intBits)
def qD (tp tl th:Addr) (sp:Int) (td:Addr):List (Str × V):=[("present",.ref tp),("lowest",.ref tl),("held",.ref th),("spent",.int sp),("done",.ref td)]
inductive Hd (H:Hp):V->Prop where
 | non:Hd H .non
 | sh {a:Addr}{lv:Int × Int} (h:Tq H a lv) (w:Sd.Lw lv):Hd H (.ref a)
inductive tD (H:Hp):Addr->Prop where
 | op {q:Addr}{b r:Int} (h:H q=some (.tup [.str "open",.int b,.int r])):tD H q
 | tk {q:Addr}{b:Int} (h:H q=some (.tup [.str "take",.int b])):tD H q
structure Ca where
 dx:Addr
 tp:Addr
 tl:Addr
 th:Addr
 td:Addr
 ys:List Addr
 ss:List (Sd.Sd × Nat × Nat)
 ls:List V
 bs:List Bool
 sp:Int
 ds:List Addr
structure gG (c:Cs) (cC:Addr) (H:Hp) (x:Addr) (q:Ca):Prop where
 hx:H x=some (.ins cC q.dx (qD q.tp q.tl q.th q.sp q.td))
 hp:H q.tp=some (.tup (q.ys.map V.ref))
 hl:H q.tl=some (.tup q.ls)
 hh:H q.th=some (.tup (q.bs.map V.bl))
 hd:H q.td=some (.tup (q.ds.map V.ref))
 n1:1 <= q.ys.length
 n6:q.ys.length <= 6
 es:q.ss.length=q.ys.length
 el:q.ls.length=q.ys.length
 eb:q.bs.length=q.ys.length
 st:∀ (i:Nat) y s,q.ys[i]? = some y->q.ss[i]? = some s->d7 c H y s.1 s.2.1 s.2.2 /\ s.2.1 <= 4 /\ s.2.2 <= 12
 cp:∀ l ∈ q.ls,Hd H l
 en:∀ (i:Nat) s,q.bs[i]? = some true->q.ss[i]? = some s->∃ v,s.1 = .en v
 dd:∀ d ∈ q.ds,tD H d
 d9:q.ds.length <= 100
section
variable {c:Cs}{cC:Addr}{H H':Hp}{x:Addr}{q:Ca}
theorem Hd.kt (s:Kt H H') {l:V} (h:Hd H l):Hd H' l:=by
 cases h with
 | non=>exact .non
 | sh h w=>exact .sh (s.tup h) w
theorem tD.kt (s:Kt H H') {a:Addr} (h:tD H a):tD H' a:=by
 cases h with
 | op h=>exact .op (s.tup h)
 | tk h=>exact .tk (s.tup h)
theorem gG.kt (s:Kt H H') (h:gG c cC H x q):gG c cC H' x q :=
 ⟨s _ _ h.hx (fun _ z=>nomatch z),s.tup h.hp,s.tup h.hl,s.tup h.hh,s.tup h.hd,h.n1,h.n6,h.es,h.el,h.eb,fun i y t e1 e2=>⟨(h.st i y t e1 e2).1.kp s.kp,(h.st i y t e1 e2).2⟩,fun l hl=>(h.cp l hl).kt s,h.en,fun d hd=>(h.dd d hd).kt s,h.d9⟩
end
theorem Vc {n:Nat} (h:n <= 1000):n <= sizeLine:=Nat.le_of_lt (aQ h)
def KX (x:Addr) (H H':Hp):Prop:=∀ b o,b ≠ x->H b=some o->H' b=some o
theorem KX.refl (x:Addr) (H:Hp):KX x H H:=fun _ _ _ h=>h
theorem KX.trans {x:Addr}{H H1 H2:Hp} (a:KX x H H1) (b:KX x H1 H2):KX x H H2:=fun c o n h=>b c o n (a c o n h)
theorem KX.of {x:Addr}{H H':Hp} (s:aM H H'):KX x H H':=fun b o _ h=>s b o h
theorem KX.put {x:Addr}{H:Hp} (o:HO):KX x H (aU H x o):=fun b u n h=>by rw [aH n]; exact h
theorem uM {α : Type}:∀ {xs:List α}{i:Nat}{v:α},i < xs.length->xs.take i ++ [v] ++ xs.drop (i + 1)=xs.set i v
 | x :: xs,0,v,_=>by simp
 | x :: xs,i + 1,v,h=>by
  have:=uM (xs:=xs) (i:=i) (v:=v) (by simpa using h)
  simp only [List.take_succ_cons,List.cons_append,List.drop_succ_cons,List.set_cons_succ]
  rw [this]
theorem My {c:Cs}{K:PySem.W.Frag}{H:Hp}{a:Addr}{xs:List V} (e:H a=some (.lst xs)) (h:∀ x ∈ xs,Am c K H x true) (b:Bool) (hb:b=(decide (0 < (xs.length:Int)) && decide ((xs.length:Int) < 7))):sG c K H (.ref a) b:=by
 by_cases h1:1 <= xs.length
 ·by_cases h6:xs.length <= 6
  ·have z:=sG.all (c:=c) (K:=K) (bs:=List.replicate xs.length true) e h1 h6 (by simp) fun i x hx=>by
    have hi:=(List.getElem?_eq_some_iff.mp hx).1
    have e2:(List.replicate xs.length true).getD i false=true:=by simp [List.getD,hi]
    rw [e2]
    exact h x (List.mem_of_getElem? hx)
   have e2:(List.replicate xs.length true).all id=true:=by simp
   rw [e2] at z
   rw [hb,decide_eq_true (by omega),decide_eq_true (by omega)]
   exact z
  ·rw [hb,decide_eq_true (by omega),decide_eq_false (by omega)]
   exact .len e (by omega)
 ·rw [hb,decide_eq_false (by omega)]
  exact .len e (by omega)
theorem IK (xs:List V) (n:Nat) (h:n <= xs.length):jC xs none (some (n:Int))=xs.take n:=by
 unfold jC
 have e1:HT.gY xs.length 0 none=0:=rfl
 have e2:HT.gY xs.length xs.length (some (n:Int))=n:=by rw [HT.pL]; omega
 rw [e1,e2,List.drop_zero,Nat.sub_zero]
theorem Dn (xs:List V) (n:Nat) (h:n <= xs.length):jC xs (some (n:Int)) none=xs.drop n:=by
 unfold jC
 have e1:HT.gY xs.length xs.length none=xs.length:=rfl
 have e2:HT.gY xs.length 0 (some (n:Int))=n:=by rw [HT.pL]; omega
 rw [e1,e2,List.take_of_length_le (by rw [List.length_drop]; omega)]
theorem KX.kp {x:Addr}{H H':Hp}{o:HO} (k:KX x H H') (h:H x=some o) {b:Addr}{u:HO} (e:H b=some u) (n:u ≠ o):H' b=some u:=k b u (fun z=>n (by rw [z,h] at e; exact (Option.some.inj e).symm)) e
theorem d7.kx {c:Cs}{cC x:Addr}{q:Addr}{fs:List (Str × V)}{H H':Hp} (ne:cC ≠ c.e) (ns:cC ≠ c.s) (k:KX x H H') (hx:H x=some (.ins cC q fs)) {y:Addr}{s:Sd.Sd}{d m:Nat} (h:d7 c H y s d m):d7 c H' y s d m:=by
 induction h with
 | en h vv ok=>exact .en (k.kp hx h (fun z=>by injection z with z; exact ne z.symm)) (pX (fun b xs e=>k.kp hx e fun z=>nomatch z) vv) ok
 | st h vv g lp ly row sub p0 p9 ne' l4 w hk ih=>exact .st (k.kp hx h (fun z=>by injection z with z; exact ns z.symm)) (pX (fun b xs e=>k.kp hx e fun z=>nomatch z) vv) (k.kp hx g fun z=>nomatch z) lp ly (fun i q y t e1 e2 e3=>k.kp hx (row i q y t e1 e2 e3) fun z=>nomatch z) ih p0 p9 ne' l4 w hk
theorem tD.kx {cC x:Addr}{q:Addr}{fs:List (Str × V)}{H H':Hp} (k:KX x H H') (hx:H x=some (.ins cC q fs)) {a:Addr} (h:tD H a):tD H' a:=by
 cases h with
 | op h=>exact .op (k.kp hx h fun z=>nomatch z)
 | tk h=>exact .tk (k.kp hx h fun z=>nomatch z)
structure yM (K:PySem.W.Frag) (c:Cs) (cC:Addr):Prop where
 ne:cC ≠ c.e
 nS:cC ≠ c.s
 cl:Av K cC
 np:cG K cC "present"
 nl:cG K cC "lowest"
 nh:cG K cC "held"
 ns:cG K cC "spent"
 nd:cG K cC "done"
def jF (q:Ca):List Nat:=(List.range q.ys.length).filter fun i=>q.bs.getD i false
def dR (q:Ca):List Int:=(jF q).map Int.ofNat
def NQ:Option (Sd.Sd × Nat × Nat)->Int
 | some (.en v,_)=>v
 | _=>0
def Yp (q:Ca):Int:=((jF q).map fun i=>NQ q.ss[i]?).sum - q.sp
section
variable (c:Cs) (cC:Addr) (C:Addr)
def K4:Sp:=fun vs H Q _=>∃ (x:Addr) (q:Ca),vs=[.ref x] /\ gG c cC H x q /\ Q (.int (q.ys.length:Int)) H
def Qp:Sp:=fun vs H Q E=>∃ (x:Addr) (v:V) (q:Ca) (b:Bool),vs=[.ref x,v] /\ gG c cC H x q /\ lU H 0 ((q.ys.length:Int) - 1) v b /\ (b=true->Q .non H) /\ (b=false->E (.ref C) none H)
def Bh:Sp:=fun vs H Q E=>∃ (x:Addr) (v:V) (q:Ca) (b:Bool),vs=[.ref x,v] /\ gG c cC H x q /\ lU H 0 ((q.ys.length:Int) - 1) v b /\ (∀ (i:Nat) y,v = .int i->q.ys[i]? = some y->Q (.ref y) H) /\ (b=false->E (.ref C) none H)
def Ei:Sp:=fun vs H Q E=>∃ (x:Addr) (v:V) (q:Ca) (b:Bool),vs=[.ref x,v] /\ gG c cC H x q /\ lU H 0 ((q.ys.length:Int) - 1) v b /\ (∀ (i:Nat) l,v = .int i->q.ls[i]? = some l->Q l H) /\ (b=false->E (.ref C) none H)
def Kq:Sp:=fun vs H Q _=>∃ (x:Addr) (q:Ca),vs=[.ref x] /\ gG c cC H x q /\ ∀ l H',aM H H'->H' l=some (.lst ((dR q).map V.int))->Q (.ref l) H'
def KZ:Sp:=fun vs H Q _=>∃ (x:Addr) (q:Ca),vs=[.ref x] /\ gG c cC H x q /\ Q (.int q.sp) H
def Oc:Sp:=fun vs H Q _=>∃ (x:Addr) (q:Ca),vs=[.ref x] /\ gG c cC H x q /\ ∀ H',aM H H'->Q (.int (Yp q)) H'
def Wh:Sp:=fun vs H Q _=>∃ (x:Addr) (q:Ca),vs=[.ref x] /\ gG c cC H x q /\ ∀ l H',aM H H'->H' l=some (.lst (q.ds.map V.ref))->Q (.ref l) H'
def Iz (K:PySem.W.Frag) (CB:Addr):Sp:=fun vs H Q E =>
 (∃ (x dx a:Addr) (ys:List Addr),vs=[.ref x,.ref a] /\ H x=some (.ins cC dx []) /\ H a=some (.lst (ys.map V.ref)) /\ 1 <= ys.length /\ ys.length <= 6 /\ (∀ y ∈ ys,∃ s d m,d7 c H y s d m) ∧
  ∀ (tp tl th td:Addr) (H':Hp),(∀ b o,b ≠ x->H b=some o->H' b=some o)->H' x=some (.ins cC dx (qD tp tl th 0 td))->H' tp=some (.tup (ys.map V.ref))->H' tl=some (.tup (ys.map fun _=>V.non))->H' th=some (.tup (ys.map fun _=>V.bl false))->H' td=some (.tup [])->Q .non H') ∨
 ∃ (x:Addr) (v:V),vs=[.ref x,v] /\ sG c K H v false /\ ∀ H',aM H H'->E (.ref CB) none H'
def JD:Sp:=fun vs H Q _=>∃ (x dq:Addr) (q:Ca),vs=[.ref x,.ref dq] /\ gG c cC H x q /\ tD H dq /\ q.ds.length <= 99 /\ ∀ (x2 dx tp td:Addr) (H':Hp),H x2=none->aM H H'->gG c cC H' x2 { q with dx:=dx,tp:=tp,td:=td,ds:=q.ds ++ [dq] }->Q (.ref x2) H'
def Ow (K:PySem.W.Frag):Sp:=fun vs H Q _=>∃ (a:Addr) (xs:List V) (i:Nat) (v:V),vs=[.ref a,.int (i:Int),v] /\ H a=some (.tup xs) /\ i < xs.length /\ xs.length <= 900 /\ ∀ t H',aM H H'->H' t=some (.tup (xs.set i v))->Q (.ref t) H'
end
end TD
namespace TD
open PySem L2
open Builtin.Int (intBits)
def dN:Nat->Int
 | 0=>2
 | n + 1=>4 + 4 * (2 + dN n)
theorem Ju:∀ n,2 <= dN n
 | 0=>Int.le_refl _
 | n + 1=>by have:=Ju n; show (2:Int) <= 4 + 4 * (2 + dN n); omega
def KH (K:PySem.W.Frag):Sp:=fun vs H Q _=>∃ (a:Addr) (ns:List Int) (k:Int),vs=[.ref a,.int k] /\ bM K H a (ns.map V.int) /\ 0 <= k /\ ∀ l x b,H l=none->0 <= b->b <= 1->Q (.ref l) (aU H l (.lst [.int x,.int b]))
def Jd:Sp:=fun vs H Q _=>∃ (l:Addr) (x b m:Int),vs=[.ref l,.int m] /\ H l=some (.lst [.int x,.int b]) /\ 1 <= m /\ m <= 1000000001 /\ 0 <= b /\ b <= 99998 /\ ∀ r x' b' H',0 <= r->r < m->0 <= b'->b' <= b + 1->KX l H H'->H' l=some (.lst [.int x',.int b'])->Q (.int r) H'
def Mr (n:Nat):Sp:=fun vs H Q _=>∃ (a:Addr) (s:Sd.Sd) (d m:Nat),vs=[.ref a] /\ fK H a s /\ Sd.Ok s d m /\ d < n /\ ∀ H',aM H H'->Q (.int (Sd.nE (d + 1) s)) H'
def Mv (n0:Nat):Sp:=fun vs H Q _=>∃ (l:Addr) (x b lev most:Int) (n:Nat),vs=[.ref l,.int lev,.int most] /\ H l=some (.lst [.int x,.int b]) /\ lev=4 - (n:Int) /\ n <= 4 /\ n < n0 /\ 1 <= most /\ most <= 12 /\ 0 <= b /\ b + dN n <= 99990 ∧
 ∀ t s H' x' b',KX l H H'->H' l=some (.lst [.int x',.int b'])->0 <= b'->b' <= b + dN n->fK H' t s->Sd.Ok s n most.toNat->Q (.ref t) H'
theorem p9:XR 10 9:=⟨by decide,by decide,by decide⟩
theorem CQ {xs:List V}{P:V->Prop} (h:∀ v ∈ xs,P v) {r:Int} (r0:0 <= r) (r1:r < (xs.length:Int)):∃ v,Gk xs r=some v /\ P v:=by
 obtain ⟨j,rfl⟩ : ∃ j:Nat,r=(j:Int):=⟨r.toNat,by omega⟩
 have hj:j < xs.length:=by omega
 exact ⟨_,dG (List.getElem?_eq_getElem hj),h _ (List.getElem_mem hj)⟩
theorem KX.lst {l:Addr}{H H':Hp} (k:KX l H H') {x b:V} (hl:H l=some (.lst [x,b])) {a:Addr}{o:HO} (e:H a=some o) (n:∀ y z,o ≠ .lst [y,z]):H' a=some o:=k a o (fun z=>n x b (by rw [z,hl] at e; exact (Option.some.inj e).symm)) e
theorem Jb:∀ {l:List Int},(∀ z ∈ l,0 <= z)->0 <= l.sum
 | [],_=>Int.le_refl _
 | a :: l,h=>by
  have h1:=h a List.mem_cons_self
  have h2:=Jb (l:=l) fun z hz=>h z (List.mem_cons_of_mem _ hz)
  rw [List.sum_cons]
  omega
theorem Gb {n:Nat}:∀ (rs:List (Int × Sd.Sd)),(((rs.map fun r=>(Sd.nE n r.2).toNat).sum:Nat):Int)=(rs.map fun r=>Sd.nE n r.2).sum
 | []=>rfl
 | r :: rs=>by
  have h1:=Gb (n:=n) rs
  have h2:=Sd.xD n r.2
  rw [List.map_cons,List.map_cons,List.sum_cons,List.sum_cons]
  push_cast
  omega
end TD
namespace TD
open PySem L2
open Builtin.Int (intBits)
def Md (H:Hp) (t:Addr):Prop:=∃ s,fK H t s /\ Sd.Ok s 4 12
def Sg (c:Cs) (H:Hp) (y:Addr):Prop:=∃ s d m,d7 c H y s d m /\ d <= 4 /\ m <= 12
theorem Sg.kt {c:Cs}{H H':Hp} (s:Kt H H') {y:Addr} (h:Sg c H y):Sg c H' y:=let ⟨a,d,m,h,r⟩:=h; ⟨a,d,m,h.kp s.kp,r⟩
theorem Md.keep {H H':Hp} (k:∀ b xs,H b=some (.tup xs)->H' b=some (.tup xs)) {t:Addr} (h:Md H t):Md H' t:=let ⟨s,a,b⟩:=h; ⟨s,a.keep k,b⟩
def Nt (K:PySem.W.Frag):Sp:=fun vs H Q _=>∃ (a:Addr) (ns:List Int) (m:Int),vs=[.ref a,.int m] /\ bM K H a (ns.map V.int) /\ 1 <= m /\ m <= 6 /\ ∀ (l:Addr) (ts:List Addr) (H':Hp),aM H H'->H' l=some (.lst (ts.map V.ref))->(∀ t ∈ ts,Md H' t)->(ts.length:Int)=m->Q (.ref l) H'
theorem De {e:Addr->Bool}:∀ {ts:List Addr}{i:Nat}{a:Addr},ts[i]? = some a->e a=true->∃ j b,ts[j]? = some b /\ e b=true /\ j <= i /\ ∀ m c,m < j->ts[m]? = some c->e c=false
 | [],i,a,h,_=>by simp at h
 | t :: ts,i,a,h,ha=>by
  cases et:e t with
  | true=>exact ⟨0,t,rfl,et,Nat.zero_le _,fun m c hm=>absurd hm (Nat.not_lt_zero _)⟩
  | false =>
   match i,h with
   | 0,h=>cases h; rw [et] at ha; cases ha
   | i + 1,h =>
    obtain ⟨j,b,h1,h2,h3,h4⟩:=De (ts:=ts) (i:=i) h ha
    refine ⟨j + 1,b,h1,h2,by omega,fun m c hm hc=>?_⟩
    match m,hc,hm with
    | 0,hc,_=>cases hc; exact et
    | m + 1,hc,hm=>exact h4 m c (by omega) hc
structure Zg (H:Hp) (r:Addr) (q:Ca) (r1 r2 r3 r6:Addr) (ts:List Addr):Prop where
 hr:H r=some (.lst [.ref r1,.ref r2,.ref r3,.int q.sp,.int (Yp q),.ref r6])
 h1:H r1=some (.lst (ts.map V.ref))
 tl:ts.length=q.ss.length
 to:∀ (i:Nat) t s,ts[i]? = some t->q.ss[i]? = some s->fK H t s.1
 h2:H r2=some (.lst q.ls)
 h3:H r3=some (.lst ((dR q).map V.int))
 h6:H r6=some (.lst (q.ds.map V.ref))
structure Nx (K:PySem.W.Frag) (C:Addr) (cs:List Addr) (nb:Int):Prop where
 xt:XTy K C
 ve:PySem.W.kitOne K (.ref C) (.type "ValueError")=some true
 ks:∀ (i:Nat) (c:Addr),cs[i]? = some c->PySem.W.kitOne K (.ref C) (.ref c)=some (decide ((i:Int)=nb))
theorem An (x y:Int):decide (V.int x=V.int y)=decide (x=y):=by
 by_cases h:x=y
 ·rw [h,decide_eq_true rfl,decide_eq_true rfl]
 ·rw [decide_eq_false h,decide_eq_false (fun z=>h (by injection z))]
end TD
namespace Tb
def lo (l0 l1:Int) (ps:List Rw):List Rw:=ps.filter fun r=>decide (r.t * l1 < l0 * r.b)
def hiw (l0 l1:Int) (ps:List Rw):Int:=((ps.filter fun r=>!decide (r.t * l1 < l0 * r.b)).map Rw.w).sum
def lc (l0 l1:Int) (ps:List Rw):List Rw:=lo l0 l1 ps ++ (if 0 < hiw l0 l1 ps then [⟨l0,l1,hiw l0 l1 ps⟩] else [])
def dvw (g:Int) (ps:List Rw):List Rw:=ps.map fun r=>⟨r.t,r.b,r.w.fdiv g⟩
def lct (l0 l1:Int) (ps:List Rw):List Rw:=dvw (sO ((lc l0 l1 ps).map Rw.w)) (lc l0 l1 ps)
section
variable {l0 l1:Int} (fl:Fr.jJ l0 l1)
include fl
end
end Tb
namespace Sd
def tB (M:Int) (ps:List Tb.Rw):Int:=(ps.map fun r=>r.w * r.t * M.fdiv r.b).sum
def sm (ps:List Tb.Rw):Rat:=(ps.map fun r=>(r.w:Rat) * cv r).sum
end Sd
namespace TD
open PySem L2
open Builtin.Int (intBits)
def m8 (H:Hp) (y:Addr) (xs:List dJ):Prop:=∃ (C dx:Addr) (fs:List (Str × V)) (cp:Addr),H y=some (.ins C dx fs) /\ fs.lookup ("cap_rows" : Str)=some (V.ref cp) /\ Dj H cp xs
theorem d7.tab {c:Cs}{H:Hp}{y:Addr}{s:Sd.Sd}{d m:Nat} (h:d7 c H y s d m):∃ xs lv,m8 H y xs /\ Hy xs d m /\ (dX xs).Pairwise Tb.Lt /\ Sd.Mt s d lv (dX xs) /\ Sd.Lw lv:=by
 cases h with
 | en h vv ok=>exact ⟨_,_,⟨_,_,_,_,h,rfl,vv.caps⟩,vv.gs,vv.so,vv.mt,vv.lw⟩
 | st h vv g lp ly row sub p0 p9 ne l4 w hk=>exact ⟨_,_,⟨_,_,_,_,h,rfl,vv.caps⟩,vv.gs,vv.so,vv.mt,vv.lw⟩
theorem m8.kp {c:Cs}{H H':Hp}{y:Addr}{s:Sd.Sd}{d m:Nat}{xs:List dJ} (st:d7 c H y s d m) (k:Kp H H') (h:m8 H y xs):m8 H' y xs:=by
 obtain ⟨C,dx,fs,cp,h1,h2,h3⟩:=h
 cases fs with
 | nil=>cases h2
 | cons f fs=>exact ⟨C,dx,_,cp,k.ins h1,h2,h3.kp k⟩
theorem m8.same {H H':Hp}{y:Addr}{xs:List dJ} (k:aM H H') (h:m8 H y xs):m8 H' y xs:=by
 obtain ⟨C,dx,fs,cp,h1,h2,h3⟩:=h
 exact ⟨C,dx,fs,cp,k _ _ h1,h2,h3.kp (aM.kp k)⟩
structure Z6 (x:Int × Int):Prop where
 t:intBits x.1 <= 20000
 b:intBits x.2 <= 4400
 p:0 < x.2
theorem Mw {l:Int × Int} (h:Sd.Lw l):intBits l.2 <= 1501 /\ intBits l.1 <= 3031:=pO h.fq h.fr.pos h.b (Int.le_of_lt (Sd.cL _)) (Int.le_refl _)
section
variable (c:Cs) (cC:Addr) (C:Addr) (Pt:Addr) (lp:Pos)
structure BR (xs:List dJ):Prop where
 len:xs.length <= 40
 b:∀ x ∈ xs,0 < x.b
 t:∀ x ∈ xs,intBits x.t <= 4000
 w:∀ x ∈ xs,intBits x.w <= 1000
 z:∀ x ∈ xs,intBits x.b <= 4000
 lz:intBits (bT xs) <= 5000
structure At (H:Hp) (x:Addr) (i:Nat) (q:Ca) (y:Addr) (xs:List dJ):Prop where
 ca:gG c cC H x q
 yy:q.ys[i]? = some y
 tab:m8 H y xs
end
theorem Xw {α : Type}{G:α->Prop}{A:Prop} (Cond:α->Prop) (main:(∀ H1,Cond H1->G H1)->A) (fW:∀ H1,Cond H1->G H1):A:=main fW
theorem Nv {l:Int × Int} (h:Sd.Lw l):Z6 l:=by
 have b:=Mw h
 exact ⟨by omega,by omega,h.fr.pos⟩
theorem rT:∀ {ps qs:List Addr},ps.map V.ref=qs.map V.ref->ps=qs
 | [],[],_=>rfl
 | [],_ :: _,h=>nomatch h
 | _ :: _,[],h=>nomatch h
 | p :: ps,q :: qs,h=>by
  injection h with h1 h2
  injection h1 with h1
  rw [h1,rT h2]
theorem yR {H:Hp}{a:Addr}{s:Sd.Sd} (h:fK H a s):∀ {t:Sd.Sd},fK H a t->s=t:=by
 induction h with
 | en h =>
  intro t h2
  cases h2 with
  | en h' =>
   rw [h] at h'
   injection h' with h'
   injection h' with h'
   injection h' with _ h'
   injection h' with h'
   injection h' with h'
   rw [h']
  | st h' =>
   rw [h] at h'
   injection h' with h'
   injection h' with h'
   injection h' with h' _
   injection h' with h'
   exact absurd h' (by decide)
 | @st a r p rs ps ys h g lp ly row sub ih =>
  intro t h2
  cases h2 with
  | en h' =>
   rw [h] at h'
   injection h' with h'
   injection h' with h'
   injection h' with h' _
   injection h' with h'
   exact absurd h' (by decide)
  | @st _ r' p' rs' ps' ys' h' g' lp' ly' row' sub' =>
   rw [h] at h'
   injection h' with h'
   injection h' with h'
   injection h' with _ h'
   injection h' with e1 h'
   injection e1 with e1
   injection h' with e2 _
   injection e2 with e2
   subst e1 e2
   rw [g] at g'
   injection g' with g'
   injection g' with g'
   have ep:=rT g'
   subst ep
   have el:rs.length=rs'.length:=by omega
   have:rs=rs':=by
    refine List.ext_getElem el fun i h1 h2=>?_
    have a1:=row i ps[i] ys[i] rs[i] (List.getElem?_eq_getElem _) (List.getElem?_eq_getElem _) (List.getElem?_eq_getElem _)
    have a2:=row' i ps[i] ys'[i] rs'[i] (List.getElem?_eq_getElem _) (List.getElem?_eq_getElem _) (List.getElem?_eq_getElem _)
    rw [a1] at a2
    injection a2 with a2
    injection a2 with a2
    injection a2 with e1 a2
    injection e1 with e1
    injection a2 with e2 _
    injection e2 with e2
    have b2:=sub' i ys'[i] rs'[i] (List.getElem?_eq_getElem _) (List.getElem?_eq_getElem _)
    rw [<- e2] at b2
    have e3:=ih i ys[i] rs[i] (List.getElem?_eq_getElem _) (List.getElem?_eq_getElem _) b2
    exact Prod.ext e1 e3
   rw [this]
def Q8 (c:Cs) (H H':Hp) (ts ys:List Addr):Prop:=∀ (i:Nat) t y,ts[i]? = some t->ys[i]? = some y->∃ s,fK H t s /\ d7 c H' y s 4 12
theorem Ot {K:PySem.W.Frag}{H:Hp}{ts:List Addr} (h:∀ t ∈ ts,Md H t) {t:Addr} (ht:t ∈ ts):∃ e:Addr->Bool,(∀ a ∈ ts,DE K H 13 (.ref a) (.ref t) (e a)) /\ e t=true /\ ∀ a ∈ ts,e a=true->∀ s,fK H a s->fK H t s:=by
 have each:∀ a,∃ k,(a ∈ ts->DE K H 13 (.ref a) (.ref t) k /\ (k=true->∀ s,fK H a s->fK H t s)) /\ (a=t->k=true):=fun a=>by
  by_cases ha:a ∈ ts
  ·obtain ⟨s,to,ok⟩:=h a ha
   obtain ⟨s2,to2,ok2⟩:=h t ht
   obtain ⟨k,de,hk⟩:=Fy (K:=K) ok to to2 (Nat.le_refl 13)
   have un:∀ s',fK H a s'->s'=s:=fun s' to'=>by
    obtain ⟨k1,de1,hk1⟩:=Fy (K:=K) ok to to' (Nat.le_refl 13)
    obtain ⟨k2,de2,hk2⟩:=Fy (K:=K) ok to to (Nat.le_refl 13)
    exact (yR to' to)
   refine ⟨k,fun _=>⟨de,fun e s' to'=>?_⟩,fun e=>?_⟩
   ·rw [un s' to',hk.mp e]
    exact to2
   ·subst e
    exact hk.mpr (yR to to2)
  ·exact ⟨false,fun z=>absurd z ha,fun e=>absurd (e ▸ ht) ha⟩
 exact ⟨fun a=>Classical.choose (each a),fun a ha=>((Classical.choose_spec (each a)).1 ha).1,(Classical.choose_spec (each t)).2 rfl,fun a ha=>((Classical.choose_spec (each a)).1 ha).2⟩
def Nq (c:Cs) (Pt:Addr) (lp:Pos):Sp:=fun vs H Q _=>∃ (l:Addr) (ts:List Addr),vs=[.ref l] /\ H l=some (.lst (ts.map V.ref)) /\ (∀ t ∈ ts,Md H t) /\ 1 <= ts.length /\ ts.length <= 6 /\ fJ Pt lp lQ H ∧
 ∀ (r:Addr) (ys:List Addr) (H':Hp),cD Pt H H'->fJ Pt lp lQ H'->H r=none->H' r=some (.lst (ys.map V.ref))->ys.length=ts.length->Q8 c H H' ts ys->Q (.ref r) H'
def ZQ (H:Hp) (l:V) (xs:List dJ) (due:List Tb.Rw) (o:Option Rat):Prop:=(l = .non /\ due=dX xs /\ o=none) ∨ ∃ a lv,l = .ref a /\ Tq H a lv /\ Sd.Lw lv /\ due=Tb.lct lv.1 lv.2 (dX xs) /\ o=some (Sd.up (Sd.V lv) (dX xs) / ((cN xs:Int):Rat))
theorem ZQ.kt {H H':Hp}{l:V}{xs:List dJ}{due:List Tb.Rw}{o:Option Rat} (k:Kt H H') (h:ZQ H l xs due o):ZQ H' l xs due o:=by
 rcases h with h | ⟨a,lv,e,t,r⟩
 ·exact .inl h
 ·exact .inr ⟨a,lv,e,k.tup t,r⟩
section
variable {c:Cs}{cC:Addr}{Pt:Addr}{lp:Pos}{H:Hp}{Q:VK}{E:XK}{x:Addr}{i:Nat}{q:Ca}{y:Addr}{xs:List dJ}{d m:Nat}{l:V}{due:List Tb.Rw}{o:Option Rat}
end
end TD
namespace TD
open PySem L2
open Builtin.Int (intBits)
theorem Io {c:Cs}{H H':Hp}:∀ {ts ys:List Addr},ys.length=ts.length->Q8 c H H' ts ys->∃ ss:List Sd.Sd,ss.length=ts.length /\ (∀ (i:Nat) t s,ts[i]? = some t->ss[i]? = some s->fK H t s) /\ ∀ (i:Nat) y s,ys[i]? = some y->ss[i]? = some s->d7 c H' y s 4 12
 | [],[],_,_=>⟨[],rfl,fun i t s h=>by simp at h,fun i t s h=>by simp at h⟩
 | [],_ :: _,h,_=>by simp at h
 | _ :: _,[],h,_=>by simp at h
 | t :: ts,y :: ys,hl,h=>by
  obtain ⟨ss,l,a,b⟩:=Io (ts:=ts) (ys:=ys) (by simpa using hl) fun i t y e1 e2=>h (i + 1) t y e1 e2
  obtain ⟨s,to,st⟩:=h 0 t y rfl rfl
  refine ⟨s :: ss,by simp [l],fun i t' s' e1 e2=>?_,fun i t' s' e1 e2=>?_⟩
  ·cases i with
   | zero=>cases e1; cases e2; exact to
   | succ i=>exact a i t' s' e1 e2
  ·cases i with
   | zero=>cases e1; cases e2; exact st
   | succ i=>exact b i t' s' e1 e2
theorem Q8.kp {c:Cs}{H H1 H2:Hp}{ts ys:List Addr} (k:Kp H1 H2) (h:Q8 c H H1 ts ys):Q8 c H H2 ts ys:=fun i t y e1 e2=>let ⟨s,to,st⟩:=h i t y e1 e2; ⟨s,to,st.kp k⟩
def Mod (H:Hp) (ts:List Addr) (q:Ca):Prop:=∀ (i:Nat) t s,ts[i]? = some t->q.ss[i]? = some s->fK H t s.1
theorem Mod.keep {H H':Hp}{ts:List Addr}{q:Ca} (k:∀ b xs,H b=some (.tup xs)->H' b=some (.tup xs)) (h:Mod H ts q):Mod H' ts q:=fun i t s e1 e2=>(h i t s e1 e2).keep k
theorem gG.lst {c:Cs}{cC:Addr}{H:Hp}{x:Addr}{q:Ca}{l:Addr}{xs zs:List V} (h:gG c cC H x q) (e:H l=some (.lst xs)):gG c cC (aU H l (.lst zs)) x q:=by
 have kt:∀ b xs,H b=some (.tup xs)->aU H l (.lst zs) b=some (.tup xs):=fun b xs e1=>by rw [aH (bC e1 e fun z=>nomatch z)]; exact e1
 refine ⟨by rw [aH (bC h.hx e fun z=>nomatch z)]; exact h.hx,kt _ _ h.hp,kt _ _ h.hl,kt _ _ h.hh,kt _ _ h.hd,h.n1,h.n6,h.es,h.el,h.eb,fun i y s e1 e2=>⟨q9 e (h.st i y s e1 e2).1,(h.st i y s e1 e2).2⟩,fun v hv=>?_,h.en,fun d hd=>?_,h.d9⟩
 ·cases h.cp v hv with
  | non=>exact .non
  | sh a b=>exact .sh (kt _ _ a) b
 ·cases h.dd d hd with
  | op a=>exact .op (kt _ _ a)
  | tk a=>exact .tk (kt _ _ a)
theorem Ky (ns:List Int) (lo hi:Option Int):∃ ms:List Int,jC (ns.map V.int) lo hi=ms.map V.int /\ ms.length <= ns.length:=by
 unfold jC
 rw [List.length_map,<- List.map_drop,<- List.map_take]
 exact ⟨_,rfl,by rw [List.length_take,List.length_drop]; omega⟩
end TD
namespace L2
open PySem PySem.Spec PyProof.Rows
theorem aAL (H:Hp) (a:Addr) (o o':HO):aU (aU H a o) a o'=aU H a o':=by
 funext b
 by_cases h:b=a
 ·subst h; rw [aB,aB]
 ·rw [aH h,aH h,aH h]
theorem zZ {X:Cx}{K:PySem.W.Frag}{T:String} (h:X.K=K):gM X (.builtin "isinstance") (fun xs H Q=>∃ x t b,xs=[x,.ty T] /\ gK K H x t /\ PySem.W.kitOne K t (.type T)=some b /\ Q (.bl b) H):=by subst h; exact dD
theorem QK {X:Cx}{f:Value->Value->Sem Value}{r1 r2:R2} (h1:nW X f r1) (h2:nW X f r2):nW X f (fun x y H Q=>r1 x y H Q ∨ r2 x y H Q):=fun pins s σ H x y v u Q I rx ry h=>h.elim (h1 pins s σ H x y v u Q I rx ry) (h2 pins s σ H x y v u Q I rx ry)
section
variable {X:Cx}
theorem Ar:gM X (.type "dict") (fun xs H Q=>∃ p kvs,xs=[.ref p] /\ H p=some (.dK kvs) /\ ∀ l,H l=none->Q (.ref l) (aU H l (.dK kvs))):=by
 intro pins s σ H xs us Q I r h
 obtain ⟨p,kvs,rfl,e,q⟩:=h
 obtain ⟨u,rfl,rx⟩:=j4 r
 cases rx
 obtain ⟨z,hd,vs,rel,dd⟩:=J2 I.hok e
 have hn:=I.hok.fresh (Nat.le_refl s.heap.objs.size)
 have hl:vs.length=kvs.length:=rel.length.symm
 refine kt_call_dict hd dd (by rw [hl]; exact z) fun h' dd' hs=>?_
 have I1:=I.laid (a:=s.heap.objs.size) (o:=.dK []) (h':=s.heap.push { cls:=.type "dict",data:=.dict #[] }) (t':=s.toks) (fun _ _ q=>Heap.get?_push_of_some _ q) (Nat.le_refl _) (CP s.heap I.big)
 have he:∃ q,h'.get? s.heap.objs.size=some q:=let ⟨q,_,_,hq,_⟩:=dd'; ⟨q,hq⟩
 have hd2:(s.heap.objs.size == sysModules)=false:=beq_eq_false_iff_ne.mpr (Ne.symm (Nat.ne_of_lt I.big))
 have I2:=tV (t':=s.toks) I1 (by rw [aB]; exact True.intro) hs he (Eu z hd2 rel dd')
 rw [aAL] at I2
 exact ⟨.ref s.heap.objs.size,_,I2,rfl,q _ hn⟩
end
end L2
namespace TD
open PySem L2
open Builtin.Int (intBits)
structure SS where
 la:Addr
 ca:Addr
 ka:Addr
 da:Addr
 ts:List Addr
 ls:List V
 ks:List Int
 pd:Int
 ds:List Addr
def Ld (z:SS):List (cZ × V):=[(.inr "stands",.ref z.la),(.inr "caps",.ref z.ca),(.inr "kept",.ref z.ka),(.inr "paid",.int z.pd),(.inr "deeds",.ref z.da)]
structure tW (H:Hp) (a:Addr) (z:SS):Prop where
 hd:H a=some (.dK (Ld z))
 hs:H z.la=some (.lst (z.ts.map V.ref))
 hc:H z.ca=some (.lst z.ls)
 hk:H z.ka=some (.lst (z.ks.map V.int))
 hq:H z.da=some (.lst (z.ds.map V.ref))
 nd:[z.la,z.ca,z.ka,z.da].Nodup
structure z9 (H:Hp) (b:Addr) (z:SS):Prop where
 d:H b=none
 s:H z.la=none
 c:H z.ca=none
 k:H z.ka=none
 q:H z.da=none
theorem tW.kt {H H':Hp}{a:Addr}{z:SS} (k:Kt H H') (h:tW H a z):tW H' a z:=⟨k _ _ h.hd (fun _ z=>nomatch z),k.lst h.hs,k.lst h.hc,k.lst h.hk,k.lst h.hq,h.nd⟩
theorem z9.ne {H:Hp}{b m:Addr}{z:SS}{o:HO} (h:z9 H b z) (e:H m=some o):m ≠ b /\ m ≠ z.la /\ m ≠ z.ca /\ m ≠ z.ka /\ m ≠ z.da :=
 ⟨aO e h.d,aO e h.s,aO e h.c,aO e h.k,aO e h.q⟩
theorem z9.back {H H1:Hp}{b:Addr}{z:SS} (s:aM H H1) (h:z9 H1 b z):z9 H b z:=⟨s.free h.d,s.free h.s,s.free h.c,s.free h.k,s.free h.q⟩
theorem tW.over {H:Hp}{a m:Addr}{z:SS}{xs zs:List V} (h:tW H a z) (e:H m=some (.lst xs)) (n:m ≠ z.la /\ m ≠ z.ca /\ m ≠ z.ka /\ m ≠ z.da):tW (aU H m (.lst zs)) a z :=
 ⟨by rw [aH (bC h.hd e fun z=>nomatch z)]; exact h.hd,by rw [aH n.1.symm]; exact h.hs,by rw [aH n.2.1.symm]; exact h.hc,by rw [aH n.2.2.1.symm]; exact h.hk,by rw [aH n.2.2.2.symm]; exact h.hq,h.nd⟩
def Ud (H:Hp) (u v:V):Prop:=(u = .non /\ v = .non) ∨ ∃ a b lv,u = .ref a /\ v = .ref b /\ Tq H a lv /\ Tq H b lv /\ Sd.Lw lv
def QV (H:Hp) (u v:Addr):Prop:=(∃ b r:Int,H u=some (.tup [.str "open",.int b,.int r]) /\ H v=some (.tup [.str "open",.int b,.int r])) ∨ ∃ b:Int,H u=some (.tup [.str "take",.int b]) /\ H v=some (.tup [.str "take",.int b])
theorem Ud.keep {H H':Hp} (k:∀ b xs,H b=some (.tup xs)->H' b=some (.tup xs)) {u v:V} (h:Ud H u v):Ud H' u v:=by
 rcases h with h | ⟨a,b,lv,e1,e2,t1,t2,w⟩
 ·exact .inl h
 ·exact .inr ⟨a,b,lv,e1,e2,k _ _ t1,k _ _ t2,w⟩
theorem QV.keep {H H':Hp} (k:∀ b xs,H b=some (.tup xs)->H' b=some (.tup xs)) {u v:Addr} (h:QV H u v):QV H' u v:=by
 rcases h with ⟨b,r,e1,e2⟩ | ⟨b,e1,e2⟩
 ·exact .inl ⟨b,r,k _ _ e1,k _ _ e2⟩
 ·exact .inr ⟨b,k _ _ e1,k _ _ e2⟩
structure pA (H:Hp) (q:Ca) (z:SS):Prop where
 tl:z.ts.length=q.ys.length
 mo:Mod H z.ts q
 ll:z.ls.length=q.ys.length
 cp:∀ (i:Nat) u v,q.ls[i]? = some u->z.ls[i]? = some v->Ud H u v
 kk:z.ks.Perm (dR q)
 pd:z.pd=q.sp
 dl:z.ds.length=q.ds.length
 dd:∀ (i:Nat) u v,q.ds[i]? = some u->z.ds[i]? = some v->QV H u v
theorem pA.keep {H H':Hp}{q:Ca}{z:SS} (k:∀ b xs,H b=some (.tup xs)->H' b=some (.tup xs)) (h:pA H q z):pA H' q z :=
 ⟨h.tl,h.mo.keep k,h.ll,fun i u v e1 e2=>(h.cp i u v e1 e2).keep k,h.kk,h.pd,h.dl,fun i u v e1 e2=>(h.dd i u v e1 e2).keep k⟩
def Df (H H':Hp) (q q2:Ca) (i:Nat) (s:Sd.Sd) (d:Nat):Prop:=∃ L lv rv,q2.ls=q.ls.set i (.ref L) /\ Tq H' L lv /\ Sd.Lw lv /\ Sd.Lw rv /\ Sd.Rv s d rv ∧
 ((q.ls[i]? = some .non /\ lv=rv) ∨ ∃ l0 lv0,q.ls[i]? = some (.ref l0) /\ Tq H l0 lv0 /\ lv=if rv.1 * lv0.2 < lv0.1 * rv.2 then rv else lv0)
section
variable (c:Cs) (cC:Addr) (C:Addr)
def Ng:Sp:=fun vs H Q _=>∃ (l:Addr) (ts:List Addr),vs=[.ref l] /\ H l=some (.lst (ts.map V.ref)) /\ ts.length <= 6 /\ ∀ (a:Addr) (z:SS) (H':Hp),aM H H'->tW H' a z->z9 H a z->z.ts=ts->z.ls=ts.map (fun _=>V.non)->z.ks=[]->z.pd=0->z.ds=[]->Q (.ref a) H'
def Jg:Sp:=fun vs H Q _=>∃ (a:Addr) (z:SS),vs=[.ref a] /\ tW H a z /\ ∀ (b:Addr) (z':SS) (H':Hp),aM H H'->tW H' b z'->z9 H b z'->z'.ts=z.ts->z'.ls=z.ls->z'.ks=z.ks->z'.pd=z.pd->z'.ds=z.ds->Q (.ref b) H'
def Jk:Sp:=fun vs H Q _=>∃ (a:Addr) (z:SS) (w:Int->Int),vs=[.ref a] /\ tW H a z /\ (∀ b ∈ z.ks,∃ (i:Nat) (t:Addr),b=(i:Int) /\ z.ts[i]? = some t /\ fK H t (.en (w b))) /\ z.ks.length <= 100 /\ ∀ H',aM H H'->Q (.int ((z.ks.map w).sum - z.pd)) H'
def O8:Sp:=fun vs H Q _=>∃ (l d:Addr) (ns:List Int),vs=[.ref l,.ref d] /\ H l=some (.lst (ns.map V.int)) /\ H d=some (.lst (ns.map V.int)) /\ ns.length <= 900 /\ ∀ H',KX l H H'->Q (.bl true) H'
def Og:Sp:=fun vs H Q _=>∃ (l d:Addr) (us ws:List Addr),vs=[.ref l,.ref d] /\ H l=some (.lst (us.map V.ref)) /\ H d=some (.lst (ws.map V.ref)) /\ us.length=ws.length /\ us.length <= 900 /\ (∀ (i:Nat) u v,us[i]? = some u->ws[i]? = some v->QV H u v) /\ ∀ H',KX l H H'->Q (.bl true) H'
def RW:Sp:=fun vs H Q _=>∃ (x a:Addr) (q:Ca) (z:SS),vs=[.ref x,.ref a] /\ gG c cC H x q /\ tW H a z /\ pA H q z /\ ∀ H',aM H H'->Q (.bl true) H'
def Ol:Sp:=fun vs H Q _=>∃ (v:V) (b:Addr) (lv:Int × Int),vs=[v,.ref b] /\ Tq H b lv /\ Sd.Lw lv /\ ((v = .non /\ Q (.ref b) H) ∨ ∃ a lva,v = .ref a /\ Tq H a lva /\ Sd.Lw lva /\ (lv.1 * lva.2 < lva.1 * lv.2->Q (.ref b) H) /\ (¬ lv.1 * lva.2 < lva.1 * lv.2->Q v H))
def NP (H:Hp) (v v':V) (s:Sd.Sd) (d:Nat):Prop:=∃ L lv rv,v' = .ref L /\ Tq H L lv /\ Sd.Lw rv /\ Sd.Rv s d rv /\ ((v = .non /\ lv=rv) ∨ ∃ a lva,v = .ref a /\ Tq H a lva /\ Sd.Lw lva /\ lv=if rv.1 * lva.2 < lva.1 * rv.2 then rv else lva)
def Nh:Sp:=fun vs H Q _=>∃ (x a:Addr) (i j:Nat) (q:Ca) (z:SS) (p:Int) (rs:List (Int × Sd.Sd)) (d m:Nat),vs=[.ref x,.ref a,.int (i:Int),.int (j:Int)] /\ gG c cC H x q /\ tW H a z /\ pA H q z /\ q.ss[i]? = some (.st p rs,d,m) /\ j < rs.length /\ q.ds.length <= 99 ∧
 ∀ (b:Addr) (z':SS) (H':Hp) (t' dd:Addr) (v v':V) (r:Int × Sd.Sd),aM H H'->tW H' b z'->z9 H b z'->rs[j]? = some r->fK H' t' r.2->z'.ts=z.ts.set i t'->z.ls[i]? = some v->NP H' v v' (.st p rs) d->z'.ls=z.ls.set i v'->z'.ks=z.ks->z'.pd=z.pd + p->z'.ds=z.ds ++ [dd]->H' dd=some (.tup [.str "open",.int (i:Int),.int (j:Int)])->Q (.ref b) H'
def O1:Sp:=fun vs H Q _=>∃ (a:Addr) (i:Nat) (z:SS),vs=[.ref a,.int (i:Int)] /\ tW H a z /\ z.ds.length <= 99 /\ z.ks.length <= 99 ∧
 ∀ (b:Addr) (z':SS) (H':Hp) (dd:Addr),aM H H'->tW H' b z'->z9 H b z'->z'.ts=z.ts->z'.ls=z.ls->z'.ks=z.ks ++ [(i:Int)]->z'.pd=z.pd->z'.ds=z.ds ++ [dd]->H' dd=some (.tup [.str "take",.int (i:Int)])->Q (.ref b) H'
def Ob:Sp:=fun vs H Q _=>∃ (x:Addr) (i j:Nat) (q:Ca) (p:Int) (rs:List (Int × Sd.Sd)) (d m:Nat),vs=[.ref x,.int (i:Int),.int (j:Int)] /\ gG c cC H x q /\ q.ss[i]? = some (.st p rs,d,m) /\ j < rs.length /\ q.ds.length <= 99 ∧
 ∀ x2 q2 H',aM H H'->gG c cC H' x2 q2->q2.ys.length=q.ys.length->(∃ t d2 m2,rs[j]? = some t /\ q2.ss=q.ss.set i (t.2,d2,m2))->q2.bs=q.bs->Df H H' q q2 i (.st p rs) d->q2.sp=q.sp + p->(∃ t,q2.ds=q.ds ++ [t] /\ H' t=some (.tup [.str "open",.int (i:Int),.int (j:Int)]))->Q (.ref x2) H'
def O2:Sp:=fun vs H Q _=>∃ (x:Addr) (i:Nat) (q:Ca) (u:Int) (d m:Nat),vs=[.ref x,.int (i:Int)] /\ gG c cC H x q /\ q.ss[i]? = some (.en u,d,m) /\ q.bs[i]? = some false /\ q.ds.length <= 99 ∧
 ∀ x2 q2 H',aM H H'->gG c cC H' x2 q2->q2.ys.length=q.ys.length->q2.ss=q.ss->q2.bs=q.bs.set i true->q2.ls=q.ls->q2.sp=q.sp->(∃ t,q2.ds=q.ds ++ [t] /\ H' t=some (.tup [.str "take",.int (i:Int)]))->Q (.ref x2) H'
end
def Fw (c:Cs) (cC:Addr):Sp:=fun vs H Q _=>∃ (x:Addr) (q:Ca),vs=[.ref x] /\ gG c cC H x q /\ ∀ l H',aM H H'->H l=none->H' l=some (.lst ((dR q).map V.int))->Q (.ref l) H'
def Jh (c:Cs) (cC:Addr):Sp:=fun vs H Q _=>∃ (x:Addr) (q:Ca),vs=[.ref x] /\ gG c cC H x q /\ ∀ l H',aM H H'->H l=none->H' l=some (.lst (q.ds.map V.ref))->Q (.ref l) H'
theorem Kz {l1 l2:List Int} (h:l1.Perm l2):l1.sum=l2.sum:=by
 induction h with
 | nil=>rfl
 | cons x _ ih=>rw [List.sum_cons,List.sum_cons,ih]
 | swap x y l=>simp only [List.sum_cons]; omega
 | trans _ _ a b=>exact a.trans b
theorem Mm (q:Ca):(dR q).Pairwise (· <= ·):=by
 unfold dR jF
 refine List.pairwise_map.mpr (List.Pairwise.sublist List.filter_sublist ?_)
 exact (List.pairwise_lt_range).imp fun h=>Int.ofNat_le.mpr (Nat.le_of_lt h)
theorem Bm {q:Ca}{ks ms:List Int} (p:ms.Perm ks) (k:ks.Perm (dR q)) (h:ms.Pairwise (· <= ·)):ms=dR q:=(p.trans k).eq_of_pairwise (fun _ _ _ _ a b=>Int.le_antisymm a b) h (Mm q)
theorem Pk {q:Ca}{ks:List Int} (k:ks.Perm (dR q)):(ks.map fun b=>NQ q.ss[b.toNat]?).sum - q.sp=Yp q:=by
 unfold Yp
 rw [Kz (k.map _)]
 unfold dR
 rw [List.map_map]
 rfl
theorem Nb {c:Cs}{cC:Addr}{H:Hp}{x:Addr}{q:Ca} (h:gG c cC H x q) {b:Int} (hb:b ∈ dR q):∃ (i:Nat) (u:Int) (d m:Nat),b=(i:Int) /\ i < q.ys.length /\ q.ss[i]? = some (.en u,d,m) /\ NQ q.ss[b.toNat]? = u:=by
 obtain ⟨i,hi,rfl⟩:=List.mem_map.mp hb
 obtain ⟨h1,h2⟩:=List.mem_filter.mp hi
 have hl:i < q.ys.length:=List.mem_range.mp h1
 have es:=h.es
 have eb:=h.eb
 have e1:q.bs[i]? = some true:=by
  rw [List.getElem?_eq_getElem (show i < q.bs.length by omega),<- fQ (d:=false) (show i < q.bs.length by omega),h2]
 have e2:q.ss[i]? = some (q.ss[i]'(by omega)):=List.getElem?_eq_getElem _
 obtain ⟨v,ev⟩:=h.en i _ e1 e2
 generalize q.ss[i]'(by omega)=s at e2 ev
 obtain ⟨sd,d,m⟩:=s
 cases ev
 refine ⟨i,v,d,m,rfl,hl,e2,?_⟩
 show NQ q.ss[i]? = v
 rw [e2]
 rfl
theorem CV {c:Cs}{cC:Addr}{H H3:Hp}{x dx tp tl th td:Addr}{ts ys:List Addr} (hx3:H3 x=some (.ins cC dx (qD tp tl th 0 td))) (htp:H3 tp=some (.tup (ys.map V.ref))) (htl:H3 tl=some (.tup (ys.map fun _=>V.non))) (hth:H3 th=some (.tup (ys.map fun _=>V.bl false))) (htd:H3 td=some (.tup []))
  (n1:1 <= ys.length) (n6:ys.length <= 6) (yl:ys.length=ts.length) (cor:Q8 c H H3 ts ys) (kt:∀ b xs,H b=some (.tup xs)->H3 b=some (.tup xs)):∃ q1:Ca,gG c cC H3 x q1 /\ q1.ys=ys /\ q1.ds=[] /\ Mod H3 ts q1 /\ q1.ls=ys.map (fun _=>V.non) /\ q1.bs=ys.map (fun _=>false) /\ q1.sp=0:=by
 obtain ⟨ss,sl,a,b⟩:=Io yl cor
 refine ⟨⟨dx,tp,tl,th,td,ys,ss.map fun s=>(s,4,12),ys.map fun _=>V.non,ys.map fun _=>false,0,[]⟩,⟨hx3,htp,htl,?_,htd,n1,n6,?_,by rw [List.length_map],by rw [List.length_map],fun i y s e1 e2=>?_,fun v hv=>?_,fun i s e1 _=>?_,(fun d hd=>nomatch hd),Nat.zero_le _⟩,rfl,rfl,fun i t s e1 e2=>?_,rfl,rfl,rfl⟩
 ·show H3 th=some (.tup ((ys.map fun _=>false).map V.bl))
  rw [List.map_map]
  exact hth
 ·show (ss.map _).length=ys.length
  rw [List.length_map]
  omega
 ·rw [List.getElem?_map] at e2
  cases e:ss[i]? with
  | none=>rw [e] at e2; cases e2
  | some z=>rw [e] at e2; cases e2; exact ⟨b i y z e1 e,Nat.le_refl 4,Nat.le_refl 12⟩
 ·obtain ⟨_,_,rfl⟩:=List.mem_map.mp hv
  exact .non
 ·rw [List.getElem?_map] at e1
  cases e:ys[i]? with
  | none=>rw [e] at e1; cases e1
  | some y=>rw [e] at e1; cases e1
 ·rw [List.getElem?_map] at e2
  cases e:ss[i]? with
  | none=>rw [e] at e2; cases e2
  | some z=>rw [e] at e2; cases e2; exact (a i t z e1 e).keep kt
theorem jX {q:Ca}{b:Nat}:(b:Int) ∈ dR q ↔ b < q.ys.length /\ q.bs.getD b false=true:=by
 unfold dR jF
 constructor
 ·intro h
  obtain ⟨i,hi,e⟩:=List.mem_map.mp h
  obtain ⟨h1,h2⟩:=List.mem_filter.mp hi
  have:i=b:=Int.ofNat.inj e
  subst this
  exact ⟨List.mem_range.mp h1,h2⟩
 ·rintro ⟨h1,h2⟩
  exact List.mem_map.mpr ⟨b,List.mem_filter.mpr ⟨List.mem_range.mpr h1,h2⟩,rfl⟩
theorem GK (q:Ca):(dR q).Nodup:=by
 unfold dR jF
 exact (List.pairwise_map.mpr ((List.Pairwise.sublist List.filter_sublist List.nodup_range).imp fun h e=>h (Int.ofNat.inj e)))
theorem Hl {q q2:Ca}{b:Nat} (hb:b < q.ys.length) (hl:q.bs.length=q.ys.length) (e:q.bs[b]? = some false) (ey:q2.ys.length=q.ys.length) (eb:q2.bs=q.bs.set b true):((dR q) ++ [(b:Int)]).Perm (dR q2):=by
 have nb:(b:Int) ∉ dR q:=fun h=>by
  have:=(jX.mp h).2
  rw [fQ (show b < q.bs.length by omega)] at this
  rw [List.getElem?_eq_getElem (show b < q.bs.length by omega)] at e
  rw [this] at e
  cases e
 refine (List.perm_ext_iff_of_nodup ?_ (GK q2)).mpr fun x=>?_
 ·refine List.nodup_append.mpr ⟨GK q,by simp,fun x hx y hy=>?_⟩
  rw [List.mem_singleton.mp hy]
  exact fun z=>nb (z ▸ hx)
 ·constructor
  ·intro h
   rcases List.mem_append.mp h with h | h
   ·obtain ⟨i,_,rfl⟩:=List.mem_map.mp h
    obtain ⟨h1,h2⟩:=jX.mp h
    refine jX.mpr ⟨by omega,?_⟩
    rw [eb,List.getD_eq_getElem?_getD,List.getElem?_set]
    by_cases z:b=i
    ·rw [if_pos z,if_pos (by omega)]; rfl
    ·rw [if_neg z,<- List.getD_eq_getElem?_getD]; exact h2
   ·rw [List.mem_singleton.mp h]
    refine jX.mpr ⟨by omega,?_⟩
    rw [eb,List.getD_eq_getElem?_getD,List.getElem?_set,if_pos rfl,if_pos (by omega)]
    rfl
  ·intro h
   obtain ⟨i,_,rfl⟩:=List.mem_map.mp h
   obtain ⟨h1,h2⟩:=jX.mp h
   rw [eb,List.getD_eq_getElem?_getD,List.getElem?_set] at h2
   by_cases z:b=i
   ·exact List.mem_append_right _ (by rw [z]; exact List.mem_singleton.mpr rfl)
   ·rw [if_neg z,<- List.getD_eq_getElem?_getD] at h2
    exact List.mem_append_left _ (jX.mpr ⟨by omega,h2⟩)
theorem Ig {q q2:Ca} (ey:q2.ys.length=q.ys.length) (eb:q2.bs=q.bs):dR q2=dR q:=by
 unfold dR jF
 rw [ey,eb]
theorem Il (ks:List Int):(ks.map V.int).all qG=true:=List.all_eq_true.mpr fun v hv=>by
 obtain ⟨i,_,rfl⟩:=List.mem_map.mp hv
 rfl
theorem jH {α : Type}{xs:List α}{i j:Nat}{v w:α} (h:(xs.set i v)[j]? = some w):(i=j /\ w=v) ∨ (i ≠ j /\ xs[j]? = some w):=by
 rw [List.getElem?_set] at h
 by_cases e:i=j
 ·rw [if_pos e] at h
  split at h
  ·cases h; exact .inl ⟨e,rfl⟩
  ·cases h
 ·rw [if_neg e] at h
  exact .inr ⟨e,h⟩
theorem Gi {H:Hp}{a:Addr}{x y:Int × Int} (h:Tq H a x) (g:Tq H a y):x=y:=by
 have h':H a=some (.tup [.int x.1,.int x.2]):=h
 have g':H a=some (.tup [.int y.1,.int y.2]):=g
 rw [h'] at g'
 injection g' with q1
 injection q1 with q1
 injection q1 with a b
 injection a with a
 injection b with b
 injection b with b
 exact Prod.ext a b
theorem Ke {H H6 H':Hp}{q q2:Ca}{z z':SS}{i j:Nat}{p:Int}{rs:List (Int × Sd.Sd)}{d:Nat}{t' dd td:Addr}{v v':V}{r t:Int × Sd.Sd}{d2 m2:Nat} (rel:pA H q z) (kt:∀ b xs,H b=some (.tup xs)->H' b=some (.tup xs)) (kt6:∀ b xs,H6 b=some (.tup xs)->H' b=some (.tup xs))
  (e1:rs[j]? = some r) (to:fK H' t' r.2) (ets:z'.ts=z.ts.set i t') (ev:z.ls[i]? = some v) (lc:NP H' v v' (.st p rs) d) (els:z'.ls=z.ls.set i v') (eks:z'.ks=z.ks) (epd:z'.pd=z.pd + p) (eds:z'.ds=z.ds ++ [dd]) (hdd:H' dd=some (.tup [.str "open",.int (i:Int),.int (j:Int)]))
  (ey:q2.ys.length=q.ys.length) (e2:rs[j]? = some t) (ess:q2.ss=q.ss.set i (t.2,d2,m2)) (ebs:q2.bs=q.bs) (nc:Df H6 H' q q2 i (.st p rs) d) (esp:q2.sp=q.sp + p) (edq:q2.ds=q.ds ++ [td]) (htd:H' td=some (.tup [.str "open",.int (i:Int),.int (j:Int)])):pA H' q2 z':=by
 have r0:=rel.keep kt
 rw [e1] at e2
 cases e2
 refine ⟨by rw [ets,List.length_set,ey]; exact rel.tl,fun u t s h1 h2=>?_,by rw [els,List.length_set,ey]; exact rel.ll,fun u a b h1 h2=>?_,by rw [eks,Ig ey ebs]; exact rel.kk,by rw [epd,esp,rel.pd],by rw [eds,edq,List.length_append,List.length_append,rel.dl]; rfl,fun u a b h1 h2=>?_⟩
 ·rw [ets] at h1
  rw [ess] at h2
  rcases jH h1 with ⟨x1,x2⟩ | ⟨x1,x2⟩ <;> rcases jH h2 with ⟨y1,y2⟩ | ⟨y1,y2⟩
  ·rw [x2,y2]; exact to
  ·exact absurd x1 y1
  ·exact absurd y1 x1
  ·exact r0.mo u t s x2 y2
 ·obtain ⟨L,lv,rv,n1,n2,n3,n4,n5,n6⟩:=nc
  obtain ⟨L',lv',rv',m1,m2,m3,m4,m5⟩:=lc
  rw [n1] at h1
  rw [els] at h2
  rcases jH h1 with ⟨x1,x2⟩ | ⟨x1,x2⟩ <;> rcases jH h2 with ⟨y1,y2⟩ | ⟨y1,y2⟩
  ·have er:rv=rv':=n5.one m4 n4.fr m3.fr
   subst er
   rw [x2,y2,m1]
   have elv:lv=lv':=by
    rcases n6 with ⟨c1,c2⟩ | ⟨l0,lv0,c1,c2,c3⟩ <;> rcases m5 with ⟨g1,g2⟩ | ⟨a1,lva,g1,g2,g3,g4⟩
    ·rw [c2,g2]
    ·rcases rel.cp i _ _ c1 ev with ⟨_,f⟩ | ⟨_,_,_,f,_⟩
     ·rw [g1] at f; cases f
     ·cases f
    ·rcases rel.cp i _ _ c1 ev with ⟨f,_⟩ | ⟨_,_,_,_,f,_⟩
     ·cases f
     ·rw [g1] at f; cases f
    ·rcases r0.cp i _ _ c1 ev with ⟨f,_⟩ | ⟨a3,b3,lv3,f1,f2,f3,f4,_⟩
     ·cases f
     ·cases f1
      rw [g1] at f2
      cases f2
      have w1:lv3=lv0:=Gi f3 (kt6 _ _ c2)
      have w2:lv3=lva:=Gi f4 g2
      rw [c3,g4,<- w1,<- w2]
   subst elv
   exact .inr ⟨L,L',lv,rfl,rfl,n2,m2,n3⟩
  ·exact absurd x1 y1
  ·exact absurd y1 x1
  ·exact r0.cp u a b x2 y2
 ·rw [edq] at h1
  rw [eds] at h2
  have dl:=rel.dl
  by_cases hu:u < q.ds.length
  ·rw [List.getElem?_append_left hu] at h1
   rw [List.getElem?_append_left (by omega)] at h2
   exact r0.dd u a b h1 h2
  ·rw [List.getElem?_append_right (by omega)] at h1 h2
   have:u=q.ds.length:=by have:=(List.getElem?_eq_some_iff.mp h1).1; simp at this; omega
   subst this
   rw [Nat.sub_self] at h1
   rw [show q.ds.length - z.ds.length=0 by omega] at h2
   cases h1
   cases h2
   exact .inl ⟨_,_,htd,hdd⟩
theorem Ku {H H':Hp}{q q2:Ca}{z z':SS}{i:Nat}{dd td:Addr} (rel:pA H q z) (kt:∀ b xs,H b=some (.tup xs)->H' b=some (.tup xs)) (hi:i < q.ys.length) (hb:q.bs.length=q.ys.length) (e0:q.bs[i]? = some false)
  (ets:z'.ts=z.ts) (els:z'.ls=z.ls) (eks:z'.ks=z.ks ++ [(i:Int)]) (epd:z'.pd=z.pd) (eds:z'.ds=z.ds ++ [dd]) (hdd:H' dd=some (.tup [.str "take",.int (i:Int)]))
  (ey:q2.ys.length=q.ys.length) (ess:q2.ss=q.ss) (ebs:q2.bs=q.bs.set i true) (elq:q2.ls=q.ls) (esp:q2.sp=q.sp) (edq:q2.ds=q.ds ++ [td]) (htd:H' td=some (.tup [.str "take",.int (i:Int)])):pA H' q2 z':=by
 have r0:=rel.keep kt
 refine ⟨by rw [ets,ey]; exact rel.tl,fun u t s h1 h2=>r0.mo u t s (ets ▸ h1) (ess ▸ h2),by rw [els,ey]; exact rel.ll,fun u a b h1 h2=>r0.cp u a b (elq ▸ h1) (els ▸ h2),?_,by rw [epd,esp,rel.pd],by rw [eds,edq,List.length_append,List.length_append,rel.dl]; rfl,fun u a b h1 h2=>?_⟩
 ·rw [eks]
  exact (rel.kk.append_right _).trans (Hl hi hb e0 ey ebs)
 ·rw [edq] at h1
  rw [eds] at h2
  have dl:=rel.dl
  by_cases hu:u < q.ds.length
  ·rw [List.getElem?_append_left hu] at h1
   rw [List.getElem?_append_left (by omega)] at h2
   exact r0.dd u a b h1 h2
  ·rw [List.getElem?_append_right (by omega)] at h1 h2
   have:u=q.ds.length:=by have:=(List.getElem?_eq_some_iff.mp h1).1; simp at this; omega
   subst this
   rw [Nat.sub_self] at h1
   rw [show q.ds.length - z.ds.length=0 by omega] at h2
   cases h1
   cases h2
   exact .inr ⟨_,htd,hdd⟩
def yG (m:Addr) (z:SS):Prop:=m ≠ z.la /\ m ≠ z.ca /\ m ≠ z.ka /\ m ≠ z.da
def Pr (c:Cs) (cC:Addr) (H:Hp) (mk p:Addr):Prop:=∃ x q a z,H p=some (.tup [.ref x,.ref a]) /\ gG c cC H x q /\ tW H a z /\ pA H q z /\ yG mk z
structure LI (c:Cs) (cC:Addr) (A1 mk:Addr) (ms:List Int) (M:Int) (H:Hp) (i:Nat) (x a:Addr) (q:Ca) (z:SS) (ps:List Addr):Prop where
 hA:H A1=some (.lst (ms.map V.int))
 hm:H mk=some (.lst (ps.map V.ref))
 ca:gG c cC H x q
 st:tW H a z
 re:pA H q z
 ap:yG mk z
 ly:(q.ys.length:Int)=M
 ld:q.ds.length <= i
 lp:ps.length <= i + 1
 pr:∀ p ∈ ps,Pr c cC H mk p
section
variable {c:Cs}{cC A1 mk:Addr}{ms:List Int}{M:Int}{H H':Hp}{i:Nat}{x a:Addr}{q:Ca}{z:SS}{ps:List Addr}
theorem Pr.same (s:aM H H') {p:Addr} (h:Pr c cC H mk p):Pr c cC H' mk p:=by
 obtain ⟨x,q,a,z,e,hc,hs,re,ap⟩:=h
 exact ⟨x,q,a,z,s _ _ e,hc.kt (aM.kt s),hs.kt (aM.kt s),re.keep (fun b xs e=>s _ _ e),ap⟩
theorem LI.same (s:aM H H') (h:LI c cC A1 mk ms M H i x a q z ps):LI c cC A1 mk ms M H' i x a q z ps :=
 ⟨s _ _ h.hA,s _ _ h.hm,h.ca.kt (aM.kt s),h.st.kt (aM.kt s),h.re.keep (fun b xs e=>s _ _ e),h.ap,h.ly,h.ld,h.lp,fun p hp=>(h.pr p hp).same s⟩
theorem LI.next (h:LI c cC A1 mk ms M H i x a q z ps):LI c cC A1 mk ms M H (i + 1) x a q z ps:=⟨h.hA,h.hm,h.ca,h.st,h.re,h.ap,h.ly,by have:=h.ld; omega,by have:=h.lp; omega,h.pr⟩
theorem LI.push (h:LI c cC A1 mk ms M H i x a q z ps) (nA:mk ≠ A1) {x2 a2 p:Addr}{q2:Ca}{z2:SS} (hp:H' p=some (.tup [.ref x2,.ref a2])) (s:aM H H') (hc:gG c cC H' x2 q2) (hs:tW H' a2 z2) (re:pA H' q2 z2) (ap:yG mk z2) (ly:q2.ys.length=q.ys.length) (ld:q2.ds.length <= q.ds.length + 1) :
  LI c cC A1 mk ms M (aU H' mk (.lst (ps.map V.ref ++ [.ref p]))) (i + 1) x2 a2 q2 z2 (ps ++ [p]):=by
 have g:=h.same s
 have kt:∀ b xs,H' b=some (.tup xs)->aU H' mk (.lst (ps.map V.ref ++ [.ref p])) b=some (.tup xs):=fun b xs e=>by rw [aH (bC e g.hm fun z=>nomatch z)]; exact e
 refine ⟨by rw [aH nA.symm]; exact g.hA,by rw [aB,List.map_append]; rfl,hc.lst g.hm,hs.over g.hm ap,re.keep kt,ap,by rw [ly]; exact h.ly,by have:=h.ld; omega,by rw [List.length_append]; have:=h.lp; simp; omega,fun p' hp'=>?_⟩
 rcases List.mem_append.mp hp' with w | w
 ·obtain ⟨x,q,a,z,e,hc,hs,re,ap⟩:=g.pr p' w
  exact ⟨x,q,a,z,kt _ _ e,hc.lst g.hm,hs.over g.hm ap,re.keep kt,ap⟩
 ·rw [List.mem_singleton.mp w]
  exact ⟨x2,q2,a2,z2,kt _ _ hp,hc.lst g.hm,hs.over g.hm ap,re.keep kt,ap⟩
end
end TD
namespace TD
open PySem PySem.Spec PyProof.Rows L2
theorem CN.of {K:PySem.W.Frag}{c:Cs} (h:(["tuple","int","NoneType","str","list"].map fun T=>(PySem.W.kitOne K (.type T) (.ref c.e),PySem.W.kitOne K (.type T) (.ref c.s)))=List.replicate 5 (some false,some false)) (t:PySem.W.kitOne K (.ref c.e) (.type "tuple")=some false):CN K c :=
 ⟨fun T hT=>by
  have:=List.mem_map_of_mem (f:=fun T=>(PySem.W.kitOne K (.type T) (.ref c.e),PySem.W.kitOne K (.type T) (.ref c.s))) hT
  rw [h] at this
  have e:=List.eq_of_mem_replicate this
  exact ⟨congrArg (·.1) e,congrArg (·.2) e⟩,t⟩
theorem Nx.of {K:PySem.W.Frag}{C:Addr}{cs:List Addr}{nb:Int} (x:XTy K C) (ve:PySem.W.kitOne K (.ref C) (.type "ValueError")=some true) (h:(cs.map fun c=>PySem.W.kitOne K (.ref C) (.ref c))=(List.range cs.length).map fun (i:Nat)=>some (decide ((i:Int)=nb))):Nx K C cs nb :=
 ⟨x,ve,fun i c hc=>by
  have hi:i < cs.length:=(List.getElem?_eq_some_iff.mp hc).1
  have e:=congrArg (·[i]?) h
  simp only [List.getElem?_map,hc,Option.map_some,List.getElem?_range hi] at e
  exact Option.some.inj e⟩
end TD
namespace L2
open PySem PySem.Spec PyProof.Rows
structure KR (K:PySem.W.Frag) (dT:Addr) (x qual:Str) (st:Stmt) (f:Addr) (fd:FuncData):Prop where
 ex:∃ (oc:Value) (od:Option Addr) (kV doc pm:Value) (an:Option Addr) (cdv ct:Value) (osl:Array (Option Value)),
  fd=PySem.W.fnOf x qual (iR st) (fX st) (aK st) (.ref dT) kV doc pm an cdv ct /\ K.lookup f=some ⟨oc,od,.func fd,osl⟩ /\ PySem.W.codeIn K cdv qual=true
 kp:PySem.W.keepIn K (.ref f)=true
section
variable {P:Program}{w:World}{K:PySem.W.Frag}{mg:Str->Option Value}{base:Heap}{dT:Addr}
theorem KR.ok {x qual:Str}{st:Stmt}{f:Addr}{fd:FuncData}{N ps:List Str}{k:Nat}{sp:Sp} (F:KR K dT x qual st f fd) (S:aP N ps (aK st)) (len:∀ vs H Q E,sp vs H Q E->vs.length=ps.length)
  (hbody:∀ (cdv:Value) (A:Around) (outer:List Env) (s:Shared) (H:Hp) (vs:List V) (Q:VK) (E:XK),eV k (A.deeper (envOfC qual (aK st) s.heap.objs.size f cdv))->sp vs H Q E ->
   ∃ t,sJ (vO eG P w K mg base N qual (aK st) f cdv A outer s H E).nox (fX st) t /\ t { nx:=fun _ H'=>Q .non H',rt:=Q } (start N vs) H):aV P w K mg base eG (k + 1) f fd ps sp:=by
 obtain ⟨oc,od,kV,doc,pm,an,cdv,ct,osl,rfl,lk,hcd⟩:=F.ex
 refine GQ lk hcd S len fun A outer s H vs Q E hr hsp=>?_
 obtain ⟨t,h,q⟩:=hbody cdv A outer s H vs Q E hr hsp
 exact ⟨t,sJ.nox h,q⟩
theorem Lq {x qual:Str}{st:Stmt}{f:Addr}{oc:Value}{od an:Option Addr}{osl:Array (Option Value)}{kV doc pm cdv ct:Value} (l:K.lookup f=some ⟨oc,od,.func (PySem.W.fnOf x qual (iR st) (fX st) (aK st) (.ref dT) kV doc pm an cdv ct),osl⟩)
  (c:PySem.W.codeIn K cdv qual=true) (k:PySem.W.keepIn K (.ref f)=true):KR K dT x qual st f (PySem.W.fnOf x qual (iR st) (fX st) (aK st) (.ref dT) kV doc pm an cdv ct):=⟨⟨oc,od,kV,doc,pm,an,cdv,ct,osl,rfl,l,c⟩,k⟩
end
end L2
namespace L2
open PySem PySem.Spec PySem.Calls PyProof.Rows
section
variable {X:Cx}
end
end L2
namespace L2
open PySem PySem.Spec PyProof.Rows
theorem d8 {X:Cx}{K:PySem.W.Frag} (h:X.K=K):gM X (.type "tuple") (fun xs H Q=>∃ p ys,xs=[.ref p] /\ ((bM K H p ys /\ ∀ l,H l=none->Q (.ref l) (aU H l (.tup ys))) ∨ (bZ K H p ys /\ Q (.ref p) H))):=by subst h; exact wL
end L2
namespace L2
open PySem PySem.Spec PyProof.Rows
structure QE (X:Cx) (e:Expr) (t:TE):Prop where
 h:PE X e t
structure QT (X:Cx) (e:Expr) (t:TT):Prop where
 h:PT X e t
structure QA (X:Cx) (es:List Expr) (t:TA):Prop where
 h:PA X es t
structure QO (X:Cx) (e:Option Expr) (t:TO):Prop where
 h:PO X e t
structure QP (X:Cx) (pos:Pos) (ks:List (Option Expr)) (vs:List Expr) (trs:List (TE × TE)):Prop where
 h:S7 X pos ks vs trs
structure QS (X:Cx) (st:Stmt) (t:TS):Prop where
 h:PS X st t
structure QSs (X:Cx) (st:List Stmt) (t:TS):Prop where
 h:sJ X st t
section
variable {X:Cx}{pos pos' p p2:Pos}{e a b:Expr}{es:List Expr}{te ta tb:TE}{t:TA}{x:Str}{st:Stmt}{fW:List Stmt}{ts us:TS}
theorem qv (i:Nat) {x:Str}{pos:Pos} (hN:X.N[i]? = some x:=by rfl) (hv:Yo X.env.scope x:=by first | exact Or.inl rfl | exact Or.inr (Or.inl rfl) | exact Or.inr (Or.inr rfl)) (hd:(x == ("__debug__" : Str))=false:=by decide)
  (hcd:(x == ("__classdict__" : Str))=false:=by decide):QE X (.Name x pos) (Hb i):=⟨Jl hN hv hd hcd⟩
end
end L2
namespace L2
open PySem PySem.Spec PyProof.Rows
structure QW (X:Cx) (e:Expr) (t:TT):Prop where
 h:PW X e t
section
variable {X:Cx}{CX:Ab}{k n:Nat}{f C:Addr}{fd:FuncData}{ps:List Str}{sp:Sp}{dvs:List V}{ds:List Value}{E:XK}{x m name:Str}{p pos apos cpos:Pos}{a b e o:Expr}{es fW:List Expr}{ta tb te to:TE}{t:TA}{tA tB':TT}{T id:String}{r:V->List V->Hp->VK->Prop}
theorem QW.qt (h:QW X e tA):QT X e tA:=⟨PW.pt h.h⟩
end
end L2
namespace K21
open PySem L2 TD
def top (i:Nat):Stmt:=PySem.Challenge.pw_lidprice_k21_cases_made.main.body.getD i (.Pass ⟨0,0,0,0⟩)
def iY:Pos:=⟨42,30,42,72⟩
theorem rQ:aP ["thing","least","most"] ["thing","least","most"] (aK (top 6)):=⟨rfl,rfl,rfl,by decide +kernel,rfl,by decide +kernel,by decide +kernel⟩
theorem j6:aP ["one","other","rest"] ["one","other"] (aK (top 7)):=⟨rfl,rfl,rfl,by decide +kernel,rfl,by decide +kernel,by decide +kernel⟩
theorem jQ:aP ["numbers","multiple","number"] ["numbers"] (aK (top 8)):=⟨rfl,rfl,rfl,by decide +kernel,rfl,by decide +kernel,by decide +kernel⟩
theorem BJ:aP ["top","bottom","divisor"] ["top","bottom"] (aK (top 9)):=⟨rfl,rfl,rfl,by decide +kernel,rfl,by decide +kernel,by decide +kernel⟩
theorem Bo:aP ["number"] ["number"] (aK (top 10)):=⟨rfl,rfl,rfl,by decide +kernel,rfl,by decide +kernel,by decide +kernel⟩
theorem DN:aP ["one","other"] ["one","other"] (aK (top 11)):=⟨rfl,rfl,rfl,by decide +kernel,rfl,by decide +kernel,by decide +kernel⟩
theorem xM:aP ["one","other"] ["one","other"] (aK (top 12)):=⟨rfl,rfl,rfl,by decide +kernel,rfl,by decide +kernel,by decide +kernel⟩
theorem yD:aP ["worths","most","scale"] ["worths"] (aK (top 16)):=⟨rfl,rfl,rfl,by decide +kernel,rfl,by decide +kernel,by decide +kernel⟩
theorem vK:aP ["rows","weights","worth","weight","divisor"] ["rows"] (aK (top 17)):=⟨rfl,rfl,rfl,by decide +kernel,rfl,by decide +kernel,by decide +kernel⟩
theorem mU:aP ["table"] ["table"] (aK (top 18)):=⟨rfl,rfl,rfl,by decide +kernel,rfl,by decide +kernel,by decide +kernel⟩
theorem xH:aP ["table","level"] ["table","level"] (aK (top 19)):=⟨rfl,rfl,rfl,by decide +kernel,rfl,by decide +kernel,by decide +kernel⟩
theorem Dc:aP ["rows","scale","parts","weight","table","factor"] ["rows"] (aK (top 20)):=⟨rfl,rfl,rfl,by decide +kernel,rfl,by decide +kernel,by decide +kernel⟩
theorem pW:aP ["table","price","bottom","tops","weights","worth","weight","top"] ["table","price"] (aK (top 21)):=⟨rfl,rfl,rfl,by decide +kernel,rfl,by decide +kernel,by decide +kernel⟩
theorem rK:aP ["thing"] ["thing"] (aK (top 31)):=⟨rfl,rfl,rfl,by decide +kernel,rfl,by decide +kernel,by decide +kernel⟩
theorem lZ:aP ["row"] ["row"] (aK (top 32)):=⟨rfl,rfl,rfl,by decide +kernel,rfl,by decide +kernel,by decide +kernel⟩
theorem kW:aP ["rows"] ["rows"] (aK (top 33)):=⟨rfl,rfl,rfl,by decide +kernel,rfl,by decide +kernel,by decide +kernel⟩
theorem oE:aP ["boxes"] ["boxes"] (aK (top 34)):=⟨rfl,rfl,rfl,by decide +kernel,rfl,by decide +kernel,by decide +kernel⟩
theorem oZ:aP ["things","place","thing"] ["things","place","thing"] (aK (top 36)):=⟨rfl,rfl,rfl,by decide +kernel,rfl,by decide +kernel,by decide +kernel⟩
theorem lX:aP ["_law_script","_law_k"] ["_law_script","_law_k"] (aK (top 39)):=⟨rfl,rfl,rfl,by decide +kernel,rfl,by decide +kernel,by decide +kernel⟩
theorem oO:aP ["_law_cell","_law_k","_law_number"] ["_law_cell","_law_k"] (aK (top 40)):=⟨rfl,rfl,rfl,by decide +kernel,rfl,by decide +kernel,by decide +kernel⟩
theorem pF:aP ["_law_script","_law_k"] ["_law_script","_law_k"] (aK (top 41)):=⟨rfl,rfl,rfl,by decide +kernel,rfl,by decide +kernel,by decide +kernel⟩
theorem pJ:aP ["_law_left_here","_law_many","_law_number"] ["_law_left_here","_law_many"] (aK (top 42)):=⟨rfl,rfl,rfl,by decide +kernel,rfl,by decide +kernel,by decide +kernel⟩
theorem pQ:aP ["_law_stand"] ["_law_stand"] (aK (top 43)):=⟨rfl,rfl,rfl,by decide +kernel,rfl,by decide +kernel,by decide +kernel⟩
theorem oM:aP ["_law_left_here","_law_level","_law_most","_law_price","_law_rows","_law_many","_law_row","_law_weight","_law_room"] ["_law_left_here","_law_level","_law_most"] (aK (top 44)):=⟨rfl,rfl,rfl,by decide +kernel,rfl,by decide +kernel,by decide +kernel⟩
theorem mL:aP ["_law_model_here"] ["_law_model_here"] (aK (top 45)):=⟨rfl,rfl,rfl,by decide +kernel,rfl,by decide +kernel,by decide +kernel⟩
theorem mK:aP ["_law_script","_law_many","_law_left_here","_law_models_here"] ["_law_script","_law_many"] (aK (top 46)):=⟨rfl,rfl,rfl,by decide +kernel,rfl,by decide +kernel,by decide +kernel⟩
theorem oN:aP ["_law_models_here","_law_boxes_here","_law_k","_law_first"] ["_law_models_here"] (aK (top 47)):=⟨rfl,rfl,rfl,by decide +kernel,rfl,by decide +kernel,by decide +kernel⟩
theorem oU:aP ["_law_found"] ["_law_found"] (aK (top 48)):=⟨rfl,rfl,rfl,by decide +kernel,rfl,by decide +kernel,by decide +kernel⟩
theorem oA:aP ["_law_models_here","_law_caps"] ["_law_models_here"] (aK (top 49)):=⟨rfl,rfl,rfl,by decide +kernel,rfl,by decide +kernel,by decide +kernel⟩
theorem p7:aP ["_law_state_here","_law_other","_law_word"] ["_law_state_here"] (aK (top 50)):=⟨rfl,rfl,rfl,by decide +kernel,rfl,by decide +kernel,by decide +kernel⟩
theorem sE:aP ["_law_state_here"] ["_law_state_here"] (aK (top 51)):=⟨rfl,rfl,rfl,by decide +kernel,rfl,by decide +kernel,by decide +kernel⟩
theorem lY:aP ["_law_found","_law_due"] ["_law_found","_law_due"] (aK (top 52)):=⟨rfl,rfl,rfl,by decide +kernel,rfl,by decide +kernel,by decide +kernel⟩
theorem oR:aP ["_law_found","_law_due","_law_one"] ["_law_found","_law_due"] (aK (top 53)):=⟨rfl,rfl,rfl,by decide +kernel,rfl,by decide +kernel,by decide +kernel⟩
theorem vJ:aP ["_law_case","_law_state_here","_law_many","_law_box"] ["_law_case","_law_state_here"] (aK (top 54)):=⟨rfl,rfl,rfl,by decide +kernel,rfl,by decide +kernel,by decide +kernel⟩
theorem oH:aP ["_law_one","_law_other"] ["_law_one","_law_other"] (aK (top 55)):=⟨rfl,rfl,rfl,by decide +kernel,rfl,by decide +kernel,by decide +kernel⟩
theorem pI:aP ["_law_case","_law_state_here","_law_box","_law_row","_law_stage","_law_other"] ["_law_case","_law_state_here","_law_box","_law_row"] (aK (top 56)):=⟨rfl,rfl,rfl,by decide +kernel,rfl,by decide +kernel,by decide +kernel⟩
theorem qF:aP ["_law_state_here","_law_box","_law_other"] ["_law_state_here","_law_box"] (aK (top 57)):=⟨rfl,rfl,rfl,by decide +kernel,rfl,by decide +kernel,by decide +kernel⟩
theorem J9:aP ["_law_script","_law_many","_law_models_here","_law_boxes_here","_law_case","_law_state_here","_law_made","_law_cell","_law_box","_law_stand","_law_row","_law_one","_law_other"] ["_law_script"] (aK (top 58)):=⟨rfl,rfl,rfl,by decide +kernel,rfl,by decide +kernel,by decide +kernel⟩
theorem j8:aP ["self","end_count","stage_count","level","cap_rows"] ["self","end_count","stage_count","level","cap_rows"] (aK (aF (top 28) 0)):=⟨rfl,rfl,rfl,by decide +kernel,rfl,by decide +kernel,by decide +kernel⟩
theorem nY:aP ["self"] ["self"] (aK (aF (top 28) 1)):=⟨rfl,rfl,rfl,by decide +kernel,rfl,by decide +kernel,by decide +kernel⟩
theorem mH:aP ["self"] ["self"] (aK (aF (top 28) 2)):=⟨rfl,rfl,rfl,by decide +kernel,rfl,by decide +kernel,by decide +kernel⟩
theorem lH:aP ["self"] ["self"] (aK (aF (top 28) 3)):=⟨rfl,rfl,rfl,by decide +kernel,rfl,by decide +kernel,by decide +kernel⟩
theorem oY:aP ["self"] ["self"] (aK (aF (top 28) 4)):=⟨rfl,rfl,rfl,by decide +kernel,rfl,by decide +kernel,by decide +kernel⟩
theorem mC:aP ["self","worth"] ["self","worth"] (aK (aF (top 29) 0)):=⟨rfl,rfl,rfl,by decide +kernel,rfl,by decide +kernel,by decide +kernel⟩
theorem oF:aP ["self"] ["self"] (aK (aF (top 29) 1)):=⟨rfl,rfl,rfl,by decide +kernel,rfl,by decide +kernel,by decide +kernel⟩
theorem rO:aP ["self"] ["self"] (aK (aF (top 29) 4)):=⟨rfl,rfl,rfl,by decide +kernel,rfl,by decide +kernel,by decide +kernel⟩
theorem j5:aP ["self","price","rows","end_count","stage_count","behind","level"] ["self","price","rows"] (aK (aF (top 30) 0)):=⟨rfl,rfl,rfl,by decide +kernel,rfl,by decide +kernel,by decide +kernel⟩
theorem mG:aP ["self"] ["self"] (aK (aF (top 30) 1)):=⟨rfl,rfl,rfl,by decide +kernel,rfl,by decide +kernel,by decide +kernel⟩
theorem mY:aP ["self","row"] ["self","row"] (aK (aF (top 30) 3)):=⟨rfl,rfl,rfl,by decide +kernel,rfl,by decide +kernel,by decide +kernel⟩
theorem oJ:aP ["self"] ["self"] (aK (aF (top 30) 6)):=⟨rfl,rfl,rfl,by decide +kernel,rfl,by decide +kernel,by decide +kernel⟩
theorem kZ:aP ["self","boxes"] ["self","boxes"] (aK (aF (top 37) 0)):=⟨rfl,rfl,rfl,by decide +kernel,rfl,by decide +kernel,by decide +kernel⟩
theorem lD:aP ["self"] ["self"] (aK (aF (top 37) 1)):=⟨rfl,rfl,rfl,by decide +kernel,rfl,by decide +kernel,by decide +kernel⟩
theorem lA:aP ["self","box"] ["self","box"] (aK (aF (top 37) 2)):=⟨rfl,rfl,rfl,by decide +kernel,rfl,by decide +kernel,by decide +kernel⟩
theorem oK:aP ["self","box"] ["self","box"] (aK (aF (top 37) 3)):=⟨rfl,rfl,rfl,by decide +kernel,rfl,by decide +kernel,by decide +kernel⟩
theorem rN:aP ["self","box"] ["self","box"] (aK (aF (top 37) 4)):=⟨rfl,rfl,rfl,by decide +kernel,rfl,by decide +kernel,by decide +kernel⟩
theorem jL:aP ["self"] ["self"] (aK (aF (top 37) 5)):=⟨rfl,rfl,rfl,by decide +kernel,rfl,by decide +kernel,by decide +kernel⟩
theorem pM:aP ["self"] ["self"] (aK (aF (top 37) 6)):=⟨rfl,rfl,rfl,by decide +kernel,rfl,by decide +kernel,by decide +kernel⟩
theorem rR:aP ["self"] ["self"] (aK (aF (top 37) 7)):=⟨rfl,rfl,rfl,by decide +kernel,rfl,by decide +kernel,by decide +kernel⟩
theorem iM:aP ["self"] ["self"] (aK (aF (top 37) 8)):=⟨rfl,rfl,rfl,by decide +kernel,rfl,by decide +kernel,by decide +kernel⟩
theorem mO:aP ["self","deed","case"] ["self","deed"] (aK (aF (top 37) 12)):=⟨rfl,rfl,rfl,by decide +kernel,rfl,by decide +kernel,by decide +kernel⟩
theorem mZ:aP ["self","box","row","stage","cap","lower","case"] ["self","box","row"] (aK (aF (top 37) 13)):=⟨rfl,rfl,rfl,by decide +kernel,rfl,by decide +kernel,by decide +kernel⟩
theorem oV:aP ["self","box","case"] ["self","box"] (aK (aF (top 37) 14)):=⟨rfl,rfl,rfl,by decide +kernel,rfl,by decide +kernel,by decide +kernel⟩
end K21
namespace K21
open PySem L2 TD
open Builtin.Int (intBits)
section
variable {P:Program}{w:World}{K:PySem.W.Frag}{mg:Str->Option Value}{base:Heap}{Pt:Addr}
theorem p6 {n:Nat}{f:Addr}{fd:FuncData} (F:eX K "common_divisor" "common_divisor" (top 7) f fd) (z_abs:mg "abs" = none):aV P w K mg base eG (n + 1) f fd ["one","other"] Mg:=by
 refine F.ok j6 (fun vs H Q E h=>?_) (fun cdv A outer s H vs Q E hr h=>?_)
 ·obtain ⟨a,b,rfl,_⟩:=h
  rfl
 obtain ⟨a,b,rfl,q⟩:=h
 have nd:=j6.nd
 refine ⟨_,(aD (KQ PassesOwn.never (bV uY (pv 1) aL (cM _)) (aD (aX (i:=2) nd rfl (Or.inl rfl) (bA Li (pv 0) (pv 1))) (aD (aX (i:=0) nd rfl (Or.inl rfl) (pv 1)) (aJ (aX (i:=1) nd rfl (Or.inl rfl) (pv 2)))))) (aJ (aR (aZ Jt rfl z_abs Qn (aA (pv 0) aC))))),?_⟩
 refine JX (fun σ H'=>∃ x y r,σ = [some (.int x),some (.int y),r] /\ Int.gcd x y=Int.gcd a b /\ H'=H) (fun σ _=>match σ with | [_,some (.int y),_]=>y.natAbs | _=>0) ⟨a,b,none,rfl,rfl,rfl⟩ (fun σ H' ⟨x,y,r,e,hg,eH⟩=>?_) (fun σ H Q Q' hQ ⟨v,e,hs,k,ek,q⟩=>⟨v,e,hs,k,ek,hQ _ _ q⟩)
 subst e eH
 refine ⟨_,rfl,rfl,_,rfl,?_⟩
 by_cases hy:y=0
 ·subst hy
  refine t8 (by simp) ?_
  refine ⟨_,rfl,_,rfl,?_⟩
  have e:(if x < 0 then -x else x)=((Int.gcd a b:Nat):Int):=by
   rw [<- hg,Int.gcd_zero]
   split <;> omega
  rw [e]
  exact q
 ·refine zW (by simp [hy]) ?_
  refine ⟨_,rfl,_,rfl,x,y,rfl,rfl,hy,?_⟩
  refine ⟨_,rfl,?_⟩
  refine ⟨_,rfl,?_⟩
  exact ⟨⟨y,x.fmod y,_,rfl,(Fr.Kc x y).trans hg,rfl⟩,Fr.Gz hy⟩
theorem Jy {n:Nat}{f:Addr}{fd:FuncData} (F:eX K "share" "share" (top 9) f fd) {g_common_divisor:Addr}{gd_common_divisor:FuncData} (c_common_divisor:gF P w K mg base n "common_divisor" ["one","other"] Mg g_common_divisor gd_common_divisor):aV P w K mg base eG (n + 1) f fd ["top","bottom"] Ah:=by
 refine F.ok BJ (fun vs H Q E h=>?_) (fun cdv A outer s H vs Q E hr h=>?_)
 ·obtain ⟨t,b,rfl,_⟩:=h
  rfl
 obtain ⟨t,b,rfl,hb,hz,q⟩:=h
 have nd:=BJ.nd
 refine ⟨_,(aD (aX (i:=2) nd rfl (Or.inl rfl) (aN c_common_divisor hr (aA (pv 0) (aA (pv 1) aC)))) (aD (eF (bV Bl (pv 1) aL (cM _)) (aJ (aX (i:=2) nd rfl (Or.inl rfl) (Oh JV (pv 2)))) bU) (aJ (aR (dI (aA (bA jU (pv 0) (pv 2)) (aA (bA jU (pv 1) (pv 2)) aC))))))),?_⟩
 have hdz:intBits (Fr.dv t b) <= 9000:=PySem.intBits_le_of_natAbs (by rw [Fr.qW]; exact Int.gcd_le_natAbs_right t hb) hz
 have hdn:=Fr.Oa (t:=t) hb
 refine ⟨_,rfl,_,rfl,t,b,rfl,?_⟩
 refine ⟨_,rfl,_,_,rfl,rfl,_,rfl,?_⟩
 refine Ag (fun c=>?_) (fun c=>?_)
 ·have e:-((Int.gcd t b:Nat):Int)=Fr.dv t b:=by unfold Fr.dv; rw [if_pos (of_decide_eq_true c)]
  unfold Fr.sh at q
  rw [<- e] at q hdz hdn
  refine ⟨_,rfl,_,rfl,?_⟩
  refine ⟨_,rfl,_,rfl,_,_,rfl,rfl,⟨hdn,hdz⟩,_,rfl,_,rfl,_,_,rfl,rfl,⟨hdn,hdz⟩,tO,fun p hp=>?_⟩
  exact q p _ (aG hp _) aB
 ·have e:((Int.gcd t b:Nat):Int)=Fr.dv t b:=by unfold Fr.dv; rw [if_neg (of_decide_eq_false (Bool.eq_false_iff.mpr c))]
  unfold Fr.sh at q
  rw [<- e] at q hdz hdn
  refine ⟨_,rfl,_,rfl,_,_,rfl,rfl,⟨hdn,hdz⟩,_,rfl,_,rfl,_,_,rfl,rfl,⟨hdn,hdz⟩,tO,fun p hp=>?_⟩
  exact q p _ (aG hp _) aB
theorem o8 {n:Nat}{f:Addr}{fd:FuncData} (F:eX K "common_multiple" "common_multiple" (top 8) f fd) {g_common_divisor:Addr}{gd_common_divisor:FuncData} (c_common_divisor:gF P w K mg base n "common_divisor" ["one","other"] Mg g_common_divisor gd_common_divisor):aV P w K mg base eG (n + 1) f fd ["numbers"] (QR K):=by
 refine F.ok jQ (fun vs H Q E h=>?_) (fun cdv A outer s H vs Q E hr h=>?_)
 ·obtain ⟨a,ns,rfl,_⟩:=h
  rfl
 obtain ⟨a,ns,rfl,hS,hp,h9,hz,q⟩:=h
 have nd:=jQ.nd
 refine ⟨_,(aD (aX (i:=1) nd rfl (Or.inl rfl) aL) (aD (jD PassesOwn.never rfl (cA (pv 0)) (aW (i:=2) nd rfl (Or.inl rfl)) (aJ (aX (i:=1) nd rfl (Or.inl rfl) (bA dU (pv 1) (bA jU (pv 2) (aN c_common_divisor hr (aA (pv 1) (aA (pv 2) aC)))))))) (aJ (aR (pv 1))))),?_⟩
 have hl:(ns.map V.int).length=ns.length:=List.length_map _
 refine ⟨_,rfl,a,rfl,⟨_,hS⟩,?_⟩
 refine jT (xs:=ns.map V.int) (fun i σ H'=>∃ r,σ = [some (.ref a),some (.int (dY (ns.take i))),r] /\ H'=H) ⟨none,rfl,rfl⟩ (fun i σ H' _ ⟨r,_,e⟩=>by subst e; exact hS) ?turn ?done
 case turn =>
  rintro i x σ H' hx ⟨r,rfl,rfl⟩
  rw [List.getElem?_map] at hx
  cases e:ns[i]? with
  | none=>rw [e] at hx; cases hx
  | some n =>
   rw [e] at hx
   cases hx
   have hm:=List.mem_of_getElem? e
   have hn:=hp n hm
   have nz:=h9 n hm
   have gz:intBits ((Int.gcd (dY (ns.take i)) n:Nat):Int) <= 9000:=Nat.le_trans (PySem.intBits_le_of_natAbs (y:=n) (by have:=Int.gcd_le_natAbs_right (dY (ns.take i)) (Int.ne_of_gt hn); omega) (Nat.le_refl _)) (by omega)
   have gn:((Int.gcd (dY (ns.take i)) n:Nat):Int) ≠ 0:=by have:=Int.gcd_pos_of_ne_zero_right (dY (ns.take i)) (Int.ne_of_gt hn); omega
   have lb:=yL (ns.take i)
   have st:=DW ns i
   refine ⟨_,rfl,_,rfl,_,rfl,_,rfl,dY (ns.take i),n,rfl,_,_,rfl,rfl,⟨gn,gz⟩,_,_,rfl,rfl,gH (m:=200001) (n:=9000) (by omega) (PySem.intBits_fdiv_le nz) (by decide),?_⟩
   refine ⟨some (V.int n),?_,rfl⟩
   rw [List.take_add_one,e]
   show _=[some (V.ref a),some (V.int (dY (ns.take i ++ [n]))),some (V.int n)]
   rw [Hx]
   rfl
 case done =>
  rintro σ H' ⟨r,rfl,rfl⟩
  rw [hl,List.take_length]
  exact ⟨_,rfl,q⟩
theorem JH {n:Nat}{f:Addr}{fd:FuncData} (F:eX K "whole" "whole" (top 10) f fd):aV P w K mg base eG (n + 1) f fd ["number"] UV:=by
 refine F.ok Bo (fun vs H Q E h=>?_) (fun cdv A outer s H vs Q E hr h=>?_)
 ·obtain ⟨t,rfl,_⟩:=h
  rfl
 obtain ⟨t,rfl,q⟩:=h
 have nd:=Bo.nd
 refine ⟨_,(aJ (aR (dI (aA (pv 0) (aA aL aC))))),?_⟩
 refine ⟨_,rfl,tO,fun p hp=>?_⟩
 exact q p _ (aG hp _) aB
theorem LR {n:Nat}{f:Addr}{fd:FuncData} (F:eX K "below" "below" (top 11) f fd):aV P w K mg base eG (n + 1) f fd ["one","other"] (Fl K):=by
 refine F.ok DN (fun vs H Q E h=>?_) (fun cdv A outer s H vs Q E hr h=>?_)
 ·obtain ⟨p,q,a,b,c,d,rfl,_⟩:=h
  rfl
 obtain ⟨p,q,a,b,c,d,rfl,hp,hq,z,k⟩:=h
 have nd:=DN.nd
 refine ⟨_,(aJ (aR (Fg Bl (bA dU (bJ cO (pv 0) aL (fun _ _=>rfl)) (bJ cO (pv 1) aL (fun _ _=>rfl))) (bA dU (bJ cO (pv 1) aL (fun _ _=>rfl)) (bJ cO (pv 0) aL (fun _ _=>rfl))) (cM _)))),?_⟩
 exact ⟨_,rfl,p,_,_,_,rfl,rfl,hp,rfl,_,rfl,q,_,_,_,rfl,rfl,hq,rfl,_,_,rfl,rfl,gH z.a z.d (by decide),_,rfl,q,_,_,_,rfl,rfl,hq,rfl,_,rfl,p,_,_,_,rfl,rfl,hp,rfl,_,_,rfl,rfl,gH z.c z.b (by decide),_,_,rfl,rfl,k⟩
theorem Hn {n:Nat}{f:Addr}{fd:FuncData} (F:eX K "lesser" "lesser" (top 12) f fd) {g_below:Addr}{gd_below:FuncData} (c_below:gF P w K mg base n "below" ["one","other"] (Fl K) g_below gd_below):aV P w K mg base eG (n + 1) f fd ["one","other"] (Pn K):=by
 refine F.ok xM (fun vs H Q E h=>?_) (fun cdv A outer s H vs Q E hr h=>?_)
 ·obtain ⟨p,q,a,b,c,d,rfl,_⟩:=h
  rfl
 obtain ⟨p,q,a,b,c,d,rfl,hp,hq,z,k1,k2⟩:=h
 have nd:=xM.nd
 refine ⟨_,(aJ (aR (BV (dH (aN c_below hr (aA (pv 1) (aA (pv 0) aC)))) (pv 1) (pv 0)))),?_⟩
 refine ⟨_,rfl,_,rfl,q,p,c,d,a,b,rfl,hq,hp,⟨z.c,z.d,z.a,z.b⟩,_,rfl,?_⟩
 by_cases cc:c * b < a * d
 ·refine zW (decide_eq_true cc) ?_
  exact ⟨_,rfl,k1 cc⟩
 ·refine t8 (decide_eq_false cc) ?_
  exact ⟨_,rfl,k2 cc⟩
theorem Ib {n:Nat}{f c:Addr}{fd:FuncData} (F:eX K "rising" "rising" (top 16) f fd) (hc:fd.code = .ref c) (hC:PySem.W.CodeHd base c Pt) (hB:base.BuiltinsAt mg Pt) (z_sorted:mg "sorted" = none) (z_max:mg "max" = none):aV P w K mg base eG (n + 1) f fd ["worths"] (Jv K Pt iY):=by
 refine F.okc hc yD (fun vs H Q E h=>?_) (fun A outer s H vs Q E hr h=>?_)
 ·obtain ⟨a,rs,rfl,_⟩:=h
  rfl
 obtain ⟨a,rs,rfl,hS,hne,h64,hrs,nd0,hT,q⟩:=h
 have nd:=yD.nd
 refine ⟨_,(aD (aX (i:=1) nd rfl (Or.inl rfl) (aZ (yJ rfl) rfl z_max K3 (aA (cB (ls:=["worth"]) (M:=["worths","most","scale"]) rfl (bR.of (by rfl)) (NL.of (by rfl)) (cA (pv 0)) (fun _ _ _ _=>⟨(aW (i:=0) (cQ (by rfl)) rfl (Or.inl rfl)),cT,(bJ (jG (K:=K) rfl) (pv 0) aL (fun _ _=>rfl))⟩)) aC))) (aD (aX (i:=2) nd rfl (Or.inr rfl) (bA dU (pv 1) (pv 1))) (aJ (aR (JC (p:="worth") (M:=["worths","most","scale"]) hr rfl rfl z_sorted rfl hC hB (bR.of (by rfl)) (NL.of (by rfl)) rfl rfl rfl (pv 0) (fun _ _ _ _ _=>(bA jU (bA dU (bJ (jG (K:=K) rfl) (pv 0) aL (fun _ _=>rfl)) (pv 3)) (bJ (jG (K:=K) rfl) (pv 0) aL (fun _ _=>rfl))))))))),?_⟩
 have hlr:=pD rs
 refine ⟨_,rfl,a,rfl,⟨_,hS⟩,fun D hD=>?_⟩
 refine bY (xs:=mD rs) (fun i τ H'=>∃ v0,τ = [v0,some (.ref a),none,none] /\ aM H H' /\ H' D=some (.lst ((rs.take i).map fun r=>V.int r.b))) ⟨none,rfl,aG hD _,aB⟩ ?keep ?turn ?done
 case keep =>
  rintro i τ H' hi ⟨v0,rfl,hs,_⟩
  exact hs.seq hS
 case turn =>
  rintro i m v τ H' hm hi hv ⟨v0,rfl,hs,hD'⟩
  obtain ⟨x,hx,rfl⟩:=Dh hv
  have hr2:=hs _ _ (hrs x (List.mem_of_getElem? hx)).1
  unfold oG
  refine eZ ?_
  refine ⟨_,rfl,x.q,_,_,_,rfl,rfl,bZ.of hr2,rfl,?_⟩
  refine bG hm hi hD' (by rw [List.length_map]; exact aQ (Nat.le_trans (List.length_take_le _ _) (by omega))) ⟨_,rfl,hs.upd_new hD _,?_⟩
  rw [aB,bH hx,List.map_append]
  rfl
 case done =>
 rintro τ H1 ⟨v0,rfl,s1,hD1⟩
 rw [hlr,List.take_length] at hD1
 refine ⟨D,rs.map Rs.b,rfl,bM.of (by rw [hD1,List.map_map]; rfl),fun e=>hne (List.map_eq_nil_iff.mp e),fun mx hmx hmax=>?_⟩
 obtain ⟨r0,hr0,rfl⟩:=List.mem_map.mp hmx
 have z0:=(hrs r0 hr0).2.2.2
 refine ⟨_,rfl,_,rfl,_,_,rfl,rfl,gH z0 z0 (by decide),?_⟩
 have zz:intBits (r0.b * r0.b) <= 8000:=PySem.intBits_mul_le z0 z0
 refine ⟨_,rfl,a,rs.map Rs.q,rs.map (J4 r0.b),rfl,by rw [<- M9]; exact s1.seq hS,by rw [List.length_map,List.length_map],by rw [List.length_map]; exact h64,hT.same s1,fun H2 c' st hit=>⟨fun i qa kk eq ek=>?_,fun D2 ps hD2 hp hs=>?_⟩⟩
 ·rw [List.getElem?_map] at eq ek
  cases er:rs[i]? with
  | none=>rw [er] at eq; cases eq
  | some r =>
   rw [er] at eq ek
   cases eq
   cases ek
   obtain ⟨ra,rf,rt,rb⟩:=hrs r (List.mem_of_getElem? er)
   have ra2:H2 r.q=some (.tup [.int r.t,.int r.b]):=st.get (hT.same s1) (s1 _ _ ra) fun _ z=>nomatch z
   exact ⟨_,rfl,r.q,_,_,_,rfl,rfl,(bZ.of ra2),rfl,_,rfl,_,_,rfl,rfl,gH rt zz (by decide),_,rfl,r.q,_,_,_,rfl,rfl,(bZ.of ra2),rfl,_,_,rfl,rfl,⟨Int.ne_of_gt rf.pos,Nat.le_trans rb (by decide)⟩,rfl,rfl⟩
 ·obtain ⟨rs',pm,e,so⟩:=Lj hp hs nd0 (fun r hr=>(hrs r hr).2.1) (fun r hr=>hmax _ (List.mem_map.mpr ⟨r,hr,rfl⟩))
  rw [e]
  have tb2:fJ Pt iY lQ H2:=.inr ⟨c',hit⟩
  exact q D2 _ rs' (((s1.toT).trans st).trans (aM.toT (aG hD2 _))) (tb2.same (aG hD2 _)) aB pm so
theorem Oi {H:Hp}:∀ {kvs:List (List cZ × V)}{qs:List Addr},qs.length=kvs.length->(∀ kv ∈ kvs,∃ t b:Int,kv.1=[.inl t,.inl b])->(∀ (i:Nat) k v,kvs[i]? = some (k,v)->∃ q,qs[i]? = some q /\ H q=some (.tup (k.map kV))) ->
  ∃ rs:List Rs,mD rs=qs.map V.ref /\ rs.map kI=kvs.map (·.1) /\ ∀ r ∈ rs,Pu H r
 | [],[],_,_,_=>⟨[],rfl,rfl,fun _ h=>nomatch h⟩
 | [],_ :: _,h,_,_=>by simp at h
 | _ :: _,[],h,_,_=>by simp at h
 | kv :: kvs,q :: qs,hl,hk,hq=>by
  obtain ⟨rs,e1,e2,e3⟩:=Oi (kvs:=kvs) (qs:=qs) (by simpa using hl) (fun x hx=>hk x (List.mem_cons_of_mem _ hx)) fun i k v e=>by
   obtain ⟨z,z1,z2⟩:=hq (i + 1) k v (by simpa using e)
   exact ⟨z,by simpa using z1,z2⟩
  obtain ⟨t,b,ek⟩:=hk kv List.mem_cons_self
  obtain ⟨z,z1,z2⟩:=hq 0 kv.1 kv.2 rfl
  have z1:q=z:=by simpa using z1
  subst z1
  refine ⟨⟨q,t,b⟩ :: rs,?_,?_,fun r hr=>?_⟩
  ·show V.ref q :: mD rs=V.ref q :: qs.map V.ref
   rw [e1]
  ·show kI ⟨q,t,b⟩ :: rs.map kI=kv.1 :: kvs.map (·.1)
   rw [e2,ek]
   rfl
  ·rcases List.mem_cons.mp hr with e | e
   ·subst e
    rw [ek] at z2
    exact z2
   ·exact e3 r e
theorem Cz {xs:List dJ}{kvs:List (List cZ × V)} (pb:PB xs) (d:Dk (dX xs) kvs) {r:Rs} (h:kI r ∈ kvs.map (·.1)):Tb.tH (dX xs) r.t r.b /\ Fr.jJ r.t r.b /\ intBits r.t <= 4000 /\ intBits r.b <= 4000:=by
 obtain ⟨kv,hkv,e⟩:=List.mem_map.mp h
 obtain ⟨t,b,e2,hh⟩:=d.en kv hkv
 rw [e2] at e
 obtain ⟨e3,e4⟩:=tY.mp e.symm
 rw [e3,e4]
 refine ⟨hh,?_⟩
 obtain ⟨p,hp,e5,e6⟩:=hh
 obtain ⟨x,hx,rfl⟩:=List.mem_map.mp hp
 have g:=pb x hx
 have e5:x.t=t:=e5
 have e6:x.b=b:=e6
 rw [<- e5,<- e6]
 exact ⟨g.1,g.2.1,g.2.2.1⟩
theorem Eo {n:Nat}{f:Addr}{fd:FuncData} (F:eX K "in_form" "in_form" (top 17) f fd) {g_rising:Addr}{gd_rising:FuncData} (c_rising:gF P w K mg base n "rising" ["worths"] (Jv K Pt iY) g_rising gd_rising) {g_common_divisor:Addr}{gd_common_divisor:FuncData} (c_common_divisor:gF P w K mg base n "common_divisor" ["one","other"] Mg g_common_divisor gd_common_divisor) (z_list:mg "list" = none):aV P w K mg base eG (n + 1) f fd ["rows"] (Dw Pt iY):=by
 refine F.ok vK (fun vs H Q E h=>?_) (fun cdv A outer s H vs Q E hr h=>?_)
 ·obtain ⟨a,xs,rfl,_⟩:=h
  rfl
 obtain ⟨a,xs,rfl,hT,xne,xlen,pb,hTb,q⟩:=h
 have nd:=vK.nd
 have hu:=uI hr
 refine ⟨_,(aD (aX (i:=1) nd rfl (Or.inr rfl) Jf) (aD (jD PassesOwn.never rfl (cA (pv 0)) (vD rfl (bK (aW (i:=2) nd rfl (Or.inl rfl)) (bK (aW (i:=3) nd rfl (Or.inl rfl)) fP))) (aJ (zX hu (pv 1) (pv 2) (bA fY (JQ hu (pv 1) (pv 2) aL ⟨rfl,rfl,rfl,rfl⟩) (pv 3)) rfl))) (aD (aX (i:=4) nd rfl (Or.inr rfl) aL) (aD (jD PassesOwn.never rfl (Mj (pv 1)) (aW (i:=2) nd rfl (Or.inl rfl)) (aJ (aX (i:=4) nd rfl (Or.inr rfl) (aN c_common_divisor hr (aA (pv 4) (aA (cY hu (pv 1) (pv 2) (fun _ _=>rfl)) aC)))))) (aJ (aR (cB (ls:=["worth"]) (M:=["rows","weights","worth#","weight","divisor"]) rfl (bR.of (by rfl)) (NL.of (by rfl)) (cA (aN c_rising hr (aA (cU (Er rfl) rfl z_list gR (aA (pv 1) aC)) aC))) (fun _ _ _ _=>⟨(aW (i:=0) (cQ (by rfl)) rfl (Or.inl rfl)),cT,(dI (aA (pv 0) (aA (bA jU (cY hu (pv 2) (pv 0) (fun _ _=>rfl)) (pv 5)) aC)))⟩)))))))),?_⟩
 have hlr:=dB xs
 intro Dd hDd
 have n0:=aG hDd (.dT [])
 refine ⟨_,rfl,a,rfl,⟨_,bM.of (hT.same n0).lst⟩,?_⟩
 refine jT (xs:=jZ xs) (fun i σ H'=>∃ kvs v2 v3,σ = [some (.ref a),some (.ref Dd),v2,v3,none] /\ aM H H' /\ H' Dd=some (.dT kvs) /\ Dk (dX (xs.take i)) kvs /\ kvs.length <= i) ⟨[],none,none,rfl,n0,aB,Dk.nil,Nat.le_refl _⟩ ?keep ?turn ?done
 case keep =>
  rintro i σ H' hi ⟨kvs,v2,v3,rfl,hs,_⟩
  exact bM.of (hT.same hs).lst
 case turn =>
  rintro i v σ H' hv ⟨kvs,v2,v3,rfl,hs,hd,dk,kl⟩
  obtain ⟨x,hx,rfl⟩:=nH hv
  have hmem:=List.mem_of_getElem? hx
  have hi:=(List.getElem?_eq_some_iff.mp hx).1
  have hr:=(hT.same hs).rows x hmem
  have hq:H' x.q=some (.tup (([.inl x.t,.inl x.b]:List cZ).map kV)):=hr.2
  refine ⟨x.p,_,rfl,bZ.of hr.1,rfl,_,_,rfl,_,_,rfl,rfl,?_⟩
  refine ⟨_,rfl,Dd,rfl,.inr ⟨_,.inl hd⟩,_,rfl,_,gB.t hd hq,_,rfl,Tb.Wt (dX (xs.take i)) x.t x.b,x.w,dk.get x.t x.b,rfl,?_⟩
  refine ⟨_,rfl,_,rfl,Dd,_,rfl,El.t hd hq (aQ (by omega)),?_⟩
  refine ⟨_,_,_,rfl,hs.upd_new hDd _,aB,?_,?_⟩
  ·rw [bH hx,lB]
   exact dk.put x.r
  ·have:=j7 kvs [.inl x.t,.inl x.b] (.int (Tb.Wt (dX (xs.take i)) x.t x.b + x.w))
   exact Nat.le_trans this (by omega)
 case done =>
 rintro σ H1 ⟨kvs,v2,v3,rfl,s1,hd1,dk,kl⟩
 rw [hlr,List.take_length] at dk
 rw [hlr] at kl
 obtain ⟨hw1,hf1⟩:=pb.ps
 have pne:dX xs ≠ []:=fun e=>xne (List.map_eq_nil_iff.mp e)
 have plen:(dX xs).length <= 1000:=by rw [fM]; omega
 have dpos:=dk.div_pos pne hw1
 have dbits:=K9 dk pne (fun p hp=>by obtain ⟨x,hx,rfl⟩:=List.mem_map.mp hp; exact ⟨(pb x hx).2.2.2.1,(pb x hx).2.2.2.2⟩) plen
 refine ⟨_,rfl,Dd,kvs,rfl,.inl ⟨hd1,fun o=>?_⟩⟩
 have s2:aM H (aU H1 Dd (.frz o (.dT kvs))):=s1.upd_new hDd _
 have hfz:aU H1 Dd (.frz o (.dT kvs)) Dd=some (.frz o (.dT kvs)):=aB
 generalize aU H1 Dd (.frz o (.dT kvs))=H2 at s2 hfz ⊢
 refine JL (fun i σ H'=>∃ d v2,σ = [some (.ref a),some (.ref Dd),v2,v3,some (.int d)] /\ H'=H2 /\ d=Tb.sO ((kvs.take i).map wOf)) ⟨0,_,rfl,rfl,rfl⟩ (fun i σ H' _ ⟨_,_,_,e,_⟩=>by rw [e]; exact hfz) ?turn3 ?done3
 case turn3 =>
  rintro i k v kq σ H' hk hkt ⟨d,v2,rfl,rfl,ed⟩
  obtain ⟨t,b,ekv,hh⟩:=dk.en _ (List.mem_of_getElem? hk)
  injection ekv with ek1 ek2
  subst ek1 ek2
  refine ⟨_,rfl,_,rfl,_,rfl,Dd,.int (Tb.Wt (dX xs) t b),rfl,.inr ⟨kvs,[.inl t,.inl b],kq,.inr ⟨o,hfz⟩,rfl,hkt,(dk.val hh).symm⟩,d,Tb.Wt (dX xs) t b,rfl,?_⟩
  refine ⟨_,_,rfl,rfl,?_⟩
  rw [bH hk,List.map_append,ed]
  exact (Tb.Hq _ _).symm
 case done3 =>
 rintro σ H3 ⟨d,v2,rfl,rfl,ed⟩
 rw [List.take_length] at ed
 have ed:d=jE kvs:=ed
 subst ed
 have kb:∀ kv ∈ kvs,∃ t b:Int,kv.1=[.inl t,.inl b]:=fun kv hkv=>by
  obtain ⟨t,b,e,_⟩:=dk.en kv hkv
  exact ⟨t,b,by rw [e]⟩
 refine ⟨_,rfl,Dd,kvs,rfl,.inr ⟨o,hfz⟩,fun l qs hl hql hqs=>?_⟩
 obtain ⟨rs0,er1,er2,er3⟩:=Oi hql kb hqs
 have n3:=aG hl (.lst (qs.map V.ref))
 have s3:=s2.trans n3
 have rl0:rs0.length=kvs.length:=by simpa using congrArg List.length er2
 have kin0:∀ r ∈ rs0,kI r ∈ kvs.map (·.1):=fun r hr=>by rw [<- er2]; exact List.mem_map.mpr ⟨r,hr,rfl⟩
 refine ⟨l,rs0,rfl,bM.of (by rw [er1]; exact aB),?_,by omega,fun r hr=>⟨n3 _ _ (er3 r hr),(Cz pb dk (kin0 r hr)).2⟩,by rw [er2]; exact dk.nd,hTb.same s3,fun R H4 rs st4 tb4 hR pm so=>?_⟩
 ·rintro rfl
  exact dk.ne pne (List.length_eq_zero_iff.mp rl0.symm)
 have tb3:=hTb.same s3
 have hfz4:H4 Dd=some (.frz o (.dT kvs)):=st4.get tb3 (n3 _ _ hfz) fun _ z=>nomatch z
 have pmk:(rs.map kI).Perm (kvs.map (·.1)):=by rw [<- er2]; exact pm.map kI
 have kin:∀ r ∈ rs,kI r ∈ kvs.map (·.1):=fun r hr=>pmk.mem_iff.mp (List.mem_map.mpr ⟨r,hr,rfl⟩)
 have rat:∀ r ∈ rs,Pu H4 r:=fun r hr=>st4.get tb3 (n3 _ _ (er3 r (pm.mem_iff.mp hr))) fun _ z=>nomatch z
 have rlen:rs.length=kvs.length:=by rw [pm.length_eq,rl0]
 have sT:cD Pt H H4:=(s3.toT).trans st4
 refine ⟨R,rfl,⟨_,bM.of hR⟩,fun D hD=>?_⟩
 refine bY (xs:=mD rs) (fun i τ H'=>∃ v0 ys,τ = [v0,some (.ref a),some (.ref Dd),v2,v3,some (.int (jE kvs))] /\ aM H4 H' /\ gD H' D ys /\ ys.map (fun y=>Rs.mk y.q y.t y.b)=rs.take i /\ ∀ y ∈ ys,y.w=(Tb.Wt (dX xs) y.t y.b).fdiv (jE kvs)) ⟨none,[],rfl,aG hD _,⟨aB,fun _ h=>nomatch h⟩,rfl,(fun _ h=>nomatch h)⟩ ?keep4 ?turn4 ?done4
 case keep4 =>
  rintro i τ H' hi ⟨v0,ys,rfl,hs,_⟩
  exact bM.of (hs _ _ hR)
 case turn4 =>
  rintro i m v τ H' hm hi hv ⟨v0,ys,rfl,hs,hY,ey,yw⟩
  obtain ⟨r,hr,rfl⟩:=Dh hv
  have hmem:=List.mem_of_getElem? hr
  have hh:=(Cz pb dk (kin r hmem)).1
  have rq:H' r.q=some (.tup [.int r.t,.int r.b]):=hs _ _ (rat r hmem)
  have ylen:ys.length <= 1000:=by
   have h:=congrArg List.length ey
   rw [List.length_map,List.length_take] at h
   omega
  unfold oG
  refine eZ ?_
  refine ⟨_,rfl,_,rfl,_,rfl,Dd,.int (Tb.Wt (dX xs) r.t r.b),rfl,.inr ⟨kvs,[.inl r.t,.inl r.b],r.q,.inr ⟨o,hs _ _ hfz4⟩,rfl,rq,(dk.val hh).symm⟩,_,rfl,_,_,rfl,rfl,⟨Int.ne_of_gt dpos,dbits⟩,tO,fun p hp=>?_⟩
  have n1:=aG hp (.tup [.ref r.q,.int ((Tb.Wt (dX xs) r.t r.b).fdiv (jE kvs))])
  have hY1:=hY.same n1
  refine bG hm hi hY1.lst (by rw [dB]; exact aQ ylen) ⟨_,ys ++ [⟨p,r.q,r.t,r.b,(Tb.Wt (dX xs) r.t r.b).fdiv (jE kvs)⟩],rfl,(hs.trans n1).upd_new hD _,⟨?_,?_⟩,?_,?_⟩
  ·rw [aB,nJ]
  ·intro y hy
   rcases List.mem_append.mp hy with z | z
   ·exact (hY1.rows y z).over hY1.lst
   ·rw [List.mem_singleton.mp z]
    exact jY.over ⟨aB,n1 _ _ rq⟩ hY1.lst
  ·rw [List.map_append,ey,bH hr]
   rfl
  ·intro y hy
   rcases List.mem_append.mp hy with z | z
   ·exact yw y z
   ·rw [List.mem_singleton.mp z]
 case done4 =>
  rintro τ H5 ⟨v0,ys,rfl,s5,hY,ey,yw⟩
  rw [pD,List.take_length] at ey
  obtain ⟨tab,wok⟩:=Qx dk hw1 hf1 pne pmk so ey yw
  have yl:ys.length=rs.length:=by rw [<- ey,List.length_map]
  refine q D H5 ys (sT.trans (s5.toT)) (tb4.same s5) (sT.free hD tb4.at_) hY ⟨tab,wok⟩ (by omega)
theorem uV {n:Nat}{f:Addr}{fd:FuncData} (F:eX K "all_weights" "all_weights" (top 18) f fd) (z_sum:mg "sum" = none):aV P w K mg base eG (n + 1) f fd ["table"] Qd:=by
 refine F.ok mU (fun vs H Q E h=>?_) (fun cdv A outer s H vs Q E hr h=>?_)
 ·obtain ⟨a,xs,rfl,_⟩:=h
  rfl
 obtain ⟨a,xs,rfl,hT,hl,q⟩:=h
 have nd:=mU.nd
 refine ⟨_,(aJ (aR (aZ (lC rfl) rfl z_sum qI (aA (cB (ls:=["worth","weight"]) (M:=["table"]) rfl (bR.of (by rfl)) (NL.of (by rfl)) (cA (pv 0)) (fun _ _ _ _=>⟨(gQ (K:=K) (n:=2) rfl rfl (bK (aW (i:=0) (cQ (by rfl)) rfl (Or.inl rfl)) (bK (aW (i:=1) (cQ (by rfl)) rfl (Or.inl rfl)) fP))),cT,(pv 1)⟩)) aC)))),?_⟩
 have hlr:=dB xs
 refine ⟨_,rfl,a,rfl,⟨_,bM.of hT.lst⟩,fun D hD=>?_⟩
 refine bY (xs:=jZ xs) (fun i τ H'=>∃ v0 v1,τ = [v0,v1,some (.ref a)] /\ aM H H' /\ H' D=some (.lst ((xs.take i).map fun x=>V.int x.w))) ⟨none,none,rfl,aG hD _,aB⟩ ?keep ?turn ?done
 case keep =>
  rintro i τ H' hi ⟨v0,v1,rfl,hs,_⟩
  exact bM.of (hT.same hs).lst
 case turn =>
  rintro i m v τ H' hm hi hv ⟨v0,v1,rfl,hs,hD'⟩
  obtain ⟨x,hx,rfl⟩:=nH hv
  have hr:=(hT.same hs).rows x (List.mem_of_getElem? hx)
  refine ⟨x.p,_,rfl,bZ.of hr.1,rfl,_,_,rfl,_,_,rfl,rfl,?_⟩
  refine eZ ?_
  refine ⟨_,rfl,?_⟩
  refine bG hm hi hD' (by rw [List.length_map]; exact aQ (Nat.le_trans (List.length_take_le _ _) (by omega))) ⟨_,_,rfl,hs.upd_new hD _,?_⟩
  rw [aB,bH hx,List.map_append]
  rfl
 case done =>
  rintro τ H' ⟨v0,v1,rfl,hs,hD'⟩
  rw [hlr,List.take_length] at hD'
  refine ⟨D,xs.map dJ.w,rfl,bM.of (by rw [hD',List.map_map]; rfl),?_⟩
  exact q H' hs
theorem Ho {n:Nat}{f:Addr}{fd:FuncData} (F:eX K "capped" "capped" (top 19) f fd) {g_in_form:Addr}{gd_in_form:FuncData} (c_in_form:gF P w K mg base n "in_form" ["rows"] (Dw Pt iY) g_in_form gd_in_form) {g_lesser:Addr}{gd_lesser:FuncData} (c_lesser:gF P w K mg base n "lesser" ["one","other"] (Pn K) g_lesser gd_lesser):aV P w K mg base eG (n + 1) f fd ["table","level"] (J1 Pt iY):=by
 refine F.ok xH (fun vs H Q E h=>?_) (fun cdv A outer s H vs Q E hr h=>?_)
 ·obtain ⟨a,l,xs,x0,n,W,M,kk,rfl,_⟩:=h
  rfl
 obtain ⟨a,l,xs,x0,n,W,M,kk,rfl,hT,g,c,hl,f,hTb,q⟩:=h
 have nd:=xH.nd
 refine ⟨_,(aJ (aR (aN c_in_form hr (aA (cB (ls:=["worth","weight"]) (M:=["table","level"]) rfl (bR.of (by rfl)) (NL.of (by rfl)) (cA (pv 0)) (fun _ _ _ _=>⟨(gQ (K:=K) (n:=2) rfl rfl (bK (aW (i:=0) (cQ (by rfl)) rfl (Or.inl rfl)) (bK (aW (i:=1) (cQ (by rfl)) rfl (Or.inl rfl)) fP))),cT,(dI (aA (aN c_lesser hr (aA (pv 0) (aA (pv 3) aC))) (aA (pv 1) aC)))⟩)) aC)))),?_⟩
 obtain ⟨l0,l1⟩:=x0
 have hl:H l=some (.tup [.int l0,.int l1]):=hl
 have f:Sd.Fq l0 l1 M kk:=f
 have lb:=pO f g.mp c.m c.k0 c.k
 have hlr:=dB xs
 have glen:=g.len
 have gn:=c.n
 have ylen:∀ {i:Nat}{ys:List dJ},dX ys=(dX (xs.take i)).map (Tb.jR l0 l1)->ys.length <= 12:=fun {i ys} e=>by
  have h1:=congrArg List.length e
  rw [fM,List.length_map,fM,List.length_take] at h1
  omega
 refine ⟨_,rfl,a,rfl,⟨_,bM.of hT.lst⟩,fun D hD=>?_⟩
 refine bY (xs:=jZ xs) (fun i τ H'=>∃ v0 v1 ys,τ = [v0,v1,some (.ref a),some (.ref l)] /\ aM H H' /\ gD H' D ys /\ dX ys=(dX (xs.take i)).map (Tb.jR l0 l1)) ⟨none,none,[],rfl,aG hD _,⟨aB,fun _ h=>nomatch h⟩,rfl⟩ ?keep ?turn ?done
 case keep =>
  rintro i τ H' hi ⟨v0,v1,ys,rfl,hs,_⟩
  exact bM.of (hT.same hs).lst
 case turn =>
  rintro i m v τ H' hm hi hv ⟨v0,v1,ys,rfl,hs,hY,ey⟩
  obtain ⟨x,hx,rfl⟩:=nH hv
  have hmem:=List.mem_of_getElem? hx
  have hr:=(hT.same hs).rows x hmem
  have xz:=g.bits c hmem
  have yl:=ylen ey
  refine ⟨x.p,_,rfl,bZ.of hr.1,rfl,_,_,rfl,_,_,rfl,rfl,?_⟩
  refine eZ ?_
  refine ⟨_,rfl,_,rfl,x.q,l,x.t,x.b,l0,l1,rfl,bZ.of hr.2,bZ.of (hs _ _ hl),⟨by omega,by omega,by omega,by omega⟩,fun c=>?_,fun c=>?_⟩
  ·
   refine ⟨_,rfl,tO,fun p hp=>?_⟩
   have n1:=aG hp (.tup [.ref l,.int x.w])
   have hY1:=hY.same n1
   refine bG hm hi hY1.lst (by rw [dB]; exact aQ (by omega)) ⟨_,_,ys ++ [⟨p,l,l0,l1,x.w⟩],rfl,(hs.trans n1).upd_new hD _,⟨?_,?_⟩,?_⟩
   ·rw [aB,nJ]
   ·intro y hy
    rcases List.mem_append.mp hy with z | z
    ·exact (hY1.rows y z).over hY1.lst
    ·rw [List.mem_singleton.mp z]
     exact jY.over ⟨aB,n1 _ _ (hs _ _ hl)⟩ hY1.lst
   ·rw [lB,ey,bH hx,lB,List.map_append]
    show _ ++ [_]=_ ++ [Tb.jR l0 l1 x.r]
    unfold Tb.jR
    rw [if_pos (show l0 * x.r.b < x.r.t * l1 from c)]
    rfl
  ·
   refine ⟨_,rfl,tO,fun p hp=>?_⟩
   have n1:=aG hp (.tup [.ref x.q,.int x.w])
   have hY1:=hY.same n1
   refine bG hm hi hY1.lst (by rw [dB]; exact aQ (by omega)) ⟨_,_,ys ++ [⟨p,x.q,x.t,x.b,x.w⟩],rfl,(hs.trans n1).upd_new hD _,⟨?_,?_⟩,?_⟩
   ·rw [aB,nJ]
   ·intro y hy
    rcases List.mem_append.mp hy with z | z
    ·exact (hY1.rows y z).over hY1.lst
    ·rw [List.mem_singleton.mp z]
     exact jY.over ⟨aB,n1 _ _ hr.2⟩ hY1.lst
   ·rw [lB,ey,bH hx,lB,List.map_append]
    show _ ++ [_]=_ ++ [Tb.jR l0 l1 x.r]
    unfold Tb.jR
    rw [if_neg (show ¬ l0 * x.r.b < x.r.t * l1 from c)]
    rfl
 case done =>
 rintro τ H1 ⟨v0,v1,ys,rfl,s1,hY,ey⟩
 have yl:=ylen ey
 rw [hlr,List.take_length] at ey
 have el:ys.length=xs.length:=by
  have h1:=congrArg List.length ey
  rw [fM,List.length_map,fM] at h1
  exact h1
 refine ⟨D,ys,rfl,hY,?_,by omega,QD g c f ey,hTb.same s1,fun r H5 zs s5 tb5 hr5 hZ o hzl=>?_⟩
 ·rintro rfl
  exact g.ne (List.length_eq_zero_iff.mp el.symm)
 ·rw [ey] at o
  exact q r H5 zs ((s1.toT).trans s5) tb5 (s1.free hr5) hZ (Px g f o (by omega)) o
theorem _root_.TD.GM.wz {es:List iZ}{k0:Nat}{W0 kk:Int} (g:GM es k0 W0 kk) {e:iZ} (he:e ∈ es) {y:dJ} (hy:y ∈ e.ys):intBits y.w <= 601:=by
 have ge:=g.g e he
 have a:=ge.w1 y hy
 have b:=mQ ge.w1 hy
 have c:=ge.ws
 have d:=(g.c e he).w
 have p1:(2:Int) ^ 601=2 * 2 ^ 600:=by rw [Int.pow_succ]; omega
 have q1:=Sd.cL 600
 exact nT (by omega) (by omega)
theorem Ji {n:Nat}{f:Addr}{fd:FuncData} (F:eX K "mixed" "mixed" (top 20) f fd) {g_in_form:Addr}{gd_in_form:FuncData} (c_in_form:gF P w K mg base n "in_form" ["rows"] (Dw Pt iY) g_in_form gd_in_form) {g_all_weights:Addr}{gd_all_weights:FuncData} (c_all_weights:gF P w K mg base n "all_weights" ["table"] Qd g_all_weights gd_all_weights) {g_common_multiple:Addr}{gd_common_multiple:FuncData} (c_common_multiple:gF P w K mg base n "common_multiple" ["numbers"] (QR K) g_common_multiple gd_common_multiple):aV P w K mg base eG (n + 1) f fd ["rows"] (Kv Pt iY):=by
 refine F.ok Dc (fun vs H Q E h=>?_) (fun cdv A outer s H vs Q E hr h=>?_)
 ·obtain ⟨a,es,k0,W0,kk,rfl,_⟩:=h
  rfl
 obtain ⟨a,es,k0,W0,kk,rfl,hE,g,hTb,q⟩:=h
 have nd:=Dc.nd
 refine ⟨_,(aD (aX (i:=1) nd rfl (Or.inl rfl) (aN c_common_multiple hr (aA (cB (ls:=["weight","table"]) (M:=["rows","scale","parts","weight#","table#","factor"]) rfl (bR.of (by rfl)) (NL.of (by rfl)) (cA (pv 0)) (fun _ _ _ _=>⟨(gQ (K:=K) (n:=2) rfl rfl (bK (aW (i:=0) (cQ (by rfl)) rfl (Or.inl rfl)) (bK (aW (i:=1) (cQ (by rfl)) rfl (Or.inl rfl)) fP))),cT,(aN c_all_weights hr (aA (pv 1) aC))⟩)) aC))) (aD (aX (i:=2) nd rfl (Or.inl rfl) (gU aC)) (aD (jD PassesOwn.never rfl (cA (pv 0)) (vD rfl (bK (aW (i:=3) nd rfl (Or.inl rfl)) (bK (aW (i:=4) nd rfl (Or.inl rfl)) fP))) (aD (aX (i:=5) nd rfl (Or.inr rfl) (bA dU (pv 3) (bA jU (pv 1) (aN c_all_weights hr (aA (pv 4) aC))))) (aJ (eU (lV PySem.F.plainAttrs_list PySem.F.slot_list_extend PySem.F.type_list_extend Hg (pv 2) (aA (cB (ls:=["worth","inner"]) (M:=["rows","scale","parts","weight","table","factor"]) rfl (bR.of (by rfl)) (NL.of (by rfl)) (cA (pv 4)) (fun _ _ _ _=>⟨(gQ (K:=K) (n:=2) rfl rfl (bK (aW (i:=0) (cQ (by rfl)) rfl (Or.inl rfl)) (bK (aW (i:=1) (cQ (by rfl)) rfl (Or.inl rfl)) fP))),cT,(dI (aA (pv 0) (aA (bA dU (pv 7) (pv 1)) aC)))⟩)) aC)))))) (aJ (aR (aN c_in_form hr (aA (pv 2) aC))))))),?_⟩
 have hlr:=qC es
 have glen:=g.len
 have tpos:∀ n ∈ cX es,0 < n:=fun n hn=>(g.tp n hn).1
 have tb:=g.tb
 obtain ⟨Sp,_,Sz,Sdv⟩:=g.S
 have k12:=g.k
 have n12:=g.n
 refine ⟨_,rfl,a,rfl,⟨_,bM.of hE.lst⟩,fun D hD=>?_⟩
 refine bY (xs:=pG es) (fun i τ H'=>∃ v0 v1,τ = [v0,v1,some (.ref a),none,none,none,none,none] /\ aM H H' /\ H' D=some (.lst ((es.take i).map fun e=>V.int (cN e.ys)))) ⟨none,none,rfl,aG hD _,aB⟩ ?keep ?turn ?done
 case keep =>
  rintro i τ H' hi ⟨v0,v1,rfl,hs,_⟩
  exact bM.of (hE.same hs).lst
 case turn =>
  rintro i m v τ H' hm hi hv ⟨v0,v1,rfl,hs,hD'⟩
  obtain ⟨e,he,rfl⟩:=Bg hv
  have hr:=(hE.same hs).ents e (List.mem_of_getElem? he)
  have ge:=g.g e (List.mem_of_getElem? he)
  refine ⟨e.p,_,rfl,bZ.of hr.1,rfl,_,_,rfl,_,_,rfl,rfl,?_⟩
  refine eZ ?_
  refine ⟨_,rfl,e.a,e.ys,rfl,hr.2,by have:=ge.len; omega,fun H2 s2=>?_⟩
  refine bG hm hi (s2 _ _ hD') (by rw [List.length_map]; exact aQ (Nat.le_trans (List.length_take_le _ _) (by omega))) ⟨_,_,rfl,(hs.trans s2).upd_new hD _,?_⟩
  rw [aB,bH he,List.map_append]
  rfl
 case done =>
 rintro τ H1 ⟨v0,v1,rfl,s1,hD1⟩
 rw [hlr,List.take_length] at hD1
 refine ⟨D,cX es,rfl,bM.of (by rw [hD1]; unfold cX; rw [List.map_map]; rfl),tpos,fun n hn=>Nat.le_trans (tb.1 n hn) (by decide),Nat.le_trans tb.2 (by decide),?_⟩
 refine ⟨Nat.zero_le _,fun Rp hRp=>?_⟩
 have hRn:H Rp=none:=s1.free hRp
 have s2:=s1.upd_new hRn (.lst [])
 refine ⟨_,rfl,a,rfl,⟨_,bM.of (hE.same s2).lst⟩,?_⟩
 refine jT (xs:=pG es) (fun i σ H'=>∃ v3 v4 v5 xs,σ = [some (.ref a),some (.int (dY (cX es))),some (.ref Rp),v3,v4,v5] /\ aM H H' /\ gD H' Rp xs /\ dX xs=cH (dY (cX es)) (es.take i) /\ PB xs /\ xs.length <= i * k0) ⟨none,none,none,[],rfl,s2,⟨aB,fun _ h=>nomatch h⟩,rfl,(fun _ h=>nomatch h),by rw [Nat.zero_mul]; exact Nat.le_refl _⟩ ?keep2 ?turn2 ?done2
 case keep2 =>
  rintro i σ H' hi ⟨v3,v4,v5,xs,rfl,hs,_⟩
  exact bM.of (hE.same hs).lst
 case turn2 =>
  rintro i v σ H' hv ⟨v3,v4,v5,xs,rfl,hs,hX,ex,pb,xl⟩
  obtain ⟨e,he,rfl⟩:=Bg hv
  have hmem:=List.mem_of_getElem? he
  have hi:=(List.getElem?_eq_some_iff.mp he).1
  have hr:=(hE.same hs).ents e hmem
  have ge:=g.g e hmem
  have gw:=g.w e hmem
  have gl:=ge.len
  have gs:=ge.tot
  have tz:=tb.1 _ (List.mem_map.mpr ⟨e,hmem,rfl⟩)
  have wz:intBits e.w <= 64:=PySem.intBits_le_64 (by omega) (by omega)
  have fz:intBits (qH (dY (cX es)) e) <= 64 + 2405:=PySem.intBits_mul_le wz (PySem.intBits_fdiv_le Sz)
  refine ⟨e.p,_,rfl,bZ.of hr.1,rfl,_,_,rfl,_,_,rfl,rfl,?_⟩
  refine ⟨_,rfl,_,rfl,_,rfl,e.a,e.ys,rfl,hr.2,by omega,fun H2 s2=>?_⟩
  refine ⟨_,_,rfl,rfl,⟨by omega,Nat.le_trans tz (by decide)⟩,_,_,rfl,rfl,gH (m:=64) (n:=2405) wz (PySem.intBits_fdiv_le Sz) (by decide),?_⟩
  have hs2:=hs.trans s2
  have hr2:=hr.2.same s2
  refine ⟨_,rfl,.inl ⟨rfl,_,bM.of (hX.same s2).lst⟩,_,rfl,e.a,rfl,⟨_,bM.of hr2.lst⟩,fun D2 hD2=>?_⟩
  refine bY (xs:=jZ e.ys) (fun j τ H''=>∃ v0 v1 zs,τ = [v0,v1,some (.ref a),some (.int (dY (cX es))),some (.ref Rp),some (.int e.w),some (.ref e.a),some (.int (qH (dY (cX es)) e))] /\ aM H2 H'' /\ gD H'' D2 zs /\ dX zs=(e.ys.take j).map (fun y=>⟨y.t,y.b,qH (dY (cX es)) e * y.w⟩)) ⟨none,none,[],rfl,aG hD2 _,⟨aB,fun _ h=>nomatch h⟩,rfl⟩ ?keep3 ?turn3 ?done3
  case keep3 =>
   rintro j τ H'' hj ⟨v0,v1,zs,rfl,hs3,_⟩
   exact bM.of (hr2.same hs3).lst
  case turn3 =>
   rintro j m v τ H'' hm hj hv ⟨v0,v1,zs,rfl,hs3,hZ,ez⟩
   obtain ⟨y,hy,rfl⟩:=nH hv
   have hym:=List.mem_of_getElem? hy
   have ry:=(hr2.same hs3).rows y hym
   have yz:=g.wz hmem hym
   have zl:zs.length <= 12:=by
    have h:=congrArg List.length ez
    rw [fM,List.length_map,List.length_take] at h
    omega
   refine ⟨y.p,_,rfl,bZ.of ry.1,rfl,_,_,rfl,_,_,rfl,rfl,?_⟩
   refine eZ ?_
   refine ⟨_,rfl,_,rfl,_,rfl,_,_,rfl,rfl,gH fz yz (by decide),tO,fun p hp=>?_⟩
   have n1:=aG hp (.tup [.ref y.q,.int (qH (dY (cX es)) e * y.w)])
   have hZ1:=hZ.same n1
   refine bG hm hj hZ1.lst (by rw [dB]; exact aQ (by omega)) ⟨_,_,zs ++ [⟨p,y.q,y.t,y.b,qH (dY (cX es)) e * y.w⟩],rfl,(hs3.trans n1).upd_new hD2 _,⟨?_,?_⟩,?_⟩
   ·rw [aB,nJ]
   ·intro z hz
    rcases List.mem_append.mp hz with q1 | q1
    ·exact (hZ1.rows z q1).over hZ1.lst
    ·rw [List.mem_singleton.mp q1]
     exact jY.over ⟨aB,n1 _ _ ry.2⟩ hZ1.lst
   ·rw [lB,ez,bH hy,List.map_append]
    rfl
  case done3 =>
   rintro τ H3 ⟨v0,v1,zs,rfl,s3,hZ,ez⟩
   rw [dB,List.take_length] at ez
   have zl:zs.length=e.ys.length:=by
    have h:=congrArg List.length ez
    rw [fM,List.length_map] at h
    exact h
   have hX3:=hX.same (s2.trans s3)
   have il:i * k0 <= es.length * k0:=Nat.mul_le_mul_right _ (by omega)
   refine ⟨Rp,D2,jZ xs,jZ zs,rfl,rfl,hX3.lst,hZ.lst,by rw [dB,dB]; exact Nat.le_of_lt (aQ (by omega)),?_⟩
   have s4:aM H (aU H3 Rp (.lst (jZ xs ++ jZ zs))):=(hs2.trans s3).upd_new hRn _
   refine ⟨_,_,_,xs ++ zs,rfl,s4,⟨?_,?_⟩,?_,?_,?_⟩
   ·rw [aB]
    unfold jZ
    rw [List.map_append]
   ·intro z hz
    rcases List.mem_append.mp hz with q1 | q1
    ·exact (hX3.rows z q1).over hX3.lst
    ·exact (hZ.rows z q1).over hX3.lst
   ·rw [Ec,ex,ez,bH he,zM]
   ·intro z hz
    rcases List.mem_append.mp hz with q1 | q1
    ·exact pb z q1
    ·have m:z.r ∈ dX zs:=List.mem_map.mpr ⟨z,q1,rfl⟩
     rw [ez] at m
     obtain ⟨y,hy,ey⟩:=List.mem_map.mp m
     have e1:y.t=z.t:=congrArg Tb.Rw.t ey
     have e2:y.b=z.b:=congrArg Tb.Rw.b ey
     have e3:qH (dY (cX es)) e * y.w=z.w:=congrArg Tb.Rw.w ey
     rw [<- e1,<- e2,<- e3]
     exact g.pb hmem hy
   ·rw [List.length_append,Nat.succ_mul]
    omega
 case done2 =>
  rintro σ H4 ⟨v3,v4,v5,xs,rfl,s4,hX,ex,pb,xl⟩
  rw [hlr,List.take_length] at ex
  rw [hlr] at xl
  refine ⟨_,rfl,Rp,xs,rfl,hX,?_,by omega,pb,hTb.same s4,fun r H5 ys s5 tb5 hr5 hY o hyl=>?_⟩
  ·rintro rfl
   have ex:([]:List Tb.Rw)=cH (dY (cX es)) es:=ex
   cases hes:es with
   | nil=>exact g.ne hes
   | cons e es' =>
    have ge:=g.g e (by rw [hes]; exact List.mem_cons_self)
    cases hys:e.ys with
    | nil=>exact ge.ne hys
    | cons y ys =>
     have z:Tb.tH (cH (dY (cX es)) es) y.t y.b:=by
      rw [hes]
      exact Tb.lJ.mpr (.inl ⟨⟨y.t,y.b,_⟩,List.mem_map.mpr ⟨y,by rw [hys]; exact List.mem_cons_self,rfl⟩,rfl,rfl⟩)
     rw [<- ex] at z
     exact Tb.uA z
  ·rw [ex] at o
   exact q r H5 ys ((s4.toT).trans s5) tb5 (s4.free hr5) hY (g.out o (by omega)) o (by rw [<- ex,fM]; exact hyl)
theorem yN {n:Nat}{f:Addr}{fd:FuncData} (F:eX K "level_for" "level_for" (top 21) f fd) {g_share:Addr}{gd_share:FuncData} (c_share:gF P w K mg base n "share" ["top","bottom"] Ah g_share gd_share) {g_all_weights:Addr}{gd_all_weights:FuncData} (c_all_weights:gF P w K mg base n "all_weights" ["table"] Qd g_all_weights gd_all_weights) {g_common_multiple:Addr}{gd_common_multiple:FuncData} (c_common_multiple:gF P w K mg base n "common_multiple" ["numbers"] (QR K) g_common_multiple gd_common_multiple) (z_reversed:mg "reversed" = none):aV P w K mg base eG (n + 1) f fd ["table","price"] O4:=by
 refine F.ok pW (fun vs H Q E h=>?_) (fun cdv A outer s H vs Q E hr h=>?_)
 ·obtain ⟨a,xs,p,n,W,kk,rfl,_⟩:=h
  rfl
 obtain ⟨a,xs,p,n,W,kk,rfl,hT,g,c,so,p0,p9,q⟩:=h
 have nd:=pW.nd
 refine ⟨_,(aD (aX (i:=2) nd rfl (Or.inl rfl) (aN c_common_multiple hr (aA (cB (ls:=["worth","weight"]) (M:=["table","price","bottom","tops","weights","worth#","weight#","top"]) rfl (bR.of (by rfl)) (NL.of (by rfl)) (cA (pv 0)) (fun _ _ _ _=>⟨(gQ (K:=K) (n:=2) rfl rfl (bK (aW (i:=0) (cQ (by rfl)) rfl (Or.inl rfl)) (bK (aW (i:=1) (cQ (by rfl)) rfl (Or.inl rfl)) fP))),cT,(bJ (jG (K:=K) rfl) (pv 0) aL (fun _ _=>rfl))⟩)) aC))) (aD (aX (i:=3) nd rfl (Or.inl rfl) (bA dU (bA dU (Oh JV (pv 1)) (aN c_all_weights hr (aA (pv 0) aC))) (pv 2))) (aD (aX (i:=4) nd rfl (Or.inl rfl) aL) (aD (jD PassesOwn.never rfl (Pb rfl z_reversed (aA (pv 0) aC)) (vD rfl (bK (aW (i:=5) nd rfl (Or.inl rfl)) (bK (aW (i:=6) nd rfl (Or.inl rfl)) fP))) (aD (aX (i:=7) nd rfl (Or.inl rfl) (bA dU (bJ cO (pv 5) aL (fun _ _=>rfl)) (bA jU (pv 2) (bJ cO (pv 5) aL (fun _ _=>rfl))))) (aD (eF (PW.pt (QX (bV Bu (pv 4) aL (cM _)) (Lk (bV uD (bA dU (pv 7) (pv 4)) (pv 3) (cM _))))) (aJ J3) bU) (aD (aX (i:=3) nd rfl (Or.inl rfl) (bA fY (pv 3) (bA dU (pv 6) (pv 7)))) (aJ (aX (i:=4) nd rfl (Or.inl rfl) (bA fY (pv 4) (pv 6)))))))) (aJ (aR (aN c_share hr (aA (pv 3) (aA (bA dU (pv 4) (pv 2)) aC))))))))),?_⟩
 have hlr:=dB xs
 have hrl:=fM xs
 have glen:=g.len
 have gn:=c.n
 have tab:=g.tab so
 have wt1:=g.tot
 have wt2:=g.ws
 have wt3:=c.w
 have lm:0 < bT xs /\ bT xs <= 2 ^ 1600:=⟨g.mp,c.m⟩
 have p601:(2:Int) ^ 601=2 * 2 ^ 600:=by rw [Int.pow_succ]; omega
 have p600:=Sd.cL 600
 have p1601:(2:Int) ^ 1601=2 * 2 ^ 1600:=by rw [Int.pow_succ]; omega
 have glz:intBits (bT xs) <= 1601:=nT (by omega) (by omega)
 have wsz:∀ z:Int,0 <= z->z <= cN xs->intBits z <= 601:=fun z h1 h2=>nT (by omega) (by omega)
 have nz:0 < xs.length:=by
  rcases Nat.eq_zero_or_pos xs.length with z | z
  ·exact absurd (List.length_eq_zero_iff.mp z) g.ne
  ·exact z
 have b1:∀ x:Int,0 <= x->x <= 1000000000->intBits x <= 64:=fun x h1 h2=>PySem.intBits_le_64 (by omega) (by omega)
 have bpos:∀ n ∈ xs.map dJ.b,0 < n:=fun n hn=>by
  obtain ⟨x,hx,rfl⟩:=List.mem_map.mp hn
  exact (g.fq x hx).fr.pos
 refine ⟨_,rfl,a,rfl,⟨_,bM.of hT.lst⟩,fun D hD=>?_⟩
 refine bY (xs:=jZ xs) (fun i τ H'=>∃ v0 v1,τ = [v0,v1,some (.ref a),some (.int p),none,none,none,none,none,none] /\ aM H H' /\ H' D=some (.lst ((xs.take i).map fun x=>V.int x.b))) ⟨none,none,rfl,aG hD _,aB⟩ ?keep ?turn ?done
 case keep =>
  rintro i τ H' hi ⟨v0,v1,rfl,hs,_⟩
  exact bM.of (hT.same hs).lst
 case turn =>
  rintro i m v τ H' hm hi hv ⟨v0,v1,rfl,hs,hD'⟩
  obtain ⟨x,hx,rfl⟩:=nH hv
  have hr:=(hT.same hs).rows x (List.mem_of_getElem? hx)
  refine ⟨x.p,_,rfl,bZ.of hr.1,rfl,_,_,rfl,_,_,rfl,rfl,?_⟩
  refine eZ ?_
  refine ⟨_,rfl,x.q,_,_,_,rfl,rfl,bZ.of hr.2,rfl,?_⟩
  refine bG hm hi hD' (by rw [List.length_map]; exact aQ (Nat.le_trans (List.length_take_le _ _) (by omega))) ⟨_,_,rfl,hs.upd_new hD _,?_⟩
  rw [aB,bH hx,List.map_append]
  rfl
 case done =>
 rintro τ H1 ⟨v0,v1,rfl,s1,hD1⟩
 rw [hlr,List.take_length] at hD1
 have b9:∀ n ∈ xs.map dJ.b,intBits n <= 1601:=fun n hn=>by
  obtain ⟨x,hx,rfl⟩:=List.mem_map.mp hn
  exact (g.bits c hx).1
 have b10:((xs.map dJ.b).map intBits).sum <= 200000:=by
  have h:=o6 (k:=1601) (l:=(xs.map dJ.b).map intBits) fun n hn=>by
   obtain ⟨z,hz,rfl⟩:=List.mem_map.mp hn
   exact b9 z hz
  rw [List.length_map,List.length_map] at h
  omega
 refine ⟨D,xs.map dJ.b,rfl,bM.of (by rw [hD1,List.map_map]; rfl),bpos,fun n hn=>Nat.le_trans (b9 n hn) (by decide),b10,?_⟩
 have hT1:=hT.same s1
 refine ⟨_,rfl,_,rfl,_,rfl,a,xs,rfl,hT1,by omega,fun H2 s2=>⟨_,_,rfl,rfl,gH (m:=64) (n:=601) (PySem.intBits_neg_le (b1 p p0 p9)) (wsz _ (by omega) (Int.le_refl _)) (by decide),_,rfl,_,_,rfl,rfl,gH (m:=64 + 601) (n:=1601) (PySem.intBits_mul_le (PySem.intBits_neg_le (b1 p p0 p9)) (wsz _ (by omega) (Int.le_refl _))) glz (by decide),?_⟩⟩
 have hT2:=hT1.same s2
 have gw2:=wt1
 rw [qQ] at gw2
 have P0:0 <= p * Tb.W (dX xs) * bT xs:=Int.mul_nonneg (Int.mul_nonneg p0 (by omega)) (Int.le_of_lt tab.cm.pos)
 have fin:∀ (i:Nat) (tops ws:Int) (v5 v6 v7:Option V),0 < i->Tb.Lp (bT xs) (p * Tb.W (dX xs) * bT xs) (dX xs) i tops ws ->
   (i=(dX xs).length ∨ ∃ r,(dX xs)[(dX xs).length - 1 - i]? = some r /\ i < (dX xs).length /\ Tb.T (bT xs) r * ws <= tops) ->
   WQ (BZ Ah [] E0 (K6 (Hb 3) (K6 (YM (rI Kh fun i j=>.int (i * j)) (Hb 4) (Hb 2)) Dz))) { nx:=fun _ H'=>Q .non H',rt:=Q } [some (.ref a),some (.int p),some (.int (bT xs)),some (.int tops),some (.int ws),v5,v6,v7] H2:=by
  intro i tops ws v5 v6 v7 hi L stop
  have wp:=L.ws_pos tab hi
  obtain ⟨w0,wl,tlo,thi⟩:=g.lp c.k0 p0 L
  have wz:=wsz ws w0 wl
  have ne:ws * bT xs ≠ 0:=Int.ne_of_gt (Int.mul_pos wp tab.cm.pos)
  refine ⟨_,rfl,_,rfl,_,rfl,_,_,rfl,rfl,gH wz glz (by decide),tops,ws * bT xs,rfl,ne,Nat.le_trans (PySem.intBits_mul_le wz glz) (by decide),fun r H' s' hr'=>?_⟩
  have kp:0 <= (p + kk) * cN xs:=Int.mul_nonneg (by have:=c.k0; omega) (by omega)
  exact q r H' (Fr.sh tops (ws * bT xs)) ws ((s1.trans s2).trans s') hr' (by omega) wl (Ql (by omega) lm.1 kp tlo thi) (L.ends tab hi stop (Fr.FT ne) (Fr.mX tops (ws * bT xs)))
 refine ⟨_,rfl,a,jZ xs,rfl,bM.of hT2.lst,?_⟩
 refine N5 (fun i σ H'=>∃ tops ws v5 v6 v7,σ = [some (.ref a),some (.int p),some (.int (bT xs)),some (.int tops),some (.int ws),v5,v6,v7] /\ H'=H2 /\ Tb.Lp (bT xs) (p * Tb.W (dX xs) * bT xs) (dX xs) i tops ws) ?start (fun i σ H' _ ⟨_,_,_,_,_,_,e,_⟩=>by subst e; exact bM.of hT2.lst) ?turn2 ?done2
 case start =>
  refine ⟨_,_,none,none,none,rfl,rfl,?_⟩
  have e:-p * cN xs * bT xs = -(p * Tb.W (dX xs) * bT xs):=by rw [qQ]; grind
  show Tb.Lp _ _ _ 0 (-p * cN xs * bT xs) 0
  rw [e]
  exact Tb.Lp.start P0
 case turn2 =>
  rintro i v σ H' hi hv ⟨tops,ws,v5,v6,v7,rfl,rfl,L⟩
  obtain ⟨x,hx,rfl⟩:=nH hv
  have hmem:=List.mem_of_getElem? hx
  have hr:=hT2.rows x hmem
  have xp:=(g.fq x hmem).fr.pos
  have xbz:=g.bits c hmem
  rw [hlr] at hi hx
  have hx':(dX xs)[(dX xs).length - 1 - i]? = some x.r:=by rw [hrl]; unfold dX; rw [List.getElem?_map,hx]; rfl
  have tT:x.t * (bT xs).fdiv x.b=Tb.T (bT xs) x.r:=by
   unfold Tb.T
   rw [Int.fdiv_eq_ediv_of_nonneg _ (Int.le_of_lt xp)]
   rfl
  have tz:intBits (x.t * (bT xs).fdiv x.b) <= 3201 + 1601:=PySem.intBits_mul_le xbz.2 (PySem.intBits_fdiv_le glz)
  obtain ⟨w0,wl,tlo,thi⟩:=g.lp c.k0 p0 L
  have wz:=wsz ws w0 wl
  have xw:=wsz x.w (by have:=g.w1 x hmem; omega) (mQ g.w1 hmem)
  refine ⟨x.p,_,rfl,bZ.of hr.1,rfl,_,_,rfl,_,_,rfl,rfl,?_⟩
  refine ⟨_,rfl,x.q,_,_,_,rfl,rfl,bZ.of hr.2,rfl,_,rfl,_,rfl,x.q,_,_,_,rfl,rfl,bZ.of hr.2,rfl,_,_,rfl,rfl,⟨Int.ne_of_gt xp,by omega⟩,_,_,rfl,rfl,gH xbz.2 (PySem.intBits_fdiv_le glz) (by decide),?_⟩
  refine ⟨_,rfl,_,_,rfl,rfl,_,rfl,?_⟩
  have go:¬ (0 < ws /\ Tb.T (bT xs) x.r * ws <= tops)->∃ tops' ws' v5 v6 v7,[some (V.ref a),some (.int p),some (.int (bT xs)),some (.int (tops + x.w * (x.t * (bT xs).fdiv x.b))),some (.int (ws + x.w)),some (.ref x.q),some (.int x.w),some (.int (x.t * (bT xs).fdiv x.b))]=[some (.ref a),some (.int p),some (.int (bT xs)),some (.int tops'),some (.int ws'),v5,v6,v7] /\ H'=H' /\ Tb.Lp (bT xs) (p * Tb.W (dX xs) * bT xs) (dX xs) (i + 1) tops' ws':=fun h=>by
   have L2:=L.next tab P0 (by rw [hrl]; exact hi) hx' h
   rw [<- tT] at L2
   exact ⟨_,_,_,_,_,rfl,rfl,L2⟩
  by_cases hw:0 < ws
  ·refine zW (decide_eq_true hw) ?_
   refine ⟨_,rfl,_,rfl,_,_,rfl,rfl,gH tz wz (by decide),_,rfl,_,_,rfl,rfl,_,rfl,?_⟩
   by_cases hb:x.t * (bT xs).fdiv x.b * ws <= tops
   ·refine zW (decide_eq_true hb) ?_
    have ip:0 < i:=by
     rcases Nat.eq_zero_or_pos i with z | z
     ·subst z
      have a0:=L.ew
      simp [Tb.W] at a0
      omega
     ·exact z
    exact fin i tops ws _ _ _ ip L (.inr ⟨x.r,hx',by rw [hrl]; exact hi,by rw [<- tT]; exact hb⟩)
   ·refine t8 (decide_eq_false hb) ?_
    refine ⟨_,rfl,_,rfl,_,rfl,_,_,rfl,rfl,gH xw tz (by decide),_,_,rfl,rfl,?_⟩
    refine ⟨_,rfl,_,rfl,_,_,rfl,rfl,?_⟩
    exact go fun z=>hb (by rw [tT]; exact z.2)
  ·refine t8 (decide_eq_false hw) ?_
   refine fH ?_
   refine ⟨_,rfl,_,rfl,_,rfl,_,_,rfl,rfl,gH xw tz (by decide),_,_,rfl,rfl,?_⟩
   refine ⟨_,rfl,_,rfl,_,_,rfl,rfl,?_⟩
   exact go fun z=>hw z.1
 case done2 =>
  rintro σ H' ⟨tops,ws,v5,v6,v7,rfl,rfl,L⟩
  rw [hlr] at L
  exact fin xs.length tops ws v5 v6 v7 nz L (.inl hrl.symm)
theorem wH {n:Nat}{f:Addr}{fd:FuncData} (F:eX K "ends" "Stand.ends" (aF (top 28) 1) f fd) {c:Cs} (ck:CK K c):aV P w K mg base eG (n + 1) f fd ["self"] (JK c):=by
 refine F.ok nY (fun vs H Q E h=>?_) (fun cdv A outer s H vs Q E hr h=>?_)
 ·obtain ⟨x,s,d,m,rfl,_⟩:=h
  rfl
 obtain ⟨x,s,d,m,rfl,st,q⟩:=h
 have nd:=nY.nd
 refine ⟨_,(aJ (aR (cV (pv 0) rfl))),?_⟩
 cases st with
 | en h vv ok=>exact ⟨_,rfl,x,c.e,_,_,_,rfl,h,ck.ce,ck.e1,rfl,q _ vv.n1 vv.nm vv.nx⟩
 | st h vv g lp ly row sub p0 p9 ne l4 w hk=>exact ⟨_,rfl,x,c.s,_,_,_,rfl,h,ck.cs,ck.s1,rfl,q _ vv.n1 vv.nm vv.nx⟩
theorem tG {n:Nat}{f:Addr}{fd:FuncData} (F:eX K "stages" "Stand.stages" (aF (top 28) 2) f fd) {c:Cs} (ck:CK K c):aV P w K mg base eG (n + 1) f fd ["self"] (Jx c):=by
 refine F.ok mH (fun vs H Q E h=>?_) (fun cdv A outer s H vs Q E hr h=>?_)
 ·obtain ⟨x,s,d,m,rfl,_⟩:=h
  rfl
 obtain ⟨x,s,d,m,rfl,st,q⟩:=h
 have nd:=mH.nd
 refine ⟨_,(aJ (aR (cV (pv 0) rfl))),?_⟩
 cases st with
 | en h vv ok=>exact ⟨_,rfl,x,c.e,_,_,_,rfl,h,ck.ce,ck.e2,rfl,q _ vv.k0 vv.kd vv.kx⟩
 | st h vv g lp ly row sub p0 p9 ne l4 w hk=>exact ⟨_,rfl,x,c.s,_,_,_,rfl,h,ck.cs,ck.s2,rfl,q _ vv.k0 vv.kd vv.kx⟩
theorem wO {n:Nat}{f:Addr}{fd:FuncData} (F:eX K "caps" "Stand.caps" (aF (top 28) 4) f fd) {c:Cs} (ck:CK K c) (z_list:mg "list" = none):aV P w K mg base eG (n + 1) f fd ["self"] (JZ c):=by
 refine F.ok oY (fun vs H Q E h=>?_) (fun cdv A outer s H vs Q E hr h=>?_)
 ·obtain ⟨x,s,d,m,rfl,_⟩:=h
  rfl
 obtain ⟨x,s,d,m,rfl,st,q⟩:=h
 have nd:=oY.nd
 refine ⟨_,(aJ (aR (cU gA rfl z_list gR (aA (cV (pv 0) rfl) aC)))),?_⟩
 cases st with
 | @en _ _ l cp v n' k' _ _ xs h vv ok =>
  refine ⟨_,rfl,x,c.e,_,_,_,rfl,h,ck.ce,ck.e4,rfl,?_⟩
  refine ⟨cp,_,rfl,.inr (bZ.of vv.caps.1),fun r hr0=>?_⟩
  have n1:=aG hr0 (.lst (jZ xs))
  exact q r _ xs n1 hr0 ⟨aB,fun y hy=>(vv.caps.2 y hy).same n1⟩ vv.gs vv.so ⟨_,vv.mt,vv.lw⟩
 | @st _ _ l cp r0 p n' k' lv _ _ j xs rs ps ys h vv g lp ly row sub p0 p9 ne l4 w hk =>
  refine ⟨_,rfl,x,c.s,_,_,_,rfl,h,ck.cs,ck.s4,rfl,?_⟩
  refine ⟨cp,_,rfl,.inr (bZ.of vv.caps.1),fun r hr0=>?_⟩
  have n1:=aG hr0 (.lst (jZ xs))
  exact q r _ xs n1 hr0 ⟨aB,fun y hy=>(vv.caps.2 y hy).same n1⟩ vv.gs vv.so ⟨_,vv.mt,vv.lw⟩
theorem pC {n:Nat}{f:Addr}{fd:FuncData} (F:eX K "__init__" "Stand.__init__" (aF (top 28) 0) f fd) {c:Cs} (ck:CK K c) (z_tuple:mg "tuple" = none):aV P w K mg base eG (n + 1) f fd ["self","end_count","stage_count","level","cap_rows"] (K5 c):=by
 refine F.ok j8 (fun vs H Q E h=>?_) (fun cdv A outer s H vs Q E hr h=>?_)
 ·obtain ⟨x,dx,C,l,a,n1,k1,xs,rfl,_⟩:=h
  rfl
 obtain ⟨x,dx,C,l,a,n1,k1,xs,rfl,hC,hx,hT,q⟩:=h
 have nd:=j8.nd
 refine ⟨_,(aD (fD (pv 0) (pv 1) rfl) (aD (fD (pv 0) (pv 2) rfl) (aD (fD (pv 0) (pv 3) rfl) (aJ (fD (pv 0) (cU (d8 (K:=K) rfl) rfl z_tuple gP (aA (pv 4) aC)) rfl))))),?_⟩
 have cC:Av K C /\ cG K C "end_count" /\ cG K C "stage_count" /\ cG K C "level" /\ cG K C "cap_rows":=by
  rcases hC with e | e <;> subst e
  ·exact ⟨ck.ce,ck.e1,ck.e2,ck.e3,ck.e4⟩
  ·exact ⟨ck.cs,ck.s1,ck.s2,ck.s3,ck.s4⟩
 have nax:a ≠ x:=bC hT.lst hx fun z=>nomatch z
 refine ⟨_,rfl,_,rfl,x,C,dx,[],rfl,hx,cC.1,cC.2.1,(by show _ < 1000; decide),?_⟩
 refine ⟨_,rfl,_,rfl,x,C,dx,_,rfl,aB,cC.1,cC.2.2.1,(by show 1 < 1000; decide),?_⟩
 refine ⟨_,rfl,_,rfl,x,C,dx,_,rfl,aB,cC.1,cC.2.2.2.1,(by show 2 < 1000; decide),?_⟩
 refine ⟨_,rfl,a,_,rfl,.inl ⟨bM.of (by rw [aH nax,aH nax,aH nax]; exact hT.lst),fun t ht=>?_⟩⟩
 have htx:t ≠ x:=fun e=>by rw [e,aB] at ht; cases ht
 refine ⟨_,rfl,x,C,dx,_,rfl,by rw [aH (Ne.symm htx)]; exact aB,cC.1,cC.2.2.2.2,(by show 3 < 1000; decide),?_⟩
 rw [aH htx,aH htx,aH htx] at ht
 refine q t _ ht (fun b o nb e=>?_) aB ?_
 ·rw [aH nb,aH (aO e ht),aH nb,aH nb,aH nb]
  exact e
 ·rw [aH htx]
  exact aB
theorem Bq {n:Nat}{f:Addr}{fd:FuncData} (F:eX K "is_whole" "is_whole" (top 6) f fd) (z_isinstance:mg "isinstance" = none) (z_bool:mg "bool" = none) (z_int:mg "int" = none):aV P w K mg base eG (n + 1) f fd ["thing","least","most"] rA:=by
 refine F.ok rQ (fun vs H Q E h=>?_) (fun cdv A outer s H vs Q E hr h=>?_)
 ·obtain ⟨v,lo,hi,b,rfl,_⟩:=h
  rfl
 obtain ⟨v,lo,hi,b,rfl,h,q⟩:=h
 have nd:=rQ.nd
 refine ⟨_,(aJ (aR (uT (aZ (dD (T:="int")) rfl z_isinstance bQ (aA (pv 0) (aA (gO (v:=.ty "int") rfl z_int Fb rfl) aC))) (uT (Jr (aZ (dD (T:="bool")) rfl z_isinstance bQ (aA (pv 0) (aA (gO (v:=.ty "bool") rfl z_bool zU rfl) aC)))) (vM (Kr uD uD (pv 1) (pv 0) (pv 2))))))),?_⟩
 cases h with
 | no h =>
  obtain ⟨t,ht,hk⟩:=h K
  refine ⟨_,rfl,_,_,_,rfl,ht,hk,_,rfl,?_⟩
  exact fH q
 | bl c =>
  refine ⟨_,rfl,_,_,_,rfl,.bl c,yZ,_,rfl,?_⟩
  refine iI ?_
  refine ⟨_,rfl,_,_,_,rfl,.bl c,fU _,_,rfl,?_⟩
  refine ⟨_,rfl,?_⟩
  exact fH q
 | int i =>
  refine ⟨_,rfl,_,_,_,rfl,.int i,fU _,_,rfl,?_⟩
  refine iI ?_
  refine ⟨_,rfl,_,_,_,rfl,.int i,lN,_,rfl,?_⟩
  refine ⟨_,rfl,?_⟩
  refine iI ?_
  refine ⟨_,rfl,_,rfl,_,_,rfl,rfl,_,rfl,?_⟩
  by_cases h1:lo <= i
  ·refine zW (decide_eq_true h1) ?_
   refine ⟨_,rfl,_,_,rfl,rfl,?_⟩
   rw [decide_eq_true h1] at q
   exact q
  ·refine t8 (decide_eq_false h1) ?_
   rw [decide_eq_false h1] at q
   exact q
theorem BX {n:Nat}{f:Addr}{fd:FuncData} (F:eX K "is_stand" "is_stand" (top 31) f fd) {c:Cs} (ck:CK K c) (ct:CT K c) (cn:CN K c) (g_End:mg "End" = some (.ref c.e)) (g_Stage:mg "Stage" = some (.ref c.s)) (z_isinstance:mg "isinstance" = none):aV P w K mg base eG (n + 1) f fd ["thing"] (JP c K):=by
 refine F.ok rK (fun vs H Q E h=>?_) (fun cdv A outer s H vs Q E hr h=>?_)
 ·obtain ⟨v,b,rfl,_⟩:=h
  rfl
 obtain ⟨v,b,rfl,h,q⟩:=h
 have nd:=rK.nd
 refine ⟨_,(aJ (aR (Uj (aZ (p8 (K:=K) rfl) rfl z_isinstance bQ (aA (pv 0) (aA (jM (v:=.ref c.e) rfl g_End rfl) aC))) (vM (aZ (p8 (K:=K) rfl) rfl z_isinstance bQ (aA (pv 0) (aA (jM (v:=.ref c.s) rfl g_Stage rfl) aC))))))),?_⟩
 cases h with
 | yes st =>
  cases st with
  | en h vv ok =>
   refine ⟨_,rfl,_,c.e,.ref c.e,true,rfl,.ins h ck.ce ct.ea ct.hn ct.htk ct.em,ct.ee,?_⟩
   refine ⟨_,rfl,?_⟩
   refine iI ?_
   exact q
  | st h vv g lp ly row sub p0 p9 ne l4 w hk =>
   refine ⟨_,rfl,_,c.e,.ref c.s,false,rfl,.ins h ck.cs ct.sa ct.hn ct.htk ct.sm,ct.se,?_⟩
   refine ⟨_,rfl,?_⟩
   refine fH ?_
   exact ⟨_,rfl,_,c.s,.ref c.s,true,rfl,.ins h ck.cs ct.sa ct.hn ct.htk ct.sm,ct.ss,q⟩
 | no h ht =>
  have z:=cn.all _ ht
  refine ⟨_,rfl,_,c.e,_,false,rfl,h,z.1,?_⟩
  refine ⟨_,rfl,?_⟩
  refine fH ?_
  exact ⟨_,rfl,_,c.s,_,false,rfl,h,z.2,q⟩
theorem sI {n:Nat}{f:Addr}{fd:FuncData} (F:eX K "is_stage_row" "is_stage_row" (top 32) f fd) {c:Cs}{g_is_stand:Addr}{gd_is_stand:FuncData} (c_is_stand:gF P w K mg base n "is_stand" ["thing"] (JP c K) g_is_stand gd_is_stand) {g_is_whole:Addr}{gd_is_whole:FuncData} (c_is_whole:gF P w K mg base n "is_whole" ["thing","least","most"] rA g_is_whole gd_is_whole) (z_len:mg "len" = none) (z_isinstance:mg "isinstance" = none) (z_tuple:mg "tuple" = none) {u_MOST_WEIGHT:Value} (g_MOST_WEIGHT:mg "MOST_WEIGHT" = some u_MOST_WEIGHT) (r_MOST_WEIGHT:bL (.int 1000) u_MOST_WEIGHT):aV P w K mg base eG (n + 1) f fd ["row"] (Ff c K):=by
 refine F.ok lZ (fun vs H Q E h=>?_) (fun cdv A outer s H vs Q E hr h=>?_)
 ·obtain ⟨v,b,rfl,_⟩:=h
  rfl
 obtain ⟨v,b,rfl,h,q⟩:=h
 have nd:=lZ.nd
 refine ⟨_,(aD (eF (PW.pt (iU (fG (dH (aZ (dD (T:="tuple")) rfl z_isinstance bQ (aA (pv 0) (aA (gO (v:=.ty "tuple") rfl z_tuple gP rfl) aC))))) (gC (bV uY (aZ cI rfl z_len jA (aA (pv 0) aC)) aL (cM _))))) (aJ (aR gW)) bU) (aJ (aR (uT (aN c_is_whole hr (aA (bJ cO (pv 0) aL (fun _ _=>rfl)) (aA aL (aA (jM (v:=.int 1000) rfl g_MOST_WEIGHT r_MOST_WEIGHT) aC)))) (vM (aN c_is_stand hr (aA (bJ cO (pv 0) aL (fun _ _=>rfl)) aC))))))),?_⟩
 cases h with
 | no ht hk =>
  refine ⟨_,rfl,_,_,_,rfl,ht,hk,_,rfl,?_⟩
  exact iI (iI q)
 | @len a xs e hl =>
  refine ⟨_,rfl,_,_,_,rfl,.tup e,fU _,_,rfl,?_⟩
  refine fH ?_
  refine ⟨_,rfl,a,_,rfl,.inr (bZ.of e),rfl,_,rfl,?_⟩
  refine zW ?_ q
  rw [decide_eq_false (fun z=>hl (by injection z with z; omega))]
  rfl
 | @two a x y b1 b2 e hx hy =>
  refine ⟨_,rfl,_,_,_,rfl,.tup e,fU _,_,rfl,?_⟩
  refine fH ?_
  refine ⟨_,rfl,a,_,rfl,.inr (bZ.of e),rfl,_,rfl,?_⟩
  refine fH ?_
  refine ⟨_,rfl,a,_,_,_,rfl,rfl,bZ.of e,rfl,x,1,1000,b1,rfl,hx,_,rfl,?_⟩
  cases b1 with
  | false=>exact fH q
  | true =>
   refine iI ?_
   exact ⟨_,rfl,a,_,_,_,rfl,rfl,bZ.of e,rfl,y,b2,rfl,hy,q⟩
theorem qL {n:Nat}{f:Addr}{fd:FuncData} (F:eX K "is_stage_rows" "is_stage_rows" (top 33) f fd) {c:Cs}{g_is_stage_row:Addr}{gd_is_stage_row:FuncData} (c_is_stage_row:gF P w K mg base n "is_stage_row" ["row"] (Ff c K) g_is_stage_row gd_is_stage_row) (z_all:mg "all" = none) (z_len:mg "len" = none) (z_isinstance:mg "isinstance" = none) (z_list:mg "list" = none) {u_MOST_STAGE_ROWS:Value} (g_MOST_STAGE_ROWS:mg "MOST_STAGE_ROWS" = some u_MOST_STAGE_ROWS) (r_MOST_STAGE_ROWS:bL (.int 4) u_MOST_STAGE_ROWS):aV P w K mg base eG (n + 1) f fd ["rows"] (Ax c K):=by
 refine F.ok kW (fun vs H Q E h=>?_) (fun cdv A outer s H vs Q E hr h=>?_)
 ·obtain ⟨v,b,rfl,_⟩:=h
  rfl
 obtain ⟨v,b,rfl,h,q⟩:=h
 have nd:=kW.nd
 refine ⟨_,(aD (eF (PW.pt (iU (fG (dH (aZ (dD (T:="list")) rfl z_isinstance bQ (aA (pv 0) (aA (gO (v:=.ty "list") rfl z_list gR rfl) aC))))) (gC (fG (Cy uD uD aL (aZ cI rfl z_len jA (aA (pv 0) aC)) (jM (v:=.int 4) rfl g_MOST_STAGE_ROWS r_MOST_STAGE_ROWS)))))) (aJ (aR gW)) bU) (aJ (aR (aZ (yC rfl rfl) rfl z_all Jm (aA (cB (ls:=["row"]) (M:=["rows"]) rfl (bR.of (by rfl)) (NL.of (by rfl)) (cA (pv 0)) (fun _ _ _ _=>⟨(aW (i:=0) (cQ (by rfl)) rfl (Or.inl rfl)),cT,(aN c_is_stage_row hr (aA (pv 0) aC))⟩)) aC))))),?_⟩
 cases h with
 | no h =>
  obtain ⟨t,ht,hk⟩:=h K
  refine ⟨_,rfl,_,_,_,rfl,ht,hk,_,rfl,?_⟩
  exact iI (iI (q H (aM.refl _)))
 | @len a xs e hl =>
  refine ⟨_,rfl,_,_,_,rfl,.lst e,fU _,_,rfl,?_⟩
  refine fH ?_
  refine ⟨_,rfl,a,_,rfl,.inl (bM.of e),_,_,rfl,rfl,_,rfl,?_⟩
  by_cases h1:1 <= xs.length
  ·refine zW (decide_eq_true (show (1:Int) <= _ by omega)) ?_
   refine ⟨_,_,rfl,rfl,_,rfl,?_⟩
   refine zW ?_ (q H (aM.refl _))
   rw [decide_eq_false (show ¬ (xs.length:Int) <= 4 by omega)]
   rfl
  ·refine t8 (decide_eq_false (show ¬ (1:Int) <= _ by omega)) ?_
   refine ⟨_,rfl,?_⟩
   exact iI (q H (aM.refl _))
 | @all a xs bs e h1 h8 hb h =>
  refine ⟨_,rfl,_,_,_,rfl,.lst e,fU _,_,rfl,?_⟩
  refine fH ?_
  refine ⟨_,rfl,a,_,rfl,.inl (bM.of e),_,_,rfl,rfl,_,rfl,?_⟩
  refine zW (decide_eq_true (show (1:Int) <= _ by omega)) ?_
  refine ⟨_,_,rfl,rfl,_,rfl,?_⟩
  refine t8 (by rw [decide_eq_true (show (xs.length:Int) <= 4 by omega)]; rfl) ?_
  refine ⟨_,rfl,a,rfl,⟨_,bM.of e⟩,fun D hD=>?_⟩
  refine bY (xs:=xs) (fun i τ H'=>∃ v0,τ = [v0,some (.ref a)] /\ aM H H' /\ H' D=some (.lst ((bs.take i).map V.bl))) ⟨none,rfl,aG hD _,aB⟩ ?keep ?turn ?done
  case keep =>
   rintro i τ H' hi ⟨v0,rfl,hs,_⟩
   exact bM.of (hs _ _ e)
  case turn =>
   rintro i m v τ H' hm hi hv ⟨v0,rfl,hs,hD'⟩
   have hib:i < bs.length:=by omega
   have eb:bs[i]? = some (bs.getD i false):=by rw [List.getElem?_eq_getElem hib,fQ hib]
   refine Bt ?_
   refine ⟨_,rfl,v,bs.getD i false,rfl,(h i v hv).kt (aM.kt hs),?_⟩
   refine bG hm hi hD' (by rw [List.length_map,List.length_take]; exact aQ (by omega)) ⟨_,rfl,hs.upd_new hD _,?_⟩
   rw [aB,bH eb,List.map_append]
   rfl
  case done =>
   rintro τ H' ⟨v0,rfl,hs,hD'⟩
   rw [<- hb,List.take_length] at hD'
   exact ⟨D,_,rfl,bM.of hD',q H' hs⟩
theorem vZ {n:Nat}{f:Addr}{fd:FuncData} (F:eX K "need_boxes" "need_boxes" (top 34) f fd) {c:Cs}{C_NoBox:Addr} (g_NoBox:mg "NoBox" = some (.ref C_NoBox)) (x_NoBox:sU K C_NoBox) {g_is_stand:Addr}{gd_is_stand:FuncData} (c_is_stand:gF P w K mg base n "is_stand" ["thing"] (JP c K) g_is_stand gd_is_stand) (z_all:mg "all" = none) (z_len:mg "len" = none) (z_isinstance:mg "isinstance" = none) (z_list:mg "list" = none) {u_MOST_BOXES:Value} (g_MOST_BOXES:mg "MOST_BOXES" = some u_MOST_BOXES) (r_MOST_BOXES:bL (.int 6) u_MOST_BOXES):aV P w K mg base (oX P w) (n + 1) f fd ["boxes"] (SX c K C_NoBox):=by
 refine F.okX oE (fun vs H Q E h=>?_) (fun cdv A outer s H vs Q E hr h=>?_)
 ·obtain ⟨v,b,rfl,_⟩:=h
  rfl
 obtain ⟨v,b,rfl,h,qt,qf⟩:=h
 have nd:=oE.nd
 refine ⟨_,(aD (eF (PT.nox (PW.pt (iU (fG (dH (aZ (dD (T:="list")) rfl z_isinstance bQ (aA (pv 0) (aA (gO (v:=.ty "list") rfl z_list gR rfl) aC))))) (gC (fG (Cy uD uD aL (aZ cI rfl z_len jA (aA (pv 0) aC)) (jM (v:=.int 6) rfl g_MOST_BOXES r_MOST_BOXES))))))) (aJ (iT gJ rfl rfl g_NoBox x_NoBox)) bU) (aJ (eF (PT.nox (fG (dH (aZ (yC rfl rfl) rfl z_all Jm (aA (cB (ls:=["box"]) (M:=["boxes"]) rfl (bR.of (by rfl)) (NL.of (by rfl)) (cA (pv 0)) (fun _ _ _ _=>⟨(aW (i:=0) (cQ (by rfl)) rfl (Or.inl rfl)),cT,(aN c_is_stand hr (aA (pv 0) aC))⟩)) aC)))) ) (aJ (iT gJ rfl rfl g_NoBox x_NoBox)) bU))),?_⟩
 cases h with
 | no h =>
  obtain ⟨t,ht,hk⟩:=h K
  refine ⟨_,rfl,_,_,_,rfl,ht,hk,_,rfl,?_⟩
  exact iI (iI (qf rfl H (aM.refl _)))
 | @len a xs e hl =>
  refine ⟨_,rfl,_,_,_,rfl,.lst e,fU _,_,rfl,?_⟩
  refine fH ?_
  refine ⟨_,rfl,a,_,rfl,.inl (bM.of e),_,_,rfl,rfl,_,rfl,?_⟩
  by_cases h1:1 <= xs.length
  ·refine zW (decide_eq_true (show (1:Int) <= _ by omega)) ?_
   refine ⟨_,_,rfl,rfl,_,rfl,?_⟩
   refine zW ?_ (qf rfl H (aM.refl _))
   rw [decide_eq_false (show ¬ (xs.length:Int) <= 6 by omega)]
   rfl
  ·refine t8 (decide_eq_false (show ¬ (1:Int) <= _ by omega)) ?_
   refine ⟨_,rfl,?_⟩
   exact iI (qf rfl H (aM.refl _))
 | @all a xs bs e h1 h8 hb h =>
  refine ⟨_,rfl,_,_,_,rfl,.lst e,fU _,_,rfl,?_⟩
  refine fH ?_
  refine ⟨_,rfl,a,_,rfl,.inl (bM.of e),_,_,rfl,rfl,_,rfl,?_⟩
  refine zW (decide_eq_true (show (1:Int) <= _ by omega)) ?_
  refine ⟨_,_,rfl,rfl,_,rfl,?_⟩
  refine t8 (by rw [decide_eq_true (show (xs.length:Int) <= 6 by omega)]; rfl) ?_
  refine ⟨_,rfl,a,rfl,⟨_,bM.of e⟩,fun D hD=>?_⟩
  refine bY (xs:=xs) (fun i τ H'=>∃ v0,τ = [v0,some (.ref a)] /\ aM H H' /\ H' D=some (.lst ((bs.take i).map V.bl))) ⟨none,rfl,aG hD _,aB⟩ ?keep ?turn ?done
  case keep =>
   rintro i τ H' hi ⟨v0,rfl,hs,_⟩
   exact bM.of (hs _ _ e)
  case turn =>
   rintro i m v τ H' hm hi hv ⟨v0,rfl,hs,hD'⟩
   have hib:i < bs.length:=by omega
   have eb:bs[i]? = some (bs.getD i false):=by rw [List.getElem?_eq_getElem hib,fQ hib]
   refine Bt ?_
   refine ⟨_,rfl,v,bs.getD i false,rfl,(h i v hv).kt (aM.kt hs),?_⟩
   refine bG hm hi hD' (by rw [List.length_map,List.length_take]; exact aQ (by omega)) ⟨_,rfl,hs.upd_new hD _,?_⟩
   rw [aB,bH eb,List.map_append]
   rfl
  case done =>
   rintro τ H' ⟨v0,rfl,hs,hD'⟩
   rw [<- hb,List.take_length] at hD'
   refine ⟨D,bs,rfl,bM.of hD',_,rfl,?_⟩
   cases hbb:bs.all id with
   | true=>exact fH (qt hbb H' hs)
   | false=>exact iI (qf hbb H' hs)
theorem tE {n:Nat}{f:Addr}{fd:FuncData} (F:eX K "__init__" "End.__init__" (aF (top 29) 0) f fd) {c:Cs} (ck:CK K c) {cSt fStI:Addr}{fdStI:FuncData} (g_Stand:mg "Stand" = some (.ref cSt)) (mS_i:Ml K cSt "__init__" fStI) (G_StI:aV P w K mg base eG n fStI fdStI ["self","end_count","stage_count","level","cap_rows"] (K5 c)) (b_StI:bB K fdStI ["self","end_count","stage_count","level","cap_rows"] []) {C_NoBox:Addr} (g_NoBox:mg "NoBox" = some (.ref C_NoBox)) (x_NoBox:sU K C_NoBox) {g_whole:Addr}{gd_whole:FuncData} (c_whole:gF P w K mg base n "whole" ["number"] UV g_whole gd_whole) {g_is_whole:Addr}{gd_is_whole:FuncData} (c_is_whole:gF P w K mg base n "is_whole" ["thing","least","most"] rA g_is_whole gd_is_whole) {u_MOST_WORTH:Value} (g_MOST_WORTH:mg "MOST_WORTH" = some u_MOST_WORTH) (r_MOST_WORTH:bL (.int 1000000000) u_MOST_WORTH):aV P w K mg base (oX P w) (n + 1) f fd ["self","worth"] (Ni c C_NoBox):=by
 refine F.okX mC (fun vs H Q E h=>?_) (fun cdv A outer s H vs Q E hr h=>?_)
 ·rcases h with ⟨x,dx,v,rfl,_⟩ | ⟨x,v,rfl,_⟩ <;> rfl
 have nd:=mC.nd
 refine ⟨_,(aD (eF (PT.nox (fG (dH (aN c_is_whole hr (aA (pv 1) (aA aL (aA (jM (v:=.int 1000000000) rfl g_MOST_WORTH r_MOST_WORTH) aC))))))) (aJ (iT gJ rfl rfl g_NoBox x_NoBox)) bU) (sJ.nox (aD (eU (Gn rfl g_Stand mS_i G_StI hr b_StI .nil c7 (aA (pv 0) (aA aL (aA aL (aA (aN c_whole hr (aA (pv 1) aC)) (aA (gU (aA (dI (aA (aN c_whole hr (aA (pv 1) aC)) (aA aL aC))) aC)) aC))))))) (aJ (fD (pv 0) (pv 1) rfl))))),?_⟩
 rcases h with ⟨x,dx,v,rfl,hx,h0,h9,q⟩ | ⟨x,v,rfl,h,q⟩
 rotate_left
 ·refine ⟨_,rfl,v,0,1000000000,false,rfl,h,?_⟩
  refine ⟨_,rfl,?_⟩
  exact iI q
 refine ⟨_,rfl,.int v,0,1000000000,true,rfl,lU.yes h0 h9,?_⟩
 refine ⟨_,rfl,?_⟩
 refine fH ?_
 refine ⟨_,rfl,_,rfl,v,rfl,fun l H1 s1 hl=>?_⟩
 refine ⟨_,rfl,v,rfl,fun p H2 s2 hp=>?_⟩
 refine ⟨tO,fun t ht=>?_⟩
 refine ⟨X8,fun a ha=>?_⟩
 have n3:=aG ht (.tup [.ref p,.int 1])
 have n4:=aG ha (.lst [.ref t])
 have s4:=((s1.trans s2).trans n3).trans n4
 have hT:gD (aU (aU H2 t (.tup [.ref p,.int 1])) a (.lst [.ref t])) a [⟨t,p,v,1,1⟩]:=⟨aB,fun y hy=>by rw [List.mem_singleton.mp hy]; exact ⟨n4 _ _ aB,(n3.trans n4) _ _ hp⟩⟩
 have hl4:=(s2.trans (n3.trans n4)) _ _ hl
 generalize aU (aU H2 t (.tup [.ref p,.int 1])) a (.lst [.ref t])=H4 at n4 s4 hT hl4 ⊢
 refine ⟨x,dx,c.e,l,a,1,0,_,rfl,.inl rfl,s4 _ _ hx,hT,fun cp H5 cn k5 hx5 hc5=>?_⟩
 refine ⟨_,rfl,_,rfl,x,c.e,dx,_,rfl,hx5,ck.ce,ck.e5,(by show 4 < 1000; decide),?_⟩
 have hx4:=s4 _ _ hx
 have hu:∀ b o,b ≠ x->H4 b=some o->aU H5 x (.ins c.e dx (fE 1 0 l cp v)) b=some o:=fun b o nb e=>by rw [aH nb]; exact k5 b o nb e
 have tu:∀ b xs,H4 b=some (.tup xs)->aU H5 x (.ins c.e dx (fE 1 0 l cp v)) b=some (.tup xs):=fun b xs e=>hu b _ (bC e hx4 fun z=>nomatch z) e
 refine q _ (fun b o nb e=>hu b o nb (s4 _ _ e)) fun d m hm=>?_
 refine .en (dx:=dx) (l:=l) (cp:=cp) (n:=1) (k:=0) (xs:=[⟨t,p,v,1,1⟩]) aB ⟨tu _ _ hl4,⟨?_,fun y hy=>?_⟩,Ov h0 h9 hm,List.pairwise_singleton _ _,by decide,by omega,by decide,by omega,Sd.Uw v d,PN h0 h9,rfl,rfl⟩ (.en h0 h9 hm)
 ·have:cp ≠ x:=fun e=>by rw [e,hx5] at hc5; cases hc5
  rw [aH this]
  exact hc5
 ·have:=hT.rows y hy
  exact ⟨tu _ _ this.1,tu _ _ this.2⟩
theorem Gd {H:Hp}{D:Addr}{e:iZ}{zs:List V}{o:HO} (hD:H D=some (.lst zs)) (n:e.a ≠ D) (h:xV H e):xV (aU H D o) e:=by
 refine ⟨?_,?_,fun x hx=>⟨?_,?_⟩⟩
 ·rw [aH (bC h.1 hD fun z=>nomatch z)]; exact h.1
 ·rw [aH n]; exact h.2.lst
 ·rw [aH (bC (h.2.rows x hx).1 hD fun z=>nomatch z)]; exact (h.2.rows x hx).1
 ·rw [aH (bC (h.2.rows x hx).2 hD fun z=>nomatch z)]; exact (h.2.rows x hx).2
theorem Oz {ns:List Int} (h:∀ n ∈ ns,1 <= n /\ True):(ns.length:Int) <= ns.sum:=by
 induction ns with
 | nil=>simp
 | cons n ns ih =>
  have a:=(h n List.mem_cons_self).1
  have b:=ih fun m hm=>h m (List.mem_cons_of_mem _ hm)
  rw [List.sum_cons,List.length_cons]
  push_cast
  omega
theorem kY.good {c:Cs}{K:PySem.W.Frag}{H:Hp}{a:Addr}{ps ys:List Addr}{rs:List (Int × Sd.Sd)}{d:Nat}{j:Int × Sd.Sd->Nat} (g:EY c H a ps ys rs d j):kY c K H (.ref a) true:=by
 have hl:(ps.map V.ref).length=rs.length:=by rw [List.length_map]; exact g.R.lp
 have h:=kY.all (c:=c) (K:=K) (bs:=List.replicate rs.length true) g.ha (by rw [hl]; exact List.length_pos_iff.mpr g.ne) (by rw [hl]; exact g.l4) (by rw [List.length_replicate,hl]) fun i v hv=>by
  obtain ⟨q1,y,t,_,_,er,rfl,h1,st,mem⟩:=g.R.at_ hv
  have hi:=(List.getElem?_eq_some_iff.mp er).1
  have e:(List.replicate rs.length true).getD i false=true:=by simp [List.getD,hi]
  rw [e]
  exact Aq.two h1 (lU.yes (g.ww t mem).1 (g.ww t mem).2) (.yes st)
 have e:(List.replicate rs.length true).all id=true:=by simp
 rw [e] at h
 exact h
theorem pY {n:Nat}{f:Addr}{fd:FuncData} (F:eX K "__init__" "Stage.__init__" (aF (top 30) 0) f fd) {c:Cs} (ck:CK K c) {cSt fStI:Addr}{fdStI:FuncData} (g_Stand:mg "Stand" = some (.ref cSt)) (mS_i:Ml K cSt "__init__" fStI) (G_StI:aV P w K mg base eG n fStI fdStI ["self","end_count","stage_count","level","cap_rows"] (K5 c)) (b_StI:bB K fdStI ["self","end_count","stage_count","level","cap_rows"] []) (cfE:Av K c.e) (cfS:Av K c.s) {f_ends:Addr}{fd_ends:FuncData} (m_Ee:dM K c.e "ends" f_ends) (m_Se:dM K c.s "ends" f_ends) (G_ends:aV P w K mg base eG n f_ends fd_ends ["self"] (JK c)) (b_ends:bB K fd_ends ["self"] []) {f_stgs:Addr}{fd_stgs:FuncData} (m_Eg:dM K c.e "stages" f_stgs) (m_Sg:dM K c.s "stages" f_stgs) (G_stgs:aV P w K mg base eG n f_stgs fd_stgs ["self"] (Jx c)) (b_stgs:bB K fd_stgs ["self"] []) {f_caps:Addr}{fd_caps:FuncData} (m_Ec:dM K c.e "caps" f_caps) (m_Sc:dM K c.s "caps" f_caps) (G_caps:aV P w K mg base eG n f_caps fd_caps ["self"] (JZ c)) (b_caps:bB K fd_caps ["self"] []) {C_NoBox:Addr} (g_NoBox:mg "NoBox" = some (.ref C_NoBox)) (x_NoBox:sU K C_NoBox) {g_capped:Addr}{gd_capped:FuncData} (c_capped:gF P w K mg base n "capped" ["table","level"] (J1 Pt iY) g_capped gd_capped) {g_level_for:Addr}{gd_level_for:FuncData} (c_level_for:gF P w K mg base n "level_for" ["table","price"] O4 g_level_for gd_level_for) {g_mixed:Addr}{gd_mixed:FuncData} (c_mixed:gF P w K mg base n "mixed" ["rows"] (Kv Pt iY) g_mixed gd_mixed) {g_is_stage_rows:Addr}{gd_is_stage_rows:FuncData} (c_is_stage_rows:gF P w K mg base n "is_stage_rows" ["rows"] (Ax c K) g_is_stage_rows gd_is_stage_rows) {g_is_whole:Addr}{gd_is_whole:FuncData} (c_is_whole:gF P w K mg base n "is_whole" ["thing","least","most"] rA g_is_whole gd_is_whole) (z_tuple:mg "tuple" = none) (z_max:mg "max" = none) (z_sum:mg "sum" = none) {u_MOST_STAGES:Value} (g_MOST_STAGES:mg "MOST_STAGES" = some u_MOST_STAGES) (r_MOST_STAGES:bL (.int 4) u_MOST_STAGES) {u_MOST_ENDS:Value} (g_MOST_ENDS:mg "MOST_ENDS" = some u_MOST_ENDS) (r_MOST_ENDS:bL (.int 12) u_MOST_ENDS) {u_MOST_PRICE:Value} (g_MOST_PRICE:mg "MOST_PRICE" = some u_MOST_PRICE) (r_MOST_PRICE:bL (.int 1000000000) u_MOST_PRICE):aV P w K mg base (oX P w) (n + 1) f fd ["self","price","rows"] (Np c K C_NoBox Pt iY):=by
 refine F.okX j5 (fun vs H Q E h=>?_) (fun cdv A outer s H vs Q E hr h=>?_)
 ·rcases h with ⟨x,dx,a,p,ps,ys,rs,d,j,rfl,_⟩ | ⟨x,v,w,rfl,_⟩ <;> rfl
 have nd:=j5.nd
 refine ⟨_,(aD (eF (PT.nox (PW.pt (iU (fG (dH (aN c_is_whole hr (aA (pv 1) (aA aL (aA (jM (v:=.int 1000000000) rfl g_MOST_PRICE r_MOST_PRICE) aC)))))) (gC (fG (dH (aN c_is_stage_rows hr (aA (pv 2) aC)))))))) (aJ (iT gJ rfl rfl g_NoBox x_NoBox)) bU) (aD (PS.nox (aX (i:=3) nd rfl (Or.inl rfl) (aZ (lC rfl) rfl z_sum qI (aA (cB (ls:=["weight","stand"]) (M:=["self","price","rows","end_count","stage_count","behind","level"]) rfl (bR.of (by rfl)) (NL.of (by rfl)) (cA (pv 2)) (fun _ _ _ _=>⟨(gQ (K:=K) (n:=2) rfl rfl (bK (aW (i:=0) (cQ (by rfl)) rfl (Or.inl rfl)) (bK (aW (i:=1) (cQ (by rfl)) rfl (Or.inl rfl)) fP))),cT,(gZ (bN (pv 1) cfE m_Ee G_ends hr b_ends .nil c7) (bN (pv 1) cfS m_Se G_ends hr b_ends .nil c7))⟩)) aC)))) (aD (PS.nox (aX (i:=4) nd rfl (Or.inl rfl) (bA fY aL (aZ (yJ rfl) rfl z_max K3 (aA (cB (ls:=["weight","stand"]) (M:=["self","price","rows","end_count","stage_count","behind","level"]) rfl (bR.of (by rfl)) (NL.of (by rfl)) (cA (pv 2)) (fun _ _ _ _=>⟨(gQ (K:=K) (n:=2) rfl rfl (bK (aW (i:=0) (cQ (by rfl)) rfl (Or.inl rfl)) (bK (aW (i:=1) (cQ (by rfl)) rfl (Or.inl rfl)) fP))),cT,(gZ (bN (pv 1) cfE m_Eg G_stgs hr b_stgs .nil c7) (bN (pv 1) cfS m_Sg G_stgs hr b_stgs .nil c7))⟩)) aC))))) (aD (eF (PT.nox (PW.pt (iU (bV Bu (pv 3) (jM (v:=.int 12) rfl g_MOST_ENDS r_MOST_ENDS) (cM _)) (gC (bV Bu (pv 4) (jM (v:=.int 4) rfl g_MOST_STAGES r_MOST_STAGES) (cM _)))))) (aJ (iT gJ rfl rfl g_NoBox x_NoBox)) bU) (sJ.nox (aD (aX (i:=5) nd rfl (Or.inl rfl) (aN c_mixed hr (aA (cB (ls:=["weight","stand"]) (M:=["self","price","rows","end_count","stage_count","behind","level"]) rfl (bR.of (by rfl)) (NL.of (by rfl)) (cA (pv 2)) (fun _ _ _ _=>⟨(gQ (K:=K) (n:=2) rfl rfl (bK (aW (i:=0) (cQ (by rfl)) rfl (Or.inl rfl)) (bK (aW (i:=1) (cQ (by rfl)) rfl (Or.inl rfl)) fP))),cT,(dI (aA (pv 0) (aA (gZ (bN (pv 1) cfE m_Ec G_caps hr b_caps .nil c7) (bN (pv 1) cfS m_Sc G_caps hr b_caps .nil c7)) aC)))⟩)) aC))) (aD (aX (i:=6) nd rfl (Or.inl rfl) (aN c_level_for hr (aA (pv 5) (aA (pv 1) aC)))) (aD (eU (Gn rfl g_Stand mS_i G_StI hr b_StI .nil c7 (aA (pv 0) (aA (pv 3) (aA (pv 4) (aA (pv 6) (aA (aN c_capped hr (aA (pv 5) (aA (pv 6) aC))) aC))))))) (aD (fD (pv 0) (pv 1) rfl) (aJ (fD (pv 0) (cU (d8 (K:=K) rfl) rfl z_tuple gP (aA (pv 2) aC)) rfl))))))))))),?_⟩
 rcases h with ⟨x,dx,a,p,ps,ys,rs,d,j,rfl,hx,g0,p0,p9,hq⟩ | ⟨x,v,u,rfl,h,q⟩
 rotate_left
 ·rcases h with h | ⟨h,h2⟩
  ·refine ⟨_,rfl,v,0,1000000000,false,rfl,h,?_⟩
   refine ⟨_,rfl,?_⟩
   exact iI (iI (q H (aM.refl _)))
  ·refine ⟨_,rfl,v,0,1000000000,true,rfl,h,?_⟩
   refine ⟨_,rfl,?_⟩
   refine fH ?_
   refine ⟨_,rfl,u,false,rfl,h2,fun H1 s1=>?_⟩
   refine ⟨_,rfl,?_⟩
   exact iI (q H1 s1)
 have ha:=g0.ha
 have R:=g0.R
 have ne:=g0.ne
 have l4:=g0.l4
 have ww:=g0.ww
 have hl:(ps.map V.ref).length=rs.length:=by rw [List.length_map]; exact R.lp
 have n1:1 <= rs.length:=List.length_pos_iff.mpr ne
 refine ⟨_,rfl,.int p,0,1000000000,true,rfl,lU.yes p0 p9,?_⟩
 refine ⟨_,rfl,?_⟩
 refine fH ?_
 refine ⟨_,rfl,.ref a,true,rfl,kY.good g0,fun H1 s1=>?_⟩
 refine ⟨_,rfl,?_⟩
 refine fH ?_
 have R1:=R.kp (aM.kp s1)
 have ha1:=s1 _ _ ha
 refine ⟨_,rfl,a,rfl,⟨_,bM.of ha1⟩,fun D hD=>?_⟩
 refine bY (xs:=ps.map V.ref) (fun i τ H'=>∃ v0 v1 cs,τ = [v0,v1,some (.ref x),some (.int p),some (.ref a),none,none,none,none] /\ aM H1 H' /\ H' D=some (.lst (Is cs)) /\ cs=(rs.take i).map (fun t=>Sd.nE (d + 1) t.2) /\ ∀ n ∈ cs,1 <= n /\ True) ⟨none,none,[],rfl,aG hD _,aB,rfl,fun _ h=>nomatch h⟩ ?keepA ?turnA ?doneA
 case keepA =>
  rintro i τ H' hi ⟨v0,v1,cs,rfl,hs,_⟩
  exact bM.of (hs _ _ ha1)
 case turnA =>
  rintro i mm v τ H' hm hi hv ⟨v0,v1,cs,rfl,hs,hD',nl,hn⟩
  obtain ⟨q1,y,t,_,_,er,rfl,h1,st,mem⟩:=R1.at_ hv
  refine ⟨q1,_,rfl,bZ.of (hs _ _ h1),rfl,_,_,rfl,_,_,rfl,rfl,?_⟩
  refine eZ ?_
  refine LC (st.same hs) (fun _ _ _ _ _=>rfl) (fun _ _ _ _ _ _=>rfl) (fun R h=>⟨_,rfl,h⟩) ?_
  refine ⟨y,t.2,d,_,rfl,st.same hs,fun n n1 n2 n3=>?_⟩
  refine bG hm hi hD' (by rw [xK,nl,List.length_map]; exact aQ (Nat.le_trans (List.length_take_le _ _) (by rw [hl] at hi; omega))) ⟨_,_,cs ++ [n],rfl,hs.upd_new hD _,by rw [aB,GR],by rw [nl,bH er,List.map_append,n3]; rfl,fun z hz=>?_⟩
  rcases List.mem_append.mp hz with u | u
  ·exact hn z u
  ·rw [List.mem_singleton.mp u]
   exact ⟨n1,trivial⟩
 case doneA =>
 rintro τ H2 ⟨v0,v1,ns,rfl,s2,hD2,nl,hn⟩
 have nx0:=nl
 rw [hl,List.take_length] at nx0
 have nl:ns.length=rs.length:=by rw [nx0,List.length_map]
 have sn:=Oz hn
 refine ⟨D,ns,rfl,bM.of hD2,?_⟩
 have R2:=R1.kp (aM.kp s2)
 have ha2:=s2 _ _ ha1
 refine ⟨_,rfl,a,rfl,⟨_,bM.of ha2⟩,fun D2 hD2=>?_⟩
 refine bY (xs:=ps.map V.ref) (fun i τ H'=>∃ v0 v1 cs,τ = [v0,v1,some (.ref x),some (.int p),some (.ref a),some (.int ns.sum),none,none,none] /\ aM H2 H' /\ H' D2=some (.lst (Is cs)) /\ cs=(rs.take i).map (fun t=>Sd.nS (d + 1) t.2) /\ ∀ n ∈ cs,0 <= n /\ n <= (d:Int)) ⟨none,none,[],rfl,aG hD2 _,aB,rfl,fun _ h=>nomatch h⟩ ?keepB ?turnB ?doneB
 case keepB =>
  rintro i τ H' hi ⟨v0,v1,cs,rfl,hs,_⟩
  exact bM.of (hs _ _ ha2)
 case turnB =>
  rintro i mm v τ H' hm hi hv ⟨v0,v1,cs,rfl,hs,hD',nl,hn⟩
  obtain ⟨q1,y,t,_,_,er,rfl,h1,st,mem⟩:=R2.at_ hv
  refine ⟨q1,_,rfl,bZ.of (hs _ _ h1),rfl,_,_,rfl,_,_,rfl,rfl,?_⟩
  refine eZ ?_
  refine LC (st.same hs) (fun _ _ _ _ _=>rfl) (fun _ _ _ _ _ _=>rfl) (fun R h=>⟨_,rfl,h⟩) ?_
  refine ⟨y,t.2,d,_,rfl,st.same hs,fun n n1 n2 n3=>?_⟩
  refine bG hm hi hD' (by rw [xK,nl,List.length_map]; exact aQ (Nat.le_trans (List.length_take_le _ _) (by rw [hl] at hi; omega))) ⟨_,_,cs ++ [n],rfl,hs.upd_new hD2 _,by rw [aB,GR],by rw [nl,bH er,List.map_append,n3]; rfl,fun z hz=>?_⟩
  rcases List.mem_append.mp hz with u | u
  ·exact hn z u
  ·rw [List.mem_singleton.mp u]
   exact ⟨n1,n2⟩
 case doneB =>
 rintro τ H3 ⟨v0,v1,ms,rfl,s3,hD3,ml,hms⟩
 have kx0:=ml
 rw [hl,List.take_length] at kx0
 have ml:ms.length=rs.length:=by rw [kx0,List.length_map]
 refine ⟨D2,ms,rfl,bM.of hD3,fun e=>by rw [e] at ml; have:(0:Nat)=rs.length:=ml; omega,fun mx hmx hmax=>?_⟩
 have kx1:1 + mx=Sd.nS (d + 1 + 1) (.st p rs):=by rw [Sd.Qk (fun x hx=>(hms x hx).1) hmx hmax,kx0]; rfl
 have nx1:ns.sum=Sd.nE (d + 1 + 1) (.st p rs):=by rw [nx0]; rfl
 have mb:=hms mx hmx
 refine ⟨_,_,rfl,rfl,?_⟩
 refine ⟨_,rfl,_,_,rfl,rfl,_,rfl,?_⟩
 rcases hq with ⟨big,qE⟩ | ⟨m,hm,m12,d4,hTb,q⟩
 ·have o9:=(s1.trans s2).trans s3
  by_cases h12:(12:Int) < ns.sum
  ·refine zW (decide_eq_true h12) ?_
   refine iI ?_
   exact qE _ o9
  ·refine t8 (decide_eq_false h12) ?_
   refine ⟨_,rfl,_,_,rfl,rfl,_,rfl,?_⟩
   refine zW (decide_eq_true (show (4:Int) < 1 + mx by omega)) ?_
   exact qE _ o9
 have okS:Sd.Ok (.st p rs) (d + 1) m:=.st p0 p9 ne l4 ww (fun r hr=>by obtain ⟨i,y,a,b⟩:=K7 R.ly hr; exact (R.sub i y r a b).ok) hm
 have jl:ns.sum <= (m:Int):=by have:=okS.nE (d + 1 + 1) (Nat.lt_succ_self _); rw [nx0]; exact this
 refine t8 (decide_eq_false (by omega)) ?_
 refine ⟨_,rfl,_,_,rfl,rfl,_,rfl,?_⟩
 refine t8 (decide_eq_false (by omega)) ?_
 have o9:=(s1.trans s2).trans s3
 have R3:=R2.kp (aM.kp s3)
 have ha3:=s3 _ _ ha2
 refine ⟨_,rfl,a,rfl,⟨_,bM.of ha3⟩,fun D3 hD3n=>?_⟩
 refine bY (xs:=ps.map V.ref) (fun i τ H'=>∃ v0 v1 es,τ = [v0,v1,some (.ref x),some (.int p),some (.ref a),some (.int ns.sum),some (.int (1 + mx)),none,none] /\ aM H3 H' /\ vB H' D3 es /\ Sd.Al d es (rs.take i) /\ Ae d j es (rs.take i) /\ es.length=i /\ ∀ e ∈ es,e.a ≠ D3 /\ (1 <= e.w /\ e.w <= 1000)) ⟨none,none,[],rfl,aG hD3n _,⟨aB,fun _ h=>nomatch h⟩,.nil,.nil,rfl,fun _ h=>nomatch h⟩ ?keepC ?turnC ?doneC
 case keepC =>
  rintro i τ H' hi ⟨v0,v1,es,rfl,hs,_⟩
  exact bM.of (hs _ _ ha3)
 case turnC =>
  rintro i mm v τ H' hm' hi hv ⟨v0,v1,es,rfl,hs,hE,al,ae,el,he⟩
  obtain ⟨q1,y,t,_,_,er,rfl,h1,st,mem⟩:=R3.at_ hv
  refine ⟨q1,_,rfl,bZ.of (hs _ _ h1),rfl,_,_,rfl,_,_,rfl,rfl,?_⟩
  refine eZ ?_
  refine ⟨_,rfl,?_⟩
  refine LC (st.same hs) (fun _ _ _ _ _=>rfl) (fun _ _ _ _ _ _=>rfl) (fun R h=>⟨_,rfl,h⟩) ?_
  refine ⟨y,t.2,d,_,rfl,st.same hs,fun r H4 xs s4 hr4 hT4 gs so ⟨lv4,mt4,_⟩=>?_⟩
  refine ⟨tO,fun T hT=>?_⟩
  have n5:=aG hT (.tup [.int t.1,.ref r])
  have hE5:=(hE.same s4).same n5
  have nr:r ≠ D3:=fun e=>by rw [e,hE.lst] at hr4; cases hr4
  refine bG hm' hi hE5.lst (by rw [qC]; exact aQ (by rw [hl] at hi; omega)) ⟨_,_,es ++ [⟨T,t.1,r,xs⟩],rfl,((hs.trans s4).trans n5).upd_new hD3n _,⟨by rw [aB,Ds],fun e h=>?_⟩,by rw [bH er]; exact al.snoc rfl ⟨lv4,mt4⟩,by rw [bH er]; exact ae.snoc gs,by rw [List.length_append,el]; rfl,fun e h=>?_⟩
  ·rcases List.mem_append.mp h with u | u
   ·exact Gd hE5.lst (he e u).1 (hE5.ents e u)
   ·rw [List.mem_singleton.mp u]
    exact Gd hE5.lst nr ⟨aB,hT4.same n5⟩
  ·rcases List.mem_append.mp h with u | u
   ·exact he e u
   ·rw [List.mem_singleton.mp u]
    exact ⟨nr,ww t mem⟩
 case doneC =>
 rintro τ H4 ⟨v0,v1,es,rfl,s4,hE,al,ae,el,he⟩
 rw [hl,List.take_length] at al ae
 rw [hl] at el
 have ene:es ≠ []:=fun e=>by rw [e] at el; have:(0:Nat)=rs.length:=el; omega
 have gall:=ae.all fun t ht=>Nat.le_trans (Sd.MK hm t ht) m12
 have gm0:=YZ (show d <= 4 by omega) ene (by omega) (fun e h=>(he e h).2) gall
 have m1:1 <= m:=okS.m1
 have tb4:fJ Pt iY lQ H4:=hTb.same (o9.trans s4)
 refine ⟨D3,es,12,wB d 12,kK d,rfl,hE,gm0,tb4,fun B H5 xs s5 tb5 _ hB5 g5 o5 l5=>?_⟩
 have Mx1:=Rj ae.b hm m1 (Nat.le_trans l5 (ae.b.p _)) g5
 refine ⟨_,rfl,_,rfl,B,xs,p,m,_,kK d,rfl,hB5,Mx1.g,Mx1.cp d4 m12,o5.tab.lt,p0,p9,fun lv H6 l u s6 hl6 u1 u2 f hLv=>?_⟩
 have Lx1:=Vo Mx1 d4 m12 p0 p9 u1 u2 f
 have tb6:=tb5.same s6
 refine ⟨_,rfl,_,rfl,_,rfl,_,rfl,_,rfl,_,rfl,B,lv,xs,l,m,_,_,_,rfl,hB5.same s6,Lx1.g,Lx1.c,hl6,Lx1.f,tb6,fun cr H7 zs s7 tb7 _ hZ g7 o7=>?_⟩
 have sT:cD Pt H H7:=((((o9.trans s4).toT).trans s5).trans s6.toT).trans s7
 have hx7:H7 x=some (.ins c.s dx []):=sT.get hTb hx fun _ z=>nomatch z
 have ha7:H7 a=some (.lst (ps.map V.ref)):=sT.get hTb ha fun _ z=>nomatch z
 have hl7:H7 lv=some (.tup [.int l.1,.int l.2]):=s7.get tb6 hl6 fun _ z=>nomatch z
 have nax:a ≠ x:=bC ha7 hx7 fun z=>nomatch z
 refine ⟨x,dx,c.s,lv,cr,ns.sum,1 + mx,zs,rfl,.inr rfl,hx7,hZ,fun cp H8 cn k8 hx8 hc8=>?_⟩
 have ncx:cp ≠ x:=fun e=>by rw [e,hx8] at hc8; cases hc8
 refine ⟨_,rfl,_,rfl,x,c.s,dx,_,rfl,hx8,ck.cs,ck.s5,(by show 4 < 1000; decide),?_⟩
 refine ⟨_,rfl,a,_,rfl,.inl ⟨bM.of (by rw [aH nax]; exact k8 _ _ nax ha7),fun r hr0=>?_⟩⟩
 have nrx:r ≠ x:=fun e=>by rw [e,aB] at hr0; cases hr0
 refine ⟨_,rfl,x,c.s,dx,_,rfl,by rw [aH (Ne.symm nrx)]; exact aB,ck.cs,ck.s6,(by show 5 < 1000; decide),?_⟩
 rw [aH nrx] at hr0
 have kx:∀ b o,b ≠ x->H8 b=some o->aU (aU (aU H8 x (.ins c.s dx (b8 "price" (.int p) (fB ns.sum (1 + mx) lv cp)))) r (.tup (ps.map V.ref))) x (.ins c.s dx (fS ns.sum (1 + mx) lv cp p r)) b=some o:=fun b o nb e=>by
  rw [aH nb,aH (aO e hr0),aH nb]
  exact e
 have hr9:aU (aU (aU H8 x (.ins c.s dx (b8 "price" (.int p) (fB ns.sum (1 + mx) lv cp)))) r (.tup (ps.map V.ref))) x (.ins c.s dx (fS ns.sum (1 + mx) lv cp p r)) r=some (.tup (ps.map V.ref)):=by rw [aH nrx]; exact aB
 have hx9:aU (aU (aU H8 x (.ins c.s dx (b8 "price" (.int p) (fB ns.sum (1 + mx) lv cp)))) r (.tup (ps.map V.ref))) x (.ins c.s dx (fS ns.sum (1 + mx) lv cp p r)) x=some (.ins c.s dx (fS ns.sum (1 + mx) lv cp p r)):=aB
 show Q .non (aU (aU (aU H8 x (.ins c.s dx (b8 "price" (.int p) (fB ns.sum (1 + mx) lv cp)))) r (.tup (ps.map V.ref))) x (.ins c.s dx (fS ns.sum (1 + mx) lv cp p r)))
 generalize aU (aU (aU H8 x (.ins c.s dx (b8 "price" (.int p) (fB ns.sum (1 + mx) lv cp)))) r (.tup (ps.map V.ref))) x (.ins c.s dx (fS ns.sum (1 + mx) lv cp p r))=HF at kx hr9 hx9 ⊢
 have sX:Dg x H7 HF:=fun b o nb e=>kx b o nb (k8 b o nb e)
 have kF:Kp H7 HF:=sX.kp hx7
 have RF:=R.kp ((cD.kp sT hTb).trans kF)
 refine q HF (fun b o nb nP e=>sX b o nb (sT b o nP e)) (fJ.sameX tb7 sX hx7) ?_
 exact .st hx9 ⟨kF.tup hl7,⟨kx _ _ ncx hc8,fun y hy=>(hZ.rows y hy).kp kF⟩,VB Lx1 g7,o7.tab.lt,by omega,by omega,by omega,by omega,U4 al gm0 (by have:=(Sd.QB ne ww l4).1; omega) o5 Mx1.g Lx1.f.fr.pos hLv o7,Wa Lx1 d4 m12,nx1,kx1⟩ hr9 RF.lp RF.ly RF.row RF.sub p0 p9 ne l4 ww hm
end
end K21
namespace L2
open PySem PySem.Spec PyProof.Rows
section
variable {X:Cx}
end
end L2
namespace L2
open PySem PySem.Spec PyProof.Rows
section
variable {prog:Program}{w:World}{A:Around}{E:Value->Shared->Prop}{s:Shared}{a₀ : Array PyProof.Rows.Keyed}
theorem Lh {st:SortSt}{m:Nat}{Q:Option Nat->SortSt->Prop} (h0:IntKeys a₀) (hn:m <= a₀.size) (h1:1 <= m) (hB:SBase a₀ st) (hs:SortedTo (arrOf st) m) (h:Q (some m) st) :
  wpS (model prog w) A E s (countRun' 0 m) Q st:=by
 rw [countRun0_eq]
 refine wpS_bind (wpS_ascLoop h0 hn (Nat.le_refl 1) h1 hB (fun i j hij hj=>hs i j hij (by omega)) fun n n1 n2 _ hor=>?_)
 have e:n=m:=by
  rcases hor with e | e
  ·exact e
  ·by_cases z:n=m
   ·exact z
   ·exact absurd (hs (n - 1) n (by omega) (by omega)) (Int.not_le.mpr e)
 subst e
 dsimp only
 rw [if_pos (beq_self_eq_true n)]
 exact wpS_pure h
theorem Qw {st:SortSt}{Q:Unit->SortSt->Prop} (h0:IntKeys a₀) (hB:SBase a₀ st) (h64:a₀.size=64) (hs:SortedTo (arrOf st) a₀.size)
  (h:∀ st',(arrOf st').Perm a₀->failedOf st'=none->SortedTo (arrOf st') a₀.size->Q () st'):wpS (model prog w) A E s sortRuns' Q st:=by
 rw [sortRuns'_eq]
 refine wpS_bind (wpS_get ?_)
 have hm:minRun' 64 64 0=32:=by decide
 simp only [hB.size,h64,hm]
 rw [h64] at hs
 refine wpS_bind (wpS_mono (wpS_forRange (I:=fun x c st'=>(x=0 /\ c=(none,0) /\ st'=st) ∨ (1 <= x /\ c=(none,64) /\ st'=setPending st ((pendingOf st).push (0,64,0)))) (Q:=fun c st'=>c=(none,64) /\ st'=setPending st ((pendingOf st).push (0,64,0))) ?step ?fin (.inl ⟨rfl,rfl,rfl⟩)) ?post)
 case fin =>
  rintro c st' (⟨hx,_,_⟩ | ⟨_,hc,hD⟩)
  ·omega
  ·exact ⟨hc,hD⟩
 case step =>
  rintro x c st' _ hx (⟨rfl,rfl,rfl⟩ | ⟨hx1,rfl,hD⟩)
  ·dsimp only
   rw [if_neg (by omega)]
   simp only [Nat.sub_zero,Nat.zero_add]
   refine wpS_bind (Lh h0 (by omega) (by decide) hB hs ?_)
   dsimp only
   rw [if_neg (by decide)]
   refine wpS_bind (wpS_get ?_)
   rw [show (pendingOf st').back? = none by rw [hB.pend]; rfl]
   dsimp only
   exact wpS_bind (wpS_modify (wpS_pure (.inr ⟨by omega,rfl,rfl⟩)))
  ·dsimp only
   rw [if_pos (Nat.le_refl _)]
   exact wpS_pure ⟨rfl,hD⟩
 case post =>
  rintro c st' ⟨rfl,rfl⟩
  dsimp only
  refine wpS_bind (wpS_mono (wpS_forRange (I:=fun _ c st''=>st''=setPending st ((pendingOf st).push (0,64,0)) /\ c=(none,())) (Q:=fun c st''=>st''=setPending st ((pendingOf st).push (0,64,0)) /\ c=(none,())) ?_ (fun _ _ hh=>hh) ⟨rfl,rfl⟩) ?_)
  ·rintro x c st'' _ _ ⟨rfl,rfl⟩
   refine wpS_bind (wpS_get ?_)
   rw [if_pos (by show ((pendingOf st).push (0,64,0)).size <= 1; rw [hB.pend]; exact Nat.le_refl 1)]
   exact wpS_pure ⟨rfl,rfl⟩
  ·rintro c st'' ⟨rfl,rfl⟩
   exact wpS_pure (h _ hB.perm hB.failed (by rw [h64]; exact hs))
theorem z6 {vs:List Value}{ns:List Int} (hI:IntsAre vs ns) (hs:ns.Pairwise (· <= ·)):SortedTo (pairsOf vs) (pairsOf vs).size:=by
 intro i j hij hj
 have hi:i < (pairsOf vs).size:=by omega
 have hn:=hI.nums
 have kk:∀ (k:Nat) (hk:k < (pairsOf vs).size),K (pairsOf vs) k=ns[k]'(by rw [<- hn,List.length_map]; rw [pairsOf_size] at hk; exact hk):=fun k hk=>by
  rw [K_eq hk]
  simp only [pairsOf,Array.getElem_zip,List.getElem_toArray]
  have e:ns[k]'(by rw [<- hn,List.length_map]; rw [pairsOf_size] at hk; exact hk)=(vs.map numOf)[k]'(by rw [List.length_map]; rw [pairsOf_size] at hk; exact hk):=by simp only [hn]
  rw [e,List.getElem_map]
 rw [kk i hi,kk j hj]
 by_cases e:i=j
 ·subst e; exact Int.le_refl _
 ·exact List.pairwise_iff_getElem.mp hs i j _ _ (by omega)
theorem Qh {a:Addr}{vs:List Value}{ns:List Int}{n:Nat}{P:PySem.Fin->Shared->Prop} (ho:s.heap.get? a=some (seqObj "list" vs.toArray n)) (hI:IntsAre vs ns) (h64:vs.length=64) (hs:ns.Pairwise (· <= ·))
  (h:∀ (out:Array Value) (ns':List Int),IntsAre out.toList ns'->ns'.Perm ns->ns'.Pairwise (· <= ·)->P (.done (.ret .none)) { s with heap:=sortedHeap s.heap a vs out }) :
  wpAny (model prog w) A (Builtin.«list.sort» ⟨[.ref a],[]⟩) P E s:=by
 rw [list_sort_plain]
 have ha:a < s.heap.objs.size:=Heap.lt_size ho
 have hl:vs.toArray.size=64:=by simpa using h64
 refine wpAny_bind (listItems_at ho rfl (wpAny_bind (listUpdate_at ho rfl ?_ (by rw [hl,sizeLine_eq]; decide) (Nat.zero_le _))))
 obtain ⟨e1,ho1⟩ : ∃ e1,(s.heap.update a (Obj.mapSeq fun _=>#[])).get? a=some (seqObj "list" #[] e1):=⟨_,get?_update_seq ho (fun _=>#[])⟩
 refine wpAny_bind (seqEpoch_at ho1 rfl (wpAny_bind (wpAny_newTuple (wpAny_bind (wpAny_newList (wpAny_holding ?_))) (by rw [show vs.toArray.toList=vs from rfl,h64,sizeLine_eq]; decide))))
 have ho6:(((s.heap.update a (Obj.mapSeq fun _=>#[])).push (seqObj "tuple" vs.toArray 0)).push (seqObj "list" #[] 0)).get? a=some (seqObj "list" #[] e1):=Heap.get?_push_of_some _ (Heap.get?_push_of_some _ ho1)
 show wpAny (model prog w) A _ P E { s with heap:=((s.heap.update a (Obj.mapSeq fun _=>#[])).push (seqObj "tuple" vs.toArray 0)).push (seqObj "list" #[] 0) }
 dsimp only
 rw [if_neg (by rw [hl]; decide),if_neg (by rw [hl]; decide)]
 obtain ⟨v1,v2,fW,rfl⟩ : ∃ v1 v2 fW,vs=v1 :: v2 :: fW:=by
  match vs,h64 with
  | v1 :: v2 :: fW,_=>exact ⟨v1,v2,fW,rfl⟩
 rw [keyKind_ints hI]
 refine wpAny_bind (wpAny_pure ?_)
 refine wpAny_bind (wpAny_mono (Qw (a₀:=pairsOf (v1 :: v2 :: fW)) (st:=SortSt.mk' oneType' ((v1 :: v2 :: fW).toArray.zip (v1 :: v2 :: fW).toArray) #[] 7 none)
  (Q:=fun _ st'=>(arrOf st').Perm (pairsOf (v1 :: v2 :: fW)) /\ failedOf st'=none /\ SortedTo (arrOf st') (pairsOf (v1 :: v2 :: fW)).size)
  hI.intKeys ⟨Array.Perm.refl _,rfl,rfl,rfl⟩ (by rw [pairsOf_size]; exact h64) (z6 hI hs) fun st' a1 a2 a3=>⟨a1,a2,a3⟩) ?_ fun _ _ e=>e)
 rintro ⟨⟨⟩,st'⟩ s' ⟨rfl,hp,hf,hso⟩
 dsimp only
 refine wpAny_bind (seqEpoch_at ho6 rfl (wpAny_bind (listUpdate_at ho6 rfl ?_ (Nat.zero_le _) (Nat.le_trans (Nat.le_of_eq ((Array.size_map ..).trans (hp.size_eq.trans ((pairsOf_size _).trans h64)))) (by rw [sizeLine_eq]; decide)))))
 rw [hf]
 simp only [bne_self_eq_false,Bool.false_eq_true,if_false]
 obtain ⟨ns',b1,b2,b3⟩:=sorted_out hI hp hso
 exact wpAny_pure (h _ ns' b1 b2 b3)
theorem Bf {l:Addr}{o:Obj}{T:String}{vs:List Value}{n:Nat}{Q:List Value->Shared->Prop} (hT:T = "list" ∨ T = "tuple") (ho:s.heap.get? l=some o) (hc:o.cls = .type T) (hd:o.data = .seq vs.toArray n) (hz:vs.length <= sizeLine)
  (h:∀ h',(∀ b u,s.heap.get? b=some u->h'.get? b=some u)->Q vs { s with heap:=h' }):wpAny (model prog w) A (collect (.ref l)) Q E s:=by
 unfold collect
 refine wpAny_bind (wpAny_runValue (codeAny_builtin entry_proto_collect' ?_))
 show wpAny _ _ (do again (.builtin "list.__iadd__" ⟨[<- newList [],.ref l],[]⟩)) _ _ s
 refine wpAny_bind (wpAny_newList (wpAny_pure ⟨Code.quiet_builtin _ (by decide +kernel),codeAny_builtin entry_list_iadd' ?_⟩))
 show wpAny _ _ (Builtin.List.listExtendWith (.ref s.heap.objs.size) (.ref l) (.ref s.heap.objs.size)) _ _ { s with heap:=s.heap.push (seqObj "list" #[] 0) }
 unfold Builtin.List.listExtendWith
 have ho':(s.heap.push (seqObj "list" #[] 0)).get? l=some o:=Heap.get?_push_of_some _ ho
 refine wpAny_bind (wpAny_typeOf (T:=T) ⟨o,ho',hc⟩ ?_)
 rw [if_pos (by rcases hT with e | e <;> subst e <;> simp)]
 refine wpAny_bind (listItems_at ho' hd (wpAny_bind (listItems_at (xs:=#[]) (n:=0) (Heap.get?_push_size _ rfl) rfl ?_)))
 rw [if_neg (by simp)]
 refine wpAny_bind (listUpdate_at (xs:=#[]) (n:=0) (Heap.get?_push_size _ rfl) rfl ?_ (Nat.zero_le _) (by show (#[] ++ vs.toArray).size <= sizeLine + 1; simp only [Array.size_append,List.size_toArray,List.length_nil]; omega))
 refine wpAny_pure ?_
 show wpAny (model prog w) A (do
   let o <- load s.heap.objs.size
   match o.data with
   | .seq xs _=>pure xs.toList
   | _=>unsupported "internal:collect") Q E { s with heap:=(s.heap.push (seqObj "list" #[] 0)).update s.heap.objs.size (Obj.mapSeq (· ++ vs.toArray)) }
 refine wpAny_bind (wpAny_load (get?_update_seq (Heap.get?_push_size _ rfl) _) ?_)
 show wpAny _ _ (pure ((#[]:Array Value) ++ vs.toArray).toList) Q E _
 rw [show ((#[]:Array Value) ++ vs.toArray).toList=vs by simp]
 refine wpAny_pure (h _ fun b u e=>?_)
 rw [Heap.get?_update_ne _ _ _ _ (Nat.ne_of_lt (Heap.lt_size e))]
 exact Heap.get?_push_of_some _ e
end
section
variable {X:Cx}
def O7 (ns:List Int):Prop:=ns.length < 64 ∨ (ns.length=64 /\ ns.Pairwise (· <= ·))
theorem Ao:gM X (.builtin "sorted") (fun xs H Q=>∃ (p:Addr) (ns:List Int),xs=[.ref p] /\ (bM X.K H p (ns.map V.int) ∨ bZ X.K H p (ns.map V.int)) /\ O7 ns ∧
  ∀ (l:Addr) (ms:List Int),H l=none->ms.Perm ns->ms.Pairwise (· <= ·)->Q (.ref l) (aU H l (.lst (ms.map V.int)))):=by
 intro pins s σ H xs us Q I r h
 obtain ⟨p,ns,rfl,hq,h64,q⟩:=h
 obtain ⟨u,rfl,ru⟩:=j4 r
 cases (show u=Value.ref p from ru)
 obtain ⟨T,hT,o,its,n,ho,hc,hd,rv,hz⟩ : ∃ T,(T = "list" ∨ T = "tuple") /\ ∃ (o:Obj) (its:List Value) (n:Nat),s.heap.get? p=some o /\ o.cls = .type T /\ o.data = .seq its.toArray n /\ bI (ns.map V.int) its /\ (ns.map V.int).length <= sizeLine:=by
  rcases hq with hq | hq
  ·obtain ⟨its,rv,pl,hz⟩:=I.list hq
   obtain ⟨o,ho,hc,n,hd⟩:=pl.isList
   exact ⟨"list",.inl rfl,o,its,n,ho,hc,hd,rv,hz⟩
  ·obtain ⟨its,rv,pl,hz⟩:=I.tuple hq
   obtain ⟨o,ho,hc,n,hd⟩:=pl
   exact ⟨"tuple",.inr rfl,o,its,n,ho,hc,hd,rv,hz⟩
 have hlen:=rv.length
 have hi:=o4 rv
 have hln:its.length=ns.length:=hi.length
 refine Calls.call_function_entry kind_sorted plain_sorted entry_sorted (args_sorted1 _) ?_
 unfold Builtin.«sorted»
 refine wpAny_bind (m:=checkCount "sorted" 1 1 _) (wpAny_pure ?_)
 refine wpAny_bind (Bf hT ho hc hd (by omega) fun h' kp=>?_)
 refine wpAny_bind (wpAny_newList ?_ (by omega))
 have hoL:(h'.push (seqObj "list" its.toArray 0)).get? h'.objs.size=some (seqObj "list" its.toArray 0):=Heap.get?_push_size _ rfl
 have fin:∀ (out:Array Value) (ns':List Int),IntsAre out.toList ns'->ns'.Perm ns->ns'.Pairwise (· <= ·)->EP X pins σ Q (.ref h'.objs.size) { s with heap:=sortedHeap (h'.push (seqObj "list" its.toArray 0)) h'.objs.size its out }:=fun out ns' a1 a2 a3=>by
  have I1:aY X pins σ H { s with heap:=h' }:=I.kept (t':=s.toks) kp
  obtain ⟨ep2,eo⟩:=sortedHeap_at (out:=out) hoL
  have hlo:out.toList.length=ns'.length:=a1.length
  have hl2:ns'.length=ns.length:=a2.length_eq
  refine ⟨.ref h'.objs.size,aU H h'.objs.size (.lst (ns'.map V.int)),I1.laid (t':=s.toks) (fun b u q=>?_) (Nat.le_refl _) ⟨by rw [List.length_map]; omega,out.toList,ep2,qU a1,by rw [Array.toArray_toList]; exact eo⟩,rfl,q _ _ (I1.hok.fresh (Nat.le_refl _)) a2 a3⟩
  rw [sortedHeap_old (Nat.ne_of_lt (Heap.lt_size q)) (by rw [Heap.size_push]; exact Nat.lt_succ_of_lt (Heap.lt_size q))]
  exact Heap.get?_push_of_some _ q
 rcases h64 with h64 | ⟨h64,hs⟩
 ·refine wpAny_bind (wpAny_holding (wpAny_call_entry slot_list_sort ⟨_,hoL,rfl⟩ entry_list_sort (list_sort_tree hoL hi (by omega) fun out ns' a1 a2 a3=>⟨_,rfl,?_⟩) (args_list_sort _)))
  exact wpAny_pure ⟨_,rfl,fin out ns' a1 a2 a3⟩
 ·refine wpAny_bind (wpAny_holding (wpAny_call_entry slot_list_sort ⟨_,hoL,rfl⟩ entry_list_sort (Qh hoL hi (by omega) hs fun out ns' a1 a2 a3=>⟨_,rfl,?_⟩) (args_list_sort _)))
  exact wpAny_pure ⟨_,rfl,fin out ns' a1 a2 a3⟩
end
end L2
namespace L2
open PySem PySem.Spec PyProof.Rows
section
variable {X:Cx}
end
end L2
namespace L2
open PySem PySem.Spec PyProof.Rows
theorem wM {X:Cx}{K:PySem.W.Frag} (hK:X.K=K):gM X (.builtin "sorted") (fun xs H Q=>∃ (p:Addr) (ns:List Int),xs=[.ref p] /\ (bM K H p (ns.map V.int) ∨ bZ K H p (ns.map V.int)) /\ O7 ns ∧
  ∀ (l:Addr) (ms:List Int),H l=none->ms.Perm ns->ms.Pairwise (· <= ·)->Q (.ref l) (aU H l (.lst (ms.map V.int)))):=by subst hK; exact Ao
end L2
namespace L2
open PySem PySem.Spec PyProof.Rows
section
variable {X:Cx}{K:PySem.W.Frag}{o e:Expr}{es:List Expr}{ta to:TE}{t:TA}{f name:Str}{pos apos cpos:Pos}{T id:String}{r:V->List V->Hp->VK->Prop}
theorem uB (hK:X.K=K) (he:PE X e ta) (hb:attributeBase e f X.env (eval e X.env)=eval e X.env):PE X (.Attribute e f pos) (Tj K ta f):=by subst hK; exact cV he hb
end
end L2
namespace K21
open PySem L2 TD
open Builtin.Int (intBits)
section
variable {P:Program}{w:World}{K:PySem.W.Frag}{mg:Str->Option Value}{base:Heap}{Pt:Addr}
theorem qK {n:Nat}{f:Addr}{fd:FuncData} (F:eX K "how_many" "Case.how_many" (aF (top 37) 1) f fd) {c:Cs}{cC:Addr} (ca:yM K c cC) (z_len:mg "len" = none):aV P w K mg base eG (n + 1) f fd ["self"] (K4 c cC):=by
 refine F.ok lD (fun vs H Q E h=>?_) (fun cdv A outer s H vs Q E hr h=>?_)
 ·obtain ⟨x,q,rfl,_⟩:=h
  rfl
 obtain ⟨x,q,rfl,h,k⟩:=h
 have nd:=lD.nd
 refine ⟨_,(aJ (aR (aZ cI rfl z_len jA (aA (cV (pv 0) rfl) aC)))),?_⟩
 refine ⟨_,rfl,x,cC,_,_,_,rfl,h.hx,ca.cl,ca.np,rfl,q.tp,_,rfl,.inr (bZ.of h.hp),?_⟩
 rw [List.length_map]
 exact k
theorem rC {n:Nat}{f:Addr}{fd:FuncData} (F:eX K "need_box" "Case.need_box" (aF (top 37) 2) f fd) {c:Cs}{cC:Addr} (ca:yM K c cC) {C_NoDeed:Addr} (g_NoDeed:mg "NoDeed" = some (.ref C_NoDeed)) (x_NoDeed:sU K C_NoDeed) {f_hm:Addr}{fd_hm:FuncData} (m_hm:dM K cC "how_many" f_hm) (G_hm:aV P w K mg base eG n f_hm fd_hm ["self"] (K4 c cC)) (b_hm:bB K fd_hm ["self"] []) {g_is_whole:Addr}{gd_is_whole:FuncData} (c_is_whole:gF P w K mg base n "is_whole" ["thing","least","most"] rA g_is_whole gd_is_whole):aV P w K mg base (oX P w) (n + 1) f fd ["self","box"] (Qp c cC C_NoDeed):=by
 refine F.okX lA (fun vs H Q E h=>?_) (fun cdv A outer s H vs Q E hr h=>?_)
 ·obtain ⟨x,v,q,b,rfl,_⟩:=h
  rfl
 have nd:=lA.nd
 refine ⟨_,(aJ (eF (PT.nox (fG (dH (aN c_is_whole hr (aA (pv 1) (aA aL (aA (bA lR (bN (pv 0) ca.cl m_hm G_hm hr b_hm .nil c7) aL) aC))))))) (aJ (iT gJ rfl rfl g_NoDeed x_NoDeed)) bU)),?_⟩
 obtain ⟨x,v,q,b,rfl,h,iw,qt,qf⟩:=h
 refine ⟨_,rfl,_,rfl,x,_,_,rfl,h.hx,rfl,x,q,rfl,h,_,_,rfl,rfl,v,0,(q.ys.length:Int) - 1,b,rfl,iw,?_⟩
 refine ⟨_,rfl,?_⟩
 cases b with
 | true=>exact fH (qt rfl)
 | false=>exact iI (qf rfl)
theorem wJ {n:Nat}{f:Addr}{fd:FuncData} (F:eX K "stand" "Case.stand" (aF (top 37) 3) f fd) {c:Cs}{cC:Addr} (ca:yM K c cC) {C_NoDeed:Addr}{f_nb:Addr}{fd_nb:FuncData} (m_nb:dM K cC "need_box" f_nb) (G_nb:aV P w K mg base (oX P w) n f_nb fd_nb ["self","box"] (Qp c cC C_NoDeed)) (b_nb:bB K fd_nb ["self","box"] []):aV P w K mg base (oX P w) (n + 1) f fd ["self","box"] (Bh c cC C_NoDeed):=by
 refine F.okX oK (fun vs H Q E h=>?_) (fun cdv A outer s H vs Q E hr h=>?_)
 ·obtain ⟨x,v,q,b,rfl,_⟩:=h
  rfl
 have nd:=oK.nd
 refine ⟨_,(aD (eU (fO (pv 0) ca.cl m_nb G_nb hr b_nb .nil iJ (aA (pv 1) aC))) (aJ (aR (bJ cO (cV (pv 0) rfl) (pv 1) (fun _ _=>rfl))))),?_⟩
 obtain ⟨x,v,q,b,rfl,h,iw,qt,qf⟩:=h
 refine ⟨_,rfl,x,_,_,rfl,h.hx,rfl,_,rfl,x,v,q,b,rfl,h,iw,fun hb=>?_,fun hb=>qf hb⟩
 subst hb
 obtain ⟨i,rfl,i0,i9⟩:=iw.inv
 obtain ⟨j,rfl⟩ : ∃ j:Nat,i=(j:Int):=⟨i.toNat,by omega⟩
 have n1:=h.n1
 have el:=h.el
 have hj:j < q.ys.length:=by omega
 refine ⟨_,rfl,x,cC,_,_,_,rfl,h.hx,ca.cl,ca.np,rfl,_,rfl,q.tp,_,_,_,rfl,rfl,bZ.of h.hp,dG (by rw [List.getElem?_map,List.getElem?_eq_getElem hj]; rfl),qt j _ rfl (List.getElem?_eq_getElem hj)⟩
theorem CZ {n:Nat}{f:Addr}{fd:FuncData} (F:eX K "cap" "Case.cap" (aF (top 37) 4) f fd) {c:Cs}{cC:Addr} (ca:yM K c cC) {C_NoDeed:Addr}{f_nb:Addr}{fd_nb:FuncData} (m_nb:dM K cC "need_box" f_nb) (G_nb:aV P w K mg base (oX P w) n f_nb fd_nb ["self","box"] (Qp c cC C_NoDeed)) (b_nb:bB K fd_nb ["self","box"] []):aV P w K mg base (oX P w) (n + 1) f fd ["self","box"] (Ei c cC C_NoDeed):=by
 refine F.okX rN (fun vs H Q E h=>?_) (fun cdv A outer s H vs Q E hr h=>?_)
 ·obtain ⟨x,v,q,b,rfl,_⟩:=h
  rfl
 have nd:=rN.nd
 refine ⟨_,(aD (eU (fO (pv 0) ca.cl m_nb G_nb hr b_nb .nil iJ (aA (pv 1) aC))) (aJ (aR (bJ cO (cV (pv 0) rfl) (pv 1) (fun _ _=>rfl))))),?_⟩
 obtain ⟨x,v,q,b,rfl,h,iw,qt,qf⟩:=h
 refine ⟨_,rfl,x,_,_,rfl,h.hx,rfl,_,rfl,x,v,q,b,rfl,h,iw,fun hb=>?_,fun hb=>qf hb⟩
 subst hb
 obtain ⟨i,rfl,i0,i9⟩:=iw.inv
 obtain ⟨j,rfl⟩ : ∃ j:Nat,i=(j:Int):=⟨i.toNat,by omega⟩
 have n1:=h.n1
 have el:=h.el
 have hj:j < q.ys.length:=by omega
 refine ⟨_,rfl,x,cC,_,_,_,rfl,h.hx,ca.cl,ca.nl,rfl,_,rfl,q.tl,_,_,_,rfl,rfl,bZ.of h.hl,dG (List.getElem?_eq_getElem (show j < q.ls.length by omega)),qt j _ rfl (List.getElem?_eq_getElem (show j < q.ls.length by omega))⟩
theorem zQ {n:Nat}{f:Addr}{fd:FuncData} (F:eX K "paid" "Case.paid" (aF (top 37) 6) f fd) {c:Cs}{cC:Addr} (ca:yM K c cC):aV P w K mg base eG (n + 1) f fd ["self"] (KZ c cC):=by
 refine F.ok pM (fun vs H Q E h=>?_) (fun cdv A outer s H vs Q E hr h=>?_)
 ·obtain ⟨x,q,rfl,_⟩:=h
  rfl
 obtain ⟨x,q,rfl,h,k⟩:=h
 have nd:=pM.nd
 refine ⟨_,(aJ (aR (cV (pv 0) rfl))),?_⟩
 exact ⟨_,rfl,x,cC,_,_,_,rfl,h.hx,ca.cl,ca.ns,rfl,k⟩
theorem wK {n:Nat}{f:Addr}{fd:FuncData} (F:eX K "deeds" "Case.deeds" (aF (top 37) 8) f fd) {c:Cs}{cC:Addr} (ca:yM K c cC) (z_list:mg "list" = none):aV P w K mg base eG (n + 1) f fd ["self"] (Wh c cC):=by
 refine F.ok iM (fun vs H Q E h=>?_) (fun cdv A outer s H vs Q E hr h=>?_)
 ·obtain ⟨x,q,rfl,_⟩:=h
  rfl
 obtain ⟨x,q,rfl,h,k⟩:=h
 have nd:=iM.nd
 refine ⟨_,(aJ (aR (cU gA rfl z_list gR (aA (cV (pv 0) rfl) aC)))),?_⟩
 refine ⟨_,rfl,x,cC,_,_,_,rfl,h.hx,ca.cl,ca.nd,rfl,?_⟩
 refine ⟨q.td,_,rfl,.inr (bZ.of h.hd),fun r hr0=>?_⟩
 exact k r _ (aG hr0 _) aB
theorem zG {n:Nat}{f:Addr}{fd:FuncData} (F:eX K "kept" "Case.kept" (aF (top 37) 5) f fd) {c:Cs}{cC:Addr} (ca:yM K c cC) {f_hm:Addr}{fd_hm:FuncData} (m_hm:dM K cC "how_many" f_hm) (G_hm:aV P w K mg base eG n f_hm fd_hm ["self"] (K4 c cC)) (b_hm:bB K fd_hm ["self"] []) (z_range:mg "range" = none):aV P w K mg base eG (n + 1) f fd ["self"] (Kq c cC):=by
 refine F.ok jL (fun vs H Q E h=>?_) (fun cdv A outer s H vs Q E hr h=>?_)
 ·obtain ⟨x,q,rfl,_⟩:=h
  rfl
 obtain ⟨x,q,rfl,h,k⟩:=h
 have nd:=jL.nd
 refine ⟨_,(aJ (aR (cB (ls:=["box"]) (M:=["self"]) rfl (bR.of (by rfl)) (NL.of (by rfl)) (iD rfl z_range (aA (bN (pv 0) ca.cl m_hm G_hm hr b_hm .nil c7) aC)) (fun _ _ _ _=>⟨(aW (i:=0) (cQ (by rfl)) rfl (Or.inl rfl)),(tU (dH (bJ (jG (K:=K) rfl) (uB (K:=K) rfl (pv 1) rfl) (pv 0) (fun _ _=>rfl)))),(pv 0)⟩)))),?_⟩
 have n6:=h.n6
 refine ⟨_,rfl,x,_,_,rfl,h.hx,rfl,x,q,rfl,h,(q.ys.length:Int),rfl,by omega,by omega,fun D hD=>?_⟩
 refine lO (n:=(q.ys.length:Int).toNat) (fun i τ H'=>∃ v0,τ = [v0,some (.ref x)] /\ aM H H' /\ H' D=some (.lst ((((List.range i).filter fun j=>q.bs.getD j false).map Int.ofNat).map V.int))) ⟨none,rfl,aG hD _,aB⟩ ?turn ?done
 case turn =>
  rintro i m τ H' hm hi ⟨v0,rfl,hs,hD'⟩
  have h':=h.kt (aM.kt hs)
  have hib:i < q.bs.length:=by rw [h.eb]; omega
  have eb:q.bs[i]? = some (q.bs.getD i false):=by rw [List.getElem?_eq_getElem hib,fQ hib]
  refine ⟨_,rfl,x,cC,_,_,_,rfl,h'.hx,ca.cl,ca.nh,rfl,_,rfl,q.th,_,_,_,rfl,rfl,bZ.of h'.hh,(by rw [Int.zero_add]; exact dG (v:=V.bl (q.bs.getD i false)) (by rw [List.getElem?_map,eb]; rfl)),?_⟩
  cases e:q.bs.getD i false with
  | false =>
   refine ⟨_,rfl,?_⟩
   refine t8 rfl ?_
   refine nF hm hi ⟨_,rfl,hs,?_⟩
   rw [List.range_succ,List.filter_append,show [i].filter (fun j=>q.bs.getD j false)=[] by rw [List.filter_cons,e]; rfl,List.append_nil]
   exact hD'
  | true =>
   refine ⟨_,rfl,?_⟩
   refine zW rfl ?_
   refine ⟨_,rfl,?_⟩
   refine bG hm hi hD' (by rw [List.length_map,List.length_map]; exact aQ (Nat.le_trans (List.length_filter_le _ _) (by rw [List.length_range]; omega))) ⟨_,rfl,hs.upd_new hD _,?_⟩
   rw [aB,List.range_succ,List.filter_append,show [i].filter (fun j=>q.bs.getD j false)=[i] by rw [List.filter_cons,e]; rfl,List.map_append,List.map_append]
   show some (HO.lst (_ ++ [V.int (0 + (i:Int))]))=_
   rw [Int.zero_add]
   rfl
 case done =>
  rintro τ H' ⟨v0,rfl,hs,hD'⟩
  exact k D H' hs hD'
theorem zB (x:Int) {m:Int} (h:0 < m):0 <= x % m /\ x % m < m:=⟨Int.emod_nonneg x (Int.ne_of_gt h),Int.emod_lt_of_pos x h⟩
theorem sZ {n:Nat}{f:Addr}{fd:FuncData} (F:eX K "_law_cell_at" "_law_cell_at" (top 39) f fd) (z_len:mg "len" = none):aV P w K mg base eG (n + 1) f fd ["_law_script","_law_k"] (Gx K):=by
 refine F.ok lX (fun vs H Q E h=>?_) (fun cdv A outer s H vs Q E hr h=>?_)
 ·obtain ⟨a,ns,i,rfl,_⟩:=h
  rfl
 obtain ⟨a,ns,i,rfl,hS,i0,q⟩:=h
 have nd:=lX.nd
 refine ⟨_,(aD (eF (bV Bl (pv 1) (aZ cI rfl z_len jA (aA (pv 0) aC)) (cM _)) (aJ (aR (bJ dF (pv 0) (pv 1) (fun _ _=>rfl)))) bU) (aJ (aR aL))),?_⟩
 have hl:(ns.map V.int).length=ns.length:=List.length_map _
 refine ⟨_,rfl,_,rfl,a,_,rfl,.inl hS,_,_,rfl,rfl,_,rfl,?_⟩
 refine Ag (fun c=>?_) (fun c=>?_)
 ·have c':i < (((ns.map V.int).length:Nat):Int):=of_decide_eq_true c
  rw [hl] at c'
  exact ⟨_,rfl,_,rfl,a,_,_,_,rfl,rfl,hS,Kl i0 c',q _⟩
 ·exact q _
theorem wA {n:Nat}{f:Addr}{fd:FuncData} (F:eX K "_law_mixed" "_law_mixed" (top 40) f fd):aV P w K mg base eG (n + 1) f fd ["_law_cell","_law_k"] Nz:=by
 refine F.ok oO (fun vs H Q E h=>?_) (fun cdv A outer s H vs Q E hr h=>?_)
 ·obtain ⟨c,i,rfl,_⟩:=h
  rfl
 obtain ⟨c,i,rfl,i0,i9,q⟩:=h
 have nd:=oO.nd
 refine ⟨_,(aD (aX (i:=2) nd rfl (Or.inl rfl) (bA iG (bA fY (bA fY (bA dU (bA iG (pv 0) aL) aL) (bA QM aL (pv 1))) aL) aL)) (aD (aX (i:=2) nd rfl (Or.inl rfl) (bA fY (bA iG (bA dU (bA iG (bA dU (pv 2) (pv 2)) aL) aL) aL) (pv 1))) (aJ (aR (bA iG (bA dU (pv 2) (pv 2)) aL))))),?_⟩
 have b1:∀ x:Int,0 <= x->x < 2147583648->intBits x <= 64:=fun x h1 h2=>PySem.intBits_le_64 (by omega) (by omega)
 have m1:=zB c (show (0:Int) < 2147483647 by decide)
 refine ⟨_,rfl,_,_,rfl,rfl,(by show (0:Int) < 2147483647; decide),_,_,rfl,rfl,gH (b1 _ m1.1 (by omega)) (b1 48271 (by decide) (by decide)) (by decide),_,rfl,_,_,rfl,rfl,.inl ⟨by decide,by decide⟩,_,_,rfl,rfl,_,_,rfl,rfl,_,_,rfl,rfl,(by show (0:Int) < 2147483647; decide),?_⟩
 have n1:=zB (c % 2147483647 * 48271 + 7919 * i + 1) (show (0:Int) < 2147483647 by decide)
 have nb:=b1 _ n1.1 (Int.lt_trans n1.2 (by decide))
 have n2:=zB ((c % 2147483647 * 48271 + 7919 * i + 1) % 2147483647 * ((c % 2147483647 * 48271 + 7919 * i + 1) % 2147483647)) (show (0:Int) < 2147483629 by decide)
 have n2b:=b1 _ n2.1 (Int.lt_trans n2.2 (by decide))
 refine ⟨_,rfl,_,rfl,_,_,rfl,rfl,gH nb nb (by decide),_,_,rfl,rfl,(by show (0:Int) < 2147483629; decide),_,_,rfl,rfl,gH n2b (b1 69621 (by decide) (by decide)) (by decide),_,_,rfl,rfl,(by show (0:Int) < 2147483579; decide),_,rfl,_,_,rfl,rfl,?_⟩
 have n3:=zB ((c % 2147483647 * 48271 + 7919 * i + 1) % 2147483647 * ((c % 2147483647 * 48271 + 7919 * i + 1) % 2147483647) % 2147483629 * 69621) (show (0:Int) < 2147483579 by decide)
 have kb:=b1 ((c % 2147483647 * 48271 + 7919 * i + 1) % 2147483647 * ((c % 2147483647 * 48271 + 7919 * i + 1) % 2147483647) % 2147483629 * 69621 % 2147483579 + i) (by omega) (by omega)
 refine ⟨_,rfl,_,rfl,_,_,rfl,rfl,gH kb kb (by decide),_,_,rfl,rfl,(by show (0:Int) < 2147483587; decide),?_⟩
 exact q _ (Int.emod_nonneg _ (by decide)) (Int.emod_lt_of_pos _ (by decide))
theorem wN {n:Nat}{f:Addr}{fd:FuncData} (F:eX K "with_thing" "with_thing" (top 36) f fd):aV P w K mg base eG (n + 1) f fd ["things","place","thing"] (Ow K):=by
 refine F.ok oZ (fun vs H Q E h=>?_) (fun cdv A outer s H vs Q E hr h=>?_)
 ·obtain ⟨a,xs,i,v,rfl,_⟩:=h
  rfl
 obtain ⟨a,xs,i,v,rfl,ha,hi,h9,k⟩:=h
 have nd:=oZ.nd
 refine ⟨_,(aJ (aR (bA zA (bA zA (vL JM (pv 0) GC (uC (pv 1))) (dI (aA (pv 2) aC))) (vL JM (pv 0) (uC (bA fY (pv 1) aL)) GC)))),?_⟩
 refine ⟨_,rfl,_,rfl,_,rfl,a,_,rfl,bZ.of ha,(fun ⟨_,z⟩=>by rw [HT.pL] at z; omega),fun p hp=>?_⟩
 have m1:=aG hp (.tup (jC xs none (some (i:Int))))
 have e1:aU H p (.tup (jC xs none (some (i:Int)))) p=some (.tup (xs.take i)):=by rw [aB,IK _ _ (by omega)]
 generalize aU H p (.tup (jC xs none (some (i:Int))))=H1 at m1 e1 ⊢
 refine ⟨_,rfl,X8,fun t ht=>?_⟩
 have m2:=aG ht (.tup [v])
 refine ⟨p,t,_,_,rfl,rfl,bZ.of (m2 _ _ e1),bZ.of aB,Vc (by rw [List.length_take]; show _ + 1 <= 1000; omega),?g0,(fun z=>nomatch z),?g2⟩
 case g0 =>
  intro z
  have sR:=m1.trans m2
  have eR:aU H1 t (.tup [v]) t=some (.tup (xs.take i ++ [v])):=by rw [aB,z]; rfl
  generalize aU H1 t (.tup [v])=H3 at sR eR ⊢
  generalize t=r at eR ⊢
  refine ⟨_,rfl,_,rfl,_,_,rfl,rfl,_,rfl,a,_,rfl,bZ.of (sR _ _ ha),(fun ⟨z,_⟩=>by rw [show ((i:Int) + 1)=((i + 1:Nat):Int) by push_cast; rfl,HT.pL] at z; omega),fun p2 hp2=>?_⟩
  have m2:=aG hp2 (.tup (jC xs (some ((i:Int) + 1)) none))
  have e2:aU H3 p2 (.tup (jC xs (some ((i:Int) + 1)) none)) p2=some (.tup (xs.drop (i + 1))):=by rw [aB,show ((i:Int) + 1)=((i + 1:Nat):Int) by push_cast; rfl,Dn _ _ (by omega)]
  generalize aU H3 p2 (.tup (jC xs (some ((i:Int) + 1)) none))=H4 at m2 e2 ⊢
  refine ⟨r,p2,_,_,rfl,rfl,bZ.of (m2 _ _ eR),bZ.of e2,Vc (by rw [List.length_append,List.length_take,List.length_drop]; show _ + 1 + _ <= 1000; omega),(fun z=>by simp at z),fun z=>?_,fun t2 ht2=>?_⟩
  ·refine k r H4 (sR.trans m2) ?_
   rw [m2 _ _ eR,<- uM hi,z,List.append_nil]
  ·refine k t2 _ ((sR.trans m2).trans (aG ht2 _)) ?_
   rw [aB,uM hi]
 case g2 =>
  intro r hr0
  have sR:=(m1.trans m2).trans (aG hr0 (.tup (xs.take i ++ [v])))
  have eR:aU (aU H1 t (.tup [v])) r (.tup (xs.take i ++ [v])) r=some (.tup (xs.take i ++ [v])):=aB
  generalize aU (aU H1 t (.tup [v])) r (.tup (xs.take i ++ [v]))=H3 at sR eR ⊢
  refine ⟨_,rfl,_,rfl,_,_,rfl,rfl,_,rfl,a,_,rfl,bZ.of (sR _ _ ha),(fun ⟨z,_⟩=>by rw [show ((i:Int) + 1)=((i + 1:Nat):Int) by push_cast; rfl,HT.pL] at z; omega),fun p2 hp2=>?_⟩
  have m2:=aG hp2 (.tup (jC xs (some ((i:Int) + 1)) none))
  have e2:aU H3 p2 (.tup (jC xs (some ((i:Int) + 1)) none)) p2=some (.tup (xs.drop (i + 1))):=by rw [aB,show ((i:Int) + 1)=((i + 1:Nat):Int) by push_cast; rfl,Dn _ _ (by omega)]
  generalize aU H3 p2 (.tup (jC xs (some ((i:Int) + 1)) none))=H4 at m2 e2 ⊢
  refine ⟨r,p2,_,_,rfl,rfl,bZ.of (m2 _ _ eR),bZ.of e2,Vc (by rw [List.length_append,List.length_take,List.length_drop]; show _ + 1 + _ <= 1000; omega),(fun z=>by simp at z),fun z=>?_,fun t2 ht2=>?_⟩
  ·refine k r H4 (sR.trans m2) ?_
   rw [m2 _ _ eR,<- uM hi,z,List.append_nil]
  ·refine k t2 _ ((sR.trans m2).trans (aG ht2 _)) ?_
   rw [aB,uM hi]
theorem CJ {n:Nat}{f:Addr}{fd:FuncData} (F:eX K "had" "Case.had" (aF (top 37) 7) f fd) {c:Cs}{cC:Addr} (ca:yM K c cC) (ck:CK K c) {f_kp:Addr}{fd_kp:FuncData} (m_kp:dM K cC "kept" f_kp) (G_kp:aV P w K mg base eG n f_kp fd_kp ["self"] (Kq c cC)) (b_kp:bB K fd_kp ["self"] []) (z_sum:mg "sum" = none):aV P w K mg base eG (n + 1) f fd ["self"] (Oc c cC):=by
 refine F.ok rR (fun vs H Q E h=>?_) (fun cdv A outer s H vs Q E hr h=>?_)
 ·obtain ⟨x,q,rfl,_⟩:=h
  rfl
 obtain ⟨x,q,rfl,h,k⟩:=h
 have nd:=rR.nd
 refine ⟨_,(aJ (aR (bA lR (aZ (lC rfl) rfl z_sum qI (aA (cB (ls:=["box"]) (M:=["self"]) rfl (bR.of (by rfl)) (NL.of (by rfl)) (cA (bN (pv 0) ca.cl m_kp G_kp hr b_kp .nil c7)) (fun _ _ _ _=>⟨(aW (i:=0) (cQ (by rfl)) rfl (Or.inl rfl)),cT,(uB (K:=K) rfl (bJ (jG (K:=K) rfl) (uB (K:=K) rfl (pv 1) rfl) (pv 0) (fun _ _=>rfl)) rfl)⟩)) aC)) (cV (pv 0) rfl)))),?_⟩
 have n6:=h.n6
 refine ⟨_,rfl,x,_,_,rfl,h.hx,rfl,x,q,rfl,h,fun l H1 s1 hl1=>?_⟩
 have h1:=h.kt (aM.kt s1)
 refine ⟨l,rfl,⟨_,bM.of hl1⟩,fun D hD=>?_⟩
 refine bY (xs:=(dR q).map V.int) (fun i τ H'=>∃ v0,τ = [v0,some (.ref x)] /\ aM H1 H' /\ H' D=some (.lst ((((jF q).take i).map fun j=>NQ q.ss[j]?).map V.int))) ⟨none,rfl,aG hD _,aB⟩ ?keep ?turn ?done
 case keep =>
  rintro i τ H' hi ⟨v0,rfl,hs,_⟩
  exact bM.of (hs _ _ hl1)
 case turn =>
  rintro i m v τ H' hm hi hv ⟨v0,rfl,hs,hD'⟩
  obtain ⟨j,ej,rfl⟩ : ∃ j,(jF q)[i]? = some j /\ v = .int (j:Int):=by
   unfold dR at hv
   rw [List.getElem?_map,List.getElem?_map] at hv
   cases e:(jF q)[i]? with
   | none=>rw [e] at hv; cases hv
   | some j=>rw [e] at hv; cases hv; exact ⟨j,rfl,rfl⟩
  have mem:=List.mem_filter.mp (show j ∈ (List.range q.ys.length).filter fun i=>q.bs.getD i false from List.mem_of_getElem? ej)
  have hj:j < q.ys.length:=List.mem_range.mp mem.1
  have h':=h1.kt (aM.kt hs)
  have es:=h.es
  have ebl:=h.eb
  have ey:q.ys[j]? = some q.ys[j]:=List.getElem?_eq_getElem hj
  have e2:q.ss[j]? = some (q.ss[j]'(by omega)):=List.getElem?_eq_getElem _
  have eb:q.bs[j]? = some true:=by rw [List.getElem?_eq_getElem (show j < q.bs.length by omega),<- fQ (d:=false) (show j < q.bs.length by omega),mem.2]
  obtain ⟨u,eu⟩:=h'.en j _ eb e2
  have st:=(h'.st j _ _ ey e2).1
  have wo:NQ q.ss[j]? = u:=by
   rw [e2]
   generalize q.ss[j]'(by omega)=ent at eu
   obtain ⟨e0,d0⟩:=ent
   simp only at eu
   subst eu
   rfl
  rw [eu] at st
  refine Bt ?_
  cases st with
  | en hh vv ok =>
  refine ⟨_,rfl,x,cC,_,_,_,rfl,h'.hx,ca.cl,ca.np,rfl,_,rfl,q.tp,_,_,_,rfl,rfl,bZ.of h'.hp,dG (v:=V.ref q.ys[j]) (by rw [List.getElem?_map,ey]; rfl),q.ys[j],c.e,_,_,_,rfl,hh,ck.ce,ck.e5,rfl,?_⟩
  refine bG hm hi hD' (by rw [List.length_map,List.length_map,List.length_take]; exact aQ (by have:=(List.getElem?_eq_some_iff.mp ej).1; have l1:=List.length_filter_le (fun i=>q.bs.getD i false) (List.range q.ys.length); rw [List.length_range] at l1; unfold jF at this ⊢; omega)) ⟨_,rfl,hs.upd_new hD _,?_⟩
  rw [aB,bH ej,List.map_append,List.map_append]
  show some (HO.lst (_ ++ [V.int u]))=some (HO.lst (_ ++ [V.int (NQ q.ss[j]?)]))
  rw [wo]
 case done =>
  rintro τ H' ⟨v0,rfl,hs,hD'⟩
  have h':=h1.kt (aM.kt hs)
  rw [show ((dR q).map V.int).length=(jF q).length by unfold dR; rw [List.length_map,List.length_map],List.take_length] at hD'
  refine ⟨D,_,rfl,bM.of hD',_,rfl,x,cC,_,_,_,rfl,h'.hx,ca.cl,ca.ns,rfl,_,_,rfl,rfl,?_⟩
  exact k H' (s1.trans hs)
theorem rB {n:Nat}{f:Addr}{fd:FuncData} (F:eX K "__init__" "Case.__init__" (aF (top 37) 0) f fd) {c:Cs}{cC:Addr} (ca:yM K c cC) {C_NoBox:Addr} (g_NoBox:mg "NoBox" = some (.ref C_NoBox)) (x_NoBox:sU K C_NoBox) {g_need_boxes:Addr}{gd_need_boxes:FuncData} (c_need_boxes:zJ P w K mg base n "need_boxes" ["boxes"] (SX c K C_NoBox) g_need_boxes gd_need_boxes) (z_tuple:mg "tuple" = none):aV P w K mg base (oX P w) (n + 1) f fd ["self","boxes"] (Iz c cC K C_NoBox):=by
 refine F.okX kZ (fun vs H Q E h=>?_) (fun cdv A outer s H vs Q E hr h=>?_)
 ·rcases h with ⟨x,dx,a,ys,rfl,_⟩ | ⟨x,v,rfl,_⟩ <;> rfl
 have nd:=kZ.nd
 refine ⟨_,(aD (eU (J6 c_need_boxes hr iJ (aA (pv 1) aC))) (sJ.nox (aD (fD (pv 0) (cU (d8 (K:=K) rfl) rfl z_tuple gP (aA (pv 1) aC)) rfl) (aD (fD (pv 0) (cU (d8 (K:=K) rfl) rfl z_tuple gP (aA (cB (ls:=["box"]) (M:=["self","boxes"]) rfl (bR.of (by rfl)) (NL.of (by rfl)) (cA (pv 1)) (fun _ _ _ _=>⟨(aW (i:=0) (cQ (by rfl)) rfl (Or.inl rfl)),cT,yV⟩)) aC)) rfl) (aD (fD (pv 0) (cU (d8 (K:=K) rfl) rfl z_tuple gP (aA (cB (ls:=["box"]) (M:=["self","boxes"]) rfl (bR.of (by rfl)) (NL.of (by rfl)) (cA (pv 1)) (fun _ _ _ _=>⟨(aW (i:=0) (cQ (by rfl)) rfl (Or.inl rfl)),cT,gW⟩)) aC)) rfl) (aD (fD (pv 0) aL rfl) (aJ (fD (pv 0) (dI aC) rfl)))))))),?_⟩
 rcases h with ⟨x,dx,a,ys,rfl,hx,ha,n1,n6,hst,k⟩ | ⟨x,v,rfl,hb,qE⟩
 rotate_left
 ·exact ⟨_,rfl,v,false,rfl,hb,(fun z=>nomatch z),fun _ H' s=>qE H' s⟩
 have bx:sG c K H (.ref a) true:=My ha (fun v hv=>by
  obtain ⟨y,hy,rfl⟩:=List.mem_map.mp hv
  obtain ⟨s,d,m,st⟩:=hst y hy
  exact .yes st) true (by rw [List.length_map,decide_eq_true (by omega),decide_eq_true (by omega)]; rfl)
 refine ⟨_,rfl,.ref a,true,rfl,bx,fun _ H1 s1=>?_,fun z=>nomatch z⟩
 have ha1:=s1 _ _ ha
 have hx1:=s1 _ _ hx
 have nax:a ≠ x:=bC ha hx fun z=>nomatch z
 refine ⟨_,rfl,a,_,rfl,.inl ⟨bM.of ha1,fun tp htp=>?_⟩⟩
 have np:=aG htp (.tup (ys.map V.ref))
 have ex:tp ≠ x:=fun z=>by rw [z,hx1] at htp; cases htp
 refine ⟨_,rfl,x,cC,dx,[],rfl,np _ _ hx1,ca.cl,ca.np,(by show 0 < 1000; decide),?_⟩
 have k2:KX x H1 (aU (aU H1 tp (.tup (ys.map V.ref))) x (.ins cC dx (b8 "present" (.ref tp) []))):=(KX.of np).trans (KX.put _)
 have ep:aU (aU H1 tp (.tup (ys.map V.ref))) x (.ins cC dx (b8 "present" (.ref tp) [])) tp=some (.tup (ys.map V.ref)):=by rw [aH ex]; exact aB
 have hx2:aU (aU H1 tp (.tup (ys.map V.ref))) x (.ins cC dx (b8 "present" (.ref tp) [])) x=some (.ins cC dx [("present",.ref tp)]):=aB
 generalize aU (aU H1 tp (.tup (ys.map V.ref))) x (.ins cC dx (b8 "present" (.ref tp) []))=H2 at k2 ep hx2 ⊢
 refine ⟨_,rfl,a,rfl,⟨_,bM.of (k2 _ _ nax ha1)⟩,fun DL hDL=>?_⟩
 refine bY (xs:=ys.map V.ref) (fun i τ H'=>∃ v0,τ = [v0,some (.ref x),some (.ref a)] /\ aM H2 H' /\ H' DL=some (.lst (((ys.map fun _=>V.non)).take i))) ⟨none,rfl,aG hDL _,aB⟩ ?keepL ?turnL ?doneL
 case keepL =>
  rintro i τ H' hi ⟨v0,rfl,hs,_⟩
  exact bM.of (hs _ _ (k2 _ _ nax ha1))
 case turnL =>
  rintro i m v τ H' hm hi hv ⟨v0,rfl,hs,hD'⟩
  have hi':i < ys.length:=by rw [List.length_map] at hi; exact hi
  refine Bt ?_
  refine bG hm hi hD' (by rw [List.length_take,List.length_map]; exact aQ (by omega)) ⟨_,rfl,hs.upd_new hDL _,?_⟩
  rw [aB,bH (x:=V.non) (by rw [List.getElem?_map,List.getElem?_eq_getElem hi']; rfl)]
 case doneL =>
 rintro τ HL ⟨v0,rfl,hsL,hDL'⟩
 rw [show (ys.map V.ref).length=(ys.map fun _=>V.non).length by rw [List.length_map,List.length_map],List.take_length] at hDL'
 refine ⟨DL,_,rfl,.inl ⟨bM.of hDL',fun tL htL=>?_⟩⟩
 have nL:=aG htL (.tup (ys.map fun _=>V.non))
 have hx3:=(hsL.trans nL) _ _ hx2
 have el:tL ≠ x:=fun z=>by rw [z,hsL _ _ hx2] at htL; cases htL
 refine ⟨_,rfl,x,cC,dx,_,rfl,hx3,ca.cl,ca.nl,(by show 1 < 1000; decide),?_⟩
 have k4:KX x H2 (aU (aU HL tL (.tup (ys.map fun _=>V.non))) x (.ins cC dx (b8 "lowest" (.ref tL) [("present",.ref tp)]))):=(KX.of (hsL.trans nL)).trans (KX.put _)
 have eL:aU (aU HL tL (.tup (ys.map fun _=>V.non))) x (.ins cC dx (b8 "lowest" (.ref tL) [("present",.ref tp)])) tL=some (.tup (ys.map fun _=>V.non)):=by rw [aH el]; exact aB
 have hx4:aU (aU HL tL (.tup (ys.map fun _=>V.non))) x (.ins cC dx (b8 "lowest" (.ref tL) [("present",.ref tp)])) x=some (.ins cC dx [("present",.ref tp),("lowest",.ref tL)]):=aB
 generalize aU (aU HL tL (.tup (ys.map fun _=>V.non))) x (.ins cC dx (b8 "lowest" (.ref tL) [("present",.ref tp)]))=H4 at k4 eL hx4 ⊢
 refine ⟨_,rfl,a,rfl,⟨_,bM.of (k4 _ _ nax (k2 _ _ nax ha1))⟩,fun DQ hDQ=>?_⟩
 refine bY (xs:=ys.map V.ref) (fun i τ H'=>∃ v0,τ = [v0,some (.ref x),some (.ref a)] /\ aM H4 H' /\ H' DQ=some (.lst (((ys.map fun _=>V.bl false)).take i))) ⟨none,rfl,aG hDQ _,aB⟩ ?keepQ ?turnQ ?doneQ
 case keepQ =>
  rintro i τ H' hi ⟨v0,rfl,hs,_⟩
  exact bM.of (hs _ _ (k4 _ _ nax (k2 _ _ nax ha1)))
 case turnQ =>
  rintro i m v τ H' hm hi hv ⟨v0,rfl,hs,hD'⟩
  have hi':i < ys.length:=by rw [List.length_map] at hi; exact hi
  refine Bt ?_
  refine bG hm hi hD' (by rw [List.length_take,List.length_map]; exact aQ (by omega)) ⟨_,rfl,hs.upd_new hDQ _,?_⟩
  rw [aB,bH (x:=V.bl false) (by rw [List.getElem?_map,List.getElem?_eq_getElem hi']; rfl)]
 case doneQ =>
 rintro τ HQ ⟨v0,rfl,hsQ,hDQ'⟩
 rw [show (ys.map V.ref).length=(ys.map fun _=>V.bl false).length by rw [List.length_map,List.length_map],List.take_length] at hDQ'
 refine ⟨DQ,_,rfl,.inl ⟨bM.of hDQ',fun tQ htQ=>?_⟩⟩
 have nQ:=aG htQ (.tup (ys.map fun _=>V.bl false))
 have hx5:=(hsQ.trans nQ) _ _ hx4
 have eq:tQ ≠ x:=fun z=>by rw [z,hsQ _ _ hx4] at htQ; cases htQ
 refine ⟨_,rfl,x,cC,dx,_,rfl,hx5,ca.cl,ca.nh,(by show 2 < 1000; decide),?_⟩
 have k6:KX x H4 (aU (aU HQ tQ (.tup (ys.map fun _=>V.bl false))) x (.ins cC dx (b8 "held" (.ref tQ) [("present",.ref tp),("lowest",.ref tL)]))):=(KX.of (hsQ.trans nQ)).trans (KX.put _)
 have eQ:aU (aU HQ tQ (.tup (ys.map fun _=>V.bl false))) x (.ins cC dx (b8 "held" (.ref tQ) [("present",.ref tp),("lowest",.ref tL)])) tQ=some (.tup (ys.map fun _=>V.bl false)):=by rw [aH eq]; exact aB
 have hx6:aU (aU HQ tQ (.tup (ys.map fun _=>V.bl false))) x (.ins cC dx (b8 "held" (.ref tQ) [("present",.ref tp),("lowest",.ref tL)])) x=some (.ins cC dx [("present",.ref tp),("lowest",.ref tL),("held",.ref tQ)]):=aB
 generalize aU (aU HQ tQ (.tup (ys.map fun _=>V.bl false))) x (.ins cC dx (b8 "held" (.ref tQ) [("present",.ref tp),("lowest",.ref tL)]))=H6 at k6 eQ hx6 ⊢
 refine ⟨_,rfl,x,cC,dx,_,rfl,hx6,ca.cl,ca.ns,(by show 3 < 1000; decide),?_⟩
 have k7:KX x H6 (aU H6 x (.ins cC dx (b8 "spent" (.int 0) [("present",.ref tp),("lowest",.ref tL),("held",.ref tQ)]))):=KX.put _
 have hx7:aU H6 x (.ins cC dx (b8 "spent" (.int 0) [("present",.ref tp),("lowest",.ref tL),("held",.ref tQ)])) x=some (.ins cC dx [("present",.ref tp),("lowest",.ref tL),("held",.ref tQ),("spent",.int 0)]):=aB
 generalize aU H6 x (.ins cC dx (b8 "spent" (.int 0) [("present",.ref tp),("lowest",.ref tL),("held",.ref tQ)]))=H7 at k7 hx7 ⊢
 refine ⟨Nat.zero_le _,fun td htd=>?_⟩
 have n8:=aG htd (.tup [])
 have ed:td ≠ x:=fun z=>by rw [z,hx7] at htd; cases htd
 refine ⟨_,rfl,x,cC,dx,_,rfl,n8 _ _ hx7,ca.cl,ca.nd,(by show 4 < 1000; decide),?_⟩
 have k8:KX x H7 (aU (aU H7 td (.tup [])) x (.ins cC dx (b8 "done" (.ref td) [("present",.ref tp),("lowest",.ref tL),("held",.ref tQ),("spent",.int 0)]))):=(KX.of n8).trans (KX.put _)
 have kL:=k6.trans (k7.trans k8)
 refine k tp tL tQ td _ (((KX.of s1).trans k2).trans (k4.trans kL)) aB ((k4.trans kL) _ _ ex ep) (kL _ _ el eL) ((k7.trans k8) _ _ eq eQ) ?_
 rw [aH ed]
 exact aB
theorem uL {n:Nat}{f:Addr}{fd:FuncData} (F:eX K "behind" "Case.behind" (aF (top 37) 12) f fd) {c:Cs}{cC:Addr} (ca:yM K c cC) {C_NoBox:Addr}{iC:Addr}{dC:FuncData}{kC:Nat} (M_Case:Mk K cC iC) (G_Case:aV P w K mg base (oX P w) kC iC dC ["self","boxes"] (Iz c cC K C_NoBox)) (b_Case:bB K dC ["self","boxes"] []) (g_Case:mg "Case" = some (.ref cC)) (hn_Case:kC + 1 <= n) (z_list:mg "list" = none):aV P w K mg base eG (n + 1) f fd ["self","deed"] (JD c cC):=by
 refine F.ok mO (fun vs H Q E h=>?_) (fun cdv A outer s H vs Q E hr h=>?_)
 ·obtain ⟨x,dq,q,rfl,_⟩:=h
  rfl
 obtain ⟨x,dq,q,rfl,h,hd,h9,k⟩:=h
 have nd:=mO.nd
 refine ⟨_,(aD (aX (i:=2) nd rfl (Or.inl rfl) (t7 M_Case G_Case (hr.mono hn_Case) rfl g_Case b_Case .nil nZ (aA (cU gA rfl z_list gR (aA (cV (pv 0) rfl) aC)) aC))) (aD (fD (pv 2) (cV (pv 0) rfl) rfl) (aD (fD (pv 2) (cV (pv 0) rfl) rfl) (aD (fD (pv 2) (cV (pv 0) rfl) rfl) (aD (fD (pv 2) (bA zA (cV (pv 0) rfl) (dI (aA (pv 1) aC))) rfl) (aJ (aR (pv 2)))))))),?_⟩
 have n6:=h.n6
 refine ⟨_,rfl,x,cC,_,_,_,rfl,h.hx,ca.cl,ca.np,rfl,?_⟩
 refine ⟨q.tp,_,rfl,.inr (bZ.of h.hp),fun r hr0=>?_⟩
 have s1:=aG hr0 (.lst (q.ys.map V.ref))
 have er:aU H r (.lst (q.ys.map V.ref)) r=some (.lst (q.ys.map V.ref)):=aB
 generalize aU H r (.lst (q.ys.map V.ref))=H1 at s1 er ⊢
 intro x2 dx2 hx2 hdx2 nd2
 have nO:=Gf (o1:=.own x2) (o2:=.ins cC dx2 []) hx2 hdx2 nd2
 have h1:=h.kt (aM.kt (s1.trans nO))
 refine .inl ⟨x2,dx2,r,q.ys,rfl,aB,nO _ _ er,h.n1,h.n6,(fun y hy=>?_),fun tp tl th td H3 kx hx3 htp htl hth htd=>⟨rfl,?_⟩⟩
 ·obtain ⟨i,hi,rfl⟩:=List.mem_iff_getElem.mp hy
  exact ⟨_,_,_,(h1.st i _ _ (List.getElem?_eq_getElem hi) (List.getElem?_eq_getElem (by rw [h.es]; exact hi))).1⟩
 have s3:aM H H3:=s1.trans (made hx2 hdx2 kx)
 have hxn:H x2=none:=by
  cases e:H x2 with
  | none=>rfl
  | some o=>rw [s1 _ _ e] at hx2; cases hx2
 have nx:x ≠ x2:=fun z=>by rw [<- z,h.hx] at hxn; cases hxn
 have e3:=s3 _ _ h.hx
 refine ⟨_,rfl,x,cC,_,_,_,rfl,e3,ca.cl,ca.nl,rfl,_,rfl,x2,cC,dx2,_,rfl,hx3,ca.cl,ca.nl,(by show 5 < 1000; decide),?_⟩
 refine ⟨_,rfl,x,cC,_,_,_,rfl,(by rw [aH nx]; exact e3),ca.cl,ca.nh,rfl,_,rfl,x2,cC,dx2,_,rfl,aB,ca.cl,ca.nh,(by show 5 < 1000; decide),?_⟩
 refine ⟨_,rfl,x,cC,_,_,_,rfl,(by rw [aH nx,aH nx]; exact e3),ca.cl,ca.ns,rfl,_,rfl,x2,cC,dx2,_,rfl,aB,ca.cl,ca.ns,(by show 5 < 1000; decide),?_⟩
 have k4:KX x2 H3 (aU (aU (aU H3 x2 (.ins cC dx2 (b8 "lowest" (.ref q.tl) (qD tp tl th 0 td)))) x2 (.ins cC dx2 (b8 "held" (.ref q.th) (b8 "lowest" (.ref q.tl) (qD tp tl th 0 td))))) x2 (.ins cC dx2 (b8 "spent" (.int q.sp) (b8 "held" (.ref q.th) (b8 "lowest" (.ref q.tl) (qD tp tl th 0 td)))))):=((KX.put _).trans (KX.put _)).trans (KX.put _)
 have hx4:aU (aU (aU H3 x2 (.ins cC dx2 (b8 "lowest" (.ref q.tl) (qD tp tl th 0 td)))) x2 (.ins cC dx2 (b8 "held" (.ref q.th) (b8 "lowest" (.ref q.tl) (qD tp tl th 0 td))))) x2 (.ins cC dx2 (b8 "spent" (.int q.sp) (b8 "held" (.ref q.th) (b8 "lowest" (.ref q.tl) (qD tp tl th 0 td))))) x2=some (.ins cC dx2 (qD tp q.tl q.th q.sp td)):=aB
 generalize aU (aU (aU H3 x2 (.ins cC dx2 (b8 "lowest" (.ref q.tl) (qD tp tl th 0 td)))) x2 (.ins cC dx2 (b8 "held" (.ref q.th) (b8 "lowest" (.ref q.tl) (qD tp tl th 0 td))))) x2 (.ins cC dx2 (b8 "spent" (.int q.sp) (b8 "held" (.ref q.th) (b8 "lowest" (.ref q.tl) (qD tp tl th 0 td)))))=H4 at k4 hx4 ⊢
 have e4:=k4 _ _ nx e3
 have s4:aM H H4:=fun b o e=>k4 b o (aO e hxn) (s3 b o e)
 refine ⟨_,rfl,x,cC,_,_,_,rfl,e4,ca.cl,ca.nd,rfl,_,rfl,X8,fun t ht=>?_⟩
 have n5:=aG ht (.tup [V.ref dq])
 have e5:aU H4 t (.tup [V.ref dq]) t=some (.tup [V.ref dq]):=aB
 have hx5:=n5 _ _ hx4
 have s5:=s4.trans n5
 have tx:tp ≠ x2:=bC htp hx3 fun z=>nomatch z
 have ep5:=n5 _ _ (k4 _ _ tx htp)
 generalize aU H4 t (.tup [V.ref dq])=H5 at n5 e5 hx5 s5 ep5 ⊢
 have fin:∀ (t2:Addr) (H6:Hp),aM H5 H6->H6 t2=some (.tup ((q.ds ++ [dq]).map V.ref))->t2 ≠ x2->Q (.ref x2) (aU H6 x2 (.ins cC dx2 (qD tp q.tl q.th q.sp t2))):=fun t2 H6 s6 e6 n26=>by
  have s7:aM H (aU H6 x2 (.ins cC dx2 (qD tp q.tl q.th q.sp t2))):=fun b o e=>by rw [aH (aO e hxn)]; exact s6 _ _ (s5 _ _ e)
  have h7:=h.kt (aM.kt s7)
  refine k x2 dx2 tp t2 _ hxn s7 ⟨aB,?_,h7.hl,h7.hh,?_,h7.n1,h7.n6,h7.es,h7.el,h7.eb,h7.st,h7.cp,h7.en,fun d hd'=>?_,?_⟩
  ·rw [aH tx]; exact s6 _ _ ep5
  ·rw [aH n26]; exact e6
  ·rcases List.mem_append.mp hd' with e | e
   ·exact h7.dd d e
   ·rw [List.mem_singleton.mp e]; exact hd.kt (aM.kt s7)
  ·show (q.ds ++ [dq]).length <= 100
   rw [List.length_append]
   show _ + 1 <= 100
   omega
 refine ⟨q.td,t,_,_,rfl,rfl,bZ.of (s5 _ _ h.hd),bZ.of e5,Vc (by rw [List.length_map]; show _ + 1 <= 1000; omega),fun z=>?_,(fun z=>nomatch z),fun t2 ht2=>?_⟩
 ·refine ⟨_,rfl,x2,cC,dx2,_,rfl,hx5,ca.cl,ca.nd,(by show 5 < 1000; decide),?_⟩
  refine ⟨_,rfl,?_⟩
  refine fin t H5 (aM.refl _) ?_ (bC e5 hx5 fun z=>nomatch z)
  rw [e5,List.map_append,z]
  rfl
 ·have n6':=aG ht2 (.tup (q.ds.map V.ref ++ [V.ref dq]))
  refine ⟨_,rfl,x2,cC,dx2,_,rfl,n6' _ _ hx5,ca.cl,ca.nd,(by show 5 < 1000; decide),?_⟩
  refine ⟨_,rfl,?_⟩
  refine fin t2 _ n6' ?_ (fun z=>by rw [z,hx5] at ht2; cases ht2)
  rw [aB,List.map_append]
  rfl
theorem uQ {n:Nat}{f:Addr}{fd:FuncData} (F:eX K "opened" "Case.opened" (aF (top 37) 13) f fd) {c:Cs}{cC:Addr} (ca:yM K c cC) (ck:CK K c) {C_NoDeed:Addr} (g_NoDeed:mg "NoDeed" = some (.ref C_NoDeed)) (x_NoDeed:sU K C_NoDeed) {f_sd:Addr}{fd_sd:FuncData} (m_sd:dM K cC "stand" f_sd) (G_sd:aV P w K mg base (oX P w) n f_sd fd_sd ["self","box"] (Bh c cC C_NoDeed)) (b_sd:bB K fd_sd ["self","box"] []) {f_cp:Addr}{fd_cp:FuncData} (m_cp:dM K cC "cap" f_cp) (G_cp:aV P w K mg base (oX P w) n f_cp fd_cp ["self","box"] (Ei c cC C_NoDeed)) (b_cp:bB K fd_cp ["self","box"] []) {f_Ei:Addr}{fd_Ei:FuncData} (m_Ei:dM K c.e "is_end" f_Ei) (G_Ei:aV P w K mg base eG n f_Ei fd_Ei ["self"] (xT c true)) (b_Ei:bB K fd_Ei ["self"] []) {f_Si:Addr}{fd_Si:FuncData} (m_Si:dM K c.s "is_end" f_Si) (G_Si:aV P w K mg base eG n f_Si fd_Si ["self"] (xT c false)) (b_Si:bB K fd_Si ["self"] []) {f_res:Addr}{fd_res:FuncData} (m_Sr:dM K c.s "reserve" f_res) (G_res:aV P w K mg base eG n f_res fd_res ["self"] (Jp c)) (b_res:bB K fd_res ["self"] []) {f_af:Addr}{fd_af:FuncData} (m_af:dM K c.s "after" f_af) (G_af:aV P w K mg base eG n f_af fd_af ["self","row"] (Ue c)) (b_af:bB K fd_af ["self","row"] []) {f_bh:Addr}{fd_bh:FuncData} (m_bh:dM K cC "behind" f_bh) (G_bh:aV P w K mg base eG n f_bh fd_bh ["self","deed"] (JD c cC)) (b_bh:bB K fd_bh ["self","deed"] []) {g_with_thing:Addr}{gd_with_thing:FuncData} (c_with_thing:gF P w K mg base n "with_thing" ["things","place","thing"] (Ow K) g_with_thing gd_with_thing) {g_lesser:Addr}{gd_lesser:FuncData} (c_lesser:gF P w K mg base n "lesser" ["one","other"] (Pn K) g_lesser gd_lesser) {g_is_whole:Addr}{gd_is_whole:FuncData} (c_is_whole:gF P w K mg base n "is_whole" ["thing","least","most"] rA g_is_whole gd_is_whole) (z_len:mg "len" = none):aV P w K mg base (oX P w) (n + 1) f fd ["self","box","row"] (Ob c cC):=by
 refine F.okX mZ (fun vs H Q E h=>?_) (fun cdv A outer s H vs Q E hr h=>?_)
 ·obtain ⟨x,i,j,q,p,rs,d,m,rfl,_⟩:=h
  rfl
 have nd:=mZ.nd
 refine ⟨_,(aD (aX (i:=3) nd rfl (Or.inl rfl) (fO (pv 0) ca.cl m_sd G_sd hr b_sd .nil iJ (aA (pv 1) aC))) (aD (eF (PT.nox (PW.pt (iU (dH (gZ (bN (pv 3) ck.ce m_Ei G_Ei hr b_Ei .nil c7) (bN (pv 3) ck.cs m_Si G_Si hr b_Si .nil c7))) (gC (fG (dH (aN c_is_whole hr (aA (pv 2) (aA aL (aA (bA lR (aZ cI rfl z_len jA (aA (cV (pv 3) rfl) aC)) aL) aC)))))))))) (aJ (iT gJ rfl rfl g_NoDeed x_NoDeed)) bU) (aD (aX (i:=4) nd rfl (Or.inl rfl) (fO (pv 0) ca.cl m_cp G_cp hr b_cp .nil iJ (aA (pv 1) aC))) (sJ.nox (aD (aX (i:=5) nd rfl (Or.inl rfl) (BV (bV LQ (pv 4) yV (cM _)) (bN (pv 3) ck.cs m_Sr G_res hr b_res .nil c7) (aN c_lesser hr (aA (pv 4) (aA (bN (pv 3) ck.cs m_Sr G_res hr b_res .nil c7) aC))))) (aD (aX (i:=6) nd rfl (Or.inl rfl) (fO (pv 0) ca.cl m_bh G_bh hr b_bh .nil c7 (aA (dI (aA bO (aA (pv 1) (aA (pv 2) aC)))) aC))) (aD (fD (pv 6) (aN c_with_thing hr (aA (cV (pv 0) rfl) (aA (pv 1) (aA (fO (pv 3) ck.cs m_af G_af hr b_af .nil c7 (aA (pv 2) aC)) aC)))) rfl) (aD (fD (pv 6) (aN c_with_thing hr (aA (cV (pv 0) rfl) (aA (pv 1) (aA (pv 5) aC)))) rfl) (aD (fD (pv 6) (bA fY (cV (pv 0) rfl) (cV (pv 3) rfl)) rfl) (aJ (aR (pv 6)))))))))))),?_⟩
 obtain ⟨x,i,j,q,p,rs,d,m,rfl,h,ei,hj,h9,k⟩:=h
 have es:=h.es
 have el:=h.el
 have ebl:=h.eb
 have n6:=h.n6
 have hi:i < q.ys.length:=by have:=(List.getElem?_eq_some_iff.mp ei).1; omega
 have ey:q.ys[i]? = some q.ys[i]:=List.getElem?_eq_getElem hi
 refine ⟨_,rfl,x,_,_,rfl,h.hx,rfl,_,rfl,x,.int (i:Int),q,true,rfl,h,lU.yes (by omega) (by omega),fun j0 y e1 e2=>?_,(fun z=>nomatch z)⟩
 obtain rfl:i=j0:=by injection e1 with e1; omega
 obtain rfl:q.ys[i]=y:=by rw [List.getElem?_eq_getElem (by omega)] at e2; exact Option.some.inj e2
 have d12:=(h.st i _ _ ey ei).2
 have st0:=(h.st i _ _ ey ei).1
 have st:=st0
 cases st with
 | @st _ dx l0 cp0 r0 _ n' k' lv2 d0 _ jj xs _ ps zs hh vv g lp ly row sub p0 p9 ne l4 ww hk =>
 refine .inr ⟨_,rfl,q.ys[i],_,_,rfl,hh,rfl,q.ys[i],rfl,?_⟩
 refine ⟨_,rfl,?_⟩
 refine fH ?_
 refine ⟨_,rfl,_,rfl,q.ys[i],c.s,_,_,_,rfl,hh,ck.cs,ck.s6,rfl,r0,_,rfl,.inr (bZ.of g),_,_,rfl,rfl,.int (j:Int),0,_,true,rfl,(by rw [List.length_map,lp]; exact lU.yes (by omega) (by omega)),?_⟩
 refine ⟨_,rfl,?_⟩
 refine fH ?_
 refine ⟨_,rfl,x,_,_,rfl,h.hx,rfl,_,rfl,x,.int (i:Int),q,true,rfl,h,lU.yes (by omega) (by omega),fun j0 y e1 e2=>?_,(fun z=>nomatch z)⟩
 obtain rfl:i=j0:=by injection e1 with e1; omega
 have cp:=h.cp y (List.mem_of_getElem? e2)
 refine' Xw (fun L=>∃ lv rv:Int × Int,Tq H L lv /\ Sd.Lw lv /\ Sd.Lw rv /\ Sd.Rv (.st p rs) (d0 + 1) rv /\ ((q.ls[i]? = some .non /\ lv=rv) ∨ ∃ l0 lv0,q.ls[i]? = some (.ref l0) /\ Tq H l0 lv0 /\ lv=if rv.1 * lv0.2 < lv0.1 * rv.2 then rv else lv0)) (fun fW=>?main) ?rst
 case main =>
  have cpd:y = .non ∨ ∃ ca0 lv0,y = .ref ca0 /\ Tq H ca0 lv0 /\ Sd.Lw lv0:=by
   cases cp with
   | non=>exact .inl rfl
   | @sh ca0 lv0 tq0 lw0=>exact .inr ⟨ca0,lv0,rfl,tq0,lw0⟩
  refine ⟨_,rfl,rfl,_,rfl,?_⟩
  rcases cpd with ey0 | ⟨ca0,lv0,ey0,tq0,lw0⟩
  ·refine zW (decide_eq_true ey0) ?_
   refine ⟨_,rfl,q.ys[i],_,_,rfl,hh,rfl,q.ys[i],.st p rs,_,m,rfl,st0,fun l lv tq lw rv=>?_⟩
   exact fW l ⟨lv,lv,tq,lw,lw,rv,.inl ⟨ey0 ▸ e2,rfl⟩⟩
  ·refine t8 (decide_eq_false (fun z=>by rw [ey0] at z; cases z)) ?_
   refine ⟨_,rfl,_,rfl,q.ys[i],_,_,rfl,hh,rfl,q.ys[i],.st p rs,_,m,rfl,st0,fun l lv tq lw rv=>?_⟩
   have z1:=Nj lw0
   have z2:=Nj lw
   refine ⟨ca0,l,lv0.1,lv0.2,lv.1,lv.2,congrArg (fun z=>[z,V.ref l]) ey0,bZ.of tq0,bZ.of tq,⟨Nat.le_trans z1.t (by decide),Nat.le_trans z1.b (by decide),Nat.le_trans z2.t (by decide),Nat.le_trans z2.b (by decide)⟩,fun hlt=>?_,fun hlt=>?_⟩
   ·exact fW l ⟨lv,lv,tq,lw,lw,rv,.inr ⟨ca0,lv0,ey0 ▸ e2,tq0,(if_pos hlt).symm⟩⟩
   ·rw [ey0]
    exact fW ca0 ⟨lv0,lv,tq0,lw0,lw,rv,.inr ⟨ca0,lv0,ey0 ▸ e2,tq0,(if_neg hlt).symm⟩⟩
 case rst =>
 rintro l ⟨lv,rv,tq,lw,lwr,hrv,hnc⟩
 refine ⟨_,rfl,x,_,_,rfl,h.hx,rfl,_,rfl,_,rfl,RM,fun t ht=>?_⟩
 have n1:=aG ht (.tup [.str "open",.int (i:Int),.int (j:Int)])
 refine ⟨x,t,q,rfl,h.kt (aM.kt n1),.op aB,h9,fun x2 dx2 tp td H2 hxn s2 ca2=>?_⟩
 have hxn:H x2=none:=by
  cases e:H x2 with
  | none=>rfl
  | some o=>rw [n1 _ _ e] at hxn; cases hxn
 have pB:=n1.trans s2
 have h2:=h.kt (aM.kt pB)
 have nx:x ≠ x2:=fun z=>by rw [<- z,h.hx] at hxn; cases hxn
 have st2:=st0.kp (aM.kp pB)
 have hh2:=pB _ _ hh
 have ej:rs[j]? = some rs[j]:=List.getElem?_eq_getElem hj
 refine ⟨_,rfl,x,cC,_,_,_,rfl,h2.hx,ca.cl,ca.np,rfl,_,rfl,_,rfl,q.ys[i],_,_,rfl,hh2,rfl,_,rfl,q.ys[i],p,rs,d0,m,j,rs[j],rfl,st2,ej,fun y2 j2 hj2 st3=>?_⟩
 refine ⟨q.tp,_,i,.ref y2,rfl,h2.hp,by rw [List.length_map]; exact hi,by rw [List.length_map]; omega,fun t2 H3 s3 e3=>?_⟩
 have hx3:=s3 _ _ ca2.hx
 refine ⟨_,rfl,x2,cC,dx2,_,rfl,hx3,ca.cl,ca.np,(by show 5 < 1000; decide),?_⟩
 have k4:KX x2 H3 (aU H3 x2 (.ins cC dx2 (b8 "present" (.ref t2) (qD tp q.tl q.th q.sp td)))):=KX.put _
 have hx4:aU H3 x2 (.ins cC dx2 (b8 "present" (.ref t2) (qD tp q.tl q.th q.sp td))) x2=some (.ins cC dx2 (qD t2 q.tl q.th q.sp td)):=aB
 have e4:=k4 _ _ (bC e3 hx3 fun z=>nomatch z) e3
 generalize aU H3 x2 (.ins cC dx2 (b8 "present" (.ref t2) (qD tp q.tl q.th q.sp td)))=H4 at k4 hx4 e4 ⊢
 have s4:aM H H4:=fun b o e=>k4 b o (aO e hxn) (s3 _ _ (pB b o e))
 have h4:=h.kt (aM.kt s4)
 refine ⟨_,rfl,x,cC,_,_,_,rfl,h4.hx,ca.cl,ca.nl,rfl,_,rfl,_,rfl,q.tl,_,i,.ref l,rfl,h4.hl,by omega,by omega,fun t5 H5 s5 e5=>?_⟩
 have hx5:=s5 _ _ hx4
 refine ⟨_,rfl,x2,cC,dx2,_,rfl,hx5,ca.cl,ca.nl,(by show 5 < 1000; decide),?_⟩
 have k6:KX x2 H5 (aU H5 x2 (.ins cC dx2 (b8 "lowest" (.ref t5) (qD t2 q.tl q.th q.sp td)))):=KX.put _
 have hx6:aU H5 x2 (.ins cC dx2 (b8 "lowest" (.ref t5) (qD t2 q.tl q.th q.sp td))) x2=some (.ins cC dx2 (qD t2 t5 q.th q.sp td)):=aB
 have e6:=k6 _ _ (bC e5 hx5 fun z=>nomatch z) e5
 have e46:=k6 _ _ (bC (s5 _ _ e4) hx5 fun z=>nomatch z) (s5 _ _ e4)
 generalize aU H5 x2 (.ins cC dx2 (b8 "lowest" (.ref t5) (qD t2 q.tl q.th q.sp td)))=H6 at k6 hx6 e6 e46 ⊢
 have s6:aM H H6:=fun b o e=>k6 b o (aO e hxn) (s5 _ _ (s4 b o e))
 have h6:=h.kt (aM.kt s6)
 have kx26:KX x2 H2 H6:=((KX.of s3).trans k4).trans ((KX.of s5).trans k6)
 refine ⟨_,rfl,x,cC,_,_,_,rfl,h6.hx,ca.cl,ca.ns,rfl,_,rfl,q.ys[i],c.s,_,_,_,rfl,s6 _ _ hh,ck.cs,ck.s5,rfl,_,_,rfl,rfl,?_⟩
 refine ⟨_,rfl,x2,cC,dx2,_,rfl,hx6,ca.cl,ca.ns,(by show 5 < 1000; decide),?_⟩
 have k7:KX x2 H6 (aU H6 x2 (.ins cC dx2 (b8 "spent" (.int (q.sp + p)) (qD t2 t5 q.th q.sp td)))):=KX.put _
 have s7:aM H (aU H6 x2 (.ins cC dx2 (b8 "spent" (.int (q.sp + p)) (qD t2 t5 q.th q.sp td)))):=fun b o e=>k7 b o (aO e hxn) (s6 b o e)
 have h7:=h.kt (aM.kt s7)
 have kx27:=kx26.trans k7
 have st7:d7 c (aU H6 x2 (.ins cC dx2 (b8 "spent" (.int (q.sp + p)) (qD t2 t5 q.th q.sp td)))) y2 rs[j].2 d0 j2:=d7.kx ca.ne ca.nS kx27 ca2.hx st3
 refine ⟨_,rfl,?_⟩
 refine k x2 ⟨dx2,t2,t5,q.th,td,q.ys.set i y2,q.ss.set i (rs[j].2,d0,j2),q.ls.set i (.ref l),q.bs,q.sp + p,q.ds ++ [t]⟩ _ s7 ⟨aB,?_,?_,h7.hh,?_,?_,?_,?_,?_,?_,?_,?_,?_,?_,?_⟩ ?_ ⟨rs[j],d0,j2,ej,rfl⟩ rfl ⟨l,lv,rv,rfl,s7 _ _ tq,lw,lwr,hrv,hnc⟩ rfl ⟨t,rfl,kx27 _ _ (bC (s2 _ _ aB) ca2.hx fun z=>nomatch z) (s2 _ _ aB)⟩
 ·rw [aH (bC e46 hx6 fun z=>nomatch z),List.map_set]; exact e46
 ·rw [aH (bC e6 hx6 fun z=>nomatch z)]; exact e6
 ·exact kx27 _ _ (bC ca2.hd ca2.hx fun z=>nomatch z) ca2.hd
 ·rw [List.length_set]; exact h.n1
 ·rw [List.length_set]; exact h.n6
 ·rw [List.length_set,List.length_set]; exact h.es
 ·rw [List.length_set,List.length_set]; exact h.el
 ·rw [List.length_set]; exact h.eb
 ·intro a y0 s0 ea eb0
  rw [List.getElem?_set] at ea eb0
  by_cases hia:i=a
  ·rw [if_pos hia,if_pos (by omega)] at ea eb0
   cases ea
   cases eb0
   exact ⟨st7,by have d13:d0 + 1 <= 4:=d12.1; show d0 <= 4; omega,by have d14:m <= 12:=d12.2; show j2 <= 12; omega⟩
  ·rw [if_neg hia] at ea eb0
   exact h7.st a y0 s0 ea eb0
 ·intro l0 hl0
  rcases List.mem_or_eq_of_mem_set hl0 with e | e
  ·exact h7.cp l0 e
  ·rw [e]; exact .sh (s7 _ _ tq) lw
 ·intro a s0 ea eb0
  rw [List.getElem?_set] at eb0
  by_cases hia:i=a
  ·subst hia
   obtain ⟨v0,z⟩:=h.en i _ ea ei
   cases z
  ·rw [if_neg hia] at eb0
   exact h.en a s0 ea eb0
 ·intro d' hd'
  exact tD.kx kx27 ca2.hx (ca2.dd d' hd')
 ·exact ca2.d9
 ·rw [List.length_set]
theorem wQ {n:Nat}{f:Addr}{fd:FuncData} (F:eX K "taken" "Case.taken" (aF (top 37) 14) f fd) {c:Cs}{cC:Addr} (ca:yM K c cC) (ck:CK K c) {C_NoDeed:Addr} (g_NoDeed:mg "NoDeed" = some (.ref C_NoDeed)) (x_NoDeed:sU K C_NoDeed) {f_sd:Addr}{fd_sd:FuncData} (m_sd:dM K cC "stand" f_sd) (G_sd:aV P w K mg base (oX P w) n f_sd fd_sd ["self","box"] (Bh c cC C_NoDeed)) (b_sd:bB K fd_sd ["self","box"] []) {f_Ei:Addr}{fd_Ei:FuncData} (m_Ei:dM K c.e "is_end" f_Ei) (G_Ei:aV P w K mg base eG n f_Ei fd_Ei ["self"] (xT c true)) (b_Ei:bB K fd_Ei ["self"] []) {f_Si:Addr}{fd_Si:FuncData} (m_Si:dM K c.s "is_end" f_Si) (G_Si:aV P w K mg base eG n f_Si fd_Si ["self"] (xT c false)) (b_Si:bB K fd_Si ["self"] []) {f_bh:Addr}{fd_bh:FuncData} (m_bh:dM K cC "behind" f_bh) (G_bh:aV P w K mg base eG n f_bh fd_bh ["self","deed"] (JD c cC)) (b_bh:bB K fd_bh ["self","deed"] []) {g_with_thing:Addr}{gd_with_thing:FuncData} (c_with_thing:gF P w K mg base n "with_thing" ["things","place","thing"] (Ow K) g_with_thing gd_with_thing):aV P w K mg base (oX P w) (n + 1) f fd ["self","box"] (O2 c cC):=by
 refine F.okX oV (fun vs H Q E h=>?_) (fun cdv A outer s H vs Q E hr h=>?_)
 ·obtain ⟨x,i,q,u,d,m,rfl,_⟩:=h
  rfl
 have nd:=oV.nd
 refine ⟨_,(aD (eF (PW.pt (iU (fG (dH (gZ (bN (fO (pv 0) ca.cl m_sd G_sd hr b_sd .nil iJ (aA (pv 1) aC)) ck.ce m_Ei G_Ei hr b_Ei .nil c7) (bN (fO (pv 0) ca.cl m_sd G_sd hr b_sd .nil iJ (aA (pv 1) aC)) ck.cs m_Si G_Si hr b_Si .nil c7)))) (gC (dH (bJ cO (cV (pv 0) rfl) (pv 1) (fun _ _=>rfl)))))) (aJ (iT gJ rfl rfl g_NoDeed x_NoDeed)) bU) (sJ.nox (aD (aX (i:=2) nd rfl (Or.inl rfl) (fO (pv 0) ca.cl m_bh G_bh hr b_bh .nil c7 (aA (dI (aA bO (aA (pv 1) aC))) aC))) (aD (fD (pv 2) (aN c_with_thing hr (aA (cV (pv 0) rfl) (aA (pv 1) (aA gW aC)))) rfl) (aJ (aR (pv 2))))))),?_⟩
 obtain ⟨x,i,q,u,d,m,rfl,h,ei,eb,h9,k⟩:=h
 have es:=h.es
 have el:=h.el
 have ebl:=h.eb
 have n6:=h.n6
 have hi:i < q.ys.length:=by have:=(List.getElem?_eq_some_iff.mp ei).1; omega
 have ey:q.ys[i]? = some q.ys[i]:=List.getElem?_eq_getElem hi
 refine .inl ⟨_,rfl,x,_,_,rfl,h.hx,rfl,_,rfl,x,.int (i:Int),q,true,rfl,h,lU.yes (by omega) (by omega),fun j0 y e1 e2=>?_,(fun z=>nomatch z)⟩
 obtain rfl:i=j0:=by injection e1 with e1; omega
 obtain rfl:q.ys[i]=y:=by rw [List.getElem?_eq_getElem (by omega)] at e2; exact Option.some.inj e2
 have st:=(h.st i _ _ ey ei).1
 cases st with
 | en hh vv ok =>
 refine ⟨q.ys[i],_,_,rfl,hh,rfl,q.ys[i],rfl,?_⟩
 refine ⟨_,rfl,?_⟩
 refine fH ?_
 refine ⟨_,rfl,x,cC,_,_,_,rfl,h.hx,ca.cl,ca.nh,rfl,_,rfl,q.th,_,_,_,rfl,rfl,bZ.of h.hh,dG (v:=V.bl false) (by rw [List.getElem?_map,eb]; rfl),?_⟩
 refine ⟨_,rfl,?_⟩
 refine fH ?_
 refine ⟨_,rfl,x,_,_,rfl,h.hx,rfl,_,rfl,tO,fun t ht=>?_⟩
 have n1:=aG ht (.tup [.str "take",.int (i:Int)])
 refine ⟨x,t,q,rfl,h.kt (aM.kt n1),.tk aB,h9,fun x2 dx2 tp td H2 hxn s2 ca2=>?_⟩
 have hxn:H x2=none:=by
  cases e:H x2 with
  | none=>rfl
  | some o=>rw [n1 _ _ e] at hxn; cases hxn
 have pB:=n1.trans s2
 have h2:=h.kt (aM.kt pB)
 refine ⟨_,rfl,x,cC,_,_,_,rfl,h2.hx,ca.cl,ca.nh,rfl,_,rfl,q.th,_,i,.bl true,rfl,h2.hh,by rw [List.length_map]; omega,by rw [List.length_map]; omega,fun t2 H3 s3 e3=>?_⟩
 have hx3:=s3 _ _ ca2.hx
 refine ⟨_,rfl,x2,cC,dx2,_,rfl,hx3,ca.cl,ca.nh,(by show 5 < 1000; decide),?_⟩
 have k4:KX x2 H3 (aU H3 x2 (.ins cC dx2 (b8 "held" (.ref t2) (qD tp q.tl q.th q.sp td)))):=KX.put _
 have k24:KX x2 H2 (aU H3 x2 (.ins cC dx2 (b8 "held" (.ref t2) (qD tp q.tl q.th q.sp td)))):=(KX.of s3).trans k4
 have s4:aM H (aU H3 x2 (.ins cC dx2 (b8 "held" (.ref t2) (qD tp q.tl q.th q.sp td)))):=fun b o e=>k4 b o (aO e hxn) (s3 _ _ (pB b o e))
 have h4:=h.kt (aM.kt s4)
 refine ⟨_,rfl,?_⟩
 refine k x2 ⟨dx2,tp,q.tl,t2,td,q.ys,q.ss,q.ls,q.bs.set i true,q.sp,q.ds ++ [t]⟩ _ s4 ⟨aB,?_,h4.hl,?_,?_,h.n1,h.n6,h.es,h.el,?_,h4.st,h4.cp,?_,?_,ca2.d9⟩ rfl rfl rfl rfl rfl ⟨t,rfl,k24 _ _ (bC (s2 _ _ aB) ca2.hx fun z=>nomatch z) (s2 _ _ aB)⟩
 ·exact k24 _ _ (bC ca2.hp ca2.hx fun z=>nomatch z) ca2.hp
 ·rw [aH (bC e3 hx3 fun z=>nomatch z),List.map_set]; exact e3
 ·exact k24 _ _ (bC ca2.hd ca2.hx fun z=>nomatch z) ca2.hd
 ·rw [List.length_set]; exact h.eb
 ·intro a s0 ea es0
  rw [List.getElem?_set] at ea
  by_cases hia:i=a
  ·subst hia
   rw [ei] at es0
   cases es0
   exact ⟨u,rfl⟩
  ·rw [if_neg hia] at ea
   exact h.en a s0 ea es0
 ·intro d' hd'
  exact tD.kx k24 ca2.hx (ca2.dd d' hd')
theorem wF {n:Nat}{f:Addr}{fd:FuncData} (F:eX K "is_end" "End.is_end" (aF (top 29) 1) f fd) {c:Cs}:aV P w K mg base eG (n + 1) f fd ["self"] (xT c true):=by
 refine F.ok oF (fun vs H Q E h=>?_) (fun cdv A outer s H vs Q E hr h=>?_)
 ·obtain ⟨x,rfl,_⟩:=h
  rfl
 obtain ⟨x,rfl,q⟩:=h
 have nd:=oF.nd
 refine ⟨_,(aJ (aR gW)),?_⟩
 exact q
theorem sW {n:Nat}{f:Addr}{fd:FuncData} (F:eX K "is_end" "Stage.is_end" (aF (top 30) 1) f fd) {c:Cs}:aV P w K mg base eG (n + 1) f fd ["self"] (xT c false):=by
 refine F.ok mG (fun vs H Q E h=>?_) (fun cdv A outer s H vs Q E hr h=>?_)
 ·obtain ⟨x,rfl,_⟩:=h
  rfl
 obtain ⟨x,rfl,q⟩:=h
 have nd:=mG.nd
 refine ⟨_,(aJ (aR gW)),?_⟩
 exact q
theorem Cv {n:Nat}{f:Addr}{fd:FuncData} (F:eX K "told" "End.told" (aF (top 29) 4) f fd) {c:Cs} (ck:CK K c):aV P w K mg base eG (n + 1) f fd ["self"] (GZ c):=by
 refine F.ok rO (fun vs H Q E h=>?_) (fun cdv A outer s H vs Q E hr h=>?_)
 ·obtain ⟨x,v,d,m,rfl,_⟩:=h
  rfl
 obtain ⟨x,v,d,m,rfl,st,q⟩:=h
 have nd:=rO.nd
 refine ⟨_,(aJ (aR (dI (aA bO (aA (cV (pv 0) rfl) aC))))),?_⟩
 cases st with
 | en h vv ok=>exact ⟨_,rfl,x,c.e,_,_,_,rfl,h,ck.ce,ck.e5,rfl,tO,fun r hr0=>q r _ (aG hr0 _) (.en aB)⟩
section
variable {c:Cs}{H H':Hp}
theorem MN (kt:∀ b xs,H b=some (.tup xs)->H' b=some (.tup xs)) (ki:∀ b C dx f fs,H b=some (.ins C dx (f :: fs))->H' b=some (.ins C dx (f :: fs))) {ps ys:List Addr}{rs:List (Int × Sd.Sd)}{d:Nat}{j:Int × Sd.Sd->Nat} (h:qT c H ps ys rs d j):qT c H' ps ys rs d j :=
 ⟨h.lp,h.ly,fun i q y t a b e=>kt _ _ (h.row i q y t a b e),fun i y t a b=>Aa kt ki (h.sub i y t a b)⟩
theorem pZ {α : Type}{l:List α}{x y:α}{i:Nat} (h:(l ++ [x])[i]? = some y):(i < l.length /\ l[i]? = some y) ∨ (i=l.length /\ y=x):=by
 by_cases hi:i < l.length
 ·exact .inl ⟨hi,by rwa [List.getElem?_append_left hi] at h⟩
 ·have h2:=(List.getElem?_eq_some_iff.mp h).1
  rw [List.length_append,List.length_singleton] at h2
  have e:i=l.length:=by omega
  subst e
  rw [List.getElem?_append_right (Nat.le_refl _),Nat.sub_self] at h
  cases h
  exact .inr ⟨rfl,rfl⟩
theorem Ms {ps ys:List Addr}{rs:List (Int × Sd.Sd)}{d:Nat}{j:Int × Sd.Sd->Nat} (h:qT c H ps ys rs d j) {q y:Addr}{t:Int × Sd.Sd} (hq:H q=some (.tup [.int t.1,.ref y])) (hy:d7 c H y t.2 d (j t)):qT c H (ps ++ [q]) (ys ++ [y]) (rs ++ [t]) d j:=by
 have l1:=h.lp
 have l2:=h.ly
 refine ⟨by simp [l1],by simp [l2],fun i q' y' t' a b c=>?_,fun i y' t' b c=>?_⟩
 ·rcases pZ a with ⟨i1,a⟩ | ⟨i1,rfl⟩ <;> rcases pZ b with ⟨i2,b⟩ | ⟨i2,rfl⟩ <;> rcases pZ c with ⟨i3,c⟩ | ⟨i3,rfl⟩
  ·exact h.row i _ _ _ a b c
  all_goals first | exact hq | (exfalso; omega)
 ·rcases pZ b with ⟨i2,b⟩ | ⟨i2,rfl⟩ <;> rcases pZ c with ⟨i3,c⟩ | ⟨i3,rfl⟩
  ·exact h.sub i _ _ b c
  all_goals first | exact hy | (exfalso; omega)
theorem Iu {ps ys:List Addr}{rs:List (Int × Sd.Sd)} (lp:ps.length=rs.length) (ly:ys.length=rs.length) (row:∀ (i:Nat) q y t,ps[i]? = some q->ys[i]? = some y->rs[i]? = some t->H q=some (.tup [.int t.1,.ref y])) (sub:∀ (i:Nat) y t,ys[i]? = some y->rs[i]? = some t->fK H y t.2)
  {i:Nat}{v:V} (hv:(ps.map V.ref)[i]? = some v):∃ q y t,rs[i]? = some t /\ v = .ref q /\ H q=some (.tup [.int t.1,.ref y]) /\ fK H y t.2 /\ t ∈ rs:=by
 rw [List.getElem?_map] at hv
 cases e:ps[i]? with
 | none=>rw [e] at hv; cases hv
 | some q =>
  rw [e] at hv
  cases hv
  have hi:=(List.getElem?_eq_some_iff.mp e).1
  have ey:ys[i]? = some (ys[i]'(by omega)):=List.getElem?_eq_getElem _
  have er:rs[i]? = some (rs[i]'(by omega)):=List.getElem?_eq_getElem _
  exact ⟨q,_,_,er,rfl,row i q _ _ e ey er,sub i _ _ ey er,List.mem_of_getElem? er⟩
end
structure vH (H:Hp) (ps ys:List Addr) (rs:List (Int × Sd.Sd)):Prop where
 lp:ps.length=rs.length
 ly:ys.length=rs.length
 row:∀ (i:Nat) q y t,ps[i]? = some q->ys[i]? = some y->rs[i]? = some t->H q=some (.tup [.int t.1,.ref y])
 sub:∀ (i:Nat) y t,ys[i]? = some y->rs[i]? = some t->fK H y t.2
theorem vH.keep {H H':Hp}{ps ys:List Addr}{rs:List (Int × Sd.Sd)} (h:vH H ps ys rs) (k:∀ b xs,H b=some (.tup xs)->H' b=some (.tup xs)):vH H' ps ys rs :=
 ⟨h.lp,h.ly,fun i q y t a b c=>k _ _ (h.row i q y t a b c),fun i y t a b=>(h.sub i y t a b).keep k⟩
theorem vH.same {H H':Hp}{ps ys:List Addr}{rs:List (Int × Sd.Sd)} (s:aM H H') (h:vH H ps ys rs):vH H' ps ys rs:=h.keep fun b xs e=>s _ _ e
theorem mV {α : Type}{l:List α}{x y:α}{i:Nat} (h:(l ++ [x])[i]? = some y):(i < l.length /\ l[i]? = some y) ∨ (i=l.length /\ y=x):=by
 by_cases hi:i < l.length
 ·exact .inl ⟨hi,by rwa [List.getElem?_append_left hi] at h⟩
 ·have h2:=(List.getElem?_eq_some_iff.mp h).1
  rw [List.length_append,List.length_singleton] at h2
  have e:i=l.length:=by omega
  subst e
  rw [List.getElem?_append_right (Nat.le_refl _),Nat.sub_self] at h
  cases h
  exact .inr ⟨rfl,rfl⟩
theorem vH.snoc {H:Hp}{ps ys:List Addr}{rs:List (Int × Sd.Sd)} (h:vH H ps ys rs) {q y:Addr}{t:Int × Sd.Sd} (hq:H q=some (.tup [.int t.1,.ref y])) (hy:fK H y t.2):vH H (ps ++ [q]) (ys ++ [y]) (rs ++ [t]):=by
 have l1:=h.lp
 have l2:=h.ly
 refine ⟨by simp [l1],by simp [l2],fun i q' y' t' a b c=>?_,fun i y' t' b c=>?_⟩
 ·rcases mV a with ⟨i1,a⟩ | ⟨i1,rfl⟩ <;> rcases mV b with ⟨i2,b⟩ | ⟨i2,rfl⟩ <;> rcases mV c with ⟨i3,c⟩ | ⟨i3,rfl⟩
  ·exact h.row i _ _ _ a b c
  all_goals first | exact hq | (exfalso; omega)
 ·rcases mV b with ⟨i2,b⟩ | ⟨i2,rfl⟩ <;> rcases mV c with ⟨i3,c⟩ | ⟨i3,rfl⟩
  ·exact h.sub i _ _ b c
  all_goals first | exact hy | (exfalso; omega)
theorem wI {n:Nat}{f:Addr}{fd:FuncData} (F:eX K "told" "Stage.told" (aF (top 30) 6) f fd) {n0:Nat}{c:Cs} (ck:CK K c) (cfE:Av K c.e) (cfS:Av K c.s) {f_Et:Addr}{fd_Et:FuncData} (m_Et:dM K c.e "told" f_Et) (G_Et:aV P w K mg base eG n f_Et fd_Et ["self"] (GZ c)) (b_Et:bB K fd_Et ["self"] []) {f_St:Addr}{fd_St:FuncData} (m_St:dM K c.s "told" f_St) (G_St:aV P w K mg base eG n f_St fd_St ["self"] (J5 c n0)) (b_St:bB K fd_St ["self"] []) (z_tuple:mg "tuple" = none):aV P w K mg base eG (n + 1) f fd ["self"] (J5 c (n0 + 1)):=by
 refine F.ok oJ (fun vs H Q E h=>?_) (fun cdv A outer s H vs Q E hr h=>?_)
 ·obtain ⟨x,p,rs,d,m,rfl,_⟩:=h
  rfl
 obtain ⟨x,p,rs,d,m,rfl,st,dn,q⟩:=h
 have nd:=oJ.nd
 refine ⟨_,(aJ (aR (dI (aA bO (aA (cV (pv 0) rfl) (aA (cU (d8 (K:=K) rfl) rfl z_tuple gP (aA (cB (ls:=["weight","stand"]) (M:=["self"]) rfl (bR.of (by rfl)) (NL.of (by rfl)) (zF (cV (pv 0) rfl)) (fun _ _ _ _=>⟨(gQ (K:=K) (n:=2) rfl rfl (bK (aW (i:=0) (cQ (by rfl)) rfl (Or.inl rfl)) (bK (aW (i:=1) (cQ (by rfl)) rfl (Or.inl rfl)) fP))),cT,(dI (aA (pv 0) (aA (gZ (bN (pv 1) cfE m_Et G_Et hr b_Et .nil c7) (bN (pv 1) cfS m_St G_St hr b_St .nil c7)) aC)))⟩)) aC)) aC)))))),?_⟩
 cases st with
 | @st _ dx l cp r _ n' k' lv d _ j xs _ ps ys h vv g lp ly row sub p0 p9 ne l4 w hk =>
  have R:qT c H ps ys rs _ _:=⟨lp,ly,row,sub⟩
  have hl:(ps.map V.ref).length=rs.length:=by rw [List.length_map]; exact lp
  refine ⟨_,rfl,x,c.s,dx,_,_,rfl,h,ck.cs,ck.s5,rfl,?_⟩
  refine ⟨_,rfl,x,c.s,dx,_,_,rfl,h,ck.cs,ck.s6,rfl,r,rfl,⟨_,bZ.of g⟩,fun D hD=>?_⟩
  refine pK (xs:=ps.map V.ref) (fun u τ H'=>∃ v0 v1 qs zs,τ = [v0,v1,some (.ref x)] /\ aM H H' /\ H' D=some (.lst (qs.map V.ref)) /\ vH H' qs zs (rs.take u)) ⟨none,none,[],[],rfl,aG hD _,aB,⟨rfl,rfl,(fun i q y t a=>by simp at a),(fun i y t a=>by simp at a)⟩⟩ ?keep ?turn ?done
  case keep =>
   rintro u τ H' hi ⟨v0,v1,qs,zs,rfl,hs,_⟩
   exact bZ.of (hs _ _ g)
  case turn =>
   rintro u mm v τ H' hm hi hv ⟨v0,v1,qs,zs,rfl,hs,hD',tw⟩
   obtain ⟨q1,y,t,_,_,er,rfl,h1,st,mem⟩:=R.at_ hv
   refine ⟨q1,_,rfl,bZ.of (hs _ _ h1),rfl,_,_,rfl,_,_,rfl,rfl,?_⟩
   refine eZ ?_
   refine ⟨_,rfl,?_⟩
   refine Oj (st.same hs) (n:=n0) (by omega) (fun R h=>⟨_,rfl,h⟩) fun r1 H2 s2 to2=>?_
   refine ⟨tO,fun T hT=>?_⟩
   have n3:=aG hT (.tup [.int t.1,.ref r1])
   have hD3:=n3 _ _ (s2 _ _ hD')
   have ql:qs.length <= 4:=by rw [tw.lp,List.length_take]; omega
   have kt:∀ (o:HO) b xs,aU H2 T (.tup [.int t.1,.ref r1]) b=some (.tup xs)->aU (aU H2 T (.tup [.int t.1,.ref r1])) D o b=some (.tup xs):=fun o b xs e=>by rw [aH (bC e hD3 fun z=>nomatch z)]; exact e
   refine bG hm hi hD3 (by rw [List.length_map]; exact aQ (by omega)) ⟨_,_,qs ++ [T],zs ++ [r1],rfl,((hs.trans s2).trans n3).upd_new hD _,by rw [aB,List.map_append]; rfl,?_⟩
   rw [bH er]
   exact (((tw.same s2).same n3).keep (kt _)).snoc (kt _ _ _ aB) ((to2.same n3).keep (kt _))
  case done =>
   rintro τ H' ⟨v0,v1,qs,zs,rfl,hs,hD',tw⟩
   rw [hl,List.take_length] at tw
   refine ⟨D,_,rfl,.inl ⟨bM.of hD',fun t ht=>?_⟩⟩
   have n4:=aG ht (.tup (qs.map V.ref))
   refine ⟨RM,fun r2 hr2=>?_⟩
   have n5:=aG hr2 (.tup [.str "stage",.int p,.ref t])
   have tw5:=(tw.same n4).same n5
   exact q r2 _ ((hs.trans n4).trans n5) (.st aB (n5 _ _ aB) tw5.lp tw5.ly tw5.row tw5.sub)
theorem qN {n:Nat}{f:Addr}{fd:FuncData} (F:eX K "reserve" "Stand.reserve" (aF (top 28) 3) f fd) {c:Cs} (ck:CK K c):aV P w K mg base eG (n + 1) f fd ["self"] (Jp c):=by
 refine F.ok lH (fun vs H Q E h=>?_) (fun cdv A outer s H vs Q E hr h=>?_)
 ·obtain ⟨x,s,d,m,rfl,_⟩:=h
  rfl
 obtain ⟨x,s,d,m,rfl,st,q⟩:=h
 have nd:=lH.nd
 refine ⟨_,(aJ (aR (cV (pv 0) rfl))),?_⟩
 cases st with
 | en h vv ok=>exact ⟨_,rfl,x,c.e,_,_,_,rfl,h,ck.ce,ck.e3,rfl,q _ _ vv.lv vv.lw ⟨_,vv.mt⟩⟩
 | st h vv g lp ly row sub p0 p9 ne l4 w hk=>exact ⟨_,rfl,x,c.s,_,_,_,rfl,h,ck.cs,ck.s3,rfl,q _ _ vv.lv vv.lw ⟨_,vv.mt⟩⟩
theorem Ux {c:Cs}{H:Hp}{ps ys:List Addr}{rs:List (Int × Sd.Sd)}{d i:Nat}{j:Int × Sd.Sd->Nat}{t:Int × Sd.Sd} (R:qT c H ps ys rs d j) (h:rs[i]? = some t):∃ q y,(ps.map V.ref)[i]? = some (.ref q) /\ H q=some (.tup [.int t.1,.ref y]) /\ d7 c H y t.2 d (j t):=by
 have hi:=(List.getElem?_eq_some_iff.mp h).1
 have l1:=R.lp
 have l2:=R.ly
 have ep:ps[i]? = some (ps[i]'(by omega)):=List.getElem?_eq_getElem _
 have ey:ys[i]? = some (ys[i]'(by omega)):=List.getElem?_eq_getElem _
 exact ⟨_,_,by rw [List.getElem?_map,ep]; rfl,R.row i _ _ _ ep ey h,R.sub i _ _ ey h⟩
theorem vR {n:Nat}{f:Addr}{fd:FuncData} (F:eX K "after" "Stage.after" (aF (top 30) 3) f fd) {c:Cs} (ck:CK K c):aV P w K mg base eG (n + 1) f fd ["self","row"] (Ue c):=by
 refine F.ok mY (fun vs H Q E h=>?_) (fun cdv A outer s H vs Q E hr h=>?_)
 ·obtain ⟨x,p,rs,d,m,i,t,rfl,_⟩:=h
  rfl
 obtain ⟨x,p,rs,d,m,i,t,rfl,st,ht,q⟩:=h
 have nd:=mY.nd
 refine ⟨_,(aJ (aR (bJ cO (bJ cO (cV (pv 0) rfl) (pv 1) (fun _ _=>rfl)) aL (fun _ _=>rfl)))),?_⟩
 cases st with
 | @st _ dx l cp r _ n' k' lv _ _ j xs _ ps ys h vv g lp ly row sub p0 p9 ne l4 w hk =>
  obtain ⟨q0,y,e1,e2,e3⟩:=Ux ⟨lp,ly,row,sub⟩ ht
  exact ⟨_,rfl,x,c.s,dx,_,_,rfl,h,ck.cs,ck.s6,rfl,_,rfl,r,_,_,_,rfl,rfl,bZ.of g,dG e1,q0,_,_,_,rfl,rfl,bZ.of e2,rfl,q y _ (Sd.MK hk t (List.mem_of_getElem? ht)) e3⟩
theorem uO {n:Nat}{f:Addr}{fd:FuncData} (F:eX K "_law_object" "_law_object" (top 45) f fd) {n0:Nat}{c:Cs}{C_NoBox iE iS:Addr}{dE dS:FuncData}{kE kS:Nat} (M_End:Mk K c.e iE) (G_End:aV P w K mg base (oX P w) kE iE dE ["self","worth"] (Ni c C_NoBox)) (b_End:bB K dE ["self","worth"] []) (g_End:mg "End" = some (.ref c.e)) (hn_End:kE + 1 <= n) (M_Stage:Mk K c.s iS) (G_Stage:aV P w K mg base (oX P w) kS iS dS ["self","price","rows"] (Np c K C_NoBox Pt iY)) (b_Stage:bB K dS ["self","price","rows"] []) (g_Stage:mg "Stage" = some (.ref c.s)) (hn_Stage:kS + 1 <= n) {g__law_object:Addr}{gd__law_object:FuncData} (c__law_object:gF P w K mg base n "_law_object" ["_law_model_here"] (M3 c Pt iY n0) g__law_object gd__law_object):aV P w K mg base eG (n + 1) f fd ["_law_model_here"] (M3 c Pt iY (n0 + 1)):=by
 refine F.ok mL (fun vs H Q E h=>?_) (fun cdv A outer s H vs Q E hr h=>?_)
 ·obtain ⟨a,s,d,m,rfl,_⟩:=h
  rfl
 obtain ⟨a,s,d,m,rfl,to,ok,dn,d4,m12,hTb,q⟩:=h
 have nd:=mL.nd
 refine ⟨_,(aD (eF (bV uH (bJ cO (pv 0) aL (fun _ _=>rfl)) bO (cM _)) (aJ (aR (t7 M_End G_End (hr.mono hn_End) rfl g_End b_End .nil nZ (aA (bJ cO (pv 0) aL (fun _ _=>rfl)) aC)))) bU) (aJ (aR (t7 M_Stage G_Stage (hr.mono hn_Stage) rfl g_Stage b_Stage .nil nZ (aA (bJ cO (pv 0) aL (fun _ _=>rfl)) (aA (cB (ls:=["_law_weight","_law_one"]) (M:=["_law_model_here"]) rfl (bR.of (by rfl)) (NL.of (by rfl)) (zF (bJ cO (pv 0) aL (fun _ _=>rfl))) (fun _ _ _ _=>⟨(gQ (K:=K) (n:=2) rfl rfl (bK (aW (i:=0) (cQ (by rfl)) rfl (Or.inl rfl)) (bK (aW (i:=1) (cQ (by rfl)) rfl (Or.inl rfl)) fP))),cT,(dI (aA (pv 0) (aA (aN c__law_object hr (aA (pv 1) aC)) aC)))⟩)) aC)))))),?_⟩
 cases to with
 | @en _ v h =>
  cases ok with
  | en h0 h9 hm =>
  refine ⟨_,rfl,a,_,_,_,rfl,rfl,bZ.of h,rfl,rfl,_,rfl,?_⟩
  refine iI ?_
  refine ⟨_,rfl,a,_,_,_,rfl,rfl,bZ.of h,rfl,?_⟩
  intro x dx hx hdx ndx
  have nO:aM H (aU (aU H dx (.own x)) x (.ins c.e dx [])):=(aG hdx (.own x)).trans (aG (by rw [aH (Ne.symm ndx)]; exact hx) _)
  refine .inl ⟨x,dx,v,rfl,aB,h0,h9,fun H' k5 st=>⟨rfl,?_⟩⟩
  have sX:Dg x (aU (aU H dx (.own x)) x (.ins c.e dx [])) H':=k5
  exact q x H' (fun b o _ e=>k5 b o (aO e hx) (nO _ _ e)) (fJ.sameX (hTb.same nO) sX aB) (st d m hm)
 | @st _ r p rs ps ys h g lp ly row sub =>
  cases ok with
  | @st _ _ d _ j h0 h9 ne l4 ww oks hk =>
  have hlr:(ps.map V.ref).length=rs.length:=by rw [List.length_map]; exact lp
  refine ⟨_,rfl,a,_,_,_,rfl,rfl,bZ.of h,rfl,rfl,_,rfl,?_⟩
  refine fH ?_
  refine ⟨_,rfl,a,_,_,_,rfl,rfl,bZ.of h,rfl,?_⟩
  refine ⟨_,rfl,a,_,_,_,rfl,rfl,bZ.of h,rfl,r,rfl,⟨_,bZ.of g⟩,fun D hD=>?_⟩
  refine pK (xs:=ps.map V.ref) (fun i τ H'=>∃ v0 v1 qs zs,τ = [v0,v1,some (.ref a)] /\ cD Pt H H' /\ fJ Pt iY lQ H' /\ H' D=some (.lst (qs.map V.ref)) /\ qT c H' qs zs (rs.take i) d j) ⟨none,none,[],[],rfl,(aG hD _).toT,hTb.same (aG hD _),aB,⟨rfl,rfl,(fun i q y t a=>by simp at a),(fun i y t a=>by simp at a)⟩⟩ ?keep ?turn ?done
  case keep =>
   rintro u τ H' hi ⟨v0,v1,qs,zs,rfl,hs,_⟩
   exact bZ.of (hs.get hTb g fun _ z=>nomatch z)
  case turn =>
   rintro u mm v τ H' hm hi hv ⟨v0,v1,qs,zs,rfl,hs,tb,hD',R⟩
   obtain ⟨q1,y,t,er,rfl,h1,to,mem⟩:=Iu lp ly row sub hv
   have kt:∀ b xs,H b=some (.tup xs)->H' b=some (.tup xs):=fun b xs e=>hs.get hTb e fun _ z=>nomatch z
   refine ⟨q1,_,rfl,bZ.of (kt _ _ h1),rfl,_,_,rfl,_,_,rfl,rfl,?_⟩
   refine eZ ?_
   refine ⟨_,rfl,_,rfl,y,t.2,d,j t,rfl,to.keep kt,oks t mem,by omega,by omega,Nat.le_trans (Sd.MK hk t mem) m12,tb,fun x H2 s2 tb2 st2=>?_⟩
   refine ⟨tO,fun T hT=>?_⟩
   have n3:=aG hT (.tup [.int t.1,.ref x])
   have hD2:H2 D=some (.lst (qs.map V.ref)):=s2.get tb hD' fun _ z=>nomatch z
   have hD3:=n3 _ _ hD2
   have R3:=(R.kp (cD.kp s2 tb)).kp (aM.kp n3)
   have nD:∀ (o:HO),aM (aU H2 T (.tup [.int t.1,.ref x])) (aU H2 T (.tup [.int t.1,.ref x])):=fun _=>aM.refl _
   have kt4:∀ (o:HO) b xs,aU H2 T (.tup [.int t.1,.ref x]) b=some (.tup xs)->aU (aU H2 T (.tup [.int t.1,.ref x])) D o b=some (.tup xs):=fun o b xs e=>by rw [aH (bC e hD3 fun z=>nomatch z)]; exact e
   have ki4:∀ (o:HO) b C dx f fs,aU H2 T (.tup [.int t.1,.ref x]) b=some (.ins C dx (f :: fs))->aU (aU H2 T (.tup [.int t.1,.ref x])) D o b=some (.ins C dx (f :: fs)):=fun o b C dx f fs e=>by rw [aH (bC e hD3 fun z=>nomatch z)]; exact e
   have ql:qs.length <= 4:=by rw [R.lp,List.length_take]; omega
   refine bG hm hi hD3 (by rw [List.length_map]; exact aQ (by omega)) ⟨_,_,qs ++ [T],zs ++ [x],rfl,((hs.trans s2).trans n3.toT).upd_new hD _,?_,by rw [aB,List.map_append]; rfl,?_⟩
   ·have:=tb2.same n3
    rcases this with w | ⟨c',w1,w2⟩
    ·exact .inl (by rw [aH (bC w hD3 fun z=>nomatch z)]; exact w)
    ·exact .inr ⟨c',by rw [aH (bC w1 hD3 fun z=>nomatch z)]; exact w1,by rw [aH (bC w2 hD3 fun z=>by unfold u9 at z; exact nomatch z)]; exact w2⟩
   ·rw [bH er]
    exact Ms (MN (kt4 _) (ki4 _) R3) (kt4 _ _ _ aB) (Aa (kt4 _) (ki4 _) (st2.kp (aM.kp n3)))
  case done =>
   rintro τ H1 ⟨v0,v1,qs,zs,rfl,hs,tb,hD',R⟩
   rw [hlr,List.take_length] at R
   intro x dx hx hdx ndx
   have nO:aM H1 (aU (aU H1 dx (.own x)) x (.ins c.s dx [])):=(aG hdx (.own x)).trans (aG (by rw [aH (Ne.symm ndx)]; exact hx) _)
   refine .inl ⟨x,dx,D,p,qs,zs,rs,d,j,rfl,aB,⟨nO _ _ hD',R.kp (aM.kp nO),ne,l4,ww⟩,h0,h9,.inr ⟨m,hk,m12,d4,tb.same nO,fun H' k5 tb5 st5=>⟨rfl,?_⟩⟩⟩
   exact q x H' (fun b o nP e=>k5 b o (aO (hs b o nP e) hx) nP (nO _ _ (hs b o nP e))) tb5 st5
theorem Ai {n:Nat}{f:Addr}{fd:FuncData} (F:eX K "_law_left" "_law_left" (top 41) f fd) {g__law_cell_at:Addr}{gd__law_cell_at:FuncData} (c__law_cell_at:gF P w K mg base n "_law_cell_at" ["_law_script","_law_k"] (Gx K) g__law_cell_at gd__law_cell_at):aV P w K mg base eG (n + 1) f fd ["_law_script","_law_k"] (KH K):=by
 refine F.ok pF (fun vs H Q E h=>?_) (fun cdv A outer s H vs Q E hr h=>?_)
 ·obtain ⟨a,ns,k,rfl,_⟩:=h
  rfl
 obtain ⟨a,ns,k,rfl,hS,hk,q⟩:=h
 have nd:=pF.nd
 refine ⟨_,(aJ (aR (gU (aA (aN c__law_cell_at hr (aA (pv 0) (aA (pv 1) aC))) (aA (bA lR aL (bA iG (bA tM (aN c__law_cell_at hr (aA (pv 0) (aA aL aC))) aL) aL)) aC))))),?_⟩
 refine ⟨_,rfl,_,rfl,a,ns,k,rfl,hS,hk,fun x=>?_⟩
 refine ⟨_,rfl,a,ns,0,rfl,hS,by decide,fun y=>?_⟩
 refine ⟨_,_,rfl,rfl,⟨by decide,by decide⟩,_,_,rfl,rfl,(by show (0:Int) < 2; decide),_,_,rfl,rfl,tO,fun l hl=>?_⟩
 have g1:=Int.emod_nonneg (y / 24) (show (2:Int) ≠ 0 by decide)
 have g2:=Int.emod_lt_of_pos (y / 24) (show (0:Int) < 2 by decide)
 exact q l _ _ hl (by omega) (by omega)
theorem zY {n:Nat}{f:Addr}{fd:FuncData} (F:eX K "_law_draw" "_law_draw" (top 42) f fd) {g__law_mixed:Addr}{gd__law_mixed:FuncData} (c__law_mixed:gF P w K mg base n "_law_mixed" ["_law_cell","_law_k"] Nz g__law_mixed gd__law_mixed):aV P w K mg base eG (n + 1) f fd ["_law_left_here","_law_many"] Jd:=by
 refine F.ok pJ (fun vs H Q E h=>?_) (fun cdv A outer s H vs Q E hr h=>?_)
 ·obtain ⟨l,x,b,m,rfl,_⟩:=h
  rfl
 obtain ⟨l,x,b,m,rfl,hl,m1,m9,b0,b9,q⟩:=h
 have nd:=pJ.nd
 refine ⟨_,(aD (eF (bV uH (bJ dF (pv 0) aL (fun _ _=>rfl)) aL (cM _)) (aD (aX (i:=2) nd rfl (Or.inl rfl) (bA iG (bJ dF (pv 0) aL (fun _ _=>rfl)) (pv 1))) (aD (z7 (bA tM (bJ dF (pv 0) aL (fun _ _=>rfl)) (pv 1)) (zK (pv 0) aL pR)) (aJ (aR (pv 2))))) bU) (aD (z7 (bA fY (bJ dF (pv 0) aL (fun _ _=>rfl)) aL) (zK (pv 0) aL pR)) (aJ (aR (bA iG (aN c__law_mixed hr (aA (bJ dF (pv 0) aL (fun _ _=>rfl)) (aA (bJ dF (pv 0) aL (fun _ _=>rfl)) aC))) (pv 1)))))),?_⟩
 have AT:∀ (H:Hp) (y z:Int) (i:Nat) (v:Int),i < 2->[y,z][i]? = some v->Gk [V.int y,V.int z] (i:Int)=some (V.int v):=fun H y z i v hi e=>by
  match i,hi,e with
  | 0,_,e=>cases e; rfl
  | 1,_,e=>cases e; rfl
 refine ⟨_,rfl,l,_,_,_,rfl,rfl,bM.of hl,rfl,rfl,_,rfl,?_⟩
 refine Ag (fun c0=>?_) (fun c0=>?_)
 ·refine ⟨_,rfl,l,_,_,_,rfl,rfl,bM.of hl,rfl,_,rfl,_,_,rfl,rfl,(by show (0:Int) < m; omega),?_⟩
  refine ⟨_,rfl,l,_,_,_,rfl,rfl,bM.of hl,rfl,_,rfl,_,_,rfl,rfl,⟨by omega,by omega⟩,?_⟩
  refine ⟨_,rfl,l,_,0,0,rfl,rfl,hl,(by rfl),?_⟩
  refine ⟨_,rfl,?_⟩
  exact q _ _ b _ (Int.emod_nonneg _ (by omega)) (Int.emod_lt_of_pos _ (by omega)) b0 (by omega) (KX.put _) aB
 ·refine ⟨_,rfl,l,_,_,_,rfl,rfl,bM.of hl,rfl,_,_,rfl,rfl,?_⟩
  refine ⟨_,rfl,l,_,1,1,rfl,rfl,hl,(by rfl),?_⟩
  have e1:aU H l (.lst ([V.int x,V.int b].set 1 (.int (b + 1)))) l=some (.lst [V.int x,V.int (b + 1)]):=aB
  have k1:KX l H (aU H l (.lst ([V.int x,V.int b].set 1 (.int (b + 1))))):=KX.put _
  generalize aU H l (.lst ([V.int x,V.int b].set 1 (.int (b + 1))))=H1 at e1 k1 ⊢
  refine ⟨_,rfl,l,_,_,_,rfl,rfl,bM.of e1,rfl,_,rfl,l,_,_,_,rfl,rfl,bM.of e1,rfl,_,_,rfl,by omega,by omega,fun j j0 j9=>?_⟩
  refine ⟨_,rfl,_,_,rfl,rfl,(by show (0:Int) < m; omega),?_⟩
  exact q _ _ (b + 1) _ (Int.emod_nonneg _ (by omega)) (Int.emod_lt_of_pos _ (by omega)) (by omega) (by omega) k1 e1
theorem zE {n:Nat}{f:Addr}{fd:FuncData} (F:eX K "_law_ends" "_law_ends" (top 43) f fd) {n0:Nat}{g__law_ends:Addr}{gd__law_ends:FuncData} (c__law_ends:gF P w K mg base n "_law_ends" ["_law_stand"] (Mr n0) g__law_ends gd__law_ends) (z_sum:mg "sum" = none):aV P w K mg base eG (n + 1) f fd ["_law_stand"] (Mr (n0 + 1)):=by
 refine F.ok pQ (fun vs H Q E h=>?_) (fun cdv A outer s H vs Q E hr h=>?_)
 ·obtain ⟨a,s,d,m,rfl,_⟩:=h
  rfl
 obtain ⟨a,s,d,m,rfl,to,ok,dn,q⟩:=h
 have nd:=pQ.nd
 refine ⟨_,(aD (eF (bV uH (bJ cO (pv 0) aL (fun _ _=>rfl)) bO (cM _)) (aJ (aR aL)) bU) (aJ (aR (aZ (lC rfl) rfl z_sum qI (aA (cB (ls:=["_law_weight","_law_one"]) (M:=["_law_stand"]) rfl (bR.of (by rfl)) (NL.of (by rfl)) (zF (bJ cO (pv 0) aL (fun _ _=>rfl))) (fun _ _ _ _=>⟨(gQ (K:=K) (n:=2) rfl rfl (bK (aW (i:=0) (cQ (by rfl)) rfl (Or.inl rfl)) (bK (aW (i:=1) (cQ (by rfl)) rfl (Or.inl rfl)) fP))),cT,(aN c__law_ends hr (aA (pv 1) aC))⟩)) aC))))),?_⟩
 cases to with
 | @en _ v h =>
  refine ⟨_,rfl,a,_,_,_,rfl,rfl,bZ.of h,rfl,rfl,_,rfl,?_⟩
  refine iI ?_
  exact q H (aM.refl _)
 | @st _ r p rs ps ys h g lp ly row sub =>
  cases ok with
  | @st _ _ d _ j h0 h9 ne l4 ww oks hk =>
  have hlr:(ps.map V.ref).length=rs.length:=by rw [List.length_map]; exact lp
  refine ⟨_,rfl,a,_,_,_,rfl,rfl,bZ.of h,rfl,rfl,_,rfl,?_⟩
  refine fH ?_
  refine ⟨_,rfl,a,_,_,_,rfl,rfl,bZ.of h,rfl,r,rfl,⟨_,bZ.of g⟩,fun D hD=>?_⟩
  refine pK (xs:=ps.map V.ref) (fun i τ H'=>∃ v0 v1,τ = [v0,v1,some (.ref a)] /\ aM H H' /\ H' D=some (.lst (((rs.take i).map fun r=>Sd.nE (d + 1) r.2).map V.int))) ⟨none,none,rfl,aG hD _,aB⟩ ?keep ?turn ?done
  case keep =>
   rintro u τ H' hi ⟨v0,v1,rfl,hs,_⟩
   exact bZ.of (hs _ _ g)
  case turn =>
   rintro u mm v τ H' hm hi hv ⟨v0,v1,rfl,hs,hD'⟩
   obtain ⟨q1,y,t,er,rfl,h1,to,mem⟩:=Iu lp ly row sub hv
   refine ⟨q1,_,rfl,bZ.of (hs _ _ h1),rfl,_,_,rfl,_,_,rfl,rfl,?_⟩
   refine eZ ?_
   refine ⟨_,rfl,y,t.2,d,j t,rfl,to.same hs,oks t mem,by omega,fun H2 s2=>?_⟩
   refine bG hm hi (s2 _ _ hD') (by rw [List.length_map,List.length_map,List.length_take]; exact aQ (by omega)) ⟨_,_,rfl,(hs.trans s2).upd_new hD _,?_⟩
   rw [aB,bH er,List.map_append,List.map_append]
   rfl
  case done =>
   rintro τ H1 ⟨v0,v1,rfl,hs,hD'⟩
   rw [hlr,List.take_length] at hD'
   exact ⟨D,_,rfl,bM.of hD',q H1 hs⟩
theorem wU {n:Nat}{f:Addr}{fd:FuncData}{dT:Addr} (F:KR K dT "_law_model" "_law_model" (top 44) f fd) {n0:Nat}{g__law_model:Addr}{gd__law_model:FuncData} (c__law_model:gF P w K mg base n "_law_model" ["_law_left_here","_law_level","_law_most"] (Mv n0) g__law_model gd__law_model) {g__law_ends:Addr}{gd__law_ends:FuncData} (c__law_ends:gF P w K mg base n "_law_ends" ["_law_stand"] (Mr 6) g__law_ends gd__law_ends) {g__law_draw:Addr}{gd__law_draw:FuncData} (c__law_draw:gF P w K mg base n "_law_draw" ["_law_left_here","_law_many"] Jd g__law_draw gd__law_draw) (z_tuple:mg "tuple" = none) (z_range:mg "range" = none) (z_sum:mg "sum" = none) (z_min:mg "min" = none) (z_int:mg "int" = none):aV P w K mg base eG (n + 1) f fd ["_law_left_here","_law_level","_law_most"] (Mv (n0 + 1)):=by
 refine F.ok oM (fun vs H Q E h=>?_) (fun cdv A outer s H vs Q E hr h=>?_)
 ·obtain ⟨l,x,b,lev,most,n,rfl,_⟩:=h
  rfl
 obtain ⟨l,x,b,lev,most,n,rfl,hl,hlev,n4,nn,m1,m12,b0,b9,q⟩:=h
 have nd:=oM.nd
 refine ⟨_,(aD (eF (PW.pt (iU (bV uH (pv 1) aL (cM _)) (gC (bV uH (aN c__law_draw hr (aA (pv 0) (aA (bJ dF (gU (aA aL (aA aL aC))) (cU HR rfl z_int Fb (aA (Fg Bu (pv 1) aL (cM _)) aC)) (fun _ _=>rfl)) aC))) aL (cM _))))) (aJ (aR (dI (aA bO (aA (aN c__law_draw hr (aA (pv 0) (aA (bJ dF (gU (aA aL (aA aL (aA (bA fY (bA LK aL aL) aL) aC)))) (aN c__law_draw hr (aA (pv 0) (aA aL aC))) (fun _ _=>rfl)) aC))) aC))))) bU) (aD (aX (i:=3) nd rfl (Or.inl rfl) (aN c__law_draw hr (aA (pv 0) (aA (bJ dF (gU (aA aL (aA aL (aA aL (aA (bA fY (bA LK aL aL) aL) aC))))) (aN c__law_draw hr (aA (pv 0) (aA aL aC))) (fun _ _=>rfl)) aC)))) (aD (aX (i:=4) nd rfl (Or.inl rfl) (gU aC)) (aD (aX (i:=5) nd rfl (Or.inl rfl) (bA fY aL (aN c__law_draw hr (aA (pv 0) (aA (aZ (Hz rfl) rfl z_min QJ (aA aL (aA (pv 2) aC))) aC))))) (aD (jD PassesOwn.never rfl (iD rfl z_range (aA (pv 5) aC)) (aW (i:=6) nd rfl (Or.inl rfl)) (aD (aX (i:=7) nd rfl (Or.inl rfl) (bA fY aL (aN c__law_draw hr (aA (pv 0) (aA (bJ dF (gU (aA aL (aA aL aC))) (aN c__law_draw hr (aA (pv 0) (aA aL aC))) (fun _ _=>rfl)) aC))))) (aD (aX (i:=8) nd rfl (Or.inl rfl) (bA lR (bA lR (pv 2) (aZ (lC rfl) rfl z_sum qI (aA (cB (ls:=["_law_one"]) (M:=["_law_left_here","_law_level","_law_most","_law_price","_law_rows","_law_many","_law_row","_law_weight","_law_room"]) rfl (bR.of (by rfl)) (NL.of (by rfl)) (cA (pv 4)) (fun _ _ _ _=>⟨(aW (i:=0) (cQ (by rfl)) rfl (Or.inl rfl)),cT,(aN c__law_ends hr (aA (bJ (jG (K:=K) rfl) (pv 0) aL (fun _ _=>rfl)) aC))⟩)) aC))) (bA lR (bA lR (pv 5) (pv 6)) aL))) (aJ (eU (lV PySem.F.plainAttrs_list PySem.F.slot_list_append PySem.F.type_list_append fC (pv 4) (aA (dI (aA (pv 7) (aA (aN c__law_model hr (aA (pv 0) (aA (bA fY (pv 1) aL) (aA (pv 8) aC)))) aC))) aC))))))) (aJ (aR (dI (aA bO (aA (pv 3) (aA (cU (d8 (K:=K) rfl) rfl z_tuple gP (aA (pv 4) aC)) aC))))))))))),?_⟩
 have d2:=Ju n
 refine ⟨_,rfl,rfl,_,rfl,?_⟩
 refine Ag (fun _=>?_) (fun c0=>?_)
 ·refine iI ?_
  refine ⟨_,rfl,_,_,rfl,rfl,p9,_,_,rfl,rfl,RM,fun lE hlE=>?_⟩
  have mE:=aG hlE (.lst [V.int 10,V.int 1000,V.int (10 ^ (9:Int).toNat + 1)])
  have elE:aU H lE (.lst [V.int 10,V.int 1000,V.int (10 ^ (9:Int).toNat + 1)]) lE=some (.lst [V.int 10,V.int 1000,V.int (10 ^ (9:Int).toNat + 1)]):=aB
  have hLaE:=mE _ _ hl
  have nlE:lE ≠ l:=fun z=>by rw [z,hl] at hlE; cases hlE
  have kmE:KX l H (aU H lE (.lst [V.int 10,V.int 1000,V.int (10 ^ (9:Int).toNat + 1)])):=KX.of mE
  generalize aU H lE (.lst [V.int 10,V.int 1000,V.int (10 ^ (9:Int).toNat + 1)])=GE at mE elE hLaE kmE ⊢
  refine ⟨_,rfl,l,x,b,3,rfl,hLaE,by decide,by decide,by omega,by omega,fun iE xE bE HE i0E i1E b0E b1E kkE hLE=>?_⟩
  have el2E:=kkE _ _ nlE elE
  obtain ⟨vE,atE,uE,evE,u1E,u9E⟩:=CQ (xs:=[V.int 10,V.int 1000,V.int (10 ^ (9:Int).toNat + 1)]) (P:=fun v=>∃ u:Int,v = .int u /\ 1 <= u /\ u <= 1000000001) (fun v hv=>by
   simp only [List.mem_cons,List.not_mem_nil,or_false] at hv
   rcases hv with rfl | rfl | rfl
   ·exact ⟨_,rfl,by decide,by decide⟩
   ·exact ⟨_,rfl,by decide,by decide⟩
   ·exact ⟨_,rfl,by decide,by decide⟩
   ) i0E (by show iE < 3; exact i1E)
  subst evE
  refine ⟨lE,_,_,_,rfl,rfl,bM.of el2E,atE,l,xE,bE,uE,rfl,hLE,by omega,by omega,by omega,by omega,fun rE yE cE IE r0E r1E c0E c1E kjE hME=>?_⟩
  have ktE:=(kmE.trans kkE).trans kjE
  refine ⟨tO,fun t ht=>?_⟩
  have nt:=aG ht (.tup [.str "end",.int rE])
  exact q t (.en rE) _ yE cE ((KX.refl l H).trans (ktE.trans (KX.of nt))) (nt _ _ hME) c0E (by omega) (.en aB) (.en r0E (by omega) (by omega))
 have n0':n ≠ 0:=fun e=>c0 (decide_eq_true (by rw [hlev,e]; rfl))
 obtain ⟨n,rfl⟩ : ∃ n',n=n' + 1:=⟨n - 1,by omega⟩
 have dd:dN (n + 1)=4 + 4 * (2 + dN n):=rfl
 have d2':=Ju n
 refine ⟨_,rfl,tO,fun la hla=>?_⟩
 have ma:=aG hla (.lst [V.int 9,V.int 2])
 have ela:aU H la (.lst [V.int 9,V.int 2]) la=some (.lst [V.int 9,V.int 2]):=aB
 have hLa:=ma _ _ hl
 have kma:KX l H (aU H la (.lst [V.int 9,V.int 2])):=KX.of ma
 generalize aU H la (.lst [V.int 9,V.int 2])=Ha at ma ela hLa kma ⊢
 refine ⟨_,rfl,_,_,rfl,rfl,.inr ⟨_,rfl,?_⟩⟩
 obtain ⟨va,ata,ua,rfl,ua1,ua9⟩ : ∃ v,Gk [V.int 9,V.int 2] (if decide (lev > 0)=true then 1 else 0)=some v /\ ∃ u:Int,v = .int u /\ 1 <= u /\ u <= 9:=by
  split
  ·exact ⟨_,rfl,2,rfl,by decide,by decide⟩
  ·exact ⟨_,rfl,9,rfl,by decide,by decide⟩
 refine ⟨la,_,_,_,rfl,rfl,bM.of ela,ata,l,x,b,ua,rfl,hLa,by omega,by omega,by omega,by omega,fun ra xa ba H1 ra0 ra1 ba0 ba1 ka hL1=>?_⟩
 have kA:=kma.trans ka
 refine ⟨rfl,_,rfl,?_⟩
 refine Ag (fun _=>?_) (fun _=>?_)
 ·
  refine ⟨_,rfl,_,_,rfl,rfl,p9,_,_,rfl,rfl,RM,fun lF hlF=>?_⟩
  have mF:=aG hlF (.lst [V.int 10,V.int 1000,V.int (10 ^ (9:Int).toNat + 1)])
  have elF:aU H1 lF (.lst [V.int 10,V.int 1000,V.int (10 ^ (9:Int).toNat + 1)]) lF=some (.lst [V.int 10,V.int 1000,V.int (10 ^ (9:Int).toNat + 1)]):=aB
  have hLaF:=mF _ _ hL1
  have nlF:lF ≠ l:=fun z=>by rw [z,hL1] at hlF; cases hlF
  have kmF:KX l H1 (aU H1 lF (.lst [V.int 10,V.int 1000,V.int (10 ^ (9:Int).toNat + 1)])):=KX.of mF
  generalize aU H1 lF (.lst [V.int 10,V.int 1000,V.int (10 ^ (9:Int).toNat + 1)])=GF at mF elF hLaF kmF ⊢
  refine ⟨_,rfl,l,xa,ba,3,rfl,hLaF,by decide,by decide,by omega,by omega,fun iF xF bF HF i0F i1F b0F b1F kkF hLF=>?_⟩
  have el2F:=kkF _ _ nlF elF
  obtain ⟨vF,atF,uF,evF,u1F,u9F⟩:=CQ (xs:=[V.int 10,V.int 1000,V.int (10 ^ (9:Int).toNat + 1)]) (P:=fun v=>∃ u:Int,v = .int u /\ 1 <= u /\ u <= 1000000001) (fun v hv=>by
   simp only [List.mem_cons,List.not_mem_nil,or_false] at hv
   rcases hv with rfl | rfl | rfl
   ·exact ⟨_,rfl,by decide,by decide⟩
   ·exact ⟨_,rfl,by decide,by decide⟩
   ·exact ⟨_,rfl,by decide,by decide⟩
   ) i0F (by show iF < 3; exact i1F)
  subst evF
  refine ⟨lF,_,_,_,rfl,rfl,bM.of el2F,atF,l,xF,bF,uF,rfl,hLF,by omega,by omega,by omega,by omega,fun rF yF cF IF r0F r1F c0F c1F kjF hMF=>?_⟩
  have ktF:=(kmF.trans kkF).trans kjF
  refine ⟨tO,fun t ht=>?_⟩
  have nt:=aG ht (.tup [.str "end",.int rF])
  exact q t (.en rF) _ yF cF (kA.trans (ktF.trans (KX.of nt))) (nt _ _ hMF) c0F (by omega) (.en aB) (.en r0F (by omega) (by omega))
 refine ⟨_,rfl,_,_,rfl,rfl,p9,_,_,rfl,rfl,Vc (by decide:4 <= 1000),fun lP hlP=>?_⟩
 have mP:=aG hlP (.lst [V.int 1,V.int 6,V.int 6,V.int (10 ^ (9:Int).toNat + 1)])
 have elP:aU H1 lP (.lst [V.int 1,V.int 6,V.int 6,V.int (10 ^ (9:Int).toNat + 1)]) lP=some (.lst [V.int 1,V.int 6,V.int 6,V.int (10 ^ (9:Int).toNat + 1)]):=aB
 have hLaP:=mP _ _ hL1
 have nlP:lP ≠ l:=fun z=>by rw [z,hL1] at hlP; cases hlP
 have kmP:KX l H1 (aU H1 lP (.lst [V.int 1,V.int 6,V.int 6,V.int (10 ^ (9:Int).toNat + 1)])):=KX.of mP
 generalize aU H1 lP (.lst [V.int 1,V.int 6,V.int 6,V.int (10 ^ (9:Int).toNat + 1)])=GP at mP elP hLaP kmP ⊢
 refine ⟨_,rfl,l,xa,ba,4,rfl,hLaP,by decide,by decide,by omega,by omega,fun iP xP bP HP i0P i1P b0P b1P kkP hLP=>?_⟩
 have el2P:=kkP _ _ nlP elP
 obtain ⟨vP,atP,uP,evP,u1P,u9P⟩:=CQ (xs:=[V.int 1,V.int 6,V.int 6,V.int (10 ^ (9:Int).toNat + 1)]) (P:=fun v=>∃ u:Int,v = .int u /\ 1 <= u /\ u <= 1000000001) (fun v hv=>by
  simp only [List.mem_cons,List.not_mem_nil,or_false] at hv
  rcases hv with rfl | rfl | rfl | rfl
  ·exact ⟨_,rfl,by decide,by decide⟩
  ·exact ⟨_,rfl,by decide,by decide⟩
  ·exact ⟨_,rfl,by decide,by decide⟩
  ·exact ⟨_,rfl,by decide,by decide⟩
  ) i0P (by show iP < 4; exact i1P)
 subst evP
 refine ⟨lP,_,_,_,rfl,rfl,bM.of el2P,atP,l,xP,bP,uP,rfl,hLP,by omega,by omega,by omega,by omega,fun rP yP cP IP r0P r1P c0P c1P kjP hMP=>?_⟩
 have ktP:=(kmP.trans kkP).trans kjP
 have kP:=kA.trans ktP
 refine ⟨Nat.zero_le _,fun R hR=>?_⟩
 have nR:=aG hR (.lst [])
 have hL3:=nR _ _ hMP
 have hR0:H R=none:=by
  cases e:H R with
  | none=>rfl
  | some o =>
   by_cases z:R=l
   ·rw [z,hMP] at hR; cases hR
   ·rw [kP _ _ z e] at hR; cases hR
 have nRl:R ≠ l:=fun z=>by rw [z,hMP] at hR; cases hR
 have hR3:aU IP R (.lst []) R=some (.lst (([]:List Addr).map V.ref)):=aB
 have kR:KX l H (aU IP R (.lst [])):=kP.trans (KX.of nR)
 generalize aU IP R (.lst [])=H3 at nR hL3 hR3 kR ⊢
 obtain ⟨mn,hmn,mn1,mn4,mnm⟩ : ∃ mn:Int,(if most < 4 then most else 4)=mn /\ 1 <= mn /\ mn <= 4 /\ mn <= most:=by
  split
  ·exact ⟨_,rfl,by omega,by omega,by omega⟩
  ·exact ⟨_,rfl,by omega,by omega,by omega⟩
 refine ⟨_,rfl,_,rfl,_,_,rfl,?_⟩
 rw [hmn]
 refine ⟨l,yP,cP,mn,rfl,hL3,by omega,by omega,by omega,by omega,fun rm xm bm H4 rm0 rm1 bm0 bm1 km hL4=>?_⟩
 have hR4:=km _ _ nRl hR3
 have kR4:=kR.trans km
 refine ⟨_,_,rfl,rfl,?_⟩
 obtain ⟨M,rfl⟩ : ∃ M:Nat,rm=(M:Int) - 1:=⟨(1 + rm).toNat,by omega⟩
 refine ⟨_,rfl,(M:Int),congrArg (fun z=>[V.int z]) (show 1 + ((M:Int) - 1)=(M:Int) by omega),by omega,by omega,?_⟩
 refine qX (n:=(M:Int).toNat) (fun i σ H'=>∃ v6 v7 v8 ps ys rs x' b',σ = [some (.ref l),some (.int lev),some (.int most),some (.int rP),some (.ref R),some (.int (1 + ((M:Int) - 1))),v6,v7,v8] /\ KX l H H' /\ H' l=some (.lst [.int x',.int b']) /\ 0 <= b' /\ b' <= b + 4 + (i:Int) * (2 + dN n) /\ H' R=some (.lst (ps.map V.ref)) /\ vH H' ps ys rs /\ rs.length=i /\ (∀ r ∈ rs,1 <= r.1 /\ r.1 <= 1000) /\ (∀ r ∈ rs,Sd.Ok r.2 n (Sd.nE (n + 1) r.2).toNat) /\ (rs.map fun r=>Sd.nE (n + 1) r.2).sum + ((M:Int) - i) <= most)
  ⟨none,none,none,[],[],[],xm,bm,rfl,kR4,hL4,bm0,by simp; omega,hR4,⟨rfl,rfl,(fun i q y t a=>by simp at a),(fun i y t a=>by simp at a)⟩,rfl,(fun _ h=>nomatch h),(fun _ h=>nomatch h),by simp; omega⟩ ?turn ?done
 case turn =>
  rintro i σ H5 hi ⟨v6,v7,v8,ps,ys,rs,x5,b5,rfl,k5,hL5,b50,b59,hR5,tw,rl,rw_,ro,rsum⟩
  have hiM:i < M:=by omega
  have im:((i:Int) + 1) * (2 + dN n)=(i:Int) * (2 + dN n) + (2 + dN n):=by rw [Int.add_mul,Int.one_mul]
  have im4:((i:Int) + 1) * (2 + dN n) <= 4 * (2 + dN n):=Int.mul_le_mul_of_nonneg_right (by omega) (by omega)
  refine ⟨_,rfl,tO,fun lW hlW=>?_⟩
  have mW:=aG hlW (.lst [V.int 3,V.int 1000])
  have elW:aU H5 lW (.lst [V.int 3,V.int 1000]) lW=some (.lst [V.int 3,V.int 1000]):=aB
  have hLaW:=mW _ _ hL5
  have nlW:lW ≠ l:=fun z=>by rw [z,hL5] at hlW; cases hlW
  have kmW:KX l H5 (aU H5 lW (.lst [V.int 3,V.int 1000])):=KX.of mW
  generalize aU H5 lW (.lst [V.int 3,V.int 1000])=GW at mW elW hLaW kmW ⊢
  refine ⟨_,rfl,l,x5,b5,2,rfl,hLaW,by decide,by decide,by omega,by omega,fun iW xW bW HW i0W i1W b0W b1W kkW hLW=>?_⟩
  have el2W:=kkW _ _ nlW elW
  obtain ⟨vW,atW,uW,evW,u1W,u9W⟩:=CQ (xs:=[V.int 3,V.int 1000]) (P:=fun v=>∃ u:Int,v = .int u /\ 1 <= u /\ u <= 1000) (fun v hv=>by
   simp only [List.mem_cons,List.not_mem_nil,or_false] at hv
   rcases hv with rfl | rfl
   ·exact ⟨_,rfl,by decide,by decide⟩
   ·exact ⟨_,rfl,by decide,by decide⟩
   ) i0W (by show iW < 2; exact i1W)
  subst evW
  refine ⟨lW,_,_,_,rfl,rfl,bM.of el2W,atW,l,xW,bW,uW,rfl,hLW,by omega,by omega,by omega,by omega,fun rW yW cW IW r0W r1W c0W c1W kjW hMW=>?_⟩
  have ktW:=(kmW.trans kkW).trans kjW
  refine ⟨_,_,rfl,rfl,?_⟩
  have hRW:=ktW _ _ nRl hR5
  have kt5:∀ b xs,H5 b=some (.tup xs)->IW b=some (.tup xs):=fun b xs e=>ktW _ _ (bC e hL5 fun z=>nomatch z) e
  have twW:=tw.keep kt5
  have hlr:(ps.map V.ref).length=rs.length:=by rw [List.length_map]; exact tw.lp
  refine ⟨_,rfl,_,rfl,R,rfl,⟨_,bM.of hRW⟩,fun D hD=>?_⟩
  refine bY (xs:=ps.map V.ref) (fun u τ H'=>∃ v0,τ = [v0,some (.ref l),some (.int lev),some (.int most),some (.int rP),some (.ref R),some (.int (1 + ((M:Int) - 1))),some (.int (0 + (i:Int))),some (.int (1 + rW)),v8] /\ aM IW H' /\ H' D=some (.lst (((rs.take u).map fun r=>Sd.nE (n + 1) r.2).map V.int))) ⟨none,rfl,aG hD _,aB⟩ ?keep2 ?turn2 ?done2
  case keep2 =>
   rintro u τ H' hu ⟨v0,rfl,hs,_⟩
   exact bM.of (hs _ _ hRW)
  case turn2 =>
   rintro u mm v τ H' hmm hu hv ⟨v0,rfl,hs,hD'⟩
   obtain ⟨q1,y,t,er,rfl,h1,to,mem⟩:=Iu twW.lp twW.ly twW.row twW.sub hv
   refine Bt ?_
   refine ⟨_,rfl,q1,_,_,_,rfl,rfl,bZ.of (hs _ _ h1),rfl,y,t.2,n,_,rfl,to.same hs,ro t mem,by omega,fun H2 s2=>?_⟩
   refine bG hmm hu (s2 _ _ hD') (by rw [List.length_map,List.length_map,List.length_take]; exact aQ (by omega)) ⟨_,rfl,(hs.trans s2).upd_new hD _,?_⟩
   rw [aB,bH er,List.map_append,List.map_append]
   rfl
  case done2 =>
  rintro τ H6 ⟨v0,rfl,hs6,hD6⟩
  rw [hlr,List.take_length] at hD6
  refine ⟨D,_,rfl,bM.of hD6,_,_,rfl,rfl,_,rfl,_,rfl,_,_,rfl,rfl,_,_,rfl,rfl,_,_,rfl,rfl,?_⟩
  have hL6:=hs6 _ _ hMW
  have hR6:=hs6 _ _ hRW
  have rm1':(1:Int) <= most - (rs.map fun r=>Sd.nE (n + 1) r.2).sum - (1 + ((M:Int) - 1) - (0 + (i:Int)) - 1):=by omega
  have snn:0 <= (rs.map fun r=>Sd.nE (n + 1) r.2).sum:=Jb (fun z hz=>by obtain ⟨r,_,rfl⟩:=List.mem_map.mp hz; exact Sd.xD _ _)
  refine ⟨_,rfl,.inl ⟨rfl,_,bM.of hR6⟩,_,rfl,_,rfl,_,rfl,_,_,rfl,rfl,_,rfl,l,yW,cW,_,_,n,rfl,hL6,by omega,by omega,by omega,rm1',by omega,by omega,by omega,fun t s H7 x7 b7 k7 hL7 b70 b79 to7 ok7=>?_⟩
  refine ⟨tO,fun T hT=>?_⟩
  have n8:=aG hT (.tup [.int (1 + rW),.ref t])
  have hR7:=k7 _ _ nRl hR6
  have hR8:=n8 _ _ hR7
  have pl:ps.length=i:=by rw [tw.lp,rl]
  have tR:∀ b xs,aU H7 T (.tup [.int (1 + rW),.ref t]) b=some (.tup xs)->aU (aU H7 T (.tup [.int (1 + rW),.ref t])) R (.lst (ps.map V.ref ++ [.ref T])) b=some (.tup xs):=fun b xs e=>by rw [aH (bC e hR8 fun w=>nomatch w)]; exact e
  have tw8:=((twW.keep fun b xs e=>n8 _ _ (k7 _ _ (bC (hs6 _ _ e) hL6 fun w=>nomatch w) (hs6 _ _ e))).keep tR).snoc (t:=(1 + rW,s)) (tR _ _ aB) ((to7.same n8).keep tR)
  have okE:Sd.Ok s n (Sd.nE (n + 1) s).toNat:=Sd.VF ok7 (by have:=Sd.xD (n + 1) s; omega) (Sd.Xd ok7)
  have le7:=ok7.nE (n + 1) (by omega)
  refine ⟨R,_,_,rfl,rfl,hR8,by rw [List.length_map,pl]; exact aQ (by omega),?_⟩
  refine ⟨_,_,_,ps ++ [T],ys ++ [t],rs ++ [(1 + rW,s)],x7,b7,rfl,fun b o nb e=>?_,?_,b70,by push_cast; omega,by rw [aB,List.map_append]; rfl,tw8,by rw [List.length_append,rl]; rfl,fun z hz=>?_,fun z hz=>?_,?_⟩
  ·have hb:b ≠ R:=fun w=>by rw [w,hR0] at e; cases e
   rw [aH hb]
   exact n8 _ _ (k7 _ _ nb (hs6 _ _ (ktW _ _ nb (k5 b o nb e))))
  ·rw [aH (Ne.symm nRl)]
   exact n8 _ _ hL7
  ·rcases List.mem_append.mp hz with w | w
   ·exact rw_ z w
   ·rw [List.mem_singleton.mp w]
    exact ⟨by show 1 <= 1 + rW; omega,by show 1 + rW <= 1000; omega⟩
  ·rcases List.mem_append.mp hz with w | w
   ·exact ro z w
   ·rw [List.mem_singleton.mp w]
    exact okE
  ·rw [List.map_append,List.sum_append]
   show _ + (Sd.nE (n + 1) s + 0) + _ <= _
   push_cast
   omega
 case done =>
  rintro σ H5 ⟨v6,v7,v8,ps,ys,rs,x5,b5,rfl,k5,hL5,b50,b59,hR5,tw,rl,rw_,ro,rsum⟩
  rw [show (M:Int).toNat=M by omega] at rl b59
  have im4:(M:Int) * (2 + dN n) <= 4 * (2 + dN n):=Int.mul_le_mul_of_nonneg_right (by omega) (by omega)
  refine ⟨_,rfl,_,rfl,R,_,rfl,.inl ⟨bM.of hR5,fun t ht=>?_⟩⟩
  have n5:=aG ht (.tup (ps.map V.ref))
  refine ⟨RM,fun r hr1=>?_⟩
  have n6:=aG hr1 (.tup [.str "stage",.int rP,.ref t])
  have tw6:=(tw.same n5).same n6
  have snat:((rs.map fun r=>(Sd.nE (n + 1) r.2).toNat).sum:Int)=(rs.map fun r=>Sd.nE (n + 1) r.2).sum:=Gb rs
  refine q r (.st rP rs) _ x5 b5 (k5.trans (KX.of (n5.trans n6))) (n6 _ _ (n5 _ _ hL5)) b50 (by omega) (.st aB (n6 _ _ aB) tw6.lp tw6.ly tw6.row tw6.sub) (.st (f:=fun r=>(Sd.nE (n + 1) r.2).toNat) r0P (by omega) (fun e=>by rw [e] at rl; have:(0:Nat)=M:=rl; omega) (by omega) rw_ ro (by omega))
theorem Bx {pos:Pos}{qual:Str}{H:Hp}{a:Addr}{xs zs:List V} (t:fJ Pt pos qual H) (e:H a=some (.lst xs)):fJ Pt pos qual (aU H a (.lst zs)):=by
 rcases t with t | ⟨c,t,u⟩
 ·exact .inl (by rw [aH (bC t e fun z=>nomatch z)]; exact t)
 ·exact .inr ⟨c,by rw [aH (bC t e fun z=>nomatch z)]; exact t,by rw [aH (bC u e fun z=>nomatch z)]; exact u⟩
theorem vG {n:Nat}{f:Addr}{fd:FuncData} (F:eX K "_law_models" "_law_models" (top 46) f fd) {ds_md:List Value} (v_md:bI [.int 0,.int 12] ds_md) {g__law_cell_at:Addr}{gd__law_cell_at:FuncData} (c__law_cell_at:gF P w K mg base n "_law_cell_at" ["_law_script","_law_k"] (Gx K) g__law_cell_at gd__law_cell_at) {g__law_model:Addr}{gd__law_model:FuncData} (c__law_model:gF P w K mg base n "_law_model" ["_law_left_here","_law_level","_law_most"] (Mv 5) g__law_model gd__law_model) {g__law_left:Addr}{gd__law_left:FuncData} (c__law_left:gF P w K mg base n "_law_left" ["_law_script","_law_k"] (KH K) g__law_left gd__law_left) (b_md:bB K gd__law_model ["_law_left_here","_law_level","_law_most"] ds_md) (z_range:mg "range" = none):aV P w K mg base eG (n + 1) f fd ["_law_script","_law_many"] (Nt K):=by
 refine F.ok mK (fun vs H Q E h=>?_) (fun cdv A outer s H vs Q E hr h=>?_)
 ·obtain ⟨a,ns,m,rfl,_⟩:=h
  rfl
 obtain ⟨a,ns,m,rfl,hS,m1,m6,q⟩:=h
 have nd:=mK.nd
 refine ⟨_,(aD (aX (i:=2) nd rfl (Or.inr rfl) (aN c__law_left hr (aA (pv 0) (aA aL aC)))) (aD (aX (i:=3) nd rfl (Or.inr rfl) (cB (ls:=["_law_k"]) (M:=["_law_script","_law_many","_law_left_here","_law_models_here"]) rfl (bR.of (by rfl)) (NL.of (by rfl)) (iD rfl z_range (aA (pv 1) aC)) (fun _ _ _ _=>⟨(aW (i:=0) (cQ (by rfl)) rfl (Or.inl rfl)),cT,(zN c__law_model.ok hr rfl c__law_model.at_ c__law_model.kp b_md v_md c7 (aA (pv 3) aC))⟩))) (aD (eF (bV uH (bA iG (bA tM (aN c__law_cell_at hr (aA (pv 0) (aA aL aC))) aL) aL) aL (cM _)) (aJ (aX (i:=3) nd rfl (Or.inr rfl) (cB (ls:=["_law_k"]) (M:=["_law_script","_law_many","_law_left_here","_law_models_here"]) rfl (bR.of (by rfl)) (NL.of (by rfl)) (iD rfl z_range (aA (pv 1) aC)) (fun _ _ _ _=>⟨(aW (i:=0) (cQ (by rfl)) rfl (Or.inl rfl)),cT,(bJ (pP (K:=K) rfl) (gU (aA (bJ (pP (K:=K) rfl) (pv 4) (pv 0) (fun _ _=>rfl)) (aA (bJ (pP (K:=K) rfl) (pv 4) aL (fun _ _=>rfl)) aC))) (bA iG (pv 0) aL) (fun _ _=>rfl))⟩)))) bU) (aJ (aR (pv 3)))))),?_⟩
 refine ⟨_,rfl,a,ns,1,rfl,hS,by decide,fun l x b hl b0 b1=>?_⟩
 have n1:=aG hl (.lst [.int x,.int b])
 have e1:aU H l (.lst [.int x,.int b]) l=some (.lst [.int x,.int b]):=aB
 generalize aU H l (.lst [.int x,.int b])=H1 at n1 e1 ⊢
 have d4:dN 4=1532:=by decide
 refine ⟨_,rfl,m,rfl,by omega,by omega,fun D hD=>?_⟩
 have nDl:D ≠ l:=fun z=>by rw [z,e1] at hD; cases hD
 refine lO (n:=m.toNat) (fun i τ H'=>∃ v0 ts x' b',τ = [v0,some (.ref a),some (.int m),some (.ref l),none] /\ KX l H1 H' /\ H' l=some (.lst [.int x',.int b']) /\ 0 <= b' /\ b' <= 1 + (i:Int) * 1532 /\ H' D=some (.lst (ts.map V.ref)) /\ (∀ t ∈ ts,Md H' t) /\ ts.length=i) ⟨none,[],x,b,rfl,KX.of (aG hD _),aG hD _ _ _ e1,b0,by simp; omega,aB,(fun _ h=>nomatch h),rfl⟩ ?turn ?done
 case turn =>
  rintro i mm τ H2 hmm hi ⟨v0,ts,x2,b2,rfl,k2,hL2,b20,b21,hD2,hmd,tl⟩
  have i6:(i:Int) * 1532 <= 5 * 1532:=Int.mul_le_mul_of_nonneg_right (by omega) (by decide)
  refine Bt ?_
  refine ⟨_,rfl,l,x2,b2,0,12,4,rfl,hL2,by decide,by decide,by decide,by decide,by decide,b20,by rw [d4]; omega,fun t s H3 x3 b3 k3 hL3 b30 b31 to ok=>?_⟩
  rw [d4] at b31
  have hD3:=k3 _ _ nDl hD2
  refine bG hmm hi hD3 (by rw [List.length_map]; exact aQ (by omega)) ⟨_,ts ++ [t],x3,b3,rfl,(fun b' o nb e=>?_),?_,b30,by push_cast; rw [Int.add_mul,Int.one_mul]; omega,by rw [aB,List.map_append]; rfl,fun z hz=>?_,by rw [List.length_append,tl]; rfl⟩
  ·rw [aH (aO e hD)]; exact k3 _ _ nb (k2 _ _ nb e)
  ·rw [aH (Ne.symm nDl)]; exact hL3
  ·have kd:∀ c xs,H3 c=some (.tup xs)->aU H3 D (.lst (ts.map V.ref ++ [V.ref t])) c=some (.tup xs):=fun c xs e=>by rw [aH (bC e hD3 fun w=>nomatch w)]; exact e
   rcases List.mem_append.mp hz with w | w
   ·exact ((hmd z w).keep fun c xs e=>k3 _ _ (bC e hL2 fun w=>nomatch w) e).keep kd
   ·rw [List.mem_singleton.mp w]
    exact Md.keep kd ⟨s,to,ok⟩
 case done =>
 rintro τ H2 ⟨v0,ts,x2,b2,rfl,k2,hL2,b20,b21,hD2,hmd,tl⟩
 have s2:aM H H2:=fun b' o e=>k2 _ _ (aO e hl) (n1 _ _ e)
 refine ⟨_,rfl,a,ns,0,rfl,s2.seq hS,by decide,fun c0=>?_⟩
 refine ⟨_,_,rfl,rfl,⟨by decide,by decide⟩,_,_,rfl,rfl,(by show (0:Int) < 4; decide),rfl,_,rfl,?_⟩
 refine Ag (fun _=>?_) (fun _=>?_)
 case refine_2=>exact ⟨_,rfl,q D ts H2 s2 hD2 hmd (by omega)⟩
 refine ⟨_,rfl,m,rfl,by omega,by omega,fun D3 hD3=>?_⟩
 refine lO (n:=m.toNat) (fun i τ H'=>∃ v0 us,τ = [v0,some (.ref a),some (.int m),some (.ref l),some (.ref D)] /\ aM H2 H' /\ H' D3=some (.lst (us.map V.ref)) /\ (∀ t ∈ us,t ∈ ts) /\ us.length=i) ⟨none,[],rfl,aG hD3 _,aB,(fun _ h=>nomatch h),rfl⟩ ?turn3 ?done3
 case turn3 =>
  rintro i mm τ H4 hmm hi ⟨v0,us,rfl,s4,hD4,hus,ul⟩
  have hit:i < ts.length:=by omega
  have h0t:0 < ts.length:=by omega
  refine Bt ?_
  refine ⟨_,rfl,_,rfl,D,_,_,_,rfl,rfl,bM.of (s4 _ _ hD2),(by rw [Int.zero_add]; exact dG (v:=V.ref ts[i]) (by rw [List.getElem?_map,List.getElem?_eq_getElem hit]; rfl)),_,rfl,D,_,_,_,rfl,rfl,bM.of (s4 _ _ hD2),dG (j:=0) (v:=V.ref ts[0]) (by rw [List.getElem?_map,List.getElem?_eq_getElem h0t]; rfl),tO,fun l2 hl2=>?_⟩
  have n5:=aG hl2 (.lst [V.ref ts[i],V.ref ts[0]])
  obtain ⟨v,hv,u,rfl,hu⟩:=CQ (xs:=[V.ref ts[i],V.ref ts[0]]) (P:=fun v=>∃ u,v = .ref u /\ u ∈ ts) (fun v hv=>by
   simp only [List.mem_cons,List.not_mem_nil,or_false] at hv
   rcases hv with rfl | rfl
   ·exact ⟨_,rfl,List.getElem_mem hit⟩
   ·exact ⟨_,rfl,List.getElem_mem h0t⟩) (r:=(0 + (i:Int)) % 2) (Int.emod_nonneg _ (by decide)) (Int.emod_lt_of_pos _ (by decide))
  refine ⟨_,rfl,_,_,rfl,rfl,(by show (0:Int) < 2; decide),l2,_,_,_,rfl,rfl,bM.of aB,hv,?_⟩
  refine bG hmm hi (n5 _ _ hD4) (by rw [List.length_map]; exact aQ (by omega)) ⟨_,us ++ [u],rfl,(s4.trans n5).upd_new hD3 _,by rw [aB,List.map_append]; rfl,fun z hz=>?_,by rw [List.length_append,ul]; rfl⟩
  rcases List.mem_append.mp hz with w | w
  ·exact hus z w
  ·rw [List.mem_singleton.mp w]; exact hu
 case done3 =>
 rintro τ H4 ⟨v0,us,rfl,s4,hD4,hus,ul⟩
 exact ⟨_,rfl,q D3 us H4 (s2.trans s4) hD4 (fun t ht=>(hmd t (hus t ht)).keep fun c xs e=>s4 _ _ e) (by omega)⟩
theorem wD {n:Nat}{f:Addr}{fd:FuncData} (F:eX K "_law_boxes" "_law_boxes" (top 47) f fd) {c:Cs}{g__law_object:Addr}{gd__law_object:FuncData} (c__law_object:gF P w K mg base n "_law_object" ["_law_model_here"] (M3 c Pt iY 5) g__law_object gd__law_object) (z_range:mg "range" = none) (z_len:mg "len" = none):aV P w K mg base eG (n + 1) f fd ["_law_models_here"] (Nq c Pt iY):=by
 refine F.ok oN (fun vs H Q E h=>?_) (fun cdv A outer s H vs Q E hr h=>?_)
 ·obtain ⟨l,ts,rfl,_⟩:=h
  rfl
 obtain ⟨l,ts,rfl,hl,hmd,t1,t6,tb,q⟩:=h
 have nd:=oN.nd
 have hu15:_ + 13 + 2 < cLine:=Nat.lt_of_le_of_lt (Nat.add_le_add_left (by decide:15 <= 64) _) (eV.units hr)
 refine ⟨_,(aD (aX (i:=1) nd rfl (Or.inl rfl) (gU aC)) (aD (jD PassesOwn.never rfl (iD rfl z_range (aA (aZ cI rfl z_len jA (aA (pv 0) aC)) aC)) (aW (i:=2) nd rfl (Or.inl rfl)) (aD (aX (i:=3) nd rfl (Or.inl rfl) (lV PySem.F.plainAttrs_list PySem.F.slot_list_index PySem.F.type_list_index (Ia (n:=13) hu15) (pv 0) (aA (bJ dF (pv 0) (pv 2) (fun _ _=>rfl)) aC))) (aJ (eF (bV Bl (pv 3) (pv 2) (cM _)) (aJ (eU (lV PySem.F.plainAttrs_list PySem.F.slot_list_append PySem.F.type_list_append fC (pv 1) (aA (bJ dF (pv 1) (pv 3) (fun _ _=>rfl)) aC)))) (aJ (eU (lV PySem.F.plainAttrs_list PySem.F.slot_list_append PySem.F.type_list_append fC (pv 1) (aA (aN c__law_object hr (aA (bJ dF (pv 0) (pv 2) (fun _ _=>rfl)) aC)) aC)))))))) (aJ (aR (pv 1))))),?_⟩
 refine ⟨Nat.zero_le _,fun R hR=>?_⟩
 have n1:=aG hR (.lst [])
 refine ⟨_,rfl,l,_,rfl,.inl (bM.of (n1 _ _ hl)),(ts.length:Int),by rw [List.length_map],by omega,by omega,?_⟩
 refine qX (n:=(ts.length:Int).toNat) (fun i σ H'=>∃ v2 v3 ys,σ = [some (.ref l),some (.ref R),v2,v3] /\ cD Pt H H' /\ fJ Pt iY lQ H' /\ H' R=some (.lst (ys.map V.ref)) /\ ys.length=i /\ Q8 c H H' ts ys) ⟨none,none,[],rfl,n1.toT,tb.same n1,aB,rfl,(fun _ _ _ _ h=>by simp at h)⟩ ?turn ?done
 case done =>
  rintro σ H' ⟨v2,v3,ys,rfl,s2,tb2,hR2,yl,hy⟩
  exact ⟨_,rfl,q R ys H' s2 tb2 hR hR2 (by omega) hy⟩
 case turn =>
  rintro i σ H2 hi ⟨v2,v3,ys,rfl,s2,tb2,hR2,yl,hy⟩
  have kt2:=cD.kt s2 tb
  have hl2:=kt2.lst hl
  have hit:i < ts.length:=by omega
  have eti:ts[i]? = some ts[i]:=List.getElem?_eq_getElem hit
  have hmd2:∀ t ∈ ts,Md H2 t:=fun t ht=>(hmd t ht).keep fun b xs e=>kt2.tup e
  obtain ⟨e,he,hee,hsm⟩:=Ot (K:=K) hmd2 (List.getElem_mem hit)
  obtain ⟨j,tj,ej,hj,hji,hno⟩:=De (e:=e) eti hee
  have atk:Gk (ts.map V.ref) (0 + (i:Int))=some (V.ref ts[i]):=by rw [Int.zero_add]; exact dG (by rw [List.getElem?_map,eti]; rfl)
  refine ⟨_,rfl,.inl ⟨rfl,_,bM.of hl2⟩,_,rfl,_,rfl,l,_,_,_,rfl,rfl,bM.of hl2,atk,l,ts[i],ts,e,j,tj,rfl,rfl,hl2,by omega,he,ej,hj,hno,?_⟩
  refine ⟨_,rfl,_,rfl,_,_,rfl,rfl,_,rfl,?_⟩
  refine Ag (fun c0=>?_) (fun c0=>?_)
  ·have cji:(j:Int) < 0 + (i:Int):=of_decide_eq_true c0
   have hjy:j < ys.length:=by omega
   refine ⟨_,rfl,.inl ⟨rfl,_,bM.of hR2⟩,_,rfl,_,rfl,R,_,_,_,rfl,rfl,bM.of hR2,dG (v:=V.ref ys[j]) (by rw [List.getElem?_map,List.getElem?_eq_getElem hjy]; rfl),R,_,_,rfl,rfl,hR2,by rw [List.length_map]; exact aQ (by omega),?_⟩
   refine ⟨_,_,ys ++ [ys[j]],rfl,s2.upd_new hR _,Bx tb2 hR2,by rw [aB,List.map_append]; rfl,by rw [List.length_append,yl]; rfl,fun u t y e1 e2=>?_⟩
   by_cases hu:u < ys.length
   ·rw [List.getElem?_append_left hu] at e2
    obtain ⟨s,to,st⟩:=hy u t y e1 e2
    exact ⟨s,to,q9 hR2 st⟩
   ·rw [List.getElem?_append_right (by omega)] at e2
    have:u=i:=by have:=(List.getElem?_eq_some_iff.mp e2).1; simp at this; omega
    subst this
    rw [show u - ys.length=0 by omega] at e2
    cases e2
    rw [eti] at e1
    cases e1
    obtain ⟨s,to,st⟩:=hy j tj ys[j] ej (List.getElem?_eq_getElem hjy)
    obtain ⟨s',to',_⟩:=hmd ts[u] (List.getElem_mem hit)
    have t1:=hsm tj (List.mem_of_getElem? ej) hj s (to.keep fun b xs e=>kt2.tup e)
    have t2:=to'.keep (H':=H2) fun b xs e=>kt2.tup e
    rw [yR t1 t2] at st
    exact ⟨s',to',q9 hR2 st⟩
  ·obtain ⟨s,to0,ok⟩:=hmd ts[i] (List.getElem_mem hit)
   have to:=to0.keep (H':=H2) fun b xs e=>kt2.tup e
   refine ⟨_,rfl,.inl ⟨rfl,_,bM.of hR2⟩,_,rfl,_,rfl,l,_,_,_,rfl,rfl,bM.of hl2,atk,ts[i],s,4,12,rfl,to,ok,by decide,by decide,by decide,tb2,fun x H3 s3 tb3 st=>?_⟩
   have kt3:=cD.kt s3 tb2
   have hR3:=kt3.lst hR2
   refine ⟨R,_,_,rfl,rfl,hR3,by rw [List.length_map]; exact aQ (by omega),?_⟩
   refine ⟨_,_,ys ++ [x],rfl,(s2.trans s3).upd_new hR _,Bx tb3 hR3,by rw [aB,List.map_append]; rfl,by rw [List.length_append,yl]; rfl,fun u t y e1 e2=>?_⟩
   by_cases hu:u < ys.length
   ·rw [List.getElem?_append_left hu] at e2
    obtain ⟨s,to,st⟩:=hy u t y e1 e2
    exact ⟨s,to,q9 hR3 (st.kp kt3.kp)⟩
   ·rw [List.getElem?_append_right (by omega)] at e2
    have:u=i:=by have:=(List.getElem?_eq_some_iff.mp e2).1; simp at this; omega
    subst this
    rw [show u - ys.length=0 by omega] at e2
    cases e2
    rw [eti] at e1
    cases e1
    exact ⟨s,to0,q9 hR3 st⟩
theorem wC {n:Nat}{f:Addr}{fd:FuncData} (F:eX K "_law_whole" "_law_whole" (top 48) f fd) (z_isinstance:mg "isinstance" = none) (z_bool:mg "bool" = none) (z_int:mg "int" = none):aV P w K mg base eG (n + 1) f fd ["_law_found"] qY:=by
 refine F.ok oU (fun vs H Q E h=>?_) (fun cdv A outer s H vs Q E hr h=>?_)
 ·obtain ⟨i,rfl,_⟩:=h
  rfl
 obtain ⟨i,rfl,q⟩:=h
 have nd:=oU.nd
 refine ⟨_,(aJ (aR (uT (aZ (dD (T:="int")) rfl z_isinstance bQ (aA (pv 0) (aA (gO (v:=.ty "int") rfl z_int Fb rfl) aC))) (vM (Jr (aZ (dD (T:="bool")) rfl z_isinstance bQ (aA (pv 0) (aA (gO (v:=.ty "bool") rfl z_bool zU rfl) aC)))))))),?_⟩
 refine ⟨_,rfl,_,_,_,rfl,.int i,fU _,_,rfl,?_⟩
 refine iI ?_
 refine ⟨_,rfl,_,_,_,rfl,.int i,lN,_,rfl,?_⟩
 exact q
theorem wV {n:Nat}{f:Addr}{fd:FuncData} (F:eX K "_law_least" "_law_least" (top 55) f fd):aV P w K mg base eG (n + 1) f fd ["_law_one","_law_other"] Ol:=by
 refine F.ok oH (fun vs H Q E h=>?_) (fun cdv A outer s H vs Q E hr h=>?_)
 ·obtain ⟨v,b,lv,rfl,_⟩:=h
  rfl
 obtain ⟨v,b,lv,rfl,hb,lw,k⟩:=h
 have nd:=oH.nd
 refine ⟨_,(aD (eF (PW.pt (iU (bV LQ (pv 0) yV (cM _)) (gC (bV Bl (bA dU (bJ cO (pv 1) aL (fun _ _=>rfl)) (bJ cO (pv 0) aL (fun _ _=>rfl))) (bA dU (bJ cO (pv 0) aL (fun _ _=>rfl)) (bJ cO (pv 1) aL (fun _ _=>rfl))) (cM _))))) (aJ (aR (pv 1))) bU) (aJ (aR (pv 0)))),?_⟩
 rcases k with ⟨rfl,k⟩ | ⟨a,lva,rfl,ha,lwa,k1,k2⟩
 ·refine ⟨_,rfl,rfl,_,rfl,?_⟩
  refine zW (decide_eq_true rfl) ?_
  refine iI ?_
  exact ⟨_,rfl,k⟩
 refine ⟨_,rfl,rfl,_,rfl,?_⟩
 refine t8 (decide_eq_false (fun z=>nomatch z)) ?_
 have z1:=Nv lw
 have z2:=Nv lwa
 refine ⟨_,rfl,b,_,_,_,rfl,rfl,bZ.of hb,rfl,_,rfl,a,_,_,_,rfl,rfl,bZ.of ha,rfl,_,_,rfl,rfl,gH z1.t z2.b (by decide),_,rfl,a,_,_,_,rfl,rfl,bZ.of ha,rfl,_,rfl,b,_,_,_,rfl,rfl,bZ.of hb,rfl,_,_,rfl,rfl,gH z2.t z1.b (by decide),_,_,rfl,rfl,_,rfl,?_⟩
 refine Ag (fun c=>?_) (fun c=>?_)
 ·exact ⟨_,rfl,k1 (of_decide_eq_true c)⟩
 ·exact ⟨_,rfl,k2 (of_decide_eq_false (Bool.eq_false_iff.mpr c))⟩
theorem MP {K:PySem.W.Frag}{H:Hp}{l d:Addr}{ns:List Int} (hl:H l=some (.lst (ns.map V.int))) (hd:H d=some (.lst (ns.map V.int))):DE K H 3 (.ref l) (.ref d) true:=by
 have z:=DE.lst (K:=K) (n:=2) (fun _=>true) (bM.of hl) (bM.of hd) rfl fun j x y hx hy=>by
  rw [hx] at hy
  cases hy
  obtain ⟨i,_,rfl⟩:=List.mem_map.mp (List.mem_of_getElem? hx)
  have z:=DE.int (K:=K) (H:=H) 2 i i
  rw [beq_self_eq_true] at z
  exact z
 rw [show (List.range (ns.map V.int).length).all (fun _=>true)=true by simp] at z
 exact z
theorem VG {K:PySem.W.Frag}{H:Hp}{u v:Addr} (h:QV H u v):DE K H 2 (.ref u) (.ref v) true:=by
 have strE:∀ (n:Nat) (i:Str),DE K H n (.str i) (.str i) true:=fun n i=>by have z:=DE.str (K:=K) (H:=H) n i i; rw [beq_self_eq_true] at z; exact z
 have intD:∀ (n:Nat) (i:Int),DE K H n (.int i) (.int i) true:=fun n i=>by have z:=DE.int (K:=K) (H:=H) n i i; rw [beq_self_eq_true] at z; exact z
 have tupS:∀ {p r:Addr}{xs:List V},H p=some (.tup xs)->H r=some (.tup xs)->(∀ v ∈ xs,DE K H 1 v v true)->DE K H 2 (.ref p) (.ref r) true:=fun {p r xs} e e2 hv=>by
  have z:=DE.tup (K:=K) (n:=1) (fun _=>true) (bZ.of e) (bZ.of e2) (fun j x y hx hy=>by rw [hx] at hy; cases hy; exact hv x (List.mem_of_getElem? hx))
  rw [show ((List.range (min xs.length xs.length)).all (fun _=>true) && xs.length == xs.length)=true by simp] at z
  exact z
 rcases h with ⟨b,r,e1,e2⟩ | ⟨b,e1,e2⟩
 ·refine tupS e1 e2 fun v hv=>?_
  simp only [List.mem_cons,List.not_mem_nil,or_false] at hv
  rcases hv with rfl | rfl | rfl <;> first | exact strE _ _ | exact intD _ _
 ·refine tupS e1 e2 fun v hv=>?_
  simp only [List.mem_cons,List.not_mem_nil,or_false] at hv
  rcases hv with rfl | rfl <;> first | exact strE _ _ | exact intD _ _
theorem Qm {K:PySem.W.Frag}{H:Hp}{l d:Addr}{us ws:List Addr} (hl:H l=some (.lst (us.map V.ref))) (hd:H d=some (.lst (ws.map V.ref))) (e:us.length=ws.length) (h:∀ (i:Nat) u v,us[i]? = some u->ws[i]? = some v->QV H u v):DE K H 3 (.ref l) (.ref d) true:=by
 have z:=DE.lst (K:=K) (n:=2) (fun _=>true) (bM.of hl) (bM.of hd) (by rw [List.length_map,List.length_map,e]) fun j x y hx hy=>by
  rw [List.getElem?_map] at hx hy
  cases e1:us[j]? with
  | none=>rw [e1] at hx; cases hx
  | some u =>
   cases e2:ws[j]? with
   | none=>rw [e2] at hy; cases hy
   | some v =>
    rw [e1] at hx
    rw [e2] at hy
    cases hx
    cases hy
    exact VG (h j u v e1 e2)
 rw [show (List.range (us.map V.ref).length).all (fun _=>true)=true by simp] at z
 exact z
theorem sS {n:Nat}{f:Addr}{fd:FuncData} (F:eX K "_law_numbers" "_law_numbers" (top 52) f fd) {g__law_whole:Addr}{gd__law_whole:FuncData} (c__law_whole:gF P w K mg base n "_law_whole" ["_law_found"] qY g__law_whole gd__law_whole) (z_len:mg "len" = none) (z_isinstance:mg "isinstance" = none) (z_list:mg "list" = none):aV P w K mg base eG (n + 1) f fd ["_law_found","_law_due"] O8:=by
 refine F.ok lY (fun vs H Q E h=>?_) (fun cdv A outer s H vs Q E hr h=>?_)
 ·obtain ⟨l,d,ns,rfl,_⟩:=h
  rfl
 obtain ⟨l,d,ns,rfl,hl,hd,n9,k⟩:=h
 have nd:=lY.nd
 have hu3:_ + 2 + 1 < cLine:=Nat.lt_of_le_of_lt (Nat.add_le_add_left (by decide:3 <= 64) _) (eV.units hr)
 refine ⟨_,(aD (eF (PW.pt (iU (fG (dH (aZ (dD (T:="list")) rfl z_isinstance bQ (aA (pv 0) (aA (gO (v:=.ty "list") rfl z_list gR rfl) aC))))) (iU (bV (Dt (n:=2) hu3) (pv 0) (pv 1) (cM _)) (gC (bV uY (aZ cI rfl z_len jA (aA (cB (ls:=["_law_one"]) (M:=["_law_found","_law_due"]) rfl (bR.of (by rfl)) (NL.of (by rfl)) (cA (pv 0)) (fun _ _ _ _=>⟨(aW (i:=0) (cQ (by rfl)) rfl (Or.inl rfl)),(tU (dH (aN c__law_whole hr (aA (pv 0) aC)))),(pv 0)⟩)) aC)) (aZ cI rfl z_len jA (aA (pv 1) aC)) (cM _)))))) (aJ (aR gW)) bU) (aD (eU (lV PySem.F.plainAttrs_list PySem.F.slot_list_append PySem.F.type_list_append fC (pv 0) (aA aL aC))) (aJ (aR gW)))),?_⟩
 refine ⟨_,rfl,_,_,_,rfl,.lst hl,fU _,_,rfl,?_⟩
 refine fH ?_
 refine ⟨_,rfl,_,rfl,l,d,true,rfl,rfl,MP hl hd,_,rfl,?_⟩
 refine fH ?_
 refine ⟨_,rfl,l,rfl,⟨_,bM.of hl⟩,fun D hD=>?_⟩
 refine bY (xs:=ns.map V.int) (fun i τ H'=>∃ v0,τ = [v0,some (.ref l),some (.ref d)] /\ aM H H' /\ H' D=some (.lst ((ns.take i).map V.int))) ⟨none,rfl,aG hD _,aB⟩ ?keep ?turn ?done
 case keep =>
  rintro i τ H' hi ⟨v0,rfl,hs,_⟩
  exact bM.of (hs _ _ hl)
 case turn =>
  rintro i mm v τ H' hm hi hv ⟨v0,rfl,hs,hD'⟩
  rw [List.getElem?_map] at hv
  cases e:ns[i]? with
  | none=>rw [e] at hv; cases hv
  | some z =>
   rw [e] at hv
   cases hv
   unfold oG
   refine ⟨_,rfl,_,rfl,_,rfl,?_⟩
   refine iI ?_
   refine ⟨_,rfl,?_⟩
   refine bG hm hi hD' (by rw [List.length_map]; exact aQ (Nat.le_trans (List.length_take_le' _ _) (by omega))) ⟨_,rfl,hs.upd_new hD _,?_⟩
   rw [aB,bH e,List.map_append]
   rfl
 case done =>
 rintro τ H1 ⟨v0,rfl,s1,hD1⟩
 rw [List.length_map,List.take_length] at hD1
 have hl1:=s1 _ _ hl
 refine ⟨D,_,rfl,.inl (bM.of hD1),_,rfl,d,_,rfl,.inl (bM.of (s1 _ _ hd)),rfl,_,rfl,?_⟩
 refine t8 (by rw [decide_eq_true rfl]; rfl) ?_
 refine ⟨_,rfl,.inl ⟨rfl,_,bM.of hl1⟩,l,_,.int 7,rfl,rfl,hl1,by rw [List.length_map]; exact aQ (by omega),?_⟩
 exact k _ ((KX.of s1).trans (KX.put _))
theorem vV {n:Nat}{f:Addr}{fd:FuncData} (F:eX K "_law_deeds" "_law_deeds" (top 53) f fd) (z_len:mg "len" = none) (z_isinstance:mg "isinstance" = none) (z_bool:mg "bool" = none) (z_tuple:mg "tuple" = none) (z_list:mg "list" = none):aV P w K mg base eG (n + 1) f fd ["_law_found","_law_due"] Og:=by
 refine F.ok oR (fun vs H Q E h=>?_) (fun cdv A outer s H vs Q E hr h=>?_)
 ·obtain ⟨l,d,us,ws,rfl,_⟩:=h
  rfl
 obtain ⟨l,d,us,ws,rfl,hl,hd,el,n9,dd,k⟩:=h
 have nd:=oR.nd
 have hu3:_ + 2 + 1 < cLine:=Nat.lt_of_le_of_lt (Nat.add_le_add_left (by decide:3 <= 64) _) (eV.units hr)
 refine ⟨_,(aD (eF (PW.pt (iU (fG (dH (aZ (dD (T:="list")) rfl z_isinstance bQ (aA (pv 0) (aA (gO (v:=.ty "list") rfl z_list gR rfl) aC))))) (gC (bV (Dt (n:=2) hu3) (pv 0) (pv 1) (cM _))))) (aJ (aR gW)) bU) (aD (jD PassesOwn.never rfl (cA (pv 0)) (aW (i:=2) nd rfl (Or.inl rfl)) (aJ (eF (PW.pt (iU (fG (dH (aZ (dD (T:="tuple")) rfl z_isinstance bQ (aA (pv 2) (aA (gO (v:=.ty "tuple") rfl z_tuple gP rfl) aC))))) (gC (bV Bu (aZ cI rfl z_len jA (aA (cB (ls:=["_law_part"]) (M:=["_law_found","_law_due","_law_one"]) rfl (bR.of (by rfl)) (NL.of (by rfl)) (zF (pv 2)) (fun _ _ _ _=>⟨(aW (i:=0) (cQ (by rfl)) rfl (Or.inl rfl)),(tU (dH (aZ (zZ (K:=K) (T:="bool") rfl) rfl z_isinstance bQ (aA (pv 0) (aA (gO (v:=.ty "bool") rfl z_bool zU rfl) aC))))),(pv 0)⟩)) aC)) aL (cM _))))) (aJ (aR gW)) bU))) (aD (eU (lV PySem.F.plainAttrs_list PySem.F.slot_list_append PySem.F.type_list_append fC (pv 0) (aA (dI (aA bO aC)) aC))) (aJ (aR gW))))),?_⟩
 refine ⟨_,rfl,_,_,_,rfl,.lst hl,fU _,_,rfl,?_⟩
 refine fH ?_
 refine ⟨_,rfl,_,rfl,l,d,true,rfl,rfl,Qm hl hd el dd,_,rfl,?_⟩
 refine fH ?_
 refine ⟨_,rfl,l,rfl,⟨_,bM.of hl⟩,?_⟩
 refine jT (xs:=us.map V.ref) (fun i σ H'=>∃ v2,σ = [some (.ref l),some (.ref d),v2] /\ aM H H') ⟨none,rfl,aM.refl _⟩ (fun i σ H' _ ⟨_,_,s⟩=>bM.of (s _ _ hl)) ?turn ?done
 case turn =>
  rintro i v σ H1 hv ⟨v2,rfl,s1⟩
  obtain ⟨u,hu,rfl⟩:=List.mem_map.mp (List.mem_of_getElem? hv)
  obtain ⟨j,hj,eu⟩:=List.getElem_of_mem hu
  have de:=dd j u (ws[j]'(by omega)) (by rw [List.getElem?_eq_getElem hj,eu]) (List.getElem?_eq_getElem _)
  obtain ⟨xs,hx,fx,lx⟩ : ∃ xs:List V,H u=some (.tup xs) /\ (∀ v ∈ xs,(∃ i,v = .int i) ∨ ∃ i,v = .str i) /\ xs.length <= 3:=by
   rcases de with ⟨b,r,e1,_⟩ | ⟨b,e1,_⟩
   ·exact ⟨_,e1,fun v hv=>by simp only [List.mem_cons,List.not_mem_nil,or_false] at hv; rcases hv with rfl | rfl | rfl <;> first | exact .inl ⟨_,rfl⟩ | exact .inr ⟨_,rfl⟩,Nat.le_of_ble_eq_true rfl⟩
   ·exact ⟨_,e1,fun v hv=>by simp only [List.mem_cons,List.not_mem_nil,or_false] at hv; rcases hv with rfl | rfl <;> first | exact .inl ⟨_,rfl⟩ | exact .inr ⟨_,rfl⟩,Nat.le_of_ble_eq_true rfl⟩
  have hx1:=s1 _ _ hx
  refine ⟨_,rfl,_,_,_,rfl,.tup hx1,fU _,_,rfl,?_⟩
  refine fH ?_
  refine ⟨_,rfl,u,rfl,⟨_,bZ.of hx1⟩,fun D hD=>?_⟩
  refine pK (xs:=xs) (fun i τ H'=>∃ v0,τ = [v0,some (.ref l),some (.ref d),some (.ref u)] /\ aM H1 H' /\ H' D=some (.lst [])) ⟨none,rfl,aG hD _,aB⟩ ?keep2 ?turn2 ?done2
  case keep2 =>
   rintro i τ H' hi ⟨v0,rfl,hs,_⟩
   exact bZ.of (hs _ _ hx1)
  case turn2 =>
   rintro i mm v τ H' hm hi hv ⟨v0,rfl,hs,hD'⟩
   unfold oG
   rcases fx v (List.mem_of_getElem? hv) with ⟨z,rfl⟩ | ⟨z,rfl⟩
   ·refine ⟨_,rfl,_,_,_,rfl,.int z,lN,_,rfl,?_⟩
    refine fH ?_
    exact nF hm hi ⟨_,rfl,hs,hD'⟩
   ·refine ⟨_,rfl,_,_,_,rfl,.str z,(by rfl),_,rfl,?_⟩
    refine fH ?_
    exact nF hm hi ⟨_,rfl,hs,hD'⟩
  case done2 =>
  rintro τ H2 ⟨v0,rfl,s2,hD2⟩
  refine ⟨D,_,rfl,.inl (bM.of hD2),_,_,rfl,rfl,_,rfl,?_⟩
  refine t8 (by decide) ?_
  exact ⟨_,rfl,s1.trans s2⟩
 case done =>
 rintro σ H1 ⟨v2,rfl,s1⟩
 refine ⟨_,rfl,.inl ⟨rfl,_,bM.of (s1 _ _ hl)⟩,X8,fun p hp=>?_⟩
 have n1:=aG hp (.tup [.str "stop"])
 have hl2:=n1 _ _ (s1 _ _ hl)
 refine ⟨l,_,.ref p,rfl,rfl,hl2,by rw [List.length_map]; exact aQ (by omega),?_⟩
 exact k _ ((KX.of (s1.trans n1)).trans (KX.put _))
theorem vY {n:Nat}{f:Addr}{fd:FuncData} (F:eX K "_law_state" "_law_state" (top 49) f fd) (z_list:mg "list" = none):aV P w K mg base eG (n + 1) f fd ["_law_models_here"] Ng:=by
 refine F.ok oA (fun vs H Q E h=>?_) (fun cdv A outer s H vs Q E hr h=>?_)
 ·obtain ⟨l,ts,rfl,_⟩:=h
  rfl
 obtain ⟨l,ts,rfl,hl,t6,k⟩:=h
 have nd:=oA.nd
 refine ⟨_,(aD (Mf (i:=1) (ls:=["_law_model_here"]) (M:=["_law_models_here","_law_caps"]) rfl (bR.of (by rfl)) (NL.of (by rfl)) nd rfl (Or.inl rfl) (cA (pv 0)) (fun _ _ _ _=>⟨(aW (i:=0) (cQ (by rfl)) rfl (Or.inl rfl)),cT,yV⟩)) (aJ (aR (NT (m7 bO (cU gA rfl z_list gR (aA (pv 0) aC)) (m7 bO (pv 1) (m7 bO (gU aC) (m7 bO aL (m7 bO (gU aC) Mu))))) rfl rfl (by decide) (by decide))))),?_⟩
 refine ⟨_,rfl,l,rfl,⟨_,bM.of hl⟩,fun D hD=>?_⟩
 refine bY (xs:=ts.map V.ref) (fun i τ H'=>∃ v0,τ = [v0,some (.ref l),none] /\ aM H H' /\ H' D=some (.lst ((ts.take i).map fun _=>V.non))) ⟨none,rfl,aG hD _,aB⟩ ?keep ?turn ?done
 case keep =>
  rintro i τ H' hi ⟨v0,rfl,hs,_⟩
  exact bM.of (hs _ _ hl)
 case turn =>
  rintro i mm v τ H' hm hi hv ⟨v0,rfl,hs,hD'⟩
  rw [List.getElem?_map] at hv
  cases e:ts[i]? with
  | none=>rw [e] at hv; cases hv
  | some z =>
   unfold oG
   refine eZ ?_
   refine bG hm hi hD' (by rw [List.length_map]; exact aQ (Nat.le_trans (List.length_take_le' _ _) (by omega))) ⟨_,rfl,hs.upd_new hD _,?_⟩
   rw [aB,bH e,List.map_append]
   rfl
 case done =>
 rintro τ H1 ⟨v0,rfl,s1,hD1⟩
 rw [List.length_map,List.take_length] at hD1
 intro p hp
 have n1:=aG hp (.dK [])
 refine ⟨_,rfl,l,_,rfl,.inl (bM.of (n1 _ _ (s1 _ _ hl))),fun la hla=>?_⟩
 have n2:=aG hla (.lst (ts.map V.ref))
 refine ⟨_,rfl,Nat.zero_le _,fun ka hka=>?_⟩
 have n3:=aG hka (.lst [])
 refine ⟨Nat.zero_le _,fun da hda=>?_⟩
 have n4:=aG hda (.lst [])
 have s24:=n2.trans (n3.trans n4)
 refine ⟨s24 _ _ aB,Ld ⟨la,D,ka,da,ts,ts.map fun _=>V.non,[],0,[]⟩,rfl,Nat.le_of_ble_eq_true rfl,?_⟩
 have em:qR [] (Ld ⟨la,D,ka,da,ts,ts.map fun _=>V.non,[],0,[]⟩)=Ld ⟨la,D,ka,da,ts,ts.map fun _=>V.non,[],0,[]⟩:=by rfl
 rw [em]
 have hD4:=s24 _ _ (n1 _ _ hD1)
 have hla4:=(n3.trans n4) _ _ (aB (H:=aU H1 p (.dK [])) (a:=la) (o:=.lst (ts.map V.ref)))
 have hka4:=n4 _ _ (aB (a:=ka) (o:=.lst []))
 have hp4:=s24 _ _ (aB (H:=H1) (a:=p) (o:=.dK []))
 have ex:∀ {b:Addr}{xs:List V}{o:HO},_=some (HO.lst xs)->aU _ p o b=some (HO.lst xs):=fun {b xs o} e=>by rw [aH (bC e hp4 fun z=>nomatch z)]; exact e
 refine k p _ _ (aM.upd_new ((s1.trans n1).trans s24) (s1.free hp) _) ⟨aB,ex hla4,ex hD4,ex hka4,ex aB,?_⟩ ⟨s1.free hp,s1.free (n1.free hla),hD,s1.free (n1.free (n2.free hka)),s1.free (n1.free (n2.free (n3.free hda)))⟩ rfl rfl rfl rfl rfl
 have a1:D ≠ la:=aO (n1 _ _ hD1) hla
 have a2:D ≠ ka:=aO (n2 _ _ (n1 _ _ hD1)) hka
 have a3:D ≠ da:=aO ((n2.trans n3) _ _ (n1 _ _ hD1)) hda
 have a4:la ≠ ka:=aO (aB (a:=la)) hka
 have a5:la ≠ da:=aO (n3 _ _ (aB (a:=la))) hda
 have a6:ka ≠ da:=aO (aB (a:=ka)) hda
 simp only [List.nodup_cons,List.mem_cons,List.not_mem_nil,or_false,not_or,not_false_eq_true,List.nodup_nil,and_true]
 exact ⟨⟨a1.symm,a4,a5⟩,⟨a2,a3⟩,a6⟩
def cont (z:SS):Nat->List V
 | 0=>z.ts.map V.ref
 | 1=>z.ls
 | 2=>z.ks.map V.int
 | _=>z.ds.map V.ref
def Yr (z:SS) (nl:List Addr):List (cZ × V):=[(.inr "stands",.ref (nl.getD 0 z.la)),(.inr "caps",.ref (nl.getD 1 z.ca)),(.inr "kept",.ref (nl.getD 2 z.ka)),(.inr "paid",.int z.pd),(.inr "deeds",.ref (nl.getD 3 z.da))]
theorem Aj {n:Nat}{f:Addr}{fd:FuncData} (F:eX K "_law_copy" "_law_copy" (top 50) f fd) (z_list:mg "list" = none) (z_dict:mg "dict" = none):aV P w K mg base eG (n + 1) f fd ["_law_state_here"] Jg:=by
 refine F.ok p7 (fun vs H Q E h=>?_) (fun cdv A outer s H vs Q E hr h=>?_)
 ·obtain ⟨a,z,rfl,_⟩:=h
  rfl
 obtain ⟨a,z,rfl,h,k⟩:=h
 have nd:=p7.nd
 have hu:=uI hr
 refine ⟨_,(aD (aX (i:=1) nd rfl (Or.inl rfl) (cU Ar rfl z_dict MJ (aA (pv 0) aC))) (aD (jD PassesOwn.never rfl (cA (gU (aA bO (aA bO (aA bO (aA bO aC)))))) (aW (i:=2) nd rfl (Or.inl rfl)) (aJ (zX hu (pv 1) (pv 2) (cU gA rfl z_list gR (aA (cY hu (pv 0) (pv 2) (fun _ _=>rfl)) aC)) rfl))) (aJ (aR (pv 1))))),?_⟩
 refine ⟨_,rfl,a,Ld z,rfl,h.hd,fun b hb=>?_⟩
 have n1:=aG hb (.dK (Ld z))
 refine ⟨Nat.le_of_lt (aQ (by decide)),fun W hW=>?_⟩
 have n2:=aG hW (.lst [V.str "stands",V.str "caps",V.str "kept",V.str "deeds"])
 refine ⟨W,rfl,⟨_,bM.of aB⟩,?_⟩
 refine jT (xs:=[V.str "stands",V.str "caps",V.str "kept",V.str "deeds"]) (fun i σ H'=>∃ v2 nl,σ = [some (.ref a),some (.ref b),v2] /\ nl.length=i /\ nl.Nodup /\ aM H H' /\ H' W=some (.lst [V.str "stands",V.str "caps",V.str "kept",V.str "deeds"]) /\ H' b=some (.dK (Yr z nl)) /\ ∀ (j:Nat) l,nl[j]? = some l->H' l=some (.lst (cont z j)) /\ H l=none)
  ⟨none,[],rfl,rfl,List.nodup_nil,n1.trans n2,aB,n2 _ _ aB,fun j l e=>by simp at e⟩ (fun i σ H' _ ⟨_,_,_,_,_,_,e,_⟩=>bM.of e) ?turn ?done
 case turn =>
  rintro i v σ H' hv ⟨v2,nl,rfl,hn,nn,hs,hW',hb',hnl⟩
  have h':=h.kt (aM.kt hs)
  have fin:∀ (nl:List Addr) (l':Addr) (H':Hp),nl.length=i->nl.Nodup->aM H H'->H' l'=none->H' b=some (.dK (Yr z nl))->H' W=some (.lst [V.str "stands",V.str "caps",V.str "kept",V.str "deeds"])->(∀ (j:Nat) l,nl[j]? = some l->H' l=some (.lst (cont z j)) /\ H l=none)->∀ {kv:List (cZ × V)},kv=Yr z (nl ++ [l']) ->
    ∃ v2' nl',[some (V.ref a),some (V.ref b),some v]=[some (V.ref a),some (V.ref b),v2'] /\ nl'.length=i + 1 /\ nl'.Nodup /\ aM H (aU (aU H' l' (.lst (cont z i))) b (.dK kv)) /\ aU (aU H' l' (.lst (cont z i))) b (.dK kv) W=some (.lst [V.str "stands",V.str "caps",V.str "kept",V.str "deeds"]) /\ aU (aU H' l' (.lst (cont z i))) b (.dK kv) b=some (.dK (Yr z nl')) /\ ∀ (j:Nat) l,nl'[j]? = some l->aU (aU H' l' (.lst (cont z i))) b (.dK kv) l=some (.lst (cont z j)) /\ H l=none:=by
   intro nl l' H' hn nn hs hl' hb' hW' hnl kv ekv
   have n3:=aG hl' (.lst (cont z i))
   have hb3:=n3 _ _ hb'
   have ex:∀ {b':Addr}{xs:List V},aU H' l' (.lst (cont z i)) b'=some (HO.lst xs)->aU (aU H' l' (.lst (cont z i))) b (.dK kv) b'=some (HO.lst xs):=fun {b' xs} e=>by rw [aH (bC e hb3 fun z=>nomatch z)]; exact e
   refine ⟨_,nl ++ [l'],rfl,by rw [List.length_append,hn]; rfl,?_,aM.upd_new (hs.trans n3) hb _,ex (n3 _ _ hW'),by rw [aB,ekv],fun j l e=>?_⟩
   ·refine List.nodup_append.mpr ⟨nn,by simp,fun x hx y hy=>?_⟩
    rw [List.mem_singleton.mp hy]
    obtain ⟨j,hj,ej⟩:=List.getElem_of_mem hx
    exact aO (hnl j x (by rw [List.getElem?_eq_getElem hj,ej])).1 hl'
   ·by_cases hj:j < nl.length
    ·rw [List.getElem?_append_left hj] at e
     exact ⟨ex (n3 _ _ (hnl j l e).1),(hnl j l e).2⟩
    ·rw [List.getElem?_append_right (by omega)] at e
     have:j=i:=by have:=(List.getElem?_eq_some_iff.mp e).1; simp at this; omega
     subst this
     rw [show j - nl.length=0 by omega] at e
     cases e
     exact ⟨ex aB,hs.free hl'⟩
  have hi:i < 4:=(List.getElem?_eq_some_iff.mp hv).1
  rcases (by omega:i=0 ∨ i=1 ∨ i=2 ∨ i=3) with hi4 | hi4 | hi4 | hi4
  ·subst hi4
   cases hv
   obtain rfl:nl=[]:=by
    match nl,hn with
    | [],_=>exact rfl
   refine ⟨_,rfl,_,rfl,a,.ref z.la,rfl,gB.k (k:=.inr "stands") h'.hd,z.la,_,rfl,.inl (bM.of h'.hs),fun l' hl'=>?_⟩
   have n3:=aG hl' (.lst (cont z 0))
   have hb3:=n3 _ _ hb'
   refine ⟨_,rfl,_,rfl,b,_,rfl,.inl ⟨_,.inr "stands",hb3,rfl,aQ (Nat.le_of_ble_eq_true rfl),rfl⟩,?_⟩
   exact fin [] l' H' hn nn hs hl' hb' hW' hnl rfl
  ·subst hi4
   cases hv
   obtain ⟨x0,rfl⟩ : ∃ x0,nl=[x0]:=by
    match nl,hn with
    | [x0],_=>exact ⟨x0,rfl⟩
   refine ⟨_,rfl,_,rfl,a,.ref z.ca,rfl,gB.k (k:=.inr "caps") h'.hd,z.ca,_,rfl,.inl (bM.of h'.hc),fun l' hl'=>?_⟩
   have n3:=aG hl' (.lst (cont z 1))
   have hb3:=n3 _ _ hb'
   refine ⟨_,rfl,_,rfl,b,_,rfl,.inl ⟨_,.inr "caps",hb3,rfl,aQ (Nat.le_of_ble_eq_true rfl),rfl⟩,?_⟩
   exact fin [x0] l' H' hn nn hs hl' hb' hW' hnl rfl
  ·subst hi4
   cases hv
   obtain ⟨x0,x1,rfl⟩ : ∃ x0 x1,nl=[x0,x1]:=by
    match nl,hn with
    | [x0,x1],_=>exact ⟨x0,x1,rfl⟩
   refine ⟨_,rfl,_,rfl,a,.ref z.ka,rfl,gB.k (k:=.inr "kept") h'.hd,z.ka,_,rfl,.inl (bM.of h'.hk),fun l' hl'=>?_⟩
   have n3:=aG hl' (.lst (cont z 2))
   have hb3:=n3 _ _ hb'
   refine ⟨_,rfl,_,rfl,b,_,rfl,.inl ⟨_,.inr "kept",hb3,rfl,aQ (Nat.le_of_ble_eq_true rfl),rfl⟩,?_⟩
   exact fin [x0,x1] l' H' hn nn hs hl' hb' hW' hnl rfl
  ·subst hi4
   cases hv
   obtain ⟨x0,x1,x2,rfl⟩ : ∃ x0 x1 x2,nl=[x0,x1,x2]:=by
    match nl,hn with
    | [x0,x1,x2],_=>exact ⟨x0,x1,x2,rfl⟩
   refine ⟨_,rfl,_,rfl,a,.ref z.da,rfl,gB.k (k:=.inr "deeds") h'.hd,z.da,_,rfl,.inl (bM.of h'.hq),fun l' hl'=>?_⟩
   have n3:=aG hl' (.lst (cont z 3))
   have hb3:=n3 _ _ hb'
   refine ⟨_,rfl,_,rfl,b,_,rfl,.inl ⟨_,.inr "deeds",hb3,rfl,aQ (Nat.le_of_ble_eq_true rfl),rfl⟩,?_⟩
   exact fin [x0,x1,x2] l' H' hn nn hs hl' hb' hW' hnl rfl
 case done =>
 rintro σ H' ⟨v2,nl,rfl,hn,nn,hs,hW',hb',hnl⟩
 have hn4:nl.length=4:=hn
 obtain ⟨x0,x1,x2,x3,rfl⟩ : ∃ x0 x1 x2 x3,nl=[x0,x1,x2,x3]:=by
  match nl,hn4 with
  | [x0,x1,x2,x3],_=>exact ⟨x0,x1,x2,x3,rfl⟩
 have e0:=hnl 0 x0 rfl
 have e1:=hnl 1 x1 rfl
 have e2:=hnl 2 x2 rfl
 have e3:=hnl 3 x3 rfl
 exact ⟨_,rfl,k b ⟨x0,x1,x2,x3,z.ts,z.ls,z.ks,z.pd,z.ds⟩ H' hs ⟨hb',e0.1,e1.1,e2.1,e3.1,nn⟩ ⟨hb,e0.2,e1.2,e2.2,e3.2⟩ rfl rfl rfl rfl rfl⟩
theorem zH {n:Nat}{f:Addr}{fd:FuncData} (F:eX K "_law_take" "_law_take" (top 57) f fd) {g__law_copy:Addr}{gd__law_copy:FuncData} (c__law_copy:gF P w K mg base n "_law_copy" ["_law_state_here"] Jg g__law_copy gd__law_copy):aV P w K mg base eG (n + 1) f fd ["_law_state_here","_law_box"] O1:=by
 refine F.ok qF (fun vs H Q E h=>?_) (fun cdv A outer s H vs Q E hr h=>?_)
 ·obtain ⟨a,i,z,rfl,_⟩:=h
  rfl
 obtain ⟨a,i,z,rfl,h,d9,k9,k⟩:=h
 have nd:=qF.nd
 have hu:=uI hr
 refine ⟨_,(aD (aX (i:=2) nd rfl (Or.inl rfl) (aN c__law_copy hr (aA (pv 0) aC))) (aD (eU (lV PySem.F.plainAttrs_list PySem.F.slot_list_append PySem.F.type_list_append fC (cY hu (pv 2) bO (fun _ _=>rfl)) (aA (pv 1) aC))) (aD (eU (lV PySem.F.plainAttrs_list PySem.F.slot_list_append PySem.F.type_list_append fC (cY hu (pv 2) bO (fun _ _=>rfl)) (aA (dI (aA bO (aA (pv 1) aC))) aC))) (aJ (aR (pv 2)))))),?_⟩
 refine ⟨_,rfl,a,z,rfl,h,fun b z' H1 s1 h1 nw et el ek ep ed=>?_⟩
 have nd:=h1.nd
 simp only [List.nodup_cons,List.mem_cons,List.not_mem_nil,or_false,not_or,not_false_eq_true,List.nodup_nil,and_true] at nd
 obtain ⟨⟨n1,n2,n3⟩,⟨n4,n5⟩,n6⟩:=nd
 refine ⟨_,rfl,b,.ref z'.ka,rfl,gB.k (k:=.inr "kept") h1.hd,.inl ⟨rfl,_,bM.of h1.hk⟩,_,rfl,z'.ka,_,_,rfl,rfl,h1.hk,by rw [List.length_map,ek]; exact aQ (by omega),?_⟩
 have h2:tW (aU H1 z'.ka (.lst (z'.ks.map V.int ++ [V.int (i:Int)]))) b { z' with ks:=z'.ks ++ [(i:Int)] }:=by
  refine ⟨?_,?_,?_,?_,?_,h1.nd⟩
  ·rw [aH (bC h1.hd h1.hk fun z=>nomatch z)]; exact h1.hd
  ·rw [aH n2]; exact h1.hs
  ·rw [aH n4]; exact h1.hc
  ·rw [aB,List.map_append]; rfl
  ·rw [aH (Ne.symm n6)]; exact h1.hq
 have s2:aM H (aU H1 z'.ka (.lst (z'.ks.map V.int ++ [V.int (i:Int)]))):=aM.upd_new s1 nw.k _
 generalize aU H1 z'.ka (.lst (z'.ks.map V.int ++ [V.int (i:Int)]))=H2 at h2 s2 ⊢
 refine ⟨_,rfl,b,.ref z'.da,rfl,gB.k (k:=.inr "deeds") h2.hd,.inl ⟨rfl,_,bM.of h2.hq⟩,_,rfl,tO,fun p hp=>?_⟩
 have n7:=aG hp (.tup [.str "take",.int (i:Int)])
 have h3:=h2.kt (aM.kt n7)
 refine ⟨z'.da,_,.ref p,rfl,rfl,h3.hq,by rw [List.length_map]; show z'.ds.length < _; rw [ed]; exact aQ (by omega),?_⟩
 have h4:tW (aU (aU H2 p (.tup [.str "take",.int (i:Int)])) z'.da (.lst (z'.ds.map V.ref ++ [V.ref p]))) b { z' with ks:=z'.ks ++ [(i:Int)],ds:=z'.ds ++ [p] }:=by
  refine ⟨?_,?_,?_,?_,?_,h1.nd⟩
  ·rw [aH (bC h3.hd h3.hq fun z=>nomatch z)]; exact h3.hd
  ·rw [aH n3]; exact h3.hs
  ·rw [aH n5]; exact h3.hc
  ·rw [aH n6]; exact h3.hk
  ·rw [aB,List.map_append]; rfl
 have hp3:aU H2 p (.tup [.str "take",.int (i:Int)]) p=some (.tup [.str "take",.int (i:Int)]):=aB
 refine ⟨_,rfl,k b _ _ p (aM.upd_new (s2.trans n7) nw.q _) h4 ⟨nw.d,nw.s,nw.c,nw.k,nw.q⟩ et el (by show z'.ks ++ _=_; rw [ek]) ep (by show z'.ds ++ _=_; rw [ed]) ?_⟩
 rw [aH (bC hp3 h3.hq fun z=>nomatch z)]
 exact hp3
theorem Ba {n:Nat}{f:Addr}{fd:FuncData} (F:eX K "_law_had" "_law_had" (top 51) f fd) (z_sum:mg "sum" = none):aV P w K mg base eG (n + 1) f fd ["_law_state_here"] Jk:=by
 refine F.ok sE (fun vs H Q E h=>?_) (fun cdv A outer s H vs Q E hr h=>?_)
 ·obtain ⟨a,z,w,rfl,_⟩:=h
  rfl
 obtain ⟨a,z,w,rfl,h,hw,k9,k⟩:=h
 have nd:=sE.nd
 have hu:=uI hr
 refine ⟨_,(aJ (aR (bA lR (aZ (lC rfl) rfl z_sum qI (aA (cB (ls:=["_law_box"]) (M:=["_law_state_here"]) rfl (bR.of (by rfl)) (NL.of (by rfl)) (cA (cY hu (pv 0) bO (fun _ _=>rfl))) (fun _ _ _ _=>⟨(aW (i:=0) (cQ (by rfl)) rfl (Or.inl rfl)),cT,(bJ (jG (K:=K) rfl) (bJ (pP (K:=K) rfl) (cY hu (pv 1) bO (fun _ _=>rfl)) (pv 0) (fun _ _=>rfl)) aL (fun _ _=>rfl))⟩)) aC)) (cY hu (pv 0) bO (fun _ _=>rfl))))),?_⟩
 refine ⟨_,rfl,a,.ref z.ka,rfl,gB.k (k:=.inr "kept") h.hd,z.ka,rfl,⟨_,bM.of h.hk⟩,fun D hD=>?_⟩
 refine bY (xs:=z.ks.map V.int) (fun i τ H'=>∃ v0,τ = [v0,some (.ref a)] /\ aM H H' /\ H' D=some (.lst (((z.ks.take i).map w).map V.int))) ⟨none,rfl,aG hD _,aB⟩ ?keep ?turn ?done
 case keep =>
  rintro i τ H' hi ⟨v0,rfl,hs,_⟩
  exact bM.of (hs _ _ h.hk)
 case turn =>
  rintro i mm v τ H' hm hi hv ⟨v0,rfl,hs,hD'⟩
  rw [List.getElem?_map] at hv
  cases e:z.ks[i]? with
  | none=>rw [e] at hv; cases hv
  | some b =>
   rw [e] at hv
   cases hv
   obtain ⟨u,t,eb,et,to⟩:=hw b (List.mem_of_getElem? e)
   have h':=h.kt (aM.kt hs)
   cases to with
   | en ht =>
   unfold oG
   refine eZ ?_
   refine ⟨_,rfl,a,.ref z.la,rfl,gB.k (k:=.inr "stands") h'.hd,_,rfl,z.la,_,_,_,rfl,rfl,bM.of h'.hs,(by rw [eb]; exact dG (v:=V.ref t) (by rw [List.getElem?_map,et]; rfl)),t,_,_,_,rfl,rfl,bZ.of (hs _ _ ht),rfl,?_⟩
   refine bG hm hi hD' (by rw [List.length_map,List.length_map]; exact aQ (Nat.le_trans (List.length_take_le' _ _) (by omega))) ⟨_,rfl,hs.upd_new hD _,?_⟩
   rw [aB,bH e,List.map_append,List.map_append]
   rfl
 case done =>
 rintro τ H1 ⟨v0,rfl,s1,hD1⟩
 rw [List.length_map,List.take_length] at hD1
 refine ⟨D,z.ks.map w,rfl,bM.of hD1,?_⟩
 exact ⟨_,rfl,a,.int z.pd,rfl,gB.k (k:=.inr "paid") (s1 _ _ h.hd),_,_,rfl,rfl,k H1 s1⟩
theorem Fe {n i:Nat} (h:i < n):Nf n (i:Int)=some i:=by
 unfold Nf
 rw [if_pos (by omega),if_pos (by omega)]
 rfl
theorem zP {n:Nat}{f:Addr}{fd:FuncData} (F:eX K "_law_open" "_law_open" (top 56) f fd) {c:Cs}{cC:Addr} (ca:yM K c cC) (ck:CK K c) {C_NoDeed:Addr}{f_sd:Addr}{fd_sd:FuncData} (m_sd:dM K cC "stand" f_sd) (G_sd:aV P w K mg base (oX P w) n f_sd fd_sd ["self","box"] (Bh c cC C_NoDeed)) (b_sd:bB K fd_sd ["self","box"] []) {f_res:Addr}{fd_res:FuncData} (m_Sr:dM K c.s "reserve" f_res) (G_res:aV P w K mg base eG n f_res fd_res ["self"] (Jp c)) (b_res:bB K fd_res ["self"] []) {g__law_least:Addr}{gd__law_least:FuncData} (c__law_least:gF P w K mg base n "_law_least" ["_law_one","_law_other"] Ol g__law_least gd__law_least) {g__law_copy:Addr}{gd__law_copy:FuncData} (c__law_copy:gF P w K mg base n "_law_copy" ["_law_state_here"] Jg g__law_copy gd__law_copy):aV P w K mg base eG (n + 1) f fd ["_law_case","_law_state_here","_law_box","_law_row"] (Nh c cC):=by
 refine F.ok pI (fun vs H Q E h=>?_) (fun cdv A outer s H vs Q E hr h=>?_)
 ·obtain ⟨x,a,i,j,q,z,p,rs,d,m,rfl,_⟩:=h
  rfl
 obtain ⟨x,a,i,j,q,z,p,rs,d,m,rfl,hc,h,rel,ei,hj,d9,k⟩:=h
 have nd:=pI.nd
 have hu:=uI hr
 refine ⟨_,(aD (aX (i:=4) nd rfl (Or.inl rfl) (bJ dF (cY hu (pv 1) bO (fun _ _=>rfl)) (pv 2) (fun _ _=>rfl))) (aD (aX (i:=5) nd rfl (Or.inl rfl) (aN c__law_copy hr (aA (pv 1) aC))) (aD (z7 (aN c__law_least hr (aA (bJ dF (cY hu (pv 1) bO (fun _ _=>rfl)) (pv 2) (fun _ _=>rfl)) (aA (bN (fO (pv 0) ca.cl m_sd G_sd hr b_sd .nil nZ (aA (pv 2) aC)) ck.cs m_Sr G_res hr b_res .nil c7) aC))) (zK (cY hu (pv 5) bO (fun _ _=>rfl)) (pv 2) pR)) (aD (zX hu (pv 5) bO (bA fY (cY hu (pv 1) bO (fun _ _=>rfl)) (bJ cO (pv 4) aL (fun _ _=>rfl))) rfl) (aD (z7 (bJ cO (bJ cO (bJ cO (pv 4) aL (fun _ _=>rfl)) (pv 3) (fun _ _=>rfl)) aL (fun _ _=>rfl)) (zK (cY hu (pv 5) bO (fun _ _=>rfl)) (pv 2) pR)) (aD (eU (lV PySem.F.plainAttrs_list PySem.F.slot_list_append PySem.F.type_list_append fC (cY hu (pv 5) bO (fun _ _=>rfl)) (aA (dI (aA bO (aA (pv 2) (aA (pv 3) aC)))) aC))) (aJ (aR (pv 5))))))))),?_⟩
 have n6:=hc.n6
 have es:=hc.es
 have el:=hc.el
 have tl:=rel.tl
 have ll:=rel.ll
 have dl:=rel.dl
 have hi:i < q.ys.length:=by have:=(List.getElem?_eq_some_iff.mp ei).1; omega
 have ey:q.ys[i]? = some q.ys[i]:=List.getElem?_eq_getElem hi
 have st0:=(hc.st i _ _ ey ei).1
 obtain ⟨t,et⟩ : ∃ t,z.ts[i]? = some t:=⟨_,List.getElem?_eq_getElem (show i < z.ts.length by omega)⟩
 obtain ⟨v,ev⟩ : ∃ v,z.ls[i]? = some v:=⟨_,List.getElem?_eq_getElem (show i < z.ls.length by omega)⟩
 have cpe:=rel.cp i _ v (List.getElem?_eq_getElem (show i < q.ls.length by omega)) ev
 have to:=rel.mo i t _ et ei
 cases to with
 | @st _ r _ _ ps zs ht hr lp ly row sub =>
 refine ⟨_,rfl,a,.ref z.la,rfl,gB.k (k:=.inr "stands") h.hd,_,rfl,z.la,_,_,_,rfl,rfl,bM.of h.hs,dG (v:=V.ref t) (by rw [List.getElem?_map,et]; rfl),?_⟩
 refine ⟨_,rfl,a,z,rfl,h,fun b z' H1 s1 h1 nw ets els eks eps eds=>?_⟩
 have hc1:=hc.kt (aM.kt s1)
 have ha1:=h.kt (aM.kt s1)
 have st1:=st0.kp (aM.kp s1)
 have nd:=h1.nd
 simp only [List.nodup_cons,List.mem_cons,List.not_mem_nil,or_false,not_or,not_false_eq_true,List.nodup_nil,and_true] at nd
 obtain ⟨⟨n1,n2,n3⟩,⟨n4,n5⟩,n6'⟩:=nd
 have cpe1:Ud H1 _ v:=cpe.keep fun b xs e=>s1 _ _ e
 refine ⟨_,rfl,a,.ref z.ca,rfl,gB.k (k:=.inr "caps") ha1.hd,_,rfl,z.ca,_,_,_,rfl,rfl,bM.of ha1.hc,dG ev,_,rfl,x,_,_,rfl,hc1.hx,rfl,_,rfl,x,.int (i:Int),q,true,rfl,hc1,lU.yes (by omega) (by omega),fun j0 y e1 e2=>?_,(fun z=>nomatch z)⟩
 obtain rfl:i=j0:=by injection e1 with e1; omega
 rw [ey] at e2
 cases e2
 have st2:=st1
 cases st2 with
 | @st _ dx l0 cp0 r0 _ n' k' lv2 d0 _ jj xs _ ps2 zs2 hh vv g lp2 ly2 row2 sub2 p0 p9 ne l4 ww hk =>
 refine' Xw (fun L=>NP H1 v (.ref L) (.st p rs) (d0 + 1)) (fun fW=>?main) ?rst
 case main =>
  refine ⟨q.ys[i],_,_,rfl,hh,rfl,q.ys[i],.st p rs,_,m,rfl,st1,fun l lv tq lw rv=>?_⟩
  refine ⟨v,l,lv,rfl,tq,lw,?_⟩
  have cpd:=cpe1
  rcases cpd with ⟨_,e⟩ | ⟨a0,b0,lvb,_,e,_,tb,lwb⟩
  ·exact .inl ⟨e,fW l ⟨l,lv,lv,rfl,tq,lw,rv,.inl ⟨e,rfl⟩⟩⟩
  ·refine .inr ⟨b0,lvb,e,tb,lwb,fun hlt=>fW l ⟨l,lv,lv,rfl,tq,lw,rv,.inr ⟨b0,lvb,e,tb,lwb,(if_pos hlt).symm⟩⟩,fun hlt=>?_⟩
   rw [e]
   have e':v = .ref b0:=e
   exact fW b0 ⟨b0,lvb,lv,rfl,tb,lw,rv,.inr ⟨b0,lvb,e',tb,lwb,(if_neg hlt).symm⟩⟩
 case rst =>
 rintro L lc
 refine ⟨_,rfl,b,.ref z'.ca,rfl,gB.k (k:=.inr "caps") h1.hd,_,rfl,z'.ca,_,_,i,rfl,rfl,h1.hc,Fe (by rw [els]; omega),?_⟩
 have h2:tW (aU H1 z'.ca (.lst (z'.ls.set i (.ref L)))) b { z' with ls:=z'.ls.set i (.ref L) }:=by
  refine ⟨?_,?_,aB,?_,?_,h1.nd⟩
  ·rw [aH (bC h1.hd h1.hc fun z=>nomatch z)]; exact h1.hd
  ·rw [aH n1]; exact h1.hs
  ·rw [aH (Ne.symm n4)]; exact h1.hk
  ·rw [aH (Ne.symm n5)]; exact h1.hq
 have s2:aM H (aU H1 z'.ca (.lst (z'.ls.set i (.ref L)))):=aM.upd_new s1 nw.c _
 have kt2:∀ b xs,H1 b=some (.tup xs)->aU H1 z'.ca (.lst (z'.ls.set i (.ref L))) b=some (.tup xs):=fun b' xs e=>by rw [aH (bC e h1.hc fun z=>nomatch z)]; exact e
 generalize aU H1 z'.ca (.lst (z'.ls.set i (.ref L)))=H2 at h2 s2 kt2 ⊢
 refine ⟨_,rfl,a,.int z.pd,rfl,gB.k (k:=.inr "paid") (s2 _ _ h.hd),_,rfl,t,_,_,_,rfl,rfl,bZ.of (s2 _ _ ht),rfl,_,_,rfl,rfl,_,rfl,b,_,rfl,.inl ⟨_,.inr "paid",h2.hd,rfl,aQ (Nat.le_of_ble_eq_true rfl),rfl⟩,?_⟩
 have h3:tW (aU H2 b (.dK (jB (Ld { z' with ls:=z'.ls.set i (.ref L) }) (.inr "paid") (.int (z.pd + p))))) b { z' with ls:=z'.ls.set i (.ref L),pd:=z.pd + p }:=by
  have ex:∀ {c:Addr}{xs:List V}{o:HO},H2 c=some (.lst xs)->aU H2 b o c=some (.lst xs):=fun {c xs o} e=>by rw [aH (bC e h2.hd fun z=>nomatch z)]; exact e
  exact ⟨by rw [aB]; rfl,ex h2.hs,ex h2.hc,ex h2.hk,ex h2.hq,h1.nd⟩
 have s3:=aM.upd_new s2 nw.d (.dK (jB (Ld { z' with ls:=z'.ls.set i (.ref L) }) (.inr "paid") (.int (z.pd + p))))
 have kt3:∀ c xs,H2 c=some (.tup xs)->aU H2 b (.dK (jB (Ld { z' with ls:=z'.ls.set i (.ref L) }) (.inr "paid") (.int (z.pd + p)))) c=some (.tup xs):=fun c xs e=>by rw [aH (bC e h2.hd fun z=>nomatch z)]; exact e
 generalize aU H2 b (.dK (jB (Ld { z' with ls:=z'.ls.set i (.ref L) }) (.inr "paid") (.int (z.pd + p))))=H3 at h3 s3 kt3 ⊢
 have ep:ps[j]? = some (ps[j]'(by omega)):=List.getElem?_eq_getElem _
 have ez:zs[j]? = some (zs[j]'(by omega)):=List.getElem?_eq_getElem _
 have er:rs[j]? = some rs[j]:=List.getElem?_eq_getElem hj
 have rw3:=s3 _ _ (row j _ _ _ ep ez er)
 have to3:=(sub j _ _ ez er).same s3
 generalize zs[j]'(by omega)=y' at ez rw3 to3
 generalize ps[j]'(by omega)=pp at ep rw3
 refine ⟨_,rfl,t,_,_,_,rfl,rfl,bZ.of (s3 _ _ ht),rfl,_,rfl,r,_,_,_,rfl,rfl,bZ.of (s3 _ _ hr),dG (v:=V.ref pp) (by rw [List.getElem?_map,ep]; rfl),pp,_,_,_,rfl,rfl,bZ.of rw3,rfl,?_⟩
 refine ⟨_,rfl,b,.ref z'.la,rfl,gB.k (k:=.inr "stands") h3.hd,_,rfl,z'.la,_,_,i,rfl,rfl,h3.hs,Fe (by rw [List.length_map]; show i < z'.ts.length; rw [ets]; omega),?_⟩
 have h4:tW (aU H3 z'.la (.lst ((z'.ts.map V.ref).set i (.ref y')))) b { z' with ls:=z'.ls.set i (.ref L),pd:=z.pd + p,ts:=z'.ts.set i y' }:=by
  refine ⟨?_,by rw [aB,List.map_set],?_,?_,?_,h1.nd⟩
  ·rw [aH (bC h3.hd h3.hs fun z=>nomatch z)]; exact h3.hd
  ·rw [aH (Ne.symm n1)]; exact h3.hc
  ·rw [aH (Ne.symm n2)]; exact h3.hk
  ·rw [aH (Ne.symm n3)]; exact h3.hq
 have s4:=aM.upd_new s3 nw.s (.lst ((z'.ts.map V.ref).set i (.ref y')))
 have kt4:∀ c xs,H3 c=some (.tup xs)->aU H3 z'.la (.lst ((z'.ts.map V.ref).set i (.ref y'))) c=some (.tup xs):=fun c xs e=>by rw [aH (bC e h3.hs fun z=>nomatch z)]; exact e
 have hs3:=h3.hs
 generalize aU H3 z'.la (.lst ((z'.ts.map V.ref).set i (.ref y')))=H4 at h4 s4 kt4 ⊢
 refine ⟨_,rfl,b,.ref z'.da,rfl,gB.k (k:=.inr "deeds") h4.hd,.inl ⟨rfl,_,bM.of h4.hq⟩,_,rfl,_,rfl,RM,fun pd hpd=>?_⟩
 have n7:=aG hpd (.tup [.str "open",.int (i:Int),.int (j:Int)])
 have h5:=h4.kt (aM.kt n7)
 refine ⟨z'.da,_,.ref pd,rfl,rfl,h5.hq,by rw [List.length_map]; show z'.ds.length < _; rw [eds]; exact aQ (by omega),?_⟩
 have h6:tW (aU (aU H4 pd (.tup [.str "open",.int (i:Int),.int (j:Int)])) z'.da (.lst (z'.ds.map V.ref ++ [V.ref pd]))) b { z' with ls:=z'.ls.set i (.ref L),pd:=z.pd + p,ts:=z'.ts.set i y',ds:=z'.ds ++ [pd] }:=by
  refine ⟨?_,?_,?_,?_,?_,h1.nd⟩
  ·rw [aH (bC h5.hd h5.hq fun z=>nomatch z)]; exact h5.hd
  ·rw [aH n3]; exact h5.hs
  ·rw [aH n5]; exact h5.hc
  ·rw [aH n6']; exact h5.hk
  ·rw [aB,List.map_append]; rfl
 have kt6:∀ c xs,H4 c=some (.tup xs)->aU (aU H4 pd (.tup [.str "open",.int (i:Int),.int (j:Int)])) z'.da (.lst (z'.ds.map V.ref ++ [V.ref pd])) c=some (.tup xs):=fun c xs e=>by rw [aH (bC (n7 _ _ e) h5.hq fun z=>nomatch z)]; exact n7 _ _ e
 have hp6:aU H4 pd (.tup [.str "open",.int (i:Int),.int (j:Int)]) pd=some (.tup [.str "open",.int (i:Int),.int (j:Int)]):=aB
 have kt16:∀ c xs,H1 c=some (.tup xs)->aU (aU H4 pd (.tup [.str "open",.int (i:Int),.int (j:Int)])) z'.da (.lst (z'.ds.map V.ref ++ [V.ref pd])) c=some (.tup xs):=fun c xs e=>kt6 _ _ (kt4 _ _ (kt3 _ _ (kt2 _ _ e)))
 refine ⟨_,rfl,k b _ _ y' pd v (.ref L) rs[j] (aM.upd_new (s4.trans n7) nw.q _) h6 ⟨nw.d,nw.s,nw.c,nw.k,nw.q⟩ er (to3.keep fun c xs e=>kt6 _ _ (kt4 _ _ e)) (by show z'.ts.set i y'=_; rw [ets]) ev ?_ (by show z'.ls.set i _=_; rw [els]) eks rfl (by show z'.ds ++ _=_; rw [eds]) ?_⟩
 ·obtain ⟨L',lv',rv',e1,t1,w1,r1,c1⟩:=lc
  refine ⟨L',lv',rv',e1,kt16 _ _ t1,w1,r1,?_⟩
  rcases c1 with c1 | ⟨a1,lva,c1,c2,c3⟩
  ·exact .inl c1
  ·exact .inr ⟨a1,lva,c1,kt16 _ _ c2,c3⟩
 ·rw [aH (bC hp6 h5.hq fun z=>nomatch z)]
  exact hp6
theorem vX {n:Nat}{f:Addr}{fd:FuncData} (F:eX K "kept" "Case.kept" (aF (top 37) 5) f fd) {c:Cs}{cC:Addr} (ca:yM K c cC) {f_hm:Addr}{fd_hm:FuncData} (m_hm:dM K cC "how_many" f_hm) (G_hm:aV P w K mg base eG n f_hm fd_hm ["self"] (K4 c cC)) (b_hm:bB K fd_hm ["self"] []) (z_range:mg "range" = none):aV P w K mg base eG (n + 1) f fd ["self"] (Fw c cC):=by
 refine F.ok jL (fun vs H Q E h=>?_) (fun cdv A outer s H vs Q E hr h=>?_)
 ·obtain ⟨x,q,rfl,_⟩:=h
  rfl
 obtain ⟨x,q,rfl,h,k⟩:=h
 have nd:=jL.nd
 refine ⟨_,(aJ (aR (cB (ls:=["box"]) (M:=["self"]) rfl (bR.of (by rfl)) (NL.of (by rfl)) (iD rfl z_range (aA (bN (pv 0) ca.cl m_hm G_hm hr b_hm .nil c7) aC)) (fun _ _ _ _=>⟨(aW (i:=0) (cQ (by rfl)) rfl (Or.inl rfl)),(tU (dH (bJ (jG (K:=K) rfl) (uB (K:=K) rfl (pv 1) rfl) (pv 0) (fun _ _=>rfl)))),(pv 0)⟩)))),?_⟩
 have n6:=h.n6
 refine ⟨_,rfl,x,_,_,rfl,h.hx,rfl,x,q,rfl,h,(q.ys.length:Int),rfl,by omega,by omega,fun D hD=>?_⟩
 refine lO (n:=(q.ys.length:Int).toNat) (fun i τ H'=>∃ v0,τ = [v0,some (.ref x)] /\ aM H H' /\ H' D=some (.lst ((((List.range i).filter fun j=>q.bs.getD j false).map Int.ofNat).map V.int))) ⟨none,rfl,aG hD _,aB⟩ ?turn ?done
 case turn =>
  rintro i m τ H' hm hi ⟨v0,rfl,hs,hD'⟩
  have h':=h.kt (aM.kt hs)
  have hib:i < q.bs.length:=by rw [h.eb]; omega
  have eb:q.bs[i]? = some (q.bs.getD i false):=by rw [List.getElem?_eq_getElem hib,fQ hib]
  refine ⟨_,rfl,x,cC,_,_,_,rfl,h'.hx,ca.cl,ca.nh,rfl,_,rfl,q.th,_,_,_,rfl,rfl,bZ.of h'.hh,(by rw [Int.zero_add]; exact dG (v:=V.bl (q.bs.getD i false)) (by rw [List.getElem?_map,eb]; rfl)),?_⟩
  cases e:q.bs.getD i false with
  | false =>
   refine ⟨_,rfl,?_⟩
   refine t8 rfl ?_
   refine nF hm hi ⟨_,rfl,hs,?_⟩
   rw [List.range_succ,List.filter_append,show [i].filter (fun j=>q.bs.getD j false)=[] by rw [List.filter_cons,e]; rfl,List.append_nil]
   exact hD'
  | true =>
   refine ⟨_,rfl,?_⟩
   refine zW rfl ?_
   refine ⟨_,rfl,?_⟩
   refine bG hm hi hD' (by rw [List.length_map,List.length_map]; exact aQ (Nat.le_trans (List.length_filter_le _ _) (by rw [List.length_range]; omega))) ⟨_,rfl,hs.upd_new hD _,?_⟩
   rw [aB,List.range_succ,List.filter_append,show [i].filter (fun j=>q.bs.getD j false)=[i] by rw [List.filter_cons,e]; rfl,List.map_append,List.map_append]
   show some (HO.lst (_ ++ [V.int (0 + (i:Int))]))=_
   rw [Int.zero_add]
   rfl
 case done =>
  rintro τ H' ⟨v0,rfl,hs,hD'⟩
  exact k D H' hs hD hD'
theorem vA {n:Nat}{f:Addr}{fd:FuncData} (F:eX K "deeds" "Case.deeds" (aF (top 37) 8) f fd) {c:Cs}{cC:Addr} (ca:yM K c cC) (z_list:mg "list" = none):aV P w K mg base eG (n + 1) f fd ["self"] (Jh c cC):=by
 refine F.ok iM (fun vs H Q E h=>?_) (fun cdv A outer s H vs Q E hr h=>?_)
 ·obtain ⟨x,q,rfl,_⟩:=h
  rfl
 obtain ⟨x,q,rfl,h,k⟩:=h
 have nd:=iM.nd
 refine ⟨_,(aJ (aR (cU gA rfl z_list gR (aA (cV (pv 0) rfl) aC)))),?_⟩
 refine ⟨_,rfl,x,cC,_,_,_,rfl,h.hx,ca.cl,ca.nd,rfl,?_⟩
 refine ⟨q.td,_,rfl,.inr (bZ.of h.hd),fun r hr0=>?_⟩
 exact k r _ (aG hr0 _) hr0 aB
theorem Eg {n:Nat}{f:Addr}{fd:FuncData} (F:eX K "_law_is" "_law_is" (top 54) f fd) {c:Cs}{cC:Addr} (ca:yM K c cC) (ck:CK K c) {C_NoDeed:Addr}{f_hm:Addr}{fd_hm:FuncData} (m_hm:dM K cC "how_many" f_hm) (G_hm:aV P w K mg base eG n f_hm fd_hm ["self"] (K4 c cC)) (b_hm:bB K fd_hm ["self"] []) {f_sd:Addr}{fd_sd:FuncData} (m_sd:dM K cC "stand" f_sd) (G_sd:aV P w K mg base (oX P w) n f_sd fd_sd ["self","box"] (Bh c cC C_NoDeed)) (b_sd:bB K fd_sd ["self","box"] []) {f_cp:Addr}{fd_cp:FuncData} (m_cp:dM K cC "cap" f_cp) (G_cp:aV P w K mg base (oX P w) n f_cp fd_cp ["self","box"] (Ei c cC C_NoDeed)) (b_cp:bB K fd_cp ["self","box"] []) {f_Et:Addr}{fd_Et:FuncData} (m_Et:dM K c.e "told" f_Et) (G_Et:aV P w K mg base eG n f_Et fd_Et ["self"] (GZ c)) (b_Et:bB K fd_Et ["self"] []) {f_St:Addr}{fd_St:FuncData} (m_St:dM K c.s "told" f_St) (G_St:aV P w K mg base eG n f_St fd_St ["self"] (J5 c 5)) (b_St:bB K fd_St ["self"] []) {f_pd:Addr}{fd_pd:FuncData} (m_pd:dM K cC "paid" f_pd) (G_pd:aV P w K mg base eG n f_pd fd_pd ["self"] (KZ c cC)) (b_pd:bB K fd_pd ["self"] []) {f_hd:Addr}{fd_hd:FuncData} (m_hd:dM K cC "had" f_hd) (G_hd:aV P w K mg base eG n f_hd fd_hd ["self"] (Oc c cC)) (b_hd:bB K fd_hd ["self"] []) {f_kp:Addr}{fd_kp:FuncData} (m_kp:dM K cC "kept" f_kp) (G_kp:aV P w K mg base eG n f_kp fd_kp ["self"] (Fw c cC)) (b_kp:bB K fd_kp ["self"] []) {f_ds:Addr}{fd_ds:FuncData} (m_ds:dM K cC "deeds" f_ds) (G_ds:aV P w K mg base eG n f_ds fd_ds ["self"] (Jh c cC)) (b_ds:bB K fd_ds ["self"] []) {g__law_deeds:Addr}{gd__law_deeds:FuncData} (c__law_deeds:gF P w K mg base n "_law_deeds" ["_law_found","_law_due"] Og g__law_deeds gd__law_deeds) {g__law_numbers:Addr}{gd__law_numbers:FuncData} (c__law_numbers:gF P w K mg base n "_law_numbers" ["_law_found","_law_due"] O8 g__law_numbers gd__law_numbers) {g__law_had:Addr}{gd__law_had:FuncData} (c__law_had:gF P w K mg base n "_law_had" ["_law_state_here"] Jk g__law_had gd__law_had) {g__law_whole:Addr}{gd__law_whole:FuncData} (c__law_whole:gF P w K mg base n "_law_whole" ["_law_found"] qY g__law_whole gd__law_whole) (z_sorted:mg "sorted" = none) (z_range:mg "range" = none) (z_len:mg "len" = none):aV P w K mg base eG (n + 1) f fd ["_law_case","_law_state_here"] (RW c cC):=by
 refine F.ok vJ (fun vs H Q E h=>?_) (fun cdv A outer s H vs Q E hr h=>?_)
 ·obtain ⟨x,a,q,z,rfl,_⟩:=h
  rfl
 obtain ⟨x,a,q,z,rfl,hc,h,rel,k⟩:=h
 have nd:=vJ.nd
 have hu:=uI hr
 have hu0:=eV.units0 hr
 have hu15:_ + 13 + 1 < cLine:=Nat.lt_of_le_of_lt (Nat.add_le_add_left (by decide:14 <= 64) _) (eV.units hr)
 refine ⟨_,(aD (aX (i:=2) nd rfl (Or.inl rfl) (bN (pv 0) ca.cl m_hm G_hm hr b_hm .nil c7)) (aD (eF (PW.pt (iU (fG (dH (aN c__law_whole hr (aA (pv 2) aC)))) (gC (bV uY (pv 2) (aZ cI rfl z_len jA (aA (cY hu (pv 1) bO (fun _ _=>rfl)) aC)) (cM _))))) (aJ (aR gW)) bU) (aD (jD PassesOwn.never rfl (iD rfl z_range (aA (pv 2) aC)) (aW (i:=3) nd rfl (Or.inl rfl)) (aJ (eF (PW.pt (iU (bV (Dt (n:=13) hu15) (gZ (bN (fO (pv 0) ca.cl m_sd G_sd hr b_sd .nil nZ (aA (pv 3) aC)) ck.ce m_Et G_Et hr b_Et .nil c7) (bN (fO (pv 0) ca.cl m_sd G_sd hr b_sd .nil nZ (aA (pv 3) aC)) ck.cs m_St G_St hr b_St .nil c7)) (bJ dF (cY hu (pv 1) bO (fun _ _=>rfl)) (pv 3) (fun _ _=>rfl)) (cM _)) (gC (bV (QK uY (QQ hu0)) (fO (pv 0) ca.cl m_cp G_cp hr b_cp .nil nZ (aA (pv 3) aC)) (bJ dF (cY hu (pv 1) bO (fun _ _=>rfl)) (pv 3) (fun _ _=>rfl)) (cM _))))) (aJ (aR gW)) bU))) (aD (eF (PW.pt (iU (fG (dH (aN c__law_whole hr (aA (bN (pv 0) ca.cl m_pd G_pd hr b_pd .nil c7) aC)))) (gC (bV uY (bN (pv 0) ca.cl m_pd G_pd hr b_pd .nil c7) (cY hu (pv 1) bO (fun _ _=>rfl)) (cM _))))) (aJ (aR gW)) bU) (aD (eF (PW.pt (iU (fG (dH (aN c__law_whole hr (aA (bN (pv 0) ca.cl m_hd G_hd hr b_hd .nil c7) aC)))) (gC (bV uY (bN (pv 0) ca.cl m_hd G_hd hr b_hd .nil c7) (aN c__law_had hr (aA (pv 1) aC)) (cM _))))) (aJ (aR gW)) bU) (aJ (aR (uT (aN c__law_numbers hr (aA (bN (pv 0) ca.cl m_kp G_kp hr b_kp .nil c7) (aA (aZ (wM (K:=K) rfl) rfl z_sorted yK (aA (cY hu (pv 1) bO (fun _ _=>rfl)) aC)) aC))) (vM (aN c__law_deeds hr (aA (bN (pv 0) ca.cl m_ds G_ds hr b_ds .nil c7) (aA (cY hu (pv 1) bO (fun _ _=>rfl)) aC)))))))))))),?_⟩
 have n6:=hc.n6
 have es:=hc.es
 have el:=hc.el
 have tl:=rel.tl
 have ll:=rel.ll
 have dl:=rel.dl
 have d9:=hc.d9
 refine ⟨_,rfl,x,_,_,rfl,hc.hx,rfl,x,q,rfl,hc,?_⟩
 refine ⟨_,rfl,_,rfl,_,rfl,?_⟩
 refine fH ?_
 refine ⟨_,rfl,_,rfl,a,.ref z.la,rfl,gB.k (k:=.inr "stands") h.hd,z.la,_,rfl,.inl (bM.of h.hs),rfl,_,rfl,?_⟩
 refine t8 (by rw [List.length_map,tl]; simp) ?_
 refine ⟨_,rfl,(q.ys.length:Int),rfl,by omega,by omega,?_⟩
 refine qX (n:=(q.ys.length:Int).toNat) (fun i σ H'=>∃ v3,σ = [some (.ref x),some (.ref a),some (.int (q.ys.length:Int)),v3] /\ aM H H') ⟨none,rfl,aM.refl _⟩ ?turn ?done
 case turn =>
  rintro i σ H1 hi ⟨v3,rfl,s1⟩
  have hiy:i < q.ys.length:=by omega
  have hc1:=hc.kt (aM.kt s1)
  have ey:q.ys[i]? = some q.ys[i]:=List.getElem?_eq_getElem hiy
  have ei:q.ss[i]? = some (q.ss[i]'(by omega)):=List.getElem?_eq_getElem _
  obtain ⟨st,d4,m12⟩:=hc1.st i _ _ ey ei
  obtain ⟨t,et⟩ : ∃ t,z.ts[i]? = some t:=⟨_,List.getElem?_eq_getElem (show i < z.ts.length by omega)⟩
  obtain ⟨v,ev⟩ : ∃ v,z.ls[i]? = some v:=⟨_,List.getElem?_eq_getElem (show i < z.ls.length by omega)⟩
  obtain ⟨l,eL⟩ : ∃ l,q.ls[i]? = some l:=⟨_,List.getElem?_eq_getElem (show i < q.ls.length by omega)⟩
  refine Oj st (n:=5) (by omega) (fun R hR=>⟨_,rfl,x,_,_,rfl,hc1.hx,rfl,_,rfl,x,.int (0 + (i:Int)),q,true,rfl,hc1,lU.yes (by omega) (by omega),fun j0 y0 e1 e2=>by obtain rfl:i=j0:=(by injection e1 with e1; omega); rw [ey] at e2; cases e2; exact hR,(fun z=>nomatch z)⟩) fun r H2 s2 to2=>?_
  have pB:=s1.trans s2
  have h2:=h.kt (aM.kt pB)
  have hc2:=hc.kt (aM.kt pB)
  have atT:Gk (z.ts.map V.ref) (0 + (i:Int))=some (V.ref t):=by rw [Int.zero_add]; exact dG (by rw [List.getElem?_map,et]; rfl)
  have atC:Gk z.ls (0 + (i:Int))=some v:=by rw [Int.zero_add]; exact dG ev
  obtain ⟨kk,de,hk⟩:=Fy (K:=K) (n:=14) st.ok to2 ((rel.mo i t _ et ei).same pB) (by omega)
  rw [hk.mpr rfl] at de
  refine ⟨_,rfl,a,.ref z.la,rfl,gB.k (k:=.inr "stands") h2.hd,_,rfl,z.la,_,_,_,rfl,rfl,bM.of h2.hs,atT,r,t,true,rfl,rfl,de,_,rfl,?_⟩
  refine fH ?_
  refine ⟨_,rfl,x,_,_,rfl,hc2.hx,rfl,_,rfl,x,.int (0 + (i:Int)),q,true,rfl,hc2,lU.yes (by omega) (by omega),fun j0 y0 e1 e2=>?_,(fun z=>nomatch z)⟩
  obtain rfl:i=j0:=by injection e1 with e1; omega
  rw [eL] at e2
  cases e2
  refine ⟨_,rfl,a,.ref z.ca,rfl,gB.k (k:=.inr "caps") h2.hd,_,rfl,z.ca,_,_,_,rfl,rfl,bM.of h2.hc,atC,?_⟩
  rcases rel.cp i l v eL ev with ⟨rfl,rfl⟩ | ⟨a1,b1,lv,rfl,rfl,t1,t2,_⟩
  ·refine .inl ⟨rfl,_,rfl,?_⟩
   refine t8 (by simp) ?_
   exact ⟨_,rfl,pB⟩
  ·refine .inr ⟨a1,b1,[lv.1,lv.2],[lv.1,lv.2],rfl,rfl,bZ.of (pB _ _ t1),bZ.of (pB _ _ t2),_,rfl,?_⟩
   refine t8 (by simp) ?_
   exact ⟨_,rfl,pB⟩
 case done =>
 rintro σ H1 ⟨v3,rfl,s1⟩
 have hc1:=hc.kt (aM.kt s1)
 have h1:=h.kt (aM.kt s1)
 refine ⟨_,rfl,x,_,_,rfl,hc1.hx,rfl,x,q,rfl,hc1,_,rfl,_,rfl,?_⟩
 refine fH ?_
 refine ⟨_,rfl,x,_,_,rfl,hc1.hx,rfl,x,q,rfl,hc1,_,rfl,a,.int z.pd,rfl,gB.k (k:=.inr "paid") h1.hd,rfl,_,rfl,?_⟩
 refine t8 (by rw [rel.pd]; simp) ?_
 refine ⟨_,rfl,x,_,_,rfl,hc1.hx,rfl,x,q,rfl,hc1,fun H2 s2=>⟨_,rfl,_,rfl,?_⟩⟩
 refine fH ?_
 have pB:=s1.trans s2
 have hc2:=hc.kt (aM.kt pB)
 refine ⟨_,rfl,x,_,_,rfl,hc2.hx,rfl,x,q,rfl,hc2,fun H3 s3=>?_⟩
 have o9:=pB.trans s3
 have h3:=h.kt (aM.kt o9)
 refine ⟨_,rfl,a,z,(fun b=>NQ q.ss[b.toNat]?),rfl,h3,fun b hb=>?_,?_,fun H4 s4=>?_⟩
 ·obtain ⟨i,u,d,m,e1,hl,e2,e3⟩:=Nb hc (rel.kk.subset hb)
  obtain ⟨t,et⟩ : ∃ t,z.ts[i]? = some t:=⟨_,List.getElem?_eq_getElem (show i < z.ts.length by omega)⟩
  have to:=(rel.mo i t _ et e2).same o9
  exact ⟨i,t,e1,et,by show fK H3 t (.en (NQ q.ss[b.toNat]?)); rw [e3]; exact to⟩
 ·rw [rel.kk.length_eq]
  unfold dR jF
  rw [List.length_map]
  exact Nat.le_trans (List.length_filter_le _ _) (by rw [List.length_range]; omega)
 refine ⟨rfl,_,rfl,?_⟩
 refine t8 (by rw [rel.pd,Pk rel.kk]; simp) ?_
 have sY:=o9.trans s4
 have hc4:=hc.kt (aM.kt sY)
 refine ⟨_,rfl,x,_,_,rfl,hc4.hx,rfl,x,q,rfl,hc4,fun lk H5 s5 hlk5 hlk=>?_⟩
 have Q0:=sY.trans s5
 have h5:=h.kt (aM.kt Q0)
 refine ⟨_,rfl,a,.ref z.ka,rfl,gB.k (k:=.inr "kept") h5.hd,z.ka,_,rfl,.inl (bM.of h5.hk),.inl ?_,fun l2 ms hl2 pm so=>?_⟩
 ·rw [rel.kk.length_eq]
  unfold dR jF
  rw [List.length_map]
  exact Nat.lt_of_le_of_lt (Nat.le_trans (List.length_filter_le _ _) (by rw [List.length_range]; exact n6)) (by decide)
 have em:=Bm pm rel.kk so
 subst em
 have n6':=aG hl2 (.lst ((dR q).map V.int))
 refine ⟨lk,l2,dR q,rfl,n6' _ _ hlk,aB,?_,fun H7 kx7=>?_⟩
 ·unfold dR jF
  rw [List.length_map]
  exact Nat.le_trans (List.length_filter_le _ _) (by rw [List.length_range]; omega)
 have s17:aM H H7:=fun b o e=>kx7 b o (aO e (sY.free hlk5)) (n6' _ _ (Q0 _ _ e))
 refine ⟨_,rfl,?_⟩
 refine iI ?_
 have hc7:=hc.kt (aM.kt s17)
 refine ⟨_,rfl,x,_,_,rfl,hc7.hx,rfl,x,q,rfl,hc7,fun ld H8 s8 hld7 hld=>?_⟩
 have s18:=s17.trans s8
 have h8:=h.kt (aM.kt s18)
 refine ⟨_,rfl,a,.ref z.da,rfl,gB.k (k:=.inr "deeds") h8.hd,ld,z.da,q.ds,z.ds,rfl,hld,h8.hq,dl.symm,by omega,fun i u v e1 e2=>(rel.dd i u v e1 e2).keep fun b xs e=>s18 _ _ e,fun H9 kx9=>?_⟩
 exact k H9 fun b o e=>kx9 b o (aO e (s17.free hld7)) (s18 _ _ e)
theorem Q4 {n:Nat}{f:Addr}{fd:FuncData} (F:eX K "law" "law" (top 58) f fd) {c:Cs}{cC:Addr} (ca:yM K c cC) (ck:CK K c) {C_NoBox:Addr}{iC:Addr}{dC:FuncData}{kC:Nat} (M_Case:Mk K cC iC) (G_Case:aV P w K mg base (oX P w) kC iC dC ["self","boxes"] (Iz c cC K C_NoBox)) (b_Case:bB K dC ["self","boxes"] []) (g_Case:mg "Case" = some (.ref cC)) (hn_Case:kC + 1 <= n) {f_op:Addr}{fd_op:FuncData} (m_op:dM K cC "opened" f_op) (G_op:aV P w K mg base (oX P w) n f_op fd_op ["self","box","row"] (Ob c cC)) (b_op:bB K fd_op ["self","box","row"] []) {f_tk:Addr}{fd_tk:FuncData} (m_tk:dM K cC "taken" f_tk) (G_tk:aV P w K mg base (oX P w) n f_tk fd_tk ["self","box"] (O2 c cC)) (b_tk:bB K fd_tk ["self","box"] []) {g__law_is:Addr}{gd__law_is:FuncData} (c__law_is:gF P w K mg base n "_law_is" ["_law_case","_law_state_here"] (RW c cC) g__law_is gd__law_is) {g__law_open:Addr}{gd__law_open:FuncData} (c__law_open:gF P w K mg base n "_law_open" ["_law_case","_law_state_here","_law_box","_law_row"] (Nh c cC) g__law_open gd__law_open) {g__law_take:Addr}{gd__law_take:FuncData} (c__law_take:gF P w K mg base n "_law_take" ["_law_state_here","_law_box"] O1 g__law_take gd__law_take) {g__law_state:Addr}{gd__law_state:FuncData} (c__law_state:gF P w K mg base n "_law_state" ["_law_models_here"] Ng g__law_state gd__law_state) {g__law_boxes:Addr}{gd__law_boxes:FuncData} (c__law_boxes:gF P w K mg base n "_law_boxes" ["_law_models_here"] (Nq c Pt iY) g__law_boxes gd__law_boxes) {g__law_models:Addr}{gd__law_models:FuncData} (c__law_models:gF P w K mg base n "_law_models" ["_law_script","_law_many"] (Nt K) g__law_models gd__law_models) {g__law_cell_at:Addr}{gd__law_cell_at:FuncData} (c__law_cell_at:gF P w K mg base n "_law_cell_at" ["_law_script","_law_k"] (Gx K) g__law_cell_at gd__law_cell_at) (z_len:mg "len" = none):aV P w K mg base eG (n + 1) f fd ["_law_script"] (tZ K Pt iY):=by
 refine F.ok J9 (fun vs H Q E h=>?_) (fun cdv A outer s H vs Q E hr h=>?_)
 ·obtain ⟨a,ns,rfl,_⟩:=h
  rfl
 obtain ⟨a,ns,rfl,hS,hlen,hT0,q⟩:=h
 have nd:=J9.nd
 have hu:=uI hr
 refine ⟨_,(aD (aX (i:=1) nd rfl (Or.inl rfl) (bA fY aL (bA iG (aN c__law_cell_at hr (aA (pv 0) (aA aL aC))) aL))) (aD (aX (i:=2) nd rfl (Or.inl rfl) (aN c__law_models hr (aA (pv 0) (aA (pv 1) aC)))) (aD (aX (i:=3) nd rfl (Or.inl rfl) (aN c__law_boxes hr (aA (pv 2) aC))) (aD (aX (i:=4) nd rfl (Or.inl rfl) (t7 M_Case G_Case (hr.mono hn_Case) rfl g_Case b_Case .nil nZ (aA (pv 3) aC))) (aD (eU (QH PySem.F.plainAttrs_list PySem.F.slot_list_clear PySem.F.type_list_clear Jj (pv 3))) (aD (aX (i:=5) nd rfl (Or.inl rfl) (aN c__law_state hr (aA (pv 2) aC))) (aD (aX (i:=6) nd rfl (Or.inl rfl) (gU (aA (dI (aA (pv 4) (aA (pv 5) aC))) aC))) (aD (jD PassesOwn.never rfl (cA (vL MT (pv 0) (uC aL) (uC aL))) (aW (i:=7) nd rfl (Or.inl rfl)) (aD (aX (i:=8) nd rfl (Or.inl rfl) (bA iG (pv 7) (pv 1))) (aD (aX (i:=9) nd rfl (Or.inl rfl) (bJ dF (cY hu (pv 5) bO (fun _ _=>rfl)) (pv 8) (fun _ _=>rfl))) (aD (eF (bV uH (bJ cO (pv 9) aL (fun _ _=>rfl)) bO (cM _)) (aD (aX (i:=10) nd rfl (Or.inl rfl) (bA iG (bA tM (pv 7) (pv 1)) (aZ cI rfl z_len jA (aA (bJ cO (pv 9) aL (fun _ _=>rfl)) aC)))) (aD (aX (i:=5) nd rfl (Or.inl rfl) (aN c__law_open hr (aA (pv 4) (aA (pv 5) (aA (pv 8) (aA (pv 10) aC)))))) (aD (aX (i:=4) nd rfl (Or.inl rfl) (fO (pv 4) ca.cl m_op G_op hr b_op .nil nZ (aA (pv 8) (aA (pv 10) aC)))) (aJ (eU (lV PySem.F.plainAttrs_list PySem.F.slot_list_append PySem.F.type_list_append fC (pv 6) (aA (dI (aA (pv 4) (aA (pv 5) aC))) aC))))))) (aJ (eF (bV zV (pv 8) (cY hu (pv 5) bO (fun _ _=>rfl)) rfl) (aD (aX (i:=5) nd rfl (Or.inl rfl) (aN c__law_take hr (aA (pv 5) (aA (pv 8) aC)))) (aD (aX (i:=4) nd rfl (Or.inl rfl) (fO (pv 4) ca.cl m_tk G_tk hr b_tk .nil nZ (aA (pv 8) aC))) (aJ (eU (lV PySem.F.plainAttrs_list PySem.F.slot_list_append PySem.F.type_list_append fC (pv 6) (aA (dI (aA (pv 4) (aA (pv 5) aC))) aC)))))) bU))) (aJ (eF (fG (dH (aN c__law_is hr (aA (pv 4) (aA (pv 5) aC))))) (aJ (aR gW)) bU)))))) (aD (jD PassesOwn.never rfl (cA (pv 6)) (vD rfl (bK (aW (i:=11) nd rfl (Or.inl rfl)) (bK (aW (i:=12) nd rfl (Or.inl rfl)) fP))) (aJ (eF (fG (dH (aN c__law_is hr (aA (pv 11) (aA (pv 12) aC))))) (aJ (aR gW)) bU))) (aJ (aR gW))))))))))),?_⟩
 have hT0:fJ Pt iY lQ H:=.inl hT0
 refine ⟨_,rfl,a,ns,0,rfl,hS,by decide,fun c0=>?_⟩
 have g1:=Int.emod_nonneg c0 (show (6:Int) ≠ 0 by decide)
 have g2:=Int.emod_lt_of_pos c0 (show (0:Int) < 6 by decide)
 refine ⟨_,_,rfl,rfl,(by show (0:Int) < 6; decide),_,_,rfl,rfl,?_⟩
 refine ⟨_,rfl,_,rfl,a,ns,1 + c0 % 6,rfl,hS,by omega,by omega,fun l ts0 H1 s1 hl1 hmd tl0=>?_⟩
 have tb1:=hT0.same s1
 refine ⟨_,rfl,l,ts0,rfl,hl1,hmd,by omega,by omega,tb1,fun R ys H2 s2 tb2 hRn hR2 yl cor=>?_⟩
 have kt2:=cD.kt s2 tb1
 refine ⟨_,rfl,?_⟩
 intro x dx hx hdx ndx
 have nO:=Gf (o1:=.own x) (o2:=.ins cC dx []) hx hdx ndx
 refine .inl ⟨x,dx,R,ys,rfl,aB,nO _ _ hR2,by omega,by omega,(fun y hy=>?_),fun tp tl2 th td H3 kx hx3 htp htl hth htd=>⟨rfl,?_⟩⟩
 ·obtain ⟨u,hu,e⟩:=List.getElem_of_mem hy
  obtain ⟨s,_,st⟩:=cor u (ts0[u]'(by omega)) y (List.getElem?_eq_getElem _) (by rw [List.getElem?_eq_getElem hu,e])
  exact ⟨s,4,12,st.kp (aM.kp nO)⟩
 have s3:aM H2 H3:=made hx hdx kx
 have hR3:=s3 _ _ hR2
 obtain ⟨q1,hq1,hy1,hd1,mo1,ls1,bs1,sp1⟩:=CV hx3 htp htl hth htd (by omega) (by omega) yl (cor.kp (aM.kp s3)) (fun b xs e=>s3 _ _ (kt2.tup e))
 have hmn:(1 + c0 % 6)=(q1.ys.length:Int):=by rw [hy1]; omega
 have ql:q1.ys.length=ts0.length:=by omega
 refine ⟨_,rfl,.inl ⟨rfl,_,bM.of hR3⟩,R,_,rfl,rfl,hR3,?_⟩
 have sT4:cD Pt H1 (aU H3 R (.lst [])):=(s2.trans s3.toT).upd_new hRn _
 have hq4:gG c cC (aU H3 R (.lst [])) x q1:=hq1.lst hR3
 have kR:∀ b xs,H3 b=some (.tup xs)->aU H3 R (.lst []) b=some (.tup xs):=fun b xs e=>by rw [aH (bC e hR3 fun z=>nomatch z)]; exact e
 have mo4:Mod (aU H3 R (.lst [])) ts0 q1:=mo1.keep kR
 generalize aU H3 R (.lst [])=H4 at sT4 hq4 mo4 ⊢
 have hl4:=(cD.kt sT4 tb1).lst hl1
 have hS4:bM K H4 a (ns.map V.int):=(s1.toT.trans sT4).lst hT0 hS
 refine ⟨_,rfl,l,ts0,rfl,hl4,by omega,fun a0 z0 H5 s5 h5 nw5 e1 e2 e3 e4 e5=>?_⟩
 have rel5:pA H5 q1 z0:=by
  refine ⟨by rw [e1,ql],by rw [e1]; exact mo4.keep fun b xs e=>s5 _ _ e,by rw [e2,List.length_map,ql],fun i u v h1 h2=>?_,?_,by rw [e4,sp1],by rw [e5,hd1],fun i u v h1 _=>by rw [hd1] at h1; simp at h1⟩
  ·rw [ls1] at h1
   rw [e2] at h2
   obtain ⟨_,_,rfl⟩:=List.mem_map.mp (List.mem_of_getElem? h1)
   obtain ⟨_,_,rfl⟩:=List.mem_map.mp (List.mem_of_getElem? h2)
   exact .inl ⟨rfl,rfl⟩
  ·rw [e3]
   have:dR q1=[]:=by
    unfold dR jF
    rw [List.filter_eq_nil_iff.mpr fun i _=>?_]
    ·rfl
    ·rw [bs1,List.getD_eq_getElem?_getD,List.getElem?_map]
     cases q1.ys[i]? <;> cases ys[i]? <;> simp
   rw [this]
 refine ⟨_,rfl,_,rfl,tO,fun p0 hp0=>⟨X8,fun mk hmk=>?_⟩⟩
 have n6:=aG hp0 (.tup [.ref x,.ref a0])
 have n7:=aG hmk (.lst [V.ref p0])
 have s47:=s5.trans (n6.trans n7)
 obtain ⟨ms,ems,ml⟩:=Ky ns (some 2) (some 63)
 have hS7:=s47.seq hS4
 have hc7:=(hq4.kt (aM.kt s5)).kt (aM.kt (n6.trans n7))
 have hs7:=h5.kt (aM.kt (n6.trans n7))
 have re7:=rel5.keep (H':=aU (aU H5 p0 (.tup [.ref x,.ref a0])) mk (.lst [V.ref p0])) fun b xs e=>(n6.trans n7) _ _ e
 have hp7:=n7 _ _ (aB (H:=H5) (a:=p0) (o:=.tup [.ref x,.ref a0]))
 have hm7:aU (aU H5 p0 (.tup [.ref x,.ref a0])) mk (.lst [V.ref p0]) mk=some (.lst ([p0].map V.ref)):=aB
 have h56:=h5.kt (aM.kt n6)
 have ap7:yG mk z0:=⟨(aO h56.hs hmk).symm,(aO h56.hc hmk).symm,(aO h56.hk hmk).symm,(aO h56.hq hmk).symm⟩
 generalize aU (aU H5 p0 (.tup [.ref x,.ref a0])) mk (.lst [V.ref p0])=H7 at hS7 hc7 hs7 re7 hp7 hm7 ⊢
 refine ⟨_,rfl,_,rfl,_,rfl,a,_,rfl,hS7,fun A1 hA1=>?_⟩
 have nA:mk ≠ A1:=fun z=>by rw [<- z,hm7] at hA1; cases hA1
 have n8:=aG hA1 (.lst (jC (ns.map V.int) (some 2) (some 63)))
 have e8:aU H7 A1 (.lst (jC (ns.map V.int) (some 2) (some 63))) A1=some (.lst (ms.map V.int)):=by rw [aB,ems]
 have li:LI c cC A1 mk ms (1 + c0 % 6) (aU H7 A1 (.lst (jC (ns.map V.int) (some 2) (some 63)))) 0 x a0 q1 z0 [p0] :=
  ⟨e8,n8 _ _ hm7,hc7.kt (aM.kt n8),hs7.kt (aM.kt n8),re7.keep (fun b xs e=>n8 _ _ e),ap7,hmn.symm,by rw [hd1]; exact Nat.le_refl _,Nat.le_refl _,fun p hp=>by
   rw [List.mem_singleton.mp hp]
   exact ⟨x,q1,a0,z0,n8 _ _ hp7,hc7.kt (aM.kt n8),hs7.kt (aM.kt n8),re7.keep (fun b xs e=>n8 _ _ e),ap7⟩⟩
 generalize aU H7 A1 (.lst (jC (ns.map V.int) (some 2) (some 63)))=H8 at li ⊢
 refine ⟨A1,rfl,⟨_,bM.of li.hA⟩,?_⟩
 refine jT (xs:=ms.map V.int) (fun i σ H'=>∃ x a' q z ps v7 v8 v9 v10,σ = [some (.ref a),some (.int (1 + c0 % 6)),some (.ref l),some (.ref R),some (.ref x),some (.ref a'),some (.ref mk),v7,v8,v9,v10,none,none] /\ LI c cC A1 mk ms (1 + c0 % 6) H' i x a' q z ps)
  ⟨x,a0,q1,z0,[p0],none,none,none,none,rfl,li⟩ (fun i σ H' _ ⟨_,_,_,_,_,_,_,_,_,_,e⟩=>bM.of e.hA) ?turn2 ?done2
 case done2 =>
  rintro σ H9 ⟨x,a',q',z,ps,v7,v8,v9,v10,rfl,li⟩
  refine ⟨_,rfl,mk,rfl,⟨_,bM.of li.hm⟩,?_⟩
  refine jT (xs:=ps.map V.ref) (fun i σ H'=>∃ v11 v12,σ = [some (.ref a),some (.int (1 + c0 % 6)),some (.ref l),some (.ref R),some (.ref x),some (.ref a'),some (.ref mk),v7,v8,v9,v10,v11,v12] /\ aM H9 H') ⟨none,none,rfl,aM.refl _⟩ (fun i σ H' _ ⟨_,_,_,s⟩=>bM.of (s _ _ li.hm)) ?turn3 ?done3
  case done3 =>
   rintro σ H10 ⟨v11,v12,rfl,_⟩
   exact q H10
  case turn3 =>
   rintro i v σ H10 hv ⟨v11,v12,rfl,Do⟩
   obtain ⟨p,hp,rfl⟩:=List.mem_map.mp (List.mem_of_getElem? hv)
   obtain ⟨x3,q3,a3,z3,e3,hc3,hs3,re3,_⟩:=(li.pr p hp).same Do
   refine ⟨p,_,rfl,bZ.of e3,rfl,_,_,rfl,_,_,rfl,rfl,?_⟩
   refine ⟨_,rfl,_,rfl,x3,a3,q3,z3,rfl,hc3,hs3,re3,fun H11 Aw=>?_⟩
   refine ⟨_,rfl,?_⟩
   refine fH ?_
   exact ⟨_,_,rfl,Do.trans Aw⟩
 case turn2 =>
  rintro i v σ H9 hv ⟨x,a',q,z,ps,v7,v8,v9,v10,rfl,li⟩
  obtain ⟨cell,hc,rfl⟩ : ∃ cell,ms[i]? = some cell /\ v = .int cell:=by
   rw [List.getElem?_map] at hv
   cases e:ms[i]? with
   | none=>rw [e] at hv; cases hv
   | some z=>rw [e] at hv; cases hv; exact ⟨z,rfl,rfl⟩
  have hin:=(List.getElem?_eq_some_iff.mp hc).1
  have h:=li.ca
  have hs:=li.st
  have re:=li.re
  have hm:=li.ly
  have n6:=h.n6
  have es:=h.es
  have ebl:=h.eb
  have tl:=re.tl
  have dl:=re.dl
  have ld:=li.ld
  have lpp:=li.lp
  have g3:=Int.emod_nonneg cell (show (1 + c0 % 6) ≠ 0 by omega)
  have g4:=Int.emod_lt_of_pos cell (show (0:Int) < (1 + c0 % 6) by omega)
  obtain ⟨b,hb⟩ : ∃ b:Nat,cell % (1 + c0 % 6)=(b:Int):=⟨(cell % (1 + c0 % 6)).toNat,by omega⟩
  have hby:b < q.ys.length:=by omega
  have et:z.ts[b]? = some (z.ts[b]'(by omega)):=List.getElem?_eq_getElem _
  have ei:q.ss[b]? = some (q.ss[b]'(by omega)):=List.getElem?_eq_getElem _
  have eb:q.bs[b]? = some (q.bs[b]'(by omega)):=List.getElem?_eq_getElem _
  have to:=re.mo b _ _ et ei
  generalize z.ts[b]'(by omega)=t at et to
  generalize q.ss[b]'(by omega)=ent at ei to
  obtain ⟨sd,d,m⟩:=ent
  refine ⟨_,rfl,_,rfl,_,_,rfl,rfl,(by show (0:Int) < (1 + c0 % 6); omega),?_⟩
  refine ⟨_,rfl,a',.ref z.la,rfl,gB.k (k:=.inr "stands") hs.hd,_,rfl,z.la,_,_,_,rfl,rfl,bM.of hs.hs,(by rw [hb]; exact dG (v:=V.ref t) (by rw [List.getElem?_map,et]; rfl)),?_⟩
  have ppl:(ps.map V.ref).length < sizeLine:=by rw [List.length_map]; exact aQ (by omega)
  cases to with
  | @en _ u ht =>
   refine ⟨_,rfl,t,_,_,_,rfl,rfl,bZ.of ht,rfl,rfl,_,rfl,?_⟩
   refine t8 (by decide) ?_
   refine ⟨_,rfl,_,rfl,a',.ref z.ka,rfl,gB.k (k:=.inr "kept") hs.hd,z.ka,_,rfl,.inl (bM.of hs.hk),rfl,Il z.ks,_,rfl,?_⟩
   refine Ag (fun c1=>?_) (fun c1=>?_)
   ·have nb:q.bs.getD b false=false:=by
     cases e:q.bs.getD b false with
     | false=>rfl
     | true =>
      have m1:(b:Int) ∈ z.ks:=re.kk.symm.subset (jX.mpr ⟨hby,e⟩)
      have c2:Yq (.int (cell % (1 + c0 % 6))) (z.ks.map V.int)=true:=by
       unfold Yq
       rw [List.any_eq_true]
       exact ⟨.int (b:Int),List.mem_map.mpr ⟨_,m1,rfl⟩,by rw [hb]; show ((b:Int) == (b:Int))=true; simp⟩
      simp [c2] at c1
    have eb2:q.bs[b]? = some false:=by rw [eb,<- fQ (d:=false) (show b < q.bs.length by omega),nb]
    refine ⟨_,rfl,_,rfl,a',b,z,congrArg (fun w=>[V.ref a',V.int w]) hb,hs,by omega,?_,fun b' z' H10 dd Do h10 nw ets els eks epd eds hdd=>?_⟩
    ·rw [re.kk.length_eq]
     unfold dR jF
     rw [List.length_map]
     exact Nat.le_trans (List.length_filter_le _ _) (by rw [List.length_range]; omega)
    have hc10:=h.kt (aM.kt Do)
    refine ⟨_,rfl,x,_,_,rfl,hc10.hx,rfl,_,rfl,x,b,q,u,d,m,congrArg (fun w=>[V.ref x,V.int w]) hb,hc10,ei,eb2,by omega,fun x2 q2 H11 Aw h11 y11 ss11 bs11 ls11 sp11 nd11=>?_⟩
    obtain ⟨td,edq,htd⟩:=nd11
    have s911:=Do.trans Aw
    have re11:pA H11 q2 z':=Ku re (fun b xs e=>s911 _ _ e) hby ebl eb2 ets els eks epd eds (Aw _ _ hdd) y11 ss11 bs11 ls11 sp11 edq htd
    have ap11:yG mk z':=(nw.ne li.hm).2
    have hl11:=s911 _ _ li.hm
    refine ⟨_,rfl,.inl ⟨rfl,_,bM.of hl11⟩,_,rfl,_,rfl,tO,fun p hp=>?_⟩
    have n12:=aG hp (.tup [.ref x2,.ref b'])
    refine ⟨mk,_,.ref p,rfl,rfl,n12 _ _ hl11,ppl,?_⟩
    have li2:=li.push nA (H':=aU H11 p (.tup [.ref x2,.ref b'])) (p:=p) aB (s911.trans n12) (h11.kt (aM.kt n12)) ((h10.kt (aM.kt Aw)).kt (aM.kt n12)) (re11.keep fun b xs e=>n12 _ _ e) ap11 y11 (by rw [edq,List.length_append]; exact Nat.le_refl _)
    refine ⟨_,rfl,_,rfl,x2,b',q2,z',rfl,li2.ca,li2.st,li2.re,fun H13 o9=>?_⟩
    refine ⟨_,rfl,?_⟩
    refine fH ?_
    exact ⟨x2,b',q2,z',ps ++ [p],_,_,_,_,rfl,li2.same o9⟩
   ·refine ⟨_,rfl,_,rfl,x,a',q,z,rfl,li.ca,li.st,li.re,fun H13 o9=>?_⟩
    refine ⟨_,rfl,?_⟩
    refine fH ?_
    exact ⟨x,a',q,z,ps,_,_,_,_,rfl,(li.same o9).next⟩
  | @st _ r p rs pss zs ht hr lp ly row sub =>
   have st:=(h.st b _ _ (List.getElem?_eq_getElem hby) ei).1
   have rl:0 < rs.length:=by
    cases st with
    | st _ _ _ _ _ _ _ _ _ ne=>exact List.length_pos_iff.mpr ne
   refine ⟨_,rfl,t,_,_,_,rfl,rfl,bZ.of ht,rfl,rfl,_,rfl,?_⟩
   refine zW (by decide) ?_
   refine ⟨_,rfl,_,rfl,_,_,rfl,rfl,⟨by omega,by omega⟩,_,rfl,t,_,_,_,rfl,rfl,bZ.of ht,rfl,r,_,rfl,.inr (bZ.of hr),_,_,rfl,rfl,(by rw [List.length_map,lp]; omega),?_⟩
   rw [List.length_map,lp]
   have f1:=Int.emod_nonneg (cell / (1 + c0 % 6)) (show (rs.length:Int) ≠ 0 by omega)
   have f2:=Int.emod_lt_of_pos (cell / (1 + c0 % 6)) (show (0:Int) < (rs.length:Int) by omega)
   obtain ⟨j,hj⟩ : ∃ w:Nat,cell / (1 + c0 % 6) % (rs.length:Int)=(w:Int):=⟨(cell / (1 + c0 % 6) % (rs.length:Int)).toNat,by omega⟩
   have hjr:j < rs.length:=by omega
   refine ⟨_,rfl,_,rfl,_,rfl,_,rfl,x,a',b,j,q,z,p,rs,d,m,(by rw [<- hb,<- hj]; rfl),h,hs,re,ei,hjr,by omega,fun b' z' H10 t' dd v v' r' Do h10 nw er to10 ets ev lc els eks epd eds hdd=>?_⟩
   have hc10:=h.kt (aM.kt Do)
   refine ⟨_,rfl,x,_,_,rfl,hc10.hx,rfl,_,rfl,_,rfl,x,b,j,q,p,rs,d,m,(by rw [<- hb,<- hj]; rfl),hc10,ei,hjr,by omega,fun x2 q2 H11 Aw h11 y11 nx bs11 nc sp11 nd11=>?_⟩
   obtain ⟨tt,d2,m2,ett,ss11⟩:=nx
   obtain ⟨td,edq,htd⟩:=nd11
   have s911:=Do.trans Aw
   have lc11:NP H11 v v' (.st p rs) d:=by
    obtain ⟨L',lv',rv',w1,w2,w3,w4,w5⟩:=lc
    refine ⟨L',lv',rv',w1,Aw _ _ w2,w3,w4,?_⟩
    rcases w5 with w5 | ⟨a1,lva,y1,y2,y3⟩
    ·exact .inl w5
    ·exact .inr ⟨a1,lva,y1,Aw _ _ y2,y3⟩
   have re11:pA H11 q2 z':=Ke re (fun b xs e=>s911 _ _ e) (fun b xs e=>Aw _ _ e) er (to10.same Aw) ets ev lc11 els eks epd eds (Aw _ _ hdd) y11 ett ss11 bs11 nc sp11 edq htd
   have ap11:yG mk z':=(nw.ne li.hm).2
   have hl11:=s911 _ _ li.hm
   refine ⟨_,rfl,.inl ⟨rfl,_,bM.of hl11⟩,_,rfl,_,rfl,tO,fun pp hp=>?_⟩
   have n12:=aG hp (.tup [.ref x2,.ref b'])
   refine ⟨mk,_,.ref pp,rfl,rfl,n12 _ _ hl11,ppl,?_⟩
   have li2:=li.push nA (H':=aU H11 pp (.tup [.ref x2,.ref b'])) (p:=pp) aB (s911.trans n12) (h11.kt (aM.kt n12)) ((h10.kt (aM.kt Aw)).kt (aM.kt n12)) (re11.keep fun b xs e=>n12 _ _ e) ap11 y11 (by rw [edq,List.length_append]; exact Nat.le_refl _)
   refine ⟨_,rfl,_,rfl,x2,b',q2,z',rfl,li2.ca,li2.st,li2.re,fun H13 o9=>?_⟩
   refine ⟨_,rfl,?_⟩
   refine fH ?_
   exact ⟨x2,b',q2,z',ps ++ [pp],_,_,_,_,rfl,li2.same o9⟩
end
end K21
namespace L2
open PySem PySem.Spec PyProof.Rows
structure TF (K:PySem.W.Frag) (x:Str) (st:Stmt) (f:Addr) (fd:FuncData):Prop where
 a:PySem.W.nsIn K mainGlobals x=some (some (.ref f))
 F:eX K x x st f fd
structure MF (K:PySem.W.Frag) (C:Addr) (m q:Str) (st:Stmt) (f:Addr) (fd:FuncData):Prop where
 a:PySem.W.findIn K (.ref C) m=some (some (.ref f))
 i:PySem.W.isFn K (.ref f)=true
 F:eX K m q st f fd
structure TD (K:PySem.W.Frag) (x:Str) (st:Stmt) (dT f:Addr) (fd:FuncData):Prop where
 a:PySem.W.nsIn K mainGlobals x=some (some (.ref f))
 F:KR K dT x x st f fd
def Pq (K:PySem.W.Frag) (l:List Str):Bool:=l.all fun x=>match PySem.W.nsIn K mainGlobals x with | some none=>true | _=>false
def S5 (mg:Str->Option Value):List Str->Prop
 | []=>True
 | x :: r=>mg x=none /\ S5 mg r
section
variable {P:Program}{w:World}{K:PySem.W.Frag}{mg:Str->Option Value}{base h:Heap}{x m q:Str}{st:Stmt}{f C:Addr}{fd:FuncData}{ps:List Str}{sp:Sp}{n:Nat}
theorem XQ (X:K.In h) (G:h.Ns mainGlobals mg):∀ {l:List Str},Pq K l=true->S5 mg l
 | [],_=>trivial
 | y :: r,e=>by
  have e':((match PySem.W.nsIn K mainGlobals y with | some none=>true | _=>false) && Pq K r)=true:=e
  rw [Bool.and_eq_true] at e'
  refine ⟨PySem.W.mg_none_of X G ?_,XQ X G e'.2⟩
  have e1:=e'.1
  revert e1
  cases PySem.W.nsIn K mainGlobals y with
  | none=>intro z; cases z
  | some o=>cases o with
   | none=>intro _; rfl
   | some v=>intro z; cases z
theorem MF.mt (T:MF K C m q st f fd):dM K C m f:=⟨T.a,T.i,T.F.kp⟩
theorem TF.cal (T:TF K x st f fd) (X:K.In h) (G:h.Ns mainGlobals mg) (g:aV P w K mg base eG n f fd ps sp) (b:bB K fd ps []):gF P w K mg base n x ps sp f fd:=⟨g,b,T.F.kp,PySem.W.mg_of X G T.a⟩
theorem TF.calX (T:TF K x st f fd) (X:K.In h) (G:h.Ns mainGlobals mg) (g:aV P w K mg base (oX P w) n f fd ps sp) (b:bB K fd ps []):zJ P w K mg base n x ps sp f fd:=⟨g,b,T.F.kp,PySem.W.mg_of X G T.a⟩
theorem TD.cal {dT:Addr} (T:TD K x st dT f fd) (X:K.In h) (G:h.Ns mainGlobals mg) (g:aV P w K mg base eG n f fd ps sp) (b:bB K fd ps []):gF P w K mg base n x ps sp f fd:=⟨g,b,T.F.kp,PySem.W.mg_of X G T.a⟩
theorem gF.u {m:Nat} (c:gF P w K mg base n x ps sp f fd) (h:n <= m:=by omega):gF P w K mg base m x ps sp f fd:=c.up h
theorem zJ.u {m:Nat} (c:zJ P w K mg base n x ps sp f fd) (h:n <= m:=by omega):zJ P w K mg base m x ps sp f fd:=c.up h
theorem aV.u {CX:Ab}{m:Nat} (g:aV P w K mg base CX n f fd ps sp) (h:n <= m:=by omega):aV P w K mg base CX m f fd ps sp:=g.mono h
theorem uZ {CX:Ab} (_:aV P w K mg base CX n f fd ps sp) (b:bB K fd ps []):bB K fd ps []:=b
abbrev V5 (x q:Str) (st:Stmt) (us:List Value) (r:List (Str × Value)):Prop:=∀ (kV doc pm:Value) (an:Option Addr) (cdv ct:Value),bindArgs (PySem.W.fnOf x q (iR st) (fX st) (aK st) .none kV doc pm an cdv ct) ⟨us,[]⟩ = pure r
theorem eX.bd1 {a:Str} (F:eX K x q st f fd) (h:∀ u,V5 x q st [u] [(a,u)]:=by intros; exact fun _ _ _ _ _ _=>rfl):bB K fd [a] []:=F.binds fun _ _ _ _ _ _ us hl=>match us,hl with | [_],_=>h _ _ _ _ _ _ _
theorem eX.bd2 {a b:Str} (F:eX K x q st f fd) (h:∀ u v,V5 x q st [u,v] [(a,u),(b,v)]:=by intros; exact fun _ _ _ _ _ _=>rfl):bB K fd [a,b] []:=F.binds fun _ _ _ _ _ _ us hl=>match us,hl with | [_,_],_=>h _ _ _ _ _ _ _ _
theorem eX.bd3 {a b c:Str} (F:eX K x q st f fd) (h:∀ u v y,V5 x q st [u,v,y] [(a,u),(b,v),(c,y)]:=by intros; exact fun _ _ _ _ _ _=>rfl):bB K fd [a,b,c] []:=F.binds fun _ _ _ _ _ _ us hl=>match us,hl with | [_,_,_],_=>h _ _ _ _ _ _ _ _ _
theorem eX.bd4 {a b c d:Str} (F:eX K x q st f fd) (h:∀ u v y z,V5 x q st [u,v,y,z] [(a,u),(b,v),(c,y),(d,z)]:=by intros; exact fun _ _ _ _ _ _=>rfl):bB K fd [a,b,c,d] []:=F.binds fun _ _ _ _ _ _ us hl=>match us,hl with | [_,_,_,_],_=>h _ _ _ _ _ _ _ _ _ _
theorem eX.bd5 {a b c d e:Str} (F:eX K x q st f fd) (h:∀ u v y z t,V5 x q st [u,v,y,z,t] [(a,u),(b,v),(c,y),(d,z),(e,t)]:=by intros; exact fun _ _ _ _ _ _=>rfl):bB K fd [a,b,c,d,e] []:=F.binds fun _ _ _ _ _ _ us hl=>match us,hl with | [_,_,_,_,_],_=>h _ _ _ _ _ _ _ _ _ _ _
theorem Wb {CX:Ab}{b:Nat}{sp:Nat->Sp} (z:∀ vs H Q E,¬ sp 0 vs H Q E) (s:∀ d,aV P w K mg base CX (b + d) f fd ps (sp d)->aV P w K mg base CX (b + d + 1) f fd ps (sp (d + 1))):∀ d,aV P w K mg base CX (b + d) f fd ps (sp d)
 | 0=>⟨fun vs H Q E y=>absurd y (z vs H Q E),fun A outer s H args us vs Q E _ _ _ _ y=>absurd y (z vs H Q E)⟩
 | d + 1=>s d (Wb z s d)
end
end L2
namespace K21
open PySem L2 TD PyProof.Rows
theorem QG {l:W.OpenLaw}{w:World}{K:W.Frag}{h:Heap}{mg:Str->Option Value}{fa cR Pt f1 f2 f3 f4 f5 f6 f7 f8 f9 f10 f11 f12 f13 f14 f15 f16 f17 f18 f19 f20 f21 f22 f23 f24 f25 f26 f27 f28 f29 f30 f31 f32 f33 f34 f35 f36 f37 f38 f39 f40 f41 f42 f43 f44 f45 f46 f47 f48 f49 f50 f51 f52 f53 f54 f55 f56 f57 f58 f59 f60 f61 f62 dT cSt cE cS cC C_NoDeed C_NoBox:Addr}{g1 g2 g3 g4 g5 g6 g7 g8 g9 g10 g11 g12 g13 g14 g15 g16 g17 g18 g19 g20 g21 g22 g23 g24 g25 g26 g27 g28 g29 g30 g31 g32 g33 g34 g35 g36 g37 g38 g39 g40 g41 g42 g43 g44 g45 g46 g47 g48 g49 g50 g51 g52 g53 g54 g55 g56 g57 g58 g59 g60 g61 g62:FuncData} (X:K.In h) (G:h.Ns mainGlobals mg) (hfa:mg "law" = some (.ref fa))
  (aC_Stand:W.nsIn K mainGlobals "Stand" = some (some (.ref cSt)))
  (aC_End:W.nsIn K mainGlobals "End" = some (some (.ref cE)))
  (aC_Stage:W.nsIn K mainGlobals "Stage" = some (some (.ref cS)))
  (aC_Case:W.nsIn K mainGlobals "Case" = some (some (.ref cC)))
  (aC_NoDeed:W.nsIn K mainGlobals "NoDeed" = some (some (.ref C_NoDeed)))
  (aC_NoBox:W.nsIn K mainGlobals "NoBox" = some (some (.ref C_NoBox)))
  (T1:TF K "is_whole" (top 6) f1 g1)
  (T2:TF K "common_divisor" (top 7) f2 g2)
  (T3:TF K "common_multiple" (top 8) f3 g3)
  (T4:TF K "share" (top 9) f4 g4)
  (T5:TF K "whole" (top 10) f5 g5)
  (T6:TF K "below" (top 11) f6 g6)
  (T7:TF K "lesser" (top 12) f7 g7)
  (T8:TF K "rising" (top 16) f8 g8)
  (T9:TF K "in_form" (top 17) f9 g9)
  (T10:TF K "all_weights" (top 18) f10 g10)
  (T11:TF K "capped" (top 19) f11 g11)
  (T12:TF K "mixed" (top 20) f12 g12)
  (T13:TF K "level_for" (top 21) f13 g13)
  (T14:TF K "is_stand" (top 31) f14 g14)
  (T15:TF K "is_stage_row" (top 32) f15 g15)
  (T16:TF K "is_stage_rows" (top 33) f16 g16)
  (T17:TF K "need_boxes" (top 34) f17 g17)
  (T18:TF K "with_thing" (top 36) f18 g18)
  (T19:TF K "_law_cell_at" (top 39) f19 g19)
  (T20:TF K "_law_mixed" (top 40) f20 g20)
  (T21:TF K "_law_left" (top 41) f21 g21)
  (T22:TF K "_law_draw" (top 42) f22 g22)
  (T23:TF K "_law_ends" (top 43) f23 g23)
  (T24:L2.TD K "_law_model" (top 44) dT f24 g24)
  (T25:TF K "_law_object" (top 45) f25 g25)
  (T26:TF K "_law_models" (top 46) f26 g26)
  (T27:TF K "_law_boxes" (top 47) f27 g27)
  (T28:TF K "_law_whole" (top 48) f28 g28)
  (T29:TF K "_law_state" (top 49) f29 g29)
  (T30:TF K "_law_copy" (top 50) f30 g30)
  (T31:TF K "_law_had" (top 51) f31 g31)
  (T32:TF K "_law_numbers" (top 52) f32 g32)
  (T33:TF K "_law_deeds" (top 53) f33 g33)
  (T34:TF K "_law_is" (top 54) f34 g34)
  (T35:TF K "_law_least" (top 55) f35 g35)
  (T36:TF K "_law_open" (top 56) f36 g36)
  (T37:TF K "_law_take" (top 57) f37 g37)
  (T38:TF K "law" (top 58) f38 g38)
  (T39:MF K cSt "__init__" "Stand.__init__" (aF (top 28) 0) f39 g39)
  (T40:MF K cSt "ends" "Stand.ends" (aF (top 28) 1) f40 g40)
  (T41:MF K cSt "stages" "Stand.stages" (aF (top 28) 2) f41 g41)
  (T42:MF K cSt "reserve" "Stand.reserve" (aF (top 28) 3) f42 g42)
  (T43:MF K cSt "caps" "Stand.caps" (aF (top 28) 4) f43 g43)
  (T44:MF K cE "__init__" "End.__init__" (aF (top 29) 0) f44 g44)
  (T45:MF K cE "is_end" "End.is_end" (aF (top 29) 1) f45 g45)
  (T46:MF K cE "told" "End.told" (aF (top 29) 4) f46 g46)
  (T47:MF K cS "__init__" "Stage.__init__" (aF (top 30) 0) f47 g47)
  (T48:MF K cS "is_end" "Stage.is_end" (aF (top 30) 1) f48 g48)
  (T49:MF K cS "after" "Stage.after" (aF (top 30) 3) f49 g49)
  (T50:MF K cS "told" "Stage.told" (aF (top 30) 6) f50 g50)
  (T51:MF K cC "__init__" "Case.__init__" (aF (top 37) 0) f51 g51)
  (T52:MF K cC "how_many" "Case.how_many" (aF (top 37) 1) f52 g52)
  (T53:MF K cC "need_box" "Case.need_box" (aF (top 37) 2) f53 g53)
  (T54:MF K cC "stand" "Case.stand" (aF (top 37) 3) f54 g54)
  (T55:MF K cC "cap" "Case.cap" (aF (top 37) 4) f55 g55)
  (T56:MF K cC "kept" "Case.kept" (aF (top 37) 5) f56 g56)
  (T57:MF K cC "paid" "Case.paid" (aF (top 37) 6) f57 g57)
  (T58:MF K cC "had" "Case.had" (aF (top 37) 7) f58 g58)
  (T59:MF K cC "deeds" "Case.deeds" (aF (top 37) 8) f59 g59)
  (T60:MF K cC "behind" "Case.behind" (aF (top 37) 12) f60 g60)
  (T61:MF K cC "opened" "Case.opened" (aF (top 37) 13) f61 g61)
  (T62:MF K cC "taken" "Case.taken" (aF (top 37) 14) f62 g62)
  (ck:CK K ⟨cE,cS⟩)
  (ct:CT K ⟨cE,cS⟩)
  (mkE:W.makesIn K cE=true)
  (kcE:W.keepIn K (.ref cE)=true)
  (vE_ends:W.findIn K (.ref cE) "ends" = some (some (.ref f40)))
  (vE_stages:W.findIn K (.ref cE) "stages" = some (some (.ref f41)))
  (vE_reserve:W.findIn K (.ref cE) "reserve" = some (some (.ref f42)))
  (vE_caps:W.findIn K (.ref cE) "caps" = some (some (.ref f43)))
  (mkS:W.makesIn K cS=true)
  (kcS:W.keepIn K (.ref cS)=true)
  (vS_ends:W.findIn K (.ref cS) "ends" = some (some (.ref f40)))
  (vS_stages:W.findIn K (.ref cS) "stages" = some (some (.ref f41)))
  (vS_reserve:W.findIn K (.ref cS) "reserve" = some (some (.ref f42)))
  (vS_caps:W.findIn K (.ref cS) "caps" = some (some (.ref f43)))
  (mS_i:Ml K cSt "__init__" f39)
  (xclD:sU K C_NoDeed)
  (xcl:sU K C_NoBox)
  (cn:CN K ⟨cE,cS⟩)
  (ca:yM K ⟨cE,cS⟩ cC)
  (mkC:W.makesIn K cC=true)
  (kcC:W.keepIn K (.ref cC)=true)
  (y_:Pq K ["abs","all","bool","dict","int","isinstance","len","list","max","min","range","reversed","sorted","sum","tuple"]=true)
  {tk_MOST_WEIGHT:Tok} (yg_MOST_WEIGHT:W.nsIn K mainGlobals "MOST_WEIGHT" = some (some (.int 1000 tk_MOST_WEIGHT)))
  {tk_MOST_STAGE_ROWS:Tok} (yg_MOST_STAGE_ROWS:W.nsIn K mainGlobals "MOST_STAGE_ROWS" = some (some (.int 4 tk_MOST_STAGE_ROWS)))
  {tk_MOST_BOXES:Tok} (yg_MOST_BOXES:W.nsIn K mainGlobals "MOST_BOXES" = some (some (.int 6 tk_MOST_BOXES)))
  {tk_MOST_WORTH:Tok} (yg_MOST_WORTH:W.nsIn K mainGlobals "MOST_WORTH" = some (some (.int 1000000000 tk_MOST_WORTH)))
  {tk_MOST_STAGES:Tok} (yg_MOST_STAGES:W.nsIn K mainGlobals "MOST_STAGES" = some (some (.int 4 tk_MOST_STAGES)))
  {tk_MOST_ENDS:Tok} (yg_MOST_ENDS:W.nsIn K mainGlobals "MOST_ENDS" = some (some (.int 12 tk_MOST_ENDS)))
  {tk_MOST_PRICE:Tok} (yg_MOST_PRICE:W.nsIn K mainGlobals "MOST_PRICE" = some (some (.int 1000000000 tk_MOST_PRICE)))
  {tk0 tk12:Tok}{dn:Nat}{dsl:Array (Option Value)}{ddd:Option Addr} (ldT:K.lookup dT=some ⟨.type "tuple",ddd,.seq #[.int 0 tk0,.int 12 tk12] dn,dsl⟩)
  (gcR:g8.code = .ref cR)
  (tb:W.tabIn K "rising" = some (cR,Pt)) (ch:W.codeHdIn K cR Pt=true) (np:K.lookup Pt=none)
  : ∃ (fd:FuncData) (c P:Addr),(∀ (s:Shared) (v:Value),BindsTo s fd ⟨[v],[]⟩ [("_law_script",v)]) /\ W.tabIn K "rising" = some (c,P) /\ W.codeHdIn K c P=true /\ K.lookup P=none /\ ∀ base:Heap,K.In base->base.Ns mainGlobals mg->W.CodeHd base c P->base.BuiltinsAt mg P->aV l.prog w K mg base eG 15 fa fd ["_law_script"] (tZ K P iY):=by
 obtain ⟨c,rfl,rfl⟩ : ∃ c:Cs,c.e=cE /\ c.s=cS:=⟨⟨cE,cS⟩,rfl,rfl⟩
 replace ck:CK K c:=ck
 replace ct:CT K c:=ct
 replace cn:CN K c:=cn
 replace ca:yM K c cC:=ca
 cases hfa.symm.trans (W.mg_of X G T38.a)
 have ⟨z_abs,z_all,z_bool,z_dict,z_int,z_isinstance,z_len,z_list,z_max,z_min,z_range,z_reversed,z_sorted,z_sum,z_tuple,_⟩:=XQ X G y_
 have g_Stand:=W.mg_of X G aC_Stand
 have g_End:=W.mg_of X G aC_End
 have g_Stage:=W.mg_of X G aC_Stage
 have g_Case:=W.mg_of X G aC_Case
 have g_NoDeed:=W.mg_of X G aC_NoDeed
 have g_NoBox:=W.mg_of X G aC_NoBox
 have g_MOST_WEIGHT:=W.mg_of X G yg_MOST_WEIGHT
 have r_MOST_WEIGHT:bL (.int 1000) (.int 1000 tk_MOST_WEIGHT):=⟨_,rfl⟩
 have g_MOST_STAGE_ROWS:=W.mg_of X G yg_MOST_STAGE_ROWS
 have r_MOST_STAGE_ROWS:bL (.int 4) (.int 4 tk_MOST_STAGE_ROWS):=⟨_,rfl⟩
 have g_MOST_BOXES:=W.mg_of X G yg_MOST_BOXES
 have r_MOST_BOXES:bL (.int 6) (.int 6 tk_MOST_BOXES):=⟨_,rfl⟩
 have g_MOST_WORTH:=W.mg_of X G yg_MOST_WORTH
 have r_MOST_WORTH:bL (.int 1000000000) (.int 1000000000 tk_MOST_WORTH):=⟨_,rfl⟩
 have g_MOST_STAGES:=W.mg_of X G yg_MOST_STAGES
 have r_MOST_STAGES:bL (.int 4) (.int 4 tk_MOST_STAGES):=⟨_,rfl⟩
 have g_MOST_ENDS:=W.mg_of X G yg_MOST_ENDS
 have r_MOST_ENDS:bL (.int 12) (.int 12 tk_MOST_ENDS):=⟨_,rfl⟩
 have g_MOST_PRICE:=W.mg_of X G yg_MOST_PRICE
 have r_MOST_PRICE:bL (.int 1000000000) (.int 1000000000 tk_MOST_PRICE):=⟨_,rfl⟩
 refine ⟨g38,cR,Pt,fun s v=>?_,tb,ch,np,fun base _ _ hC hB=>?_⟩
 ·obtain ⟨_,_,_,_,_,_,_,_,_,rfl,_⟩:=T38.F.ex
  exact .of_eq rfl
 have R {CX n f g ps sp} (z:aV l.prog w K mg base CX n f g ps sp):=z
 have ME:Mk K c.e f44:=⟨mkE,T44.a,T44.i,kcE⟩
 have MS:Mk K c.s f47:=⟨mkS,T47.a,T47.i,kcS⟩
 have mE_ends:dM K c.e "ends" f40:=⟨vE_ends,T40.i,T40.F.kp⟩
 have mS_ends:dM K c.s "ends" f40:=⟨vS_ends,T40.i,T40.F.kp⟩
 have mE_stages:dM K c.e "stages" f41:=⟨vE_stages,T41.i,T41.F.kp⟩
 have mS_stages:dM K c.s "stages" f41:=⟨vS_stages,T41.i,T41.F.kp⟩
 have mE_reserve:dM K c.e "reserve" f42:=⟨vE_reserve,T42.i,T42.F.kp⟩
 have mS_reserve:dM K c.s "reserve" f42:=⟨vS_reserve,T42.i,T42.F.kp⟩
 have mE_caps:dM K c.e "caps" f43:=⟨vE_caps,T43.i,T43.F.kp⟩
 have mS_caps:dM K c.s "caps" f43:=⟨vS_caps,T43.i,T43.F.kp⟩
 have mt45:=T45.mt
 have mt46:=T46.mt
 have mt48:=T48.mt
 have mt49:=T49.mt
 have mt50:=T50.mt
 have mt52:=T52.mt
 have mt53:=T53.mt
 have mt54:=T54.mt
 have mt55:=T55.mt
 have mt56:=T56.mt
 have mt57:=T57.mt
 have mt58:=T58.mt
 have mt59:=T59.mt
 have mt60:=T60.mt
 have mt61:=T61.mt
 have mt62:=T62.mt
 have MCa:Mk K cC f51:=⟨mkC,T51.a,T51.i,kcC⟩
 have bAll:∀ (s:Shared) (us:List Value),K.In s.heap->∀ (bs:List (Str × Value)),(∃ a,us=[a] /\ bs=[(("_law_left_here" : Str),a),(("_law_level" : Str),Value.int 0 tk0),(("_law_most" : Str),Value.int 12 tk12)]) ∨ (∃ a b c,us=[a,b,c] /\ bs=[(("_law_left_here" : Str),a),(("_law_level" : Str),b),(("_law_most" : Str),c)])->BindsTo s g24 ⟨us,[]⟩ bs:=fun s us X bs hb=>by
  obtain ⟨_,_,_,_,_,_,_,_,_,rfl,_⟩:=T24.F.ex
  rcases hb with ⟨a,rfl,rfl⟩ | ⟨a,b,c,rfl,rfl⟩ <;> exact BindsTo.of_defaults rfl (X _ _ ldT) rfl rfl rfl
 have b24:bB K g24 ["_law_left_here","_law_level","_law_most"] []:=fun s us X hl=>by
  have hl':us.length=3:=by simpa using hl
  match us,hl' with
  | [a,b,c],_=>exact bAll s _ X _ (.inr ⟨a,b,c,rfl,rfl⟩)
 have bD:bB K g24 ["_law_left_here","_law_level","_law_most"] [.int 0 tk0,.int 12 tk12]:=fun s us X hl=>by
  have hl':us.length=1:=by simp at hl; omega
  match us,hl' with
  | [a],_=>exact bAll s _ X _ (.inl ⟨a,rfl,rfl⟩)
 have v_md:bI [V.int 0,V.int 12] [Value.int 0 tk0,Value.int 12 tk12]:=.cons ⟨_,rfl⟩ (.cons ⟨_,rfl⟩ .nil)
 have G1:=R (Bq (n:=0) T1.F z_isinstance z_bool z_int)
 have C1:=T1.cal X G G1 T1.F.bd3
 have G2:=R (p6 (n:=0) T2.F z_abs)
 have C2:=T2.cal X G G2 T2.F.bd2
 have G3:=R (o8 (n:=1) T3.F C2.u)
 have C3:=T3.cal X G G3 T3.F.bd1
 have G4:=R (Jy (n:=1) T4.F C2.u)
 have C4:=T4.cal X G G4 T4.F.bd2
 have G5:=R (JH (n:=0) T5.F )
 have C5:=T5.cal X G G5 T5.F.bd1
 have G6:=R (LR (n:=0) T6.F )
 have C6:=T6.cal X G G6 T6.F.bd2
 have G7:=R (Hn (n:=1) T7.F C6.u)
 have C7:=T7.cal X G G7 T7.F.bd2
 have G8:=R (Ib (n:=0) T8.F gcR hC hB z_sorted z_max)
 have C8:=T8.cal X G G8 T8.F.bd1
 have G9:=R (Eo (n:=1) T9.F C8.u C2.u z_list)
 have C9:=T9.cal X G G9 T9.F.bd1
 have G10:=R (uV (n:=0) T10.F z_sum)
 have C10:=T10.cal X G G10 T10.F.bd1
 have G11:=R (Ho (n:=2) T11.F C9.u C7.u)
 have C11:=T11.cal X G G11 T11.F.bd2
 have G12:=R (Ji (n:=2) T12.F C9.u C10.u C3.u)
 have C12:=T12.cal X G G12 T12.F.bd1
 have G13:=R (yN (n:=2) T13.F C4.u C10.u C3.u z_reversed)
 have C13:=T13.cal X G G13 T13.F.bd2
 have G14:=R (BX (n:=0) T14.F ck ct cn g_End g_Stage z_isinstance)
 have C14:=T14.cal X G G14 T14.F.bd1
 have G15:=R (sI (n:=1) T15.F (c:=c) C14.u C1.u z_len z_isinstance z_tuple g_MOST_WEIGHT r_MOST_WEIGHT)
 have C15:=T15.cal X G G15 T15.F.bd1
 have G16:=R (qL (n:=2) T16.F (c:=c) C15.u z_all z_len z_isinstance z_list g_MOST_STAGE_ROWS r_MOST_STAGE_ROWS)
 have C16:=T16.cal X G G16 T16.F.bd1
 have G17:=R (vZ (n:=1) T17.F (c:=c) g_NoBox xcl C14.u z_all z_len z_isinstance z_list g_MOST_BOXES r_MOST_BOXES)
 have C17:=T17.calX X G G17 T17.F.bd1
 have G18:=R (wN (n:=0) T18.F )
 have C18:=T18.cal X G G18 T18.F.bd3
 have G19:=R (sZ (n:=0) T19.F z_len)
 have C19:=T19.cal X G G19 T19.F.bd2
 have G20:=R (wA (n:=0) T20.F )
 have C20:=T20.cal X G G20 T20.F.bd2
 have G21:=R (Ai (n:=1) T21.F C19.u)
 have C21:=T21.cal X G G21 T21.F.bd2
 have G22:=R (zY (n:=1) T22.F C20.u)
 have C22:=T22.cal X G G22 T22.F.bd2
 have b23:bB K g23 ["_law_stand"] []:=T23.F.bd1
 have G23:=Wb (b:=1) (sp:=Mr) (fun vs H Q E ⟨_,_,_,_,_,_,_,h,_⟩=>absurd h (Nat.not_lt_zero _)) (fun d z=>R (zE (n:=1 + d) T23.F (T23.cal X G z b23) z_sum)) 6
 have C23:=T23.cal X G G23 b23
 have G24:=Wb (b:=8) (sp:=Mv) (fun vs H Q E ⟨_,_,_,_,_,_,_,_,_,_,h,_⟩=>absurd h (Nat.not_lt_zero _)) (fun d z=>R (wU (n:=8 + d) T24.F (T24.cal X G z b24) C23.u C22.u z_tuple z_range z_sum z_min z_int)) 5
 have C24:=T24.cal X G G24 b24
 have G39:=R (pC (n:=0) T39.F ck z_tuple)
 have b39:=uZ G39 T39.F.bd5
 have G44:=R (tE (n:=1) T44.F ck g_Stand mS_i G39.u b39 g_NoBox xcl C5.u C1.u g_MOST_WORTH r_MOST_WORTH)
 have b44:=uZ G44 T44.F.bd2
 have G40:=R (wH (n:=0) T40.F ck)
 have b40:=uZ G40 T40.F.bd1
 have G41:=R (tG (n:=0) T41.F ck)
 have b41:=uZ G41 T41.F.bd1
 have G43:=R (wO (n:=0) T43.F ck z_list)
 have b43:=uZ G43 T43.F.bd1
 have G47:=R (pY (n:=3) T47.F ck g_Stand mS_i G39.u b39 ck.ce ck.cs mE_ends mS_ends G40.u b40 mE_stages mS_stages G41.u b41 mE_caps mS_caps G43.u b43 g_NoBox xcl C11.u C13.u C12.u C16.u C1.u z_tuple z_max z_sum g_MOST_STAGES r_MOST_STAGES g_MOST_ENDS r_MOST_ENDS g_MOST_PRICE r_MOST_PRICE)
 have b47:=uZ G47 T47.F.bd3
 have b25:bB K g25 ["_law_model_here"] []:=T25.F.bd1
 have G25:=Wb (b:=6) (sp:=M3 c Pt iY) (fun vs H Q E ⟨_,_,_,_,_,_,_,h,_⟩=>absurd h (Nat.not_lt_zero _)) (fun d z=>R (uO (n:=6 + d) T25.F ME G44 b44 g_End (by omega) MS G47 b47 g_Stage (by omega) (T25.cal X G z b25))) 5
 have C25:=T25.cal X G G25 b25
 have G26:=R (vG (n:=13) T26.F v_md C19.u C24.u C21.u bD z_range)
 have C26:=T26.cal X G G26 T26.F.bd2
 have G27:=R (wD (n:=11) T27.F (c:=c) C25.u z_range z_len)
 have C27:=T27.cal X G G27 T27.F.bd1
 have G28:=R (wC (n:=0) T28.F z_isinstance z_bool z_int)
 have C28:=T28.cal X G G28 T28.F.bd1
 have G29:=R (vY (n:=0) T29.F z_list)
 have C29:=T29.cal X G G29 T29.F.bd1
 have G30:=R (Aj (n:=0) T30.F z_list z_dict)
 have C30:=T30.cal X G G30 T30.F.bd1
 have G31:=R (Ba (n:=0) T31.F z_sum)
 have C31:=T31.cal X G G31 T31.F.bd1
 have G32:=R (sS (n:=1) T32.F C28.u z_len z_isinstance z_list)
 have C32:=T32.cal X G G32 T32.F.bd2
 have G33:=R (vV (n:=0) T33.F z_len z_isinstance z_bool z_tuple z_list)
 have C33:=T33.cal X G G33 T33.F.bd2
 have G52:=R (qK (n:=0) T52.F ca z_len)
 have b52:=uZ G52 T52.F.bd1
 have G53:=R (rC (n:=1) T53.F ca g_NoDeed xclD mt52 G52.u b52 C1.u)
 have b53:=uZ G53 T53.F.bd2
 have G54:=R (wJ (n:=2) T54.F ca mt53 G53.u b53)
 have b54:=uZ G54 T54.F.bd2
 have G55:=R (CZ (n:=2) T55.F ca mt53 G53.u b53)
 have b55:=uZ G55 T55.F.bd2
 have G46:=R (Cv (n:=0) T46.F ck)
 have b46:=uZ G46 T46.F.bd1
 have b50:bB K g50 ["self"] []:=T50.F.bd1
 have G50:=Wb (b:=2) (sp:=J5 c) (fun vs H Q E ⟨_,_,_,_,_,_,_,h,_⟩=>absurd h (Nat.not_lt_zero _)) (fun d z=>R (wI (n:=2 + d) T50.F ck ck.ce ck.cs mt46 G46.u b46 mt50 z b50 z_tuple)) 5
 have G57:=R (zQ (n:=0) T57.F ca)
 have b57:=uZ G57 T57.F.bd1
 have G56:=R (zG (n:=1) T56.F ca mt52 G52.u b52 z_range)
 have b56:=uZ G56 T56.F.bd1
 have G58:=R (CJ (n:=2) T58.F ca ck mt56 G56.u b56 z_sum)
 have b58:=uZ G58 T58.F.bd1
 have G59:=R (wK (n:=0) T59.F ca z_list)
 have b59:=uZ G59 T59.F.bd1
 have G34:=R (Eg (n:=7) T34.F ca ck mt52 G52.u b52 mt54 G54.u b54 mt55 G55.u b55 mt46 G46.u b46 mt50 G50.u b50 mt57 G57.u b57 mt58 G58.u b58 mt56 (R (vX (n:=1) T56.F ca mt52 G52.u b52 z_range)).u b56 mt59 (R (vA (n:=0) T59.F ca z_list)).u b59 C33.u C32.u C31.u C28.u z_sorted z_range z_len)
 have C34:=T34.cal X G G34 T34.F.bd2
 have G35:=R (wV (n:=0) T35.F )
 have C35:=T35.cal X G G35 T35.F.bd2
 have G42:=R (qN (n:=0) T42.F ck)
 have b42:=uZ G42 T42.F.bd1
 have G36:=R (zP (n:=3) T36.F ca ck mt54 G54.u b54 mS_reserve G42.u b42 C35.u C30.u)
 have C36:=T36.cal X G G36 T36.F.bd4
 have G37:=R (zH (n:=1) T37.F C30.u)
 have C37:=T37.cal X G G37 T37.F.bd2
 have G45:=R (wF (n:=0) T45.F (c:=c))
 have b45:=uZ G45 T45.F.bd1
 have G48:=R (sW (n:=0) T48.F (c:=c))
 have b48:=uZ G48 T48.F.bd1
 have G49:=R (vR (n:=0) T49.F ck)
 have b49:=uZ G49 T49.F.bd2
 have G51:=R (rB (n:=2) T51.F ca g_NoBox xcl C17.u z_tuple)
 have b51:=uZ G51 T51.F.bd2
 have G60:=R (uL (n:=4) T60.F ca MCa G51 b51 g_Case (by omega) z_list)
 have b60:=uZ G60 T60.F.bd2
 have G61:=R (uQ (n:=5) T61.F ca ck g_NoDeed xclD mt54 G54.u b54 mt55 G55.u b55 mt45 G45.u b45 mt48 G48.u b48 mS_reserve G42.u b42 mt49 G49.u b49 mt60 G60.u b60 C18.u C7.u C1.u z_len)
 have b61:=uZ G61 T61.F.bd3
 have G62:=R (wQ (n:=5) T62.F ca ck g_NoDeed xclD mt54 G54.u b54 mt45 G45.u b45 mt48 G48.u b48 mt60 G60.u b60 C18.u)
 have b62:=uZ G62 T62.F.bd2
 exact Q4 (n:=14) T38.F ca ck MCa G51 b51 g_Case (by omega) mt61 G61.u b61 mt62 G62.u b62 C34.u C36.u C37.u C29.u C27.u C26.u C19.u z_len
theorem aBg {l:W.OpenLaw}{q:Program}{loose:List Str}{XP:(Str->Option Value)->Heap->Prop}{YP:World->Heap->Prop}{d d0:DefRec}{K:Params->W.Frag} (hn:l.most=some 63) (hdf:d.params.defaults=[])
  (h0:(recsOf q).find? (fun e=>e.name == ("rising" : Str))=some d0)
  (hY:∀ (w:World) (h:Heap),YP w h->(K w.params).In h)
  (F:∀ (w:World) (mg:Str->Option Value) (fa:Addr) (h:Heap),(K w.params).In h->h.Ns mainGlobals mg->mg d.name=some (.ref fa) ->
   ∃ (fd:FuncData) (c P:Addr),(∀ (s:Shared) (u:Value),BindsTo s fd ⟨[u],[]⟩ [("_law_script",u)]) /\ W.tabIn (K w.params) "rising" = some (c,P) /\ W.codeHdIn (K w.params) c P=true /\ (K w.params).lookup P=none /\ ∀ base:Heap,(K w.params).In base->base.Ns mainGlobals mg->W.CodeHd base c P->base.BuiltinsAt mg P->aV l.prog w (K w.params) mg base eG 15 fa fd ["_law_script"] (tZ (K w.params) P iY)) :
  W.WalkO q loose XP YP l.row.toRowW d [] (fun f vs=>PySem.call f vs) :=
 L2.JS (n:=63) (k:=15) (x:="_law_script") (x0:="rising") (CX:=fun _=>eG) (sp:=fun w P=>tZ (K w.params) P iY) hn (by decide) hdf ⟨rfl,by decide,by decide⟩ h0 hY F (fun _ _ a P ns hl hP hS=>⟨a,ns,rfl,hS,hl,hP,fun _=>rfl⟩) fun _ _ _ _ _ z=>z
noncomputable section
abbrev OO:=Params->Obj
def E (P:Params) (x:Str) (t:Tok) (v:Value):DictEntry:=⟨PyData.keyHash P x,.str x t,v⟩
abbrev fnO (n q:Str) (st:Stmt) (dV kV doc pm:Value) (an:Option Addr) (cdv ct:Value):FuncData:=W.fnOf n q (iR st) (fX st) (aK st) dV kV doc pm an cdv ct
def fnT (n q:Str) (st:Stmt):FuncData:={ name:=n,qualname:=q,params:=iR st,body:=.stmts (fX st),scope:=aK st,globals:=0,closure:=[],defaults:=.none,kwdefaults:=.none }
def s0  : Obj:=⟨(.type "tuple"),none,(.seq #[] 0),#[]⟩
def s1  : Obj:=⟨.none,none,(.fields #[]),#[]⟩
def s2 (x0:Str) (x1:Nat) (x3:Nat) (x5:Nat) (x6:Int) (x16:Nat) (x19:Nat) (x20:Int) (x25:Nat):Obj:=⟨(.type "code"),none,(.fields #[(.str x0 x1),(.str x0 x3),(.str "/claim/cut.py" x5),(.int x6 0),(.int 0 0),(.int 0 0),(.int 0 0),(.int 0 0),(.ref x16),(.bool false),(.int 181 0),(.ref x19),.none,.none,.none,.none,(.int x20 0),(.int x6 0),(.str "/claim/cut.py" x25)]),#[]⟩
def s3 (x0:Nat) (x2:Nat) (x3:Str) (x4:Nat):Obj:=⟨(.type "frame"),none,.plain,#[(some (.ref x0)),(some (.ref 3)),(some (.ref x2)),none,(some (.str x3 x4)),none,(some (.ref 0))]⟩
def s4 (x0:Str) (x1:Nat):Obj:=⟨(.type "tuple"),none,(.seq #[(.str x0 x1)] 0),#[]⟩
def s5 (x0:Str) (x1:Str) (x2:Stmt):Obj:=⟨.none,none,(.func (fnT x0 x1 x2)),#[]⟩
def s6 (x0:Str) (x1:Nat) (x2:Str) (x3:Nat) (x5:Nat) (x6:Int) (x8:Int) (x16:Nat) (x19:Nat) (x20:Nat) (x21:Nat) (x22:Nat) (x23:Int) (x28:Nat):Obj:=⟨(.type "code"),none,(.fields #[(.str x0 x1),(.str x2 x3),(.str "/claim/cut.py" x5),(.int x6 0),(.int x8 0),(.int 0 0),(.int 0 0),(.int 3 0),(.ref x16),(.bool true),(.int 181 0),(.ref x19),.none,(.ref x20),(.ref x21),(.ref x22),(.int x23 0),(.int x6 0),(.str "/claim/cut.py" x28)]),#[]⟩
def s7 (x0:Str) (x1:Str) (x2:Stmt) (x3:Str) (x4:Nat) (x5:Nat):Obj:=⟨(.type "function"),none,(.func (fnO x0 x1 x2 .none .none .none (.str x3 x4) none (.ref x5) .none)),#[]⟩
def s8  : Obj:=⟨(.type "builtin_function_or_method"),none,(.fields #[(.builtin "type.__prepare__"),(.type "type")]),#[]⟩
def s9 (x0:Nat):Obj:=⟨(.type "super"),none,(.fields #[(.ref x0),(.ref x0),(.ref x0)]),#[]⟩
def Do (x0:Nat):Obj:=⟨(.type "builtin_function_or_method"),none,(.fields #[(.builtin "object.__init_subclass__"),(.ref x0)]),#[]⟩
def Aw (x0:Nat):Obj:=⟨(.type "tuple"),none,(.seq #[(.ref x0)] 0),#[]⟩
def pB (x0:Str) (x1:Nat) (x2:Str) (x3:Nat) (x4:Str) (x5:Nat):Obj:=⟨(.type "tuple"),none,(.seq #[(.str x0 x1),(.str x2 x3),(.str x4 x5)] 0),#[]⟩
def o9 (x0:Str) (x1:Nat) (x2:Str) (x3:Nat):Obj:=⟨(.type "tuple"),none,(.seq #[(.str x0 x1),(.str x2 x3)] 0),#[]⟩
def sY (x0:Str) (x1:Nat) (x2:Str) (x3:Nat) (x5:Nat) (x6:Int) (x8:Int) (x16:Nat) (x19:Nat) (x20:Nat) (x21:Int) (x26:Nat):Obj:=⟨(.type "code"),none,(.fields #[(.str x0 x1),(.str x2 x3),(.str "/claim/cut.py" x5),(.int x6 0),(.int x8 0),(.int 0 0),(.int 0 0),(.int 3 0),(.ref x16),(.bool true),(.int 181 0),(.ref x19),.none,.none,.none,(.ref x20),(.int x21 0),(.int x6 0),(.str "/claim/cut.py" x26)]),#[]⟩
def Q0 (x0:Str) (x1:Nat) (x2:Str) (x3:Nat) (x4:Str) (x5:Nat) (x6:Str) (x7:Nat):Obj:=⟨(.type "tuple"),none,(.seq #[(.str x0 x1),(.str x2 x3),(.str x4 x5),(.str x6 x7)] 0),#[]⟩
def o13:OO:=fun _=>s2 "<module>" 182 183 184 1 11 12 185 186
def o14:OO:=fun _=>s3 13 3 "__main__" 164
def o3:OO:=fun P=>⟨(.type "dict"),none,(.dict #[E P "__name__" 165 (.str "lidprice.stands" 349),E P "__doc__" 166 .none,E P "__package__" 167 .none,E P "__loader__" 168 (.builtin "__main__.__loader__#opaque"),E P "__spec__" 169 .none,E P "__annotations__" 170 (.ref 6),E P "__builtins__" 171 (.ref 4),E P "__file__" 173 (.str "/claim/cut.py" 172),E P "__cached__" 174 .none,E P "_wall" 193 (.ref 21),E P "LidError" 213 (.ref 31),E P "NoBox" 229 (.ref 44),E P "NoDeed" 245 (.ref 56),E P "is_whole" 256 (.ref 65),E P "common_divisor" 265 (.ref 72),E P "common_multiple" 274 (.ref 79),E P "share" 283 (.ref 86),E P "whole" 290 (.ref 93),E P "below" 298 (.ref 100),E P "lesser" 306 (.ref 107),E P "MOST_WORTH" 310 (.int 1000000000 309),E P "MOST_WEIGHT" 312 (.int 1000 311),E P "rising" 318 (.ref 112),E P "in_form" 324 (.ref 117),E P "all_weights" 330 (.ref 122),E P "capped" 336 (.ref 127),E P "mixed" 342 (.ref 132),E P "level_for" 348 (.ref 137),E P "MOST_PRICE" 352 (.int 1000000000 351),E P "MOST_STAGE_ROWS" 354 (.int 4 353),E P "MOST_STAGES" 356 (.int 4 355),E P "MOST_ENDS" 358 (.int 12 357),E P "MOST_BOXES" 360 (.int 6 359),E P "Stand" 423 (.ref 182)] 34),#[]⟩
def Sq:OO:=fun _=>⟨.none,none,(.fields #[(.int 1 0),(.int 0 0),(.ref 20),(.int 5 0),(.int 0 0),(.ref 27),(.int 7 0),(.int 0 0),(.ref 40),(.int 9 0),(.int 0 0),(.ref 52),(.int 12 0),(.int 0 0),(.ref 64),(.int 14 0),(.int 0 0),(.ref 71),(.int 20 0),(.int 0 0),(.ref 78),(.int 25 0),(.int 0 0),(.ref 85),(.int 30 0),(.int 0 0),(.ref 92),(.int 32 0),(.int 0 0),(.ref 99),(.int 34 0),(.int 0 0),(.ref 106),(.int 39 0),(.int 0 0),(.ref 111),(.int 43 0),(.int 0 0),(.ref 116),(.int 51 0),(.int 0 0),(.ref 121),(.int 53 0),(.int 0 0),(.ref 126),(.int 55 0),(.int 0 0),(.ref 131),(.int 62 0),(.int 0 0),(.ref 136),(.int 79 0),(.int 0 0),(.ref 143)]),#[]⟩
def o17:OO:=fun _=>s4 "k" 190
def o19:OO:=fun _=>s5 "_wall" "_wall" (top 0)
def o20:OO:=fun _=>s6 "_wall" 187 "_wall" 188 189 1 1 15 16 17 18 19 191 192
def o21:OO:=fun _=>s7 "_wall" "_wall" (top 0) "__main__" 164 20
def o22:OO:=fun _=>⟨(.type "tuple"),none,(.seq #[(.type "ValueError")] 0),#[]⟩
def o24:OO:=fun P=>⟨(.type "dict"),none,(.dict #[E P "__module__" 203 (.str "lidprice.errors" 194),E P "__qualname__" 205 (.str "LidError" 204),E P "__firstlineno__" 207 (.int 5 206),E P "__static_attributes__" 208 (.ref 29)] 4),#[]⟩
def o27:OO:=fun _=>s2 "LidError" 198 199 200 5 25 26 201 202
def o28:OO:=fun _=>s3 27 24 "lidprice.errors" 194
def o30:OO:=fun P=>⟨(.type "dict"),none,(.dict #[E P "__module__" 203 (.str "lidprice.errors" 194),E P "__firstlineno__" 207 (.int 5 206),E P "__static_attributes__" 208 (.ref 29),E P "__weakref__" 210 (.ref 32),E P "__doc__" 211 .none] 3),#[]⟩
def o31:OO:=fun _=>⟨(.type "type"),none,(.cls ⟨"LidError",[(.type "ValueError")],[(.ref 31),(.type "ValueError"),(.type "Exception"),(.type "BaseException"),(.type "object")],30,"LidError",true,[],[(.ref 44),(.ref 56)],false,none,false⟩),#[(some (.ref 22)),none,(some (.str "LidError" 196)),(some (.str "LidError" 204)),(some (.builtin "ValueError.__new__")),(some (.bool true))]⟩
def o32:OO:=fun _=>⟨(.type "getset_descriptor"),none,(.fields #[(.str "__weakref__" 209),(.ref 31),(.builtin "ExceptionGroup.__weakref__"),.none]),#[]⟩
def o33:OO:=fun _=>s9 31
def o34:OO:=fun _=>Do 31
def o35:OO:=fun _=>Aw 31
def o37:OO:=fun P=>⟨(.type "dict"),none,(.dict #[E P "__module__" 221 (.str "lidprice.errors" 194),E P "__qualname__" 223 (.str "NoBox" 222),E P "__firstlineno__" 225 (.int 7 224),E P "__static_attributes__" 226 (.ref 42)] 4),#[]⟩
def o40:OO:=fun _=>s2 "NoBox" 216 217 218 7 38 39 219 220
def o41:OO:=fun _=>s3 40 37 "lidprice.errors" 194
def o43:OO:=fun P=>⟨(.type "dict"),none,(.dict #[E P "__module__" 221 (.str "lidprice.errors" 194),E P "__firstlineno__" 225 (.int 7 224),E P "__static_attributes__" 226 (.ref 42),E P "__doc__" 227 .none] 2),#[]⟩
def o44:OO:=fun _=>⟨(.type "type"),none,(.cls ⟨"NoBox",[(.ref 31)],[(.ref 44),(.ref 31),(.type "ValueError"),(.type "Exception"),(.type "BaseException"),(.type "object")],43,"NoBox",true,[],[],false,none,false⟩),#[(some (.ref 35)),none,(some (.str "NoBox" 214)),(some (.str "NoBox" 222)),(some (.builtin "ValueError.__new__")),(some (.bool true))]⟩
def o45:OO:=fun _=>s9 44
def o46:OO:=fun _=>Do 44
def o47:OO:=fun _=>Aw 31
def o49:OO:=fun P=>⟨(.type "dict"),none,(.dict #[E P "__module__" 237 (.str "lidprice.errors" 194),E P "__qualname__" 239 (.str "NoDeed" 238),E P "__firstlineno__" 241 (.int 9 240),E P "__static_attributes__" 242 (.ref 54)] 4),#[]⟩
def o52:OO:=fun _=>s2 "NoDeed" 232 233 234 9 50 51 235 236
def o53:OO:=fun _=>s3 52 49 "lidprice.errors" 194
def o55:OO:=fun P=>⟨(.type "dict"),none,(.dict #[E P "__module__" 237 (.str "lidprice.errors" 194),E P "__firstlineno__" 241 (.int 9 240),E P "__static_attributes__" 242 (.ref 54),E P "__doc__" 243 .none] 2),#[]⟩
def o56:OO:=fun _=>⟨(.type "type"),none,(.cls ⟨"NoDeed",[(.ref 31)],[(.ref 56),(.ref 31),(.type "ValueError"),(.type "Exception"),(.type "BaseException"),(.type "object")],55,"NoDeed",true,[],[],false,none,false⟩),#[(some (.ref 47)),none,(some (.str "NoDeed" 230)),(some (.str "NoDeed" 238)),(some (.builtin "ValueError.__new__")),(some (.bool true))]⟩
def o57:OO:=fun _=>s9 56
def o58:OO:=fun _=>Do 56
def o61:OO:=fun _=>pB "thing" 251 "least" 252 "most" 253
def o63:OO:=fun _=>s5 "is_whole" "is_whole" (top 6)
def o64:OO:=fun _=>s6 "is_whole" 248 "is_whole" 249 250 12 3 59 60 61 62 63 254 255
def o65:OO:=fun _=>s7 "is_whole" "is_whole" (top 6) "lidprice.shares" 246 64
def o68:OO:=fun _=>pB "one" 260 "other" 261 "rest" 262
def o70:OO:=fun _=>s5 "common_divisor" "common_divisor" (top 7)
def o71:OO:=fun _=>s6 "common_divisor" 257 "common_divisor" 258 259 14 2 66 67 68 69 70 263 264
def o72:OO:=fun _=>s7 "common_divisor" "common_divisor" (top 7) "lidprice.shares" 246 71
def o75:OO:=fun _=>pB "numbers" 269 "multiple" 270 "number" 271
def o77:OO:=fun _=>s5 "common_multiple" "common_multiple" (top 8)
def o78:OO:=fun _=>s6 "common_multiple" 266 "common_multiple" 267 268 20 1 73 74 75 76 77 272 273
def o79:OO:=fun _=>s7 "common_multiple" "common_multiple" (top 8) "lidprice.shares" 246 78
def o82:OO:=fun _=>pB "top" 278 "bottom" 279 "divisor" 280
def o84:OO:=fun _=>s5 "share" "share" (top 9)
def o85:OO:=fun _=>s6 "share" 275 "share" 276 277 25 2 80 81 82 83 84 281 282
def o86:OO:=fun _=>s7 "share" "share" (top 9) "lidprice.shares" 246 85
def o89:OO:=fun _=>s4 "number" 287
def o91:OO:=fun _=>s5 "whole" "whole" (top 10)
def o92:OO:=fun _=>s6 "whole" 284 "whole" 285 286 30 1 87 88 89 90 91 288 289
def o93:OO:=fun _=>s7 "whole" "whole" (top 10) "lidprice.shares" 246 92
def o96:OO:=fun _=>o9 "one" 294 "other" 295
def o98:OO:=fun _=>s5 "below" "below" (top 11)
def o99:OO:=fun _=>s6 "below" 291 "below" 292 293 32 2 94 95 96 97 98 296 297
def V9:OO:=fun _=>s7 "below" "below" (top 11) "lidprice.shares" 246 99
def W8:OO:=fun _=>o9 "one" 302 "other" 303
def aA0:OO:=fun _=>s5 "lesser" "lesser" (top 12)
def Vd:OO:=fun _=>s6 "lesser" 299 "lesser" 300 301 34 2 101 102 103 104 105 304 305
def XF:OO:=fun _=>s7 "lesser" "lesser" (top 12) "lidprice.shares" 246 106
def aBd:OO:=fun _=>s5 "rising" "rising" (top 16)
def X3:OO:=fun _=>sY "rising" 313 "rising" 314 315 39 1 108 109 110 316 317
def Xx:OO:=fun _=>s7 "rising" "rising" (top 16) "lidprice.tables" 307 111
def aBi:OO:=fun _=>s5 "in_form" "in_form" (top 17)
def Ru:OO:=fun _=>sY "in_form" 319 "in_form" 320 321 43 1 113 114 115 322 323
def YL:OO:=fun _=>s7 "in_form" "in_form" (top 17) "lidprice.tables" 307 116
def aAs:OO:=fun _=>s5 "all_weights" "all_weights" (top 18)
def YB:OO:=fun _=>sY "all_weights" 325 "all_weights" 326 327 51 1 118 119 120 328 329
def V4:OO:=fun _=>s7 "all_weights" "all_weights" (top 18) "lidprice.tables" 307 121
def Zi:OO:=fun _=>s5 "capped" "capped" (top 19)
def Su:OO:=fun _=>sY "capped" 331 "capped" 332 333 53 2 123 124 125 334 335
def Uh:OO:=fun _=>s7 "capped" "capped" (top 19) "lidprice.tables" 307 126
def aBo:OO:=fun _=>s5 "mixed" "mixed" (top 20)
def XH:OO:=fun _=>sY "mixed" 337 "mixed" 338 339 55 1 128 129 130 340 341
def XS:OO:=fun _=>s7 "mixed" "mixed" (top 20) "lidprice.tables" 307 131
def aAd:OO:=fun _=>s5 "level_for" "level_for" (top 21)
def Wu:OO:=fun _=>sY "level_for" 343 "level_for" 344 345 62 2 133 134 135 346 347
def WN:OO:=fun _=>s7 "level_for" "level_for" (top 21) "lidprice.tables" 307 136
def aBb:OO:=fun P=>⟨(.type "dict"),none,(.dict #[E P "__module__" 368 (.str "lidprice.stands" 349),E P "__qualname__" 370 (.str "Stand" 369),E P "__firstlineno__" 372 (.int 79 371),E P "__init__" 383 (.ref 151),E P "ends" 390 (.ref 158),E P "stages" 397 (.ref 165),E P "reserve" 404 (.ref 172),E P "caps" 411 (.ref 179),E P "__static_attributes__" 416 (.ref 180)] 9),#[]⟩
def aA9:OO:=fun _=>⟨.none,none,(.fields #[(.int 81 0),(.int 4 0),(.ref 150),(.int 87 0),(.int 4 0),(.ref 157),(.int 90 0),(.int 4 0),(.ref 164),(.int 93 0),(.int 4 0),(.ref 171),(.int 96 0),(.int 4 0),(.ref 178)]),#[]⟩
def Z8:OO:=fun _=>s2 "Stand" 363 364 365 79 141 142 366 367
def aA2:OO:=fun _=>s3 143 140 "lidprice.stands" 349
def Yg:OO:=fun _=>⟨(.type "tuple"),none,(.seq #[(.str "self" 376),(.str "end_count" 377),(.str "stage_count" 378),(.str "level" 379),(.str "cap_rows" 380)] 0),#[]⟩
def Ze:OO:=fun _=>s5 "__init__" "Stand.__init__" (aF (top 28) 0)
def SN:OO:=fun _=>s6 "__init__" 373 "Stand.__init__" 374 375 81 5 145 146 147 148 149 381 382
def R8:OO:=fun _=>s7 "__init__" "Stand.__init__" (aF (top 28) 0) "lidprice.stands" 349 150
def Tn:OO:=fun _=>s4 "self" 387
def aA1:OO:=fun _=>s5 "ends" "Stand.ends" (aF (top 28) 1)
def Xy:OO:=fun _=>s6 "ends" 384 "Stand.ends" 385 386 87 1 152 153 154 155 156 388 389
def Yd:OO:=fun _=>s7 "ends" "Stand.ends" (aF (top 28) 1) "lidprice.stands" 349 157
def WF:OO:=fun _=>s4 "self" 394
def aAQ:OO:=fun _=>s5 "stages" "Stand.stages" (aF (top 28) 2)
def Xk:OO:=fun _=>s6 "stages" 391 "Stand.stages" 392 393 90 1 159 160 161 162 163 395 396
def Ut:OO:=fun _=>s7 "stages" "Stand.stages" (aF (top 28) 2) "lidprice.stands" 349 164
def VH:OO:=fun _=>s4 "self" 401
def aAx:OO:=fun _=>s5 "reserve" "Stand.reserve" (aF (top 28) 3)
def Th:OO:=fun _=>s6 "reserve" 398 "Stand.reserve" 399 400 93 1 166 167 168 169 170 402 403
def Tz:OO:=fun _=>s7 "reserve" "Stand.reserve" (aF (top 28) 3) "lidprice.stands" 349 171
def YT:OO:=fun _=>s4 "self" 408
def Zq:OO:=fun _=>s5 "caps" "Stand.caps" (aF (top 28) 4)
def Rr:OO:=fun _=>s6 "caps" 405 "Stand.caps" 406 407 96 1 173 174 175 176 177 409 410
def Vt:OO:=fun _=>s7 "caps" "Stand.caps" (aF (top 28) 4) "lidprice.stands" 349 178
def Y6:OO:=fun _=>Q0 "cap_rows" 412 "end_count" 413 "level" 414 "stage_count" 415
def Uc:OO:=fun P=>⟨(.type "dict"),none,(.dict #[E P "__module__" 368 (.str "lidprice.stands" 349),E P "__firstlineno__" 372 (.int 79 371),E P "__init__" 383 (.ref 151),E P "ends" 390 (.ref 158),E P "stages" 397 (.ref 165),E P "reserve" 404 (.ref 172),E P "caps" 411 (.ref 179),E P "__static_attributes__" 416 (.ref 180),E P "__dict__" 418 (.ref 183),E P "__weakref__" 420 (.ref 184),E P "__doc__" 421 .none] 4),#[]⟩
def aBc:OO:=fun _=>⟨(.type "type"),none,(.cls ⟨"Stand",[(.type "object")],[(.ref 182),(.type "object")],181,"Stand",true,[],[],false,none,false⟩),#[none,none,(some (.str "Stand" 361)),(some (.str "Stand" 369)),(some (.builtin "object.__new__")),(some (.bool true))]⟩
def U9:OO:=fun _=>⟨(.type "getset_descriptor"),none,(.fields #[(.str "__dict__" 417),(.ref 182),(.builtin "function.__dict__"),(.builtin "function.__dict__#set")]),#[]⟩
def Y0:OO:=fun _=>⟨(.type "getset_descriptor"),none,(.fields #[(.str "__weakref__" 419),(.ref 182),(.builtin "ExceptionGroup.__weakref__"),.none]),#[]⟩
def aA8:OO:=fun _=>s9 182
def Yx:OO:=fun _=>Do 182
def aA6:OO:=fun P=>⟨(.type "dict"),none,(.dict #[E P "__name__" 165 (.str "lidprice.cases" 572),E P "__doc__" 166 .none,E P "__package__" 167 .none,E P "__loader__" 168 (.builtin "__main__.__loader__#opaque"),E P "__spec__" 169 .none,E P "__annotations__" 170 (.ref 6),E P "__builtins__" 171 (.ref 4),E P "__file__" 173 (.str "/claim/cut.py" 172),E P "__cached__" 174 .none,E P "_wall" 193 (.ref 21),E P "LidError" 213 (.ref 31),E P "NoBox" 229 (.ref 44),E P "NoDeed" 245 (.ref 56),E P "is_whole" 256 (.ref 65),E P "common_divisor" 265 (.ref 72),E P "common_multiple" 274 (.ref 79),E P "share" 283 (.ref 86),E P "whole" 290 (.ref 93),E P "below" 298 (.ref 100),E P "lesser" 306 (.ref 107),E P "MOST_WORTH" 310 (.int 1000000000 309),E P "MOST_WEIGHT" 312 (.int 1000 311),E P "rising" 318 (.ref 112),E P "in_form" 324 (.ref 117),E P "all_weights" 330 (.ref 122),E P "capped" 336 (.ref 127),E P "mixed" 342 (.ref 132),E P "level_for" 348 (.ref 137),E P "MOST_PRICE" 352 (.int 1000000000 351),E P "MOST_STAGE_ROWS" 354 (.int 4 353),E P "MOST_STAGES" 356 (.int 4 355),E P "MOST_ENDS" 358 (.int 12 357),E P "MOST_BOXES" 360 (.int 6 359),E P "Stand" 423 (.ref 182),E P "End" 477 (.ref 231),E P "Stage" 545 (.ref 288),E P "is_stand" 552 (.ref 297),E P "is_stage_row" 559 (.ref 304),E P "is_stage_rows" 565 (.ref 309),E P "need_boxes" 571 (.ref 314),E P "with_thing" 582 (.ref 321),E P "Case" 726 (.ref 430)] 42),#[]⟩
def Tu:OO:=fun _=>⟨.none,none,(.fields #[(.int 1 0),(.int 0 0),(.ref 20),(.int 5 0),(.int 0 0),(.ref 27),(.int 7 0),(.int 0 0),(.ref 40),(.int 9 0),(.int 0 0),(.ref 52),(.int 12 0),(.int 0 0),(.ref 64),(.int 14 0),(.int 0 0),(.ref 71),(.int 20 0),(.int 0 0),(.ref 78),(.int 25 0),(.int 0 0),(.ref 85),(.int 30 0),(.int 0 0),(.ref 92),(.int 32 0),(.int 0 0),(.ref 99),(.int 34 0),(.int 0 0),(.ref 106),(.int 39 0),(.int 0 0),(.ref 111),(.int 43 0),(.int 0 0),(.ref 116),(.int 51 0),(.int 0 0),(.ref 121),(.int 53 0),(.int 0 0),(.ref 126),(.int 55 0),(.int 0 0),(.ref 131),(.int 62 0),(.int 0 0),(.ref 136),(.int 79 0),(.int 0 0),(.ref 143),(.int 98 0),(.int 0 0),(.ref 192),(.int 117 0),(.int 0 0),(.ref 239),(.int 149 0),(.int 0 0),(.ref 296),(.int 151 0),(.int 0 0),(.ref 303),(.int 155 0),(.int 0 0),(.ref 308),(.int 159 0),(.int 0 0),(.ref 313),(.int 165 0),(.int 0 0),(.ref 320),(.int 167 0),(.int 0 0),(.ref 327)]),#[]⟩
def JB:OO:=fun _=>⟨(.type "type"),none,(.cls ⟨"Stand",[(.type "object")],[(.ref 182),(.type "object")],181,"Stand",true,[],[(.ref 231),(.ref 288)],false,none,false⟩),#[none,none,(some (.str "Stand" 361)),(some (.str "Stand" 369)),(some (.builtin "object.__new__")),(some (.bool true))]⟩
def VD:OO:=fun _=>Aw 182
def Yz:OO:=fun P=>⟨(.type "dict"),none,(.dict #[E P "__module__" 431 (.str "lidprice.stands" 349),E P "__qualname__" 433 (.str "End" 432),E P "__firstlineno__" 435 (.int 98 434),E P "__init__" 443 (.ref 200),E P "is_end" 450 (.ref 207),E P "ways" 457 (.ref 214),E P "beside" 465 (.ref 221),E P "told" 472 (.ref 228),E P "__static_attributes__" 474 (.ref 229)] 9),#[]⟩
def Zm:OO:=fun _=>⟨.none,none,(.fields #[(.int 100 0),(.int 4 0),(.ref 199),(.int 106 0),(.int 4 0),(.ref 206),(.int 109 0),(.int 4 0),(.ref 213),(.int 112 0),(.int 4 0),(.ref 220),(.int 115 0),(.int 4 0),(.ref 227)]),#[]⟩
def aAO:OO:=fun _=>s2 "End" 426 427 428 98 190 191 429 430
def aAl:OO:=fun _=>s3 192 189 "lidprice.stands" 349
def UL:OO:=fun _=>o9 "self" 439 "worth" 440
def ZJ:OO:=fun _=>s5 "__init__" "End.__init__" (aF (top 29) 0)
def Vz:OO:=fun _=>s6 "__init__" 436 "End.__init__" 437 438 100 2 194 195 196 197 198 441 442
def Xb:OO:=fun _=>s7 "__init__" "End.__init__" (aF (top 29) 0) "lidprice.stands" 349 199
def Vr:OO:=fun _=>s4 "self" 447
def aAc:OO:=fun _=>s5 "is_end" "End.is_end" (aF (top 29) 1)
def W4:OO:=fun _=>s6 "is_end" 444 "End.is_end" 445 446 106 1 201 202 203 204 205 448 449
def XJ:OO:=fun _=>s7 "is_end" "End.is_end" (aF (top 29) 1) "lidprice.stands" 349 206
def Uy:OO:=fun _=>s4 "self" 454
def aAf:OO:=fun _=>s5 "ways" "End.ways" (aF (top 29) 2)
def WD:OO:=fun _=>s6 "ways" 451 "End.ways" 452 453 109 1 208 209 210 211 212 455 456
def U3:OO:=fun _=>s7 "ways" "End.ways" (aF (top 29) 2) "lidprice.stands" 349 213
def Rm:OO:=fun _=>o9 "self" 461 "level" 462
def Zr:OO:=fun _=>s5 "beside" "End.beside" (aF (top 29) 3)
def UW:OO:=fun _=>s6 "beside" 458 "End.beside" 459 460 112 2 215 216 217 218 219 463 464
def Uu:OO:=fun _=>s7 "beside" "End.beside" (aF (top 29) 3) "lidprice.stands" 349 220
def Vh:OO:=fun _=>s4 "self" 469
def aAk:OO:=fun _=>s5 "told" "End.told" (aF (top 29) 4)
def Uv:OO:=fun _=>s6 "told" 466 "End.told" 467 468 115 1 222 223 224 225 226 470 471
def Te:OO:=fun _=>s7 "told" "End.told" (aF (top 29) 4) "lidprice.stands" 349 227
def Sv:OO:=fun _=>s4 "worth" 473
def We:OO:=fun P=>⟨(.type "dict"),none,(.dict #[E P "__module__" 431 (.str "lidprice.stands" 349),E P "__firstlineno__" 435 (.int 98 434),E P "__init__" 443 (.ref 200),E P "is_end" 450 (.ref 207),E P "ways" 457 (.ref 214),E P "beside" 465 (.ref 221),E P "told" 472 (.ref 228),E P "__static_attributes__" 474 (.ref 229),E P "__doc__" 475 .none] 2),#[]⟩
def Yh:OO:=fun _=>⟨(.type "type"),none,(.cls ⟨"End",[(.ref 182)],[(.ref 231),(.ref 182),(.type "object")],230,"End",true,[],[],false,none,false⟩),#[(some (.ref 187)),none,(some (.str "End" 424)),(some (.str "End" 432)),(some (.builtin "object.__new__")),(some (.bool true))]⟩
def aBe:OO:=fun _=>s9 231
def aAN:OO:=fun _=>Do 231
def Uq:OO:=fun _=>Aw 182
def ZV:OO:=fun P=>⟨(.type "dict"),none,(.dict #[E P "__module__" 485 (.str "lidprice.stands" 349),E P "__qualname__" 487 (.str "Stage" 486),E P "__firstlineno__" 489 (.int 117 488),E P "__init__" 495 (.ref 245),E P "is_end" 502 (.ref 252),E P "row_share" 510 (.ref 259),E P "after" 518 (.ref 266),E P "ways" 525 (.ref 273),E P "beside" 533 (.ref 280),E P "told" 539 (.ref 285),E P "__static_attributes__" 542 (.ref 286)] 11),#[]⟩
def aAR:OO:=fun _=>⟨.none,none,(.fields #[(.int 119 0),(.int 4 0),(.ref 244),(.int 132 0),(.int 4 0),(.ref 251),(.int 135 0),(.int 4 0),(.ref 258),(.int 138 0),(.int 4 0),(.ref 265),(.int 141 0),(.int 4 0),(.ref 272),(.int 144 0),(.int 4 0),(.ref 279),(.int 147 0),(.int 4 0),(.ref 284)]),#[]⟩
def aAV:OO:=fun _=>s2 "Stage" 480 481 482 117 237 238 483 484
def aBl:OO:=fun _=>s3 239 236 "lidprice.stands" 349
def ZX:OO:=fun _=>s5 "__init__" "Stage.__init__" (aF (top 30) 0)
def Vi:OO:=fun _=>sY "__init__" 490 "Stage.__init__" 491 492 119 3 241 242 243 493 494
def Yl:OO:=fun _=>s7 "__init__" "Stage.__init__" (aF (top 30) 0) "lidprice.stands" 349 244
def Ws:OO:=fun _=>s4 "self" 499
def ZW:OO:=fun _=>s5 "is_end" "Stage.is_end" (aF (top 30) 1)
def Xm:OO:=fun _=>s6 "is_end" 496 "Stage.is_end" 497 498 132 1 246 247 248 249 250 500 501
def V0:OO:=fun _=>s7 "is_end" "Stage.is_end" (aF (top 30) 1) "lidprice.stands" 349 251
def Ra:OO:=fun _=>o9 "self" 506 "row" 507
def aBa:OO:=fun _=>s5 "row_share" "Stage.row_share" (aF (top 30) 2)
def X5:OO:=fun _=>s6 "row_share" 503 "Stage.row_share" 504 505 135 2 253 254 255 256 257 508 509
def Xi:OO:=fun _=>s7 "row_share" "Stage.row_share" (aF (top 30) 2) "lidprice.stands" 349 258
def XD:OO:=fun _=>o9 "self" 514 "row" 515
def aAu:OO:=fun _=>s5 "after" "Stage.after" (aF (top 30) 3)
def Up:OO:=fun _=>s6 "after" 511 "Stage.after" 512 513 138 2 260 261 262 263 264 516 517
def YG:OO:=fun _=>s7 "after" "Stage.after" (aF (top 30) 3) "lidprice.stands" 349 265
def RX:OO:=fun _=>s4 "self" 522
def aAM:OO:=fun _=>s5 "ways" "Stage.ways" (aF (top 30) 4)
def Ve:OO:=fun _=>s6 "ways" 519 "Stage.ways" 520 521 141 1 267 268 269 270 271 523 524
def Ub:OO:=fun _=>s7 "ways" "Stage.ways" (aF (top 30) 4) "lidprice.stands" 349 272
def Wn:OO:=fun _=>o9 "self" 529 "level" 530
def Yw:OO:=fun _=>s5 "beside" "Stage.beside" (aF (top 30) 5)
def Rh:OO:=fun _=>s6 "beside" 526 "Stage.beside" 527 528 144 2 274 275 276 277 278 531 532
def Y4:OO:=fun _=>s7 "beside" "Stage.beside" (aF (top 30) 5) "lidprice.stands" 349 279
def aAF:OO:=fun _=>s5 "told" "Stage.told" (aF (top 30) 6)
def Xv:OO:=fun _=>sY "told" 534 "Stage.told" 535 536 147 1 281 282 283 537 538
def VP:OO:=fun _=>s7 "told" "Stage.told" (aF (top 30) 6) "lidprice.stands" 349 284
def WY:OO:=fun _=>o9 "price" 540 "rows" 541
def Ss:OO:=fun P=>⟨(.type "dict"),none,(.dict #[E P "__module__" 485 (.str "lidprice.stands" 349),E P "__firstlineno__" 489 (.int 117 488),E P "__init__" 495 (.ref 245),E P "is_end" 502 (.ref 252),E P "row_share" 510 (.ref 259),E P "after" 518 (.ref 266),E P "ways" 525 (.ref 273),E P "beside" 533 (.ref 280),E P "told" 539 (.ref 285),E P "__static_attributes__" 542 (.ref 286),E P "__doc__" 543 .none] 2),#[]⟩
def Ry:OO:=fun _=>⟨(.type "type"),none,(.cls ⟨"Stage",[(.ref 182)],[(.ref 288),(.ref 182),(.type "object")],287,"Stage",true,[],[],false,none,false⟩),#[(some (.ref 234)),none,(some (.str "Stage" 478)),(some (.str "Stage" 486)),(some (.builtin "object.__new__")),(some (.bool true))]⟩
def aAp:OO:=fun _=>s9 288
def ZD:OO:=fun _=>Do 288
def Ye:OO:=fun _=>s4 "thing" 549
def aAw:OO:=fun _=>s5 "is_stand" "is_stand" (top 31)
def Vq:OO:=fun _=>s6 "is_stand" 546 "is_stand" 547 548 149 1 291 292 293 294 295 550 551
def U6:OO:=fun _=>s7 "is_stand" "is_stand" (top 31) "lidprice.stands" 349 296
def VR:OO:=fun _=>s4 "row" 556
def aBm:OO:=fun _=>s5 "is_stage_row" "is_stage_row" (top 32)
def Vb:OO:=fun _=>s6 "is_stage_row" 553 "is_stage_row" 554 555 151 1 298 299 300 301 302 557 558
def TV:OO:=fun _=>s7 "is_stage_row" "is_stage_row" (top 32) "lidprice.stands" 349 303
def aAK:OO:=fun _=>s5 "is_stage_rows" "is_stage_rows" (top 33)
def Vm:OO:=fun _=>sY "is_stage_rows" 560 "is_stage_rows" 561 562 155 1 305 306 307 563 564
def V1:OO:=fun _=>s7 "is_stage_rows" "is_stage_rows" (top 33) "lidprice.stands" 349 308
def ZL:OO:=fun _=>s5 "need_boxes" "need_boxes" (top 34)
def UJ:OO:=fun _=>sY "need_boxes" 566 "need_boxes" 567 568 159 1 310 311 312 569 570
def Xe:OO:=fun _=>s7 "need_boxes" "need_boxes" (top 34) "lidprice.stands" 349 313
def Rz:OO:=fun _=>pB "things" 577 "place" 578 "thing" 579
def ZG:OO:=fun _=>s5 "with_thing" "with_thing" (top 36)
def WL:OO:=fun _=>s6 "with_thing" 574 "with_thing" 575 576 165 3 315 316 317 318 319 580 581
def Vg:OO:=fun _=>s7 "with_thing" "with_thing" (top 36) "lidprice.cases" 572 320
def aAb:OO:=fun P=>⟨(.type "dict"),none,(.dict #[E P "__module__" 590 (.str "lidprice.cases" 572),E P "__qualname__" 592 (.str "Case" 591),E P "__firstlineno__" 594 (.int 167 593),E P "__init__" 600 (.ref 333),E P "how_many" 607 (.ref 340),E P "need_box" 615 (.ref 347),E P "stand" 623 (.ref 354),E P "cap" 631 (.ref 361),E P "kept" 637 (.ref 366),E P "paid" 644 (.ref 373),E P "had" 650 (.ref 378),E P "deeds" 657 (.ref 385),E P "caps" 667 (.ref 392),E P "debt" 675 (.ref 399),E P "left" 682 (.ref 406),E P "behind" 691 (.ref 413),E P "opened" 704 (.ref 420),E P "taken" 713 (.ref 427),E P "__static_attributes__" 719 (.ref 428)] 19),#[]⟩
def Z7:OO:=fun _=>⟨.none,none,(.fields #[(.int 169 0),(.int 4 0),(.ref 332),(.int 177 0),(.int 4 0),(.ref 339),(.int 180 0),(.int 4 0),(.ref 346),(.int 184 0),(.int 4 0),(.ref 353),(.int 188 0),(.int 4 0),(.ref 360),(.int 192 0),(.int 4 0),(.ref 365),(.int 195 0),(.int 4 0),(.ref 372),(.int 198 0),(.int 4 0),(.ref 377),(.int 201 0),(.int 4 0),(.ref 384),(.int 204 0),(.int 4 0),(.ref 391),(.int 209 0),(.int 4 0),(.ref 398),(.int 212 0),(.int 4 0),(.ref 405),(.int 215 0),(.int 4 0),(.ref 412),(.int 223 0),(.int 4 0),(.ref 419),(.int 235 0),(.int 4 0),(.ref 426)]),#[]⟩
def Z0:OO:=fun _=>s2 "Case" 585 586 587 167 325 326 588 589
def aAe:OO:=fun _=>s3 327 324 "lidprice.cases" 572
def ZM:OO:=fun _=>s5 "__init__" "Case.__init__" (aF (top 37) 0)
def Rg:OO:=fun _=>sY "__init__" 595 "Case.__init__" 596 597 169 2 329 330 331 598 599
def S6:OO:=fun _=>s7 "__init__" "Case.__init__" (aF (top 37) 0) "lidprice.cases" 572 332
def Rk:OO:=fun _=>s4 "self" 604
def aAo:OO:=fun _=>s5 "how_many" "Case.how_many" (aF (top 37) 1)
def Rc:OO:=fun _=>s6 "how_many" 601 "Case.how_many" 602 603 177 1 334 335 336 337 338 605 606
def Rx:OO:=fun _=>s7 "how_many" "Case.how_many" (aF (top 37) 1) "lidprice.cases" 572 339
def YD:OO:=fun _=>o9 "self" 611 "box" 612
def Zw:OO:=fun _=>s5 "need_box" "Case.need_box" (aF (top 37) 2)
def Wk:OO:=fun _=>s6 "need_box" 608 "Case.need_box" 609 610 180 2 341 342 343 344 345 613 614
def Vu:OO:=fun _=>s7 "need_box" "Case.need_box" (aF (top 37) 2) "lidprice.cases" 572 346
def Tw:OO:=fun _=>o9 "self" 619 "box" 620
def aBs:OO:=fun _=>s5 "stand" "Case.stand" (aF (top 37) 3)
def V8:OO:=fun _=>s6 "stand" 616 "Case.stand" 617 618 184 2 348 349 350 351 352 621 622
def Y8:OO:=fun _=>s7 "stand" "Case.stand" (aF (top 37) 3) "lidprice.cases" 572 353
def Td:OO:=fun _=>o9 "self" 627 "box" 628
def aA5:OO:=fun _=>s5 "cap" "Case.cap" (aF (top 37) 4)
def YC:OO:=fun _=>s6 "cap" 624 "Case.cap" 625 626 188 2 355 356 357 358 359 629 630
def Vw:OO:=fun _=>s7 "cap" "Case.cap" (aF (top 37) 4) "lidprice.cases" 572 360
def aBj:OO:=fun _=>s5 "kept" "Case.kept" (aF (top 37) 5)
def Rt:OO:=fun _=>sY "kept" 632 "Case.kept" 633 634 192 1 362 363 364 635 636
def Sh:OO:=fun _=>s7 "kept" "Case.kept" (aF (top 37) 5) "lidprice.cases" 572 365
def Ro:OO:=fun _=>s4 "self" 641
def aAT:OO:=fun _=>s5 "paid" "Case.paid" (aF (top 37) 6)
def R9:OO:=fun _=>s6 "paid" 638 "Case.paid" 639 640 195 1 367 368 369 370 371 642 643
def Sy:OO:=fun _=>s7 "paid" "Case.paid" (aF (top 37) 6) "lidprice.cases" 572 372
def aAU:OO:=fun _=>s5 "had" "Case.had" (aF (top 37) 7)
def Yj:OO:=fun _=>sY "had" 645 "Case.had" 646 647 198 1 374 375 376 648 649
def Xa:OO:=fun _=>s7 "had" "Case.had" (aF (top 37) 7) "lidprice.cases" 572 377
def XX:OO:=fun _=>s4 "self" 654
def ZR:OO:=fun _=>s5 "deeds" "Case.deeds" (aF (top 37) 8)
def Xz:OO:=fun _=>s6 "deeds" 651 "Case.deeds" 652 653 201 1 379 380 381 382 383 655 656
def Yb:OO:=fun _=>s7 "deeds" "Case.deeds" (aF (top 37) 8) "lidprice.cases" 572 384
def V7:OO:=fun _=>Q0 "self" 661 "box" 662 "table" 663 "cap" 664
def aAJ:OO:=fun _=>s5 "caps" "Case.caps" (aF (top 37) 9)
def S8:OO:=fun _=>s6 "caps" 658 "Case.caps" 659 660 204 2 386 387 388 389 390 665 666
def UT:OO:=fun _=>s7 "caps" "Case.caps" (aF (top 37) 9) "lidprice.cases" 572 391
def VM:OO:=fun _=>o9 "self" 671 "box" 672
def aA4:OO:=fun _=>s5 "debt" "Case.debt" (aF (top 37) 10)
def W7:OO:=fun _=>s6 "debt" 668 "Case.debt" 669 670 209 2 393 394 395 396 397 673 674
def RZ:OO:=fun _=>s7 "debt" "Case.debt" (aF (top 37) 10) "lidprice.cases" 572 398
def Rq:OO:=fun _=>s4 "self" 679
def aAW:OO:=fun _=>s5 "left" "Case.left" (aF (top 37) 11)
def V3:OO:=fun _=>s6 "left" 676 "Case.left" 677 678 212 1 400 401 402 403 404 680 681
def WW:OO:=fun _=>s7 "left" "Case.left" (aF (top 37) 11) "lidprice.cases" 572 405
def Ri:OO:=fun _=>pB "self" 686 "deed" 687 "case" 688
def Zb:OO:=fun _=>s5 "behind" "Case.behind" (aF (top 37) 12)
def U7:OO:=fun _=>s6 "behind" 683 "Case.behind" 684 685 215 2 407 408 409 410 411 689 690
def YJ:OO:=fun _=>s7 "behind" "Case.behind" (aF (top 37) 12) "lidprice.cases" 572 412
def Y7:OO:=fun _=>⟨(.type "tuple"),none,(.seq #[(.str "self" 695),(.str "box" 696),(.str "row" 697),(.str "stage" 698),(.str "cap" 699),(.str "lower" 700),(.str "case" 701)] 0),#[]⟩
def Zj:OO:=fun _=>s5 "opened" "Case.opened" (aF (top 37) 13)
def TQ:OO:=fun _=>s6 "opened" 692 "Case.opened" 693 694 223 3 414 415 416 417 418 702 703
def Uz:OO:=fun _=>s7 "opened" "Case.opened" (aF (top 37) 13) "lidprice.cases" 572 419
def Wi:OO:=fun _=>pB "self" 708 "box" 709 "case" 710
def aAI:OO:=fun _=>s5 "taken" "Case.taken" (aF (top 37) 14)
def Vl:OO:=fun _=>s6 "taken" 705 "Case.taken" 706 707 235 2 421 422 423 424 425 711 712
def R7:OO:=fun _=>s7 "taken" "Case.taken" (aF (top 37) 14) "lidprice.cases" 572 426
def WP:OO:=fun _=>⟨(.type "tuple"),none,(.seq #[(.str "done" 714),(.str "held" 715),(.str "lowest" 716),(.str "present" 717),(.str "spent" 718)] 0),#[]⟩
def WX:OO:=fun P=>⟨(.type "dict"),none,(.dict #[E P "__module__" 590 (.str "lidprice.cases" 572),E P "__firstlineno__" 594 (.int 167 593),E P "__init__" 600 (.ref 333),E P "how_many" 607 (.ref 340),E P "need_box" 615 (.ref 347),E P "stand" 623 (.ref 354),E P "cap" 631 (.ref 361),E P "kept" 637 (.ref 366),E P "paid" 644 (.ref 373),E P "had" 650 (.ref 378),E P "deeds" 657 (.ref 385),E P "caps" 667 (.ref 392),E P "debt" 675 (.ref 399),E P "left" 682 (.ref 406),E P "behind" 691 (.ref 413),E P "opened" 704 (.ref 420),E P "taken" 713 (.ref 427),E P "__static_attributes__" 719 (.ref 428),E P "__dict__" 721 (.ref 431),E P "__weakref__" 723 (.ref 432),E P "__doc__" 724 .none] 4),#[]⟩
def Wq:OO:=fun _=>⟨(.type "type"),none,(.cls ⟨"Case",[(.type "object")],[(.ref 430),(.type "object")],429,"Case",true,[],[],false,none,false⟩),#[none,none,(some (.str "Case" 583)),(some (.str "Case" 591)),(some (.builtin "object.__new__")),(some (.bool true))]⟩
def Rn:OO:=fun _=>⟨(.type "getset_descriptor"),none,(.fields #[(.str "__dict__" 720),(.ref 430),(.builtin "function.__dict__"),(.builtin "function.__dict__#set")]),#[]⟩
def Wm:OO:=fun _=>⟨(.type "getset_descriptor"),none,(.fields #[(.str "__weakref__" 722),(.ref 430),(.builtin "ExceptionGroup.__weakref__"),.none]),#[]⟩
def Zf:OO:=fun _=>s9 430
def Z1:OO:=fun _=>Do 430
def Xp:OO:=fun P=>⟨(.type "dict"),none,(.dict #[E P "__name__" 165 (.str "law_lidprice_k21_cases_made" 727),E P "__doc__" 166 .none,E P "__package__" 167 .none,E P "__loader__" 168 (.builtin "__main__.__loader__#opaque"),E P "__spec__" 169 .none,E P "__annotations__" 170 (.ref 6),E P "__builtins__" 171 (.ref 4),E P "__file__" 173 (.str "/claim/cut.py" 172),E P "__cached__" 174 .none,E P "_wall" 193 (.ref 21),E P "LidError" 213 (.ref 31),E P "NoBox" 229 (.ref 44),E P "NoDeed" 245 (.ref 56),E P "is_whole" 256 (.ref 65),E P "common_divisor" 265 (.ref 72),E P "common_multiple" 274 (.ref 79),E P "share" 283 (.ref 86),E P "whole" 290 (.ref 93),E P "below" 298 (.ref 100),E P "lesser" 306 (.ref 107),E P "MOST_WORTH" 310 (.int 1000000000 309),E P "MOST_WEIGHT" 312 (.int 1000 311),E P "rising" 318 (.ref 112),E P "in_form" 324 (.ref 117),E P "all_weights" 330 (.ref 122),E P "capped" 336 (.ref 127),E P "mixed" 342 (.ref 132),E P "level_for" 348 (.ref 137),E P "MOST_PRICE" 352 (.int 1000000000 351),E P "MOST_STAGE_ROWS" 354 (.int 4 353),E P "MOST_STAGES" 356 (.int 4 355),E P "MOST_ENDS" 358 (.int 12 357),E P "MOST_BOXES" 360 (.int 6 359),E P "Stand" 423 (.ref 182),E P "End" 477 (.ref 231),E P "Stage" 545 (.ref 288),E P "is_stand" 552 (.ref 297),E P "is_stage_row" 559 (.ref 304),E P "is_stage_rows" 565 (.ref 309),E P "need_boxes" 571 (.ref 314),E P "with_thing" 582 (.ref 321),E P "Case" 726 (.ref 430),E P "_law_cell_at" 736 (.ref 441),E P "_law_mixed" 745 (.ref 448),E P "_law_left" 753 (.ref 455),E P "_law_draw" 762 (.ref 462),E P "_law_ends" 768 (.ref 467),E P "_law_model" 776 (.ref 473),E P "_law_object" 782 (.ref 478),E P "_law_models" 788 (.ref 483),E P "_law_boxes" 798 (.ref 490),E P "_law_whole" 805 (.ref 497),E P "_law_state" 811 (.ref 502),E P "_law_copy" 820 (.ref 509),E P "_law_had" 826 (.ref 514),E P "_law_numbers" 832 (.ref 519),E P "_law_deeds" 838 (.ref 524),E P "_law_is" 848 (.ref 531),E P "_law_least" 856 (.ref 538),E P "_law_open" 868 (.ref 545),E P "_law_take" 877 (.ref 552),E P "law" 896 (.ref 559)] 62),#[]⟩
def YX:OO:=fun _=>⟨.none,none,(.fields #[(.int 1 0),(.int 0 0),(.ref 20),(.int 5 0),(.int 0 0),(.ref 27),(.int 7 0),(.int 0 0),(.ref 40),(.int 9 0),(.int 0 0),(.ref 52),(.int 12 0),(.int 0 0),(.ref 64),(.int 14 0),(.int 0 0),(.ref 71),(.int 20 0),(.int 0 0),(.ref 78),(.int 25 0),(.int 0 0),(.ref 85),(.int 30 0),(.int 0 0),(.ref 92),(.int 32 0),(.int 0 0),(.ref 99),(.int 34 0),(.int 0 0),(.ref 106),(.int 39 0),(.int 0 0),(.ref 111),(.int 43 0),(.int 0 0),(.ref 116),(.int 51 0),(.int 0 0),(.ref 121),(.int 53 0),(.int 0 0),(.ref 126),(.int 55 0),(.int 0 0),(.ref 131),(.int 62 0),(.int 0 0),(.ref 136),(.int 79 0),(.int 0 0),(.ref 143),(.int 98 0),(.int 0 0),(.ref 192),(.int 117 0),(.int 0 0),(.ref 239),(.int 149 0),(.int 0 0),(.ref 296),(.int 151 0),(.int 0 0),(.ref 303),(.int 155 0),(.int 0 0),(.ref 308),(.int 159 0),(.int 0 0),(.ref 313),(.int 165 0),(.int 0 0),(.ref 320),(.int 167 0),(.int 0 0),(.ref 327),(.int 242 0),(.int 0 0),(.ref 440),(.int 246 0),(.int 0 0),(.ref 447),(.int 250 0),(.int 0 0),(.ref 454),(.int 252 0),(.int 0 0),(.ref 461),(.int 259 0),(.int 0 0),(.ref 466),(.int 263 0),(.int 0 0),(.ref 472),(.int 274 0),(.int 0 0),(.ref 477),(.int 278 0),(.int 0 0),(.ref 482),(.int 284 0),(.int 0 0),(.ref 489),(.int 293 0),(.int 0 0),(.ref 496),(.int 295 0),(.int 0 0),(.ref 501),(.int 298 0),(.int 0 0),(.ref 508),(.int 303 0),(.int 0 0),(.ref 513),(.int 305 0),(.int 0 0),(.ref 518),(.int 310 0),(.int 0 0),(.ref 523),(.int 318 0),(.int 0 0),(.ref 530),(.int 330 0),(.int 0 0),(.ref 537),(.int 334 0),(.int 0 0),(.ref 544),(.int 342 0),(.int 0 0),(.ref 551),(.int 347 0),(.int 0 0),(.ref 558)]),#[]⟩
def Wc:OO:=fun _=>o9 "_law_script" 732 "_law_k" 733
def aAY:OO:=fun _=>s5 "_law_cell_at" "_law_cell_at" (top 39)
def WK:OO:=fun _=>s6 "_law_cell_at" 729 "_law_cell_at" 730 731 242 2 435 436 437 438 439 734 735
def X4:OO:=fun _=>s7 "_law_cell_at" "_law_cell_at" (top 39) "law_lidprice_k21_cases_made" 727 440
def Y5:OO:=fun _=>pB "_law_cell" 740 "_law_k" 741 "_law_number" 742
def aAX:OO:=fun _=>s5 "_law_mixed" "_law_mixed" (top 40)
def Va:OO:=fun _=>s6 "_law_mixed" 737 "_law_mixed" 738 739 246 2 442 443 444 445 446 743 744
def Tt:OO:=fun _=>s7 "_law_mixed" "_law_mixed" (top 40) "law_lidprice_k21_cases_made" 727 447
def VN:OO:=fun _=>o9 "_law_script" 749 "_law_k" 750
def Zv:OO:=fun _=>s5 "_law_left" "_law_left" (top 41)
def XM:OO:=fun _=>s6 "_law_left" 746 "_law_left" 747 748 250 2 449 450 451 452 453 751 752
def Xu:OO:=fun _=>s7 "_law_left" "_law_left" (top 41) "law_lidprice_k21_cases_made" 727 454
def TY:OO:=fun _=>pB "_law_left_here" 757 "_law_many" 758 "_law_number" 759
def aBq:OO:=fun _=>s5 "_law_draw" "_law_draw" (top 42)
def VJ:OO:=fun _=>s6 "_law_draw" 754 "_law_draw" 755 756 252 2 456 457 458 459 460 760 761
def U8:OO:=fun _=>s7 "_law_draw" "_law_draw" (top 42) "law_lidprice_k21_cases_made" 727 461
def Z3:OO:=fun _=>s5 "_law_ends" "_law_ends" (top 43)
def YQ:OO:=fun _=>sY "_law_ends" 763 "_law_ends" 764 765 259 1 463 464 465 766 767
def TX:OO:=fun _=>s7 "_law_ends" "_law_ends" (top 43) "law_lidprice_k21_cases_made" 727 466
def YS:OO:=fun _=>⟨(.type "tuple"),none,(.seq #[(.int 0 769),(.int 12 770)] 0),#[]⟩
def Zt:OO:=fun _=>s5 "_law_model" "_law_model" (top 44)
def Yk:OO:=fun _=>sY "_law_model" 771 "_law_model" 772 773 263 3 469 470 471 774 775
def R5:OO:=fun _=>⟨(.type "function"),none,(.func (fnO "_law_model" "_law_model" (top 44) (.ref 468) .none .none (.str "law_lidprice_k21_cases_made" 727) none (.ref 472) .none)),#[]⟩
def aBn:OO:=fun _=>s5 "_law_object" "_law_object" (top 45)
def Tr:OO:=fun _=>sY "_law_object" 777 "_law_object" 778 779 274 1 474 475 476 780 781
def Ti:OO:=fun _=>s7 "_law_object" "_law_object" (top 45) "law_lidprice_k21_cases_made" 727 477
def aAD:OO:=fun _=>s5 "_law_models" "_law_models" (top 46)
def WM:OO:=fun _=>sY "_law_models" 783 "_law_models" 784 785 278 2 479 480 481 786 787
def XN:OO:=fun _=>s7 "_law_models" "_law_models" (top 46) "law_lidprice_k21_cases_made" 727 482
def X6:OO:=fun _=>Q0 "_law_models_here" 792 "_law_boxes_here" 793 "_law_k" 794 "_law_first" 795
def aAn:OO:=fun _=>s5 "_law_boxes" "_law_boxes" (top 47)
def RV:OO:=fun _=>s6 "_law_boxes" 789 "_law_boxes" 790 791 284 1 484 485 486 487 488 796 797
def Ua:OO:=fun _=>s7 "_law_boxes" "_law_boxes" (top 47) "law_lidprice_k21_cases_made" 727 489
def Xr:OO:=fun _=>s4 "_law_found" 802
def Zy:OO:=fun _=>s5 "_law_whole" "_law_whole" (top 48)
def YK:OO:=fun _=>s6 "_law_whole" 799 "_law_whole" 800 801 293 1 491 492 493 494 495 803 804
def Tg:OO:=fun _=>s7 "_law_whole" "_law_whole" (top 48) "law_lidprice_k21_cases_made" 727 496
def aAH:OO:=fun _=>s5 "_law_state" "_law_state" (top 49)
def Wz:OO:=fun _=>sY "_law_state" 806 "_law_state" 807 808 295 1 498 499 500 809 810
def W3:OO:=fun _=>s7 "_law_state" "_law_state" (top 49) "law_lidprice_k21_cases_made" 727 501
def Ug:OO:=fun _=>pB "_law_state_here" 815 "_law_other" 816 "_law_word" 817
def aAi:OO:=fun _=>s5 "_law_copy" "_law_copy" (top 50)
def Y9:OO:=fun _=>s6 "_law_copy" 812 "_law_copy" 813 814 298 1 503 504 505 506 507 818 819
def Tv:OO:=fun _=>s7 "_law_copy" "_law_copy" (top 50) "law_lidprice_k21_cases_made" 727 508
def aBp:OO:=fun _=>s5 "_law_had" "_law_had" (top 51)
def Vx:OO:=fun _=>sY "_law_had" 821 "_law_had" 822 823 303 1 510 511 512 824 825
def Ym:OO:=fun _=>s7 "_law_had" "_law_had" (top 51) "law_lidprice_k21_cases_made" 727 513
def Zn:OO:=fun _=>s5 "_law_numbers" "_law_numbers" (top 52)
def Yi:OO:=fun _=>sY "_law_numbers" 827 "_law_numbers" 828 829 305 2 515 516 517 830 831
def Vp:OO:=fun _=>s7 "_law_numbers" "_law_numbers" (top 52) "law_lidprice_k21_cases_made" 727 518
def aAG:OO:=fun _=>s5 "_law_deeds" "_law_deeds" (top 53)
def X7:OO:=fun _=>sY "_law_deeds" 833 "_law_deeds" 834 835 310 2 520 521 522 836 837
def V6:OO:=fun _=>s7 "_law_deeds" "_law_deeds" (top 53) "law_lidprice_k21_cases_made" 727 523
def Wx:OO:=fun _=>Q0 "_law_case" 842 "_law_state_here" 843 "_law_many" 844 "_law_box" 845
def aAa:OO:=fun _=>s5 "_law_is" "_law_is" (top 54)
def Vj:OO:=fun _=>s6 "_law_is" 839 "_law_is" 840 841 318 2 525 526 527 528 529 846 847
def RT:OO:=fun _=>s7 "_law_is" "_law_is" (top 54) "law_lidprice_k21_cases_made" 727 530
def Ur:OO:=fun _=>o9 "_law_one" 852 "_law_other" 853
def aAz:OO:=fun _=>s5 "_law_least" "_law_least" (top 55)
def Tc:OO:=fun _=>s6 "_law_least" 849 "_law_least" 850 851 330 2 532 533 534 535 536 854 855
def Vf:OO:=fun _=>s7 "_law_least" "_law_least" (top 55) "law_lidprice_k21_cases_made" 727 537
def R4:OO:=fun _=>⟨(.type "tuple"),none,(.seq #[(.str "_law_case" 860),(.str "_law_state_here" 861),(.str "_law_box" 862),(.str "_law_row" 863),(.str "_law_stage" 864),(.str "_law_other" 865)] 0),#[]⟩
def aAy:OO:=fun _=>s5 "_law_open" "_law_open" (top 56)
def SQ:OO:=fun _=>s6 "_law_open" 857 "_law_open" 858 859 334 4 539 540 541 542 543 866 867
def Xj:OO:=fun _=>s7 "_law_open" "_law_open" (top 56) "law_lidprice_k21_cases_made" 727 544
def Vv:OO:=fun _=>pB "_law_state_here" 872 "_law_box" 873 "_law_other" 874
def Yy:OO:=fun _=>s5 "_law_take" "_law_take" (top 57)
def Wr:OO:=fun _=>s6 "_law_take" 869 "_law_take" 870 871 342 2 546 547 548 549 550 875 876
def UG:OO:=fun _=>s7 "_law_take" "_law_take" (top 57) "law_lidprice_k21_cases_made" 727 551
def Xh:OO:=fun _=>⟨(.type "tuple"),none,(.seq #[(.str "_law_script" 881),(.str "_law_many" 882),(.str "_law_models_here" 883),(.str "_law_boxes_here" 884),(.str "_law_case" 885),(.str "_law_state_here" 886),(.str "_law_made" 887),(.str "_law_cell" 888),(.str "_law_box" 889),(.str "_law_stand" 890),(.str "_law_row" 891),(.str "_law_one" 892),(.str "_law_other" 893)] 0),#[]⟩
def Zc:OO:=fun _=>s5 "law" "law" (top 58)
def S9:OO:=fun _=>s6 "law" 878 "law" 879 880 347 1 553 554 555 556 557 894 895
def Xn:OO:=fun _=>s7 "law" "law" (top 58) "law_lidprice_k21_cases_made" 727 558
def l0 (P:Params):List Obj:=W.boot_o_0 P :: W.boot_o_1 P :: W.boot_o_2 P :: W.boot_o_3 P :: W.boot_o_4 P :: W.boot_o_5 P :: W.boot_o_6 P :: W.boot_o_7 P :: W.boot_o_8 P :: W.boot_o_9 P :: W.boot_o_10 P :: s0 :: s1 :: o13 P :: o14 P :: []
def t0 (P:Params):W.BT:=L2.bt 14 (l0 P)
def l1 (P:Params):List Obj:=L2.NB (l0 P) [(3,o3 P),(12,Sq P)] ++ (s0 :: s1 :: o17 P :: s0 :: o19 P :: o20 P :: o21 P :: o22 P :: s8 :: o24 P :: s0 :: s1 :: o27 P :: o28 P :: s0 :: o30 P :: o31 P :: o32 P :: o33 P :: o34 P :: o35 P :: s8 :: o37 P :: s0 :: s1 :: o40 P :: o41 P :: s0 :: o43 P :: o44 P :: o45 P :: o46 P :: o47 P :: s8 :: o49 P :: s0 :: s1 :: o52 P :: o53 P :: s0 :: o55 P :: o56 P :: o57 P :: o58 P :: s0 :: s1 :: o61 P :: s0 :: o63 P :: o64 P :: o65 P :: s0 :: s1 :: o68 P :: s0 :: o70 P :: o71 P :: o72 P :: s0 :: s1 :: o75 P :: s0 :: o77 P :: o78 P :: o79 P :: s0 :: s1 :: o82 P :: s0 :: o84 P :: o85 P :: o86 P :: s0 :: s1 :: o89 P :: s0 :: o91 P :: o92 P :: o93 P :: s0 :: s1 :: o96 P :: s0 :: o98 P :: o99 P :: V9 P :: s0 :: s1 :: W8 P :: s0 :: aA0 P :: Vd P :: XF P :: s0 :: s1 :: aBd P :: X3 P :: Xx P :: s0 :: s1 :: aBi P :: Ru P :: YL P :: s0 :: s1 :: aAs P :: YB P :: V4 P :: s0 :: s1 :: Zi P :: Su P :: Uh P :: s0 :: s1 :: aBo P :: XH P :: XS P :: s0 :: s1 :: aAd P :: Wu P :: WN P :: s0 :: s8 :: aBb P :: s0 :: aA9 P :: Z8 P :: aA2 P :: s0 :: s1 :: Yg P :: s0 :: Ze P :: SN P :: R8 P :: s0 :: s1 :: Tn P :: s0 :: aA1 P :: Xy P :: Yd P :: s0 :: s1 :: WF P :: s0 :: aAQ P :: Xk P :: Ut P :: s0 :: s1 :: VH P :: s0 :: aAx P :: Th P :: Tz P :: s0 :: s1 :: YT P :: s0 :: Zq P :: Rr P :: Vt P :: Y6 P :: Uc P :: aBc P :: U9 P :: Y0 P :: aA8 P :: Yx P :: [])
def t1 (P:Params):W.BT:=L2.bt 14 (l1 P)
def l2 (P:Params):List Obj:=L2.NB (l1 P) [(3,aA6 P),(12,Tu P),(182,JB P)] ++ (VD P :: s8 :: Yz P :: s0 :: Zm P :: aAO P :: aAl P :: s0 :: s1 :: UL P :: s0 :: ZJ P :: Vz P :: Xb P :: s0 :: s1 :: Vr P :: s0 :: aAc P :: W4 P :: XJ P :: s0 :: s1 :: Uy P :: s0 :: aAf P :: WD P :: U3 P :: s0 :: s1 :: Rm P :: s0 :: Zr P :: UW P :: Uu P :: s0 :: s1 :: Vh P :: s0 :: aAk P :: Uv P :: Te P :: Sv P :: We P :: Yh P :: aBe P :: aAN P :: Uq P :: s8 :: ZV P :: s0 :: aAR P :: aAV P :: aBl P :: s0 :: s1 :: ZX P :: Vi P :: Yl P :: s0 :: s1 :: Ws P :: s0 :: ZW P :: Xm P :: V0 P :: s0 :: s1 :: Ra P :: s0 :: aBa P :: X5 P :: Xi P :: s0 :: s1 :: XD P :: s0 :: aAu P :: Up P :: YG P :: s0 :: s1 :: RX P :: s0 :: aAM P :: Ve P :: Ub P :: s0 :: s1 :: Wn P :: s0 :: Yw P :: Rh P :: Y4 P :: s0 :: s1 :: aAF P :: Xv P :: VP P :: WY P :: Ss P :: Ry P :: aAp P :: ZD P :: s0 :: s1 :: Ye P :: s0 :: aAw P :: Vq P :: U6 P :: s0 :: s1 :: VR P :: s0 :: aBm P :: Vb P :: TV P :: s0 :: s1 :: aAK P :: Vm P :: V1 P :: s0 :: s1 :: ZL P :: UJ P :: Xe P :: s0 :: s1 :: Rz P :: s0 :: ZG P :: WL P :: Vg P :: s0 :: s8 :: aAb P :: s0 :: Z7 P :: Z0 P :: aAe P :: s0 :: s1 :: ZM P :: Rg P :: S6 P :: s0 :: s1 :: Rk P :: s0 :: aAo P :: Rc P :: Rx P :: s0 :: s1 :: YD P :: s0 :: Zw P :: Wk P :: Vu P :: s0 :: s1 :: Tw P :: s0 :: aBs P :: V8 P :: Y8 P :: s0 :: s1 :: Td P :: s0 :: aA5 P :: YC P :: Vw P :: s0 :: s1 :: aBj P :: Rt P :: Sh P :: s0 :: s1 :: Ro P :: s0 :: aAT P :: R9 P :: Sy P :: s0 :: s1 :: aAU P :: Yj P :: Xa P :: s0 :: s1 :: XX P :: s0 :: ZR P :: Xz P :: Yb P :: s0 :: s1 :: V7 P :: s0 :: aAJ P :: S8 P :: UT P :: s0 :: s1 :: VM P :: s0 :: aA4 P :: W7 P :: RZ P :: s0 :: s1 :: Rq P :: s0 :: aAW P :: V3 P :: WW P :: s0 :: s1 :: Ri P :: s0 :: Zb P :: U7 P :: YJ P :: s0 :: s1 :: Y7 P :: s0 :: Zj P :: TQ P :: Uz P :: s0 :: s1 :: Wi P :: s0 :: aAI P :: Vl P :: R7 P :: WP P :: WX P :: Wq P :: Rn P :: Wm P :: Zf P :: Z1 P :: [])
def t2 (P:Params):W.BT:=L2.bt 14 (l2 P)
def l3 (P:Params):List Obj:=L2.NB (l2 P) [(3,Xp P),(12,YX P)] ++ (s0 :: s1 :: Wc P :: s0 :: aAY P :: WK P :: X4 P :: s0 :: s1 :: Y5 P :: s0 :: aAX P :: Va P :: Tt P :: s0 :: s1 :: VN P :: s0 :: Zv P :: XM P :: Xu P :: s0 :: s1 :: TY P :: s0 :: aBq P :: VJ P :: U8 P :: s0 :: s1 :: Z3 P :: YQ P :: TX P :: YS P :: s0 :: s1 :: Zt P :: Yk P :: R5 P :: s0 :: s1 :: aBn P :: Tr P :: Ti P :: s0 :: s1 :: aAD P :: WM P :: XN P :: s0 :: s1 :: X6 P :: s0 :: aAn P :: RV P :: Ua P :: s0 :: s1 :: Xr P :: s0 :: Zy P :: YK P :: Tg P :: s0 :: s1 :: aAH P :: Wz P :: W3 P :: s0 :: s1 :: Ug P :: s0 :: aAi P :: Y9 P :: Tv P :: s0 :: s1 :: aBp P :: Vx P :: Ym P :: s0 :: s1 :: Zn P :: Yi P :: Vp P :: s0 :: s1 :: aAG P :: X7 P :: V6 P :: s0 :: s1 :: Wx P :: s0 :: aAa P :: Vj P :: RT P :: s0 :: s1 :: Ur P :: s0 :: aAz P :: Tc P :: Vf P :: s0 :: s1 :: R4 P :: s0 :: aAy P :: SQ P :: Xj P :: s0 :: s1 :: Vv P :: s0 :: Yy P :: Wr P :: UG P :: s0 :: s1 :: Xh P :: s0 :: Zc P :: S9 P :: Xn P :: [])
def t3 (P:Params):W.BT:=L2.bt 14 (l3 P)
def Di:Env:={ scope:=PySem.Challenge.pw_lidprice_k21_cases_made.main.scope,locals:=mainNs,globals:=mainNs,cells:=[],code:=(.ref 13),frame:=some 14 }
def g1:List Stmt:=[top 0,top 1,top 2,top 3,top 4,top 5,top 6,top 7,top 8,top 9,top 10,top 11,top 12,top 13,top 14,top 15,top 16,top 17,top 18,top 19,top 20,top 21,top 22,top 23,top 24,top 25,top 26,top 27,top 28]
def g2:List Stmt:=[top 29,top 30,top 31,top 32,top 33,top 34,top 35,top 36,top 37]
def g3:List Stmt:=[top 38,top 39,top 40,top 41,top 42,top 43,top 44,top 45,top 46,top 47,top 48,top 49,top 50,top 51,top 52,top 53,top 54,top 55,top 56,top 57,top 58]
def gs:List Stmt:=g1 ++ (g2 ++ (g3 ++ []))
def nC:Code:=.body gs Di
theorem Zk (w:World) (os:OsState):W.segRunT PySem.treeTable PySem.Challenge.pw_lidprice_k21_cases_made w 11 (some (.ref 6)) 1 1462 (Dp (t0 w.params) 15 187 os) (W.piecesOf g1 Di nC ⟨0,0,0,0⟩ [W.topFrame ⟨0,0,0,0⟩])=some (.next,Dp (t1 w.params) 187 424 os,nC,⟨79,0,97,34⟩):=by kernel_rfl
theorem aAZ (w:World) (os:OsState):W.segRunT PySem.treeTable PySem.Challenge.pw_lidprice_k21_cases_made w 11 (some (.ref 6)) 1 1616 (Dp (t1 w.params) 187 424 os) (W.piecesOf g2 Di nC ⟨79,0,97,34⟩ [W.topFrame ⟨0,0,0,0⟩])=some (.next,Dp (t2 w.params) 435 727 os,nC,⟨167,0,240,19⟩):=by kernel_rfl
theorem aBr (w:World) (os:OsState):W.segRunT PySem.treeTable PySem.Challenge.pw_lidprice_k21_cases_made w 11 (some (.ref 6)) 1 603 (Dp (t2 w.params) 435 727 os) (W.piecesOf g3 Di nC ⟨167,0,240,19⟩ [W.topFrame ⟨0,0,0,0⟩])=some (.next,Dp (t3 w.params) 560 897 os,nC,⟨347,0,372,15⟩):=by kernel_rfl
theorem aAh (w:World) (os:OsState):W.topRun PySem.treeTable PySem.Challenge.pw_lidprice_k21_cases_made w 11 (some (.ref 6)) 2 (Dp (t3 w.params) 560 897 os).abs (W.restOf [] Di nC ⟨347,0,372,15⟩ [W.topFrame ⟨0,0,0,0⟩])=some (Dp (t3 w.params) 560 897 os).abs:=by kernel_rfl
theorem aAj (w:World) (os:OsState):W.topGo PySem.treeTable PySem.Challenge.pw_lidprice_k21_cases_made w 11 (some (.ref 6)) 12 ⟨W.boot_heap w.params,Array.mk [],W.boot_drawn,W.boot_toks,os⟩ (W.topStub PySem.Challenge.pw_lidprice_k21_cases_made)=some ((Dp (t0 w.params) 15 187 os).abs,⟨denote PySem.treeTable (.body gs Di),nC,⟨0,0,0,0⟩,[W.topFrame ⟨0,0,0,0⟩]⟩):=by kernel_rfl
theorem aAP (w:World) (os:OsState):W.segRun PySem.treeTable PySem.Challenge.pw_lidprice_k21_cases_made w 11 (some (.ref 6)) 1 1 (Dp (t0 w.params) 15 187 os).abs (W.blockOf gs Di nC ⟨0,0,0,0⟩ [W.topFrame ⟨0,0,0,0⟩])=some (.next,(Dp (t0 w.params) 15 187 os).abs,nC,⟨0,0,0,0⟩):=by kernel_rfl
def wX (P:Params):W.Frag :=
(nat_lit 2,W.boot_o_2 P) ::
(nat_lit 3,Xp P) ::
(nat_lit 15,s0) ::
(nat_lit 17,o17 P) ::
(nat_lit 18,s0) ::
(nat_lit 20,o20 P) ::
(nat_lit 21,o21 P) ::
(nat_lit 22,o22 P) ::
(nat_lit 29,s0) ::
(nat_lit 30,o30 P) ::
(nat_lit 31,o31 P) ::
(nat_lit 32,o32 P) ::
(nat_lit 35,o35 P) ::
(nat_lit 42,s0) ::
(nat_lit 43,o43 P) ::
(nat_lit 44,o44 P) ::
(nat_lit 47,o47 P) ::
(nat_lit 54,s0) ::
(nat_lit 55,o55 P) ::
(nat_lit 56,o56 P) ::
(nat_lit 59,s0) ::
(nat_lit 61,o61 P) ::
(nat_lit 62,s0) ::
(nat_lit 64,o64 P) ::
(nat_lit 65,o65 P) ::
(nat_lit 66,s0) ::
(nat_lit 68,o68 P) ::
(nat_lit 69,s0) ::
(nat_lit 71,o71 P) ::
(nat_lit 72,o72 P) ::
(nat_lit 73,s0) ::
(nat_lit 75,o75 P) ::
(nat_lit 76,s0) ::
(nat_lit 78,o78 P) ::
(nat_lit 79,o79 P) ::
(nat_lit 80,s0) ::
(nat_lit 82,o82 P) ::
(nat_lit 83,s0) ::
(nat_lit 85,o85 P) ::
(nat_lit 86,o86 P) ::
(nat_lit 87,s0) ::
(nat_lit 89,o89 P) ::
(nat_lit 90,s0) ::
(nat_lit 92,o92 P) ::
(nat_lit 93,o93 P) ::
(nat_lit 94,s0) ::
(nat_lit 96,o96 P) ::
(nat_lit 97,s0) ::
(nat_lit 99,o99 P) ::
(nat_lit 100,V9 P) ::
(nat_lit 101,s0) ::
(nat_lit 103,W8 P) ::
(nat_lit 104,s0) ::
(nat_lit 106,Vd P) ::
(nat_lit 107,XF P) ::
(nat_lit 108,s0) ::
(nat_lit 111,X3 P) ::
(nat_lit 112,Xx P) ::
(nat_lit 113,s0) ::
(nat_lit 116,Ru P) ::
(nat_lit 117,YL P) ::
(nat_lit 118,s0) ::
(nat_lit 121,YB P) ::
(nat_lit 122,V4 P) ::
(nat_lit 123,s0) ::
(nat_lit 126,Su P) ::
(nat_lit 127,Uh P) ::
(nat_lit 128,s0) ::
(nat_lit 131,XH P) ::
(nat_lit 132,XS P) ::
(nat_lit 133,s0) ::
(nat_lit 136,Wu P) ::
(nat_lit 137,WN P) ::
(nat_lit 145,s0) ::
(nat_lit 147,Yg P) ::
(nat_lit 148,s0) ::
(nat_lit 150,SN P) ::
(nat_lit 151,R8 P) ::
(nat_lit 152,s0) ::
(nat_lit 154,Tn P) ::
(nat_lit 155,s0) ::
(nat_lit 157,Xy P) ::
(nat_lit 158,Yd P) ::
(nat_lit 159,s0) ::
(nat_lit 161,WF P) ::
(nat_lit 162,s0) ::
(nat_lit 164,Xk P) ::
(nat_lit 165,Ut P) ::
(nat_lit 166,s0) ::
(nat_lit 168,VH P) ::
(nat_lit 169,s0) ::
(nat_lit 171,Th P) ::
(nat_lit 172,Tz P) ::
(nat_lit 173,s0) ::
(nat_lit 175,YT P) ::
(nat_lit 176,s0) ::
(nat_lit 178,Rr P) ::
(nat_lit 179,Vt P) ::
(nat_lit 180,Y6 P) ::
(nat_lit 181,Uc P) ::
(nat_lit 182,JB P) ::
(nat_lit 183,U9 P) ::
(nat_lit 184,Y0 P) ::
(nat_lit 187,VD P) ::
(nat_lit 194,s0) ::
(nat_lit 196,UL P) ::
(nat_lit 197,s0) ::
(nat_lit 199,Vz P) ::
(nat_lit 200,Xb P) ::
(nat_lit 201,s0) ::
(nat_lit 203,Vr P) ::
(nat_lit 204,s0) ::
(nat_lit 206,W4 P) ::
(nat_lit 207,XJ P) ::
(nat_lit 208,s0) ::
(nat_lit 210,Uy P) ::
(nat_lit 211,s0) ::
(nat_lit 213,WD P) ::
(nat_lit 214,U3 P) ::
(nat_lit 215,s0) ::
(nat_lit 217,Rm P) ::
(nat_lit 218,s0) ::
(nat_lit 220,UW P) ::
(nat_lit 221,Uu P) ::
(nat_lit 222,s0) ::
(nat_lit 224,Vh P) ::
(nat_lit 225,s0) ::
(nat_lit 227,Uv P) ::
(nat_lit 228,Te P) ::
(nat_lit 229,Sv P) ::
(nat_lit 230,We P) ::
(nat_lit 231,Yh P) ::
(nat_lit 234,Uq P) ::
(nat_lit 241,s0) ::
(nat_lit 244,Vi P) ::
(nat_lit 245,Yl P) ::
(nat_lit 246,s0) ::
(nat_lit 248,Ws P) ::
(nat_lit 249,s0) ::
(nat_lit 251,Xm P) ::
(nat_lit 252,V0 P) ::
(nat_lit 253,s0) ::
(nat_lit 255,Ra P) ::
(nat_lit 256,s0) ::
(nat_lit 258,X5 P) ::
(nat_lit 259,Xi P) ::
(nat_lit 260,s0) ::
(nat_lit 262,XD P) ::
(nat_lit 263,s0) ::
(nat_lit 265,Up P) ::
(nat_lit 266,YG P) ::
(nat_lit 267,s0) ::
(nat_lit 269,RX P) ::
(nat_lit 270,s0) ::
(nat_lit 272,Ve P) ::
(nat_lit 273,Ub P) ::
(nat_lit 274,s0) ::
(nat_lit 276,Wn P) ::
(nat_lit 277,s0) ::
(nat_lit 279,Rh P) ::
(nat_lit 280,Y4 P) ::
(nat_lit 281,s0) ::
(nat_lit 284,Xv P) ::
(nat_lit 285,VP P) ::
(nat_lit 286,WY P) ::
(nat_lit 287,Ss P) ::
(nat_lit 288,Ry P) ::
(nat_lit 291,s0) ::
(nat_lit 293,Ye P) ::
(nat_lit 294,s0) ::
(nat_lit 296,Vq P) ::
(nat_lit 297,U6 P) ::
(nat_lit 298,s0) ::
(nat_lit 300,VR P) ::
(nat_lit 301,s0) ::
(nat_lit 303,Vb P) ::
(nat_lit 304,TV P) ::
(nat_lit 305,s0) ::
(nat_lit 308,Vm P) ::
(nat_lit 309,V1 P) ::
(nat_lit 310,s0) ::
(nat_lit 313,UJ P) ::
(nat_lit 314,Xe P) ::
(nat_lit 315,s0) ::
(nat_lit 317,Rz P) ::
(nat_lit 318,s0) ::
(nat_lit 320,WL P) ::
(nat_lit 321,Vg P) ::
(nat_lit 329,s0) ::
(nat_lit 332,Rg P) ::
(nat_lit 333,S6 P) ::
(nat_lit 334,s0) ::
(nat_lit 336,Rk P) ::
(nat_lit 337,s0) ::
(nat_lit 339,Rc P) ::
(nat_lit 340,Rx P) ::
(nat_lit 341,s0) ::
(nat_lit 343,YD P) ::
(nat_lit 344,s0) ::
(nat_lit 346,Wk P) ::
(nat_lit 347,Vu P) ::
(nat_lit 348,s0) ::
(nat_lit 350,Tw P) ::
(nat_lit 351,s0) ::
(nat_lit 353,V8 P) ::
(nat_lit 354,Y8 P) ::
(nat_lit 355,s0) ::
(nat_lit 357,Td P) ::
(nat_lit 358,s0) ::
(nat_lit 360,YC P) ::
(nat_lit 361,Vw P) ::
(nat_lit 362,s0) ::
(nat_lit 365,Rt P) ::
(nat_lit 366,Sh P) ::
(nat_lit 367,s0) ::
(nat_lit 369,Ro P) ::
(nat_lit 370,s0) ::
(nat_lit 372,R9 P) ::
(nat_lit 373,Sy P) ::
(nat_lit 374,s0) ::
(nat_lit 377,Yj P) ::
(nat_lit 378,Xa P) ::
(nat_lit 379,s0) ::
(nat_lit 381,XX P) ::
(nat_lit 382,s0) ::
(nat_lit 384,Xz P) ::
(nat_lit 385,Yb P) ::
(nat_lit 386,s0) ::
(nat_lit 388,V7 P) ::
(nat_lit 389,s0) ::
(nat_lit 391,S8 P) ::
(nat_lit 392,UT P) ::
(nat_lit 393,s0) ::
(nat_lit 395,VM P) ::
(nat_lit 396,s0) ::
(nat_lit 398,W7 P) ::
(nat_lit 399,RZ P) ::
(nat_lit 400,s0) ::
(nat_lit 402,Rq P) ::
(nat_lit 403,s0) ::
(nat_lit 405,V3 P) ::
(nat_lit 406,WW P) ::
(nat_lit 407,s0) ::
(nat_lit 409,Ri P) ::
(nat_lit 410,s0) ::
(nat_lit 412,U7 P) ::
(nat_lit 413,YJ P) ::
(nat_lit 414,s0) ::
(nat_lit 416,Y7 P) ::
(nat_lit 417,s0) ::
(nat_lit 419,TQ P) ::
(nat_lit 420,Uz P) ::
(nat_lit 421,s0) ::
(nat_lit 423,Wi P) ::
(nat_lit 424,s0) ::
(nat_lit 426,Vl P) ::
(nat_lit 427,R7 P) ::
(nat_lit 428,WP P) ::
(nat_lit 429,WX P) ::
(nat_lit 430,Wq P) ::
(nat_lit 431,Rn P) ::
(nat_lit 432,Wm P) ::
(nat_lit 435,s0) ::
(nat_lit 437,Wc P) ::
(nat_lit 438,s0) ::
(nat_lit 440,WK P) ::
(nat_lit 441,X4 P) ::
(nat_lit 442,s0) ::
(nat_lit 444,Y5 P) ::
(nat_lit 445,s0) ::
(nat_lit 447,Va P) ::
(nat_lit 448,Tt P) ::
(nat_lit 449,s0) ::
(nat_lit 451,VN P) ::
(nat_lit 452,s0) ::
(nat_lit 454,XM P) ::
(nat_lit 455,Xu P) ::
(nat_lit 456,s0) ::
(nat_lit 458,TY P) ::
(nat_lit 459,s0) ::
(nat_lit 461,VJ P) ::
(nat_lit 462,U8 P) ::
(nat_lit 463,s0) ::
(nat_lit 466,YQ P) ::
(nat_lit 467,TX P) ::
(nat_lit 468,YS P) ::
(nat_lit 469,s0) ::
(nat_lit 472,Yk P) ::
(nat_lit 473,R5 P) ::
(nat_lit 474,s0) ::
(nat_lit 477,Tr P) ::
(nat_lit 478,Ti P) ::
(nat_lit 479,s0) ::
(nat_lit 482,WM P) ::
(nat_lit 483,XN P) ::
(nat_lit 484,s0) ::
(nat_lit 486,X6 P) ::
(nat_lit 487,s0) ::
(nat_lit 489,RV P) ::
(nat_lit 490,Ua P) ::
(nat_lit 491,s0) ::
(nat_lit 493,Xr P) ::
(nat_lit 494,s0) ::
(nat_lit 496,YK P) ::
(nat_lit 497,Tg P) ::
(nat_lit 498,s0) ::
(nat_lit 501,Wz P) ::
(nat_lit 502,W3 P) ::
(nat_lit 503,s0) ::
(nat_lit 505,Ug P) ::
(nat_lit 506,s0) ::
(nat_lit 508,Y9 P) ::
(nat_lit 509,Tv P) ::
(nat_lit 510,s0) ::
(nat_lit 513,Vx P) ::
(nat_lit 514,Ym P) ::
(nat_lit 515,s0) ::
(nat_lit 518,Yi P) ::
(nat_lit 519,Vp P) ::
(nat_lit 520,s0) ::
(nat_lit 523,X7 P) ::
(nat_lit 524,V6 P) ::
(nat_lit 525,s0) ::
(nat_lit 527,Wx P) ::
(nat_lit 528,s0) ::
(nat_lit 530,Vj P) ::
(nat_lit 531,RT P) ::
(nat_lit 532,s0) ::
(nat_lit 534,Ur P) ::
(nat_lit 535,s0) ::
(nat_lit 537,Tc P) ::
(nat_lit 538,Vf P) ::
(nat_lit 539,s0) ::
(nat_lit 541,R4 P) ::
(nat_lit 542,s0) ::
(nat_lit 544,SQ P) ::
(nat_lit 545,Xj P) ::
(nat_lit 546,s0) ::
(nat_lit 548,Vv P) ::
(nat_lit 549,s0) ::
(nat_lit 551,Wr P) ::
(nat_lit 552,UG P) ::
(nat_lit 553,s0) ::
(nat_lit 555,Xh P) ::
(nat_lit 556,s0) ::
(nat_lit 558,S9 P) ::
(nat_lit 559,Xn P) :: []
def RQ:List Addr:=2 :: 3 :: 15 :: 17 :: 18 :: 20 :: 21 :: 22 :: 29 :: 30 :: 31 :: 32 :: 35 :: 42 :: 43 :: 44 :: 47 :: 54 :: 55 :: 56 :: 59 :: 61 :: 62 :: 64 :: 65 :: 66 :: 68 :: 69 :: 71 :: 72 :: 73 :: 75 :: 76 :: 78 :: 79 :: 80 :: 82 :: 83 :: 85 :: 86 :: 87 :: 89 :: 90 :: 92 :: 93 :: 94 :: 96 :: 97 :: 99 :: 100 :: 101 :: 103 :: 104 :: 106 :: 107 :: 108 :: 111 :: 112 :: 113 :: 116 :: 117 :: 118 :: 121 :: 122 :: 123 :: 126 :: 127 :: 128 :: 131 :: 132 :: 133 :: 136 :: 137 :: 145 :: 147 :: 148 :: 150 :: 151 :: 152 :: 154 :: 155 :: 157 :: 158 :: 159 :: 161 :: 162 :: 164 :: 165 :: 166 :: 168 :: 169 :: 171 :: 172 :: 173 :: 175 :: 176 :: 178 :: 179 :: 180 :: 181 :: 182 :: 183 :: 184 :: 187 :: 194 :: 196 :: 197 :: 199 :: 200 :: 201 :: 203 :: 204 :: 206 :: 207 :: 208 :: 210 :: 211 :: 213 :: 214 :: 215 :: 217 :: 218 :: 220 :: 221 :: 222 :: 224 :: 225 :: 227 :: 228 :: 229 :: 230 :: 231 :: 234 :: 241 :: 244 :: 245 :: 246 :: 248 :: 249 :: 251 :: 252 :: 253 :: 255 :: 256 :: 258 :: 259 :: 260 :: 262 :: 263 :: 265 :: 266 :: 267 :: 269 :: 270 :: 272 :: 273 :: 274 :: 276 :: 277 :: 279 :: 280 :: 281 :: 284 :: 285 :: 286 :: 287 :: 288 :: 291 :: 293 :: 294 :: 296 :: 297 :: 298 :: 300 :: 301 :: 303 :: 304 :: 305 :: 308 :: 309 :: 310 :: 313 :: 314 :: 315 :: 317 :: 318 :: 320 :: 321 :: 329 :: 332 :: 333 :: 334 :: 336 :: 337 :: 339 :: 340 :: 341 :: 343 :: 344 :: 346 :: 347 :: 348 :: 350 :: 351 :: 353 :: 354 :: 355 :: 357 :: 358 :: 360 :: 361 :: 362 :: 365 :: 366 :: 367 :: 369 :: 370 :: 372 :: 373 :: 374 :: 377 :: 378 :: 379 :: 381 :: 382 :: 384 :: 385 :: 386 :: 388 :: 389 :: 391 :: 392 :: 393 :: 395 :: 396 :: 398 :: 399 :: 400 :: 402 :: 403 :: 405 :: 406 :: 407 :: 409 :: 410 :: 412 :: 413 :: 414 :: 416 :: 417 :: 419 :: 420 :: 421 :: 423 :: 424 :: 426 :: 427 :: 428 :: 429 :: 430 :: 431 :: 432 :: 435 :: 437 :: 438 :: 440 :: 441 :: 442 :: 444 :: 445 :: 447 :: 448 :: 449 :: 451 :: 452 :: 454 :: 455 :: 456 :: 458 :: 459 :: 461 :: 462 :: 463 :: 466 :: 467 :: 468 :: 469 :: 472 :: 473 :: 474 :: 477 :: 478 :: 479 :: 482 :: 483 :: 484 :: 486 :: 487 :: 489 :: 490 :: 491 :: 493 :: 494 :: 496 :: 497 :: 498 :: 501 :: 502 :: 503 :: 505 :: 506 :: 508 :: 509 :: 510 :: 513 :: 514 :: 515 :: 518 :: 519 :: 520 :: 523 :: 524 :: 525 :: 527 :: 528 :: 530 :: 531 :: 532 :: 534 :: 535 :: 537 :: 538 :: 539 :: 541 :: 542 :: 544 :: 545 :: 546 :: 548 :: 549 :: 551 :: 552 :: 553 :: 555 :: 556 :: 558 :: 559 :: []
theorem Ci:∀ P,RQ=(wX P).map (·.1):=fun _=>by kernel_rfl
def vw:Program:={ PySem.Challenge.pw_lidprice_k21_cases_made with main:={ (PySem.Challenge.pw_lidprice_k21_cases_made).main with body:=[top 0,top 2,top 3,top 4,top 6,top 7,top 8,top 9,top 10,top 11,top 12,top 14,top 15,top 16,top 17,top 18,top 19,top 20,top 21,top 23,top 24,top 25,top 26,top 27,top 28,top 29,top 30,top 31,top 32,top 33,top 34,top 36,top 37,top 39,top 40,top 41,top 42,top 43,top 45,top 46,top 47,top 48,top 49,top 50,top 51,top 52,top 53,top 54,top 55,top 56,top 57,top 58] } }
def xtK (s:Shared):Bool:=W.xlAt vw [] s && W.recOk (W.RowW.records (W.OpenRow.toRowW (W.OpenLaw.row PySem.Challenge.rw_lidprice_k21_cases_made))) s
theorem Yc:W.LeftO PySem.Challenge.pw_lidprice_k21_cases_made vw ["_law_model"] xtK (W.Hook.obs (W.kHook wX RQ Ci)) (W.Hook.val (W.kHook wX RQ Ci)) 8082 :=
 L2.Jq (Tb:=t0) (Tf:=t3) (nf:=560) (kf:=897) (env:=Di) (C:=nC) (gs:=gs) (m0:=11) (ann:=(some (.ref 6))) (by kernel_rfl) (by decide) (fun _=>by kernel_rfl) (fun _=>by kernel_rfl) aAj aAP (c:=1462 + (1616 + (603 + (2)))) (fun w os=>L2.z8 (Zk w os) (L2.z8 (aAZ w os) (L2.z8 (aBr w os) (aAh w os)))) (by decide) (fun _=>by kernel_rfl)
end
end K21
open PySem PySem.W PyProof.Rows
set_option maxRecDepth 100000 in
set_option maxHeartbeats 0 in
theorem PySem.Challenge.cw_lidprice_k21_cases_made_holds : PySem.Challenge.rw_lidprice_k21_cases_made.Holds := by
 w_on; o_law
 refine PySem.W.holds_open (N:=8082) (q:=K21.vw) (loose:=["_law_model"]) (Xt:=K21.xtK) (XP:=PySem.W.XL K21.vw [])
  (Yf:=PySem.W.Hook.obs (PySem.W.kHook K21.wX K21.RQ K21.Ci)) (Ya:=PySem.W.Hook.val (PySem.W.kHook K21.wX K21.RQ K21.Ci))
  (YP:=PySem.W.Hook.says (PySem.W.kHook K21.wX K21.RQ K21.Ci)) K21.Yc
  (PySem.W.Hook.of _) (PySem.W.Hook.keeps _) (fun s e=>PySem.W.xl_of s (Bool.and_eq_true_iff.mp e).1) PySem.W.XL.keeps
  (by rfl) (by rfl) (by rfl) (fun s e=>PySem.W.recFacts_of (Bool.and_eq_true_iff.mp e).2)
  (by rfl) (by first | assumption | decide +kernel) (by decide +kernel)
  ⟨rfl,rfl,rfl,rfl,rfl,by decide +kernel⟩ ?hw ?hc
 case hw=>w_witness2
 k_fill
 refine K21.aBg (l:=PySem.Challenge.rw_lidprice_k21_cases_made) rfl rfl rfl (fun w h Y=>by first | exact PySem.W.kIn_of Y | exact PySem.W.km_in_of Y) ?F
 case F =>
  intro w mg fa h KX G hmg
  apply K21.QG (cR:=111) (Pt:=109) KX G hmg
  all_goals first | k_is | kit_is | exact ⟨by k_is,L2.Jz (by k_is) (by k_is) (by k_is)⟩ | exact ⟨by k_is,by k_is,L2.Jz (by k_is) (by k_is) (by k_is)⟩ | exact ⟨by k_is,L2.Lq (by k_is) (by k_is) (by k_is)⟩ | (refine ⟨⟨?_,?_,?_,?_⟩,⟨?_,?_,?_,?_⟩,?_,?_,?_,?_,?_,?_,?_,?_,?_,?_,?_⟩ <;> first | k_is | kit_is | kernel_rfl | (unfold L2.cG; kernel_rfl) | decide) | (refine ⟨?_,?_,?_,?_,?_,?_,?_,?_,?_⟩ <;> first | k_is | kit_is | kernel_rfl | (unfold L2.cG; kernel_rfl) | decide) | (refine ⟨?_,?_,?_,?_,?_⟩ <;> first | k_is | kit_is | kernel_rfl | (unfold L2.cG; kernel_rfl) | decide) | (refine ⟨?_⟩ <;> first | k_is | kit_is | kernel_rfl | (unfold L2.cG; kernel_rfl) | decide) | (refine TD.CN.of ?_ ?_ <;> first | k_is | kit_is | kernel_rfl | (unfold L2.cG; kernel_rfl) | decide) | (refine ⟨?_,?_,⟨?_,?_,?_,?_⟩,?_,?_,?_,?_,?_⟩ <;> first | k_is | kit_is | kernel_rfl | (unfold L2.cG; kernel_rfl) | decide) | kernel_rfl | exact rfl | decide
