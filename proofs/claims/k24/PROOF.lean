import PyProof.Rows.All
import Wide.All
import OpenK.AllK
import Wide.FinOn
import Lean
import PyProof.EqAt
import PyProof.EqKinds
import PyProof.TupleCall
import PyProof.NeKinds
import KE.IntBitsLaws
import KE.KRevIter
import KE.KSortKey
import KE.KLam
import KE.KNestM
import KE.KDictList
import PyProof.ConsumeWalk
import PyProof.ZipIter
import PyProof.Rows.Range3
import PyProof.CollectWalk
import PyProof.ListNew
import KE.KDictOf
import KE.KUnpack
import PyProof.Rows.SetFrom
import PySem.Challenge.RW_lidprice_k24_whole_price_is_debt
set_option Elab.async false
set_option linter.all false
set_option maxRecDepth 100000
namespace L2
open PySem PySem.Spec PyProof.Rows
abbrev dB:=Sum Int Str
def wX:dB->Value->Bool
 | .inl k,v=>Value.isInt k v
 | .inr x,v=>Value.isStrOf x v
def aBj (w:World):dB->Int
 | .inl k=>hashInt k
 | .inr x=>hashStr w x
theorem dY:∀ {k:dB}{v:Value},wX k v=true->(∃ i t,k=Sum.inl i /\ v=Value.int i t) ∨ (∃ x t,k=Sum.inr x /\ v=Value.str x t)
 | .inl i,v,h=>by
  obtain ⟨t,e⟩:=Value.isInt_shape (k:=i) (v:=v) h
  exact .inl ⟨i,t,rfl,e⟩
 | .inr x,v,h=>by
  obtain ⟨t,e⟩:=Value.isStrOf_shape (x:=x) (v:=v) h
  exact .inr ⟨x,t,rfl,e⟩
theorem Ho (i:Int) (t:Tok):wX (.inl i) (.int i t)=true:=by simp [wX,Value.isInt]
theorem Hh (x:Str) (t:Tok):wX (.inr x) (.str x t)=true:=by simp [wX,Value.isStrOf]
theorem Pz (a b:Int):decide ((Sum.inl a:dB)=Sum.inl b)=(a == b):=by
 by_cases e:a=b
 ·subst e; simp
 ·have h:¬ (Sum.inl a:dB)=Sum.inl b:=fun q=>e (Sum.inl.inj q)
  rw [decide_eq_false h]
  exact (beq_eq_false_iff_ne.mpr e).symm
theorem Ql (a b:Str):decide ((Sum.inr a:dB)=Sum.inr b)=decide (a=b):=by
 by_cases e:a=b
 ·subst e; simp
 ·have h:¬ (Sum.inr a:dB)=Sum.inr b:=fun q=>e (Sum.inr.inj q)
  rw [decide_eq_false h,decide_eq_false e]
theorem QL (a:Int) (b:Str):decide ((Sum.inl a:dB)=Sum.inr b)=false:=decide_eq_false (fun q=>nomatch q)
theorem PQ (a:Str) (b:Int):decide ((Sum.inr a:dB)=Sum.inl b)=false:=decide_eq_false (fun q=>nomatch q)
def dZ (prog:Program) (w:World):PySem.KeyKind prog w dB where
 is:=wX
 hash:=aBj w
 inj:=fun v a b ha hb=>by
  rcases dY ha with ⟨i,t,rfl,rfl⟩ | ⟨x,t,rfl,rfl⟩
  ·rcases dY hb with ⟨j,u,rfl,e⟩ | ⟨y,u,rfl,e⟩
   ·injection e with e1 _; rw [e1]
   ·exact nomatch e
  ·rcases dY hb with ⟨j,u,rfl,e⟩ | ⟨y,u,rfl,e⟩
   ·exact nomatch e
   ·injection e with e1 _; rw [e1]
 byValue:=fun k v h=>by
  rcases dY h with ⟨i,t,rfl,rfl⟩ | ⟨x,t,rfl,rfl⟩ <;> rfl
 pyHash:=fun hv h=>by
  rcases dY hv with ⟨i,t,rfl,rfl⟩ | ⟨x,t,rfl,rfl⟩
  ·exact wpAny_pyHash_int h
  ·exact wpAny_pyHash_str h
 eqBool:=fun hu hv h=>by
  rcases dY hu with ⟨i,t,rfl,rfl⟩ | ⟨x,t,rfl,rfl⟩
  ·rcases dY hv with ⟨j,u,rfl,rfl⟩ | ⟨y,u,rfl,rfl⟩
   ·rw [Pz] at h; exact wpAny_eqBool_int h
   ·rw [QL] at h; exact SeqAt.EqAt.int_str i t y u _ _ _ _ h
  ·rcases dY hv with ⟨j,u,rfl,rfl⟩ | ⟨y,u,rfl,rfl⟩
   ·rw [PQ] at h; exact SeqAt.EqAt.str_int x t j u _ _ _ _ h
   ·rw [Ql] at h; exact wpAny_eqBool_str h
 «strs»:=fun k x t v h=>by
  rcases dY h with ⟨i,u,rfl,e⟩ | ⟨y,u,rfl,e⟩
  ·exact nomatch e
  ·injection e with e1 _
   subst e1
   cases v <;> rfl
theorem Cj (prog:Program) (w:World) (i:Int) (t:Tok):(dZ prog w).is (.inl i) (.int i t)=true:=Ho i t
theorem Bs (prog:Program) (w:World) (x:Str) (t:Tok):(dZ prog w).is (.inr x) (.str x t)=true:=Hh x t
end L2
namespace L2
open PySem PySem.Spec PyProof.Rows
inductive V where
 | non | bl (b:Bool) | int (i:Int) | str (x:Str) | byt (b:Array UInt8) | flt (b:UInt64) | ref (a:Addr) | ty (n:String)
 deriving DecidableEq
def bJ:V->Value->Prop
 | .non,u=>u=Value.none
 | .bl b,u=>u=Value.bool b
 | .int i,u=>∃ t,u=Value.int i t
 | .str x,u=>∃ t,u=Value.str x t
 | .byt b,u=>∃ t,u=Value.bytes b t
 | .flt b,u=>∃ t,u=Value.float b t
 | .ref a,u=>u=Value.ref a
 | .ty n,u=>u=Value.type n
abbrev bL:List V->List Value->Prop:=Paired bJ
theorem bL.length {xs:List V}{us:List Value} (r:bL xs us):xs.length=us.length:=Paired.length r
theorem bL.get:∀ {xs:List V}{us:List Value}{i:Nat}{x:V},bL xs us->xs[i]? = some x->∃ u,us[i]? = some u /\ bJ x u
 | _,_,_,_,.nil,e=>by simp at e
 | _,_,0,_,.cons r _,e=>by simp at e; subst e; exact ⟨_,rfl,r⟩
 | _,_,i + 1,x,.cons _ t,e=>by
  obtain ⟨u,h1,h2⟩:=bL.get (i:=i) (x:=x) t (by simpa using e)
  exact ⟨u,by simpa using h1,h2⟩
theorem bL.set {x:V}{u:Value} (r:bJ x u):∀ {xs:List V}{us:List Value} (i:Nat),bL xs us->bL (xs.set i x) (us.set i u)
 | _,_,_,.nil=>.nil
 | _,_,0,.cons _ t=>.cons r t
 | _,_,i + 1,.cons q t=>.cons q (bL.set r i t)
theorem bL.append:∀ {xs ys:List V}{us ws:List Value},bL xs us->bL ys ws->bL (xs ++ ys) (us ++ ws)
 | _,_,_,_,.nil,s=>s
 | _,_,_,_,.cons r t,s=>.cons r (bL.append t s)
theorem bL.take:∀ {xs:List V}{us:List Value} (n:Nat),bL xs us->bL (xs.take n) (us.take n)
 | _,_,0,_=>.nil
 | _,_,_ + 1,.nil=>.nil
 | _,_,n + 1,.cons r t=>.cons r (bL.take n t)
theorem bL.drop:∀ {xs:List V}{us:List Value} (n:Nat),bL xs us->bL (xs.drop n) (us.drop n)
 | _,_,0,r=>r
 | _,_,_ + 1,.nil=>.nil
 | _,_,n + 1,.cons _ t=>bL.drop n t
theorem bL.none_of:∀ {xs:List V}{us:List Value}{i:Nat},bL xs us->xs[i]? = none->us[i]? = none:=fun {xs us i} r e=>by
 have h1:=r.length
 have h2:xs.length <= i:=List.getElem?_eq_none_iff.mp e
 exact List.getElem?_eq_none_iff.mpr (by omega)
def lY:Option V->Option Value->Prop
 | some v,some u=>bJ v u
 | none,none=>True
 | _,_=>False
def KV {κ : Type}:List (κ × V)->List (κ × Value)->Prop:=Paired fun (p:κ × V) (q:κ × Value)=>p.1=q.1 /\ bJ p.2 q.2
def kV:dB->V
 | .inl i=>.int i
 | .inr x=>.str x
inductive HO where
 | lst (xs:List V)
 | tup (xs:List V)
 | dK (kvs:List (dB × V)) | dT (kvs:List (List dB × V))
 | set (S:Int->Bool) (n:Nat)
 | ins (C dx:Addr) (fs:List (Str × V))
 | own (x:Addr)
 | xd (fs:List (Str × V))
 | met (f x:Addr)
 | rng (lo hi:Int)
 | frz (o:Obj) (u:HO)
 | tbl (ps:Array Value)
 | ext (φ : Heap->Prop)
abbrev Hp:=Addr->Option HO
def aY (H:Hp) (a:Addr) (o:HO):Hp:=fun b=>if b=a then some o else H b
theorem aB {H:Hp}{a:Addr}{o:HO}:aY H a o a=some o:=by unfold aY; rw [if_pos rfl]
theorem aK {H:Hp}{a b:Addr}{o:HO} (h:b ≠ a):aY H a o b=H b:=by unfold aY; rw [if_neg h]
theorem bO {H:Hp}{a b:Addr}{o u:HO} (h:H a=some o) (h':H b=some u) (d:o ≠ u):a ≠ b:=by
 intro e; subst e; rw [h] at h'; exact d (Option.some.inj h')
theorem aU {H:Hp}{a b:Addr}{o:HO} (h:H a=some o) (h':H b=none):a ≠ b:=by
 intro e; subst e; rw [h] at h'; cases h'
section
variable (P:Program) (w:World)
def dH (H:Hp) (h:Heap) (a:Addr):HO->Prop
 | .lst xs=>xs.length <= sizeLine /\ ∃ (its:List Value) (n:Nat),bL xs its /\ h.get? a=some { cls:=.type "list",data:=.seq its.toArray n }
 | .tup xs=>xs.length <= sizeLine /\ ∃ its:List Value,bL xs its /\ IsTup h a its.toArray
 | .dK kvs=>kvs.length <= sizeLine /\ (a == sysModules)=false /\ ∃ vs,KV kvs vs /\ h.DictOf (dZ P w) a vs
 | .dT kvs=>kvs.length <= sizeLine /\ (a == sysModules)=false /\ ∃ xs:List (List dB × Addr × Value),
   Paired (fun (p:List dB × V) (q:List dB × Addr × Value)=>p.1=q.1 /\ H q.2.1=some (.tup (p.1.map kV)) /\ bJ p.2 q.2.2) kvs xs ∧
   ∃ o es ep,h.get? a=some o /\ o.ExactDict /\ o.data = .dict es ep /\ es.toList=xs.map (entryOfKey (tupleKind (dZ P w))) /\ (xs.map (·.1)).Nodup
 | .set S n=>h.SetOf (intKind P w) a S n
 | .ins C dx fs=>H dx=some (.own a) /\ fs.length <= 1000 /\ dx ≠ a /\ h.get? a=some (PySem.W.instObj C dx) ∧
   ∃ mA,h.Ns1 dx mA /\ (∀ f,lY (fs.lookup f) (mA f)) /\ PySem.Within mA (fs.map (·.1))
 | .own _=>∃ o,h.get? a=some o
 | .xd fs=>∃ mA,h.Ns1 a mA /\ ∀ f,lY (fs.lookup f) (mA f)
 | .rng lo hi=>∃ t u v,h.get? a=some { cls:=.type "range",data:=.fields #[.int lo t,.int hi u,.int 1 v] }
 | .frz o u=>h.get? a=some o /\ dH H h a u
 | .tbl ps=>h.get? a=some { cls:=.none,data:=.fields ps }
 | .met f x=>h.get? a=some (PySem.W.methodObj (.ref f) (.ref x))
 | .ext φ=>φ h /\ (∃ o,h.get? a=some o) /\ ∀ h1 h2:Heap,φ h1->(∀ o,h1.get? a=some o->h2.get? a=some o)->φ h2
def m7 (H:Hp) (h:Heap):Prop:=∀ a o,H a=some o->dH P w H h a o
end
section
variable {P:Program}{w:World}{H H':Hp}{h h':Heap}{a:Addr}{o:HO}
theorem dH.lt (x:dH P w H h a o):a < h.objs.size:=by
 cases o with
 | lst xs=>obtain ⟨_,_,_,_,e⟩:=x; exact Heap.lt_size e
 | tup xs=>obtain ⟨_,_,_,p⟩:=x; exact p.lt
 | dK kvs=>obtain ⟨_,_,_,_,o,_,_,e,_⟩:=x; exact Heap.lt_size e
 | dT kvs=>obtain ⟨_,_,_,_,o,_,_,e,_⟩:=x; exact Heap.lt_size e
 | set S n=>obtain ⟨o,_,_,_,e,_⟩:=x; exact Heap.lt_size e
 | ins C dx fs=>obtain ⟨_,_,_,e,_⟩:=x; exact Heap.lt_size e
 | own y=>obtain ⟨_,e⟩:=x; exact Heap.lt_size e
 | xd fs=>obtain ⟨_,⟨_,_,_,e,_⟩,_⟩:=x; exact Heap.lt_size e
 | rng lo hi=>obtain ⟨_,_,_,e⟩:=x; exact Heap.lt_size e
 | frz ob u=>obtain ⟨e,_⟩:=x; exact Heap.lt_size e
 | tbl ps=>exact Heap.lt_size (show h.get? a=some _ from x)
 | met f y=>exact Heap.lt_size (show h.get? a=some _ from x)
 | ext φ=>obtain ⟨_,⟨_,e⟩,_⟩:=x; exact Heap.lt_size e
theorem Paired.mapP {α β : Type}{F G:α->β->Prop}:∀ {l₁ : List α}{l₂ : List β},Paired F l₁ l₂->(∀ a b,F a b->G a b)->Paired G l₁ l₂
 | _,_,.nil,_=>.nil
 | _,_,.cons r t,f=>.cons (f _ _ r) (Paired.mapP t f)
theorem dH.stay (x:dH P w H h a o) (k:∀ b u,(b=a ∨ H b=some (.own a))->h.get? b=some u->h'.get? b=some u)
  (ho:∀ b,H b=some (.own a)->H' b=some (.own a)) (ht:∀ b xs,H b=some (.tup xs)->H' b=some (.tup xs)):dH P w H' h' a o:=by
 induction o with
 | lst xs=>obtain ⟨z,its,n,r,e⟩:=x; exact ⟨z,its,n,r,k _ _ (.inl rfl) e⟩
 | tup xs=>obtain ⟨z,its,r,ob,e,c⟩:=x; exact ⟨z,its,r,ob,k _ _ (.inl rfl) e,c⟩
 | dK kvs=>obtain ⟨z,y,vs,r,ob,es,ep,e,c⟩:=x; exact ⟨z,y,vs,r,ob,es,ep,k _ _ (.inl rfl) e,c⟩
 | dT kvs =>
  obtain ⟨z,y,xs,r,ob,es,ep,e,c⟩:=x
  exact ⟨z,y,xs,Paired.mapP r fun p q z=>⟨z.1,ht _ _ z.2.1,z.2.2⟩,ob,es,ep,k _ _ (.inl rfl) e,c⟩
 | set S n=>obtain ⟨ob,es,ep,t,e,c⟩:=x; exact ⟨ob,es,ep,t,k _ _ (.inl rfl) e,c⟩
 | ins C dx fs =>
  obtain ⟨d,z,ne,e,mA,⟨od,es,ep,e2,c⟩,r⟩:=x
  exact ⟨ho _ d,z,ne,k _ _ (.inl rfl) e,mA,⟨od,es,ep,k _ _ (.inr d) e2,c⟩,r⟩
 | own y=>obtain ⟨ob,e⟩:=x; exact ⟨ob,k _ _ (.inl rfl) e⟩
 | xd fs=>obtain ⟨mA,⟨od,es,ep,e,c⟩,r⟩:=x; exact ⟨mA,⟨od,es,ep,k _ _ (.inl rfl) e,c⟩,r⟩
 | rng lo hi=>obtain ⟨t,u,v,e⟩:=x; exact ⟨t,u,v,k _ _ (.inl rfl) e⟩
 | frz ob u ih=>obtain ⟨e,q⟩:=x; exact ⟨k _ _ (.inl rfl) e,ih q⟩
 | tbl ps =>
  have e:h.get? a=some { cls:=.none,data:=.fields ps }:=x
  show h'.get? a=some { cls:=.none,data:=.fields ps }
  exact k a _ (.inl rfl) e
 | met f y =>
  have e:h.get? a=some (PySem.W.methodObj (.ref f) (.ref y)):=x
  show h'.get? a=some (PySem.W.methodObj (.ref f) (.ref y))
  exact k a _ (.inl rfl) e
 | ext φ=>obtain ⟨p,⟨o,e⟩,st⟩:=x; exact ⟨st _ _ p fun o q=>k _ _ (.inl rfl) q,⟨o,k _ _ (.inl rfl) e⟩,st⟩
theorem m7.lt (x:m7 P w H h) (e:H a=some o):a < h.objs.size:=(x a o e).lt
theorem m7.fresh (x:m7 P w H h) (e:h.objs.size <= a):H a=none:=by
 cases q:H a with
 | none=>rfl
 | some u=>exact absurd (Nat.lt_of_lt_of_le (x.lt q) e) (Nat.lt_irrefl _)
theorem m7.kept (x:m7 P w H h) (k:∀ b u,h.get? b=some u->h'.get? b=some u):m7 P w H h':=fun a o e =>
 (x a o e).stay (fun b u _ q=>k b u q) (fun _ q=>q) fun _ _ q=>q
theorem m7.laid (x:m7 P w H h) (k:∀ b u,h.get? b=some u->h'.get? b=some u) (hp:h.objs.size <= a) (new:dH P w (aY H a o) h' a o):m7 P w (aY H a o) h':=fun b u e=>by
 have hn:=x.fresh hp
 by_cases hb:b=a
 ·subst hb; rw [aB] at e; cases e; exact new
 ·rw [aK hb] at e
  exact (x b u e).stay (fun c v _ q=>k c v q) (fun c q=>by rw [aK (aU q hn)]; exact q) fun c xs q=>by rw [aK (aU q hn)]; exact q
end
def Rd (H:Hp) (a:Addr) (u:HO):Prop:=H a=some u ∨ ∃ o,H a=some (.frz o u)
theorem Rd.of {H:Hp}{a:Addr}{u:HO} (h:H a=some u):Rd H a u:=.inl h
theorem Rd.ok {P:Program}{w:World}{H:Hp}{h:Heap}{a:Addr}{u:HO} (r:Rd H a u) (x:m7 P w H h):dH P w H h a u:=by
 rcases r with r | ⟨o,r⟩
 ·exact x a u r
 ·obtain ⟨_,q⟩:=x a _ r
  exact q
def Td:Option HO->Prop
 | some (.lst _)=>True
 | some (.dK _)=>True
 | some (.dT _)=>True
 | some (.set _ _)=>True
 | some (.ins _ _ _)=>True
 | some (.ext _)=>True
 | _=>False
section
variable {P:Program}{w:World}{H:Hp}{h h':Heap}{x e:Addr}{o':HO}
theorem m7.write (ok:m7 P w H h) (mu:Td (H x)) (he:e=x ∨ H e=some (.own x)) (k:∀ b u,b ≠ e->h.get? b=some u->h'.get? b=some u) (heo:∃ u,h'.get? e=some u)
  (new:dH P w (aY H x o') h' x o'):m7 P w (aY H x o') h':=fun b u q=>by
 have nown:∀ c y,H c=some (.own y)->c ≠ x:=fun c y r z=>by subst z; rw [r] at mu; exact mu
 have ntup:∀ c xs,H c=some (.tup xs)->c ≠ x:=fun c xs r z=>by subst z; rw [r] at mu; exact mu
 by_cases hb:b=x
 ·subst hb; rw [aB] at q; cases q; exact new
 ·rw [aK hb] at q
  by_cases hbe:b=e
  ·have q':H b=some (.own x):=by
    rcases he with z | z
    ·exact absurd (hbe.trans z) hb
    ·rw [hbe]; exact z
   rw [q] at q'; cases q'
   obtain ⟨v,hv⟩:=heo
   exact ⟨v,by rw [hbe]; exact hv⟩
  ·refine (ok b u q).stay (fun c v hc r=>k c v ?_ r) (fun c r=>by rw [aK (nown c b r)]; exact r) fun c xs r=>by rw [aK (ntup c xs r)]; exact r
   rcases hc with rfl | hc
   ·exact hbe
   ·rintro rfl
    rcases he with z | z
    ·exact nown c b hc z
    ·rw [hc] at z; cases z; exact hb rfl
end
structure Un (fs ex:List Addr) (H H':Hp) (h h':Heap):Prop where
 keep:∀ b o,h.get? b=some o->H b=none->b ∉ fs->b ∉ ex->h'.get? b=some o
 slot:∀ b o,h.get? b=some o->H b=none->b ∈ fs->b ∉ ex->∃ sl,h'.get? b=some { o with slots:=sl }
 free:∀ b o,h.get? b=some o->H b=none->b ∉ ex->H' b=none
 there:∀ b o,h.get? b=some o->b ∉ ex->∃ o',h'.get? b=some o'
 tups:∀ b xs,H b=some (.tup xs)->H' b=some (.tup xs)
 frzs:∀ b o u,H b=some (.frz o u)->H' b=some (.frz o u)
 tbls:∀ b ps,H b=some (.tbl ps)->∃ more,H' b=some (.tbl (ps ++ more))
section
variable {fs fs' ex ex':List Addr}{H H1 H2:Hp}{h h1 h2 h':Heap}{a x e:Addr}{o:HO}
theorem Un.any (u:Un fs ex H H1 h h1) {b:Addr}{ob:Obj} (q:h.get? b=some ob) (n:H b=none) (hx:b ∉ ex):∃ sl,h1.get? b=some { ob with slots:=sl }:=by
 by_cases hb:b ∈ fs
 ·exact u.slot b ob q n hb hx
 ·exact ⟨ob.slots,u.keep b ob q n hb hx⟩
theorem Un.trans (a:Un fs ex H H1 h h1) (b:Un fs ex H1 H2 h1 h2):Un fs ex H H2 h h2 where
 keep:=fun c ob q n hc hx=>b.keep c ob (a.keep c ob q n hc hx) (a.free c ob q n hx) hc hx
 slot:=fun c ob q n hc hx=>by
  obtain ⟨sl,e1⟩:=a.slot c ob q n hc hx
  obtain ⟨sl',e2⟩:=b.slot c _ e1 (a.free c ob q n hx) hc hx
  exact ⟨sl',e2⟩
 free:=fun c ob q n hx=>by
  obtain ⟨o',e1⟩:=a.there c ob q hx
  exact b.free c o' e1 (a.free c ob q n hx) hx
 there:=fun c ob q hx=>by
  obtain ⟨o',e1⟩:=a.there c ob q hx
  exact b.there c o' e1 hx
 tups:=fun c xs q=>b.tups c xs (a.tups c xs q)
 frzs:=fun c ob xs q=>b.frzs c ob xs (a.frzs c ob xs q)
 tbls:=fun c ps q=>by
  obtain ⟨m1,e1⟩:=a.tbls c ps q
  obtain ⟨m2,e2⟩:=b.tbls c _ e1
  exact ⟨m1 ++ m2,by rw [e2,Array.append_assoc]⟩
theorem Un.kept (k:∀ b u,h.get? b=some u->h'.get? b=some u):Un fs ex H H h h' :=
 ⟨fun b ob q _ _ _=>k b ob q,fun b ob q _ _ _=>⟨ob.slots,k b ob q⟩,fun _ _ _ n _=>n,fun b ob q _=>⟨ob,k b ob q⟩,fun _ _ q=>q,fun _ _ _ q=>q,fun _ ps q=>⟨#[],by rw [q]; simp⟩⟩
theorem Un.refl:Un fs ex H H h h:=Un.kept fun _ _ q=>q
theorem Un.laid (k:∀ b u,h.get? b=some u->h'.get? b=some u) (hp:h.objs.size <= a) (hn:H a=none):Un fs ex H (aY H a o) h h' where
 keep:=fun b u q _ _ _=>k b u q
 slot:=fun b u q _ _ _=>⟨u.slots,k b u q⟩
 free:=fun b u q n _=>by rw [aK (Nat.ne_of_lt (Nat.lt_of_lt_of_le (Heap.lt_size q) hp))]; exact n
 there:=fun b u q _=>⟨u,k b u q⟩
 tups:=fun b xs q=>by rw [aK (aU q hn)]; exact q
 frzs:=fun b u xs q=>by rw [aK (aU q hn)]; exact q
 tbls:=fun b ps q=>⟨#[],by rw [aK (aU q hn),q]; simp⟩
theorem Un.write (mu:Td (H x)) (he:e=x ∨ H e=some (.own x)) (k:∀ b u,b ≠ e->h.get? b=some u->h'.get? b=some u) (heo:∃ u,h'.get? e=some u):Un fs ex H (aY H x o) h h':=by
 have hx:∀ b,H b=none->b ≠ x:=fun b n z=>by subst z; rw [n] at mu; exact mu
 have hb:∀ b,H b=none->b ≠ e:=fun b n z=>by
  subst z
  rcases he with r | r
  ·exact hx b n r
  ·rw [n] at r; cases r
 have hm:∀ b u,H b=some u->¬ Td (some u)->b ≠ x:=fun b u q nm z=>by subst z; rw [q] at mu; exact nm mu
 refine ⟨fun b u q n _ _=>k b u (hb b n) q,fun b u q n _ _=>⟨u.slots,k b u (hb b n) q⟩,fun b u q n _=>by rw [aK (hx b n)]; exact n,fun b u q _=>?_,
  fun b xs q=>by rw [aK (hm b _ q fun z=>z)]; exact q,fun b u xs q=>by rw [aK (hm b _ q fun z=>z)]; exact q,fun b ps q=>⟨#[],by rw [aK (hm b _ q fun z=>z),q]; simp⟩⟩
 by_cases hbe:b=e
 ·subst hbe; exact heo
 ·exact ⟨u,k b u hbe q⟩
theorem Un.mono (u:Un fs ex H H1 h h1) (hs:∀ b ∈ fs,b ∈ fs') (hx:∀ b ∈ ex,b ∈ ex'):Un fs' ex' H H1 h h1 :=
 ⟨fun b ob q n hb he=>u.keep b ob q n (fun z=>hb (hs b z)) fun z=>he (hx b z),fun _ _ q n _ he=>u.any q n fun z=>he (hx _ z),fun b ob q n he=>u.free b ob q n fun z=>he (hx b z),fun b ob q he=>u.there b ob q fun z=>he (hx b z),u.tups,u.frzs,u.tbls⟩
end
def Yp (h:Heap) (H:Hp):List Addr:=(List.range h.objs.size).filter fun a=>(H a).isSome
def vU (h:Heap) (H:Hp):Heap:=PySem.W.hideAll h (Yp h H)
theorem Ij (h:Heap) (H:Hp):(vU h H).objs.size=h.objs.size:=PySem.W.hideAll_size _ _
theorem JN {h:Heap}{H:Hp}{b:Addr}{o:Obj} (e:h.get? b=some o) (n:H b=none):(vU h H).get? b=some o :=
 PySem.W.hideAll_get _ e fun hm=>by
  have q:(H b).isSome=true:=(List.mem_filter.mp hm).2
  rw [n] at q; simp at q
theorem Nb {h:Heap}{H:Hp}{b:Addr}{o:Obj} (e:(vU h H).get? b=some o):h.get? b=some o /\ H b=none:=by
 have e':h.get? b=some o:=PySem.W.of_hideAll (Yp h H) e
 refine ⟨e',?_⟩
 cases q:H b with
 | none=>rfl
 | some x =>
  have hm:b ∈ Yp h H:=List.mem_filter.mpr ⟨List.mem_range.mpr (Heap.lt_size e'),by simp [q]⟩
  have z:(vU h H).get? b=none:=PySem.W.hideAll_none (Yp h H) hm
  rw [z] at e; cases e
def Ni (g h:Heap) (L:Addr):List (Addr × Obj):=(List.range h.objs.size).filterMap fun a=>if a=L ∨ (g.get? a).isSome=true then none else (h.get? a).map fun o=>(a,o)
def iH (g h:Heap) (L d:Addr):List (Addr × Obj):=(Ni g h L).filter fun p=>decide (p.1 ≠ d)
end L2
namespace L2
open PySem PySem.Spec PyProof.Rows
structure Mod (K:PySem.W.Frag) (mg:Str->Option Value) (base:Heap):Prop where
 kin:K.In base
 glob:base.Ns mainGlobals mg
 blt:∃ mb,base.Ns builtinsNs mb /\ ∀ x:Str,x ≠ "__name__" -> mb x=bootBuiltins x
 nolimit:base.NoLimit
structure Cx where
 prog:Program
 w:World
 K:PySem.W.Frag
 mg:Str->Option Value
 base:Heap
 A:Around
 N:List Str
 s₀ : Shared
 H₀ : Hp
 env:Env
 outer:List Env
 stack:List Env
 ex:List Addr
 fn:Str->Bool
 calm:Bool
 pn:List (Addr × Obj)
 xe:Value->Shared->Prop
def qX (l:List Env):List Addr:=l.filterMap (·.frame)
abbrev Cx.fs (X:Cx):List Addr:=qX X.outer
def Yn (sc:Scope) (x:Str):Prop:=sc.names.lookup x=some .local ∨ sc.names.lookup x=some .cell ∨ sc.names.lookup x=some .free
def Xi (sc:Scope) (x:Str):Prop:=sc.names.lookup x=some .local ∨ sc.names.lookup x=some .cell
def Z1 (env:Env) (h:Heap) (m:Str->Option Value) (x:Str) (u:Value):Prop :=
 (env.kindOf x=some .local /\ m x=some u) ∨ ((env.kindOf x=some .cell ∨ env.kindOf x=some .free) /\ ∃ c,env.cells.lookup x=some c /\ h.IsCell c (some u))
structure Cx.Ok (X:Cx):Prop where
 mod:Mod X.K X.mg X.base
 kind:X.env.scope.kind = .function
 glob:X.env.globals=mainGlobals
 blt:X.env.builtins=builtinsNs
 above:X.s₀.heap.objs.size <= X.env.locals
 inj:∀ x y c,X.env.cells.lookup x=some c->X.env.cells.lookup y=some c->x=y
 has:∀ x,(X.env.kindOf x=some .cell ∨ X.env.kindOf x=some .free)->∃ c,X.env.cells.lookup x=some c
 cab:∀ x c,X.fn x=true->X.env.cells.lookup x=some c->X.s₀.heap.objs.size <= c
 hd:X.calm=true->X.A.handled=none
 frames:X.A.frames=some X.stack
 stk:X.stack=X.outer ∨ (X.stack=X.env :: X.outer /\ X.env.frame=some X.env.locals)
 exf:∀ b ∈ X.ex,b ≠ X.env.locals /\ ∀ x c,X.env.cells.lookup x=some c->c ≠ b
 bs:∀ b o,X.base.get? b=some o->X.s₀.heap.get? b=some o /\ X.H₀ b=none
 bsz:X.base.objs.size <= X.s₀.heap.objs.size
 noex:∀ b o,X.base.get? b=some o->b ∉ X.ex
 exfs:∀ b ∈ X.ex,b ∉ X.fs
 funs:X.s₀.heap.FunFrames X.base X.outer
 frf:∀ b ∈ X.fs,X.H₀ b=none
structure aZ (X:Cx) (pins:List (Addr × Obj)) (σ : List (Option V)) (H:Hp) (s:Shared):Prop where
 ok:X.Ok
 os:s.os=X.s₀.os
 bare:AllBare s.gens
 base:Un X.fs X.ex X.H₀ H X.s₀.heap s.heap
 loc:∃ m,s.heap.Ns X.env.locals m /\ ∀ (i:Nat) (x:Str) (v:V),X.N[i]? = some x->σ[i]? = some (some v)->Yn X.env.scope x->∃ u,bJ v u /\ Z1 X.env s.heap m x u
 cell:∀ x c,X.env.cells.lookup x=some c->∃ v,s.heap.IsCell c v
 free:H X.env.locals=none
 freeC:∀ x c,X.env.cells.lookup x=some c->H c=none
 pin:∀ p ∈ X.pn ++ pins,s.heap.get? p.1=some p.2 /\ H p.1=none /\ p.1 ≠ X.env.locals /\ p.1 ∉ X.fs /\ ∀ v,p.2.data ≠ .cell v
 hok:m7 X.prog X.w H s.heap
 len:σ.length=X.N.length
section
variable {X:Cx}{pins:List (Addr × Obj)}{σ : List (Option V)}{H H':Hp}{s:Shared}{h':Heap}
theorem Cx.Ok.nofr (ok:X.Ok) {b:Addr}{o:Obj} (e:X.base.get? b=some o):b ∉ X.fs:=fun hb=>by
 have:=(ok.funs.mem hb).1
 rw [e] at this; cases this
theorem aZ.bs (I:aZ X pins σ H s):∀ b o,X.base.get? b=some o->s.heap.get? b=some o /\ H b=none:=fun b o e =>
 ⟨I.base.keep b o (I.ok.bs b o e).1 (I.ok.bs b o e).2 (I.ok.nofr e) (I.ok.noex b o e),I.base.free b o (I.ok.bs b o e).1 (I.ok.bs b o e).2 (I.ok.noex b o e)⟩
theorem aZ.bk (I:aZ X pins σ H s):∀ b o,X.base.get? b=some o->s.heap.get? b=some o:=fun b o e=>(I.bs b o e).1
theorem aZ.mod (I:aZ X pins σ H s):Mod X.K X.mg X.base:=I.ok.mod
theorem aZ.kIn (I:aZ X pins σ H s):X.K.In s.heap:=I.ok.mod.kin.keeps I.bk
theorem aZ.nolimit (I:aZ X pins σ H s):s.heap.NoLimit:=I.ok.mod.nolimit.keeps I.bk
theorem aZ.fr (I:aZ X pins σ H s):∃ m,Fr X.base X.env.locals s.heap m :=
 let ⟨m,hn,_⟩:=I.loc
 ⟨m,hn,I.bk,Nat.le_trans I.ok.bsz I.ok.above⟩
theorem aZ.lt (I:aZ X pins σ H s):X.env.locals < s.heap.objs.size:=let ⟨_,hn,_⟩:=I.loc; hn.lt
theorem aZ.sz (I:aZ X pins σ H s):X.s₀.heap.objs.size <= s.heap.objs.size:=Nat.le_trans I.ok.above (Nat.le_of_lt I.lt)
theorem aZ.nofs (I:aZ X pins σ H s) {a:Addr} (h:s.heap.objs.size <= a):a ∉ X.fs:=fun hb=>by
 obtain ⟨_,o,ho,_⟩:=I.ok.funs.mem hb
 exact absurd (Nat.lt_of_lt_of_le (Heap.lt_size ho) (Nat.le_trans I.sz h)) (Nat.lt_irrefl _)
theorem aZ.cne (I:aZ X pins σ H s):∀ x c,X.env.cells.lookup x=some c->c ≠ X.env.locals:=fun x c e z=>by
 obtain ⟨v,o,ho,hd⟩:=I.cell x c e
 obtain ⟨m,⟨o',es,ep,ho',hd',_⟩,_⟩:=I.loc
 rw [z,ho'] at ho; cases ho; rw [hd'] at hd; cases hd
theorem aZ.funs (I:aZ X pins σ H s):s.heap.FunFrames X.base X.outer:=by
 have all:∀ (l:List Env),(∀ b ∈ qX l,b ∈ X.fs)->X.s₀.heap.FunFrames X.base l->s.heap.FunFrames X.base l:=by
  intro l
  induction l with
  | nil=>intro _ _; trivial
  | cons env r ih =>
   intro hs hl
   obtain ⟨hk,⟨L,o,hf,hn,ho,hd⟩,hr⟩:=hl
   have hL:L ∈ X.fs:=hs L (by unfold qX; rw [List.filterMap_cons,hf]; exact List.mem_cons_self)
   obtain ⟨sl,e⟩:=I.base.slot L o ho (I.ok.frf L hL) hL fun z=>I.ok.exfs L z hL
   exact ⟨hk,⟨L,_,hf,hn,e,hd⟩,ih (fun b hb=>hs b (by unfold qX; rw [List.filterMap_cons,hf]; exact List.mem_cons_of_mem _ hb)) hr⟩
 exact all X.outer (fun _ hb=>hb) I.ok.funs
theorem aZ.stack (I:aZ X pins σ H s):s.heap.FunFrames X.base X.stack:=by
 rcases I.ok.stk with e | ⟨e,hf⟩
 ·rw [e]; exact I.funs
 ·rw [e]
  obtain ⟨m,hn,_⟩:=I.loc
  refine .cons (by rw [I.ok.kind]; decide) hf hn ?_ I.funs
  exact Heap.get?_none_of_le (Nat.le_trans I.ok.bsz I.ok.above)
theorem aZ.stkSub (I:aZ X pins σ H s):∀ b ∈ qX X.stack,b ∈ X.env.locals :: X.fs:=fun b hb=>by
 rcases I.ok.stk with e | ⟨e,hf⟩
 ·rw [e] at hb; exact List.mem_cons_of_mem _ hb
 ·rw [e] at hb
  unfold qX at hb
  rw [List.filterMap_cons,hf] at hb
  exact hb
theorem aZ.stkFree (I:aZ X pins σ H s):∀ b ∈ qX X.stack,H b=none:=fun b hb=>by
 rcases List.mem_cons.mp (I.stkSub b hb) with e | hb
 ·rw [e]; exact I.free
 ·obtain ⟨_,o,ho,_⟩:=I.ok.funs.mem hb
  exact I.base.free b o ho (I.ok.frf b hb) fun z=>I.ok.exfs b z hb
theorem aZ.step {g':Array GenState}{t':Nat}{d':Drawn}{ch:List Addr} (I:aZ X pins σ H s)
  (hch:∀ b ∈ ch,(b ∈ X.ex ∨ X.s₀.heap.objs.size <= b) /\ b ≠ X.env.locals /\ (∀ x c,X.env.cells.lookup x=some c->c ≠ b) /\ ∀ p ∈ X.pn ++ pins,p.1 ≠ b)
  (keep:∀ b o,b ≠ X.env.locals->b ∉ X.fs->b ∉ ch->s.heap.get? b=some o->H b=none->h'.get? b=some o)
  (slot:∀ b o,b ≠ X.env.locals->b ∈ X.fs->b ∉ ch->s.heap.get? b=some o->H b=none->∃ sl,h'.get? b=some { o with slots:=sl }) (free:∀ b o,b ∉ ch->s.heap.get? b=some o->H b=none->H' b=none)
  (there:∀ b o,b ∉ ch->s.heap.get? b=some o->∃ o',h'.get? b=some o')
  (tups:∀ b xs,H b=some (.tup xs)->H' b=some (.tup xs)) (frzs:∀ b o u,H b=some (.frz o u)->H' b=some (.frz o u)) (tbls:∀ b ps,H b=some (.tbl ps)->∃ more,H' b=some (.tbl (ps ++ more)))
  (ns:∀ m,s.heap.Ns X.env.locals m->h'.Ns X.env.locals m) (hok:m7 X.prog X.w H' h') (hg:AllBare g') :
  aZ X pins σ H' { s with heap:=h',gens:=g',drawn:=d',toks:=t' }:=by
 have neL:∀ b o,X.s₀.heap.get? b=some o->b ≠ X.env.locals:=fun b o e=>Nat.ne_of_lt (Nat.lt_of_lt_of_le (Heap.lt_size e) I.ok.above)
 have neC:∀ b o,X.s₀.heap.get? b=some o->b ∉ X.ex->b ∉ ch:=fun b o e hx hb=>by
  rcases (hch b hb).1 with z | z
  ·exact hx z
  ·exact absurd (Nat.lt_of_lt_of_le (Heap.lt_size e) z) (Nat.lt_irrefl _)
 have cellK:∀ x c,X.env.cells.lookup x=some c->∀ v,s.heap.IsCell c v->h'.IsCell c v:=fun x c e v ⟨o,ho,hd⟩=>by
  have nch:c ∉ ch:=fun z=>(hch c z).2.2.1 x c e rfl
  by_cases hc:c ∈ X.fs
  ·obtain ⟨sl,q⟩:=slot c o (I.cne x c e) hc nch ho (I.freeC x c e)
   exact ⟨_,q,hd⟩
  ·exact ⟨o,keep c o (I.cne x c e) hc nch ho (I.freeC x c e),hd⟩
 refine ⟨I.ok,I.os,hg,⟨fun b o e n hb hx=>?_,fun b o e n hb hx=>?_,fun b o e n hx=>?_,fun b o e hx=>?_,fun b xs e=>tups b xs (I.base.tups b xs e),fun b o xs e=>frzs b o xs (I.base.frzs b o xs e),fun b ps e=>?_⟩,?_,fun x c e=>?_,?_,fun x c e=>?_,fun p hp=>?_,hok,I.len⟩
 ·exact keep b o (neL b o e) hb (neC b o e hx) (I.base.keep b o e n hb hx) (I.base.free b o e n hx)
 ·obtain ⟨sl,e1⟩:=I.base.slot b o e n hb hx
  obtain ⟨sl',e2⟩:=slot b _ (neL b o e) hb (neC b o e hx) e1 (I.base.free b o e n hx)
  exact ⟨sl',e2⟩
 ·obtain ⟨o',e1⟩:=I.base.there b o e hx
  exact free b o' (neC b o e hx) e1 (I.base.free b o e n hx)
 ·obtain ⟨o',e1⟩:=I.base.there b o e hx
  exact there b o' (neC b o e hx) e1
 ·obtain ⟨m1,e1⟩:=I.base.tbls b ps e
  obtain ⟨m2,e2⟩:=tbls b _ e1
  exact ⟨m1 ++ m2,by rw [e2,Array.append_assoc]⟩
 ·obtain ⟨m,hn,hl⟩:=I.loc
  refine ⟨m,ns m hn,fun i x v e1 e2 e3=>?_⟩
  obtain ⟨u,r,l⟩:=hl i x v e1 e2 e3
  refine ⟨u,r,?_⟩
  rcases l with l | ⟨k,c,e,z⟩
  ·exact .inl l
  ·exact .inr ⟨k,c,e,cellK x c e _ z⟩
 ·obtain ⟨v,z⟩:=I.cell x c e
  exact ⟨v,cellK x c e v z⟩
 ·obtain ⟨m,⟨o,_,_,ho,_⟩,_⟩:=I.loc
  exact free _ o (fun z=>(hch _ z).2.1 rfl) ho I.free
 ·obtain ⟨v,o,ho,hd⟩:=I.cell x c e
  exact free c o (fun z=>(hch c z).2.2.1 x c e rfl) ho (I.freeC x c e)
 ·obtain ⟨e,n,ne,nf,d⟩:=I.pin p hp
  have nch:p.1 ∉ ch:=fun z=>(hch p.1 z).2.2.2 p hp rfl
  exact ⟨keep p.1 p.2 ne nf nch e n,free p.1 p.2 nch e n,ne,nf,d⟩
theorem aZ.un {t':Nat} (I:aZ X pins σ H s) (u:Un X.fs [] H H' s.heap h') (hok:m7 X.prog X.w H' h'):aZ X pins σ H' { s with heap:=h',toks:=t' }:=by
 obtain ⟨m,⟨o,es,ep,ho,r⟩,_⟩:=id I.loc
 obtain ⟨sl,hL⟩:=u.any ho I.free (by simp)
 exact I.step (g':=s.gens) (d':=s.drawn) (ch:=[]) (fun _ z=>nomatch z) (fun b o _ hb _ e n=>u.keep b o e n hb (by simp)) (fun b o _ hb _ e n=>u.slot b o e n hb (by simp)) (fun b o _ e n=>u.free b o e n (by simp)) (fun b o _ e=>u.there b o e (by simp)) u.tups u.frzs u.tbls (fun m' hm=>by
  obtain ⟨o',es',ep',ho',r'⟩:=hm
  rw [ho] at ho'; cases ho'
  exact ⟨_,es',ep',hL,r'⟩) hok I.bare
theorem aZ.call {g':Array GenState}{t':Nat}{d':Drawn}{ch:List Addr} (I:aZ X pins σ H s) (u:Un (qX X.stack) ch H H' s.heap h') (hok:m7 X.prog X.w H' h') (hg:AllBare g')
  (hch:∀ b ∈ ch,(b ∈ X.ex ∨ X.s₀.heap.objs.size <= b) /\ b ≠ X.env.locals /\ (∀ x c,X.env.cells.lookup x=some c->c ≠ b) /\ ∀ p ∈ X.pn ++ pins,p.1 ≠ b) :
  aZ X pins σ H' { s with heap:=h',gens:=g',drawn:=d',toks:=t' }:=by
 obtain ⟨m,⟨o,es,ep,ho,r⟩,_⟩:=id I.loc
 obtain ⟨sl,hL⟩:=u.any ho I.free fun z=>(hch _ z).2.1 rfl
 exact I.step (ch:=ch) hch (fun b o hL hb hc e n=>u.keep b o e n (fun z=>(List.mem_cons.mp (I.stkSub b z)).elim hL hb) hc) (fun b o _ _ hc e n=>u.any e n hc) (fun b o hc e n=>u.free b o e n hc) (fun b o hc e=>u.there b o e hc) u.tups u.frzs u.tbls (fun m' hm=>by
  obtain ⟨o',es',ep',ho',r'⟩:=hm
  rw [ho] at ho'; cases ho'
  exact ⟨_,es',ep',hL,r'⟩) hok hg
theorem aZ.turned {t':Nat}{it:Addr} (I:aZ X pins σ H s) (k:∀ b o,b ≠ it->s.heap.get? b=some o->h'.get? b=some o) (hn:H it=none) (hL:it ≠ X.env.locals)
  (h1:it ∈ X.ex ∨ X.s₀.heap.objs.size <= it) (h2:∀ x c,X.env.cells.lookup x=some c->c ≠ it) (h3:∀ p ∈ X.pn ++ pins,p.1 ≠ it):aZ X pins σ H { s with heap:=h',toks:=t' }:=by
 have nit:∀ b u,H b=some u->b ≠ it:=fun b u e z=>by rw [z,hn] at e; cases e
 refine I.step (g':=s.gens) (d':=s.drawn) (ch:=[it]) (fun b hb=>?_) (fun b o _ _ hc e _=>k b o (fun z=>hc (by simp [z])) e) (fun b o _ _ hc e _=>⟨o.slots,k b o (fun z=>hc (by simp [z])) e⟩) (fun _ _ _ _ n=>n)
  (fun b o hc e=>⟨o,k b o (fun z=>hc (by simp [z])) e⟩) (fun _ _ e=>e) (fun _ _ _ e=>e) (fun b ps e=>⟨#[],by rw [e]; simp⟩) (fun m hm=>?_) (fun b u e=>?_) I.bare
 ·have e:b=it:=by simpa using hb
  subst e
  exact ⟨h1,hL,h2,h3⟩
 ·obtain ⟨o,es,ep,ho,r⟩:=hm
  exact ⟨o,es,ep,k _ o (Ne.symm hL) ho,r⟩
 ·refine (I.hok b u e).stay (fun c v hc q=>k c v ?_ q) (fun _ q=>q) fun _ _ q=>q
  rcases hc with z | z
  ·rw [z]; exact nit b u e
  ·exact nit c _ z
theorem aZ.tok (I:aZ X pins σ H s) (t:Nat):aZ X pins σ H { s with toks:=t }:=I.un (h':=s.heap) (t':=t) Un.refl I.hok
theorem aZ.kept {t':Nat} (I:aZ X pins σ H s) (k:∀ b u,s.heap.get? b=some u->h'.get? b=some u):aZ X pins σ H { s with heap:=h',toks:=t' }:=I.un (Un.kept k) (I.hok.kept k)
theorem aZ.laid {a:Addr}{o:HO}{t':Nat} (I:aZ X pins σ H s) (k:∀ b u,s.heap.get? b=some u->h'.get? b=some u) (hp:s.heap.objs.size <= a) (new:dH X.prog X.w (aY H a o) h' a o) :
  aZ X pins σ (aY H a o) { s with heap:=h',toks:=t' }:=I.un (Un.laid k hp (I.hok.fresh hp)) (I.hok.laid k hp new)
theorem aZ.write {x e:Addr}{o:HO}{t':Nat} (I:aZ X pins σ H s) (mu:Td (H x)) (he:e=x ∨ H e=some (.own x)) (k:∀ b u,b ≠ e->s.heap.get? b=some u->h'.get? b=some u) (heo:∃ u,h'.get? e=some u)
  (new:dH X.prog X.w (aY H x o) h' x o):aZ X pins σ (aY H x o) { s with heap:=h',toks:=t' }:=I.un (Un.write mu he k heo) (I.hok.write mu he k heo new)
theorem aZ.pins_of {pins':List (Addr × Obj)} (I:aZ X pins σ H s) (h:∀ p ∈ pins',s.heap.get? p.1=some p.2 /\ H p.1=none /\ p.1 ≠ X.env.locals /\ p.1 ∉ X.fs /\ ∀ v,p.2.data ≠ .cell v):aZ X pins' σ H s :=
 ⟨I.ok,I.os,I.bare,I.base,I.loc,I.cell,I.free,I.freeC,fun p hp=>(List.mem_append.mp hp).elim (fun z=>I.pin p (List.mem_append_left _ z)) (h p),I.hok,I.len⟩
theorem Cw {N:List Str} (hN:N.Nodup) {i j:Nat}{x:Str} (a:N[i]? = some x) (b:N[j]? = some x):i=j:=by
 obtain ⟨h1,e1⟩:=List.getElem?_eq_some_iff.mp a
 obtain ⟨h2,e2⟩:=List.getElem?_eq_some_iff.mp b
 exact (List.getElem_inj hN).mp (e1.trans e2.symm)
theorem wW {M:Model}{A:Around}{E:Value->Shared->Prop}{i:Nat}{x:Str}{v:V}{u:Value}{Q:Unit->Shared->Prop} (I:aZ X pins σ H s) (hN:X.N.Nodup) (hi:X.N[i]? = some x) (hx:Xi X.env.scope x) (r:bJ v u)
  (h:∀ s',aZ X pins (σ.set i (some v)) H s'->(∃ a,Heap.SameBut a s.heap s'.heap /\ (a=X.env.locals ∨ X.env.cells.lookup x=some a))->Q () s') (hf:X.fn x=true ∨ X.env.scope.names.lookup x=some .local:=by first | exact .inl rfl | exact .inr rfl | assumption):wpAny M A (storeName X.env x u) Q E s:=by
 obtain ⟨m,hn,hl⟩:=id I.loc
 have hcls:(X.env.scope.kind == .class || (X.env.scope.kind == .module && X.env.locals != X.env.globals))=false:=by rw [I.ok.kind]; rfl
 have hiσ : i < σ.length:=by rw [I.len]; exact (List.getElem?_eq_some_iff.mp hi).1
 have cne:=I.cne
 have tracked:∀ {a:Addr}{h':Heap},(∃ o,s.heap.get? a=some o /\ H a=none)->Heap.SameBut a s.heap h'->m7 X.prog X.w H h':=fun {a h'} ha hs b ob e=>by
  obtain ⟨_,_,hfree⟩:=ha
  refine (I.hok b ob e).stay (fun c w' hc q=>(hs.2 c ?_).trans q) (fun _ q=>q) fun _ _ q=>q
  rintro rfl
  rcases hc with rfl | hc
  ·rw [hfree] at e; cases e
  ·rw [hfree] at hc; cases hc
 rcases hx with hk | hk
 ·refine wpAny_storeName_local hk hn (fun h' hn' hs=>?_) hcls
  obtain ⟨oL,_,_,hoL,_⟩:=id hn
  refine h _ ⟨I.ok,I.os,I.bare,⟨fun b o e n hb hx=>?_,fun b o e n hb hx=>?_,I.base.free,fun b o e hx=>?_,I.base.tups,I.base.frzs,I.base.tbls⟩,⟨_,hn',fun j y v' e1 e2 e3=>?_⟩,fun y c e=>?_,I.free,I.freeC,fun p hp=>?_,tracked ⟨oL,hoL,I.free⟩ hs,by simpa using I.len⟩ ⟨_,hs,.inl rfl⟩
  ·exact (hs.2 b (Nat.ne_of_lt (Nat.lt_of_lt_of_le (Heap.lt_size e) I.ok.above))).trans (I.base.keep b o e n hb hx)
  ·obtain ⟨sl,e1⟩:=I.base.slot b o e n hb hx
   exact ⟨sl,(hs.2 b (Nat.ne_of_lt (Nat.lt_of_lt_of_le (Heap.lt_size e) I.ok.above))).trans e1⟩
  ·obtain ⟨o',e1⟩:=I.base.there b o e hx
   exact ⟨o',(hs.2 b (Nat.ne_of_lt (Nat.lt_of_lt_of_le (Heap.lt_size e) I.ok.above))).trans e1⟩
  ·by_cases hj:j=i
   ·subst hj
    rw [hi] at e1; cases e1
    rw [List.getElem?_set_self hiσ] at e2
    cases e2
    exact ⟨u,r,.inl ⟨hk,by simp⟩⟩
   ·rw [List.getElem?_set_ne (Ne.symm hj)] at e2
    obtain ⟨u',r',q⟩:=hl j y v' e1 e2 e3
    refine ⟨u',r',?_⟩
    rcases q with ⟨k,e⟩ | ⟨k,c,e,z⟩
    ·refine .inl ⟨k,?_⟩
     have:y ≠ x:=fun e=>hj (Cw hN e1 (e ▸ hi))
     simp [this,e]
    ·exact .inr ⟨k,c,e,z.sameBut hs (cne y c e)⟩
  ·obtain ⟨w',z⟩:=I.cell y c e
   exact ⟨w',z.sameBut hs (cne y c e)⟩
  ·obtain ⟨e,n,ne,nf,d⟩:=I.pin p hp
   exact ⟨(hs.2 p.1 ne).trans e,n,ne,nf,d⟩
 ·have hfn:X.fn x=true:=by
   rcases hf with z | z
   ·exact z
   ·rw [z] at hk; cases hk
  obtain ⟨c,hc⟩:=I.ok.has x (.inl hk)
  obtain ⟨w',z⟩:=I.cell x c hc
  refine wpAny_storeName_cell I.ok.kind hk hc z (fun h' hc' hs=>?_)
  obtain ⟨oc,hoc,hocd⟩:=id z
  refine h { s with heap:=h' } ⟨I.ok,I.os,I.bare,⟨fun b o e n hb hx=>?_,fun b o e n hb hx=>?_,I.base.free,fun b o e hx=>?_,I.base.tups,I.base.frzs,I.base.tbls⟩,⟨m,hn.sameBut hs (Ne.symm (cne x c hc)),fun j y v' e1 e2 e3=>?_⟩,fun y c' e=>?_,I.free,I.freeC,fun p hp=>?_,tracked ⟨oc,hoc,I.freeC x c hc⟩ hs,by simpa using I.len⟩ ⟨c,hs,.inr hc⟩
  ·exact (hs.2 b (Nat.ne_of_lt (Nat.lt_of_lt_of_le (Heap.lt_size e) (I.ok.cab x c hfn hc)))).trans (I.base.keep b o e n hb hx)
  ·obtain ⟨sl,e1⟩:=I.base.slot b o e n hb hx
   exact ⟨sl,(hs.2 b (Nat.ne_of_lt (Nat.lt_of_lt_of_le (Heap.lt_size e) (I.ok.cab x c hfn hc)))).trans e1⟩
  ·obtain ⟨o',e1⟩:=I.base.there b o e hx
   exact ⟨o',(hs.2 b (Nat.ne_of_lt (Nat.lt_of_lt_of_le (Heap.lt_size e) (I.ok.cab x c hfn hc)))).trans e1⟩
  ·by_cases hj:j=i
   ·subst hj
    rw [hi] at e1; cases e1
    rw [List.getElem?_set_self hiσ] at e2
    cases e2
    exact ⟨u,r,.inr ⟨.inl hk,c,hc,hc'⟩⟩
   ·rw [List.getElem?_set_ne (Ne.symm hj)] at e2
    obtain ⟨u',r',q⟩:=hl j y v' e1 e2 e3
    refine ⟨u',r',?_⟩
    rcases q with q | ⟨k,c',e,z'⟩
    ·exact .inl q
    ·refine .inr ⟨k,c',e,z'.sameBut hs ?_⟩
     rintro rfl
     exact hj (Cw hN e1 (I.ok.inj _ _ _ e hc ▸ hi))
  ·by_cases hcc:c'=c
   ·subst hcc; exact ⟨_,hc'⟩
   ·obtain ⟨w2,z2⟩:=I.cell y c' e
    exact ⟨w2,z2.sameBut hs hcc⟩
  ·obtain ⟨e,n,ne,nf,d⟩:=I.pin p hp
   refine ⟨(hs.2 p.1 ?_).trans e,n,ne,nf,d⟩
   intro q
   rw [q,hoc] at e
   have q':oc=p.2:=Option.some.inj e
   exact d w' (by rw [<- q']; exact hocd)
theorem pW {M:Model}{A:Around}{E:Value->Shared->Prop}{i:Nat}{x:Str}{v:V}{u:Value}{Q:Unit->Shared->Prop} (I:aZ X pins σ H s) (hN:X.N.Nodup) (hi:X.N[i]? = some x) (hx:Xi X.env.scope x) (r:bJ v u)
  (h:∀ s',aZ X pins (σ.set i (some v)) H s'->Q () s') (hf:X.fn x=true ∨ X.env.scope.names.lookup x=some .local:=by first | exact .inl rfl | exact .inr rfl | assumption):wpAny M A (storeName X.env x u) Q E s :=
 wW I hN hi hx r (fun s' I' _=>h s' I') hf
theorem aZ.call' {s':Shared}{ch:List Addr} (I:aZ X pins σ H s) (ho:s'.os=s.os) (u:Un (qX X.stack) ch H H' s.heap s'.heap) (hok:m7 X.prog X.w H' s'.heap) (hg:AllBare s'.gens)
  (hch:∀ b ∈ ch,(b ∈ X.ex ∨ X.s₀.heap.objs.size <= b) /\ b ≠ X.env.locals /\ (∀ x c,X.env.cells.lookup x=some c->c ≠ b) /\ ∀ p ∈ X.pn ++ pins,p.1 ≠ b):aZ X pins σ H' s':=by
 obtain ⟨h',g',d',t',o'⟩:=s'
 have e:o'=s.os:=ho
 subst e
 exact I.call (g':=g') (t':=t') (d':=d') u hok hg hch
end
abbrev XK:=Value->Option Addr->Hp->Prop
abbrev St:=List (Option V)
abbrev VK:=V->Hp->Prop
abbrev TE:=St->Hp->VK->Prop
abbrev TT:=St->Hp->(Bool->Hp->Prop)->Prop
abbrev TA:=St->Hp->(List V->Hp->Prop)->Prop
structure rJ where
 nx:St->Hp->Prop
 rt:VK
 bk:St->Hp->Prop:=fun _ _=>False
 ct:St->Hp->Prop:=fun _ _=>False
abbrev TS:=rJ->St->Hp->Prop
def EP (X:Cx) (pins:List (Addr × Obj)) (σ : St) (Q:VK) (u:Value) (s':Shared):Prop:=∃ v H',aZ X pins σ H' s' /\ bJ v u /\ Q v H'
def TP (X:Cx) (pins:List (Addr × Obj)) (σ : St) (Q:Bool->Hp->Prop) (b:Bool) (s':Shared):Prop:=∃ H',aZ X pins σ H' s' /\ Q b H'
def AP (X:Cx) (pins:List (Addr × Obj)) (σ : St) (Q:List V->Hp->Prop) (us:List Value) (s':Shared):Prop:=∃ vs H',aZ X pins σ H' s' /\ bL vs us /\ Q vs H'
def SP (X:Cx) (pins:List (Addr × Obj)) (D:rJ) (f:Flow) (s':Shared):Prop :=
 match f with
 | .next=>∃ σ' H',aZ X pins σ' H' s' /\ D.nx σ' H'
 | .brk=>∃ σ' H',aZ X pins σ' H' s' /\ D.bk σ' H'
 | .cont=>∃ σ' H',aZ X pins σ' H' s' /\ D.ct σ' H'
 | .ret u=>∃ v σ' H',aZ X pins σ' H' s' /\ bJ v u /\ D.rt v H'
def PE (X:Cx) (e:Expr) (t:TE):Prop :=
 ∀ (pins:List (Addr × Obj)) (s:Shared) (σ : St) (H:Hp) (Q:VK),aZ X pins σ H s->t σ H Q->wpAny (model X.prog X.w) X.A (eval e X.env) (EP X pins σ Q) X.xe s
def PT (X:Cx) (e:Expr) (t:TT):Prop :=
 ∀ (pins:List (Addr × Obj)) (s:Shared) (σ : St) (H:Hp) (Q:Bool->Hp->Prop),aZ X pins σ H s->t σ H Q->wpAny (model X.prog X.w) X.A (isTrue e X.env (eval e X.env)) (TP X pins σ Q) X.xe s
def PW (X:Cx) (e:Expr) (t:TT):Prop :=
 ∀ (whole:Sem Value) (pins:List (Addr × Obj)) (s:Shared) (σ : St) (H:Hp) (Q:Bool->Hp->Prop),aZ X pins σ H s->t σ H Q->wpAny (model X.prog X.w) X.A (isTrue e X.env whole) (TP X pins σ Q) X.xe s
theorem PW.pt {X:Cx}{e:Expr}{t:TT} (h:PW X e t):PT X e t:=h _
def PA (X:Cx) (es:List Expr) (t:TA):Prop :=
 ∀ (pos:Pos) (pins:List (Addr × Obj)) (s:Shared) (σ : St) (H:Hp) (Q:List V->Hp->Prop),aZ X pins σ H s->t σ H Q->wpAny (model X.prog X.w) X.A (spliced (backTo pos (starEach es X.env))) (AP X pins σ Q) X.xe s
def PS (X:Cx) (st:Stmt) (t:TS):Prop :=
 ∀ (pins:List (Addr × Obj)) (s:Shared) (σ : St) (H:Hp) (D:rJ),aZ X pins σ H s->t D σ H->wpAny (model X.prog X.w) X.A (exec st X.env) (SP X pins D) X.xe s
def rT (X:Cx) (st:List Stmt) (t:TS):Prop :=
 ∀ (pins:List (Addr × Obj)) (s:Shared) (σ : St) (H:Hp) (D:rJ),aZ X pins σ H s->t D σ H->wpAny (model X.prog X.w) X.A (execs st X.env) (SP X pins D) X.xe s
theorem dU {α : Type}{t:Sem α}{Q Q':α->Shared->Prop}{M:Model}{A:Around}{E:Value->Shared->Prop}{s:Shared} (h:wpAny M A t Q E s) (hQ:∀ a s,Q a s->Q' a s):wpAny M A t Q' E s:=wpAny_mono h hQ fun _ _ x=>x
end L2
namespace L2
open PySem PySem.Spec PyProof.Rows
section
variable {X:Cx}
def Ib (i:Nat):TE:=fun σ H Q=>∃ v,σ[i]? = some (some v) /\ Q v H
def tC (v:V):TE:=fun _ H Q=>Q v H
theorem Ld {i:Nat}{x:Str}{pos:Pos} (hN:X.N[i]? = some x) (hv:Yn X.env.scope x) (hd:(x == ("__debug__" : Str))=false:=by decide) (hcd:(x == ("__classdict__" : Str))=false:=by decide):PE X (.Name x pos) (Ib i):=by
 intro pins s σ H Q I h
 obtain ⟨v,e,h⟩:=h
 obtain ⟨m,hn,hl⟩:=I.loc
 obtain ⟨u,r,l⟩:=hl i x v hN e hv
 have fin:EP X pins σ Q u s:=⟨v,H,I,r,h⟩
 rcases l with ⟨hk,hm⟩ | ⟨hk,c,hc,hcell⟩
 ·exact wpAny_Name (wpAny_loadName_local I.ok.kind hk hn hm fin) hd
 ·rcases hk with hk | hk
  ·exact wpAny_Name (wpAny_loadName_cell I.ok.kind hk hc hcell fin) hd
  ·exact wpAny_Name (wpAny_loadName_free I.ok.kind hk hc hcell fin hcd) hd
theorem aF {i j pos}:PE X (.Constant (.int i) j pos) (tC (.int i)):=fun _ _ _ H _ I h=>wpAny_Constant_int ⟨.int i,H,I.tok _,⟨_,rfl⟩,h⟩
theorem nH {b j pos}:PE X (.Constant (.bool b) j pos) (tC (.bl b)):=fun _ _ _ H _ I h=>Constant_bool ⟨.bl b,H,I,rfl,h⟩
theorem qH {j pos}:PE X (.Constant .none j pos) (tC .non):=fun _ _ _ H _ I h=>Constant_none ⟨.non,H,I,rfl,h⟩
theorem oW {x j pos}:PE X (.Constant (.str x) j pos) (tC (.str x)):=fun _ _ _ H _ I h=>Calls.Constant_str ⟨.str x,H,I.tok _,⟨_,rfl⟩,h⟩
def Gl (X:Cx) (x:Str):Prop:=X.env.kindOf x=some .globalImplicit
theorem pM {E:Value->Shared->Prop}{pins:List (Addr × Obj)}{s:Shared}{σ : St}{H:Hp}{x:Str}{u:Value}{pos:Pos}{Q:Value->Shared->Prop} (I:aZ X pins σ H s) (hg:Gl X x) (hm:X.mg x=some u) (h:Q u s)
  (hd:(x == ("__debug__" : Str))=false:=by decide):wpAny (model X.prog X.w) X.A (eval (.Name x pos) X.env) Q E s :=
 Calls.Name_function_global I.ok.kind hg (Calls.loadGlobal_global (by rw [I.ok.glob]; exact I.mod.glob.keeps I.bk) hm h) hd
theorem qO {E:Value->Shared->Prop}{pins:List (Addr × Obj)}{s:Shared}{σ : St}{H:Hp}{x:Str}{u:Value}{pos:Pos}{Q:Value->Shared->Prop} (I:aZ X pins σ H s) (hg:Gl X x) (hm:X.mg x=none) (hv:bootBuiltins x=some u) (h:Q u s)
  (hn:x ≠ "__name__":=by decide) (hd:(x == ("__debug__" : Str))=false:=by decide):wpAny (model X.prog X.w) X.A (eval (.Name x pos) X.env) Q E s:=by
 obtain ⟨mb,h1,h2⟩:=I.mod.blt
 exact Calls.Name_function_global I.ok.kind hg (Calls.loadGlobal_builtin (by rw [I.ok.glob]; exact I.mod.glob.keeps I.bk) hm (by rw [I.ok.blt]; exact h1.keeps I.bk) ((h2 x hn).trans hv) h) hd
theorem iY {x:Str}{v:V}{u:Value}{pos:Pos} (hg:Gl X x) (hm:X.mg x=some u) (r:bJ v u) (hd:(x == ("__debug__" : Str))=false:=by decide):PE X (.Name x pos) (tC v) :=
 fun _ _ _ H _ I h=>pM I hg hm ⟨v,H,I,r,h⟩ hd
theorem jP {x:Str}{v:V}{u:Value}{pos:Pos} (hg:Gl X x) (hm:X.mg x=none) (hv:bootBuiltins x=some u) (r:bJ v u) (hn:x ≠ "__name__":=by decide) (hd:(x == ("__debug__" : Str))=false:=by decide):PE X (.Name x pos) (tC v) :=
 fun _ _ _ H _ I h=>qO I hg hm hv ⟨v,H,I,r,h⟩ hn hd
variable {a b:Expr}{ta tb:TE}{pos:Pos}
def tB (t:TE):TT:=fun σ H Q=>t σ H fun x H1=>∃ c,x = .bl c /\ Q c H1
theorem dR {e:Expr}{t:TE} (h:PE X e t) (he:∀ whole,isTrue e X.env whole=(do let v <- whole; standAt e.pos; holding [v] (truthy v)):=by intro _; rfl):PT X e (tB t):=by
 intro pins s σ H Q I hw
 refine isTrue_plain (dU (h pins s σ H _ I hw) fun v s1 ⟨x,H1,I1,r1,q1⟩=>?_) (he _)
 obtain ⟨d,rfl,q⟩:=q1
 cases r1
 exact wpAny_truthy_bool ⟨H1,I1,q⟩
variable {tA tB':TT}{iH:List Expr}
def Zy (t u:TT):TT:=fun σ H Q=>t σ H fun c H1=>if c=true then u σ H1 Q else Q false H1
def tOr (t u:TT):TT:=fun σ H Q=>t σ H fun c H1=>if c=true then Q true H1 else u σ H1 Q
def ZV (t:TT):TT:=fun σ H Q=>t σ H fun c H1=>Q (!c) H1
theorem Gi (ha:PT X a tA):PW X (.BoolOp .And [a] pos) tA:=by
 intro wh pins s σ H Q I h
 refine isTrue_and (dU (ha pins s σ H Q I h) fun c s1 e=>?_)
 cases c with
 | true=>exact isTrue_and_nil e
 | false=>exact e
theorem jL (ha:PT X a tA):PW X (.BoolOp .Or [a] pos) tA:=by
 intro wh pins s σ H Q I h
 refine isTrue_or (dU (ha pins s σ H Q I h) fun c s1 e=>?_)
 cases c with
 | false=>exact isTrue_or_nil e
 | true=>exact e
theorem KC (ha:PT X a tA) (hb:PW X (.BoolOp .And (b :: iH) pos) tB'):PW X (.BoolOp .And (a :: b :: iH) pos) (Zy tA tB'):=by
 intro wh pins s σ H Q I h
 refine isTrue_and (dU (ha pins s σ H _ I h) fun c s1 ⟨H1,I1,q1⟩=>?_)
 cases c with
 | true=>exact hb wh pins s1 σ H1 Q I1 q1
 | false=>exact ⟨H1,I1,q1⟩
theorem jU (ha:PT X a tA) (hb:PW X (.BoolOp .Or (b :: iH) pos) tB'):PW X (.BoolOp .Or (a :: b :: iH) pos) (tOr tA tB'):=by
 intro wh pins s σ H Q I h
 refine isTrue_or (dU (ha pins s σ H _ I h) fun c s1 ⟨H1,I1,q1⟩=>?_)
 cases c with
 | true=>exact ⟨H1,I1,q1⟩
 | false=>exact hb wh pins s1 σ H1 Q I1 q1
theorem eV (ha:PT X a tA):PT X (.UnaryOp .Not a pos) (ZV tA):=by
 intro pins s σ H Q I h
 exact isTrue_not (ha pins s σ H (fun c H1=>Q (!c) H1) I h)
def Yi (ta tb:TE):TE:=fun σ H Q=>ta σ H fun x H1=>∃ c,x = .bl c /\ if c=true then tb σ H1 Q else Q (.bl false) H1
def aBh (ta tb:TE):TE:=fun σ H Q=>ta σ H fun x H1=>∃ c,x = .bl c /\ if c=true then Q (.bl true) H1 else tb σ H1 Q
def Ub (ta:TE):TE:=fun σ H Q=>ta σ H fun x H1=>∃ c,x = .bl c /\ Q (.bl (!c)) H1
theorem oO {op}{t:TE} (h:PE X a t):PE X (.BoolOp op [a] pos) t:=fun pins s σ H Q I hw=>BoolOp_one (h pins s σ H Q I hw)
theorem oN (ha:PE X a ta) (hb:PE X (.BoolOp .And (b :: iH) pos) tb):PE X (.BoolOp .And (a :: b :: iH) pos) (Yi ta tb):=by
 intro pins s σ H Q I h
 refine BoolOp_and (dU (ha pins s σ H _ I h) fun v s1 ⟨x,H1,I1,r1,q1⟩=>?_)
 obtain ⟨c,rfl,q1⟩:=q1
 cases r1
 refine wpAny_truthy_bool ?_
 cases c with
 | true=>exact hb pins s1 σ H1 Q I1 q1
 | false=>exact ⟨.bl false,H1,I1,rfl,q1⟩
theorem X8 (ha:PE X a ta) (hb:PE X (.BoolOp .Or (b :: iH) pos) tb):PE X (.BoolOp .Or (a :: b :: iH) pos) (aBh ta tb):=by
 intro pins s σ H Q I h
 refine BoolOp_or (dU (ha pins s σ H _ I h) fun v s1 ⟨x,H1,I1,r1,q1⟩=>?_)
 obtain ⟨c,rfl,q1⟩:=q1
 cases r1
 refine wpAny_truthy_bool ?_
 cases c with
 | false=>exact hb pins s1 σ H1 Q I1 q1
 | true=>exact ⟨.bl true,H1,I1,rfl,q1⟩
theorem LR (ha:PE X a ta):PE X (.UnaryOp .Not a pos) (Ub ta):=by
 intro pins s σ H Q I h
 refine UnaryOp_ (dU (ha pins s σ H _ I h) fun v s1 ⟨x,H1,I1,r1,q1⟩=>?_)
 obtain ⟨c,rfl,q1⟩:=q1
 cases r1
 exact not_of (wpAny_truthy_bool ⟨.bl (!c),H1,I1,rfl,q1⟩)
def tIf (t:TT) (ta tb:TE):TE:=fun σ H Q=>t σ H fun c H1=>if c=true then ta σ H1 Q else tb σ H1 Q
theorem vI {c:Expr} (hc:PT X c tA) (ha:PE X a ta) (hb:PE X b tb):PE X (.IfExp c a b pos) (tIf tA ta tb):=by
 intro pins s σ H Q I h
 refine wpAny_IfExp (dU (hc pins s σ H _ I h) fun d s1 ⟨H1,I1,q1⟩=>?_)
 cases d with
 | true=>exact ha pins s1 σ H1 Q I1 q1
 | false=>exact hb pins s1 σ H1 Q I1 q1
end
end L2
namespace L2
open PySem PySem.Spec PyProof.Rows
def bR (K:PySem.W.Frag) (H:Hp) (a:Addr) (xs:List V):Prop :=
 Rd H a (.lst xs) ∨
  ∃ (o:Obj) (its:Array Value) (n:Nat),K.lookup a=some o /\ o.cls = .type "list" /\ o.dict=none /\ o.data = .seq its n /\ its.size <= sizeLine /\ bL xs its.toList
def bQ (K:PySem.W.Frag) (H:Hp) (a:Addr) (xs:List V):Prop :=
 Rd H a (.tup xs) ∨
  ∃ (o:Obj) (its:Array Value) (n:Nat),K.lookup a=some o /\ o.cls = .type "tuple" /\ o.data = .seq its n /\ its.size <= sizeLine /\ bL xs its.toList
def aBq:Value->Option V
 | .none=>some .non
 | .bool b=>some (.bl b)
 | .int i _=>some (.int i)
 | .str x _=>some (.str x)
 | .bytes b _=>some (.byt b)
 | .float b _=>some (.flt b)
 | .ref a=>some (.ref a)
 | .type n=>some (.ty n)
 | _=>none
theorem bJ.abs {x:V}{u:Value} (r:bJ x u):aBq u=some x:=by
 cases x with
 | non=>cases r; rfl
 | bl _=>cases r; rfl
 | int _=>obtain ⟨t,rfl⟩:=r; rfl
 | str _=>obtain ⟨t,rfl⟩:=r; rfl
 | byt _=>obtain ⟨t,rfl⟩:=r; rfl
 | flt _=>obtain ⟨t,rfl⟩:=r; rfl
 | ref _=>cases r; rfl
 | ty _=>cases r; rfl
theorem bJ.inj {x y:V}{u:Value} (r:bJ x u) (q:bJ y u):x=y:=Option.some.inj (r.abs.symm.trans q.abs)
theorem bL.inj:∀ {xs ys:List V}{us:List Value},bL xs us->bL ys us->xs=ys
 | _,_,_,.nil,.nil=>rfl
 | _,_,_,.cons r t,.cons r' t'=>by rw [r.inj r',bL.inj t t']
section
variable {X:Cx}{pins:List (Addr × Obj)}{σ : St}{H:Hp}{s:Shared}{a:Addr}{xs ys:List V}
theorem bR.of {K:PySem.W.Frag} (h:H a=some (.lst xs)):bR K H a xs:=.inl (.inl h)
theorem bQ.of {K:PySem.W.Frag} (h:H a=some (.tup xs)):bQ K H a xs:=.inl (.inl h)
theorem aZ.list (I:aZ X pins σ H s) (h:bR X.K H a xs):∃ its:List Value,bL xs its /\ PlainL s.heap a its.toArray /\ xs.length <= sizeLine:=by
 rcases h with h | ⟨o,its,n,hk,hc,hd,hs,hz,r⟩
 ·obtain ⟨z,its,n,r,e⟩:=h.ok I.hok
  exact ⟨its,r,⟨_,n,e,rfl,rfl,rfl⟩,z⟩
 ·refine ⟨its.toList,r,⟨o,n,I.kIn a o hk,hc,hd,by simpa using hs⟩,?_⟩
  have e:=r.length
  simp only [Array.length_toList] at e
  omega
theorem aZ.tuple (I:aZ X pins σ H s) (h:bQ X.K H a xs):∃ its:List Value,bL xs its /\ IsTup s.heap a its.toArray /\ xs.length <= sizeLine:=by
 rcases h with h | ⟨o,its,n,hk,hc,hs,hz,r⟩
 ·obtain ⟨z,its,r,p⟩:=h.ok I.hok
  exact ⟨its,r,p,z⟩
 ·refine ⟨its.toList,r,⟨o,I.kIn a o hk,hc,n,by simpa using hs⟩,?_⟩
  have e:=r.length
  simp only [Array.length_toList] at e
  omega
theorem aZ.list_inj (I:aZ X pins σ H s) (h:bR X.K H a xs) (h':bR X.K H a ys):xs=ys:=by
 obtain ⟨its,r,⟨o,n,e,_,_,d⟩,_⟩:=I.list h
 obtain ⟨its',r',⟨o',n',e',_,_,d'⟩,_⟩:=I.list h'
 rw [e] at e'; cases e'
 rw [d] at d'
 injection d' with d1 _
 have:its=its':=by simpa using congrArg Array.toList d1
 subst this
 exact r.inj r'
theorem aZ.tuple_inj (I:aZ X pins σ H s) (h:bQ X.K H a xs) (h':bQ X.K H a ys):xs=ys:=by
 obtain ⟨its,r,⟨o,e,_,n,d⟩,_⟩:=I.tuple h
 obtain ⟨its',r',⟨o',e',_,n',d'⟩,_⟩:=I.tuple h'
 rw [e] at e'; cases e'
 rw [d] at d'
 injection d' with d1 _
 have:its=its':=by simpa using congrArg Array.toList d1
 subst this
 exact r.inj r'
end
abbrev Cx.wish (X:Cx) (E:Value->Shared->Prop):Cx:={ X with xe:=E }
abbrev Cx.nox (X:Cx):Cx:=X.wish fun _ _=>False
theorem Cx.Ok.wish {X:Cx} (ok:X.Ok) (E:Value->Shared->Prop):(X.wish E).Ok :=
 ⟨ok.mod,ok.kind,ok.glob,ok.blt,ok.above,ok.inj,ok.has,ok.cab,ok.hd,ok.frames,ok.stk,ok.exf,ok.bs,ok.bsz,ok.noex,ok.exfs,ok.funs,ok.frf⟩
theorem Cx.Ok.unwish {X:Cx}{E:Value->Shared->Prop} (ok:(X.wish E).Ok):X.Ok :=
 ⟨ok.mod,ok.kind,ok.glob,ok.blt,ok.above,ok.inj,ok.has,ok.cab,ok.hd,ok.frames,ok.stk,ok.exf,ok.bs,ok.bsz,ok.noex,ok.exfs,ok.funs,ok.frf⟩
section
variable {X:Cx}{pins:List (Addr × Obj)}{σ : St}{H:Hp}{s:Shared}{E:Value->Shared->Prop}
theorem aZ.wish (I:aZ X pins σ H s) (E:Value->Shared->Prop):aZ (X.wish E) pins σ H s:=⟨I.ok.wish E,I.os,I.bare,I.base,I.loc,I.cell,I.free,I.freeC,I.pin,I.hok,I.len⟩
theorem aZ.unwish (I:aZ (X.wish E) pins σ H s):aZ X pins σ H s:=⟨I.ok.unwish,I.os,I.bare,I.base,I.loc,I.cell,I.free,I.freeC,I.pin,I.hok,I.len⟩
theorem SP.unwish {D:rJ}{f:Flow}{s':Shared} (h:SP (X.wish E) pins D f s'):SP X pins D f s':=by
 cases f with
 | next=>obtain ⟨σ',H',I,q⟩:=h; exact ⟨σ',H',I.unwish,q⟩
 | brk=>obtain ⟨σ',H',I,q⟩:=h; exact ⟨σ',H',I.unwish,q⟩
 | cont=>obtain ⟨σ',H',I,q⟩:=h; exact ⟨σ',H',I.unwish,q⟩
 | ret u=>obtain ⟨v,σ',H',I,r,q⟩:=h; exact ⟨v,σ',H',I.unwish,r,q⟩
theorem PE.nox {e:Expr}{t:TE} (h:PE X.nox e t):PE X e t:=fun pins s σ H Q I hw =>
 wpAny_mono (h pins s σ H Q (I.wish _) hw) (fun _ _ ⟨v,H',I',r,q⟩=>⟨v,H',I'.unwish,r,q⟩) fun _ _ z=>False.elim z
theorem PT.nox {e:Expr}{t:TT} (h:PT X.nox e t):PT X e t:=fun pins s σ H Q I hw =>
 wpAny_mono (h pins s σ H Q (I.wish _) hw) (fun _ _ ⟨H',I',q⟩=>⟨H',I'.unwish,q⟩) fun _ _ z=>False.elim z
theorem rT.nox {st:List Stmt}{t:TS} (h:rT X.nox st t):rT X st t:=fun pins s σ H D I hw =>
 wpAny_mono (h pins s σ H D (I.wish _) hw) (fun _ _ q=>q.unwish) fun _ _ z=>False.elim z
end
section
variable {X:Cx}{st:Stmt}{iH:List Stmt}{t u:TS}{e:Expr}{te:TE}{pos:Pos}
def Vs:TS:=fun D σ H=>D.nx σ H
def aBl (t u:TS):TS:=fun D σ H=>t { D with nx:=u D } σ H
theorem bY:rT X [] Vs:=fun _ _ σ H _ I h=>wpAny_execs_nil ⟨σ,H,I,h⟩
theorem aD (h1:PS X st t) (h2:rT X iH u):rT X (st :: iH) (aBl t u):=by
 intro pins s σ H D I h
 refine wpAny_execs_cons (dU (h1 pins s σ H { D with nx:=u D } I h) fun f s1 q=>?_)
 cases f with
 | next =>
  obtain ⟨σ',H',I',q⟩:=q
  exact h2 pins s1 σ' H' D I' q
 | ret v=>exact q
 | brk=>exact q
 | cont=>exact q
theorem aJ (h1:PS X st t):rT X [st] t:=by
 intro pins s σ H D I h
 refine wpAny_execs_cons (dU (h1 pins s σ H D I h) fun f s1 q=>?_)
 cases f with
 | next=>exact wpAny_execs_nil q
 | ret v=>exact q
 | brk=>exact q
 | cont=>exact q
def QH:TS:=fun D σ H=>D.bk σ H
theorem Kq:PS X (.Break pos) QH:=fun _ _ σ H _ I h=>wpAny_Break ⟨σ,H,I,h⟩
theorem aZ.quiet {pins:List (Addr × Obj)}{σ : St}{H:Hp}{s:Shared} (I:aZ X pins σ H s):interactive X.env=false:=by simp [interactive,I.ok.kind]
def R5 (te:TE):TS:=fun D σ H=>te σ H fun _ H1=>D.nx σ H1
theorem gY (he:PE X e te) (hs:swapsWith e none pos.line X.env=pure false:=by rfl):PS X (.Expr e pos) (R5 te):=by
 intro pins s σ H D I h
 exact wpAny_Expr_any (dU (he pins s σ H _ I h) fun v s1 ⟨x,H1,I1,r1,q1⟩=>⟨σ,H1,I1,q1⟩) I.quiet hs
def Ua (te:TE):TS:=fun D σ H=>te σ H D.rt
theorem aQ (he:PE X e te):PS X (.Return (some e) pos) (Ua te):=by
 intro pins s σ H D I h
 exact wpAny_Return_some (dU (he pins s σ H _ I h) fun v s1 ⟨x,H1,I1,r1,q1⟩=>⟨x,σ,H1,I1,r1,q1⟩)
def Zg (c:TT) (t u:TS):TS:=fun D σ H=>c σ H fun b H1=>if b=true then t D σ H1 else u D σ H1
theorem dW {c:Expr}{a b:List Stmt}{tc:TT} (hc:PT X c tc) (ha:rT X a t) (hb:rT X b u):PS X (.If c a b pos) (Zg tc t u):=by
 intro pins s σ H D I h
 refine wpAny_If (dU (hc pins s σ H _ I h) fun d s1 ⟨H1,I1,q1⟩=>?_)
 cases d with
 | true=>exact ha pins s1 σ H1 D I1 q1
 | false=>exact hb pins s1 σ H1 D I1 q1
end
abbrev TG:=V->St->Hp->(St->Hp->Prop)->Prop
abbrev Oo:=List V->St->Hp->(St->Hp->Prop)->Prop
def PG (X:Cx) (target:Expr) (t:TG):Prop :=
 ∀ (pins:List (Addr × Obj)) (s:Shared) (σ : St) (H:Hp) (v:V) (u:Value) (Q:St->Hp->Prop),aZ X pins σ H s->bJ v u->t v σ H Q ->
  wpAny (model X.prog X.w) X.A (assign target X.env u) (fun _ s'=>∃ σ' H',aZ X pins σ' H' s' /\ Q σ' H') X.xe s
def WM (X:Cx) (ts:List Expr) (t:Oo):Prop :=
 ∀ (pins:List (Addr × Obj)) (s:Shared) (σ : St) (H:Hp) (vs:List V) (us:List Value) (Q:St->Hp->Prop),aZ X pins σ H s->bL vs us->t vs σ H Q ->
  wpAny (model X.prog X.w) X.A (assignInOrder ((assignEach ts X.env).map (·.2)) us) (fun _ s'=>∃ σ' H',aZ X pins σ' H' s' /\ Q σ' H') X.xe s
abbrev Q9:=V->V->V->Hp->(Hp->Prop)->Prop
def S8 (X:Cx) (t:Q9):Prop :=
 ∀ (pins:List (Addr × Obj)) (s:Shared) (σ : St) (H:Hp) (o i v:V) (ov iv u:Value) (Q:Hp->Prop),aZ X pins σ H s->bJ o ov->bJ i iv->bJ v u->t o i v H Q ->
  wpAny (model X.prog X.w) X.A (setItem ov iv u) (fun _ s'=>∃ H',aZ X pins σ H' s' /\ Q H') X.xe s
section
variable {X:Cx}{pos:Pos}
def uB (i:Nat):TG:=fun v σ H Q=>Q (σ.set i (some v)) H
theorem aW {i:Nat}{x:Str} (hN:X.N.Nodup) (hi:X.N[i]? = some x) (hx:Xi X.env.scope x) (hf:X.fn x=true ∨ X.env.scope.names.lookup x=some .local:=by first | exact .inl rfl | exact .inr rfl | assumption):PG X (.Name x pos) (uB i):=by
 intro pins s σ H v u Q I r h
 exact wpAny_assign_Name (pW I hN hi hx r (fun s' I'=>⟨_,H,I',h⟩) hf)
def aAd:Oo:=fun vs σ H Q=>vs=[] /\ Q σ H
def VF (t:TG) (u:Oo):Oo:=fun vs σ H Q=>∃ v r,vs=v :: r /\ t v σ H fun σ' H'=>u r σ' H' Q
theorem eG:WM X [] aAd:=by
 intro pins s σ H vs us Q I r h
 obtain ⟨e,h⟩:=h
 subst e
 cases r
 exact assignInOrder_nil ⟨σ,H,I,h⟩
theorem bH {e:Expr}{es:List Expr}{t:TG}{u:Oo} (h1:PG X e t) (h2:WM X es u)
  (hs:(assignEach (e :: es) X.env).map (·.2)=assign e X.env :: (assignEach es X.env).map (·.2):=by rfl):WM X (e :: es) (VF t u):=by
 intro pins s σ H vs us Q I r h
 obtain ⟨v,vr,e1,h⟩:=h
 subst e1
 cases r with
 | cons r rr =>
  rw [hs]
  refine assignInOrder_cons (dU (h1 pins s σ H _ _ _ I r h) fun _ s1 ⟨σ1,H1,I1,q1⟩=>?_)
  exact h2 pins s1 σ1 H1 _ _ Q I1 rr q1
def UV (K:PySem.W.Frag) (n:Nat) (t:Oo):TG:=fun v σ H Q=>∃ a xs,v = .ref a /\ bQ K H a xs /\ xs.length=n /\ t xs σ H Q
theorem yS {es:List Expr}{k:Nat}{t:Oo}{n:Nat} (hc:X.calm=true) (h:WM X es t)
  (hn:(assignEach es X.env).length=n:=by rfl) (hst:(assignEach es X.env).findIdx? (·.1)=none:=by rfl):PG X (.Tuple es k pos) (UV X.K n t):=by
 intro pins s σ H v u Q I r hw
 obtain ⟨a,xs,e1,hq,hl,hw⟩:=hw
 subst e1
 cases r
 obtain ⟨its,rv,ht,hz⟩:=I.tuple hq
 refine assign_Tuple_tuple (I.ok.hd hc) ht (by simp [hn,<- hl,rv.length]) hst fun h' hx=>?_
 have I1:aZ X pins σ H { s with heap:=h' }:=I.kept (t':=s.toks) fun b o e=>hx b o (Nat.ne_of_lt (Heap.lt_size e)) e
 exact h pins _ σ H xs _ Q I1 (by simpa using rv) hw
def Zz (to ti:TE) (t:Q9):TG:=fun v σ H Q=>to σ H fun o H1=>ti σ H1 fun i H2=>t o i v H2 fun H3=>Q σ H3
theorem Em {o i:Expr}{to ti:TE}{t:Q9} (ho:PE X o to) (hi:PE X i ti) (hs:S8 X t)
  (ha:∀ v,assign (.Subscript o i pos) X.env v=(do
   let ov <- holding [v] (eval o X.env)
   let iv <- holding [v,ov] (eval i X.env)
   standAt pos
   holding [v,ov,iv] (setItem ov iv v)
   release [v,ov,iv] []):=by intro _; rfl):PG X (.Subscript o i pos) (Zz to ti t):=by
 intro pins s σ H v u Q I r h
 rw [ha]
 refine wpAny_bind (wpAny_holding (dU (ho pins s σ H _ I h) fun ov s1 ⟨x,H1,I1,r1,q1⟩=>?_))
 refine wpAny_bind (wpAny_holding (dU (hi pins s1 σ H1 _ I1 q1) fun iv s2 ⟨y,H2,I2,r2,q2⟩=>?_))
 refine wpAny_bind (wpAny_standAt (wpAny_bind (wpAny_holding (dU (hs pins s2 σ H2 x y v ov iv u _ I2 r1 r2 r q2) fun _ s3 ⟨H3,I3,q3⟩=>?_))))
 exact wpAny_release ⟨σ,H3,I3,q3⟩
def Qo (te:TE) (g:TG):TS:=fun D σ H=>te σ H fun x H1=>g x σ H1 D.nx
theorem Dt {tg e:Expr}{te:TE}{g:TG} (he:PE X e te) (hg:PG X tg g) (hs:swapsWithSole [tg] e pos.line X.env=pure false:=by rfl) (hw:swappedStores [tg] e X.env=pure none:=by rfl)
  (h1:(assignEach [tg] X.env).map (·.2)=[assign tg X.env]:=by rfl):PS X (.Assign [tg] e pos) (Qo te g):=by
 intro pins s σ H D I h
 refine wpAny_Assign_stores (dU (he pins s σ H _ I h) fun v s1 ⟨x,H1,I1,r1,q1⟩=>?_) hs hw
 rw [h1]
 exact dU (hg pins s1 σ H1 x v _ I1 r1 q1) fun _ s2 q=>q
theorem aP {i:Nat}{x:Str}{e:Expr}{te:TE}{pos':Pos} (hN:X.N.Nodup) (hi:X.N[i]? = some x) (hx:Xi X.env.scope x) (he:PE X e te) (hs:swapsWith e (some (.Name x pos')) pos.line X.env=pure false:=by rfl) (hf:X.fn x=true ∨ X.env.scope.names.lookup x=some .local:=by first | exact .inl rfl | exact .inr rfl | assumption) :
  PS X (.Assign [.Name x pos'] e pos) (Qo te (uB i)):=by
 intro pins s σ H D I h
 refine wpAny_Assign_Name (dU (he pins s σ H _ I h) fun v s1 ⟨y,H1,I1,r1,q1⟩=>?_) hs
 exact pW I1 hN hi hx r1 (fun s2 I2=>⟨_,H1,I2,q1⟩) hf
def ZZ (i j:Nat) (ta:TA):TS:=fun D σ H=>ta σ H fun vs H1=>∃ v w,vs=[v,w] /\ D.nx ((σ.set i (some v)).set j (some w)) H1
theorem Py {i j:Nat}{x y:Str}{a b:Expr}{ta:TA}{px py pt:Pos}{kt k2 pt2} (hc:X.calm=true) (hN:X.N.Nodup) (hi:X.N[i]? = some x) (hj:X.N[j]? = some y) (hij:i ≠ j)
  (hx:X.env.scope.names.lookup x=some .local) (hy:X.env.scope.names.lookup y=some .local) (ha:PA X [a,b] ta)
  (hw:swappedStores [.Tuple [.Name x px,.Name y py] kt pt] (.Tuple [a,b] k2 pt2) X.env=pure (some [x,y]))
  (hs:swapsWithSole [.Tuple [.Name x px,.Name y py] kt pt] (.Tuple [a,b] k2 pt2) pos.line X.env=pure false:=by rfl) :
  PS X (.Assign [.Tuple [.Name x px,.Name y py] kt pt] (.Tuple [a,b] k2 pt2) pos) (ZZ i j ta):=by
 intro pins s σ H D I h
 rw [exec_Assign_arm]
 refine wpAny_bind (wpAny_standAt ?_)
 rw [hs]
 refine wpAny_bind (wpAny_pure ?_)
 rw [if_neg (by decide)]
 refine wpAny_bind (Tuple_ (dU (ha _ pins s σ H _ I h) fun us s1 ⟨vs,H1,I1,r1,q1⟩=>?_))
 obtain ⟨v,w,e1,q1⟩:=q1
 subst e1
 obtain ⟨u1,u2,rfl,rv,rw'⟩ : ∃ u1 u2,us=[u1,u2] /\ bJ v u1 /\ bJ w u2:=by
  cases r1 with
  | cons p q =>
   cases q with
   | cons p' q' =>
    cases q'
    exact ⟨_,_,rfl,p,p'⟩
 refine wpAny_newObj_type ?_ (by show 2 <= sizeLine; decide)
 have I2:aZ X pins σ H1 { s1 with heap:=s1.heap.push { cls:=.type "tuple",data:=.seq [u1,u2].toArray } }:=I1.kept (t':=s1.toks) fun b o e=>Heap.get?_push_of_some _ e
 rw [hw]
 refine wpAny_bind (wpAny_pure ?_)
 show wpAny (model X.prog X.w) X.A (do rule "assign.swapped-stores"; let items <- unpackItems (.ref s1.heap.objs.size) 2 none; assignInOrder [fun v=>bindName X.env y v,fun v=>bindName X.env x v] items.reverse; pure Flow.next) _ _ _
 refine wpAny_bind (wpAny_rule (wpAny_bind (unpackItems_tuple (items:=#[u1,u2]) (I.ok.hd hc) (IsTup.new s1.heap _) fun h' hx'=>?_)))
 have I3:=I2.kept (h':=h') (t':=s1.toks) fun b o e=>hx' b o (Nat.ne_of_lt (Heap.lt_size e)) e
 show wpAny _ _ (assignInOrder [fun v=>bindName X.env y v,fun v=>bindName X.env x v] [u2,u1] >>= fun _=>pure Flow.next) _ _ _
 refine wpAny_bind (assignInOrder_cons (wpAny_bindName (pW I3 hN hj (.inl hy) rw' (fun s2 I4=>?_) (.inr hy))))
 refine assignInOrder_cons (wpAny_bindName (pW I4 hN hi (.inl hx) rv (fun s3 I5=>assignInOrder_nil (wpAny_pure ?_)) (.inr hx)))
 rw [List.set_comm _ _ (Ne.symm hij)] at I5
 exact ⟨_,H1,I5,q1⟩
end
section
variable {X:Cx}{pos:Pos}
def Ky (c:TT) (tb:TS):TS:=fun D σ H=>∃ W:Nat->St->Hp->Prop,(∃ m,W m σ H) /\ ∀ m σ H,W m σ H ->
 c σ H fun b H1=>if b=true then ∃ N:St->Hp->Prop,(∀ σ' H',N σ' H'->∃ m',m' < m /\ W m' σ' H') /\ tb { D with nx:=N,ct:=N,bk:=D.nx } σ H1 else D.nx σ H1
theorem Bg {c:Expr}{body:List Stmt}{tc:TT}{tb:TS} (hp:PassesOwn (model X.prog X.w) X.A X.env X.xe) (hc:PT X c tc) (hb:rT X body tb):PS X (.While c body [] pos) (Ky tc tb):=by
 intro pins s σ H D I h
 obtain ⟨W,⟨m0,w0⟩,turn⟩:=h
 refine wpAny_While (codeAny_whileLoop (fun n s'=>∃ σ' H',aZ X pins σ' H' s' /\ W n σ' H') ?_ m0 ⟨σ,H,I,w0⟩)
 rintro n s1 ⟨σ1,H1,I1,w1⟩
 refine wpAny_passesOwn hp (dU (hc pins s1 σ1 H1 _ I1 (turn n σ1 H1 w1)) fun b s2 ⟨H2,I2,q2⟩=>?_)
 cases b with
 | true =>
  obtain ⟨N,hN,q2⟩:=q2
  rw [if_pos rfl]
  refine wpAny_passesOwn hp (dU (hb pins s2 σ1 H2 _ I2 q2) fun f s3 q3=>?_)
  cases f with
  | next =>
   obtain ⟨σ3,H3,I3,n3⟩:=q3
   obtain ⟨m',hm,w3⟩:=hN σ3 H3 n3
   exact ⟨m',hm,σ3,H3,I3,w3⟩
  | cont =>
   obtain ⟨σ3,H3,I3,n3⟩:=q3
   obtain ⟨m',hm,w3⟩:=hN σ3 H3 n3
   exact ⟨m',hm,σ3,H3,I3,w3⟩
  | brk=>exact q3
  | ret v=>exact q3
 | false =>
  rw [if_neg Bool.false_ne_true]
  exact wpAny_execs_nil ⟨σ1,H2,I2,q2⟩
end
structure It where
 go:Nat->Hp->Prop
 yld:Nat->Hp->V->Hp->Prop
 stop:Nat->Hp->Prop
def jZ (X:Cx) (pins:List (Addr × Obj)) (H:Hp) (b:Addr):Prop :=
 H b=none /\ b ≠ X.env.locals /\ b ∉ X.fs /\ (b ∈ X.ex ∨ X.s₀.heap.objs.size <= b) /\ (∀ x c,X.env.cells.lookup x=some c->c ≠ b) /\ ∀ p ∈ X.pn ++ pins,p.1 ≠ b
theorem aZ.fpOk {X:Cx}{pins:List (Addr × Obj)}{σ : St}{H H':Hp}{s:Shared}{b:Addr} (I:aZ X pins σ H s) (hb:s.heap.objs.size <= b) (hn:H' b=none):jZ X pins H' b:=by
 refine ⟨hn,Nat.ne_of_gt (Nat.lt_of_lt_of_le I.lt hb),I.nofs hb,.inr (Nat.le_trans I.sz hb),fun x c e z=>?_,fun p hp z=>?_⟩
 ·obtain ⟨v,q⟩:=I.cell x c e
  exact absurd (Nat.lt_of_lt_of_le q.lt (by rw [z]; exact hb)) (Nat.lt_irrefl _)
 ·exact absurd (Nat.lt_of_lt_of_le (Heap.lt_size (I.pin p hp).1) (by rw [z]; exact hb)) (Nat.lt_irrefl _)
structure Dy (P:Program) (w:World) (K:PySem.W.Frag) (tg:Expr) (J:It) (fp:List Addr) (it:Addr) (tn:Nat->Heap->Prop):Prop where
 mem:it ∈ fp
 obj:∀ i h,tn i h->∀ b ∈ fp,∃ o,h.get? b=some o /\ ∀ v,o.data ≠ .cell v
 keep:∀ i h h',tn i h->(∀ b ∈ fp,∀ o,h.get? b=some o->h'.get? b=some o)->tn i h'
 item:∀ (X:Cx),X.prog=P->X.w=w->X.K=K->X.calm=true->∀ (i:Nat) (pins:List (Addr × Obj)) (s:Shared) (σ : St) (H:Hp) (E:Value->Shared->Prop),aZ X pins σ H s->(∀ b ∈ fp,jZ X pins H b)->tn i s.heap->J.go i H ->
  wpAny (model P w) X.A (pyNext (.ref it)) (fun r s1=>∃ u,r=some u ∧
   wpAny (model P w) X.A (letOwnedTupleGo tg (.ref it) u) (fun _ s2=>∃ x H',aZ X pins σ H' s2 /\ bJ x u /\ J.yld i H x H' /\ tn (i + 1) s2.heap /\ ∀ b ∈ fp,H' b=none) E s1) E s
 done:∀ (X:Cx),X.prog=P->X.w=w->X.K=K->X.calm=true->∀ (i:Nat) (pins:List (Addr × Obj)) (s:Shared) (σ : St) (H:Hp) (E:Value->Shared->Prop),aZ X pins σ H s->(∀ b ∈ fp,jZ X pins H b)->tn i s.heap->J.stop i H ->
  wpAny (model P w) X.A (pyNext (.ref it)) (fun r s1=>r=none /\ aZ X pins σ H s1) E s
 self:∀ (A:Around) (i:Nat) (s:Shared) (Q:Value->Shared->Prop) (E:Value->Shared->Prop),tn i s.heap->Q (.ref it) s->wpAny (model P w) A (pyIter (.ref it)) Q E s
abbrev TI:=St->Hp->(It->Hp->Prop)->Prop
def PIE (X:Cx) (pins:List (Addr × Obj)) (σ : St) (tg:Expr) (R:It->Hp->Prop) (itv:Value) (s2:Shared):Prop :=
 ∃ (it:Addr) (fp:List Addr) (tn:Nat->Heap->Prop) (J:It) (H':Hp),itv = .ref it /\ aZ X pins σ H' s2 /\ Dy X.prog X.w X.K tg J fp it tn /\ tn 0 s2.heap /\ (∀ b ∈ fp,jZ X pins H' b) /\ R J H'
def PI (X:Cx) (tg iter:Expr) (wi:TI):Prop :=
 ∀ (pins:List (Addr × Obj)) (s:Shared) (σ : St) (H:Hp) (R:It->Hp->Prop),aZ X pins σ H s->wi σ H R ->
  wpAny (model X.prog X.w) X.A (eval iter X.env) (fun v s1=>wpAny (model X.prog X.w) X.A (pyIter v) (PIE X pins σ tg R) X.xe s1) X.xe s
theorem BW {M:Model}{A:Around}{E:Value->Shared->Prop}{s:Shared}{tg:Expr}{it:Addr}{u:Value}{o:Obj}{n:String}{vs:Array Value}{Q:Unit->Shared->Prop} (ho:s.heap.get? it=some o) (hc:o.cls = .type n) (hd:o.data = .fields vs)
  (hn:["enumerate","zip","dict_itemiterator","dict_reverseitemiterator","odict_iterator","itertools.zip_longest","itertools.pairwise"].contains n=false) (hQ:Q () s):wpAny M A (letOwnedTupleGo tg (.ref it) u) Q E s:=by
 unfold letOwnedTupleGo
 cases tg <;> first
  | exact wpAny_pure hQ
  | (cases u <;> first
    | exact wpAny_pure hQ
    | (refine wpAny_bind (wpAny_load ho ?_); rw [hc,hd]; show wpAny M A (if (["enumerate","zip","dict_itemiterator","dict_reverseitemiterator","odict_iterator","itertools.zip_longest","itertools.pairwise"].contains n && vs[0]? == some (rawInt _))=true then _ else _) Q E s; rw [if_neg (by intro h; rw [hn,Bool.false_and] at h; cases h)]; exact wpAny_pure hQ))
def Qy (K:PySem.W.Frag) (a:Addr):It :=
 ⟨fun i H=>∃ xs x,bR K H a xs /\ xs[i]? = some x,fun i H x H'=>H'=H /\ ∀ xs,bR K H a xs->xs[i]? = some x,fun i H=>∃ xs,bR K H a xs /\ xs.length <= i⟩
def Itt (K:PySem.W.Frag) (a:Addr):It :=
 ⟨fun i H=>∃ xs x,bQ K H a xs /\ xs[i]? = some x,fun i H x H'=>H'=H /\ ∀ xs,bQ K H a xs->xs[i]? = some x,fun i H=>∃ xs,bQ K H a xs /\ xs.length <= i⟩
def Qi (lo:Int) (n:Nat):It:=⟨fun i _=>i < n,fun i H x H'=>H'=H /\ x = .int (lo + i),fun i _=>n <= i⟩
theorem Hn {P:Program}{w:World}{K:PySem.W.Frag}{tg:Expr} (a it:Addr):Dy P w K tg (Qy K a) [it] it (fun i h=>h.IsListIter it a i) where
 mem:=by simp
 obj:=fun i h st b hb=>by
  have e:b=it:=by simpa using hb
  subst e
  obtain ⟨o,e,c,d⟩:=st
  exact ⟨o,e,fun v z=>by rw [d] at z; cases z⟩
 keep:=fun i h h' st k=>st.at fun o e=>k it (by simp) o e
 item:=by
  intro X hP hw hK hc i pins s σ H E I hf st hg
  subst hP hw hK
  obtain ⟨xs,x,hq,hx⟩:=hg
  obtain ⟨its,rv,p,hz⟩:=I.list hq
  obtain ⟨u,hu,ru⟩:=rv.get hx
  obtain ⟨f0,f1,f2,f3,f4,f5⟩:=hf it (by simp)
  refine wpAny_pyNext_list_item st p.isList (x:=u) (by simpa using hu) fun h' st' sb=>?_
  have I1:aZ X pins σ H { s with heap:=h' }:=I.turned (t':=s.toks) (fun b o hb e=>(sb.2 b hb).trans e) f0 f1 f3 f4 f5
  obtain ⟨o,e,c,d⟩:=id st'
  exact ⟨u,rfl,BW (s:={ s with heap:=h' }) e c d (by decide) ⟨x,H,I1,ru,⟨rfl,fun ys hy=>by rw [I.list_inj hy hq]; exact hx⟩,st',fun b hb=>(hf b hb).1⟩⟩
 done:=by
  intro X hP hw hK hc i pins s σ H E I hf st hg
  subst hP hw hK
  obtain ⟨xs,hq,hx⟩:=hg
  obtain ⟨its,rv,p,hz⟩:=I.list hq
  obtain ⟨f0,f1,f2,f3,f4,f5⟩:=hf it (by simp)
  have hl:=rv.length
  exact wpAny_pyNext_list_end (I.ok.hd hc) st p.isList (by simp; omega) fun h' eb=>⟨rfl,I.turned (t':=s.toks) (fun b o hb e=>eb b o hb e) f0 f1 f3 f4 f5⟩
 self:=fun _ _ _ _ _ st h=>wpAny_pyIter_listiter st h
theorem Ej {P:Program}{w:World}{K:PySem.W.Frag}{tg:Expr} (a it:Addr):Dy P w K tg (Itt K a) [it] it (fun i h=>h.IsTupleIter it a i) where
 mem:=by simp
 obj:=fun i h st b hb=>by
  have e:b=it:=by simpa using hb
  subst e
  obtain ⟨o,e,c,d⟩:=st
  exact ⟨o,e,fun v z=>by rw [d] at z; cases z⟩
 keep:=fun i h h' st k=>st.at fun o e=>k it (by simp) o e
 item:=by
  intro X hP hw hK hc i pins s σ H E I hf st hg
  subst hP hw hK
  obtain ⟨xs,x,hq,hx⟩:=hg
  obtain ⟨its,rv,p,hz⟩:=I.tuple hq
  obtain ⟨u,hu,ru⟩:=rv.get hx
  obtain ⟨f0,f1,f2,f3,f4,f5⟩:=hf it (by simp)
  refine wpAny_pyNext_tuple_item st (show s.heap.IsTuple a its.toArray from p) (x:=u) (by simpa using hu) fun h' st' sb=>?_
  have I1:aZ X pins σ H { s with heap:=h' }:=I.turned (t':=s.toks) (fun b o hb e=>(sb.2 b hb).trans e) f0 f1 f3 f4 f5
  obtain ⟨o,e,c,d⟩:=id st'
  exact ⟨u,rfl,BW (s:={ s with heap:=h' }) e c d (by decide) ⟨x,H,I1,ru,⟨rfl,fun ys hy=>by rw [I.tuple_inj hy hq]; exact hx⟩,st',fun b hb=>(hf b hb).1⟩⟩
 done:=by
  intro X hP hw hK hc i pins s σ H E I hf st hg
  subst hP hw hK
  obtain ⟨xs,hq,hx⟩:=hg
  obtain ⟨its,rv,p,hz⟩:=I.tuple hq
  obtain ⟨f0,f1,f2,f3,f4,f5⟩:=hf it (by simp)
  have hl:=rv.length
  exact wpAny_pyNext_tuple_end (I.ok.hd hc) st (show s.heap.IsTuple a its.toArray from p) (by simp; omega) fun h' eb=>⟨rfl,I.turned (t':=s.toks) (fun b o hb e=>eb b o hb e) f0 f1 f3 f4 f5⟩
 self:=fun _ _ _ _ _ st h=>wpAny_pyIter_tupleiter st h
theorem Dp {P:Program}{w:World}{K:PySem.W.Frag}{tg:Expr} (it:Addr) (lo:Int) (n:Nat):Dy P w K tg (Qi lo n) [it] it (fun i h=>IsRangeIter h it (lo + (i:Nat) * 1) ((n:Int) - (i:Nat)) 1) where
 mem:=by simp
 obj:=fun i h st b hb=>by
  have e:b=it:=by simpa using hb
  subst e
  exact ⟨_,st,fun v z=>by
   have z':Data.fields _=Data.cell v:=z
   cases z'⟩
 keep:=fun i h h' st k=>k it (by simp) _ st
 item:=by
  intro X hP hw hK hc i pins s σ H E I hf st hg
  subst hP hw hK
  obtain ⟨f0,f1,f2,f3,f4,f5⟩:=hf it (by simp)
  have W:=Walks.range (prog:=X.prog) (w:=X.w) (I.ok.hd hc) it lo 1 n
  refine W.item i s _ _ hg st fun v h' tk hv st' kk=>?_
  obtain ⟨t,rfl⟩:=hv
  have I1:aZ X pins σ H { s with heap:=h',toks:=tk }:=I.turned (fun b o hb e=>kk b o (by simpa using hb) e) f0 f1 f3 f4 f5
  refine ⟨_,rfl,BW (s:={ s with heap:=h',toks:=tk }) (n:="range_iterator") st' rfl rfl (by decide) ⟨.int (lo + i),H,I1,⟨t,?_⟩,⟨rfl,rfl⟩,st',fun b hb=>(hf b hb).1⟩⟩
  rw [Int.mul_one]
 done:=by
  intro X hP hw hK hc i pins s σ H E I hf st hg
  subst hP hw hK
  obtain ⟨f0,f1,f2,f3,f4,f5⟩:=hf it (by simp)
  exact wpAny_pyNext_range_end (I.ok.hd hc) st (by have:n <= i:=hg; omega) fun h' eb=>⟨rfl,I.turned (t':=s.toks) (fun b o hb e=>eb b o hb e) f0 f1 f3 f4 f5⟩
 self:=fun _ _ _ _ _ st h=>wpAny_pyIter_rangeiter st h
end L2
namespace L2
open PySem PySem.Spec PyProof.Rows
section
variable {X:Cx}{tg:Expr}
def Xf (K:PySem.W.Frag) (tl:TE):TI:=fun σ H R=>tl σ H fun x H1=>∃ a,x = .ref a /\ (∃ xs,bR K H1 a xs) /\ R (Qy K a) H1
def aAi (K:PySem.W.Frag) (tl:TE):TI:=fun σ H R=>tl σ H fun x H1=>∃ a,x = .ref a /\ (∃ xs,bQ K H1 a xs) /\ R (Itt K a) H1
theorem cT {l:Expr}{tl:TE} (hl:PE X l tl):PI X tg l (Xf X.K tl):=by
 intro pins s σ H R I h
 refine dU (hl pins s σ H _ I h) fun v s1 ⟨x,H1,I1,r1,q1⟩=>?_
 obtain ⟨a,e,⟨xs,hq⟩,q⟩:=q1
 subst e
 cases r1
 obtain ⟨its,rv,p,hz⟩:=I1.list hq
 refine wpAny_pyIter_list p.isList ?_
 refine ⟨s1.heap.objs.size,[s1.heap.objs.size],_,_,H1,rfl,I1.kept (t':=s1.toks) fun b o e=>Heap.get?_push_of_some _ e,Hn a _,⟨_,Heap.get?_push_size _ rfl,rfl,rfl⟩,fun b hb=>?_,q⟩
 have e:b=s1.heap.objs.size:=by simpa using hb
 subst e
 exact I1.fpOk (Nat.le_refl _) (I1.hok.fresh (Nat.le_refl _))
theorem Ew {l:Expr}{tl:TE} (hl:PE X l tl):PI X tg l (aAi X.K tl):=by
 intro pins s σ H R I h
 refine dU (hl pins s σ H _ I h) fun v s1 ⟨x,H1,I1,r1,q1⟩=>?_
 obtain ⟨a,e,⟨xs,hq⟩,q⟩:=q1
 subst e
 cases r1
 obtain ⟨its,rv,p,hz⟩:=I1.tuple hq
 refine wpAny_pyIter_tuple (show s1.heap.IsTuple a its.toArray from p) ?_
 refine ⟨s1.heap.objs.size,[s1.heap.objs.size],_,_,H1,rfl,I1.kept (t':=s1.toks) fun b o e=>Heap.get?_push_of_some _ e,Ej a _,⟨_,Heap.get?_push_size _ rfl,rfl,rfl⟩,fun b hb=>?_,q⟩
 have e:b=s1.heap.objs.size:=by simpa using hb
 subst e
 exact I1.fpOk (Nat.le_refl _) (I1.hok.fresh (Nat.le_refl _))
theorem J1 {pins:List (Addr × Obj)}{σ : St}{H:Hp}{s:Shared}{R:It->Hp->Prop}{E:Value->Shared->Prop}{lo hi:Int}{t u v:Tok}{tk:Nat} (I:aZ X pins σ H s) (h1:-(2 ^ 62) <= lo) (h2:lo < 2 ^ 62) (h3:-(2 ^ 62) <= hi) (h4:hi < 2 ^ 62)
  (q:R (Qi lo (hi - lo).toNat) H):wpAny (model X.prog X.w) X.A (pyIter (.ref s.heap.objs.size)) (PIE X pins σ tg R) E { s with heap:=s.heap.push { cls:=.type "range",data:=.fields #[.int lo t,.int hi u,.int 1 v] },toks:=tk }:=by
 refine wpAny_pyIter_range (IsRange.new ..) (small_one h1 h2 h3 h4) ?_
 have I1:aZ X pins σ H { s with heap:=s.heap.push { cls:=.type "range",data:=.fields #[.int lo t,.int hi u,.int 1 v] },toks:=tk }:=I.kept fun b o e=>Heap.get?_push_of_some _ e
 refine ⟨(s.heap.push { cls:=.type "range",data:=.fields #[.int lo t,.int hi u,.int 1 v] }).objs.size,[(s.heap.push { cls:=.type "range",data:=.fields #[.int lo t,.int hi u,.int 1 v] }).objs.size],_,_,H,rfl,
  I1.kept (t':=tk) fun b o e=>Heap.get?_push_of_some _ e,Dp _ lo (hi - lo).toNat,?_,fun b hb=>?_,q⟩
 ·have e1:lo + ((0:Nat):Int) * 1=lo:=by simp
  have e2:(((hi - lo).toNat:Nat):Int) - ((0:Nat):Int)=Builtin.Range.rangeSize lo hi 1:=by rw [rangeSize_one]; split <;> omega
  show IsRangeIter _ _ (lo + ((0:Nat):Int) * 1) ((((hi - lo).toNat:Nat):Int) - ((0:Nat):Int)) 1
  rw [e1,e2]
  exact Heap.get?_push_size _ rfl
 ·have e:b=(s.heap.push { cls:=.type "range",data:=.fields #[.int lo t,.int hi u,.int 1 v] }).objs.size:=by simpa using hb
  subst e
  exact I1.fpOk (Nat.le_refl _) (I1.hok.fresh (Nat.le_refl _))
def Xg (ta:TA):TI:=fun σ H R=>ta σ H fun vs H1=>∃ j:Int,vs=[.int j] /\ -(2 ^ 62) <= j /\ j < 2 ^ 62 /\ R (Qi 0 j.toNat) H1
theorem gQ {a:Expr}{ta:TA}{p pos:Pos} (hg:Gl X "range") (hm:X.mg "range" = none) (ha:PA X [a] ta) (hs:starEach [a] X.env=[(false,eval a X.env)]:=by rfl):PI X tg (.Call (.Name "range" p) [a] [] pos) (Xg ta):=by
 intro pins s σ H R I h
 refine Call_ (qO I hg hm boot_range (PyProof.Rows.callWith_type1 (dU (ha pos pins s σ H _ I h) fun us s1 ⟨vs,H1,I1,r1,q1⟩=>?_) hs rfl))
 obtain ⟨j,e,q1,q2,q⟩:=q1
 subst e
 cases r1 with
 | cons r rr =>
  cases rr
  obtain ⟨t,rfl⟩:=r
  exact call_range_1 (J1 I1 (by omega) (by omega) q1 q2 (by simpa using q))
def ZC (wi:TI) (g:TG) (tb:TS):TS:=fun D σ H=>wi σ H fun J H1=>∃ W:Nat->Nat->St->Hp->Prop,(∃ m,W 0 m σ H1) /\ ∀ i m σ H,W i m σ H ->
 (J.stop i H /\ D.nx σ H) ∨ (J.go i H /\ ∃ N:St->Hp->Prop,(∀ σ' H',N σ' H'->∃ m',m' < m /\ W (i + 1) m' σ' H') /\ ∀ x H',J.yld i H x H'->g x σ H' fun σ2 H2=>tb { D with nx:=N,ct:=N,bk:=D.nx } σ2 H2)
def uU (fp:List Addr) (h:Heap):List (Addr × Obj):=fp.filterMap fun b=>(h.get? b).map fun o=>(b,o)
theorem lD {fp:List Addr}{h:Heap}{b:Addr}{o:Obj} (hb:b ∈ fp) (e:h.get? b=some o):(b,o) ∈ uU fp h:=List.mem_filterMap.mpr ⟨b,hb,by rw [e]; rfl⟩
theorem Ig {fp:List Addr}{h:Heap}{p:Addr × Obj} (hp:p ∈ uU fp h):p.1 ∈ fp /\ h.get? p.1=some p.2:=by
 obtain ⟨b,hb,e⟩:=List.mem_filterMap.mp hp
 cases q:h.get? b with
 | none=>rw [q] at e; cases e
 | some o =>
  rw [q] at e
  have e':(b,o)=p:=Option.some.inj e
  subst e'
  exact ⟨hb,q⟩
theorem aZ.pinned {pins:List (Addr × Obj)}{σ : St}{H:Hp}{s:Shared}{fp:List Addr} (I:aZ X pins σ H s) (hf:∀ b ∈ fp,jZ X pins H b) (ho:∀ b ∈ fp,∃ o,s.heap.get? b=some o /\ ∀ v,o.data ≠ .cell v):aZ X (pins ++ uU fp s.heap) σ H s :=
 I.pins_of fun p hp=>(List.mem_append.mp hp).elim (fun z=>I.pin p (List.mem_append_right _ z)) fun z=>by
  obtain ⟨hb,e⟩:=Ig z
  obtain ⟨f0,f1,f2,_⟩:=hf p.1 hb
  obtain ⟨o,e',d⟩:=ho p.1 hb
  rw [e] at e'; cases e'
  exact ⟨e,f0,f1,f2,d⟩
theorem aZ.unpinned {pins pl:List (Addr × Obj)}{σ : St}{H:Hp}{s:Shared} (I:aZ X (pins ++ pl) σ H s):aZ X pins σ H s:=I.pins_of fun p hp=>I.pin p (List.mem_append_right _ (List.mem_append_left _ hp))
theorem jK {iter:Expr}{body:List Stmt}{wi:TI}{g:TG}{tb:TS}{pos:Pos} (hp:PassesOwn (model X.prog X.w) X.A X.env X.xe) (hc:X.calm=true) (hi:PI X tg iter wi) (hg:PG X tg g) (hb:rT X body tb)
  (hs:∀ x,foldedSetIterable iter X.env x=pure x:=by intro _; rfl):PS X (.For tg iter body [] pos) (ZC wi g tb):=by
 intro pins s σ H D I h
 refine wpAny_For (dU (hi pins s σ H _ I h) fun v s1 h1=>dU h1 fun itv s2 h2=>?_) hs
 obtain ⟨it,fp,tn,J,H2,e,I2,T,st2,f2,W,⟨m0,w0⟩,turn⟩:=h2
 subst e
 have stat:∀ {H':Hp},(∀ b ∈ fp,H' b=none)->∀ b ∈ fp,jZ X pins H' b:=fun hn b hb=>⟨hn b hb,(f2 b hb).2⟩
 refine codeAny_forLoop_any (fun n s'=>∃ i σ' H',aZ X pins σ' H' s' /\ tn i s'.heap /\ (∀ b ∈ fp,H' b=none) /\ W i n σ' H') ?_ m0 ⟨0,σ,H2,I2,st2,fun b hb=>(f2 b hb).1,w0⟩
 rintro n s3 ⟨i,σ3,H3,I3,st3,fr3,w3⟩
 rcases turn i n σ3 H3 w3 with ⟨stop,qn⟩ | ⟨go,N,hN,step⟩
 ·refine wpAny_passesOwn hp (dU (T.done X rfl rfl rfl hc i pins s3 σ3 H3 X.xe I3 (stat fr3) st3 stop) fun r s4 ⟨hr,I4⟩=>?_)
  subst hr
  exact wpAny_execs_nil ⟨σ3,H3,I4,qn⟩
 ·refine wpAny_passesOwn hp (dU (T.item X rfl rfl rfl hc i pins s3 σ3 H3 X.xe I3 (stat fr3) st3 go) fun r s4 ⟨u,hr,h4⟩=>?_)
  subst hr
  refine wpAny_passesOwn hp (dU h4 fun _ s5 ⟨x,H5,I5,r5,y5,st5,fr5⟩=>?_)
  have I5':=I5.pinned (stat fr5) (T.obj _ _ st5)
  refine wpAny_passesOwn hp (dU (hg _ s5 σ3 H5 x u _ I5' r5 (step x H5 y5)) fun _ s6 ⟨σ6,H6,I6,q6⟩=>?_)
  refine wpAny_passesOwn hp (dU (hb _ s6 σ6 H6 _ I6 q6) fun f s7 q7=>?_)
  have again:∀ {σ7:St}{H7:Hp},aZ X (pins ++ uU fp s5.heap) σ7 H7 s7->N σ7 H7->∃ m,m < n /\ ∃ i σ' H',aZ X pins σ' H' s7 /\ tn i s7.heap /\ (∀ b ∈ fp,H' b=none) /\ W i m σ' H':=fun {σ7 H7} I7 n7=>by
   obtain ⟨m',hm,w7⟩:=hN σ7 H7 n7
   refine ⟨m',hm,i + 1,σ7,H7,I7.unpinned,T.keep _ _ _ st5 fun b hb o e=>(I7.pin (b,o) (List.mem_append_right _ (List.mem_append_right _ (lD hb e)))).1,fun b hb=>?_,w7⟩
   obtain ⟨o,e,d⟩:=T.obj _ _ st5 b hb
   exact (I7.pin (b,o) (List.mem_append_right _ (List.mem_append_right _ (lD hb e)))).2.1
  cases f with
  | next=>obtain ⟨σ7,H7,I7,n7⟩:=q7; exact again I7 n7
  | cont=>obtain ⟨σ7,H7,I7,n7⟩:=q7; exact again I7 n7
  | brk=>obtain ⟨σ7,H7,I7,q7⟩:=q7; exact ⟨σ7,H7,I7.unpinned,q7⟩
  | ret v=>obtain ⟨x7,σ7,H7,I7,r7,q7⟩:=q7; exact ⟨x7,σ7,H7,I7.unpinned,r7,q7⟩
end
theorem pR {K:PySem.W.Frag}{a:Addr}{xs:List V}{g:TG}{tb:TS}{D:rJ}{σ : St}{H:Hp} (Pv:Nat->St->Hp->Prop) (h0:Pv 0 σ H) (hl:∀ i σ H,i <= xs.length->Pv i σ H->bR K H a xs)
  (hs:∀ i x σ H,xs[i]? = some x->Pv i σ H->g x σ H fun σ2 H2=>tb { D with nx:=Pv (i + 1),ct:=Pv (i + 1),bk:=D.nx } σ2 H2) (hd:∀ σ H,Pv xs.length σ H->D.nx σ H) :
  ∃ W:Nat->Nat->St->Hp->Prop,(∃ m,W 0 m σ H) /\ ∀ i m σ H,W i m σ H ->
   ((Qy K a).stop i H /\ D.nx σ H) ∨ ((Qy K a).go i H /\ ∃ N:St->Hp->Prop,(∀ σ' H',N σ' H'->∃ m',m' < m /\ W (i + 1) m' σ' H') /\ ∀ x H',(Qy K a).yld i H x H'->g x σ H' fun σ2 H2=>tb { D with nx:=N,ct:=N,bk:=D.nx } σ2 H2):=by
 refine ⟨fun i m σ H=>m=xs.length - i /\ i <= xs.length /\ Pv i σ H,⟨xs.length,by simp,Nat.zero_le _,h0⟩,?_⟩
 rintro i m σ H ⟨rfl,hi,p⟩
 have q:=hl i σ H hi p
 by_cases hlt:i < xs.length
 ·refine .inr ⟨⟨xs,xs[i],q,by simp [hlt]⟩,Pv (i + 1),fun σ' H' p'=>⟨xs.length - (i + 1),by omega,rfl,hlt,p'⟩,fun x H' y=>?_⟩
  obtain ⟨e,y⟩:=y
  subst e
  exact hs i x σ _ (y xs q) p
 ·have e:i=xs.length:=by omega
  subst e
  exact .inl ⟨⟨xs,q,Nat.le_refl _⟩,hd σ H p⟩
theorem kO {lo:Int}{n:Nat}{g:TG}{tb:TS}{D:rJ}{σ : St}{H:Hp} (Pv:Nat->St->Hp->Prop) (h0:Pv 0 σ H)
  (hs:∀ i σ H,i < n->Pv i σ H->g (.int (lo + i)) σ H fun σ2 H2=>tb { D with nx:=Pv (i + 1),ct:=Pv (i + 1),bk:=D.nx } σ2 H2) (hd:∀ σ H,Pv n σ H->D.nx σ H) :
  ∃ W:Nat->Nat->St->Hp->Prop,(∃ m,W 0 m σ H) /\ ∀ i m σ H,W i m σ H ->
   ((Qi lo n).stop i H /\ D.nx σ H) ∨ ((Qi lo n).go i H /\ ∃ N:St->Hp->Prop,(∀ σ' H',N σ' H'->∃ m',m' < m /\ W (i + 1) m' σ' H') /\ ∀ x H',(Qi lo n).yld i H x H'->g x σ H' fun σ2 H2=>tb { D with nx:=N,ct:=N,bk:=D.nx } σ2 H2):=by
 refine ⟨fun i m σ H=>m=n - i /\ i <= n /\ Pv i σ H,⟨n,by simp,Nat.zero_le _,h0⟩,?_⟩
 rintro i m σ H ⟨rfl,hi,p⟩
 by_cases hlt:i < n
 ·refine .inr ⟨hlt,Pv (i + 1),fun σ' H' p'=>⟨n - (i + 1),by omega,rfl,hlt,p'⟩,fun x H' y=>?_⟩
  obtain ⟨e,y⟩:=y
  subst e y
  exact hs i σ _ hlt p
 ·have e:i=n:=by omega
  subst e
  exact .inl ⟨Nat.le_refl _,hd σ H p⟩
theorem Cr {c:TT}{tb:TS}{D:rJ}{σ : St}{H:Hp} (Pv:St->Hp->Prop) (μ : St->Hp->Nat) (h0:Pv σ H)
  (hs:∀ σ H,Pv σ H->c σ H fun b H1=>if b=true then tb { D with nx:=fun σ' H'=>Pv σ' H' /\ μ σ' H' < μ σ H,ct:=fun σ' H'=>Pv σ' H' /\ μ σ' H' < μ σ H,bk:=D.nx } σ H1 else D.nx σ H1)
  (mono:∀ σ H Q Q',(∀ b H1,Q b H1->Q' b H1)->c σ H Q->c σ H Q'):Ky c tb D σ H:=by
 refine ⟨fun m σ H=>m = μ σ H /\ Pv σ H,⟨_,rfl,h0⟩,?_⟩
 rintro m σ H ⟨rfl,p⟩
 refine mono σ H _ _ (fun b H1 q=>?_) (hs σ H p)
 cases b with
 | true=>exact ⟨_,fun σ' H' ⟨p',l⟩=>⟨_,l,rfl,p'⟩,q⟩
 | false=>exact q
end L2
namespace L2
open PySem PySem.Spec PyProof.Rows
abbrev R2:=V->V->Hp->VK->Prop
def nZ (X:Cx) (f:Value->Value->Sem Value) (r:R2):Prop :=
 ∀ (pins:List (Addr × Obj)) (s:Shared) (σ : St) (H:Hp) (x y:V) (v u:Value) (Q:VK),aZ X pins σ H s->bJ x v->bJ y u->r x y H Q ->
  wpAny (model X.prog X.w) X.A (f v u) (EP X pins σ Q) X.xe s
def UnR (X:Cx) (f:Value->Sem Value) (r:V->Hp->VK->Prop):Prop :=
 ∀ (pins:List (Addr × Obj)) (s:Shared) (σ : St) (H:Hp) (x:V) (v:Value) (Q:VK),aZ X pins σ H s->bJ x v->r x H Q ->
  wpAny (model X.prog X.w) X.A (f v) (EP X pins σ Q) X.xe s
def jM (X:Cx) (f:Value) (r:List V->Hp->VK->Prop):Prop :=
 ∀ (pins:List (Addr × Obj)) (s:Shared) (σ : St) (H:Hp) (xs:List V) (us:List Value) (Q:VK),aZ X pins σ H s->bL xs us->r xs H Q ->
  wpAny (model X.prog X.w) X.A (call f us) (EP X pins σ Q) X.xe s
def Te (r:R2) (ta tb:TE):TE:=fun σ H Q=>ta σ H fun x H1=>tb σ H1 fun y H2=>r x y H2 Q
def tUn (r:V->Hp->VK->Prop) (ta:TE):TE:=fun σ H Q=>ta σ H fun x H1=>r x H1 Q
def rI (C:Int->Int->Prop) (g:Int->Int->V):R2:=fun x y H Q=>∃ i j,x = .int i /\ y = .int j /\ C i j /\ Q (g i j) H
def Pj (g:Int->Int->V):R2:=fun x y H Q=>∃ i j,x = .int i /\ y = .int j /\ Q (g i j) H
def rU (g:Int->V):V->Hp->VK->Prop:=fun x H Q=>∃ i,x = .int i /\ Q (g i) H
section
variable {X:Cx}{a b c:Expr}{ta tb tc:TE}{pos:Pos}
theorem Pq (ha:PE X a ta) (hb:PE X b tb) {pins:List (Addr × Obj)}{s:Shared}{σ : St}{H:Hp}{R:V->V->Hp->Prop} (I:aZ X pins σ H s)
  (h:ta σ H fun x H1=>tb σ H1 fun y H2=>R x y H2) {Q:Value->Shared->Prop}{f:Value->Value->Sem Value}
  (hf:∀ v u s2 x y H2,aZ X pins σ H2 s2->bJ x v->bJ y u->R x y H2->wpAny (model X.prog X.w) X.A (f v u) Q X.xe s2) :
  wpAny (model X.prog X.w) X.A (eval a X.env) (fun v s₁=>wpAny (model X.prog X.w) X.A (eval b X.env) (fun u s₂=>wpAny (model X.prog X.w) X.A (f v u) Q X.xe s₂) X.xe s₁) X.xe s:=by
 refine dU (ha pins s σ H _ I h) fun v s1 ⟨x,H1,I1,r1,q1⟩=>?_
 refine dU (hb pins s1 σ H1 _ I1 q1) fun u s2 ⟨y,H2,I2,r2,q2⟩=>?_
 exact hf v u s2 x y H2 I2 r1 r2 q2
theorem aR {op:Operator}{r:R2} (ho:nZ X (binaryOp op) r) (ha:PE X a ta) (hb:PE X b tb):PE X (.BinOp a op b pos) (Te r ta tb):=by
 intro pins s σ H Q I h
 exact wpAny_BinOp (Pq ha hb I h fun v u s2 x y H2 I2 rx ry q=>ho pins s2 σ H2 x y v u Q I2 rx ry q)
theorem FT {op:UnaryOp}{r:V->Hp->VK->Prop} (ho:UnR X (unaryOp op) r) (ha:PE X a ta):PE X (.UnaryOp op a pos) (tUn r ta):=by
 intro pins s σ H Q I h
 exact UnaryOp_ (dU (ha pins s σ H _ I h) fun v s1 ⟨x,H1,I1,r1,q1⟩=>ho pins s1 σ H1 x v Q I1 r1 q1)
theorem Px {f:Value->Value->Sem Value}{C:Int->Int->Prop}{g:Int->Int->Int}
  (rule:∀ (i j:Int) (t u:Tok) (s:Shared) (Q:Value->Shared->Prop) (E:Value->Shared->Prop),C i j->Q (.int (g i j) s.toks) { s with toks:=s.toks + 1 }->wpAny (model X.prog X.w) X.A (f (.int i t) (.int j u)) Q E s) :
  nZ X f (rI C fun i j=>.int (g i j)):=by
 intro pins s σ H x y v u Q I rx ry h
 obtain ⟨i,j,rfl,rfl,hc,q⟩:=h
 obtain ⟨t,rfl⟩:=rx
 obtain ⟨t',rfl⟩:=ry
 exact rule i j t t' s _ _ hc ⟨.int (g i j),H,I.tok _,⟨_,rfl⟩,q⟩
theorem Xh {f:Value->Value->Sem Value}{g:Int->Int->Int}
  (rule:∀ (i j:Int) (t u:Tok) (s:Shared) (Q:Value->Shared->Prop) (E:Value->Shared->Prop),Q (.int (g i j) s.toks) { s with toks:=s.toks + 1 }->wpAny (model X.prog X.w) X.A (f (.int i t) (.int j u)) Q E s) :
  nZ X f (Pj fun i j=>.int (g i j)):=by
 intro pins s σ H x y v u Q I rx ry h
 obtain ⟨i,j,rfl,rfl,q⟩:=h
 obtain ⟨t,rfl⟩:=rx
 obtain ⟨t',rfl⟩:=ry
 exact rule i j t t' s _ _ ⟨.int (g i j),H,I.tok _,⟨_,rfl⟩,q⟩
theorem PP {f:Value->Value->Sem Value}{g:Int->Int->Bool}
  (rule:∀ (i j:Int) (t u:Tok) (s:Shared) (Q:Value->Shared->Prop) (E:Value->Shared->Prop),Q (.bool (g i j)) s->wpAny (model X.prog X.w) X.A (f (.int i t) (.int j u)) Q E s) :
  nZ X f (Pj fun i j=>.bl (g i j)):=by
 intro pins s σ H x y v u Q I rx ry h
 obtain ⟨i,j,rfl,rfl,q⟩:=h
 obtain ⟨t,rfl⟩:=rx
 obtain ⟨t',rfl⟩:=ry
 exact rule i j t t' s _ _ ⟨.bl (g i j),H,I,rfl,q⟩
def ZD (i j:Int):Prop:=0 < j /\ j < 1073741824
def Wa (i j:Int):Prop:=0 <= j /\ j <= 1000000 /\ i.natAbs < 2 ^ 64
def Pa (i j:Int):Prop:=(-(2 ^ 64) < i /\ i < 2 ^ 64) ∨ (-(2 ^ 64) < j /\ j < 2 ^ 64)
theorem Pa.ok {i j:Int} (h:Pa i j):IntMulOk i j:=by
 rcases h with ⟨h1,h2⟩ | ⟨h1,h2⟩
 ·exact .of_left (intBits_le_64 h1 h2)
 ·exact .of_right (intBits_le_64 h1 h2)
theorem fQ:nZ X (binaryOp .Add) (Pj fun i j=>.int (i + j)):=Xh fun _ _ _ _ _ _ _ q=>add_int q
theorem oV:nZ X (binaryOp .Sub) (Pj fun i j=>.int (i - j)):=Xh fun _ _ _ _ _ _ _ q=>sub_int q
theorem Pk:nZ X (binaryOp .Mult) (rI Pa fun i j=>.int (i * j)):=Px fun _ _ _ _ _ _ _ hc q=>mul_int q hc.ok
theorem tD:nZ X (binaryOp .FloorDiv) (rI ZD fun i j=>.int (i / j)):=Px fun i j _ _ _ _ _ hc q=>by
 have h1:(0:Int) < j:=hc.1
 have h2:j < 1073741824:=hc.2
 exact floordiv_int (by omega) (by rw [Int.fdiv_eq_ediv_of_nonneg i (by omega)]; exact q) (.inl (PyProof.noPylong_small (by omega)))
theorem gR:nZ X (binaryOp .Mod) (rI (fun _ j=>0 < j) fun i j=>.int (i % j)):=Px fun i j _ _ _ _ _ hc q=>by
 have h1:(0:Int) < j:=hc
 exact mod_int' (by omega) (by rw [Int.fmod_eq_emod_of_nonneg i (by omega)]; exact q)
theorem FW:nZ X (binaryOp .Mod) (rI (fun _ j=>j ≠ 0) fun i j=>.int (i.fmod j)):=Px fun _ _ _ _ _ _ _ hc q=>mod_int' hc q
theorem Jt:nZ X (binaryOp .Pow) (rI Wa fun i j=>.int (i ^ j.toNat)):=Px fun _ _ _ _ _ _ _ hc q=>pow_int_small hc.1 hc.2.1 hc.2.2 q
theorem unI {f:Value->Sem Value}{g:Int->Int}
  (rule:∀ (i:Int) (t:Tok) (s:Shared) (Q:Value->Shared->Prop) (E:Value->Shared->Prop),Q (.int (g i) s.toks) { s with toks:=s.toks + 1 }->wpAny (model X.prog X.w) X.A (f (.int i t)) Q E s) :
  UnR X f (rU fun i=>.int (g i)):=by
 intro pins s σ H x v Q I rx h
 obtain ⟨i,rfl,q⟩:=h
 obtain ⟨t,rfl⟩:=rx
 exact rule i t s _ _ ⟨.int (g i),H,I.tok _,⟨_,rfl⟩,q⟩
theorem zU:UnR X (unaryOp .USub) (rU fun i=>.int (-i)):=unI fun _ _ _ _ _ q=>neg_int q
end
def Ui:V->V->Bool
 | .non,.non=>true | .non,.int _=>true | .int _,.non=>true | .non,.bl _=>true | .bl _,.non=>true | .non,.str _=>true | .str _,.non=>true
 | .int _,.int _=>true | .bl _,.bl _=>true | .str _,.str _=>true | .byt _,.byt _=>true
 | .int _,.str _=>true | .str _,.int _=>true | .bl _,.str _=>true | .str _,.bl _=>true
 | _,_=>false
def rEq:R2:=fun x y H Q=>Ui x y=true /\ Q (.bl (decide (x=y))) H
def rNe:R2:=fun x y H Q=>Ui x y=true /\ Q (.bl (!decide (x=y))) H
theorem zB {i j:Int}:decide (V.int i=V.int j)=(i == j):=by
 rw [Bool.eq_iff_iff]
 simp
theorem KH {i j:Bool}:decide (V.bl i=V.bl j)=(i == j):=by
 rw [Bool.eq_iff_iff]
 simp
theorem Gj {i j:Str}:decide (V.str i=V.str j)=(i == j):=by
 rw [Bool.eq_iff_iff]
 simp
theorem GR {i j:Array UInt8}:decide (V.byt i=V.byt j)=(i.toList == j.toList):=by
 rw [Bool.eq_iff_iff]
 cases i
 cases j
 simp
section
variable {X:Cx}{a b c:Expr}{ta tb tc:TE}{pos:Pos}
theorem cG {pins:List (Addr × Obj)}{σ : St}{H:Hp}{s:Shared}{Q:VK}{k k':Bool} (I:aZ X pins σ H s) (q:Q (.bl k) H) (e:k=k'):EP X pins σ Q (.bool k') s:=by
 subst e
 exact ⟨.bl k,H,I,rfl,q⟩
theorem rC:nZ X (compareOp .Eq) rEq:=by
 intro pins s σ H x y v u Q I rx ry h
 obtain ⟨hs,q⟩:=h
 cases x with
 | non =>
  cases rx
  cases y with
  | non=>cases ry; exact PySem.EqNone.eq_none_none (cG I q (by simp))
  | bl j=>cases ry; exact PySem.EqNone.eq_none_bool (cG I q (by simp))
  | int j=>obtain ⟨t',rfl⟩:=ry; exact PySem.EqNone.eq_none_int (cG I q (by simp))
  | str j=>obtain ⟨t',rfl⟩:=ry; exact PySem.EqNone.eq_none_str (cG I q (by simp))
  | _=>exact absurd (show false=true from hs) Bool.false_ne_true
 | bl i =>
  cases rx
  cases y with
  | non=>cases ry; exact PySem.EqNone.eq_bool_none (cG I q (by simp))
  | bl j=>cases ry; exact eq_bool (cG I q KH)
  | str j=>obtain ⟨t',rfl⟩:=ry; exact PySem.EqMixed.eq_bool_str (cG I q (by simp))
  | _=>exact absurd (show false=true from hs) Bool.false_ne_true
 | int i =>
  obtain ⟨t,rfl⟩:=rx
  cases y with
  | non=>cases ry; exact PySem.EqNone.eq_int_none (cG I q (by simp))
  | int j=>obtain ⟨t',rfl⟩:=ry; exact eq_int (cG I q zB)
  | str j=>obtain ⟨t',rfl⟩:=ry; exact PySem.EqMixed.eq_int_str (cG I q (by simp))
  | _=>exact absurd (show false=true from hs) Bool.false_ne_true
 | str i =>
  obtain ⟨t,rfl⟩:=rx
  cases y with
  | non=>cases ry; exact PySem.EqNone.eq_str_none (cG I q (by simp))
  | bl j=>cases ry; exact PySem.EqMixed.eq_str_bool (cG I q (by simp))
  | int j=>obtain ⟨t',rfl⟩:=ry; exact PySem.EqMixed.eq_str_int (cG I q (by simp))
  | str j=>obtain ⟨t',rfl⟩:=ry; exact eq_str (cG I q Gj)
  | _=>exact absurd (show false=true from hs) Bool.false_ne_true
 | byt i =>
  obtain ⟨t,rfl⟩:=rx
  cases y with
  | byt j=>obtain ⟨t',rfl⟩:=ry; exact PySem.W.eq_bytes (cG I q GR)
  | _=>exact absurd (show false=true from hs) Bool.false_ne_true
 | _=>cases y <;> exact absurd (show false=true from hs) Bool.false_ne_true
theorem Fg:nZ X (compareOp .NotEq) rNe:=by
 intro pins s σ H x y v u Q I rx ry h
 obtain ⟨hs,q⟩:=h
 cases x with
 | non =>
  cases rx
  cases y with
  | non=>cases ry; exact PySem.EqNone.ne_none_none (cG I q (by simp))
  | bl j=>cases ry; exact PySem.EqNone.ne_none_bool (cG I q (by simp))
  | int j=>obtain ⟨t',rfl⟩:=ry; exact PySem.EqNone.ne_none_int (cG I q (by simp))
  | str j=>obtain ⟨t',rfl⟩:=ry; exact PySem.EqNone.ne_none_str (cG I q (by simp))
  | _=>exact absurd (show false=true from hs) Bool.false_ne_true
 | bl i =>
  cases rx
  cases y with
  | non=>cases ry; exact PySem.EqNone.ne_bool_none (cG I q (by simp))
  | bl j=>cases ry; exact ne_bool (cG I q (congrArg not KH))
  | str j=>obtain ⟨t',rfl⟩:=ry; exact PySem.EqMixed.ne_bool_str (cG I q (by simp))
  | _=>exact absurd (show false=true from hs) Bool.false_ne_true
 | int i =>
  obtain ⟨t,rfl⟩:=rx
  cases y with
  | non=>cases ry; exact PySem.EqNone.ne_int_none (cG I q (by simp))
  | int j=>obtain ⟨t',rfl⟩:=ry; exact ne_int (cG I q (congrArg not zB))
  | str j=>obtain ⟨t',rfl⟩:=ry; exact PySem.EqMixed.ne_int_str (cG I q (by simp))
  | _=>exact absurd (show false=true from hs) Bool.false_ne_true
 | str i =>
  obtain ⟨t,rfl⟩:=rx
  cases y with
  | non=>cases ry; exact PySem.EqNone.ne_str_none (cG I q (by simp))
  | bl j=>cases ry; exact PySem.EqMixed.ne_str_bool (cG I q (by simp))
  | int j=>obtain ⟨t',rfl⟩:=ry; exact PySem.EqMixed.ne_str_int (cG I q (by simp))
  | str j=>obtain ⟨t',rfl⟩:=ry; exact ne_str (cG I q (congrArg not Gj))
  | _=>exact absurd (show false=true from hs) Bool.false_ne_true
 | byt i =>
  obtain ⟨t,rfl⟩:=rx
  cases y with
  | byt j=>obtain ⟨t',rfl⟩:=ry; exact PySem.W.ne_bytes (cG I q (congrArg not GR))
  | _=>exact absurd (show false=true from hs) Bool.false_ne_true
 | _=>cases y <;> exact absurd (show false=true from hs) Bool.false_ne_true
theorem tW:nZ X (compareOp .Lt) (Pj fun i j=>.bl (decide (i < j))):=PP fun _ _ _ _ _ _ _ q=>lt_int q
theorem uY:nZ X (compareOp .LtE) (Pj fun i j=>.bl (decide (i <= j))):=PP fun _ _ _ _ _ _ _ q=>le_int q
theorem Ao:nZ X (compareOp .Gt) (Pj fun i j=>.bl (decide (j < i))):=PP fun _ _ _ _ _ _ _ q=>gt_int q
theorem Dg:nZ X (compareOp .Is) (fun x y H Q=>y = .non /\ Q (.bl (decide (x = .non))) H):=by
 intro pins s σ H x y v u Q I rx ry h
 obtain ⟨rfl,q⟩:=h
 cases ry
 refine is_none_gen (cG I q ?_)
 cases x <;> first
  | (cases rx; rfl)
  | (obtain ⟨t,rfl⟩:=rx; rfl)
theorem NT:nZ X (compareOp .IsNot) (fun x y H Q=>y = .non /\ Q (.bl (!decide (x = .non))) H):=by
 intro pins s σ H x y v u Q I rx ry h
 obtain ⟨rfl,q⟩:=h
 cases ry
 refine isnot_none_gen (cG I q ?_)
 cases x <;> first
  | (cases rx; rfl)
  | (obtain ⟨t,rfl⟩:=rx; rfl)
theorem cI (b:Expr) {op:CmpOp} (h:op ≠ .In:=by decide) (h2:op ≠ .NotIn:=by decide):behindInMarks op b=false:=by
 have e1:(op == CmpOp.In)=false:=by cases op <;> first | rfl | exact absurd rfl h
 have e2:(op == CmpOp.NotIn)=false:=by cases op <;> first | rfl | exact absurd rfl h2
 cases b <;> simp [behindInMarks,e1,e2]
theorem lG {op:CmpOp}{r:R2} (ho:nZ X (compareOp op) r) (ha:PE X a ta) (hb:PE X b tb) (hm:behindInMarks op b=false):PE X (.Compare a [op] [b] pos) (Te r ta tb):=by
 intro pins s σ H Q I h
 exact wpAny_Compare1 (Pq ha hb I h fun v u s2 x y H2 I2 rx ry q=>ho pins s2 σ H2 x y v u Q I2 rx ry q) hm
def Oc (t:TE):TT:=fun σ H Q=>t σ H fun x H'=>∃ k,x = .bl k /\ Q k H'
theorem bZ {op:CmpOp}{r:R2} (ho:nZ X (compareOp op) r) (ha:PE X a ta) (hb:PE X b tb) (hm:behindInMarks op b=false):PT X (.Compare a [op] [b] pos) (Oc (Te r ta tb)):=by
 intro pins s σ H Q I h
 refine wpAny_isTrue_Compare1 (dU (ha pins s σ H _ I h) fun v s1 ⟨x,H1,I1,r1,q1⟩=>dU (hb pins s1 σ H1 _ I1 q1) fun u s2 ⟨y,H2,I2,r2,q2⟩ =>
  dU (ho pins s2 σ H2 x y v u _ I2 r1 r2 q2) fun c s3 ⟨z,H3,I3,r3,k,e,q3⟩=>?_) hm
 subst e
 cases r3
 exact wpAny_truthy_bool ⟨H3,I3,q3⟩
def JL (r r':R2) (ta tb tc:TE):TE:=fun σ H Q=>ta σ H fun x H1=>tb σ H1 fun y H2=>r x y H2 fun z H3=>∃ k,z = .bl k ∧
 (if k=true then tc σ H3 fun w' H4=>r' y w' H4 Q else Q (.bl false) H3)
theorem Iu {op op':CmpOp}{r r':R2} (ho:nZ X (compareOp op) r) (ho':nZ X (compareOp op') r') (ha:PE X a ta) (hb:PE X b tb) (hc:PE X c tc)
  (hm:lastMarks [op,op'] [b,c]=false:=by with_unfolding_all rfl):PE X (.Compare a [op,op'] [b,c] pos) (JL r r' ta tb tc):=by
 intro pins s σ H Q I h
 refine Compare_chain (dU (ha pins s σ H _ I h) fun v s1 ⟨x,H1,I1,r1,q1⟩=>chain_link (dU (hb pins s1 σ H1 _ I1 q1) fun u s2 ⟨y,H2,I2,r2,q2⟩ =>
  dU (ho pins s2 σ H2 x y v u _ I2 r1 r2 q2) fun d s3 ⟨z,H3,I3,r3,k,e,q3⟩=>?_)) hm
 subst e
 cases r3
 refine wpAny_truthy_bool ?_
 cases k with
 | false=>exact ite_ff ⟨.bl false,H3,I3,rfl,q3⟩
 | true=>exact ite_tt (chain_last (dU (hc pins s3 σ H3 _ I3 q3) fun w' s4 ⟨z',H4,I4,r4,q4⟩=>ho' pins s4 σ H4 y z' u w' Q I4 r2 r4 q4))
theorem BZ {op op':CmpOp}{r r':R2} (ho:nZ X (compareOp op) r) (ho':nZ X (compareOp op') r') (ha:PE X a ta) (hb:PE X b tb) (hc:PE X c tc)
  (hm:lastMarks [op,op'] [b,c]=false:=by with_unfolding_all rfl):PT X (.Compare a [op,op'] [b,c] pos) (Oc (JL r r' ta tb tc)):=by
 intro pins s σ H Q I h
 refine isTrue_chain (dU (ha pins s σ H _ I h) fun v s1 ⟨x,H1,I1,r1,q1⟩=>test_link (dU (hb pins s1 σ H1 _ I1 q1) fun u s2 ⟨y,H2,I2,r2,q2⟩ =>
  dU (ho pins s2 σ H2 x y v u _ I2 r1 r2 q2) fun d s3 ⟨z,H3,I3,r3,k,e,q3⟩=>?_)) hm
 subst e
 cases r3
 refine wpAny_truthy_bool ?_
 cases k with
 | false =>
  obtain ⟨k',e',q'⟩:=q3
  cases e'
  exact ite_ff ⟨H3,I3,q'⟩
 | true =>
  refine ite_tt (test_last (dU (hc pins s3 σ H3 _ I3 q3) fun w' s4 ⟨z',H4,I4,r4,q4⟩=>dU (ho' pins s4 σ H4 y z' u w' _ I4 r2 r4 q4) fun d' s5 ⟨z2,H5,I5,r5,k2,e2,q5⟩=>?_))
  subst e2
  cases r5
  exact wpAny_truthy_bool ⟨H5,I5,q5⟩
theorem zF:(sizeLine:Nat) < 2 ^ 63:=by rw [sizeLine_eq]; decide
theorem lO {x:V}{us:List Value} (r:bL [x] us):∃ u,us=[u] /\ bJ x u:=by
 cases r with
 | cons r1 r2=>cases r2; exact ⟨_,rfl,r1⟩
theorem KD {x y:V}{us:List Value} (r:bL [x,y] us):∃ u w',us=[u,w'] /\ bJ x u /\ bJ y w':=by
 cases r with
 | cons r1 r2 =>
  cases r2 with
  | cons r3 r4=>cases r4; exact ⟨_,_,rfl,r1,r3⟩
theorem Bl:jM X (.builtin "abs") (fun xs H Q=>∃ i,xs=[.int i] /\ Q (.int (if i < 0 then -i else i)) H):=by
 intro pins s σ H xs us Q I r h
 obtain ⟨i,rfl,q⟩:=h
 obtain ⟨u,rfl,t,rfl⟩:=lO r
 exact call_abs_int fun u tk=>⟨.int (if i < 0 then -i else i),H,I.tok _,⟨_,rfl⟩,q⟩
theorem Hs (hc:X.calm=true):jM X (.builtin "min") (fun xs H Q=>∃ i j,xs=[.int i,.int j] /\ Q (.int (if j < i then j else i)) H):=by
 intro pins s σ H xs us Q I r h
 obtain ⟨i,j,rfl,q⟩:=h
 obtain ⟨u,w',rfl,⟨t,rfl⟩,⟨t',rfl⟩⟩:=KD r
 refine min_two_ints (I.ok.hd hc) fun h' tk k=>⟨_,H,I.kept k,?_,q⟩
 by_cases hj:j < i
 ·rw [if_pos hj,if_pos hj]; exact ⟨_,rfl⟩
 ·rw [if_neg hj,if_neg hj]; exact ⟨_,rfl⟩
theorem Hy:jM X (.type "int") (fun xs H Q=>(∃ i,xs=[.int i] /\ Q (.int i) H) ∨ ∃ k,xs=[.bl k] /\ Q (.int (if k then 1 else 0)) H):=by
 intro pins s σ H xs us Q I r h
 rcases h with ⟨i,rfl,q⟩ | ⟨k,rfl,q⟩
 ·obtain ⟨u,rfl,t,rfl⟩:=lO r
  exact call_int_int ⟨.int i,H,I,⟨_,rfl⟩,q⟩
 ·obtain ⟨u,rfl,r1⟩:=lO r
  cases r1
  exact call_int_bool ⟨.int (if k then 1 else 0),H,I.tok _,⟨_,rfl⟩,q⟩
end
end L2
namespace L2
open PySem PySem.Spec PyProof.Rows
structure Eu (h:Heap) (x dx C:Addr) (mA:Str->Option Value):Prop where
 obj:h.get? x=some (PySem.W.instObj C dx)
 ns:h.Ns1 dx mA
 ne:dx ≠ x
theorem HY {h:Heap}{dx:Addr}{mA:Str->Option Value} (n:h.Ns1 dx mA):∃ od,h.get? dx=some od /\ ∀ name,PySem.W.lookIn name od=some (mA name):=by
 obtain ⟨o,es,ep,ho,hd,hk,_,hm⟩:=n
 refine ⟨o,ho,fun name=>?_⟩
 have e:=hm name
 unfold nsFind findBy at e
 rw [<- Array.find?_toList] at e
 unfold PySem.W.lookIn
 rw [hd]
 dsimp only
 split
 ·rename_i y q
  rw [q] at e
  exact congrArg some e
 ·rename_i q
  rw [q] at e
  have a:es.toList.any (·.refKey)=false:=by
   rw [List.any_eq_false]
   intro y hy
   obtain ⟨z,t,hkey⟩:=hk y (Array.mem_toList_iff.mp hy)
   simp [DictEntry.refKey,hkey]
  have a':¬ es.toList.any (·.refKey)=true:=by rw [a]; exact Bool.false_ne_true
  rw [if_neg a']
  exact congrArg some e
theorem Eu.look {h:Heap}{x dx C:Addr}{mA:Str->Option Value} (I:Eu h x dx C mA):∃ od,PySem.W.InstAt h x (PySem.W.instObj C dx) C (some od) /\ ∀ name,PySem.W.lookIn name od=some (mA name) :=
 let ⟨od,ho,hl⟩:=HY I.ns
 ⟨od,⟨I.obj,rfl,rfl,ho⟩,hl⟩
section
variable {prog:Program}{w:World}{A:Around}{E:Value->Shared->Prop}{s:Shared}{K:PySem.W.Frag}{x dx C f:Addr}{mA:Str->Option Value}{name:Str}{v:Value}
theorem Nk {expr:Bool}{Q:Value->Shared->Prop} (X:K.In s.heap) (I:Eu s.heap x dx C mA) (hg:PySem.W.plainGet K C name=true) (hh:PySem.W.hasDictIn K C=true)
  (ha:PySem.W.findIn K (.ref C) name=some none) (hv:mA name=some v) (hv':PySem.W.handedIn v=true) (h:Q v { s with toks:=s.toks + 1 }) :
  wpAny (model prog w) A (getAttr (.ref x) name expr) Q E s:=by
 obtain ⟨od,J,hl⟩:=I.look
 exact PySem.W.get_value X J (PySem.W.plainGet_of hg).1 (PySem.W.findObj_own hh ha rfl (by rw [hl,hv])) hv' h
theorem Kc {pl:Sem Bool}{Q:Value × List Value->Shared->Prop} (X:K.In s.heap) (I:Eu s.heap x dx C mA) (hg:PySem.W.plainGet K C name=true)
  (hf:PySem.W.findIn K (.ref C) name=some (some (.ref f))) (ht:PySem.W.isFn K (.ref f)=true) (hv:mA name=none) (h:Q (.ref f,[.ref x]) s) :
  wpAny (model prog w) A (getMethod (.ref x) name pl) Q E s:=by
 obtain ⟨od,J,hl⟩:=I.look
 exact PySem.W.method_fn X J (PySem.W.plainGet_of hg).1 (PySem.W.plainGet_of hg).2 hf (beq_iff_eq.mp ht) (by show (PySem.W.lookIn name od).map (·.isSome)=some false; rw [hl,hv]; rfl) h
theorem Mh {ns:List Str}{Q:Unit->Shared->Prop} (X:K.In s.heap) (I:Eu s.heap x dx C mA)
  (hs:PySem.W.findIn K (.ref C) "__setattr__" = some (some (.builtin "object.__setattr__"))) (hp:PySem.W.plainOver K C=true) (ht:PySem.W.takerIn K C name=some none) (hh:PySem.W.hasDictIn K C=true)
  (hw:PySem.Within mA ns) (hsz:ns.length <= sizeLine)
  (h:∀ h',Eu h' x dx C (fun y=>if y=name then some v else mA y)->Heap.SameBut dx s.heap h'->Q () { s with heap:=h',toks:=s.toks + 2 }) :
  wpAny (model prog w) A (setAttr (.ref x) name v) Q E s:=by
 obtain ⟨od,J,hl⟩:=I.look
 refine PySem.W.set_plain X J hs (PySem.W.osa_open (s:={ s with toks:=s.toks + 1 }) (r:=none) X J hp ht fun b=>?_)
 obtain ⟨cd,hc,hd'⟩:=PySem.W.any_some hh
 have hx:s.heap.get? x=some ⟨.ref C,some dx,.plain,#[]⟩:=I.obj
 refine wpAny_bind (wpAny_pure (wpAny_bind (wpAny_bind (wpAny_loadPart hx (wpAny_bind (PySem.W.Looks.here (s:={ s with toks:=s.toks + 1 }) (PySem.W.looks_clsIn X hc) ?_))))))
 rw [hd']
 refine wpAny_pure (a:=some dx) (wpAny_bind (wpAny_pure (wpAny_bind ?_)))
 refine wpAny_nsSet1 (s:={ s with toks:=s.toks + 1 }) I.ns fun h' hn2 hs2=>?_
 obtain ⟨oD,esD,epD,hoD,hdD,hcD⟩:=hn2.count (PySem.Within.cons name v hw)
 refine wpAny_bind (wpAny_lookBehind hoD (by rw [hdD]; exact pastItsLine_dict (Nat.le_trans hcD (by rw [List.length_cons]; omega))) ?_)
 exact wpAny_pure (h _ ⟨(hs2.2 _ (Ne.symm I.ne)).trans I.obj,hn2,I.ne⟩ hs2)
theorem Jh {R:Result->Shared->Prop}{vs:List Value}{kw:List (Str × Value)} (X:K.In s.heap) (hm:PySem.W.makesIn K C=true)
  (hi:PySem.W.findIn K (.ref C) "__init__" = some (some (.ref f))) (hf:PySem.W.typeIn K (.ref f)=some (.type "function"))
  (h:codeAny (model prog w) (A.under (.builtin "type.__call__" ⟨.ref C :: vs,kw⟩)) (.call (.ref f) ⟨.ref (s.heap.objs.size + 1) :: vs,kw⟩) (PySem.W.InitBack (s.heap.objs.size + 1) R)
   { s with heap:=(s.heap.push PySem.W.emptyDict).push (PySem.W.instObj C s.heap.objs.size) }) :
  codeAny (model prog w) A (.call (.ref C) ⟨vs,kw⟩) R s:=by
 obtain ⟨hh,g,d,t,os⟩:=s
 exact PySem.W.make_core (PySem.W.makes_of X hm) (PySem.W.looks_findIn X hi) (fun self=>PySem.W.bind_fn X self hf) (.inl rfl) h
end
def b8 (f:Str) (v:V):List (Str × V)->List (Str × V)
 | []=>[(f,v)]
 | (g,x) :: r=>if g=f then (g,v) :: r else (g,x) :: b8 f v r
theorem qZ (f g:Str) (v:V):∀ fs:List (Str × V),(b8 f v fs).lookup g=if g=f then some v else fs.lookup g
 | []=>by
  show List.lookup g [(f,v)]=_
  by_cases h:g=f
  ·have hb:(g == f)=true:=beq_iff_eq.mpr h
   simp only [List.lookup,hb,if_pos h]
  ·have hb:(g == f)=false:=beq_eq_false_iff_ne.mpr h
   simp only [List.lookup,hb,if_neg h]
 | (k,x) :: r=>by
  have ih:=qZ f g v r
  rw [show b8 f v ((k,x) :: r)=(if k=f then (k,v) :: r else (k,x) :: b8 f v r) from rfl]
  by_cases hk:k=f
  ·rw [if_pos hk]
   by_cases h:g=k
   ·have hb:(g == k)=true:=beq_iff_eq.mpr h
    simp only [List.lookup,hb,if_pos (h.trans hk)]
   ·have hb:(g == k)=false:=beq_eq_false_iff_ne.mpr h
    simp only [List.lookup,hb,if_neg (fun e:g=f=>h (e.trans hk.symm))]
  ·rw [if_neg hk]
   by_cases h:g=k
   ·have hb:(g == k)=true:=beq_iff_eq.mpr h
    simp only [List.lookup,hb,if_neg (fun e:g=f=>hk (h.symm.trans e))]
   ·have hb:(g == k)=false:=beq_eq_false_iff_ne.mpr h
    simp only [List.lookup,hb]
    exact ih
theorem qL (f:Str) (v:V):∀ fs:List (Str × V),f ∈ (b8 f v fs).map (·.1) /\ ∀ g,g ∈ fs.map (·.1)->g ∈ (b8 f v fs).map (·.1)
 | []=>⟨by simp [b8],fun g h=>by simp at h⟩
 | (k,x) :: r=>by
  obtain ⟨i1,i2⟩:=qL f v r
  rw [show b8 f v ((k,x) :: r)=(if k=f then (k,v) :: r else (k,x) :: b8 f v r) from rfl]
  by_cases hk:k=f
  ·rw [if_pos hk]
   subst hk
   exact ⟨by simp,fun g h=>by simpa using h⟩
  ·rw [if_neg hk]
   refine ⟨?_,fun g h=>?_⟩
   ·rw [List.map_cons]
    exact List.mem_cons_of_mem _ i1
   ·rw [List.map_cons] at h ⊢
    rcases List.mem_cons.mp h with e | e
    ·exact List.mem_cons.mpr (.inl e)
    ·exact List.mem_cons_of_mem _ (i2 g e)
theorem rA (f:Str) (v:V):∀ fs:List (Str × V),(b8 f v fs).length <= fs.length + 1
 | []=>by simp [b8]
 | (k,x) :: r=>by
  have ih:=rA f v r
  rw [show b8 f v ((k,x) :: r)=(if k=f then (k,v) :: r else (k,x) :: b8 f v r) from rfl]
  by_cases hk:k=f
  ·rw [if_pos hk,List.length_cons,List.length_cons]; omega
  ·rw [if_neg hk,List.length_cons,List.length_cons]; omega
theorem lY.some_of {v:V}{o:Option Value} (r:lY (some v) o):∃ u,o=some u /\ bJ v u:=by
 cases o with
 | none=>exact (show False from r).elim
 | some u=>exact ⟨u,rfl,r⟩
theorem lY.none_of {o:Option Value} (r:lY none o):o=none:=by
 cases o with
 | none=>rfl
 | some u=>exact (show False from r).elim
theorem Hb {v:V}{u:Value} (r:bJ v u):PySem.W.handedIn u=true:=by
 cases v with
 | non=>cases (show u=Value.none from r); rfl
 | bl b=>cases (show u=Value.bool b from r); rfl
 | int i=>obtain ⟨t,e⟩:=(show ∃ t,u=Value.int i t from r); cases e; rfl
 | str x=>obtain ⟨t,e⟩:=(show ∃ t,u=Value.str x t from r); cases e; rfl
 | byt b=>obtain ⟨t,e⟩:=(show ∃ t,u=Value.bytes b t from r); cases e; rfl
 | flt b=>obtain ⟨t,e⟩:=(show ∃ t,u=Value.float b t from r); cases e; rfl
 | ref a=>cases (show u=Value.ref a from r); rfl
 | ty n=>cases (show u=Value.type n from r); rfl
section
variable {P:Program}{w:World}{H H':Hp}{h h':Heap}{a C dx:Addr}{fs fs':List (Str × V)}
theorem tG (hok:m7 P w H h) (e:H a=some (.ins C dx fs)):∃ mA,Eu h a dx C mA /\ (∀ f,lY (fs.lookup f) (mA f)) /\ PySem.Within mA (fs.map (·.1)) /\ fs.length <= 1000 /\ H dx=some (.own a):=by
 obtain ⟨d,z,ne,ob,mA,n,r,q⟩:=(show dH P w H h a (.ins C dx fs) from hok a _ e)
 exact ⟨mA,⟨ob,n,ne⟩,r,q,z,d⟩
end
structure Dc (K:PySem.W.Frag) (C:Addr):Prop where
 pg:PySem.W.plainGet K C Str.empty=true
 hd:PySem.W.hasDictIn K C=true
 po:PySem.W.plainOver K C=true
 sa:PySem.W.findIn K (.ref C) "__setattr__" = some (some (.builtin "object.__setattr__"))
theorem Dc.get {K:PySem.W.Frag}{C:Addr} (c:Dc K C) (f:Str):PySem.W.plainGet K C f=true:=c.pg
def cJ (K:PySem.W.Frag) (C:Addr) (f:Str):Prop:=PySem.W.findIn K (.ref C) f=some none
theorem cJ.taker {K:PySem.W.Frag}{C:Addr}{f:Str} (n:cJ K C f):PySem.W.takerIn K C f=some none:=by
 unfold PySem.W.takerIn
 rw [show PySem.W.findIn K (.ref C) f=some none from n]
 rfl
structure Con (K:PySem.W.Frag) (C:Addr) (f:Str) (v:V) (u:Value):Prop where
 at_:PySem.W.findIn K (.ref C) f=some (some u)
 rel:bJ v u
 get:PySem.W.specialIn K u "__get__" = some none
 cp:PySem.W.copiedNames.contains f=false
structure dM (K:PySem.W.Frag) (C:Addr) (m:Str) (f:Addr):Prop where
 at_:PySem.W.findIn K (.ref C) m=some (some (.ref f))
 fn:PySem.W.isFn K (.ref f)=true
 kp:PySem.W.keepIn K (.ref f)=true
section
variable {X:Cx}{pins:List (Addr × Obj)}{σ : St}{H:Hp}{s:Shared}{a C dx:Addr}{fs:List (Str × V)}{f:Str}{v:V}{A:Around}{E:Value->Shared->Prop}
theorem Et {b:Bool}{Q:Value->Shared->Prop} (I:aZ X pins σ H s) (e:H a=some (.ins C dx fs)) (c:Dc X.K C) (n:cJ X.K C f) (l:fs.lookup f=some v)
  (h:∀ u s',aZ X pins σ H s'->bJ v u->Q u s'):wpAny (model X.prog X.w) A (getAttr (.ref a) f b) Q E s:=by
 obtain ⟨mA,O,r,_,_,_⟩:=tG I.hok e
 obtain ⟨u,hu,ru⟩:=lY.some_of (v:=v) (o:=mA f) (by rw [<- l]; exact r f)
 exact Nk I.kIn O (c.get f) c.hd n hu (Hb ru) (h u _ (I.tok _) ru)
theorem uZ {m:Str}{g:Addr}{pl:Sem Bool}{Q:Value × List Value->Shared->Prop} (I:aZ X pins σ H s) (e:H a=some (.ins C dx fs)) (c:Dc X.K C) (k:dM X.K C m g) (l:fs.lookup m=none)
  (h:Q (.ref g,[.ref a]) s):wpAny (model X.prog X.w) A (getMethod (.ref a) m pl) Q E s:=by
 obtain ⟨mA,O,r,_,_,_⟩:=tG I.hok e
 have hn:mA m=none:=lY.none_of (by rw [<- l]; exact r m)
 exact Kc I.kIn O (c.get m) k.at_ k.fn hn h
theorem Ds {y:V}{u:Value}{Q:Unit->Shared->Prop} (I:aZ X pins σ H s) (e:H a=some (.ins C dx fs)) (c:Dc X.K C) (n:cJ X.K C f) (hl:fs.length < 1000) (ry:bJ y u)
  (h:∀ s',aZ X pins σ (aY H a (.ins C dx (b8 f y fs))) s'->Q () s'):wpAny (model X.prog X.w) A (setAttr (.ref a) f u) Q E s:=by
 obtain ⟨mA,O,r,wi,_,ho⟩:=tG I.hok e
 have hz:(fs.map (·.1)).length <= sizeLine:=by rw [List.length_map,sizeLine_eq]; omega
 refine Mh I.kIn O c.sa c.po n.taker c.hd wi hz fun h' O' sb=>h _ ?_
 have hd:∃ o,h'.get? dx=some o:=let ⟨o,_,_,e',_⟩:=O'.ns; ⟨o,e'⟩
 refine I.write (x:=a) (e:=dx) (by rw [e]; exact True.intro) (.inr ho) (fun b q hb z=>(sb.2 b hb).trans z) hd ?_
 refine ⟨by rw [aK O.ne]; exact ho,?_,O.ne,O'.obj,_,O'.ns,fun g=>?_,fun g hg=>?_⟩
 ·have:=rA f y fs; omega
 ·show lY ((b8 f y fs).lookup g) (if g=f then some u else mA g)
  rw [qZ]
  by_cases q:g=f
  ·rw [if_pos q,if_pos q]; exact ry
  ·rw [if_neg q,if_neg q]; exact r g
 ·by_cases q:g=f
  ·rw [q]; exact (qL f y fs).1
  ·refine (qL f y fs).2 g (wi g fun z=>hg ?_)
   show (if g=f then some u else mA g)=none
   rw [if_neg q]; exact z
theorem aZ.made (I:aZ X pins σ H s):aZ X pins σ (aY (aY H s.heap.objs.size (.own (s.heap.objs.size + 1))) (s.heap.objs.size + 1) (.ins C s.heap.objs.size []))
  { s with heap:=(s.heap.push PySem.W.emptyDict).push (PySem.W.instObj C s.heap.objs.size) }:=by
 have e1:(s.heap.push PySem.W.emptyDict).get? s.heap.objs.size=some PySem.W.emptyDict:=Heap.get?_push_size s.heap rfl
 have e2:((s.heap.push PySem.W.emptyDict).push (PySem.W.instObj C s.heap.objs.size)).get? (s.heap.objs.size + 1)=some (PySem.W.instObj C s.heap.objs.size):=by
  have:=Heap.get?_push_size (s.heap.push PySem.W.emptyDict) (o:=PySem.W.instObj C s.heap.objs.size) rfl
  rwa [Heap.size_push] at this
 have e3:(s.heap.push PySem.W.emptyDict).Ns s.heap.objs.size (fun _=>none):=⟨PySem.W.emptyDict,#[],_,e1,rfl,(fun e he=>absurd he (by simp)),fun _=>rfl⟩
 have I1:=I.laid (a:=s.heap.objs.size) (o:=.own (s.heap.objs.size + 1)) (h':=s.heap.push PySem.W.emptyDict) (t':=s.toks) (fun b u q=>Heap.get?_push_of_some _ q) (Nat.le_refl _) ⟨_,e1⟩
 refine I1.laid (a:=s.heap.objs.size + 1) (o:=.ins C s.heap.objs.size []) (t':=s.toks) (fun b u q=>Heap.get?_push_of_some _ q) (Nat.le_of_eq (Heap.size_push _ _)) ?_
 have ne:s.heap.objs.size ≠ s.heap.objs.size + 1:=Nat.ne_of_lt (Nat.lt_succ_self _)
 refine ⟨by rw [aK ne,aB],Nat.zero_le _,ne,e2,fun _=>none,(Heap.Ns1.of_empty e3).at fun o q=>Heap.get?_push_of_some _ q,fun _=>True.intro,fun y hy=>absurd rfl hy⟩
theorem Ly {prog:Program}{w:World}{env:Env}{e:Expr}{f:Str}{pos:Pos}{s:Shared}{Q:Value->Shared->Prop} (hb:attributeBase e f env (eval e env)=eval e env)
  (h:wpAny (model prog w) A (eval e env) (fun o s₁=>wpAny (model prog w) A (getAttr o f true) Q E s₁) E s):wpAny (model prog w) A (eval (.Attribute e f pos) env) Q E s :=
 Attribute_any_ h (by rw [arm_eval_Attribute,hb])
end
def aA2 (K:PySem.W.Frag) (ta:TE) (f:Str):TE:=fun σ H Q=>ta σ H fun x H1=>∃ a C dx fs v,x = .ref a /\ H1 a=some (.ins C dx fs) /\ Dc K C /\ cJ K C f /\ fs.lookup f=some v /\ Q v H1
def ZQ (K:PySem.W.Frag) (ta tv:TE) (f:Str):TS:=fun D σ H=>tv σ H fun y H1=>ta σ H1 fun x H2=>∃ a C dx fs,x = .ref a /\ H2 a=some (.ins C dx fs) /\ Dc K C /\ cJ K C f /\ fs.length < 1000 ∧
 D.nx σ (aY H2 a (.ins C dx (b8 f y fs)))
section
variable {X:Cx}{o e value:Expr}{f:Str}{pos pos' tpos:Pos}{ta tv:TE}
theorem dO (he:PE X e ta) (hb:attributeBase e f X.env (eval e X.env)=eval e X.env):PE X (.Attribute e f pos) (aA2 X.K ta f):=by
 intro pins s σ H Q I h
 refine Ly hb (dU (he pins s σ H _ I h) fun u s1 ⟨x,H1,I1,rx,a,C,dx,fs,v,ex,ea,c,n,l,q⟩=>?_)
 subst ex
 obtain rfl:u=Value.ref a:=rx
 exact Et I1 ea c n l fun u' s2 I2 ru=>⟨v,H1,I2,ru,q⟩
theorem fC (ha:PE X o ta) (hv:PE X value tv) (hs:swapsWith value (some (.Attribute o f pos')) pos.line X.env=pure false):PS X (.Assign [.Attribute o f pos'] value pos) (ZQ X.K ta tv f):=by
 intro pins s σ H D I h
 refine plainObj_wpAny_Assign_Attribute (dU (hv pins s σ H _ I h) fun u s1 ⟨y,H1,I1,ry,q⟩=>dU (ha pins s1 σ H1 _ I1 q) fun ov s2 ⟨x,H2,I2,rx,a,C,dx,fs,ex,ea,c,n,l,q2⟩=>?_) hs
 subst ex
 obtain rfl:ov=Value.ref a:=rx
 exact Ds I2 ea c n l ry fun s3 I3=>⟨σ,_,I3,q2⟩
end
section
variable {X:Cx}{pins:List (Addr × Obj)}{σ : St}{H:Hp}{s:Shared}{A:Around}{E:Value->Shared->Prop}{Q:Value->Shared->Prop}{c:Value}{b:Bool}
inductive gP (K:PySem.W.Frag) (H:Hp):V->Value->Prop where
 | non:gP K H .non (.type "NoneType")
 | bl (x:Bool):gP K H (.bl x) (.type "bool")
 | int (i:Int):gP K H (.int i) (.type "int")
 | str (x:Str):gP K H (.str x) (.type "str")
 | flt (x:UInt64):gP K H (.flt x) (.type "float")
 | lst {a:Addr}{xs:List V} (e:H a=some (.lst xs)):gP K H (.ref a) (.type "list")
 | frz {a:Addr}{o:Obj}{xs:List V} (e:H a=some (.frz o (.lst xs))):gP K H (.ref a) (.type "list")
 | tup {a:Addr}{xs:List V} (e:H a=some (.tup xs)):gP K H (.ref a) (.type "tuple")
 | dK {a:Addr}{kvs:List (dB × V)} (e:H a=some (.dK kvs)):gP K H (.ref a) (.type "dict")
 | dT {a:Addr}{kvs:List (List dB × V)} (e:H a=some (.dT kvs)):gP K H (.ref a) (.type "dict")
 | ins {a C dx:Addr}{fs:List (Str × V)} (e:H a=some (.ins C dx fs)) (cl:Dc K C) (ha:PySem.W.findIn K (.ref C) "__class__" = some (some (.builtin "object.__class__")))
   (hn:PySem.W.specialIn K (.builtin "object.__class__") "__get__" = some (some (.builtin "getset_descriptor.__get__"))) (htk:PySem.W.takesIn K (.builtin "object.__class__")=some true)
   (hm:PySem.W.mroIn K C (.type "object")=some true):gP K H (.ref a) (.ref C)
theorem wU {x:V}{u t:Value} (I:aZ X pins σ H s) (rx:bJ x u) (ty:gP X.K H x t) (e:PySem.W.kitOne X.K t c=some b) (h:∀ tk,Q (.bool b) { s with toks:=tk }) :
  wpAny (model X.prog X.w) A (call (.builtin "isinstance") [u,c]) Q E s:=by
 cases ty with
 | non=>cases (show u=Value.none from rx); exact PySem.W.kia_one PySem.W.kitx_none I.kIn True.intro e (fun z=>nomatch z) h
 | bl y=>cases (show u=Value.bool y from rx); exact PySem.W.kia_one PySem.W.kitx_bool I.kIn True.intro e (fun z=>nomatch z) h
 | int i=>obtain ⟨t,q⟩:=(show ∃ t,u=Value.int i t from rx); cases q; exact PySem.W.kia_one PySem.W.kitx_int I.kIn True.intro e (fun z=>nomatch z) h
 | str y=>obtain ⟨t,q⟩:=(show ∃ t,u=Value.str y t from rx); cases q; exact PySem.W.kia_one PySem.W.kitx_str I.kIn True.intro e (fun z=>nomatch z) h
 | flt y=>obtain ⟨t,q⟩:=(show ∃ t,u=Value.float y t from rx); cases q; exact PySem.W.kia_one PySem.W.kitx_float I.kIn True.intro e (fun z=>nomatch z) h
 | @lst a xs ea =>
  cases (show u=Value.ref a from rx)
  obtain ⟨_,_,n,_,h1⟩:=(show dH X.prog X.w H s.heap a (.lst xs) from I.hok a _ ea)
  exact PySem.W.kia_one PySem.W.kitx_list I.kIn ⟨_,h1,rfl⟩ e (fun z=>nomatch z) h
 | @frz a ob xs ea =>
  cases (show u=Value.ref a from rx)
  obtain ⟨_,_,_,n,_,h1⟩:=(show dH X.prog X.w H s.heap a (.frz ob (.lst xs)) from I.hok a _ ea)
  exact PySem.W.kia_one PySem.W.kitx_list I.kIn ⟨_,h1,rfl⟩ e (fun z=>nomatch z) h
 | @tup a xs ea =>
  cases (show u=Value.ref a from rx)
  obtain ⟨_,_,_,p⟩:=(show dH X.prog X.w H s.heap a (.tup xs) from I.hok a _ ea)
  obtain ⟨o,h1,h2,_⟩:=p
  exact PySem.W.kia_one PySem.W.kitx_tuple I.kIn ⟨o,h1,h2⟩ e (fun z=>nomatch z) h
 | @dK a kvs ea =>
  cases (show u=Value.ref a from rx)
  obtain ⟨_,_,vs,_,p⟩:=(show dH X.prog X.w H s.heap a (.dK kvs) from I.hok a _ ea)
  obtain ⟨o,es,ep,h1,h2,_⟩:=p
  exact PySem.W.kia_one PySem.W.kitx_dict I.kIn ⟨o,h1,h2.1⟩ e (fun z=>nomatch z) h
 | @dT a kvs ea =>
  cases (show u=Value.ref a from rx)
  obtain ⟨_,_,xs,_,o,es,ep,h1,h2,_⟩:=(show dH X.prog X.w H s.heap a (.dT kvs) from I.hok a _ ea)
  exact PySem.W.kia_one PySem.W.kitx_dict I.kIn ⟨o,h1,h2.1⟩ e (fun z=>nomatch z) h
 | @ins a C dx fs ea cl ha hn htk hm =>
  cases (show u=Value.ref a from rx)
  obtain ⟨mA,O,_⟩:=tG I.hok ea
  obtain ⟨od,J,_⟩:=O.look
  exact PySem.W.kia_one (PySem.W.kitx_own (cl.get _) cl.hd ha hn htk hm) I.kIn J e (fun z=>nomatch z) h
end
end L2
namespace L2
open PySem PySem.Spec PyProof.Rows
structure fD (k:Nat) (A:Around):Prop where
 hd:A.handled=none
 dp:A.depth + 3 * k + 5 < recursionLimit
 un:A.units + 16 * k + 200 < cLine
theorem fD.mono {j k:Nat}{A:Around} (r:fD k A) (h:j <= k):fD j A:=⟨r.hd,by have:=r.dp; omega,by have:=r.un; omega⟩
theorem fD.deeper {k:Nat}{A:Around} (r:fD (k + 1) A) (env:Env):fD k (A.deeper env) :=
 ⟨r.hd,by have:=r.dp; show A.depth + 1 + 3 * k + 5 < _; omega,by have:=r.un; show A.units + 3 + 16 * k + 200 < _; omega⟩
theorem fD.in1 {k:Nat}{A:Around} (r:fD (k + 1) A):fD k A.in1 :=
 ⟨r.hd,by have:=r.dp; show A.depth + 3 * k + 5 < _; omega,by have:=r.un; show A.units + 1 + 16 * k + 200 < _; omega⟩
theorem Ek {A:Around}{C:Addr}{us:List Value}{kw:List (Str × Value)}:(A.under (.builtin "type.__call__" ⟨.ref C :: us,kw⟩)).depth=A.depth + 1:=by
 first | rfl | simp [Around.under,Code.weight,Code.isCreation,Code.isGuard,Code.isCaller,Code.frames,Code.isFrame,guardIds]
theorem Es {A:Around}{C:Addr}{us:List Value}{kw:List (Str × Value)}:(A.under (.builtin "type.__call__" ⟨.ref C :: us,kw⟩)).units=A.units + 1:=by
 first | rfl | simp [Around.under,Code.cUnits,Code.frames,Code.isFrame]
theorem fD.make {k:Nat}{A:Around} (r:fD (k + 1) A) (C:Addr) (us:List Value) (kw:List (Str × Value)):fD k (A.under (.builtin "type.__call__" ⟨.ref C :: us,kw⟩)) :=
 ⟨r.hd,by have:=r.dp; rw [Ek]; omega,by have:=r.un; rw [Es]; omega⟩
theorem fD.depth {k:Nat}{A:Around} (r:fD k A):A.depth < recursionLimit:=by have:=r.dp; omega
theorem fD.units {k:Nat}{A:Around} (r:fD k A):A.units + 64 < cLine:=by have:=r.un; omega
theorem fD.units0 {k:Nat}{A:Around} (r:fD k A):A.units < cLine:=by have:=r.un; omega
def uT:TA:=fun _ H Q=>Q [] H
def Jf (ta:TE) (tr:TA):TA:=fun σ H Q=>ta σ H fun x H1=>tr σ H1 fun xs H2=>Q (x :: xs) H2
section
variable {X:Cx}{e:Expr}{es:List Expr}{te:TE}{t:TA}{pos:Pos}
theorem aC:PA X [] uT:=fun _ _ _ _ H Q I h=>Calls.spliced_nil ⟨[],H,I,.nil,h⟩
theorem aA (ha:PE X e te) (hr:PA X es t) (hs:starEach (e :: es) X.env=(false,eval e X.env) :: starEach es X.env:=by rfl):PA X (e :: es) (Jf te t):=by
 intro pos pins s σ H Q I h
 rw [hs]
 show wpAny _ _ (spliced ((false,eval e X.env) :: backTo pos (starEach es X.env))) _ _ s
 refine Calls.spliced_cons (dU (ha pins s σ H _ I h) fun u s1 ⟨x,H1,I1,r1,q1⟩=>?_)
 exact dU (hr pos pins s1 σ H1 _ I1 q1) fun us s2 ⟨xs,H2,I2,r2,q2⟩=>⟨x :: xs,H2,I2,.cons r1 r2,q2⟩
def aAU (t:TA):TE:=fun σ H Q=>t σ H fun xs H1=>xs.length <= sizeLine /\ ∀ p,H1 p=none->Q (.ref p) (aY H1 p (.tup xs))
def ZJ (t:TA):TE:=fun σ H Q=>t σ H fun xs H1=>xs.length <= sizeLine /\ ∀ p,H1 p=none->Q (.ref p) (aY H1 p (.lst xs))
theorem dF {x1} (h:PA X es t):PE X (.Tuple es x1 pos) (aAU t):=by
 intro pins s σ H Q I hq
 refine wpAny_Tuple_spliced (dU (h pos pins s σ H _ I hq) fun us s1 ⟨xs,H1,I1,r,z,q⟩=>⟨by rw [<- r.length]; exact z,?_⟩)
 have hf:H1 s1.heap.objs.size=none:=I1.hok.fresh (Nat.le_refl _)
 refine ⟨.ref s1.heap.objs.size,aY H1 s1.heap.objs.size (.tup xs),I1.laid (t':=s1.toks) (fun b u e=>Heap.get?_push_of_some _ e) (Nat.le_refl _) ?_,rfl,q _ hf⟩
 exact ⟨z,us,r,⟨_,Heap.get?_push_size _ rfl,rfl,_,rfl⟩⟩
theorem iQ (h:PA X es t):PE X (.List es pos) (ZJ t):=by
 intro pins s σ H Q I hq
 refine wpAny_List_spliced (dU (h pos pins s σ H _ I hq) fun us s1 ⟨xs,H1,I1,r,z,q⟩=>⟨by rw [<- r.length]; exact z,?_⟩)
 have hf:H1 s1.heap.objs.size=none:=I1.hok.fresh (Nat.le_refl _)
 refine ⟨.ref s1.heap.objs.size,aY H1 s1.heap.objs.size (.lst xs),I1.laid (t':=s1.toks) (fun b u e=>Heap.get?_push_of_some _ e) (Nat.le_refl _) ?_,rfl,q _ hf⟩
 exact ⟨z,us,0,r,Heap.get?_push_size _ rfl⟩
end
abbrev Sp:=List V->Hp->VK->XK->Prop
abbrev yZ:=List Env->Hp->Shared->XK->Value->Shared->Prop
structure vY (P:Program) (w:World) (K:PySem.W.Frag) (mg:Str->Option Value) (base:Heap) (A:Around) (outer:List Env) (s:Shared) (H:Hp):Prop where
 frames:A.frames=some outer
 mod:Mod K mg base
 bs:∀ b o,base.get? b=some o->s.heap.get? b=some o /\ H b=none
 bsz:base.objs.size <= s.heap.objs.size
 funs:s.heap.FunFrames base outer
 frf:∀ b ∈ qX outer,H b=none
 hok:m7 P w H s.heap
 bare:AllBare s.gens
def CE (outer:List Env) (P:Program) (w:World) (H:Hp) (s:Shared) (Q:VK) (u:Value) (s':Shared):Prop :=
 ∃ v H',s'.os=s.os /\ AllBare s'.gens /\ Un (qX outer) [] H H' s.heap s'.heap /\ m7 P w H' s'.heap /\ bJ v u /\ Q v H'
def CR (CX:yZ) (outer:List Env) (P:Program) (w:World) (H:Hp) (s:Shared) (Q:VK) (E:XK) (r:Result) (s':Shared):Prop :=
 match r with
 | .ok (.ret u)=>CE outer P w H s Q u s'
 | .ok _=>False
 | .error e=>CX outer H s E e s'
structure aV (P:Program) (w:World) (K:PySem.W.Frag) (mg:Str->Option Value) (base:Heap) (CX:yZ) (k:Nat) (f:Addr) (fd:FuncData) (ps:List Str) (sp:Sp):Prop where
 len:∀ vs H Q E,sp vs H Q E->vs.length=ps.length
 run:∀ (A:Around) (outer:List Env) (s:Shared) (H:Hp) (args:Args) (us:List Value) (vs:List V) (Q:VK) (E:XK),fD k A->vY P w K mg base A outer s H->BindsTo s fd args (ps.zip us)->bL vs us->sp vs H Q E ->
  codeAny (model P w) A (.call (.ref f) args) (CR CX outer P w H s Q E) s
theorem aV.mono {P:Program}{w:World}{K:PySem.W.Frag}{mg:Str->Option Value}{base:Heap}{CX:yZ}{j k:Nat}{f:Addr}{fd:FuncData}{ps:List Str}{sp:Sp} (F:aV P w K mg base CX j f fd ps sp) (h:j <= k) :
  aV P w K mg base CX k f fd ps sp:=⟨F.len,fun A outer s H args us vs Q E hr=>F.run A outer s H args us vs Q E (hr.mono h)⟩
theorem aV.imp {P:Program}{w:World}{K:PySem.W.Frag}{mg:Str->Option Value}{base:Heap}{CX:yZ}{k:Nat}{f:Addr}{fd:FuncData}{ps:List Str}{sp sp':Sp} (F:aV P w K mg base CX k f fd ps sp)
  (h:∀ vs H Q E,sp' vs H Q E->sp vs H Q E):aV P w K mg base CX k f fd ps sp' :=
 ⟨fun vs H Q E q=>F.len vs H Q E (h _ _ _ _ q),fun A outer s H args us vs Q E hr he hb hv hs=>F.run A outer s H args us vs Q E hr he hb hv (h _ _ _ _ hs)⟩
theorem vY.make {P:Program}{w:World}{K:PySem.W.Frag}{mg:Str->Option Value}{base:Heap}{A:Around}{outer:List Env}{s:Shared}{H:Hp} (e:vY P w K mg base A outer s H) (C:Addr) (us:List Value) (kw:List (Str × Value)) :
  vY P w K mg base (A.under (.builtin "type.__call__" ⟨.ref C :: us,kw⟩)) outer s H:=⟨by first | exact e.frames | (simpa [Around.under,Code.envs,Code.isFrame,pushEnvs] using e.frames),e.mod,e.bs,e.bsz,e.funs,e.frf,e.hok,e.bare⟩
theorem vY.in1 {P:Program}{w:World}{K:PySem.W.Frag}{mg:Str->Option Value}{base:Heap}{A:Around}{outer:List Env}{s:Shared}{H:Hp} (e:vY P w K mg base A outer s H) :
  vY P w K mg base A.in1 outer s H:=⟨e.frames,e.mod,e.bs,e.bsz,e.funs,e.frf,e.hok,e.bare⟩
section
variable {X:Cx}{pins:List (Addr × Obj)}{σ : St}{H:Hp}{s s':Shared}
theorem aZ.env0 (I:aZ X pins σ H s):vY X.prog X.w X.K X.mg X.base X.A X.stack s H :=
 ⟨I.ok.frames,I.ok.mod,I.bs,Nat.le_trans I.ok.bsz I.sz,I.stack,I.stkFree,I.hok,I.bare⟩
theorem aZ.after {Q:VK}{u:Value} (I:aZ X pins σ H s) (h:CE X.stack X.prog X.w H s Q u s'):EP X pins σ Q u s':=by
 obtain ⟨v,H',os,bare,un,hok,r,q⟩:=h
 obtain ⟨hh,g,d,t,os'⟩:=s'
 obtain rfl:os'=s.os:=os
 exact ⟨v,H',I.call (h':=hh) (g':=g) (d':=d) (t':=t) (ch:=[]) un hok bare (fun b z=>absurd z (by simp)),r,q⟩
end
def Am (sp:Sp) (dvs:List V) (E:XK) (t:TA):TE:=fun σ H Q=>t σ H fun vs H1=>sp (vs ++ dvs) H1 Q E
def xY (C:Addr) (m:Str) (sp:Sp) (dvs:List V) (E:XK) (ta:TE) (t:TA):TE:=fun σ H Q=>ta σ H fun x H1=>∃ a dx fs,x = .ref a /\ H1 a=some (.ins C dx fs) /\ fs.lookup m=none ∧
 t σ H1 fun vs H2=>sp (x :: (vs ++ dvs)) H2 Q E
def X7 (C:Addr) (sp:Sp) (dvs:List V) (E:XK) (t:TA):TE:=fun σ H Q=>t σ H fun vs H1=>∀ x dx,H1 x=none->H1 dx=none->dx ≠ x ->
 sp (.ref x :: (vs ++ dvs)) (aY (aY H1 dx (.own x)) x (.ins C dx [])) (fun v H2=>v = .non /\ Q (.ref x) H2) E
def bI (K:PySem.W.Frag) (fd:FuncData) (ps:List Str) (ds:List Value):Prop :=
 ∀ (s:Shared) (us:List Value),K.In s.heap->(us ++ ds).length=ps.length->BindsTo s fd ⟨us,[]⟩ (ps.zip (us ++ ds))
theorem bI.all {K:PySem.W.Frag}{fd:FuncData}{ps:List Str} (h:∀ us:List Value,us.length=ps.length->bindArgs fd ⟨us,[]⟩ = pure (ps.zip us)):bI K fd ps []:=fun s us _ hl=>by
 rw [List.append_nil] at hl ⊢
 exact .of_eq (h us hl)
def jE (CX:yZ) (X:Cx) (E:XK):Prop:=∀ (pins:List (Addr × Obj)) (σ : St) (H:Hp) (s:Shared) (e:Value) (s':Shared),aZ X pins σ H s->CX X.stack H s E e s'->X.xe e s'
section
variable {X:Cx}{CX:yZ}{k:Nat}{f C:Addr}{fd:FuncData}{ps:List Str}{sp:Sp}{dvs:List V}{ds:List Value}{E:XK}{x m:Str}{p pos apos:Pos}{e o:Expr}{es:List Expr}{ta:TE}{t:TA}
theorem Ac {pins:List (Addr × Obj)}{σ : St}{H:Hp}{s:Shared}{Q:VK}{us:List Value}{vs:List V} (F:aV X.prog X.w X.K X.mg X.base CX k f fd ps sp) (hr:fD k X.A) (hb:bI X.K fd ps ds) (hd:bL dvs ds) (hx:jE CX X E)
  (I:aZ X pins σ H s) (r:bL vs us) (h:sp (vs ++ dvs) H Q E):wpAny (model X.prog X.w) X.A (call (.ref f) us) (EP X pins σ Q) X.xe s:=by
 have r2:bL (vs ++ dvs) (us ++ ds):=r.append hd
 have hl:(us ++ ds).length=ps.length:=by rw [<- r2.length]; exact F.len _ _ _ _ h
 refine wpAny_call (codeAny_mono (F.run X.A X.stack s H ⟨us,[]⟩ (us ++ ds) (vs ++ dvs) Q E hr I.env0 (hb s us I.kIn hl) r2 h) fun r s' hq=>?_)
 cases r with
 | error e=>exact hx pins σ H s e s' I hq
 | ok fl =>
  cases fl with
  | ret u=>exact I.after hq
  | next=>exact False.elim hq
  | brk=>exact False.elim hq
  | cont=>exact False.elim hq
theorem zQ (F:aV X.prog X.w X.K X.mg X.base CX k f fd ps sp) (hr:fD k X.A) (hg:Gl X x) (hm:X.mg x=some (.ref f)) (hk:PySem.W.keepIn X.K (.ref f)=true) (hb:bI X.K fd ps ds) (hd:bL dvs ds) (hx:jE CX X E)
  (ha:PA X (e :: es) t) (hdb:(x == ("__debug__" : Str))=false:=by decide) (he:starEach (e :: es) X.env=(false,eval e X.env) :: starEach es X.env:=by rfl) (hpl:(backTo pos (starEach es X.env)).any (·.1)=false:=by rfl) :
  PE X (.Call (.Name x p) (e :: es) [] pos) (Am sp dvs E t):=by
 intro pins s σ H Q I h
 refine wpAny_Call_Name_kw (pM I hg hm ?_ hdb)
 refine PySem.W.callWith_K (h₀:=X.base) I.ok.mod.kin hk (dU (ha pos pins s σ H _ I h) fun us s1 ⟨vs,H1,I1,r,q⟩=>⟨I1.kIn,?_⟩) he hpl
 exact Ac F hr hb hd hx I1 r q
theorem cZ {pl:Sem Bool} (he:PE X o ta) (c:Dc X.K C) (hm:dM X.K C m f) (F:aV X.prog X.w X.K X.mg X.base CX k f fd ps sp) (hr:fD k X.A) (hb:bI X.K fd ps ds) (hd:bL dvs ds) (hx:jE CX X E) (ha:PA X (e :: es) t)
  (hst:starEach (e :: es) X.env=(false,eval e X.env) :: starEach es X.env:=by rfl) (hpl:(backTo pos (starEach es X.env)).any (·.1)=false:=by rfl)
  (ht:eval (.Call (.Attribute o m apos) (e :: es) [] pos) X.env=(do
   let ov <- eval o X.env
   standAt apos.atName
   let (f,first) <- holding [ov] (getMethod ov m pl)
   callWith pos f first (backTo pos (starEach (e :: es) X.env)) (backToKw pos (keywordEach [] X.env))):=by rfl) :
  PE X (.Call (.Attribute o m apos) (e :: es) [] pos) (xY C m sp dvs E ta t):=by
 intro pins s σ H Q I h
 refine PySem.W.methodCall_KW (pl:=pl) (dU (he pins s σ H _ I h) fun u s1 ⟨x,H1,I1,rx,a,dx,fs,ex,ea,l,q⟩=>?_) ht
 subst ex
 obtain rfl:u=Value.ref a:=rx
 refine uZ I1 ea c hm l ?_
 refine PySem.W.callWith_K (first:=[.ref a]) (h₀:=X.base) I.ok.mod.kin hm.kp (dU (ha pos pins s1 σ H1 _ I1 q) fun us s2 ⟨vs,H2,I2,r,q2⟩=>⟨I2.kIn,?_⟩) hst hpl
 exact Ac (us:=.ref a :: us) (vs:=.ref a :: vs) F hr hb hd hx I2 (.cons rfl r) q2
theorem cY {pl:Sem Bool} (he:PE X o ta) (c:Dc X.K C) (hm:dM X.K C m f) (F:aV X.prog X.w X.K X.mg X.base CX k f fd ps sp) (hr:fD k X.A) (hb:bI X.K fd ps ds) (hd:bL dvs ds) (hx:jE CX X E)
  (ht:eval (.Call (.Attribute o m apos) [] [] pos) X.env=(do
   let ov <- eval o X.env
   standAt apos.atName
   let (f,first) <- holding [ov] (getMethod ov m pl)
   callWith pos f first (backTo pos (starEach [] X.env)) (backToKw pos (keywordEach [] X.env))):=by rfl) :
  PE X (.Call (.Attribute o m apos) [] [] pos) (xY C m sp dvs E ta uT):=by
 intro pins s σ H Q I h
 refine PySem.W.methodCall_KW (pl:=pl) (dU (he pins s σ H _ I h) fun u s1 ⟨x,H1,I1,rx,a,dx,fs,ex,ea,l,q⟩=>?_) ht
 subst ex
 obtain rfl:u=Value.ref a:=rx
 refine uZ I1 ea c hm l ?_
 exact PySem.W.callWith_K0 (first:=[.ref a]) I1.kIn hm.kp (Ac (us:=[.ref a]) (vs:=[.ref a]) F hr hb hd hx I1 (.cons rfl .nil) q)
structure Mk (K:PySem.W.Frag) (C f:Addr):Prop where
 makes:PySem.W.makesIn K C=true
 init:PySem.W.findIn K (.ref C) "__init__" = some (some (.ref f))
 fn:PySem.W.isFn K (.ref f)=true
 kp:PySem.W.keepIn K (.ref C)=true
theorem JS {pins:List (Addr × Obj)}{σ : St}{H:Hp}{s:Shared}{Q:VK}{us:List Value}{vs:List V} (M:Mk X.K C f) (F:aV X.prog X.w X.K X.mg X.base CX k f fd ps sp) (hr:fD (k + 1) X.A) (hb:bI X.K fd ps ds) (hd:bL dvs ds)
  (hx:jE CX X E) (I:aZ X pins σ H s) (r:bL vs us)
  (h:∀ x dx,H x=none->H dx=none->dx ≠ x->sp (.ref x :: (vs ++ dvs)) (aY (aY H dx (.own x)) x (.ins C dx [])) (fun v H2=>v = .non /\ Q (.ref x) H2) E) :
  wpAny (model X.prog X.w) X.A (call (.ref C) us) (EP X pins σ Q) X.xe s:=by
 have hq:=h (s.heap.objs.size + 1) s.heap.objs.size (I.hok.fresh (Nat.le_succ _)) (I.hok.fresh (Nat.le_refl _)) (Nat.ne_of_lt (Nat.lt_succ_self _))
 have I2:=aZ.made (C:=C) I
 have r2:bL (V.ref (s.heap.objs.size + 1) :: (vs ++ dvs)) (Value.ref (s.heap.objs.size + 1) :: (us ++ ds)):=.cons rfl (r.append hd)
 have hl:(Value.ref (s.heap.objs.size + 1) :: us ++ ds).length=ps.length:=by
  have e:=r2.length
  rw [F.len _ _ _ _ hq] at e
  exact e.symm
 refine wpAny_call (Jh (f:=f) I.kIn M.makes M.init (beq_iff_eq.mp M.fn) (codeAny_mono (F.run _ X.stack _ _ ⟨Value.ref (s.heap.objs.size + 1) :: us,[]⟩ (Value.ref (s.heap.objs.size + 1) :: (us ++ ds)) _ _ E (hr.make C us [])
  (I2.env0.make C us []) (hb _ (Value.ref (s.heap.objs.size + 1) :: us) I2.kIn hl) r2 hq) fun r s' hq'=>?_))
 cases r with
 | error e=>exact hx pins σ _ _ e s' I2 hq'
 | ok fl =>
  cases fl with
  | ret u =>
   obtain ⟨v,H',I3,rv,ev,q3⟩:=I2.after hq'
   subst ev
   exact ⟨rv,⟨V.ref (s.heap.objs.size + 1),H',I3,rfl,q3⟩⟩
  | next=>exact False.elim hq'
  | brk=>exact False.elim hq'
  | cont=>exact False.elim hq'
theorem sJ (M:Mk X.K C f) (F:aV X.prog X.w X.K X.mg X.base CX k f fd ps sp) (hr:fD (k + 1) X.A) (hg:Gl X x) (hm:X.mg x=some (.ref C)) (hb:bI X.K fd ps ds) (hd:bL dvs ds) (hx:jE CX X E)
  (ha:PA X (e :: es) t) (hdb:(x == ("__debug__" : Str))=false:=by decide) (he:starEach (e :: es) X.env=(false,eval e X.env) :: starEach es X.env:=by rfl) (hpl:(backTo pos (starEach es X.env)).any (·.1)=false:=by rfl) :
  PE X (.Call (.Name x p) (e :: es) [] pos) (X7 C sp dvs E t):=by
 intro pins s σ H Q I h
 refine wpAny_Call_Name_kw (pM I hg hm ?_ hdb)
 refine PySem.W.callWith_K (h₀:=X.base) I.ok.mod.kin M.kp (dU (ha pos pins s σ H _ I h) fun us s1 ⟨vs,H1,I1,r,q⟩=>⟨I1.kIn,?_⟩) he hpl
 exact JS M F hr hb hd hx I1 r q
end
section
variable {X:Cx}{CX:yZ}{k:Nat}{f C:Addr}{fd:FuncData}{ps ks:List Str}{sp:Sp}{E:XK}{x m:Str}{p pos apos kpos:Pos}{e o:Expr}{es:List Expr}{kws:List Keyword}{te ta:TE}{t tk:TA}{nm:Option Str}
structure Z5 (K:PySem.W.Frag) (fd:FuncData) (ps ks:List Str) (g:List Value->List Value->List Value) (gV:List V->List V->List V):Prop where
 to:∀ (s:Shared) (us ws:List Value),K.In s.heap->(g us ws).length=ps.length->BindsTo s fd ⟨us,ks.zip ws⟩ (ps.zip (g us ws))
 rel:∀ {vs:List V}{us:List Value}{zs:List V}{ws:List Value},bL vs us->bL zs ws->bL (gV vs zs) (g us ws)
variable {g:List Value->List Value->List Value}{gV:List V->List V->List V}
end
structure aO (N P:List Str) (sc:Scope):Prop where
 kind:sc.kind = .function
 co:sc.isCoroutine=false
 gen:sc.isGenerator=false
 nd:N.Nodup
 pre:N.take P.length=P
 par:∀ x ∈ P,sc.names.lookup x=some .local ∨ sc.names.lookup x=some .cell
 nofree:∀ y ∈ sc.names,y.2 ≠ .free
theorem xC {kindOf:Str->Option NameKind}{x:Str}:∀ {binds:List (Str × Value)}{m:Str->Option Value},(∀ v,(x,v) ∉ binds)->bindL kindOf binds m x=m x
 | [],_,_=>rfl
 | (n,v) :: r,m,h=>by
  unfold bindL
  rw [xC fun w hw=>h w (List.mem_cons_of_mem _ hw)]
  split
  ·have:x ≠ n:=by rintro rfl; exact h v List.mem_cons_self
   simp [this]
  ·rfl
theorem xH {kindOf:Str->Option NameKind}{x:Str}:∀ {binds:List (Str × Value)}{m:Str->Option Value},(∀ v,(x,v) ∉ binds)->bindC kindOf binds m x=m x
 | [],_,_=>rfl
 | (n,v) :: r,m,h=>by
  unfold bindC
  rw [xH fun w hw=>h w (List.mem_cons_of_mem _ hw)]
  split
  ·rfl
  ·have:x ≠ n:=by rintro rfl; exact h v List.mem_cons_self
   simp [this]
theorem yL {kindOf:Str->Option NameKind}{x:Str}{v:Value}:∀ {P:List Str}{vs:List Value}{i:Nat}{m:Str->Option Value},P.Nodup->P[i]? = some x->vs[i]? = some v->kindOf x=some .local ->
  bindL kindOf (P.zip vs) m x=some v
 | [],_,_,_,_,h,_,_=>by simp at h
 | _ :: _,[],_,_,_,_,h,_=>by simp at h
 | p :: P,w :: vs,0,m,nd,h1,h2,hk=>by
  simp at h1 h2; subst h1; subst h2
  show bindL kindOf ((p,w) :: P.zip vs) m p=_
  unfold bindL
  rw [xC fun v hv=>(List.nodup_cons.mp nd).1 (List.of_mem_zip hv).1,if_pos hk]
  simp
 | p :: P,w :: vs,i + 1,m,nd,h1,h2,hk=>by
  show bindL kindOf ((p,w) :: P.zip vs) m x=_
  unfold bindL
  exact yL (i:=i) (List.nodup_cons.mp nd).2 (by simpa using h1) (by simpa using h2) hk
theorem xB {kindOf:Str->Option NameKind}{x:Str}{v:Value}:∀ {P:List Str}{vs:List Value}{i:Nat}{m:Str->Option Value},P.Nodup->P[i]? = some x->vs[i]? = some v->kindOf x ≠ some .local ->
  bindC kindOf (P.zip vs) m x=some v
 | [],_,_,_,_,h,_,_=>by simp at h
 | _ :: _,[],_,_,_,_,h,_=>by simp at h
 | p :: P,w :: vs,0,m,nd,h1,h2,hk=>by
  simp at h1 h2; subst h1; subst h2
  show bindC kindOf ((p,w) :: P.zip vs) m p=_
  unfold bindC
  rw [xH fun v hv=>(List.nodup_cons.mp nd).1 (List.of_mem_zip hv).1,if_neg hk]
  simp
 | p :: P,w :: vs,i + 1,m,nd,h1,h2,hk=>by
  show bindC kindOf ((p,w) :: P.zip vs) m x=_
  unfold bindC
  exact xB (i:=i) (List.nodup_cons.mp nd).2 (by simpa using h1) (by simpa using h2) hk
def start (N:List Str) (vs:List V):St:=vs.map some ++ List.replicate (N.length - vs.length) none
def tU (CX:yZ) (P:Program) (w:World) (K:PySem.W.Frag) (mg:Str->Option Value) (base:Heap) (N:List Str) (qual:Str) (scope:Scope) (f:Addr) (cd:Value) (A:Around) (outer:List Env) (s:Shared) (H:Hp) (E:XK):Cx where
 prog:=P
 w:=w
 K:=K
 mg:=mg
 base:=base
 A:=A.deeper (envOfC qual scope s.heap.objs.size f cd)
 N:=N
 s₀:=s
 H₀:=H
 env:=envOfC qual scope s.heap.objs.size f cd
 outer:=outer
 stack:=envOfC qual scope s.heap.objs.size f cd :: outer
 ex:=[]
 calm:=true
 fn:=fun _=>true
 pn:=[]
 xe:=fun e s'=>wpAny (model P w) (A.deeper (envOfC qual scope s.heap.objs.size f cd)) (leaving (envOfC qual scope s.heap.objs.size f cd) e) (fun _ s''=>CX outer H s E e s'') (fun e' s''=>CX outer H s E e' s'') s'
theorem Ce {sc:Scope}{n:Nat}{x:Str} (h:sc.names.lookup x=some .cell):∃ c,(cellsFrom n sc.names []).lookup x=some c:=by
 have q:=PySem.W.cellsFrom_some sc.names n [] (.inl h)
 exact Option.isSome_iff_exists.mp q
theorem Ie {CX:yZ}{P:Program}{w:World}{K:PySem.W.Frag}{mg:Str->Option Value}{base:Heap}{N ps:List Str}{qual:Str}{scope:Scope}{f:Addr}{cd:Value}{A:Around}{outer:List Env}{s s1:Shared}{H:Hp}{E:XK}{us:List Value}{vs:List V}
  (S:aO N ps scope) (hd:A.handled=none) (e0:vY P w K mg base A outer s H) (hl:vs.length=ps.length) (r:bL vs us)
  (x:InCallC s s.heap.objs.size (bindL (envOfC qual scope s.heap.objs.size f cd).kindOf (ps.zip us) fun _=>none) (cellsFrom (s.heap.objs.size + 1) scope.names []) (bindC (envOfC qual scope s.heap.objs.size f cd).kindOf (ps.zip us) fun _=>none) s1) :
  aZ (tU CX P w K mg base N qual scope f cd A outer s H E) [] (start N vs) H s1:=by
 have hpl:ps.length <= N.length:=by have:=congrArg List.length S.pre; rw [List.length_take] at this; omega
 obtain ⟨h1,tk,rfl,hk⟩:=x.done
 have noA:∀ b:Addr,b ∉ (tU CX P w K mg base N qual scope f cd A outer s H E).ex:=fun b z=>absurd (show b ∈ ([]:List Addr) from z) (by simp)
 refine ⟨⟨e0.mod,S.kind,rfl,rfl,Nat.le_refl _,fun y z c h1 h2=>?_,fun y hy=>?_,fun y c _ h=>?_,fun _=>hd,Around.frames_deeper e0.frames,.inr ⟨rfl,rfl⟩,fun b z=>absurd z (noA b),e0.bs,e0.bsz,fun b _ _=>noA b,fun b z=>absurd z (noA b),e0.funs,e0.frf⟩,
  rfl,e0.bare,Un.kept hk,⟨_,x.toInCall.ns,fun i y v h1 h2 h3=>?_⟩,fun y c h=>⟨_,x.cell y c h⟩,e0.hok.fresh (Nat.le_refl _),fun y c h=>?_,fun p hp=>absurd (show p ∈ ([]:List (Addr × Obj)) from hp) (by simp),e0.hok.kept hk,?_⟩
 ·exact name_of_addr x.apart (PySem.mem_of_lookup h1) (PySem.mem_of_lookup h2)
 ·have hy:scope.names.lookup y=some .cell ∨ scope.names.lookup y=some .free:=hy
  rcases hy with hy | hy
  ·exact Ce hy
  ·exact absurd rfl (S.nofree _ (PySem.mem_of_lookup hy))
 ·exact Nat.le_of_lt (x.above y c (PySem.mem_of_lookup h))
 ·have hi:i < vs.length:=by
   unfold start at h2
   by_cases hi:i < vs.length
   ·exact hi
   ·rw [List.getElem?_append_right (by simpa using hi)] at h2
    rw [List.getElem?_replicate] at h2
    split at h2 <;> cases h2
  have ha:vs[i]? = some v:=by
   unfold start at h2
   rw [List.getElem?_append_left (by simpa using hi),List.getElem?_map] at h2
   cases e:vs[i]? with
   | none=>rw [e] at h2; cases h2
   | some a=>rw [e] at h2; cases h2; rfl
  obtain ⟨u,hu,rv⟩:=r.get ha
  have hp:ps[i]? = some y:=by
   rw [<- S.pre,List.getElem?_take_of_lt (by omega)]; exact h1
  have ndP:ps.Nodup:=by rw [<- S.pre]; exact S.nd.sublist (List.take_sublist _ _)
  refine ⟨u,rv,?_⟩
  rcases S.par y (List.mem_of_getElem? hp) with k | k
  ·exact .inl ⟨k,yL ndP hp hu k⟩
  ·obtain ⟨c,e⟩:=Ce (n:=s.heap.objs.size + 1) k
   refine .inr ⟨.inl k,c,e,?_⟩
   have q:=x.cell y c e
   rw [xB ndP hp hu (by show scope.names.lookup y ≠ _; rw [k]; decide)] at q
   exact q
 ·exact e0.hok.fresh (Nat.le_of_lt (x.above y c (PySem.mem_of_lookup h)))
 ·unfold start
  show _=N.length
  rw [List.length_append,List.length_map,List.length_replicate]
  omega
theorem Fd {CX:yZ}{P:Program}{w:World}{K:PySem.W.Frag}{mg:Str->Option Value}{base:Heap}{k:Nat}{f:Addr}{name qual:Str}{params:Arguments}{body:List Stmt}{scope:Scope}{dV kV doc pm cdv ct oc:Value}{an od:Option Addr}
  {osl:Array (Option Value)}{N ps:List Str}{sp:Sp} (lk:K.lookup f=some ⟨oc,od,.func (PySem.W.fnOf name qual params body scope dV kV doc pm an cdv ct),osl⟩) (hcd:PySem.W.codeIn K cdv qual=true) (S:aO N ps scope)
  (len:∀ vs H Q E,sp vs H Q E->vs.length=ps.length)
  (hbody:∀ (A:Around) (outer:List Env) (s:Shared) (H:Hp) (vs:List V) (Q:VK) (E:XK),fD k (A.deeper (envOfC qual scope s.heap.objs.size f cdv))->sp vs H Q E ->
   ∃ t,rT (tU CX P w K mg base N qual scope f cdv A outer s H E) body t /\ t { nx:=fun _ H'=>Q .non H',rt:=Q } (start N vs) H) :
  aV P w K mg base CX (k + 1) f (PySem.W.fnOf name qual params body scope dV kV doc pm an cdv ct) ps sp:=by
 refine ⟨len,fun A outer s H args us vs Q E hr e0 hb r hsp=>?_⟩
 have hl:=len _ _ _ _ hsp
 have KX:K.In s.heap:=e0.mod.kin.keeps fun b o e=>(e0.bs b o e).1
 have lim:s.heap.NoLimit:=e0.mod.nolimit.keeps fun b o e=>(e0.bs b o e).1
 have hkind:∀ y ∈ ps.zip us,scope.names.lookup y.1=some .local ∨ (scope.names.lookup y.1=some .cell /\ ((cellsFrom (s.heap.objs.size + 1) scope.names []).lookup y.1).isSome=true):=fun ⟨n,v⟩ hy=>by
  rcases S.par n (List.of_mem_zip hy).1 with q | q
  ·exact .inl q
  ·exact .inr ⟨q,PySem.W.cellsFrom_some _ _ _ (.inl q)⟩
 refine codeAny_call_function hr.depth (KX _ _ lk) rfl S.co S.gen rfl (PySem.W.codeRec_of KX hcd) (hb _ _ _ _ ?_)
 refine wpAny_newFunctionEnv_cells S.kind hkind fun env he s1 x=>?_
 subst he
 refine ⟨lim.keeps x.toInCall.keep,codeAny_func ?_⟩
 obtain ⟨t,ht,hq⟩:=hbody A outer s H vs Q E (hr.deeper _) hsp
 have I:aZ (tU CX P w K mg base N qual scope f cdv A outer s H E) [] (start N vs) H s1:=Ie S hr.hd e0 hl r x
 refine wpAny_mono (ht [] s1 (start N vs) H _ I hq) (fun fl s' hs=>?_) fun e s' hs=>hs
 have fin:∀ {σ':St}{H':Hp}{v:V}{u:Value},aZ (tU CX P w K mg base N qual scope f cdv A outer s H E) [] σ' H' s'->bJ v u->Q v H'->CE outer P w H s Q u s' :=
  fun {σ' H' v u} J rv q=>⟨v,H',J.os,J.bare,J.base,J.hok,rv,q⟩
 cases fl with
 | ret u =>
  obtain ⟨v,σ',H',J,rv,q⟩:=hs
  exact fin J rv q
 | next =>
  obtain ⟨σ',H',J,q⟩:=hs
  exact fin (v:=V.non) (u:=Value.none) J rfl q
 | brk =>
  obtain ⟨_,_,_,q⟩:=hs
  exact False.elim q
 | cont =>
  obtain ⟨_,_,_,q⟩:=hs
  exact False.elim q
end L2
namespace L2
open PySem PySem.Spec PyProof.Rows
section
variable {X:Cx}{x:Str}{p pos:Pos}{e:Expr}{es:List Expr}{t:TA}{id T:String}{r:List V->Hp->VK->Prop}
def tCB (r:List V->Hp->VK->Prop) (t:TA):TE:=fun σ H Q=>t σ H fun vs H1=>r vs H1 Q
theorem bC (hc:jM X (.builtin id) r) (hg:Gl X x) (hm:X.mg x=none) (hv:bootBuiltins x=some (.builtin id)) (ha:PA X (e :: es) t) (hn:x ≠ "__name__":=by decide) (hdb:(x == ("__debug__" : Str))=false:=by decide)
  (he:starEach (e :: es) X.env=(false,eval e X.env) :: starEach es X.env:=by rfl) (hpl:(backTo pos (starEach es X.env)).any (·.1)=false:=by rfl):PE X (.Call (.Name x p) (e :: es) [] pos) (tCB r t):=by
 intro pins s σ H Q I h
 refine wpAny_Call_Name_kw (qO I hg hm hv ?_ hn hdb)
 exact PyProof.Rows.callWith_builtin1 (dU (ha pos pins s σ H _ I h) fun us s1 ⟨vs,H1,I1,r1,q1⟩=>hc pins s1 σ H1 vs us Q I1 r1 q1) he hpl
theorem eY (hc:jM X (.type T) r) (hg:Gl X x) (hm:X.mg x=none) (hv:bootBuiltins x=some (.type T)) (ha:PA X (e :: es) t) (hn:x ≠ "__name__":=by decide) (hdb:(x == ("__debug__" : Str))=false:=by decide)
  (he:starEach (e :: es) X.env=(false,eval e X.env) :: starEach es X.env:=by rfl) (hpl:(backTo pos (starEach es X.env)).any (·.1)=false:=by rfl):PE X (.Call (.Name x p) (e :: es) [] pos) (tCB r t):=by
 intro pins s σ H Q I h
 refine wpAny_Call_Name_kw (qO I hg hm hv ?_ hn hdb)
 exact PyProof.Rows.callWith_type1 (dU (ha pos pins s σ H _ I h) fun us s1 ⟨vs,H1,I1,r1,q1⟩=>hc pins s1 σ H1 vs us Q I1 r1 q1) he hpl
end
end L2
namespace HT
open PySem PyProof.Rows
section
open PySem.SeqAt
open PySem.AutoSeq1 (wpAny_loadPart')
open PySem.MeetsSeq PySem.MeetsSeq2 PySem.MeetsSeq3
end
section
variable {prog:Program}{w:World}{A:Around}{E:Value->Shared->Prop}{s:Shared}
theorem Mm {t b:Addr}{vs ws:List Value}{Q:Value->Shared->Prop} (ht:IsTup s.heap t vs.toArray) (hb:IsTup s.heap b ws.toArray) (hv:vs ≠ [])
  (h1:ws=[]->Q (.ref t) s) (h2:ws ≠ []->Q (.ref s.heap.objs.size) { s with heap:=s.heap.push { cls:=.type "tuple",data:=.seq (vs ++ ws).toArray } })
  (hsz:vs.length + ws.length <= sizeLine):wpAny (model prog w) A (binaryOp .Add (.ref t) (.ref b)) Q E s:=by
 obtain ⟨⟨cls,dd,data,sl⟩,ho,hc,n,hd⟩:=id ht
 obtain ⟨⟨cls2,dd2,data2,sl2⟩,ho2,hc2,n2,hd2⟩:=id hb
 simp only at hc hd hc2 hd2
 subst hc hd hc2 hd2
 have e:vs.toArray ++ ws.toArray=(vs ++ ws).toArray:=by simp
 by_cases hw:ws=[]
 ·exact concat_meets ⟨_,ho,rfl⟩ ⟨_,ho2,rfl⟩ noFill_tuple_add seq_tuple_add PySem.F.slot_tuple_add PySem.F.entry_tuple_add (PySem.F.args_tuple_add_2 _ _)
   (tuple_addW1 t b vs.toArray ws.toArray n n2 dd dd2 sl sl2 (by simpa using hv) (by simp [hw])) ⟨ho,ho2,h1 hw⟩
 ·refine concat_meets ⟨_,ho,rfl⟩ ⟨_,ho2,rfl⟩ noFill_tuple_add seq_tuple_add PySem.F.slot_tuple_add PySem.F.entry_tuple_add (PySem.F.args_tuple_add_2 _ _)
   (tuple_addW2 t b vs.toArray ws.toArray n n2 dd dd2 sl sl2 (by simpa using hv) (by simpa using hw) (by rw [List.size_toArray,List.size_toArray]; exact hsz)) ⟨ho,ho2,?_⟩
  rw [e]
  exact h2 hw
def gO (n d:Nat):Option Int->Nat
 | none=>d
 | some v=>if v < 0 then (v + (n:Int)).toNat else min v.toNat n
theorem o6 (n d k:Nat):gO n d (some (k:Int))=min k n:=by
 show (if (k:Int) < 0 then ((k:Int) + (n:Int)).toNat else min (k:Int).toNat n)=min k n
 rw [if_neg (by omega),Int.toNat_natCast]
theorem Qv (n d:Nat) (hd:d <= n) (o:Option Int):gO n d o <= n:=by
 cases o with
 | none=>exact hd
 | some v =>
  show (if v < 0 then (v + (n:Int)).toNat else min v.toNat n) <= n
  by_cases hv:v < 0
  ·rw [if_pos hv]; omega
  ·rw [if_neg hv]; exact Nat.min_le_right _ _
theorem Gg (v:Int) (n d:Nat):(if v < 0 then max (v + (n:Int)) 0 else min v (n:Int))=((gO n d (some v):Nat):Int):=by
 show (if v < 0 then max (v + (n:Int)) 0 else min v (n:Int))=(((if v < 0 then (v + (n:Int)).toNat else min v.toNat n):Nat):Int)
 by_cases hv:v < 0
 ·simp only [if_pos hv]; omega
 ·simp only [if_neg hv]; omega
theorem EY (lo hi:Option Int) (n:Nat):Builtin.Slice.sliceAdjust lo hi 1 (n:Int)=(((gO n 0 lo:Nat):Int),((gO n n hi:Nat):Int)):=by
 have h1:¬ ((1:Int) < 0):=by omega
 unfold Builtin.Slice.sliceAdjust
 simp only [h1,if_false]
 refine Prod.ext ?_ ?_
 ·cases lo with
  | none=>rfl
  | some v=>exact Gg v n 0
 ·cases hi with
  | none=>rfl
  | some v=>exact Gg v n n
theorem En (i j:Nat):Builtin.Slice.slicePlaces (i:Int) (j:Int) 1=j - i:=by
 unfold Builtin.Slice.slicePlaces
 have h1:(1:Int) > 0:=by omega
 simp only [h1,if_true,Int.ediv_one]
 split <;> omega
theorem uI {v:Value}{o:Option Int}{Q:Option Int->Shared->Prop} (p:IsPart v o) (h:Q o s):wpAny (model prog w) A (Builtin.Slice.slicePartIndex v) Q E s:=by
 cases p with
 | none=>exact slicePart_none h
 | int i t=>exact slicePart_int h
theorem qG {sl:Addr}{vl vu:Value}{lo hi:Option Int}{n:Nat}{Q:Int × Int × Nat->Shared->Prop} (hs:s.heap.IsSliceOf sl vl vu .none) (pl:IsPart vl lo) (pu:IsPart vu hi)
  (h:Q (((gO n 0 lo:Nat):Int),1,gO n n hi - gO n 0 lo) s):wpAny (model prog w) A (Builtin.Slice.sliceApplied (.ref sl) (pure (n:Int))) Q E s:=by
 obtain ⟨os,hos,hcs,hds⟩:=id hs
 unfold Builtin.Slice.sliceApplied Builtin.Slice.sliceFields
 refine wpAny_bind (wpAny_bind (wpAny_field hos hds (x:=vl) rfl (wpAny_bind (wpAny_field hos hds (x:=vu) rfl (wpAny_bind (wpAny_field hos hds (x:=.none) rfl (wpAny_pure ?_)))))))
 refine wpAny_bind (slicePart_none ?_)
 show wpAny _ _ (if ((1:Int) == 0)=true then _ else _) _ _ s
 rw [if_neg (by decide)]
 refine wpAny_bind (uI pl (wpAny_bind (uI pu (wpAny_bind (wpAny_pure ?_)))))
 show wpAny _ _ (match Builtin.Slice.sliceAdjust lo hi 1 (n:Int) with | (lo,hi)=>pure (lo,(1:Int),Builtin.Slice.slicePlaces lo hi 1)) _ _ s
 rw [EY lo hi n]
 show wpAny _ _ (pure (((gO n 0 lo:Nat):Int),(1:Int),Builtin.Slice.slicePlaces ((gO n 0 lo:Nat):Int) ((gO n n hi:Nat):Int) 1)) _ _ s
 rw [En]
 exact wpAny_pure h
theorem Kd (xs:Array Value) (i k:Nat):((List.range k).filterMap fun (m:Nat)=>xs[((i:Int) + (m:Int) * 1).toNat]?).toArray=((xs.toList.drop i).take k).toArray:=by
 have e:(fun (m:Nat)=>xs[((i:Int) + (m:Int) * 1).toNat]?)=fun m=>xs[i + m]?:=by
  funext m
  have:((i:Int) + (m:Int) * 1).toNat=i + m:=by omega
  rw [this]
 rw [e]
 have:=pick_run xs i k
 rw [List.filterMap_map] at this
 have e2:((fun x=>xs[x]?) ∘ fun x=>i + x)=fun m=>xs[i + m]?:=rfl
 rw [e2] at this
 rw [this]
theorem o8 {t sl:Addr}{items:Array Value}{vl vu:Value}{lo hi:Option Int}{Q:Value->Shared->Prop} (ht:IsTup s.heap t items) (hs:s.heap.IsSliceOf sl vl vu .none) (pl:IsPart vl lo) (pu:IsPart vu hi)
  (hw:¬ (gO items.size 0 lo=0 /\ gO items.size items.size hi=items.size))
  (h:Q (.ref s.heap.objs.size) { s with heap:=s.heap.push { cls:=.type "tuple",data:=.seq ((items.toList.drop (gO items.size 0 lo)).take (gO items.size items.size hi - gO items.size 0 lo)).toArray } })
  (hsz:items.size <= sizeLine):wpAny (model prog w) A (getItem (.ref t) (.ref sl)) Q E s:=by
 have htake:sizeOk (.seq ((items.toList.drop (gO items.size 0 lo)).take (gO items.size items.size hi - gO items.size 0 lo)).toArray):=by
  show ((items.toList.drop (gO items.size 0 lo)).take (gO items.size items.size hi - gO items.size 0 lo)).toArray.size <= sizeLine
  rw [List.size_toArray,List.length_take,List.length_drop,Array.length_toList]
  omega
 have hj:gO items.size items.size hi <= items.size:=Qv _ _ (Nat.le_refl _) hi
 obtain ⟨os,hos,hcs,hds⟩:=id hs
 have hTs:s.TypeIs (.ref sl) "slice":=⟨os,hos,hcs⟩
 unfold getItem
 try with_reducible refine wpAny_holding ?_
 first | refine wpAny_bind (wpAny_pure ?_) | skip
 refine wpAny_bind (wpAny_sequenceKey ht.typeIs (by decide) ?_)
 refine wpAny_bind (wpAny_callSpecial?_slot (name:=Str.ofString "__getitem__") ht.typeIs PyProof.Rows.slot_tuple_getitem
  (wpAny_call_entry PyProof.Rows.slot_tuple_getitem ht.typeIs entry_tuple_getitem ?_ (args_tuple_getitem _ _)))
 show wpAny _ _ (Builtin.Tuple.tupleItemsOf (.ref t) >>= _) _ _ s
 refine wpAny_bind (tupleItemsOf_ ht ?_)
 refine wpAny_bind (wpAny_typeOf hTs ?_)
 rw [if_pos (by decide)]
 refine wpAny_bind (qG hs pl pu ?_)
 have hno:¬ ((((gO items.size 0 lo:Nat):Int) == 0 && (1:Int) == 1 && (gO items.size items.size hi - gO items.size 0 lo) == items.size)=true):=by
  intro q
  rw [Bool.and_eq_true,Bool.and_eq_true] at q
  have q1:((gO items.size 0 lo:Nat):Int)=0:=eq_of_beq q.1.1
  have q2:gO items.size items.size hi - gO items.size 0 lo=items.size:=eq_of_beq q.2
  exact hw ⟨by omega,by omega⟩
 show wpAny _ _ (if (((gO items.size 0 lo:Nat):Int) == 0 && (1:Int) == 1 && (gO items.size items.size hi - gO items.size 0 lo) == items.size)=true then _ else _) _ _ s
 rw [if_neg hno,Kd]
 first
  | exact wpAny_bind (m:=Builtin.Tuple.tupleExact _) (wpAny_newObj_type (wpAny_pure ⟨_,rfl,wpAny_pure h⟩) htake)
  | exact wpAny_bind (m:=Builtin.Tuple.tupleExact _) (wpAny_newObj_type (wpAny_bind (wpAny_pure (wpAny_pure ⟨_,rfl,wpAny_pure h⟩))) htake)
  | exact wpAny_bind (wpAny_bind (m:=Builtin.Tuple.tupleExact _) (wpAny_newObj_type (wpAny_pure (wpAny_pure ⟨_,rfl,wpAny_pure h⟩)) htake))
  | exact wpAny_bind (wpAny_bind (m:=Builtin.Tuple.tupleExact _) (wpAny_newObj_type (wpAny_pure ⟨_,rfl,wpAny_pure h⟩) htake))
end
end HT
namespace L2
open PySem PySem.Spec PyProof.Rows
abbrev TO:=St->Hp->(Option Int->Hp->Prop)->Prop
def PO (X:Cx) (e:Option Expr) (t:TO):Prop :=
 ∀ (pins:List (Addr × Obj)) (s:Shared) (σ : St) (H:Hp) (Q:Option Int->Hp->Prop),aZ X pins σ H s->t σ H Q ->
  wpAny (model X.prog X.w) X.A (evalPart e X.env) (fun u s'=>∃ o H',aZ X pins σ H' s' /\ IsPart u o /\ Q o H') X.xe s
def Mi:TO:=fun _ H Q=>Q none H
def Ry (t:TE):TO:=fun σ H Q=>t σ H fun x H1=>∃ i,x = .int i /\ Q (some i) H1
theorem vA {ns:List Int}:∀ {us:List Value},bL (ns.map V.int) us->IntsAre us ns:=by
 induction ns with
 | nil=>intro us r; rw [List.map_nil] at r; cases r; exact .nil
 | cons n ns ih =>
  intro us r
  rw [List.map_cons] at r
  cases r with
  | cons r1 r2 =>
   obtain ⟨t,e⟩:=r1
   subst e
   exact .cons n t (ih r2)
section
variable {X:Cx}{e:Expr}{te:TE}{lo hi:Option Expr}{tl th:TO}{pos p2:Pos}
theorem Ge:PO X none Mi:=by
 intro pins s σ H Q I h
 rw [evalPart_none]
 exact wpAny_pure ⟨none,H,I,.none,h⟩
theorem tK (h:PE X e te):PO X (some e) (Ry te):=by
 intro pins s σ H Q I hw
 rw [evalPart_some]
 refine dU (h pins s σ H _ I hw) fun u s1 ⟨x,H1,I1,r1,q1⟩=>?_
 obtain ⟨i,rfl,q⟩:=q1
 obtain ⟨t,rfl⟩:=r1
 exact ⟨some i,H1,I1,.int i t,q⟩
def Zf (X:Cx) (r:V->Option Int->Option Int->Hp->VK->Prop):Prop :=
 ∀ (pins:List (Addr × Obj)) (s:Shared) (σ : St) (H:Hp) (x:V) (v vl vu:Value) (lo hi:Option Int) (sl:Addr) (Q:VK),aZ X pins σ H s->bJ x v->s.heap.IsSliceOf sl vl vu .none->IsPart vl lo->IsPart vu hi->r x lo hi H Q ->
  ∃ T id,typeLookup (.type T) "__getitem__" = pure (some (.builtin id)) /\ s.TypeIs v T /\ wpAny (model X.prog X.w) X.A (getItem v (.ref sl)) (EP X pins σ Q) X.xe s
def tSl (r:V->Option Int->Option Int->Hp->VK->Prop) (te:TE) (tl th:TO):TE:=fun σ H Q=>te σ H fun x H1=>tl σ H1 fun l H2=>th σ H2 fun u H3=>r x l u H3 Q
theorem vB {r:V->Option Int->Option Int->Hp->VK->Prop} (hr:Zf X r) (he:PE X e te) (hl:PO X lo tl) (hu:PO X hi th):PE X (.Subscript e (.Slice lo hi none p2) pos) (tSl r te tl th):=by
 intro pins s σ H Q I h
 refine Subscript_ (dU (he pins s σ H _ I h) fun v s1 ⟨x,H1,I1,r1,q1⟩=>?_)
 refine wpAny_Slice (dU (hl pins s1 σ H1 _ I1 q1) fun vl s2 ⟨l,H2,I2,pl,q2⟩=>dU (hu pins s2 σ H2 _ I2 q2) fun vu s3 ⟨u,H3,I3,pu,q3⟩=>?_)
 rw [evalPart_none]
 refine wpAny_pure ?_
 have I4:aZ X pins σ H3 { s3 with heap:=s3.heap.push { cls:=.type "slice",data:=.fields #[vl,vu,.none] } }:=I3.kept (t':=s3.toks) fun b ob q=>Heap.get?_push_of_some _ q
 obtain ⟨T,id,hT,ht,hg⟩:=hr pins { s3 with heap:=s3.heap.push { cls:=.type "slice",data:=.fields #[vl,vu,.none] } } σ H3 x v vl vu l u s3.heap.objs.size Q I4 r1 (Heap.IsSliceOf.new ..) pl pu q3
 show wpAny (model X.prog X.w) X.A (subscriptTail e (.Slice lo hi none p2) v (.ref s3.heap.objs.size)) (EP X pins σ Q) X.xe { s3 with heap:=s3.heap.push { cls:=.type "slice",data:=.fields #[vl,vu,.none] } }
 exact tail_any (ops:=[.ref s3.heap.objs.size,v]) ht hT hg (by with_unfolding_all rfl)
def iV (xs:List V) (lo hi:Option Int):List V:=(xs.drop (HT.gO xs.length 0 lo)).take (HT.gO xs.length xs.length hi - HT.gO xs.length 0 lo)
theorem q9 (xs:List V) (lo hi:Option Int):(iV xs lo hi).length <= xs.length:=by
 unfold iV
 rw [List.length_take,List.length_drop]
 omega
def aAl (K:PySem.W.Frag):V->Option Int->Option Int->Hp->VK->Prop:=fun x lo hi H Q=>∃ a xs,x = .ref a /\ bQ K H a xs ∧
 ¬ (HT.gO xs.length 0 lo=0 /\ HT.gO xs.length xs.length hi=xs.length) /\ ∀ p,H p=none->Q (.ref p) (aY H p (.tup (iV xs lo hi)))
theorem Jl:Zf X (aAl X.K):=by
 intro pins s σ H x v vl vu lo hi sl Q I rx hs pl pu h
 obtain ⟨a,xs,rfl,hx,hw,q⟩:=h
 cases rx
 obtain ⟨its,r,ht,hz⟩:=I.tuple hx
 have hlen:its.toArray.size=xs.length:=by rw [List.size_toArray]; exact r.length.symm
 refine ⟨"tuple",_,PyProof.Rows.slot_tuple_getitem.lookup,ht.typeIs,?_⟩
 refine HT.o8 ht hs pl pu (by rw [hlen]; exact hw) ?_ (by rw [hlen]; exact hz)
 rw [hlen]
 refine ⟨.ref s.heap.objs.size,_,I.laid (t':=s.toks) (o:=.tup (iV xs lo hi)) (fun b ob q=>Heap.get?_push_of_some _ q) (Nat.le_refl _) ?_,rfl,q _ (I.hok.fresh (Nat.le_refl _))⟩
 exact ⟨Nat.le_trans (q9 xs lo hi) hz,_,(r.drop (HT.gO xs.length 0 lo)).take (HT.gO xs.length xs.length hi - HT.gO xs.length 0 lo),IsTup.new _ _⟩
def Xq (K:PySem.W.Frag):R2:=fun x y H Q=>∃ a b xs ys,x = .ref a /\ y = .ref b /\ bQ K H a xs /\ bQ K H b ys /\ xs ≠ [] /\ xs.length + ys.length <= sizeLine ∧
 (ys=[]->Q (.ref a) H) /\ (ys ≠ []->∀ p,H p=none->Q (.ref p) (aY H p (.tup (xs ++ ys))))
theorem bL.nil_iff {xs:List V}{us:List Value} (r:bL xs us):us=[] ↔ xs=[]:=by
 cases r with
 | nil=>simp
 | cons _ _=>simp
theorem MP:nZ X (binaryOp .Add) (Xq X.K):=by
 intro pins s σ H x y v u Q I rx ry h
 obtain ⟨a,b,xs,ys,rfl,rfl,ha,hb,hx,hz,q1,q2⟩:=h
 cases rx
 cases ry
 obtain ⟨its,r1,p1,_⟩:=I.tuple ha
 obtain ⟨its2,r2,p2,_⟩:=I.tuple hb
 refine HT.Mm p1 p2 (fun z=>hx (r1.nil_iff.mp z)) (fun z=>⟨.ref a,H,I,rfl,q1 (r2.nil_iff.mp z)⟩) (fun z=>?_) (by rw [<- r1.length,<- r2.length]; exact hz)
 refine ⟨.ref s.heap.objs.size,_,I.laid (t':=s.toks) (o:=.tup (xs ++ ys)) (fun b ob q=>Heap.get?_push_of_some _ q) (Nat.le_refl _) ?_,rfl,q2 (fun w=>z (r2.nil_iff.mpr w)) _ (I.hok.fresh (Nat.le_refl _))⟩
 exact ⟨by rw [List.length_append]; exact hz,_,r1.append r2,IsTup.new _ _⟩
end
end L2
namespace L2
open PySem PySem.Spec PyProof.Rows
def Nq (n:Nat) (i:Int):Option Nat:=if 0 <= i then (if i < n then some i.toNat else none) else if -(n:Int) <= i then some (i + n).toNat else none
def Io {α : Type} (xs:List α) (i:Int):Option α:=(Nq xs.length i).bind fun j=>xs[j]?
theorem FN {n:Nat}{i:Int}{j:Nat} (h:Nq n i=some j):seqIndex? i n=some j /\ j < n /\ -(n:Int) <= i /\ i < n:=by
 unfold Nq at h
 by_cases h0:0 <= i
 ·rw [if_pos h0] at h
  by_cases h1:i < n
  ·rw [if_pos h1] at h
   have e:i.toNat=j:=Option.some.inj h
   exact ⟨by rw [seqIndex_of h0 h1,e],by omega,by omega,h1⟩
  ·rw [if_neg h1] at h; cases h
 ·rw [if_neg h0] at h
  by_cases h1:-(n:Int) <= i
  ·rw [if_pos h1] at h
   have e:(i + n).toNat=j:=Option.some.inj h
   exact ⟨by rw [seqIndex_neg (by omega) h1,e],by omega,h1,by omega⟩
  ·rw [if_neg h1] at h; cases h
theorem Ez {α : Type}{xs:List α}{i:Int}{v:α} (h:Io xs i=some v):∃ j,seqIndex? i xs.length=some j /\ xs[j]? = some v /\ j < xs.length /\ -(xs.length:Int) <= i /\ i < xs.length:=by
 unfold Io at h
 cases e:Nq xs.length i with
 | none=>rw [e] at h; cases h
 | some j =>
  rw [e] at h
  obtain ⟨h1,h2,h3,h4⟩:=FN e
  exact ⟨j,h1,h,h2,h3,h4⟩
theorem fU {α : Type}{xs:List α}{j:Nat}{v:α} (h:xs[j]? = some v):Io xs (j:Int)=some v:=by
 have hj:j < xs.length:=(List.getElem?_eq_some_iff.mp h).1
 have e:Nq xs.length (j:Int)=some j:=by
  unfold Nq
  rw [if_pos (by omega),if_pos (by omega)]; simp
 unfold Io; rw [e]; exact h
def Mg (b:Expr):Prop:=∀ o i,subscripted b false o i=operate [o,i] (getItem o i)
def Va (X:Cx) (r:R2):Prop :=
 ∀ (value slice:Expr) (pins:List (Addr × Obj)) (s:Shared) (σ : St) (H:Hp) (x y:V) (v u:Value) (Q:VK),aZ X pins σ H s->bJ x v->bJ y u->r x y H Q ->
  subscripted slice false v u=operate [v,u] (getItem v u)->wpAny (model X.prog X.w) X.A (subscriptTail value slice v u) (EP X pins σ Q) X.xe s
def MtR (X:Cx) (id:String) (r:V->List V->Hp->VK->Prop):Prop :=
 ∀ (pins:List (Addr × Obj)) (s:Shared) (σ : St) (H:Hp) (x:V) (xs:List V) (v:Value) (us:List Value) (Q:VK),aZ X pins σ H s->bJ x v->bL xs us->r x xs H Q ->
  wpAny (model X.prog X.w) X.A (call (.builtin id) (v :: us)) (EP X pins σ Q) X.xe s
section
variable {X:Cx}{a b:Expr}{ta tb:TE}{pos:Pos}
theorem bA {r:R2} (hr:Va X r) (ha:PE X a ta) (hb:PE X b tb) (hs:Mg b):PE X (.Subscript a b pos) (Te r ta tb):=by
 intro pins s σ H Q I h
 exact Subscript_ (Pq ha hb I h fun v u s2 x y H2 I2 rx ry q=>hr a b pins s2 σ H2 x y v u Q I2 rx ry q (hs _ _))
def Wg (K:PySem.W.Frag):R2:=fun x y H Q=>∃ p xs i v,x = .ref p /\ y = .int i /\ bR K H p xs /\ Io xs i=some v /\ Q v H
def VB (K:PySem.W.Frag):R2:=fun x y H Q=>∃ p xs i v,x = .ref p /\ y = .int i /\ bQ K H p xs /\ Io xs i=some v /\ Q v H
theorem eN:Va X (Wg X.K):=by
 intro value slice pins s σ H x y v u Q I rx ry h hs
 obtain ⟨p,xs,i,z,rfl,rfl,hq,he,q⟩:=h
 cases rx
 obtain ⟨t,rfl⟩:=ry
 obtain ⟨its,r,pl,hz⟩:=I.list hq
 obtain ⟨j,h1,h2,h3,h4,h5⟩:=Ez he
 obtain ⟨w,ew,rw'⟩:=r.get h2
 have hl:=r.length
 have hn:=zF
 have fin:EP X pins σ Q w s:=⟨z,H,I,rw',q⟩
 by_cases h0:0 <= i
 ·have hj:i.toNat=j:=by
   rw [seqIndex_of h0 h5] at h1
   exact Option.some.inj h1
  exact item_listR pl.isList h0 (by omega) (by rw [hj]; simpa using ew) fin hs
 ·have hj:(i + (its.toArray.size:Int)).toNat=j:=by
   rw [seqIndex_neg (by omega) h4] at h1
   rw [List.size_toArray,<- hl]
   exact Option.some.inj h1
  exact subscriptTail_builtinR (x:=w) pl.isList.typeIs slot_list_getitem.lookup
   (wpAny_getItem_list_neg (Q:=fun r s'=>r=w /\ EP X pins σ Q r s') pl.isList (by omega) (by rw [List.size_toArray] <;> omega) (by omega) (by rw [hj]; simpa using ew) ⟨rfl,fin⟩) hs
theorem bB:Va X (VB X.K):=by
 intro value slice pins s σ H x y v u Q I rx ry h hs
 obtain ⟨p,xs,i,z,rfl,rfl,hq,he,q⟩:=h
 cases rx
 obtain ⟨t,rfl⟩:=ry
 obtain ⟨its,r,pl,hz⟩:=I.tuple hq
 obtain ⟨j,h1,h2,h3,h4,h5⟩:=Ez he
 obtain ⟨w,ew,rw'⟩:=r.get h2
 have hl:=r.length
 have hn:=zF
 have fin:EP X pins σ Q w s:=⟨z,H,I,rw',q⟩
 exact subscriptTail_builtinR (x:=w) pl.typeIs slot_tuple_getitem.lookup
  (getItem_tuple (j:=j) (Q:=fun r s'=>r=w /\ EP X pins σ Q r s') pl (by omega) (by omega) (by rw [List.size_toArray,<- hl]; exact h1) (by simpa using ew) ⟨rfl,fin⟩) hs
theorem Ec (its:List Value) (n j:Nat) (u:Value):Obj.mapSeq (·.setIfInBounds j u) { cls:=.type "list",data:=.seq its.toArray n } = { cls:=.type "list",data:=.seq (its.set j u).toArray n }:=by
 simp [Obj.mapSeq]
theorem aZ.lst {pins:List (Addr × Obj)}{σ : St}{H:Hp}{s:Shared}{p:Addr}{xs:List V} (I:aZ X pins σ H s) (h:H p=some (.lst xs)) :
  ∃ (its:List Value) (n:Nat),bL xs its /\ s.heap.get? p=some { cls:=.type "list",data:=.seq its.toArray n } /\ xs.length <= sizeLine:=by
 obtain ⟨z,its,n,r,e⟩:=I.hok p _ h
 exact ⟨its,n,r,e,z⟩
theorem aZ.lstUpd {pins:List (Addr × Obj)}{σ : St}{H:Hp}{s:Shared}{p:Addr}{xs ys:List V}{its its':List Value}{n n':Nat}{f:Obj->Obj} (I:aZ X pins σ H s) (h:H p=some (.lst xs))
  (ho:s.heap.get? p=some { cls:=.type "list",data:=.seq its.toArray n }) (hf:f { cls:=.type "list",data:=.seq its.toArray n } = { cls:=.type "list",data:=.seq its'.toArray n' }) (r:bL ys its') (hz:ys.length <= sizeLine) (t:Nat) :
  aZ X pins σ (aY H p (.lst ys)) { s with heap:=s.heap.update p f,toks:=t }:=by
 have e:(s.heap.update p f).get? p=some { cls:=.type "list",data:=.seq its'.toArray n' }:=by
  rw [Heap.get?_update_self f ho (by rw [hf] <;> rfl),hf]
 refine I.write (x:=p) (e:=p) (by rw [h]; trivial) (.inl rfl) (fun b u hb q=>(Heap.get?_update_other _ _ (Ne.symm hb)).trans q) ⟨_,e⟩ ?_
 exact ⟨hz,its',n',r,e⟩
def X3:V->V->V->Hp->(Hp->Prop)->Prop:=fun o i v H Q=>∃ p xs k j,o = .ref p /\ i = .int k /\ H p=some (.lst xs) /\ Nq xs.length k=some j /\ Q (aY H p (.lst (xs.set j v)))
theorem u6:S8 X X3:=by
 intro pins s σ H o i v ov iv u Q I ro ri rv h
 obtain ⟨p,xs,k,j,rfl,rfl,hp,hj,q⟩:=h
 cases ro
 obtain ⟨t,rfl⟩:=ri
 obtain ⟨its,n,r,ho,hz⟩:=I.lst hp
 obtain ⟨h1,h2,h3,h4⟩:=FN hj
 have hl:=r.length
 have hn:=zF
 have I':aZ X pins σ (aY H p (.lst (xs.set j v))) { s with heap:=s.heap.update p (Obj.mapSeq (·.setIfInBounds j u)) } :=
  I.lstUpd hp ho (Ec its n j u) (r.set rv j) (by rw [List.length_set]; exact hz) s.toks
 by_cases h0:0 <= k
 ·have hk:k.toNat=j:=by
   rw [seqIndex_of h0 h4] at h1
   exact Option.some.inj h1
  exact PySem.W.ki_setAt ho h0 (by omega) (by rw [List.size_toArray,<- hl]; exact h4) (by rw [hk]; exact ⟨_,I',q⟩)
 ·have hk:(k + (its.toArray.size:Int)).toNat=j:=by
   rw [seqIndex_neg (by omega) h3] at h1
   rw [List.size_toArray,<- hl]
   exact Option.some.inj h1
  exact PySem.W.ki_setBack ho (by omega) (by rw [List.size_toArray,<- hl]; exact h3) (by omega) (by rw [hk]; exact ⟨_,I',q⟩)
theorem Af (lo hi:Option Int) (n:Nat):(sliceBounds lo hi none n).1=((HT.gO n 0 lo:Nat):Int) /\ (sliceBounds lo hi none n).2.1=((HT.gO n n hi:Nat):Int) /\ (sliceBounds lo hi none n).2.2=1:=by
 refine ⟨?_,?_,rfl⟩
 ·cases lo with
  | none=>simp [sliceBounds,HT.gO]
  | some i =>
   simp only [sliceBounds,HT.gO,Option.getD_none,show (1:Int) > 0 by decide,if_true]
   by_cases h:i < 0
   ·simp only [h,if_true] <;> omega
   ·simp only [h,if_false] <;> omega
 ·cases hi with
  | none=>simp [sliceBounds,HT.gO]
  | some i =>
   simp only [sliceBounds,HT.gO,Option.getD_none,show (1:Int) > 0 by decide,if_true]
   by_cases h:i < 0
   ·simp only [h,if_true] <;> omega
   ·simp only [h,if_false] <;> omega
theorem wG (its:List Value) (lo hi:Option Int):slicePick its.toArray lo hi none=((its.drop (HT.gO its.length 0 lo)).take (HT.gO its.length its.length hi - HT.gO its.length 0 lo)).toArray:=by
 obtain ⟨h1,h2,h3⟩:=Af lo hi its.toArray.size
 unfold slicePick
 rw [h1,h2,h3]
 simp only [sliceRange_one,pick_run,List.size_toArray] <;> rfl
def aBb (K:PySem.W.Frag):V->Option Int->Option Int->Hp->VK->Prop:=fun x lo hi H Q=>∃ a xs,x = .ref a /\ bR K H a xs /\ ∀ p,H p=none->Q (.ref p) (aY H p (.lst (iV xs lo hi)))
theorem Nm:Zf X (aBb X.K):=by
 intro pins s σ H x v vl vu lo hi sl Q I rx hs pl pu h
 obtain ⟨a,xs,rfl,hx,q⟩:=h
 cases rx
 obtain ⟨its,r,ht,hz⟩:=I.list hx
 have hlen:=r.length
 refine ⟨"list",_,slot_list_getitem.lookup,ht.isList.typeIs,?_⟩
 refine wpAny_getItem_list_slice ht.isList hs pl pu .none (by simp) ?_ (by rw [List.size_toArray] <;> omega)
 rw [wG,<- hlen]
 refine ⟨.ref s.heap.objs.size,_,I.laid (t':=s.toks) (o:=.lst (iV xs lo hi)) (fun b ob q=>Heap.get?_push_of_some _ q) (Nat.le_refl _) ?_,rfl,q _ (I.hok.fresh (Nat.le_refl _))⟩
 exact ⟨Nat.le_trans (q9 xs lo hi) hz,_,0,(r.drop (HT.gO xs.length 0 lo)).take (HT.gO xs.length xs.length hi - HT.gO xs.length 0 lo),Heap.get?_push_size _ rfl⟩
def pU:V->Bool
 | .non=>true
 | .bl _=>true
 | .int _=>true
 | .str _=>true
 | _=>false
def O4:V->V->Bool
 | .non,.non=>true
 | .bl a,.bl b=>a == b
 | .bl a,.int b=>(if a then 1 else 0) == b
 | .int a,.bl b=>a == (if b then 1 else 0)
 | .int a,.int b=>a == b
 | .str a,.str b=>a == b
 | _,_=>false
theorem Qh {A:Around}{s:Shared}{y x:V}{u v:Value} (ry:bJ y u) (rx:bJ x v) (fy:pU y=true) (fx:pU x=true):SeqAt.EqAt A s u v (O4 y x):=by
 cases y with
 | non =>
  cases ry
  cases x with
  | non=>cases rx; exact SeqAt.EqAt.same _
  | bl b=>cases rx; exact SeqAt.EqAt.none_bool b
  | int b=>obtain ⟨t,rfl⟩:=rx; exact SeqAt.EqAt.none_int b t
  | str b=>obtain ⟨t,rfl⟩:=rx; exact SeqAt.EqAt.none_str b t
  | _=>exact absurd (show false=true from fx) Bool.false_ne_true
 | bl a =>
  cases ry
  cases x with
  | non=>cases rx; exact SeqAt.EqAt.bool_none a
  | bl b=>cases rx; exact SeqAt.EqAt.bool_bool a b
  | int b=>obtain ⟨t,rfl⟩:=rx; exact SeqAt.EqAt.bool_int a b t
  | str b=>obtain ⟨t,rfl⟩:=rx; exact SeqAt.EqAt.bool_str a b t
  | _=>exact absurd (show false=true from fx) Bool.false_ne_true
 | int a =>
  obtain ⟨t',rfl⟩:=ry
  cases x with
  | non=>cases rx; exact SeqAt.EqAt.int_none a t'
  | bl b=>cases rx; exact SeqAt.EqAt.int_bool a t' b
  | int b=>obtain ⟨t,rfl⟩:=rx; exact SeqAt.EqAt.int_int a t' b t
  | str b=>obtain ⟨t,rfl⟩:=rx; exact SeqAt.EqAt.int_str a t' b t
  | _=>exact absurd (show false=true from fx) Bool.false_ne_true
 | str a =>
  obtain ⟨t',rfl⟩:=ry
  cases x with
  | non=>cases rx; exact SeqAt.EqAt.str_none a t'
  | bl b=>cases rx; exact SeqAt.EqAt.str_bool a t' b
  | int b=>obtain ⟨t,rfl⟩:=rx; exact SeqAt.EqAt.str_int a t' b t
  | str b=>obtain ⟨t,rfl⟩:=rx; exact SeqAt.EqAt.str_str a t' b t
  | _=>exact absurd (show false=true from fx) Bool.false_ne_true
 | _=>exact absurd (show false=true from fy) Bool.false_ne_true
def MN (x:V) (u:Value):Bool:=match u with
 | .none=>O4 .non x
 | .bool b=>O4 (.bl b) x
 | .int i _=>O4 (.int i) x
 | .str z _=>O4 (.str z) x
 | _=>false
theorem J4 {x y:V}{u:Value} (r:bJ y u) (f:pU y=true):MN x u=O4 y x:=by
 cases y with
 | non=>cases r; rfl
 | bl b=>cases r; rfl
 | int i=>obtain ⟨t,rfl⟩:=r; rfl
 | str z=>obtain ⟨t,rfl⟩:=r; rfl
 | _=>exact absurd (show false=true from f) Bool.false_ne_true
theorem z9 {x:V}:∀ {xs:List V}{us:List Value},bL xs us->xs.all pU=true->us.any (MN x)=xs.any fun y=>O4 y x
 | _,_,.nil,_=>rfl
 | y :: xs,u :: us,.cons r t,f=>by
  rw [List.all_cons,Bool.and_eq_true] at f
  rw [List.any_cons,List.any_cons,J4 r f.1,z9 t f.2]
theorem uG {A:Around}{s:Shared}{x:V}{v:Value} (rx:bJ x v) (fx:pU x=true):∀ {xs:List V}{us:List Value},bL xs us->xs.all pU=true->∀ u ∈ us,SeqAt.EqAt A s u v (MN x u)
 | _,_,.nil,_=>fun u hu=>by cases hu
 | y :: xs,u :: us,.cons r t,f=>fun u' hu=>by
  rw [List.all_cons,Bool.and_eq_true] at f
  rcases List.mem_cons.mp hu with rfl | hu
  ·rw [J4 r f.1]; exact Qh r rx f.1 fx
  ·exact uG rx fx t f.2 u' hu
def RD (x:V) (xs:List V):Bool:=xs.any fun y=>O4 y x
def rIn (K:PySem.W.Frag) (neg:Bool):R2:=fun x y H Q=>∃ p xs,y = .ref p /\ (bR K H p xs ∨ bQ K H p xs) /\ pU x=true /\ xs.all pU=true /\ Q (.bl (if neg then !RD x xs else RD x xs)) H
theorem o9:nZ X (compareOp .NotIn) (rIn X.K true):=by
 intro pins s σ H x y v u Q I rx ry h
 obtain ⟨p,xs,rfl,hq,fx,fs,q⟩:=h
 cases ry
 rcases hq with hq | hq
 ·obtain ⟨its,r,pl,hz⟩:=I.list hq
  refine SeqAt.notIn_listAt (MN x) pl.isList (fun w hw=>uG rx fx r fs w (by simpa using hw)) ⟨.bl _,H,I,rfl,?_⟩
  rw [show its.toArray.any (MN x)=its.any (MN x) by simp,z9 r fs]
  exact q
 ·obtain ⟨its,r,pl,hz⟩:=I.tuple hq
  refine SeqAt.notIn_tupleAt (MN x) pl (fun w hw=>uG rx fx r fs w (by simpa using hw)) ⟨.bl _,H,I,rfl,?_⟩
  rw [show its.toArray.any (MN x)=its.any (MN x) by simp,z9 r fs]
  exact q
theorem cX:jM X (.builtin "len") (fun xs H Q=>∃ p ys,xs=[.ref p] /\ (bR X.K H p ys ∨ bQ X.K H p ys) /\ Q (.int ys.length) H):=by
 intro pins s σ H xs us Q I r h
 obtain ⟨p,ys,rfl,hq,q⟩:=h
 obtain ⟨u,rfl,rx⟩:=lO r
 cases rx
 have hn:=zF
 rcases hq with hq | hq
 ·obtain ⟨its,r',pl,hz⟩:=I.list hq
  have hlen:=r'.length
  exact Calls.call_len_list pl.isList (by simp only [List.size_toArray] <;> omega) ⟨.int ys.length,H,I.tok _,⟨s.toks + 1,by rw [List.size_toArray,hlen]⟩,q⟩
 ·obtain ⟨its,r',pl,hz⟩:=I.tuple hq
  have hlen:=r'.length
  exact len_tuple pl (by simp only [List.size_toArray] <;> omega) ⟨.int ys.length,H,I.tok _,⟨s.toks + 1,by rw [List.size_toArray,hlen]⟩,q⟩
theorem lA:jM X (.type "list") (fun xs H Q=>∃ p ys,xs=[.ref p] /\ (bR X.K H p ys ∨ bQ X.K H p ys) /\ ∀ l,H l=none->Q (.ref l) (aY H l (.lst ys))):=by
 intro pins s σ H xs us Q I r h
 obtain ⟨p,ys,rfl,hq,q⟩:=h
 obtain ⟨u,rfl,rx⟩:=lO r
 cases rx
 have fin:∀ (its:List Value),bL ys its->ys.length <= sizeLine->∀ (h':Heap) (c':Nat),(∀ b o',s.heap.get? b=some o'->h'.get? b=some o') ->
   h'.get? s.heap.objs.size=some { cls:=.type "list",dict:=none,data:=.seq its.toArray c',slots:=#[] }->EP X pins σ Q (.ref s.heap.objs.size) { s with heap:=h' }:=fun its r' hz h' c' kp e =>
  ⟨.ref s.heap.objs.size,_,I.laid (t':=s.toks) kp (Nat.le_refl _) (show dH X.prog X.w _ h' _ (.lst ys) from ⟨hz,its,c',r',e⟩),rfl,q _ (I.hok.fresh (Nat.le_refl _))⟩
 rcases hq with hq | hq
 ·obtain ⟨its,r',pl,hz⟩:=I.list hq
  have hlen:=r'.length
  obtain ⟨o,ho,hc,n,hd⟩:=pl.isList
  exact call_list_seq p (.inl rfl) ho hc hd (fun h' c' kp e=>fin its r' hz h' c' kp e) (by simp only [List.size_toArray] <;> omega)
 ·obtain ⟨its,r',pl,hz⟩:=I.tuple hq
  have hlen:=r'.length
  obtain ⟨o,ho,hc,n,hd⟩:=pl
  exact call_list_seq p (.inr rfl) ho hc hd (fun h' c' kp e=>fin its r' hz h' c' kp e) (by simp only [List.size_toArray] <;> omega)
theorem vV:jM X (.type "tuple") (fun xs H Q=>∃ p ys,xs=[.ref p] /\ ((bR X.K H p ys /\ ∀ l,H l=none->Q (.ref l) (aY H l (.tup ys))) ∨ (bQ X.K H p ys /\ Q (.ref p) H))):=by
 intro pins s σ H xs us Q I r h
 obtain ⟨p,ys,rfl,h⟩:=h
 obtain ⟨u,rfl,rx⟩:=lO r
 cases rx
 rcases h with ⟨hq,q⟩ | ⟨hq,q⟩
 ·obtain ⟨its,r',pl,hz⟩:=I.list hq
  have hlen:=r'.length
  refine call_tuple_list pl.isList (fun h' kp=>?_) (by simp only [List.size_toArray] <;> omega)
  have I1:aZ X pins σ H { s with heap:=h' }:=I.kept (t':=s.toks) kp
  have I2:aZ X pins σ (aY H h'.objs.size (.tup ys)) { s with heap:=h'.push { cls:=.type "tuple",data:=.seq its.toArray } } :=
   I1.laid (t':=s.toks) (fun b o e=>Heap.get?_push_of_some _ e) (Nat.le_refl _) (show dH X.prog X.w _ _ _ (.tup ys) from ⟨hz,its,r',IsTup.new _ _⟩)
  exact ⟨.ref h'.objs.size,_,I2,rfl,q _ (I1.hok.fresh (Nat.le_refl _))⟩
 ·obtain ⟨its,r',pl,hz⟩:=I.tuple hq
  exact call_tuple_same pl ⟨.ref p,H,I,rfl,q⟩
def tyV (K:PySem.W.Frag) (T:String) (x:V) (H:Hp):Prop:=match x with
 | .str _=>T = "str"
 | .int _=>T = "int"
 | .ref p=>(T = "list" /\ ∃ xs,bR K H p xs) ∨ (T = "tuple" /\ ∃ o,K.lookup p=some o /\ o.cls = .type "tuple" /\ o.dict=none) ∨
   (T = "dict" /\ ((∃ kvs,H p=some (.dK kvs)) ∨ ∃ kvs,H p=some (.dT kvs))) ∨ (T = "set" /\ ∃ S n,H p=some (.set S n))
 | _=>False
theorem QK {pins:List (Addr × Obj)}{σ : St}{H:Hp}{s:Shared}{T:String}{x:V}{v:Value} (I:aZ X pins σ H s) (r:bJ x v) (ty:tyV X.K T x H) :
  s.TypeIs v T /\ ∀ a,v = .ref a->∃ ob,s.heap.get? a=some ob /\ ob.dict=none:=by
 cases x with
 | str z =>
  obtain ⟨t,rfl⟩:=r
  cases (show T = "str" from ty)
  exact ⟨typeIs_str s z t,fun _ e=>nomatch e⟩
 | int i =>
  obtain ⟨t,rfl⟩:=r
  cases (show T = "int" from ty)
  exact ⟨typeIs_int s i t,fun _ e=>nomatch e⟩
 | ref p =>
  cases r
  rcases ty with ⟨rfl,xs,hq⟩ | ⟨rfl,o,hk,hc,hd⟩ | ⟨rfl,hk⟩ | ⟨rfl,S,n,hk⟩
  ·obtain ⟨its,_,pl,_⟩:=I.list hq
   refine ⟨pl.isList.typeIs,fun a e=>?_⟩
   cases e
   obtain ⟨o,n,e,c,hd,_⟩:=pl
   exact ⟨o,e,hd⟩
  ·refine ⟨⟨o,I.kIn p o hk,hc⟩,fun a e=>?_⟩
   cases e
   exact ⟨o,I.kIn _ o hk,hd⟩
  ·have z:∃ o,s.heap.get? p=some o /\ o.ExactDict:=by
    rcases hk with ⟨kvs,hk⟩ | ⟨kvs,hk⟩
    ·obtain ⟨_,_,_,_,o,_,_,e,ex,_⟩:=I.hok p _ hk
     exact ⟨o,e,ex⟩
    ·obtain ⟨_,_,_,_,o,_,_,e,ex,_⟩:=I.hok p _ hk
     exact ⟨o,e,ex⟩
   obtain ⟨o,e,ex⟩:=z
   refine ⟨⟨o,e,ex.1⟩,fun a e2=>?_⟩
   cases e2
   exact ⟨o,e,ex.2.1⟩
  ·obtain ⟨o,_,_,_,e,ex,_⟩:=I.hok p _ hk
   refine ⟨⟨o,e,ex.1⟩,fun a e2=>?_⟩
   cases e2
   exact ⟨o,e,ex.2.1⟩
 | _=>exact False.elim ty
def tBM (K:PySem.W.Frag) (T:String) (r:V->List V->Hp->VK->Prop) (to:TE) (t:TA):TE:=fun σ H Q=>to σ H fun x H1=>tyV K T x H1 /\ t σ H1 fun xs H2=>r x xs H2 Q
variable {o e:Expr}{es:List Expr}{to:TE}{t:TA}{name:Str}{apos cpos:Pos}{T id:String}{r:V->List V->Hp->VK->Prop}
theorem yC (pa:PlainAttrs T) (slot:Slot T name id) (hty:typeOf (.builtin id)=pure (.type "method_descriptor")) (hm:MtR X id r) (ho:PE X o to) (ha:PA X (e :: es) t)
  (hbase:attributeBase o name X.env (eval o X.env)=eval o X.env:=by rfl)
  (hfew:((backTo cpos (starEach (e :: es) X.env)).all (fun x=>!x.1) && (backToKw cpos (keywordEach [] X.env)).all (fun x=>x.1.isSome)
   && decide ((e :: es).length + ([]:List Keyword).length + (if ([]:List Keyword).isEmpty then 0 else 1) < 30))=true:=by rfl)
  (hline:(apos.endLine == cpos.line)=true:=by rfl) (hs:starEach (e :: es) X.env=(false,eval e X.env) :: starEach es X.env:=by rfl) (hplain:(backTo cpos (starEach es X.env)).any (·.1)=false:=by rfl) :
  PE X (.Call (.Attribute o name apos) (e :: es) [] cpos) (tBM X.K T r to t):=by
 intro pins s σ H Q I h
 refine wpAny_Call_method_late hbase hfew hline rfl (dU (ho pins s σ H _ I h) fun v s1 ⟨x,H1,I1,r1,ty,q1⟩=>?_)
 obtain ⟨h1,h2⟩:=QK I1 r1 ty
 refine ⟨T,id,pa,slot,hty,h1,h2,?_⟩
 have hA:=ha cpos pins s1 σ H1 _ I1 q1
 rw [hs] at hA ⊢
 refine Calls.callWith_builtin (by show (false || (backTo cpos (starEach es X.env)).any (·.1))=false; rw [hplain] <;> rfl) (Calls.evalArgs_plain ?_)
 exact dU hA fun us s2 ⟨vs,H2,I2,r2,q2⟩=>hm pins s2 σ H2 x vs v us Q I2 r1 r2 q2
end
end L2
namespace L2
open PySem PySem.Spec PyProof.Rows
def MtM (X:Cx) (id:String) (r:V->List V->Hp->VK->Prop):Prop :=
 ∀ (pins:List (Addr × Obj)) (s:Shared) (σ : St) (H:Hp) (x:V) (xs:List V) (v:Value) (us:List Value) (Q:VK),aZ X pins σ H s->bJ x v->bL xs us->r x xs H Q ->
  wpAny (model X.prog X.w) X.A (call (.builtin id) (v :: us)) (EP X pins σ Q) X.xe s
theorem bL.one:∀ {x:V}{us:List Value},bL [x] us->∃ u,us=[u] /\ bJ x u
 | _,_,.cons r .nil=>⟨_,rfl,r⟩
theorem bL.two:∀ {x y:V}{us:List Value},bL [x,y] us->∃ u v,us=[u,v] /\ bJ x u /\ bJ y v
 | _,_,_,.cons r (.cons q .nil)=>⟨_,_,rfl,r,q⟩
theorem bL.zero:∀ {us:List Value},bL [] us->us=[]
 | _,.nil=>rfl
theorem bL.reverse {xs:List V}{us:List Value} (h:bL xs us):bL xs.reverse us.reverse:=by
 induction h with
 | nil=>exact .nil
 | cons r t ih=>rw [List.reverse_cons,List.reverse_cons]; exact bL.append ih (.cons r .nil)
section
variable {X:Cx}{pins:List (Addr × Obj)}{σ : St}{H:Hp}{s:Shared}{l b:Addr}{xs ys zs:List V}
theorem aZ.lset {its its':List Value}{n:Nat}{f:Array Value->Array Value}{t':Nat} (I:aZ X pins σ H s) (hH:H l=some (.lst xs))
  (e:s.heap.get? l=some { cls:=.type "list",data:=.seq its.toArray n }) (hf:f its.toArray=its'.toArray) (hv:bL ys its') (hz:ys.length <= sizeLine) :
  aZ X pins σ (aY H l (.lst ys)) { s with heap:=s.heap.update l (Obj.mapSeq f),toks:=t' }:=by
 have q:=PySem.IsL.update e f
 rw [hf] at q
 refine I.write (x:=l) (e:=l) (by rw [hH]; exact trivial) (.inl rfl) (fun b' u hb hu=>(Heap.get?_update_other s.heap (Obj.mapSeq f) (Ne.symm hb)).trans hu) ⟨_,q⟩ ?_
 exact ⟨hz,its',_,hv,q⟩
theorem aZ.lnew {its:List Value}{t':Nat} (I:aZ X pins σ H s) (hv:bL ys its) (hz:ys.length <= sizeLine) :
  aZ X pins σ (aY H s.heap.objs.size (.lst ys)) { s with heap:=s.heap.push { cls:=.type "list",data:=.seq its.toArray },toks:=t' } :=
 I.laid (fun _ _ q=>Heap.get?_push_of_some _ q) (Nat.le_refl _) ⟨hz,its,0,hv,Heap.get?_push_size _ rfl⟩
theorem aZ.fresh (I:aZ X pins σ H s):H s.heap.objs.size=none:=I.hok.fresh (Nat.le_refl _)
theorem aZ.lstM (I:aZ X pins σ H s) (hH:H l=some (.lst xs)):xs.length <= sizeLine /\ ∃ (its:List Value) (n:Nat),bL xs its /\ xs.length=its.length /\ s.heap.get? l=some { cls:=.type "list",data:=.seq its.toArray n }:=by
 obtain ⟨z,its,n,r,e⟩:=I.hok l _ hH
 exact ⟨z,its,n,r,r.length,e⟩
theorem JD {n:Nat} (h:n <= sizeLine):Builtin.List.listTooLong n=false:=by
 unfold Builtin.List.listTooLong
 exact decide_eq_false (by omega)
end
section
variable {X:Cx}
def M8:V->List V->Hp->VK->Prop:=fun x vs H Q=>∃ l xs y,x = .ref l /\ vs=[y] /\ H l=some (.lst xs) /\ xs.length < sizeLine /\ Q .non (aY H l (.lst (xs ++ [y])))
theorem kJ:MtM X "list.append" M8:=by
 intro pins s σ H x vs v us Q I rx rv h
 obtain ⟨l,xs,y,rfl,rfl,hH,hz,q⟩:=h
 cases rx
 obtain ⟨u,rfl,ru⟩:=rv.one
 obtain ⟨z,its,n,r,hl,e⟩:=I.lstM hH
 refine call_meets F.slot_list_append ⟨_,e,rfl⟩ F.entry_list_append (F.args_list_append_2 _ _) (PySem.list_append l its.toArray n u (by rw [List.size_toArray]; omega)) ⟨e,?_⟩
 refine ⟨.non,_,I.lset (its':=its ++ [u]) hH e (by simp) (r.append (.cons ru .nil)) ?_,rfl,q⟩
 rw [List.length_append,List.length_singleton]
 omega
def Mp:V->List V->Hp->VK->Prop:=fun x vs H Q=>∃ l b xs zs,x = .ref l /\ vs=[.ref b] /\ H l=some (.lst xs) /\ H b=some (.lst zs) /\ xs.length + zs.length <= sizeLine /\ Q .non (aY H l (.lst (xs ++ zs)))
theorem Hd:MtM X "list.extend" Mp:=by
 intro pins s σ H x vs v us Q I rx rv h
 obtain ⟨l,b,xs,zs,rfl,rfl,hH,hB,hz,q⟩:=h
 cases rx
 obtain ⟨u,rfl,ru⟩:=rv.one
 cases ru
 obtain ⟨z,its,n,r,hl,e⟩:=I.lstM hH
 obtain ⟨z2,its2,n2,r2,hl2,e2⟩:=I.lstM hB
 have hsz:its.toArray.size + its2.toArray.size <= sizeLine:=by rw [List.size_toArray,List.size_toArray]; omega
 have hlong:¬ (!its.toArray.isEmpty && Builtin.List.listTooLong (its.toArray.size + its2.toArray.size))=true:=by
  rw [JD hsz,Bool.and_false]
  exact Bool.false_ne_true
 refine call_meets F.slot_list_extend ⟨_,e,rfl⟩ F.entry_list_extend (F.args_list_extend_2 _ _)
  (AutoSeq1.list_extend_list_list_0 l its.toArray n b its2.toArray n2 hlong (by rw [List.size_toArray]; omega) (by omega)) ⟨e,e2,?_⟩
 refine ⟨.non,_,I.lset (its':=its ++ its2) hH e (by simp) (r.append r2) ?_,rfl,q⟩
 rw [List.length_append]
 omega
def aA3:R2:=fun x y H Q=>∃ l b xs zs,x = .ref l /\ y = .ref b /\ H l=some (.lst xs) /\ H b=some (.lst zs) /\ xs.length + zs.length <= sizeLine /\ ∀ p,H p=none->Q (.ref p) (aY H p (.lst (xs ++ zs)))
theorem PL:nZ X (binaryOp .Add) aA3:=by
 intro pins s σ H x y v u Q I rx ry h
 obtain ⟨l,b,xs,zs,rfl,rfl,hH,hB,hz,q⟩:=h
 cases rx
 cases ry
 obtain ⟨z,its,n,r,hl,e⟩:=I.lstM hH
 obtain ⟨z2,its2,n2,r2,hl2,e2⟩:=I.lstM hB
 refine PySem.P.add_list e e2 ?_ (by rw [List.size_toArray,List.size_toArray]; omega)
 have ea:its.toArray ++ its2.toArray=(its ++ its2).toArray:=by simp
 rw [ea]
 exact ⟨.ref _,_,I.lnew (t':=s.toks) (r.append r2) (by rw [List.length_append]; omega),rfl,q _ I.fresh⟩
end
section
variable {prog:Program}{w:World}{A:Around}{E:Value->Shared->Prop}{s:Shared}
end
section
variable {X:Cx}
end
end L2
namespace Att
open PySem PySem.W PySem.Calls PyProof.Rows
theorem rQ {P:Params}{h:Heap}:∀ (ns:List Int) (vs:List Value),WellAll P h vs (ns.map WData.int)->IntsAre vs ns:=by
 intro ns
 induction ns with
 | nil =>
  intro vs w
  rw [List.map_nil] at w
  cases w
  exact .nil
 | cons n ns ih =>
  intro vs w
  rw [List.map_cons] at w
  cases w with
  | cons a b =>
   cases a
   exact .cons _ _ (ih _ b)
theorem Hf {l:OpenLaw}{n:Nat} (hn:l.most=some n) {P:Params}{h:Heap}{args:List WData}{vals:List Value}
  (hpre:l.row.toRowW.claim.pre args=true) (hwl:WellAll P h vals args) :
  ∃ a vs ns,vals=[Value.ref a] /\ args=[WData.list (ns.map WData.int)] /\ h.get? a=some { cls:=.type "list",data:=.seq vs.toArray } /\ IntsAre vs ns /\ ns.length <= n:=by
 have hsh:WShape.hasAll [] args [.list .int]=true:=(pre_splitW hpre).1
 have hc:l.pre.holds [] { args:=args } = true:=(pre_splitW hpre).2
 obtain ⟨d,r,rfl,h1,h2⟩:=hasAllW_cons hsh
 obtain rfl:=hasAllW_nil h2
 obtain ⟨xs,rfl,h3⟩:=hasW_list h1
 obtain ⟨ns,rfl⟩:=items_int h3
 have hlen:ns.length <= n:=by
  unfold OpenLaw.pre at hc
  have h4:(WTm.not (.lt (.lit (.int (n:Int))) (.len (.arg 0)))).holds [] { args:=[.list (ns.map .int)] } = true:=by
   have h4:=(holds_andW hc).1
   rw [hn] at h4
   exact h4
  have h5:=condW_of h4 (w_not (w_lt w_lit (w_len_list (w_arg rfl))))
  rw [List.length_map] at h5
  refine Nat.le_of_not_lt fun q=>?_
  have q':(n:Int) < ((ns.length:Nat):Int):=by omega
  first
   | (rw [decide_eq_true q'] at h5; exact absurd h5 (by decide))
   | (simp at h5; omega)
 cases hwl with
 | cons w1 w2 =>
  cases w2
  cases w1 with
  | list ho hall=>exact ⟨_,_,ns,rfl,rfl,ho,rQ ns _ hall,hlen⟩
theorem Ih (l:OpenLaw) (args:List WData):l.row.toRowW.claim.post args (.bool true) args=true :=
 postW_of (r:=l.row.toRowW) (X:=(true == true))
  (show WShape.has [] (.bool true) .bool=true by first | rfl | decide | simp [WShape.has,WShape.arms,WShape.armsAll])
  (show (WTm.eq .res (.lit (.bool true))).value [] { args:=args,res:=some (.bool true),after:=args } = some (.bool (true == true)) from w_eq_bool (w_res rfl) w_lit) rfl
theorem Cy {l:OpenLaw}{n:Nat}{q:Program}{loose:List Str}{XP:(Str->Option Value)->Heap->Prop}{YP:World->Heap->Prop}{d:DefRec}
  (hn:l.most=some n) (hdf:d.params.defaults=[])
  (call:∀ (w:World) (s₀ s₁ : Shared) (mg mb:Str->Option Value) (fa:Addr) (o:Obj) (pm cd doc:Value) (a:Addr) (vs:List Value) (ns:List Int),
   Ground q loose [] XP w s₀ mg mb s₁.heap->YP w s₁.heap ->
   s₁.heap.get? fa=some o->o.data = .func (docDef d.name d.params d.body d.scope pm cd doc)->s₁.heap.CodeRec cd d.name->mg d.name=some (.ref fa) ->
   s₁.heap.get? a=some { cls:=.type "list",data:=.seq vs.toArray }->IntsAre vs ns->ns.length <= n->s₁.gens = #[] ->
   codeAny (model l.prog w) callerA (.call (.ref fa) ⟨[.ref a],[]⟩) (fun r s'=>r = .ok (.ret (.bool true)) /\ OldK s₁.heap s'.heap /\ s'.os=s₁.os /\ AllBare s'.gens) s₁) :
  WalkO q loose XP YP l.row.toRowW d [] (fun f vs=>PySem.call f vs):=by
 intro w s₀ s₁ mg mb G Y fa o pm cd doc dV kV ho hd hcd hD hmg hg args vals as hpre hlay hrd hwl hlo
 obtain rfl:dV = .none:=Dflts.none hD hdf
 obtain rfl:kV = .none:=Dflts.noKw hD
 obtain ⟨a,vs,ns,rfl,rfl,hobj,hints,hlen⟩:=Hf hn hpre hwl
 refine enter_call (codeAny_mono (call w s₀ s₁ mg mb fa o pm cd doc a vs ns G Y ho (fd_plain hd) hcd hmg hobj hints hlen hg) fun r s' hq=>?_)
 obtain ⟨rfl,h2,h3,h4⟩:=hq
 exact ⟨.inl ⟨.bool true,.bool true,[],rfl,fun _=>rfl,.bool true,Ih l _,fun _=>⟨List.Pairwise.nil,fun _ hm=>(nomatch hm)⟩⟩,h2,h3,h4⟩
section
variable {prog:Program}{w:World}{A:Around}{E:Value->Shared->Prop}{s:Shared}{K:Frag}
end
end Att
namespace L2
open PySem PySem.Spec PyProof.Rows
theorem xT:∀ {vs:List Value}{ns:List Int},IntsAre vs ns->bL (ns.map V.int) vs
 | _,_,.nil=>.nil
 | _,_,.cons n t h=>.cons ⟨t,rfl⟩ (xT h)
end L2
namespace L2
open PySem PySem.Spec PyProof.Rows
end L2
namespace L2
open PySem PySem.Spec PyProof.Rows
def aG (s:Stmt) (j:Nat):Stmt:=match s with
 | .ClassDef _ _ _ body _ _ _ _ _ _ _=>body.getD j (.Pass ⟨0,0,0,0⟩)
 | _=>.Pass ⟨0,0,0,0⟩
def iB (s:Stmt):Arguments:=match s with
 | .FunctionDef _ a _ _ _ _ _ _ _ _=>a
 | _=>{ posonlyargs:=[],args:=[],vararg:=none,kwonlyargs:=[],kw_defaults:=[],kwarg:=none,defaults:=[] }
def fV (s:Stmt):List Stmt:=match s with
 | .FunctionDef _ _ b _ _ _ _ _ _ _=>b
 | _=>[]
def aM (s:Stmt):Scope:=match s with
 | .FunctionDef _ _ _ _ _ _ sc _ _ _=>sc
 | _=>{ kind:=.function,names:=[],isGenerator:=false,isCoroutine:=false }
abbrev d7:yZ:=fun _ _ _ _ _ _=>False
abbrev E0:XK:=fun _ _ _=>False
theorem eE {X:Cx}:jE d7 X E0:=fun _ _ _ _ _ _ _ h=>h.elim
structure fH (K:PySem.W.Frag) (x qual:Str) (st:Stmt) (f:Addr) (fd:FuncData):Prop where
 ex:∃ (oc:Value) (od:Option Addr) (kV doc pm:Value) (an:Option Addr) (cdv ct:Value) (osl:Array (Option Value)),
  fd=PySem.W.fnOf x qual (iB st) (fV st) (aM st) .none kV doc pm an cdv ct /\ K.lookup f=some ⟨oc,od,.func fd,osl⟩ /\ PySem.W.codeIn K cdv qual=true
 kp:PySem.W.keepIn K (.ref f)=true
section
variable {P:Program}{w:World}{K:PySem.W.Frag}{mg:Str->Option Value}{base:Heap}
theorem fH.ok {x qual:Str}{st:Stmt}{f:Addr}{fd:FuncData}{N ps:List Str}{k:Nat}{sp:Sp} (F:fH K x qual st f fd) (S:aO N ps (aM st)) (len:∀ vs H Q E,sp vs H Q E->vs.length=ps.length)
  (hbody:∀ (cdv:Value) (A:Around) (outer:List Env) (s:Shared) (H:Hp) (vs:List V) (Q:VK) (E:XK),fD k (A.deeper (envOfC qual (aM st) s.heap.objs.size f cdv))->sp vs H Q E ->
   ∃ t,rT (tU d7 P w K mg base N qual (aM st) f cdv A outer s H E).nox (fV st) t /\ t { nx:=fun _ H'=>Q .non H',rt:=Q } (start N vs) H):aV P w K mg base d7 (k + 1) f fd ps sp:=by
 obtain ⟨oc,od,kV,doc,pm,an,cdv,ct,osl,rfl,lk,hcd⟩:=F.ex
 refine Fd lk hcd S len fun A outer s H vs Q E hr hsp=>?_
 obtain ⟨t,h,q⟩:=hbody cdv A outer s H vs Q E hr hsp
 exact ⟨t,h.nox,q⟩
theorem fH.binds {x qual:Str}{st:Stmt}{f:Addr}{fd:FuncData}{ps:List Str} (F:fH K x qual st f fd)
  (h:∀ (kV doc pm:Value) (an:Option Addr) (cdv ct:Value) (us:List Value),us.length=ps.length->bindArgs (PySem.W.fnOf x qual (iB st) (fV st) (aM st) .none kV doc pm an cdv ct) ⟨us,[]⟩ = pure (ps.zip us)):bI K fd ps []:=by
 obtain ⟨oc,od,kV,doc,pm,an,cdv,ct,osl,rfl,lk,hcd⟩:=F.ex
 exact .all (h kV doc pm an cdv ct)
theorem Kw {x qual:Str}{st:Stmt}{f:Addr}{oc:Value}{od an:Option Addr}{osl:Array (Option Value)}{kV doc pm cdv ct:Value} (l:K.lookup f=some ⟨oc,od,.func (PySem.W.fnOf x qual (iB st) (fV st) (aM st) .none kV doc pm an cdv ct),osl⟩)
  (c:PySem.W.codeIn K cdv qual=true) (k:PySem.W.keepIn K (.ref f)=true):fH K x qual st f (PySem.W.fnOf x qual (iB st) (fV st) (aM st) .none kV doc pm an cdv ct):=⟨⟨oc,od,kV,doc,pm,an,cdv,ct,osl,rfl,l,c⟩,k⟩
end
theorem W8 {A:Around}{k:Nat} (hr:fD k A):A.units + 1 < cLine:=Nat.lt_of_le_of_lt (Nat.add_le_add_left (by decide:1 <= 64) _) hr.units
theorem aX {n:Nat} (h:n <= 1000):n < sizeLine:=Nat.lt_of_le_of_lt h (by decide)
section
variable {X:Cx}
theorem pv (i:Nat) {x:Str}{pos:Pos} (hN:X.N[i]? = some x:=by rfl) (hv:Yn X.env.scope x:=by first | exact Or.inl rfl | exact Or.inr (Or.inl rfl) | exact Or.inr (Or.inr rfl)) (hd:(x == ("__debug__" : Str))=false:=by decide)
  (hcd:(x == ("__classdict__" : Str))=false:=by decide):PE X (.Name x pos) (Ib i):=Ld hN hv hd hcd
end
theorem fZ {A B:Prop} (h:B):if false=true then A else B:=by
 rw [if_neg Bool.false_ne_true]
 exact h
theorem iJ {A B:Prop} (h:A):if true=true then A else B:=by
 rw [if_pos rfl]
 exact h
theorem uR {c A B:Prop} [Decidable c] (h1:c->A) (h2:¬ c->B):if c then A else B:=by
 by_cases h:c
 ·rw [if_pos h]
  exact h1 h
 ·rw [if_neg h]
  exact h2 h
def aN (H H':Hp):Prop:=∀ b o,H b=some o->H' b=some o
theorem aN.refl (H:Hp):aN H H:=fun _ _ h=>h
theorem aN.trans {H H1 H2:Hp} (a:aN H H1) (b:aN H1 H2):aN H H2:=fun c o h=>b c o (a c o h)
theorem aN.free {H H':Hp} (e:aN H H') {l:Addr} (h:H' l=Option.none):H l=Option.none:=by
 cases q:H l with
 | none=>rfl
 | some o =>
  rw [e l o q] at h
  cases h
theorem aN.seq {K:PySem.W.Frag}{H H':Hp}{a:Addr}{xs:List V} (e:aN H H') (h:bR K H a xs):bR K H' a xs:=by
 rcases h with (h | ⟨o,h⟩) | h
 ·exact .inl (.inl (e _ _ h))
 ·exact .inl (.inr ⟨o,e _ _ h⟩)
 ·exact .inr h
end L2
namespace L2
open PySem PySem.Spec PyProof.Rows
section
variable {κ : Type} [DecidableEq κ]
def lB (kvs:List (κ × V)) (k:κ):Option V:=(kvs.find? fun kv=>decide (kv.1=k)).map (·.2)
def mH (kvs:List (κ × V)) (k:κ) (v:V):List (κ × V) :=
 if (kvs.any fun kv=>decide (kv.1=k))=true then kvs.map (fun kv=>if kv.1=k then (kv.1,v) else kv) else kvs ++ [(k,v)]
def Nu (kvs:List (κ × V)) (k:κ):List (κ × V):=kvs.filter fun kv=>decide (kv.1 ≠ k)
theorem vN {p:κ × V}{r:List (κ × V)}{k:κ} (e:p.1=k):lB (p :: r) k=some p.2:=by simp [lB,List.find?_cons,e]
theorem vG {p:κ × V}{r:List (κ × V)}{k:κ} (e:¬ p.1=k):lB (p :: r) k=lB r k:=by simp [lB,List.find?_cons,e]
theorem vM (k:κ):∀ kvs:List (κ × V),(kvs.any fun kv=>decide (kv.1=k))=(lB kvs k).isSome
 | []=>rfl
 | p :: r=>by
  rw [List.any_cons]
  by_cases e:p.1=k
  ·simp only [vN e,decide_eq_true e,Bool.true_or,Option.isSome_some]
  ·rw [vG e,decide_eq_false e,Bool.false_or]; exact vM k r
theorem mK (kvs:List (κ × V)) (k:κ) (v:V):(mH kvs k v).length <= kvs.length + 1:=by
 unfold mH
 split
 ·rw [List.length_map]; omega
 ·rw [List.length_append,List.length_cons,List.length_nil]; omega
theorem lY.isSome_eq {o:Option V}{u:Option Value} (r:lY o u):o.isSome=u.isSome:=by
 cases o with
 | none=>cases u with
  | none=>rfl
  | some _=>exact (show False from r).elim
 | some _=>cases u with
  | none=>exact (show False from r).elim
  | some _=>rfl
theorem lY.getD {o:Option V}{u:Option Value}{d:V}{d':Value} (r:lY o u) (rd:bJ d d'):bJ (o.getD d) (u.getD d'):=by
 cases o with
 | none=>cases u with
  | none=>exact rd
  | some _=>exact (show False from r).elim
 | some _=>cases u with
  | none=>exact (show False from r).elim
  | some _=>exact r
theorem KV.val {kvs:List (κ × V)}{vs:List (κ × Value)} (r:KV kvs vs) (k:κ):lY (lB kvs k) (valueAt vs k):=by
 unfold KV at r
 induction r with
 | nil=>exact True.intro
 | @cons p q ps qs h t ih =>
  obtain ⟨h1,h2⟩:=h
  by_cases e:p.1=k
  ·have e':q.1=k:=h1.symm.trans e
   have b:valueAt (q :: qs) k=some q.2:=by simp [valueAt,List.find?_cons,e']
   rw [vN e,b]; exact h2
  ·have e':¬ q.1=k:=fun z=>e (h1.trans z)
   have b:valueAt (q :: qs) k=valueAt qs k:=by simp [valueAt,List.find?_cons,e']
   rw [vG e,b]; exact ih
theorem KV.any {kvs:List (κ × V)}{vs:List (κ × Value)} (r:KV kvs vs) (k:κ):(kvs.any fun kv=>decide (kv.1=k))=vs.any fun kv=>decide (kv.1=k):=by
 unfold KV at r
 induction r with
 | nil=>rfl
 | cons h t ih=>rw [List.any_cons,List.any_cons,ih,h.1]
theorem KV.repl {kvs:List (κ × V)}{vs:List (κ × Value)} (r:KV kvs vs) (k:κ) {y:V}{u:Value} (ry:bJ y u) :
  KV (kvs.map fun kv=>if kv.1=k then (kv.1,y) else kv) (vs.map fun kv=>if kv.1=k then (kv.1,u) else kv):=by
 unfold KV at r ⊢
 induction r with
 | nil=>exact .nil
 | @cons p q ps qs h t ih =>
  rw [List.map_cons,List.map_cons]
  refine .cons ?_ ih
  obtain ⟨h1,h2⟩:=h
  by_cases e:p.1=k
  ·rw [if_pos e,if_pos (h1.symm.trans e)]; exact ⟨h1,ry⟩
  ·rw [if_neg e,if_neg (fun z=>e (h1.trans z))]; exact ⟨h1,h2⟩
theorem KV.put {kvs:List (κ × V)}{vs:List (κ × Value)} (r:KV kvs vs) (k:κ) {y:V}{u:Value} (ry:bJ y u):KV (mH kvs k y) (stored vs k u):=by
 unfold mH stored
 rw [r.any k]
 by_cases e:(vs.any fun kv=>decide (kv.1=k))=true
 ·rw [if_pos e,if_pos e]; exact r.repl k ry
 ·rw [if_neg e,if_neg e]; exact Paired.snoc r ⟨rfl,ry⟩
theorem KV.drop {kvs:List (κ × V)}{vs:List (κ × Value)} (r:KV kvs vs) (k:κ):KV (Nu kvs k) (without vs k):=by
 unfold KV at r ⊢
 unfold Nu without
 induction r with
 | nil=>exact .nil
 | @cons p q ps qs h t ih =>
  obtain ⟨h1,h2⟩:=h
  rw [List.filter_cons,List.filter_cons]
  by_cases e:p.1=k
  ·have a:¬ decide (p.1 ≠ k)=true:=by simp [e]
   have b:¬ decide (q.1 ≠ k)=true:=by simp [h1.symm.trans e]
   rw [if_neg a,if_neg b]; exact ih
  ·have e':¬ q.1=k:=fun z=>e (h1.trans z)
   have a:decide (p.1 ≠ k)=true:=by simp [e]
   have b:decide (q.1 ≠ k)=true:=by simp [e']
   rw [if_pos a,if_pos b]; exact .cons ⟨h1,h2⟩ ih
theorem KV.keys {kvs:List (κ × V)}{vs:List (κ × Value)} (r:KV kvs vs):kvs.map (·.1)=vs.map (·.1):=by
 unfold KV at r
 induction r with
 | nil=>rfl
 | cons h t ih=>rw [List.map_cons,List.map_cons,ih,h.1]
theorem KV.length {kvs:List (κ × V)}{vs:List (κ × Value)} (r:KV kvs vs):kvs.length=vs.length:=Paired.length r
end
theorem Fb {P:Program}{w:World}{k:dB}{u:Value} (r:bJ (kV k) u):(dZ P w).is k u=true:=by
 cases k with
 | inl i=>obtain ⟨t,e⟩:=(show ∃ t,u=Value.int i t from r); subst e; exact Cj P w i t
 | inr x=>obtain ⟨t,e⟩:=(show ∃ t,u=Value.str x t from r); subst e; exact Bs P w x t
theorem yK {P:Program}{w:World}:∀ {ks:List dB}{us:List Value},bL (ks.map kV) us->ItemsAre (dZ P w) ks us
 | [],_,r=>by rw [List.map_nil] at r; cases r; exact .nil
 | k :: ks,_,r=>by
  rw [List.map_cons] at r
  cases r with
  | cons h t=>exact .cons (Fb h) (yK t)
abbrev KT (H:Hp):List (List dB × V)->List (List dB × Addr × Value)->Prop:=Paired fun p q=>p.1=q.1 /\ H q.2.1=some (.tup (p.1.map kV)) /\ bJ p.2 q.2.2
theorem KT.val {H:Hp}{kvs:List (List dB × V)}{xs:List (List dB × Addr × Value)} (r:KT H kvs xs) (k:List dB):lY (lB kvs k) ((atKey xs k).map (·.2)):=by
 induction r with
 | nil=>exact True.intro
 | @cons p q ps qs h t ih =>
  obtain ⟨h1,_,h2⟩:=h
  by_cases e:p.1=k
  ·have e':q.1=k:=h1.symm.trans e
   have b:atKey (q :: qs) k=some q.2:=by simp [atKey,List.find?_cons,e']
   rw [vN e,b]; exact h2
  ·have e':¬ q.1=k:=fun z=>e (h1.trans z)
   have b:atKey (q :: qs) k=atKey qs k:=by simp [atKey,List.find?_cons,e']
   rw [vG e,b]; exact ih
theorem KT.repl {H:Hp}{kvs:List (List dB × V)}{xs:List (List dB × Addr × Value)} (r:KT H kvs xs) (k:List dB) {y:V}{u:Value} (ry:bJ y u) :
  KT H (kvs.map fun kv=>if kv.1=k then (kv.1,y) else kv) (xs.map (putAt k u)):=by
 induction r with
 | nil=>exact .nil
 | @cons p q ps qs h t ih =>
  rw [List.map_cons,List.map_cons]
  refine .cons ?_ ih
  obtain ⟨h1,h2,h3⟩:=h
  unfold putAt
  by_cases e:p.1=k
  ·rw [if_pos e,if_pos (h1.symm.trans e)]; exact ⟨h1,h2,ry⟩
  ·rw [if_neg e,if_neg (fun z=>e (h1.trans z))]; exact ⟨h1,h2,h3⟩
theorem KT.put {H:Hp}{kvs:List (List dB × V)}{xs:List (List dB × Addr × Value)} (r:KT H kvs xs) (k:List dB) {b:Addr}{y:V}{u:Value} (hb:H b=some (.tup (k.map kV))) (ry:bJ y u) :
  KT H (mH kvs k y) (storedH xs k b u):=by
 have e:(kvs.any fun kv=>decide (kv.1=k))=(atKey xs k).isSome:=by
  rw [vM,(r.val k).isSome_eq,Option.isSome_map]
 unfold mH storedH
 rw [e]
 by_cases q:(atKey xs k).isSome=true
 ·rw [if_pos q,if_pos q]; exact r.repl k ry
 ·rw [if_neg q,if_neg q]; exact Paired.snoc r ⟨rfl,hb,ry⟩
theorem KT.keeps {H H':Hp}{kvs:List (List dB × V)}{xs:List (List dB × Addr × Value)} (r:KT H kvs xs) (ht:∀ b ys,H b=some (.tup ys)->H' b=some (.tup ys)):KT H' kvs xs :=
 Paired.mapP r fun _ _ z=>⟨z.1,ht _ _ z.2.1,z.2.2⟩
section
variable {P:Program}{w:World}{H:Hp}{h:Heap}{a:Addr}
theorem OD {u:HO} (ok:m7 P w H h) (e:Rd H a u):dH P w H h a u:=e.ok ok
theorem CV {kvs:List (dB × V)} (ok:m7 P w H h) (e:Rd H a (.dK kvs)):kvs.length <= sizeLine /\ (a == sysModules)=false /\ ∃ vs,KV kvs vs /\ h.DictOf (dZ P w) a vs :=
 show dH P w H h a (.dK kvs) from OD ok e
theorem RT {kvs:List (dB × V)} (ok:m7 P w H h) (e:H a=some (.dK kvs)):kvs.length <= sizeLine /\ (a == sysModules)=false /\ ∃ vs,KV kvs vs /\ h.DictOf (dZ P w) a vs:=CV ok (.inl e)
theorem zW {ks:List dB} (ok:m7 P w H h) (e:H a=some (.tup (ks.map kV))):(tupleKind (dZ P w)).is h ks a:=by
 obtain ⟨_,its,r,o,h1,h2,n,h3⟩:=(show dH P w H h a (.tup (ks.map kV)) from ok a _ e)
 exact ⟨o,its.toArray,n,h1,h2,h3,by simpa using yK r⟩
theorem Bb {kvs:List (List dB × V)} (ok:m7 P w H h) (e:Rd H a (.dT kvs)):kvs.length <= sizeLine /\ (a == sysModules)=false ∧
  ∃ xs,KT H kvs xs /\ h.DictOfH (tupleKind (dZ P w)) a xs:=by
 obtain ⟨z,y,xs,r,o,es,ep,h1,h2,h3,h4,h5⟩:=(show dH P w H h a (.dT kvs) from OD ok e)
 refine ⟨z,y,xs,r,o,es,ep,h1,h2,h3,h4,fun x hx=>?_,h5⟩
 have all:∀ {l:List (List dB × V)}{m:List (List dB × Addr × Value)},KT H l m->∀ x ∈ m,(tupleKind (dZ P w)).is h x.1 x.2.1:=by
  intro l m q
  induction q with
  | nil=>intro x hx; exact nomatch hx
  | @cons p q ps qs hq t ih =>
   intro x hx
   rcases List.mem_cons.mp hx with e | hx
   ·subst e
    exact zW ok (by rw [<- hq.1]; exact hq.2.1)
   ·exact ih x hx
 exact all r x hx
theorem Yb {kvs:List (List dB × V)} (ok:m7 P w H h) (e:H a=some (.dT kvs)):kvs.length <= sizeLine /\ (a == sysModules)=false ∧
  ∃ xs,KT H kvs xs /\ h.DictOfH (tupleKind (dZ P w)) a xs:=Bb ok (.inl e)
end
def vQ (H:Hp) (a:Addr) (y:V) (r:Option V):Prop :=
 (∃ kvs k,Rd H a (.dK kvs) /\ y=kV k /\ r=lB kvs k) ∨ ∃ kvs k b,Rd H a (.dT kvs) /\ y = .ref b /\ H b=some (.tup (k.map kV)) /\ r=lB kvs k
def El (H:Hp) (a:Addr) (y v:V) (H':Hp):Prop :=
 (∃ kvs k,H a=some (.dK kvs) /\ y=kV k /\ kvs.length < sizeLine /\ H'=aY H a (.dK (mH kvs k v))) ∨
 ∃ kvs k b,H a=some (.dT kvs) /\ y = .ref b /\ H b=some (.tup (k.map kV)) /\ kvs.length < sizeLine /\ H'=aY H a (.dT (mH kvs k v))
theorem vQ.k {H:Hp}{a:Addr}{kvs:List (dB × V)}{k:dB} (e:H a=some (.dK kvs)):vQ H a (kV k) (lB kvs k):=.inl ⟨kvs,k,.inl e,rfl,rfl⟩
theorem vQ.t {H:Hp}{a b:Addr}{kvs:List (List dB × V)}{k:List dB} (e:H a=some (.dT kvs)) (eb:H b=some (.tup (k.map kV))):vQ H a (.ref b) (lB kvs k):=.inr ⟨kvs,k,b,.inl e,rfl,eb,rfl⟩
theorem El.k {H:Hp}{a:Addr}{kvs:List (dB × V)}{k:dB}{v:V} (e:H a=some (.dK kvs)) (hl:kvs.length < sizeLine):El H a (kV k) v (aY H a (.dK (mH kvs k v))):=.inl ⟨kvs,k,e,rfl,hl,rfl⟩
theorem El.t {H:Hp}{a b:Addr}{kvs:List (List dB × V)}{k:List dB}{v:V} (e:H a=some (.dT kvs)) (eb:H b=some (.tup (k.map kV))) (hl:kvs.length < sizeLine) :
  El H a (.ref b) v (aY H a (.dT (mH kvs k v))):=.inr ⟨kvs,k,b,e,rfl,eb,hl,rfl⟩
section
variable {X:Cx}{pins:List (Addr × Obj)}{σ : St}{H:Hp}{s:Shared}{a:Addr}{y v:V}{u r:Value}{o:Option V}{A:Around}{E:Value->Shared->Prop}
theorem aZ.big (I:aZ X pins σ H s):sysModules < s.heap.objs.size:=by
 have h:mainGlobals < s.heap.objs.size:=(I.mod.glob.keeps I.bk).lt
 exact Nat.lt_trans (by decide) h
theorem Ht {Q:Value->Shared->Prop} (hu:A.units + 1 < cLine) (I:aZ X pins σ H s) (g:vQ H a y (some v)) (ry:bJ y u) (h:∀ w' s',aZ X pins σ H s'->bJ v w'->Q w' s') :
  wpAny (model X.prog X.w) A (getItem (.ref a) u) Q E s:=by
 rcases g with ⟨kvs,k,e,ey,l⟩ | ⟨kvs,k,b,e,ey,eb,l⟩
 ·subst ey
  obtain ⟨z,hd,vs,rel,dd⟩:=CV I.hok e
  obtain ⟨w',hw,rw'⟩:=lY.some_of (v:=v) (o:=valueAt vs k) (by rw [l]; exact rel.val k)
  exact wpAny_getItem_of (Fb ry) dd.mapOf hw (h w' _ (I.tok _) rw')
 ·subst ey
  cases (show u=Value.ref b from ry)
  obtain ⟨z,hd,xs,rel,dd⟩:=Bb I.hok e
  obtain ⟨w',hw,rw'⟩:=lY.some_of (v:=v) (o:=(atKey xs k).map (·.2)) (by rw [l]; exact rel.val k)
  obtain ⟨p,hp,hp2⟩:=Option.map_eq_some_iff.mp hw
  refine wpAny_getItem_heap (tupleKind_room_in1 hu) (zW I.hok eb) dd hp ?_
  rw [hp2]
  exact h w' _ (I.tok _) rw'
theorem Gn {h':Heap}{t':Nat}{ob:HO} (I:aZ X pins σ H s) (mu:Td (H a)) (hs:Heap.SameBut a s.heap h') (he:∃ q,h'.get? a=some q) (new:dH X.prog X.w (aY H a ob) h' a ob) :
  aZ X pins σ (aY H a ob) { s with heap:=h',toks:=t' } :=
 I.write (x:=a) (e:=a) mu (.inl rfl) (fun b q hb z=>(hs.2 b hb).trans z) he new
theorem QJ {P:Program}{w:World}{H':Hp}{h':Heap}{kvs:List (dB × V)}{vs:List (dB × Value)} (z:kvs.length <= sizeLine) (hd:(a == sysModules)=false) (rel:KV kvs vs) (dd:h'.DictOf (dZ P w) a vs) :
  dH P w H' h' a (.dK kvs):=⟨z,hd,vs,rel,dd⟩
theorem Hu {H':Hp}{Q:Unit->Shared->Prop} (hu:A.units + 1 < cLine) (I:aZ X pins σ H s) (g:El H a y v H') (ry:bJ y u) (rv:bJ v r) (h:∀ s',aZ X pins σ H' s'->Q () s') :
  wpAny (model X.prog X.w) A (setItem (.ref a) u r) Q E s:=by
 rcases g with ⟨kvs,k,e,ey,l,eH⟩ | ⟨kvs,k,b,e,ey,eb,l,eH⟩
 ·subst ey eH
  obtain ⟨z,hd,vs,rel,dd⟩:=RT I.hok e
  have hz:vs.length <= sizeLine:=by rw [<- rel.length]; exact z
  have hl:(mH kvs k v).length <= sizeLine:=by have:=mK kvs k v; omega
  refine wpAny_setItem_pairs (hsz:=hz) (Fb ry) dd fun h' dd' hs=>h _ ?_
  have he:∃ q,h'.get? a=some q:=let ⟨q,_,_,hq,_⟩:=dd'; ⟨q,hq⟩
  exact Gn I (by rw [e]; exact True.intro) hs he (QJ hl hd (rel.put k rv) dd')
 ·subst ey eH
  cases (show u=Value.ref b from ry)
  obtain ⟨z,hd,xs,rel,dd⟩:=Yb I.hok e
  have hz:xs.length <= sizeLine:=by rw [<- Paired.length rel]; exact z
  have hl:(mH kvs k v).length <= sizeLine:=by have:=mK kvs k v; omega
  refine wpAny_setItem_heap (hsz:=hz) (tupleKind_room_in1 hu) (zW I.hok eb) dd fun h' dd' hs=>h _ ?_
  obtain ⟨q,es,ep,hq,h2,h3,h4,_,h5⟩:=dd'
  refine Gn I (by rw [e]; exact True.intro) hs ⟨q,hq⟩ ⟨hl,hd,_,(rel.put k eb rv).keeps fun c ys ec=>?_,q,es,ep,hq,h2,h3,h4,h5⟩
  rw [aK (bO ec e (fun z=>nomatch z))]
  exact ec
end
section
variable {X:Cx}{pins:List (Addr × Obj)}{σ : St}{H:Hp}{s:Shared}{a:Addr}{kvs:List (dB × V)}{k:dB}{u:Value}{A:Around}{E:Value->Shared->Prop}
end
def Wm (i:Expr):Prop:=∀ ov iv,subscripted i false ov iv=operate [ov,iv] (getItem ov iv)
theorem M9 {prog:Program}{w:World}{A:Around}{E:Value->Shared->Prop}{s:Shared}{env:Env}{value slice:Expr}{pos:Pos}{T id:String}{Q:Value->Shared->Prop}
  (hl:typeLookup (.type T) "__getitem__" = pure (some (.builtin id))) (hs:Wm slice)
  (h:wpAny (model prog w) A (eval value env) (fun o s₁=>wpAny (model prog w) A (eval slice env) (fun i s₂=>s₂.TypeIs o T /\ wpAny (model prog w) A (getItem o i) Q E s₂) E s₁) E s) :
  wpAny (model prog w) A (eval (.Subscript value slice pos) env) Q E s:=by
 refine Subscript_ (wpAny_mono h (fun o s₁ h₁=>wpAny_mono h₁ (fun i s₂ h₂=>?_) fun _ _ x=>x) fun _ _ x=>x)
 obtain ⟨hT,h₂⟩:=h₂
 unfold subscriptTail
 refine wpAny_bind ?_
 rw [getitemInPython_of_ne hT.not_modules]
 refine wpAny_bind (wpAny_specialOf hT hl ?_)
 have fin:wpAny (model prog w) A (subscripted slice false o i) (fun r s₃=>wpAny (model prog w) A (letTemporaryGo value o r >>= fun _=>pure r) Q E s₃) E s₂:=by
  rw [hs o i]
  exact wpAny_operating (wpAny_mono h₂ (fun r s₃ h₃=>wpAny_bind (wpAny_letTemporaryGo (wpAny_pure h₃))) fun _ _ x=>x)
 first
  | exact wpAny_pure (wpAny_bind fin)
  | exact wpAny_bind (wpAny_pure (wpAny_bind fin))
  | exact wpAny_bind fin
theorem Bo {X:Cx}{pins:List (Addr × Obj)}{σ : St}{H:Hp}{s:Shared}{a:Addr}{y:V}{o:Option V} (I:aZ X pins σ H s) (g:vQ H a y o):s.TypeIs (.ref a) "dict":=by
 rcases g with ⟨kvs,k,e,_,_⟩ | ⟨kvs,k,b,e,_,_,_⟩
 ·obtain ⟨_,_,vs,_,dd⟩:=CV I.hok e
  exact dd.typeIs
 ·obtain ⟨_,_,xs,_,dd⟩:=Bb I.hok e
  exact dd.typeIs
def VJ (td ty:TE):TE:=fun σ H Q=>td σ H fun x H1=>ty σ H1 fun y H2=>∃ a v,x = .ref a /\ vQ H2 a y (some v) /\ Q v H2
def U8 (td ty tv:TE):TS:=fun D σ H=>tv σ H fun v H1=>td σ H1 fun x H2=>ty σ H2 fun y H3=>∃ a H4,x = .ref a /\ El H3 a y v H4 /\ D.nx σ H4
section
variable {X:Cx}{o i e value:Expr}{pos pos' tpos:Pos}{td ty tv:TE}
theorem Fp (hu:X.A.units + 1 < cLine) (ho:PE X o td) (hi:PE X i ty) (hs:Wm i):PE X (.Subscript o i pos) (VJ td ty):=by
 intro pins s σ H Q I h
 refine M9 PySem.F.slot_dict_getitem.lookup hs (dU (ho pins s σ H _ I h) fun u s1 ⟨x,H1,I1,rx,q1⟩=>dU (hi pins s1 σ H1 _ I1 q1) fun iv s2 ⟨y,H2,I2,ry,a,v,ex,g,q2⟩=>?_)
 subst ex
 obtain rfl:u=Value.ref a:=rx
 exact ⟨Bo I2 g,Ht hu I2 g ry fun w' s3 I3 rw'=>⟨v,H2,I3,rw',q2⟩⟩
theorem NP (hu:X.A.units + 1 < cLine) (ho:PE X o td) (hi:PE X i ty) (hv:PE X value tv) (hs:swapsWith value (some (.Subscript o i pos')) pos.line X.env=pure false) :
  PS X (.Assign [.Subscript o i pos'] value pos) (U8 td ty tv):=by
 intro pins s σ H D I h
 refine wpAny_Assign_Subscript (dU (hv pins s σ H _ I h) fun r s1 ⟨v,H1,I1,rv,q1⟩=>dU (ho pins s1 σ H1 _ I1 q1) fun u s2 ⟨x,H2,I2,rx,q2⟩=>dU (hi pins s2 σ H2 _ I2 q2) fun iv s3 ⟨y,H3,I3,ry,a,H4,ex,g,q3⟩=>?_) hs
 subst ex
 obtain rfl:u=Value.ref a:=rx
 exact Hu hu I3 g ry rv fun s4 I4=>⟨σ,H4,I4,q3⟩
end
theorem Jp {P:Program}{w:World}{H:Hp} (h:Heap) (hb:sysModules < h.objs.size):dH P w H (h.push { cls:=.type "dict",data:=.dict #[] }) h.objs.size (.dT []) :=
 ⟨Nat.zero_le _,beq_eq_false_iff_ne.mpr (Ne.symm (Nat.ne_of_lt hb)),[],.nil,_,#[],0,Heap.get?_push_size _ rfl,⟨rfl,rfl,rfl⟩,rfl,rfl,List.nodup_nil⟩
def Pb:TE:=fun _ H Q=>∀ p,H p=none->Q (.ref p) (aY H p (.dT []))
section
variable {X:Cx}{pos:Pos}
theorem Kl:PE X (.Dict [] [] pos) Pb:=fun pins s σ H Q I h =>
 wpAny_Dict_empty ⟨.ref s.heap.objs.size,_,I.laid (a:=s.heap.objs.size) (o:=.dT []) (t':=s.toks) (fun _ _ q=>Heap.get?_push_of_some _ q) (Nat.le_refl _) (Jp s.heap I.big),rfl,h _ (I.hok.fresh (Nat.le_refl _))⟩
end
def Jx:List (TE × TE)->St->Hp->(List (V × V)->Hp->Prop)->Prop
 | [],_,H,Q=>Q [] H
 | (tk,tv) :: r,σ,H,Q=>tk σ H fun x H1=>tv σ H1 fun y H2=>Jx r σ H2 fun ps H3=>Q ((x,y) :: ps) H3
abbrev VV:List (V × V)->List (Value × Value)->Prop:=Paired fun p q=>bJ p.1 q.1 /\ bJ p.2 q.2
def PPs (X:Cx) (pos:Pos) (keys:List (Option Expr)) (values:List Expr) (trs:List (TE × TE)):Prop :=
 ∀ (pins:List (Addr × Obj)) (s:Shared) (σ : St) (H:Hp) (Q:List (V × V)->Hp->Prop),aZ X pins σ H s->Jx trs σ H Q ->
  wpAny (model X.prog X.w) X.A (evalPairs (pairTrees keys values X.env pos)) (fun vs s'=>∃ ps H',aZ X pins σ H' s' /\ VV ps vs /\ Q ps H') X.xe s
structure M1 (X:Cx) (o:Expr) (m:Str) (apos:Pos) (e:Expr) (cpos:Pos):Prop where
 base:attributeBase o m X.env (eval o X.env)=eval o X.env
 few:((backTo cpos (starEach [e] X.env)).all (fun x=>!x.1) && (backToKw cpos (keywordEach [] X.env)).all (fun x=>x.1.isSome)
  && decide (([e]:List Expr).length + ([]:List Keyword).length + (if ([]:List Keyword).isEmpty then 0 else 1) < 30))=true
 line:(apos.endLine == cpos.line)=true
 trees:backTo cpos (starEach [e] X.env)=[(false,eval e X.env)]
structure M2 (X:Cx) (o:Expr) (m:Str) (apos:Pos) (e f:Expr) (cpos:Pos):Prop where
 base:attributeBase o m X.env (eval o X.env)=eval o X.env
 few:((backTo cpos (starEach [e,f] X.env)).all (fun x=>!x.1) && (backToKw cpos (keywordEach [] X.env)).all (fun x=>x.1.isSome)
  && decide (([e,f]:List Expr).length + ([]:List Keyword).length + (if ([]:List Keyword).isEmpty then 0 else 1) < 30))=true
 line:(apos.endLine == cpos.line)=true
 trees:backTo cpos (starEach [e,f] X.env)=[(false,eval e X.env),(false,eval f X.env)]
def IsD (H:Hp) (a:Addr):Prop:=(∃ kvs,Rd H a (.dK kvs)) ∨ ∃ kvs,Rd H a (.dT kvs)
theorem Qk {X:Cx}{pins:List (Addr × Obj)}{σ : St}{H:Hp}{s:Shared}{a:Addr} (I:aZ X pins σ H s) (d:IsD H a) :
  s.TypeIs (.ref a) "dict" /\ (∀ b,Value.ref a = .ref b->∃ ob,s.heap.get? b=some ob /\ ob.dict=none) /\ (a == sysModules)=false:=by
 rcases d with ⟨kvs,e⟩ | ⟨kvs,e⟩
 ·obtain ⟨_,hd,vs,_,dd⟩:=CV I.hok e
  refine ⟨dd.typeIs,fun b q=>?_,hd⟩
  cases q
  obtain ⟨ob,_,_,h1,h2,_⟩:=dd
  exact ⟨ob,h1,h2.2.1⟩
 ·obtain ⟨_,hd,xs,_,dd⟩:=Bb I.hok e
  refine ⟨dd.typeIs,fun b q=>?_,hd⟩
  cases q
  obtain ⟨ob,_,_,h1,h2,_⟩:=dd
  exact ⟨ob,h1,h2.2.1⟩
section
variable {X:Cx}{pins:List (Addr × Obj)}{σ : St}{H:Hp}{s:Shared}{a:Addr}{y d:V}{u r:Value}{o:Option V}{A:Around}{E:Value->Shared->Prop}
theorem QV {Q:Value->Shared->Prop} (hu:A.units + 1 < cLine) (I:aZ X pins σ H s) (g:vQ H a y o) (ry:bJ y u) (rd:bJ d r) (h:∀ w' s',aZ X pins σ H s'->bJ (o.getD d) w'->Q w' s') :
  wpAny (model X.prog X.w) A (call (.builtin "dict.get") [.ref a,u,r]) Q E s:=by
 rcases g with ⟨kvs,k,e,ey,l⟩ | ⟨kvs,k,b,e,ey,eb,l⟩
 ·subst ey
  obtain ⟨z,hd,vs,rel,dd⟩:=CV I.hok e
  refine call_meetsIn PySem.F.slot_dict_get dd.typeIs PySem.F.entry_dict_get (PySem.F.args_dict_get_3 _ _ _) (meets_dict_get_default (dZ X.prog X.w) a (Fb ry) hd r) ⟨_,dd.mapOf,h _ _ (I.tok _) ?_⟩
  rw [l]
  exact (rel.val k).getD rd
 ·subst ey
  cases (show u=Value.ref b from ry)
  obtain ⟨z,hd,xs,rel,dd⟩:=Bb I.hok e
  refine call_meetsIn PySem.F.slot_dict_get dd.typeIs PySem.F.entry_dict_get (PySem.F.args_dict_get_3 _ _ _) (meetsH_dict_get_default (tupleKind (dZ X.prog X.w)) a b hd r) ⟨tupleKind_room_in1 hu,k,xs,zW I.hok eb,dd,h _ _ (I.tok _) ?_⟩
  rw [l]
  exact (rel.val k).getD rd
end
def QR (td ty tx:TE):TE:=fun σ H Q=>td σ H fun x H1=>∃ a,x = .ref a /\ IsD H1 a /\ ty σ H1 fun y H2=>tx σ H2 fun z H3=>∃ o,vQ H3 a y o /\ Q (o.getD z) H3
section
variable {X:Cx}{o e f:Expr}{apos cpos:Pos}{td ty tx:TE}
theorem JG (hu:X.A.units + 1 < cLine) (ho:PE X o td) (he:PE X e ty) (hf:PE X f tx) (m:M2 X o "get" apos e f cpos):PE X (.Call (.Attribute o "get" apos) [e,f] [] cpos) (QR td ty tx):=by
 intro pins s σ H Q I h
 refine wpAny_Call_method m.base m.few m.line PySem.F.plainAttrs_dict PySem.F.slot_dict_get PySem.F.type_dict_get (dU (ho pins s σ H _ I h) fun u s1 ⟨x,H1,I1,rx,a,ex,d,q1⟩=>?_)
 subst ex
 obtain rfl:u=Value.ref a:=rx
 obtain ⟨t1,t2,_⟩:=Qk I1 d
 refine ⟨t1,t2,?_⟩
 rw [m.trees]
 refine Calls.callWith_builtin rfl (Calls.evalArgs_plain (Calls.spliced_cons (dU (he pins s1 σ H1 _ I1 q1) fun iv s2 ⟨y,H2,I2,ry,q2⟩ =>
  Calls.spliced_cons (dU (hf pins s2 σ H2 _ I2 q2) fun fv s3 ⟨z,H3,I3,rz,ov,g,q3⟩=>Calls.spliced_nil ?_))))
 exact QV hu I3 g ry rz fun w' s4 I4 rw'=>⟨_,H3,I4,rw',q3⟩
end
section
variable {X:Cx}{pins:List (Addr × Obj)}{σ : St}{H:Hp}{s:Shared}{a:Addr}{kvs:List (dB × V)}{A:Around}{E:Value->Shared->Prop}
end
section
variable {X:Cx}{pins:List (Addr × Obj)}{σ : St}{H:Hp}{s:Shared}{a:Addr}{y:V}{u:Value}{A:Around}{E:Value->Shared->Prop}
end
end L2
namespace L2
open PySem PySem.Spec PyProof.Rows
section
variable {X:Cx}
end
section
variable {κ : Type} [DecidableEq κ]
theorem Ka {kvs:List (κ × V)}{k:κ} (h:lB kvs k=none):¬ k ∈ kvs.map (·.1):=by
 intro m
 obtain ⟨p,hp,e⟩:=List.mem_map.mp m
 have q:(kvs.any fun kv=>decide (kv.1=k))=true:=List.any_eq_true.mpr ⟨p,hp,decide_eq_true e⟩
 rw [vM,h] at q
 exact absurd q (by simp)
end
end L2
namespace PySem
section
variable {prog:Program}{w:World}{A:Around}{E:Value->Shared->Prop}{R:Result->Shared->Prop}{s:Shared}
theorem yX {elt target iter:Expr}{ifs:List Expr}{scope:Scope}{pos:Pos}{it acc:Value}{env:Env} (I:Nat->Shared->Prop)
  (turn:∀ n s,I n s->∀ E':Value->Shared->Prop,wpAny (model prog w) A (pyNext it) (fun r s₁=>match r with
   | none=>R (.ok .next) s₁
   | some v=>wpAny (model prog w) A (letOwnedTupleGo target it v) (fun _ s₁'=>wpAny (model prog w) A (assign target env v) (fun _ s₂ =>
     wpAny (model prog w) A (forIn ifs true fun c r=>if r=true then do let ok <- isTrue c env (eval c env); pure (ForInStep.yield ok) else pure (ForInStep.yield r)) (fun ok s₃ =>
      if ok=true then wpAny (model prog w) A (eval elt env) (fun x s₄ =>
       wpAny (model prog w) A (call (.builtin "list.append") [acc,x]) (fun _ s₅=>∃ m,m < n /\ I m s₅) E' s₄) E' s₃
      else ∃ m,m < n /\ I m s₃) E' s₂) E' s₁') E' s₁) E' s)
  (n:Nat) (h:I n s) :
  codeAny (model prog w) A (.compLoop (.ListComp elt [⟨target,iter,ifs,0⟩] scope pos) 0 it acc env) R s:=by
 refine codeAny_loop rfl I (fun n s hI=>?_) n h
 show wpAny _ A ((compTurn (.ListComp elt [⟨target,iter,ifs,0⟩] scope pos) 0 it acc env).onRaise (fun x=>do noteFrame x env; theTreesLotGoes x)) _ _ s
 refine wpAny_noted ?_
 rw [compTurn_list]
 refine wpAny_bind (wpAny_standAt (wpAny_bind (wpAny_mono (turn n s hI _) (fun r s₁ h₁=>?_) fun _ _ h'=>h')))
 cases r with
 | none=>exact wpAny_pure h₁
 | some v =>
  refine wpAny_bind (wpAny_mono h₁ (fun _ s₁' h₁'=>?_) fun _ _ h'=>h')
  refine wpAny_bind (wpAny_mono h₁' (fun _ s₂ h₂=>wpAny_bind (wpAny_mono h₂ (fun ok s₃ h₃=>?_) fun _ _ h'=>h')) fun _ _ h'=>h')
  cases ok with
  | false=>exact wpAny_pure ⟨rfl,h₃⟩
  | true =>
   exact wpAny_bind (wpAny_bind (wpAny_mono h₃ (fun x s₄ h₄=>wpAny_bind (wpAny_mono h₄ (fun _ s₅ h₅=>wpAny_pure (wpAny_pure ⟨rfl,h₅⟩)) fun _ _ h'=>h')) fun _ _ h'=>h'))
end
end PySem
namespace PySem
def fO (env:Env):List (Str × NameKind)->List (Str × Addr)->List (Str × Addr)
 | [],cs=>cs
 | (n,k) :: r,cs=>fO env r (if k == .free then (match env.cells.lookup n with | some a=>(n,a) :: cs | none=>cs) else cs)
theorem qK {scope:Scope}{env:Env} (h:∀ y ∈ scope.names,y.2 = .free->∃ c,env.cells.lookup y.1=some c):closureFor scope env=pure (fO env scope.names []):=by
 unfold closureFor
 have key:∀ (l:List (Str × NameKind)) (cs:List (Str × Addr)),(∀ y ∈ l,y.2 = .free->∃ c,env.cells.lookup y.1=some c) ->
   (forIn l cs fun x r=>(match x with
    | (name,kind)=>if (kind == NameKind.free)=true then (do let a <- cellOf env name; pure (ForInStep.yield ((name,a) :: r))) else pure (ForInStep.yield r):Sem (ForInStep (List (Str × Addr)))))=(pure (fO env l cs):Sem _):=by
  intro l
  induction l with
  | nil=>intro cs _; rfl
  | cons y r ih =>
   intro cs hy
   obtain ⟨n,k⟩:=y
   rw [List.forIn_cons]
   by_cases hk:(k == NameKind.free)=true
   ·obtain ⟨c,hc⟩:=hy (n,k) List.mem_cons_self (by simpa using hk)
    have e:cellOf env n=pure c:=by unfold cellOf; rw [hc]
    simp only [hk,if_true,e,pure_bind]
    rw [ih _ fun z hz=>hy z (List.mem_cons_of_mem _ hz)]
    show _=pure (fO env r (if (k == NameKind.free)=true then (match env.cells.lookup n with | some a=>(n,a) :: cs | none=>cs) else cs))
    rw [if_pos hk,hc]
   ·have hk2:(k == NameKind.free)=false:=by simpa using hk
    simp only [hk2,Bool.false_eq_true,if_false,pure_bind]
    rw [ih _ fun z hz=>hy z (List.mem_cons_of_mem _ hz)]
    show _=pure (fO env r (if (k == NameKind.free)=true then (match env.cells.lookup n with | some a=>(n,a) :: cs | none=>cs) else cs))
    rw [if_neg hk]
 have k2:=key scope.names [] h
 simp only [bind_pure]
 first
  | exact k2
  | (rw [<- k2]; rfl)
theorem qU {env:Env}:∀ (l:List (Str × NameKind)) (cs:List (Str × Addr)) (p:Str × Addr),p ∈ fO env l cs->p ∈ cs ∨ env.cells.lookup p.1=some p.2
 | [],_,_,h=>.inl h
 | (n,k) :: r,cs,p,h=>by
  rcases qU r _ p h with q | q
  ·by_cases hk:(k == NameKind.free)=true
   ·rw [if_pos hk] at q
    cases e:env.cells.lookup n with
    | none=>rw [e] at q; exact .inl q
    | some a =>
     rw [e] at q
     rcases List.mem_cons.mp q with z | z
     ·subst z; exact .inr e
     ·exact .inl z
   ·rw [if_neg hk] at q; exact .inl q
  ·exact .inr q
theorem xK {env:Env}:∀ (l:List (Str × NameKind)) (cs:List (Str × Addr)) (p:Str × Addr),p ∈ cs->p ∈ fO env l cs
 | [],_,_,h=>h
 | (n,k) :: r,cs,p,h=>by
  refine xK r _ p ?_
  by_cases hk:(k == NameKind.free)=true
  ·rw [if_pos hk]
   cases e:env.cells.lookup n with
   | none=>exact h
   | some a=>exact List.mem_cons_of_mem _ h
  ·rw [if_neg hk]; exact h
theorem qN {env:Env}{n:Str}{c:Addr} (e:env.cells.lookup n=some c):∀ (l:List (Str × NameKind)) (cs:List (Str × Addr)),(n,NameKind.free) ∈ l->(n,c) ∈ fO env l cs
 | [],_,h=>nomatch h
 | (m,k) :: r,cs,h=>by
  rcases List.mem_cons.mp h with z | z
  ·cases z
   refine xK r _ _ ?_
   rw [if_pos (by rfl),e]
   exact List.mem_cons_self
  ·exact qN e r _ z
theorem jY {β : Type}{n:Str}{c:β}:∀ {l:List (Str × β)},(n,c) ∈ l->∃ d,l.lookup n=some d
 | [],h=>nomatch h
 | (m,d) :: r,h=>by
  cases q:n == m with
  | true=>exact ⟨d,by simp only [List.lookup_cons,q]⟩
  | false =>
   rcases List.mem_cons.mp h with z | z
   ·cases z
    simp at q
   ·obtain ⟨d',e⟩:=jY z
    exact ⟨d',by simp only [List.lookup_cons,q,e]⟩
theorem iG {env:Env}:∀ {names:List (Str × NameKind)}{x:Str}{k:NameKind},
  (names.map fun (n,k)=>if (k == NameKind.free && env.scope.kind == .function && env.kindOf n == some .cell) then (n,NameKind.cell) else (n,k)).lookup x=some k ->
  ∃ k',names.lookup x=some k' /\ (k'=k ∨ (k' = .free /\ k = .cell))
 | [],_,_,h=>by simp at h
 | (n,j) :: r,x,k,h=>by
  cases hx:x == n with
  | true =>
   refine ⟨j,by simp only [List.lookup_cons,hx],?_⟩
   by_cases hc:(j == NameKind.free && env.scope.kind == .function && env.kindOf n == some .cell)=true
   ·simp only [List.map_cons,if_pos hc,List.lookup_cons,hx] at h
    cases h
    refine .inr ⟨?_,rfl⟩
    simp only [Bool.and_eq_true,beq_iff_eq] at hc
    exact hc.1.1
   ·simp only [List.map_cons,if_neg hc,List.lookup_cons,hx] at h
    cases h
    exact .inl rfl
  | false =>
   by_cases hc:(j == NameKind.free && env.scope.kind == .function && env.kindOf n == some .cell)=true
   ·simp only [List.map_cons,if_pos hc,List.lookup_cons,hx] at h
    obtain ⟨k',e1,e2⟩:=iG h
    exact ⟨k',by simp only [List.lookup_cons,hx,e1],e2⟩
   ·simp only [List.map_cons,if_neg hc,List.lookup_cons,hx] at h
    obtain ⟨k',e1,e2⟩:=iG h
    exact ⟨k',by simp only [List.lookup_cons,hx,e1],e2⟩
end PySem
namespace L2
open PySem PySem.Spec PyProof.Rows
open Builtin.Int (intBits)
section
variable {X:Cx}
def JT (i j:Int):Prop:=intBits i + intBits j <= 134217728
def SM (i j:Int):Prop:=j ≠ 0 /\ intBits j <= 9000
theorem bT:nZ X (binaryOp .Mult) (rI JT fun i j=>.int (i * j)):=Px fun _ _ _ _ _ _ _ hc q=>mul_int q (IntMulOk.of_le (Nat.le_refl _) (Nat.le_refl _) hc)
theorem zR {j:Int} (h0:j ≠ 0) (h:intBits j <= 9000):j.natAbs.log2 < 9000:=by
 unfold Builtin.Int.intBits at h
 have e:(j == 0)=false:=by simpa using h0
 rw [e] at h
 simp only [Bool.false_eq_true,if_false] at h
 omega
theorem fP:nZ X (binaryOp .FloorDiv) (rI SM fun i j=>.int (i.fdiv j)):=Px fun _ _ _ _ _ _ _ hc q=>floordiv_int hc.1 q (.inl (PyProof.noPylong_of_log2 (zR hc.1 hc.2)))
theorem fJ {T:String}:jM X (.builtin "isinstance") (fun xs H Q=>∃ x t b,xs=[x,.ty T] /\ gP X.K H x t /\ PySem.W.kitOne X.K t (.type T)=some b /\ Q (.bl b) H):=by
 intro pins s σ H xs us Q I r h
 obtain ⟨x,t,b,rfl,ty,e,q⟩:=h
 obtain ⟨u,w',rfl,rx,rt⟩:=KD r
 cases (show w'=Value.type T from rt)
 exact wU I rx ty e fun tk=>⟨.bl b,H,I.tok _,rfl,q⟩
theorem gJ {α : Type}{l:List α}{d:α}{i:Nat} (h:i < l.length):l.getD i d=l[i]:=by simp [h]
theorem Ak:∀ (ns ms:List Int),((List.range (min ns.length ms.length)).all (fun j=>ns.getD j 0 == ms.getD j 0) && ns.length == ms.length)=decide (ns=ms):=by
 intro ns ms
 rw [Bool.eq_iff_iff]
 simp only [Bool.and_eq_true,List.all_eq_true,List.mem_range,beq_iff_eq,decide_eq_true_eq]
 constructor
 ·rintro ⟨h,hl⟩
  refine List.ext_getElem hl fun i h1 h2=>?_
  have q:=h i (by omega)
  rw [gJ h1,gJ h2] at q
  exact q
 ·rintro rfl
  exact ⟨fun _ _=>rfl,rfl⟩
theorem Fw {us:List Value}{ns:List Int} (h:bL (ns.map V.int) us) {j:Nat} (hj:j < us.length):∃ t,us[j]=Value.int (ns.getD j 0) t:=by
 have hl:=h.length
 rw [List.length_map] at hl
 have e:(ns.map V.int)[j]? = some (.int (ns.getD j 0)):=by
  rw [List.getElem?_map,List.getElem?_eq_getElem (by omega),gJ (by omega)]
  rfl
 obtain ⟨u,hu,t,r⟩:=h.get e
 rw [List.getElem?_eq_getElem hj] at hu
 exact ⟨t,(Option.some.inj hu).trans r⟩
def ZG (K:PySem.W.Frag):R2:=fun x y H Q=>∃ (a b:Addr) (ns ms:List Int),x = .ref a /\ y = .ref b /\ bQ K H a (ns.map V.int) /\ bQ K H b (ms.map V.int) /\ Q (.bl (decide (ns=ms))) H
def aAw (K:PySem.W.Frag):R2:=fun x y H Q=>∃ (a b:Addr) (ns ms:List Int),x = .ref a /\ y = .ref b /\ bQ K H a (ns.map V.int) /\ bQ K H b (ms.map V.int) /\ Q (.bl (!decide (ns=ms))) H
theorem xX {A:Around}{s:Shared}{its its2:List Value}{ns ms:List Int} (r1:bL (ns.map V.int) its) (r2:bL (ms.map V.int) its2) :
  ∀ j (h1:j < its.toArray.size) (h2:j < its2.toArray.size),PySem.SeqAt.EqAt A s its.toArray[j] its2.toArray[j] (ns.getD j 0 == ms.getD j 0):=fun j h1 h2=>by
 obtain ⟨t1,e1⟩:=Fw r1 (j:=j) (by simpa using h1)
 obtain ⟨t2,e2⟩:=Fw r2 (j:=j) (by simpa using h2)
 rw [List.getElem_toArray,List.getElem_toArray,e1,e2]
 exact PySem.SeqAt.EqAt.int_int _ _ _ _
theorem uQ {its its2:List Value}{ns ms:List Int} (r1:bL (ns.map V.int) its) (r2:bL (ms.map V.int) its2) :
  ((List.range (min its.toArray.size its2.toArray.size)).all (fun j=>ns.getD j 0 == ms.getD j 0) && its.toArray.size == its2.toArray.size)=decide (ns=ms):=by
 have l1:=r1.length
 have l2:=r2.length
 rw [List.length_map] at l1 l2
 rw [List.size_toArray,List.size_toArray,<- l1,<- l2]
 exact Ak ns ms
theorem Kz (hu:X.A.units < cLine):nZ X (compareOp .Eq) (ZG X.K):=by
 intro pins s σ H x y v u Q I rx ry h
 obtain ⟨a,b,ns,ms,rfl,rfl,ha,hb,q⟩:=h
 cases rx
 cases ry
 obtain ⟨its,r1,p1,_⟩:=I.tuple ha
 obtain ⟨its2,r2,p2,_⟩:=I.tuple hb
 refine PySem.SeqAt.eq_tupleAt (show s.heap.IsTuple a its.toArray from p1) (show s.heap.IsTuple b its2.toArray from p2) hu (xX r1 r2) ?_
 rw [uQ r1 r2]
 exact ⟨.bl (decide (ns=ms)),H,I,rfl,q⟩
theorem QB (hu:X.A.units < cLine):nZ X (compareOp .NotEq) (aAw X.K):=by
 intro pins s σ H x y v u Q I rx ry h
 obtain ⟨a,b,ns,ms,rfl,rfl,ha,hb,q⟩:=h
 cases rx
 cases ry
 obtain ⟨its,r1,p1,_⟩:=I.tuple ha
 obtain ⟨its2,r2,p2,_⟩:=I.tuple hb
 refine PySem.SeqAt.RcNeAt.tuples (show s.heap.IsTuple a its.toArray from p1) (show s.heap.IsTuple b its2.toArray from p2) hu (xX r1 r2) X.prog X.w _ _ ?_
 rw [uQ r1 r2]
 exact ⟨.bl (!decide (ns=ms)),H,I,rfl,q⟩
end
structure cA (sc scope:Scope):Prop where
 kind:scope.kind = .function
 nocell:∀ y ∈ scope.names,y.2 ≠ .cell
 loc:∀ y ∈ scope.names,y.2 = .local->scope.names.lookup y.1=some .local
 free:∀ y ∈ scope.names,y.2 = .free->sc.names.lookup y.1=some .cell ∨ sc.names.lookup y.1=some .free
def Fo (sc scope:Scope):Bool:=(scope.kind == .function) && scope.names.all fun y=>(y.2 != .cell) && ((y.2 != .local) || (scope.names.lookup y.1 == some .local)) && ((y.2 != .free) || (sc.names.lookup y.1 == some .cell) || (sc.names.lookup y.1 == some .free))
theorem cA.of {sc scope:Scope} (h:Fo sc scope=true):cA sc scope:=by
 unfold Fo at h
 rw [Bool.and_eq_true,List.all_eq_true] at h
 obtain ⟨hk,h⟩:=h
 refine ⟨eq_of_beq hk,fun y hy=>?_,fun y hy e=>?_,fun y hy e=>?_⟩
 ·have q:=h y hy
  simp only [Bool.and_eq_true,bne_iff_ne] at q
  exact q.1.1
 ·have q:=h y hy
  simp only [Bool.and_eq_true,Bool.or_eq_true,bne_iff_ne,beq_iff_eq] at q
  exact q.1.2.resolve_left fun z=>z e
 ·have q:=h y hy
  simp only [Bool.and_eq_true,Bool.or_eq_true,bne_iff_ne,beq_iff_eq] at q
  rcases q.2 with (z | z) | z
  ·exact absurd e z
  ·exact .inl z
  ·exact .inr z
structure NL (N M:List Str) (scope:Scope):Prop where
 len:M.length=N.length
 loc:∀ (j:Nat) x,M[j]? = some x->scope.names.lookup x ≠ some .local
 free:∀ (j:Nat) x,M[j]? = some x->scope.names.lookup x=some .free->N[j]? = some x
def nlB (scope:Scope):List Str->List Str->Bool
 | [],[]=>true
 | x :: M,y :: N=>(scope.names.lookup x != some .local) && ((scope.names.lookup x != some .free) || x == y) && nlB scope M N
 | _,_=>false
theorem NL.of {scope:Scope}:∀ {N M:List Str},nlB scope M N=true->NL N M scope
 | [],[],_=>⟨rfl,fun j x h=>by simp at h,fun j x h=>by simp at h⟩
 | [],_ :: _,h=>by cases h
 | _ :: _,[],h=>by cases h
 | y :: N,x :: M,h=>by
  have h':((scope.names.lookup x != some .local) && ((scope.names.lookup x != some .free) || x == y) && nlB scope M N)=true:=h
  simp only [Bool.and_eq_true,Bool.or_eq_true,bne_iff_ne,beq_iff_eq] at h'
  obtain ⟨⟨h1,h2⟩,h3⟩:=h'
  have q:=NL.of h3
  refine ⟨by simp [q.len],fun j z e=>?_,fun j z e f=>?_⟩
  ·cases j with
   | zero=>simp at e; subst e; exact h1
   | succ j=>exact q.loc j z (by simpa using e)
  ·cases j with
   | zero =>
    simp at e; subst e
    rcases h2 with w | w
    ·exact absurd f w
    ·simp [w]
   | succ j=>simpa using q.free j z (by simpa using e) f
def fM (X:Cx) (ls M:List Str) (scope:Scope) (C:Addr) (fp:List Addr) (s:Shared) (H:Hp):Cx where
 prog:=X.prog
 w:=X.w
 K:=X.K
 mg:=X.mg
 base:=X.base
 A:=X.A
 N:=ls ++ M
 s₀:=s
 H₀:=H
 env:=compEnvC scope (fO X.env scope.names []) C X.env
 outer:=X.stack
 stack:=X.stack
 ex:=fp
 fn:=fun _=>false
 calm:=X.calm
 pn:=[]
 xe:=fun _ _=>False
def V0 (Y:Cx) (ifs:List Expr) (c:TT):Prop :=
 ∀ (pins:List (Addr × Obj)) (s:Shared) (σ : St) (H:Hp) (Q:Bool->Hp->Prop),aZ Y pins σ H s->c σ H Q ->
  wpAny (model Y.prog Y.w) Y.A (forIn ifs true fun c r=>if r=true then do let ok <- isTrue c Y.env (eval c Y.env); pure (ForInStep.yield ok) else pure (ForInStep.yield r)) (TP Y pins σ Q) Y.xe s
def Q5:TT:=fun _ H Q=>Q true H
theorem cQ {Y:Cx}:V0 Y [] Q5:=fun _ _ _ H _ I h=>wpAny_tests_nil ⟨H,I,h⟩
theorem Mw {Y:Cx}{e:Expr}{c:TT} (h:PT Y e c):V0 Y [e] c:=fun pins s σ H Q I hw=>wpAny_tests_one (h pins s σ H Q I hw)
def Bt (k:Nat) (J:It) (g:TG) (c:TT) (te:TE) (σ : St) (H1:Hp) (D:Addr) (Q:VK):Prop :=
 ∃ W:Nat->Nat->St->Hp->Prop,(∃ m,W 0 m (List.replicate k none ++ σ) (aY H1 D (.lst []))) /\ ∀ i m τ H,W i m τ H ->
  (J.stop i H /\ Q (.ref D) H) ∨ (J.go i H /\ ∀ x H',J.yld i H x H'->g x τ H' fun τ2 H2=>c τ2 H2 fun b H3=>if b=true then te τ2 H3 fun y H4=>∃ ys m',m' < m /\ H4 D=some (.lst ys) /\ ys.length < sizeLine /\ W (i + 1) m' τ2 (aY H4 D (.lst (ys ++ [y]))) else ∃ m',m' < m /\ W (i + 1) m' τ2 H3)
def Oa (k:Nat) (wi:TI) (g:TG) (c:TT) (te:TE):TE:=fun σ H Q=>wi σ H fun J H1=>∀ D,H1 D=none->Bt k J g c te σ H1 D Q
structure MJ (X:Cx) (pins:List (Addr × Obj)) (H:Hp) (C:Addr) (s:Shared):Prop where
 ns:∃ m,s.heap.Ns C m
 none:H C=none
 ne:C ≠ X.env.locals
 young:X.s₀.heap.objs.size <= C
 cells:∀ x c,X.env.cells.lookup x=some c->c ≠ C
 pins:∀ p ∈ X.pn ++ pins,p.1 ≠ C
theorem aZ.gone {X:Cx}{pins:List (Addr × Obj)}{σ : St}{H:Hp}{C:Addr}{s:Shared}{h':Heap} (I:aZ X pins σ H s) (o:MJ X pins H C s) (hs:Heap.SameBut C s.heap h'):aZ X pins σ H { s with heap:=h' } :=
 I.turned (t':=s.toks) (it:=C) (fun b ob hb e=>(hs.2 b hb).trans e) o.none o.ne (.inr o.young) o.cells o.pins
section
variable {X:Cx}{elt tg iter:Expr}{ifs:List Expr}{scope:Scope}{pos:Pos}{ls M:List Str}{g:TG}{c:TT}{te:TE}
theorem yM {J:It}{fp:List Addr}{tn:Nat->Heap->Prop}{it:Addr}{pins:List (Addr × Obj)}{σ : St}{H2:Hp}{s2:Shared}{Qe:VK}{RR:Value->Addr->Result->Shared->Prop}{E:Value->Shared->Prop}
  (hc:X.calm=true) (S:cA X.env.scope scope) (nl:NL X.N M scope)
  (hb:∀ C fp s H,PG (fM X ls M scope C fp s H) tg g /\ V0 (fM X ls M scope C fp s H) ifs c /\ PE (fM X ls M scope C fp s H) elt te)
  (I2:aZ X pins σ H2 s2) (T:Dy X.prog X.w X.K tg J fp it tn) (st2:tn 0 s2.heap) (f2:∀ b ∈ fp,jZ X pins H2 b)
  (hW:∀ D,H2 D=none->Bt ls.length J g c te σ H2 D Qe)
  (hRR:∀ D C H' s',aZ X pins σ H' s'->MJ X pins H' C s'->Qe (.ref D) H'->RR (.ref D) C (.ok .next) s') :
  wpAny (model X.prog X.w) X.A (newList []) (fun acc s₃=>wpAny (model X.prog X.w) X.A (newFunctionEnv scope X.env.globals (fO X.env scope.names []) [] X.env.qual none .none (some X.env)) (fun cenv s₄ =>
   codeAny (model X.prog X.w) X.A (.compStart (.ListComp elt [⟨tg,iter,ifs,0⟩] scope pos) 0 (.ref it) acc { cenv with scope:=relabel scope X.env }) (RR acc cenv.locals) s₄) E s₃) E s2:=by
 refine wpAny_newObj_type (wpAny_newFunctionEnv S.nocell (by intro y hy; simp at hy) (fun h₁ hns₁ hsb₁=>?_) S.kind)
 dsimp only at hns₁ hsb₁ ⊢
 have I3:aZ X pins σ (aY H2 s2.heap.objs.size (.lst [])) { s2 with heap:=s2.heap.push { cls:=.type "list",dict:=none,data:=.seq ([]:List Value).toArray },toks:=s2.toks } :=
  I2.laid (fun _ _ q=>Heap.get?_push_of_some _ q) (Nat.le_refl _) ⟨Nat.zero_le _,[],0,.nil,Heap.get?_push_size _ rfl⟩
 have hfreshD:H2 s2.heap.objs.size=none:=I2.hok.fresh (Nat.le_refl _)
 generalize hHH:s2.heap.push { cls:=.type "list",dict:=none,data:=.seq ([]:List Value).toArray } = HH at hns₁ hsb₁ I3 ⊢
 have up:∀ b o,s2.heap.get? b=some o->HH.get? b=some o:=fun b o e=>by rw [<- hHH]; exact Heap.get?_push_of_some _ e
 have old:∀ b o,HH.get? b=some o->h₁.get? b=some o:=fun b o e=>hsb₁.extBut b o (Nat.ne_of_lt (Heap.lt_size e)) (Heap.get?_push_of_some _ e)
 generalize hH3:aY H2 s2.heap.objs.size (.lst [])=H3 at I3
 have f3:∀ b ∈ fp,jZ X pins H3 b:=fun b hb=>by
  obtain ⟨f0,fr⟩:=f2 b hb
  refine ⟨?_,fr⟩
  obtain ⟨o,e,_⟩:=T.obj 0 _ st2 b hb
  rw [<- hH3,aK (Nat.ne_of_lt (Heap.lt_size e))]
  exact f0
 have fplt:∀ b ∈ fp,b < HH.objs.size:=fun b hb=>by
  obtain ⟨o,e,_⟩:=T.obj 0 _ st2 b hb
  exact Heap.lt_size (up b o e)
 have sub:∀ x a,(fO X.env scope.names []).lookup x=some a->X.env.cells.lookup x=some a:=fun x a e=>by
  rcases qU _ _ _ (PySem.mem_of_lookup e) with z | z
  ·exact absurd z (by simp)
  ·exact z
 have kin:∀ x,scope.names.lookup x=some .free->X.env.kindOf x=some .cell ∨ X.env.kindOf x=some .free:=fun x e=>S.free (x,.free) (PySem.mem_of_lookup e) rfl
 have has:∀ x a,scope.names.lookup x=some .free->X.env.cells.lookup x=some a->(fO X.env scope.names []).lookup x=some a:=fun x a e ec=>by
  obtain ⟨d,hd⟩:=jY (qN ec scope.names [] (PySem.mem_of_lookup e))
  have:=sub x d hd
  rw [ec] at this
  cases this
  exact hd
 have rel:∀ x k,(relabel scope X.env).names.lookup x=some k->(k = .cell ∨ k = .free)->scope.names.lookup x=some .free:=fun x k e hk=>by
  obtain ⟨k',e1,e2⟩:=iG (show (scope.names.map fun (n,k)=>if (k == NameKind.free && X.env.scope.kind == .function && X.env.kindOf n == some .cell) then (n,NameKind.cell) else (n,k)).lookup x=some k from e)
  rcases e2 with e2 | ⟨e2,_⟩
  ·subst e2
   rcases hk with hk | hk
   ·subst hk; exact absurd rfl (S.nocell _ (PySem.mem_of_lookup e1))
   ·subst hk; exact e1
  ·subst e2; exact e1
 have okY:(fM X ls M scope HH.objs.size fp { s2 with heap:=HH,toks:=s2.toks } H3).Ok:=by
  refine ⟨I3.ok.mod,S.kind,I3.ok.glob,I3.ok.blt,Nat.le_refl _,fun x y a h1 h2=>I3.ok.inj x y a (sub x a h1) (sub y a h2),fun x hx=>?_,(fun x a h=>nomatch h),I3.ok.hd,I3.ok.frames,.inl rfl,fun b hb'=>⟨Nat.ne_of_lt (fplt b hb'),fun x a e=>(f3 b hb').2.2.2.2.1 x a (sub x a e)⟩,
   I3.bs,Nat.le_trans I3.ok.bsz I3.sz,fun b o e hb'=>?_,fun b hb' hs=>?_,I3.stack,I3.stkFree⟩
  ·have hf:scope.names.lookup x=some .free:=by
    rcases hx with hx | hx
    ·exact rel x _ hx (.inl rfl)
    ·exact rel x _ hx (.inr rfl)
   obtain ⟨a,ea⟩:=I3.ok.has x (kin x hf)
   exact ⟨a,has x a hf ea⟩
  ·rcases (f3 b hb').2.2.2.1 with z | z
   ·exact I3.ok.noex b o e z
   ·exact absurd (Nat.lt_of_lt_of_le (Heap.lt_size e) (Nat.le_trans I3.ok.bsz z)) (Nat.lt_irrefl _)
  ·rcases List.mem_cons.mp (I3.stkSub b hs) with z | z
   ·exact (f3 b hb').2.1 z
   ·exact (f3 b hb').2.2.1 z
 have IY:aZ (fM X ls M scope HH.objs.size fp { s2 with heap:=HH,toks:=s2.toks } H3) [] (List.replicate ls.length none ++ σ) H3 { s2 with heap:=h₁,toks:=s2.toks + ([]:List (Str × Value)).length }:=by
  refine ⟨okY,rfl,I2.bare,Un.kept old,⟨_,hns₁,fun i x v e1 e2 e3=>?_⟩,fun x a e=>?_,I3.hok.fresh (Nat.le_refl _),fun x a e=>I3.freeC x a (sub x a e),fun p hp=>absurd (show p ∈ ([]:List (Addr × Obj)) from hp) (by simp),I3.hok.kept old,?_⟩
  ·have hi:ls.length <= i:=by
    by_cases hi:ls.length <= i
    ·exact hi
    ·rw [List.getElem?_append_left (by simp; omega),List.getElem?_replicate] at e2
     split at e2 <;> cases e2
   rw [List.getElem?_append_right (by simpa using hi),List.length_replicate] at e2
   have e0:M[i - ls.length]? = some x:=by
    have z:(ls ++ M)[i]? = some x:=e1
    rw [List.getElem?_append_right hi] at z
    exact z
   have hnl:=nl.loc _ x e0
   have hf:scope.names.lookup x=some .free:=by
    rcases e3 with e3 | e3 | e3
    ·obtain ⟨k',q1,q2⟩:=iG (show (scope.names.map fun (n,k)=>if (k == NameKind.free && X.env.scope.kind == .function && X.env.kindOf n == some .cell) then (n,NameKind.cell) else (n,k)).lookup x=some .local from e3)
     rcases q2 with q2 | ⟨_,q2⟩
     ·subst q2; exact absurd q1 hnl
     ·cases q2
    ·exact rel x _ e3 (.inl rfl)
    ·exact rel x _ e3 (.inr rfl)
   have e1':=nl.free _ x e0 hf
   have hk:=kin x hf
   obtain ⟨m,hn,hl⟩:=I3.loc
   obtain ⟨u,ru,lk⟩:=hl (i - ls.length) x v e1' e2 (hk.elim (fun z=>.inr (.inl z)) fun z=>.inr (.inr z))
   refine ⟨u,ru,?_⟩
   rcases lk with ⟨z,_⟩ | ⟨_,a,ea,hcell⟩
   ·rcases hk with hk | hk <;> (rw [hk] at z; cases z)
   ·obtain ⟨o,eo,hd⟩:=hcell
    refine .inr ⟨?_,a,has x a hf ea,⟨o,old a o eo,hd⟩⟩
    rcases e3 with e3 | e3 | e3
    ·obtain ⟨k',q1,q2⟩:=iG (show (scope.names.map fun (n,k)=>if (k == NameKind.free && X.env.scope.kind == .function && X.env.kindOf n == some .cell) then (n,NameKind.cell) else (n,k)).lookup x=some .local from e3)
     rcases q2 with q2 | ⟨_,q2⟩
     ·subst q2; exact absurd q1 hnl
     ·cases q2
    ·exact .inl e3
    ·exact .inr e3
  ·obtain ⟨v,o,eo,hd⟩:=I3.cell x a (sub x a e)
   exact ⟨v,o,old a o eo,hd⟩
  ·show (List.replicate ls.length none ++ σ).length=(ls ++ M).length
   rw [List.length_append,List.length_append,List.length_replicate,I3.len,nl.len]
 have st1:tn 0 h₁:=T.keep 0 _ _ st2 fun b _ o e=>old b o (up b o e)
 obtain ⟨hPG,hPT,hPE⟩:=hb HH.objs.size fp { s2 with heap:=HH,toks:=s2.toks } H3
 obtain ⟨W,⟨m0,w0⟩,turn⟩:=hW s2.heap.objs.size hfreshD
 rw [hH3] at w0
 have back:∀ {τ : St}{H':Hp}{s':Shared},aZ (fM X ls M scope HH.objs.size fp { s2 with heap:=HH,toks:=s2.toks } H3) [] τ H' s'->aZ X pins σ H' s' /\ MJ X pins H' HH.objs.size s':=fun {τ H' s'} J=>by
  refine ⟨I3.call' (ch:=fp) J.os J.base J.hok J.bare fun b hb'=>?_,?_⟩
  ·obtain ⟨_,g1,g2,g3,g4,g5⟩:=f3 b hb'
   exact ⟨g3,g1,g4,g5⟩
  ·obtain ⟨m,hn,_⟩:=J.loc
   refine ⟨⟨m,hn⟩,J.free,Ne.symm (Nat.ne_of_lt I3.lt),I3.sz,fun x a e=>?_,fun p hp=>Nat.ne_of_lt (Heap.lt_size (I3.pin p hp).1)⟩
   obtain ⟨v,q⟩:=I3.cell x a e
   exact Nat.ne_of_lt q.lt
 have stat:∀ {H':Hp},(∀ b ∈ fp,H' b=none)->∀ b ∈ fp,jZ (fM X ls M scope HH.objs.size fp { s2 with heap:=HH,toks:=s2.toks } H3) [] H' b:=fun {H'} hn b hb'=>by
  obtain ⟨_,g1,g2,g3,g4,g5⟩:=f3 b hb'
  refine ⟨hn b hb',Nat.ne_of_lt (fplt b hb'),fun hs=>?_,.inl hb',fun x a e=>g4 x a (sub x a e),fun p hp=>absurd (show p ∈ ([]:List (Addr × Obj)) from hp) (by simp)⟩
  rcases List.mem_cons.mp (I3.stkSub b hs) with z | z
  ·exact g1 z
  ·exact g2 z
 have loop:∀ s₃ : Shared,s₃ = { s2 with heap:=h₁,toks:=s2.toks + ([]:List (Str × Value)).length } ->
   codeAny (model X.prog X.w) X.A (.compLoop (.ListComp elt [⟨tg,iter,ifs,0⟩] scope pos) 0 (.ref it) (.ref s2.heap.objs.size) (compEnvC scope (fO X.env scope.names []) HH.objs.size X.env)) (RR (.ref s2.heap.objs.size) HH.objs.size) s₃:=by
  rintro s₃ rfl
  refine yX (fun n s'=>∃ i τ H',aZ (fM X ls M scope HH.objs.size fp { s2 with heap:=HH,toks:=s2.toks } H3) [] τ H' s' /\ tn i s'.heap /\ (∀ b ∈ fp,H' b=none) /\ W i n τ H') ?_ m0 ⟨0,_,H3,IY,st1,fun b hb'=>(f3 b hb').1,w0⟩
  rintro n s3 ⟨i,τ,H',I4,st4,fr4,w4⟩ E'
  rcases turn i n τ H' w4 with ⟨stop,qn⟩ | ⟨go,step⟩
  ·refine dU (T.done (fM X ls M scope HH.objs.size fp { s2 with heap:=HH,toks:=s2.toks } H3) rfl rfl rfl hc i [] s3 τ H' E' I4 (stat fr4) st4 stop) fun r s4 ⟨hr,I5⟩=>?_
   subst hr
   obtain ⟨b1,b2⟩:=back I5
   exact hRR _ _ H' s4 b1 b2 qn
  ·refine dU (T.item (fM X ls M scope HH.objs.size fp { s2 with heap:=HH,toks:=s2.toks } H3) rfl rfl rfl hc i [] s3 τ H' E' I4 (stat fr4) st4 go) fun r s4 ⟨u,hr,h4⟩=>?_
   subst hr
   refine dU h4 fun _ s5 ⟨x,H5,I5,r5,y5,st5,fr5⟩=>?_
   have I5':=I5.pinned (stat fr5) (T.obj _ _ st5)
   refine wpAny_mono (hPG _ s5 τ H5 x u _ I5' r5 (step x H5 y5)) (fun _ s6 ⟨σ6,H6,I6,q6⟩=>?_) fun _ _ z=>z.elim
   refine wpAny_mono (hPT _ s6 σ6 H6 _ I6 q6) (fun ok s7 ⟨H7,I7,q7⟩=>?_) fun _ _ z=>z.elim
   have again:∀ {σ8:St}{H8:Hp}{s8:Shared}{m':Nat},aZ (fM X ls M scope HH.objs.size fp { s2 with heap:=HH,toks:=s2.toks } H3) ([] ++ uU fp s5.heap) σ8 H8 s8->m' < n->W (i + 1) m' σ8 H8 ->
     ∃ m,m < n /\ ∃ i τ H',aZ (fM X ls M scope HH.objs.size fp { s2 with heap:=HH,toks:=s2.toks } H3) [] τ H' s8 /\ tn i s8.heap /\ (∀ b ∈ fp,H' b=none) /\ W i m τ H':=fun {σ8 H8 s8 m'} I8 hm w8=>by
    refine ⟨m',hm,i + 1,σ8,H8,I8.unpinned,T.keep _ _ _ st5 fun b hb' o e=>(I8.pin (b,o) (List.mem_append_right _ (List.mem_append_right _ (lD hb' e)))).1,fun b hb'=>?_,w8⟩
    obtain ⟨o,e,d⟩:=T.obj _ _ st5 b hb'
    exact (I8.pin (b,o) (List.mem_append_right _ (List.mem_append_right _ (lD hb' e)))).2.1
   cases ok with
   | false =>
    rw [if_neg Bool.false_ne_true] at q7 ⊢
    obtain ⟨m',hm,w7⟩:=q7
    exact again I7 hm w7
   | true =>
    rw [if_pos rfl] at q7 ⊢
    refine wpAny_mono (hPE _ s7 σ6 H7 _ I7 q7) (fun yv s8 ⟨y,H8,I8,r8,ys,m',hm,hD,hz,w8⟩=>?_) fun _ _ z=>z.elim
    refine wpAny_mono (kJ (X:=(fM X ls M scope HH.objs.size fp { s2 with heap:=HH,toks:=s2.toks } H3)) _ s8 σ6 H8 (.ref s2.heap.objs.size) [y] (.ref s2.heap.objs.size) [yv] (fun _ H9=>W (i + 1) m' σ6 H9) I8 rfl (.cons r8 .nil) ⟨_,ys,y,rfl,rfl,hD,hz,w8⟩) (fun _ s9 ⟨_,H9,I9,_,w9⟩=>?_) fun _ _ z=>z.elim
    exact again I9 hm w9
 exact codeAny_compStart_list (loop _ rfl) (T.self _ 0 _ _ _ st1 (loop _ rfl))
theorem Ey (S:cA X.env.scope scope) (ok:X.Ok):closureFor scope X.env=pure (fO X.env scope.names []) :=
 qK fun y hy e=>ok.has y.1 (S.free y hy e)
theorem cU {wi:TI} (hc:X.calm=true) (S:cA X.env.scope scope) (nl:NL X.N M scope) (hi:PI X tg iter wi)
  (hb:∀ C fp s H,PG (fM X ls M scope C fp s H) tg g /\ V0 (fM X ls M scope C fp s H) ifs c /\ PE (fM X ls M scope C fp s H) elt te)
  (hs:∀ x,foldedSetIterable iter X.env x=pure x:=by intro _; rfl):PE X (.ListComp elt [⟨tg,iter,ifs,0⟩] scope pos) (Oa ls.length wi g c te):=by
 intro pins s σ H Q I h
 rw [eval_ListComp]
 refine wpAny_comprehension_free (use:=none) rfl hs (Ey S I.ok) S.kind S.loc (dU (hi pins s σ H _ I h) fun xv s1 h1=>dU h1 fun itv s2 h2=>?_)
 obtain ⟨it,fp,tn,J,H2,e,I2,T,st2,f2,hW⟩:=h2
 subst e
 refine yM (RR:=fun acc C=>compPost (model X.prog X.w) X.A X.xe none (EP X pins σ Q) acc C) (Qe:=Q) hc S nl hb I2 T st2 f2 hW fun D C H' s' I' o q=>?_
 exact ⟨o.ns.choose,o.ns.choose_spec,fun h' hs'=>⟨.ref D,H',I'.gone o hs',rfl,q⟩⟩
theorem Ma {wi:TI}{i:Nat}{y:Str}{py spos:Pos} (hc:X.calm=true) (S:cA X.env.scope scope) (nl:NL X.N M scope) (hN:X.N.Nodup) (hiy:X.N[i]? = some y) (hy:Xi X.env.scope y)
  (hi:PI X tg iter wi) (hb:∀ C fp s H,PG (fM X ls M scope C fp s H) tg g /\ V0 (fM X ls M scope C fp s H) ifs c /\ PE (fM X ls M scope C fp s H) elt te)
  (hsw:swapsWith (.ListComp elt [⟨tg,iter,ifs,0⟩] scope pos) (some (.Name y py)) spos.line X.env=pure true:=by rfl)
  (hs:∀ x,foldedSetIterable iter X.env x=pure x:=by intro _; rfl) (hf:X.fn y=true ∨ X.env.scope.names.lookup y=some .local:=by first | exact .inl rfl | exact .inr rfl) :
  PS X (.Assign [.Name y py] (.ListComp elt [⟨tg,iter,ifs,0⟩] scope pos) spos) (Qo (Oa ls.length wi g c te) (uB i)):=by
 intro pins s σ H D I h
 rw [exec_Assign_Name_used _ _ _ _ hsw]
 refine wpAny_bind (wpAny_standAt (wpAny_bind ?_))
 show wpAny _ X.A (do let _ <- comprehension (.ListComp elt [⟨tg,iter,ifs,0⟩] scope pos) scope X.env _ (newList []) false (eval iter X.env) (some (assign (.Name y py) X.env))) _ _ s
 refine wpAny_bind (wpAny_mono (wpAny_comprehension_free (use:=some (assign (.Name y py) X.env)) (Q:=fun _ s'=>SP X pins D .next s') rfl hs (Ey S I.ok) S.kind S.loc (dU (hi pins s σ H _ I h) fun xv s1 h1=>dU h1 fun itv s2 h2=>?_)) (fun _ s' hq=>wpAny_pure (wpAny_pure hq)) fun _ _ e=>e)
 obtain ⟨it,fp,tn,J,H2,e,I2,T,st2,f2,hW⟩:=h2
 subst e
 refine yM (RR:=fun acc C=>compPost (model X.prog X.w) X.A X.xe (some (assign (.Name y py) X.env)) (fun _ s'=>SP X pins D .next s') acc C) hc S nl hb I2 T st2 f2 hW fun Dl C H' s' I' o q=>?_
 show wpAny _ X.A (assign (.Name y py) X.env (.ref Dl)) _ _ _
 refine wpAny_assign_Name (wW I' hN hiy hy (v:=.ref Dl) rfl (fun s'' I'' ⟨a,hsa,ha⟩=>?_) hf)
 have hCa:C ≠ a:=by
  rcases ha with z | z
  ·rw [z]; exact o.ne
  ·exact Ne.symm (o.cells y a z)
 obtain ⟨m,hm⟩:=o.ns
 have o2:MJ X pins H' C s'':=⟨⟨m,hm.sameBut hsa hCa⟩,o.none,o.ne,o.young,o.cells,o.pins⟩
 exact ⟨m,hm.sameBut hsa hCa,fun h' hs'=>⟨_,H',I''.gone o2 hs',q⟩⟩
end
def CW (n:Nat) (Pv:Nat->St->Hp->Prop) (i m:Nat) (τ : St) (H:Hp):Prop:=m=n - i /\ i <= n /\ Pv i τ H
theorem bM {n i m:Nat}{Pv:Nat->St->Hp->Prop}{τ : St}{H4:Hp}{D:Addr}{ys:List V}{y:V} (hm:m=n - i) (hi:i < n) (e1:H4 D=some (.lst ys)) (e2:ys.length < sizeLine) (p:Pv (i + 1) τ (aY H4 D (.lst (ys ++ [y])))) :
  ∃ ys m',m' < m /\ H4 D=some (.lst ys) /\ ys.length < sizeLine /\ CW n Pv (i + 1) m' τ (aY H4 D (.lst (ys ++ [y]))):=⟨ys,n - (i + 1),by omega,e1,e2,rfl,hi,p⟩
theorem Im {n i m:Nat}{Pv:Nat->St->Hp->Prop}{τ : St}{H3:Hp} (hm:m=n - i) (hi:i < n) (p:Pv (i + 1) τ H3):∃ m',m' < m /\ CW n Pv (i + 1) m' τ H3:=⟨n - (i + 1),by omega,rfl,hi,p⟩
theorem u0 {k:Nat}{lo:Int}{n:Nat}{g:TG}{c:TT}{te:TE}{σ : St}{H1:Hp}{D:Addr}{Q:VK} (Pv:Nat->St->Hp->Prop) (h0:Pv 0 (List.replicate k none ++ σ) (aY H1 D (.lst [])))
  (hs:∀ i m τ H,m=n - i->i < n->Pv i τ H->g (.int (lo + i)) τ H fun τ2 H2=>c τ2 H2 fun b H3=>if b=true then te τ2 H3 fun y H4=>∃ ys m',m' < m /\ H4 D=some (.lst ys) /\ ys.length < sizeLine /\ CW n Pv (i + 1) m' τ2 (aY H4 D (.lst (ys ++ [y]))) else ∃ m',m' < m /\ CW n Pv (i + 1) m' τ2 H3)
  (hd:∀ τ H,Pv n τ H->Q (.ref D) H):Bt k (Qi lo n) g c te σ H1 D Q:=by
 refine ⟨CW n Pv,⟨n,rfl,Nat.zero_le _,h0⟩,?_⟩
 rintro i m τ H ⟨hm,hi,p⟩
 by_cases hlt:i < n
 ·refine .inr ⟨hlt,fun x H' y=>?_⟩
  obtain ⟨e,y⟩:=y
  subst e y
  exact hs i m τ _ hm hlt p
 ·have e:i=n:=by omega
  subst e
  exact .inl ⟨Nat.le_refl _,hd τ H p⟩
theorem cD {K:PySem.W.Frag}{a:Addr}{xs:List V}{k:Nat}{g:TG}{c:TT}{te:TE}{σ : St}{H1:Hp}{D:Addr}{Q:VK} (Pv:Nat->St->Hp->Prop) (h0:Pv 0 (List.replicate k none ++ σ) (aY H1 D (.lst [])))
  (hl:∀ i τ H,i <= xs.length->Pv i τ H->bR K H a xs)
  (hs:∀ i m x τ H,m=xs.length - i->i < xs.length->xs[i]? = some x->Pv i τ H->g x τ H fun τ2 H2=>c τ2 H2 fun b H3=>if b=true then te τ2 H3 fun y H4=>∃ ys m',m' < m /\ H4 D=some (.lst ys) /\ ys.length < sizeLine /\ CW xs.length Pv (i + 1) m' τ2 (aY H4 D (.lst (ys ++ [y]))) else ∃ m',m' < m /\ CW xs.length Pv (i + 1) m' τ2 H3)
  (hd:∀ τ H,Pv xs.length τ H->Q (.ref D) H):Bt k (Qy K a) g c te σ H1 D Q:=by
 refine ⟨CW xs.length Pv,⟨xs.length,rfl,Nat.zero_le _,h0⟩,?_⟩
 rintro i m τ H ⟨hm,hi,p⟩
 have q:=hl i τ H hi p
 by_cases hlt:i < xs.length
 ·refine .inr ⟨⟨xs,xs[i],q,by simp [hlt]⟩,fun x H' y=>?_⟩
  obtain ⟨e,y⟩:=y
  subst e
  exact hs i m x τ _ hm hlt (y xs q) p
 ·have e:i=xs.length:=by omega
  subst e
  exact .inl ⟨⟨xs,q,Nat.le_refl _⟩,hd τ H p⟩
theorem eO {τ : St}{H:Hp}{A B:Hp->Prop} (h:A H):Q5 τ H (fun b H3=>if b=true then A H3 else B H3):=by
 show (if true=true then A H else B H)
 rw [if_pos rfl]
 exact h
theorem wO {c:Bool}{A B:Prop} (h:c=true) (a:A):if c=true then A else B:=by
 rw [if_pos h]
 exact a
theorem wK {c:Bool}{A B:Prop} (h:c=false) (b:B):if c=true then A else B:=by
 rw [if_neg (by rw [h]; exact Bool.false_ne_true)]
 exact b
theorem Ea:bootBuiltins "int" = some (.type "int"):=by decide +kernel
theorem Fl:bootBuiltins "bool" = some (.type "bool"):=by decide +kernel
theorem mX:bootBuiltins "list" = some (.type "list"):=by decide +kernel
theorem iK:bootBuiltins "tuple" = some (.type "tuple"):=by decide +kernel
theorem jX:bootBuiltins "len" = some (.builtin "len"):=by decide +kernel
theorem Kg:bootBuiltins "abs" = some (.builtin "abs"):=by decide +kernel
theorem cN:bootBuiltins "isinstance" = some (.builtin "isinstance"):=by decide +kernel
theorem qQ:bootBuiltins "sum" = some (.builtin "sum"):=by decide +kernel
theorem Kv:bootBuiltins "max" = some (.builtin "max"):=by decide +kernel
theorem Pn:bootBuiltins "min" = some (.builtin "min"):=by decide +kernel
theorem Hw:bootBuiltins "sorted" = some (.builtin "sorted"):=by decide +kernel
theorem Je:bootBuiltins "all" = some (.builtin "all"):=by decide +kernel
def Do:List Str->Bool
 | []=>true
 | x :: r=>(r.all fun y=>x != y) && Do r
theorem cV:∀ {l:List Str},Do l=true->l.Nodup
 | [],_=>.nil
 | x :: r,h=>by
  have h':((r.all fun y=>x != y) && Do r)=true:=h
  rw [Bool.and_eq_true,List.all_eq_true] at h'
  refine List.nodup_cons.mpr ⟨fun z=>?_,cV h'.2⟩
  have:=h'.1 x z
  simp at this
structure fL (P:Program) (w:World) (K:PySem.W.Frag) (mg:Str->Option Value) (base:Heap) (n:Nat) (x:Str) (ps:List Str) (sp:Sp) (g:Addr) (gd:FuncData):Prop where
 ok:aV P w K mg base d7 n g gd ps sp
 bi:bI K gd ps []
 kp:PySem.W.keepIn K (.ref g)=true
 at_:mg x=some (.ref g)
theorem fL.up {P:Program}{w:World}{K:PySem.W.Frag}{mg:Str->Option Value}{base:Heap}{n m:Nat}{x:Str}{ps:List Str}{sp:Sp}{g:Addr}{gd:FuncData} (c:fL P w K mg base n x ps sp g gd) (h:n <= m):fL P w K mg base m x ps sp g gd:=⟨c.ok.mono h,c.bi,c.kp,c.at_⟩
theorem aL {X:Cx}{n:Nat}{x:Str}{ps:List Str}{sp:Sp}{g:Addr}{gd:FuncData}{p pos:Pos}{e:Expr}{es:List Expr}{t:TA} (c:fL X.prog X.w X.K X.mg X.base n x ps sp g gd) (hr:fD n X.A) (ha:PA X (e :: es) t) (hg:Gl X x:=by rfl)
  (hd:(x == ("__debug__" : Str))=false:=by decide) (he:starEach (e :: es) X.env=(false,eval e X.env) :: starEach es X.env:=by rfl) (hpl:(backTo pos (starEach es X.env)).any (·.1)=false:=by rfl) :
  PE X (.Call (.Name x p) (e :: es) [] pos) (Am sp [] E0 t):=zQ c.ok hr hg c.at_ c.kp c.bi .nil eE ha hd he hpl
theorem aN.tup {K:PySem.W.Frag}{H H':Hp}{a:Addr}{xs:List V} (e:aN H H') (h:bQ K H a xs):bQ K H' a xs:=by
 rcases h with (h | ⟨o,h⟩) | h
 ·exact .inl (.inl (e _ _ h))
 ·exact .inl (.inr ⟨o,e _ _ h⟩)
 ·exact .inr h
theorem aH {H:Hp}{p:Addr} (h:H p=none) (o:HO):aN H (aY H p o):=fun b u q=>by rw [aK (aU q h)]; exact q
theorem aN.upd_new {H H':Hp}{p:Addr} (s:aN H H') (h:H p=none) (o:HO):aN H (aY H' p o):=fun b u q=>by rw [aK (aU q h)]; exact s b u q
theorem JX {L:List Int}{i:Int} (h0:0 <= i) (h1:i < (L.length:Int)):Io (L.map V.int) i=some (.int (L.getD i.toNat 0)):=by
 have hi:i.toNat < L.length:=by omega
 have e:i=((i.toNat:Nat):Int):=by omega
 have q:Io (L.map V.int) ((i.toNat:Nat):Int)=some (.int (L.getD i.toNat 0)):=fU (by rw [List.getElem?_map,List.getElem?_eq_getElem hi,gJ hi] <;> rfl)
 rw [<- e] at q
 exact q
end L2
namespace L2
open PySem PySem.Spec PyProof.Rows
section
variable {X:Cx}{pins:List (Addr × Obj)}{σ : St}{H:Hp}{s:Shared}
theorem aZ.track {a:Addr}{o:HO} (I:aZ X pins σ H s) (f:jZ X pins H a) (hy:X.s₀.heap.objs.size <= a) (new:dH X.prog X.w (aY H a o) s.heap a o):aZ X pins σ (aY H a o) s:=by
 obtain ⟨f0,f1,f2,f3,f4,f5⟩:=f
 have ne:∀ b u,H b=some u->b ≠ a:=fun b u e=>aU e f0
 refine ⟨I.ok,I.os,I.bare,⟨I.base.keep,I.base.slot,fun b ob e n hx=>?_,I.base.there,fun b xs e=>?_,fun b ob u e=>?_,fun b ps e=>?_⟩,I.loc,I.cell,?_,fun x c e=>?_,fun p hp=>?_,fun b u e=>?_,I.len⟩
 ·rw [aK (Nat.ne_of_lt (Nat.lt_of_lt_of_le (Heap.lt_size e) hy))]
  exact I.base.free b ob e n hx
 ·have q:=I.base.tups b xs e
  rw [aK (ne _ _ q)]; exact q
 ·have q:=I.base.frzs b ob u e
  rw [aK (ne _ _ q)]; exact q
 ·obtain ⟨m,q⟩:=I.base.tbls b ps e
  exact ⟨m,by rw [aK (ne _ _ q)]; exact q⟩
 ·rw [aK (Ne.symm f1)]; exact I.free
 ·rw [aK (f4 x c e)]; exact I.freeC x c e
 ·obtain ⟨g1,g2,g3,g4,g5⟩:=I.pin p hp
  exact ⟨g1,by rw [aK (f5 p hp)]; exact g2,g3,g4,g5⟩
 ·by_cases hb:b=a
  ·subst hb; rw [aB] at e; cases e; exact new
  ·rw [aK hb] at e
   exact (I.hok b u e).stay (fun _ _ _ q=>q) (fun c q=>by rw [aK (ne _ _ q)]; exact q) fun c xs q=>by rw [aK (ne _ _ q)]; exact q
theorem jZ.pin {b:Addr}{o:Obj} (f:jZ X pins H b) (e:s.heap.get? b=some o) (d:∀ v,o.data ≠ .cell v):s.heap.get? b=some o /\ H b=none /\ b ≠ X.env.locals /\ b ∉ X.fs /\ ∀ v,o.data ≠ .cell v:=⟨e,f.1,f.2.1,f.2.2.1,d⟩
def Ml (X:Cx) (pins:List (Addr × Obj)) (σ : St) (H:Hp) (A:Around) (f v:Value) (k:Int):Prop :=
 ∀ (more:List (Addr × Obj)) (s:Shared),aZ X (pins ++ more) σ H s->wpAny (model X.prog X.w) A (call f [v]) (fun r s'=>(∃ t,r=Value.int k t) /\ aZ X (pins ++ more) σ H s') (fun _ _=>False) s
variable {A:Around}{E:Value->Shared->Prop}{P:PySem.Fin->Shared->Prop}{a kS:Addr}{b:Bool}{vs:List Value}{kz:List Int}{keys:Array Value}{e e1:Nat}{f:Value}
theorem BX {st:SortSt} (I:aZ X pins σ H s) (fk:jZ X pins H kS) (fa:jZ X pins H a) (hka:kS ≠ a) (ek:s.heap.get? kS=some (seqObj "list" keys e)) (ea:s.heap.get? a=some (seqObj "list" #[] e1))
  (hk:IntsAre keys.toList kz) (hlen:kz.length=vs.length) (h64:vs.length < 64) (hp:(arrOf st).Perm (keys.zip vs.toArray)) (hs:SortedTo (arrOf st) (arrOf st).size) (hfl:failedOf st=none)
  (done:∀ s' out c,aZ X pins σ H s'->s'.heap.get? a=some (seqObj "list" out c)->KskOut b kz vs out.toList->P (.done (.ret .none)) s') :
  wpAny (model X.prog X.w) A (ksk_tail a b e1 (.ref kS) st) P E s:=by
 have hsz:keys.size=vs.length:=by
  have h1:=hk.length
  rw [Array.length_toList] at h1
  omega
 have hsz2:(arrOf st).size=vs.length:=by
  have z:(arrOf st).size=(keys.zip vs.toArray).size:=hp.size_eq
  have z2:(keys.zip vs.toArray).size=vs.length:=by rw [Array.size_zip,hsz]; simp
  exact z.trans z2
 have ko:=ksk_out (b:=b) hk hp hs
 have hout:(if b=true then ((arrOf st).map (·.2)).reverse else (arrOf st).map (·.2)).size=vs.length:=by
  cases b <;> simp [hsz2]
 generalize hO:(if b=true then ((arrOf st).map (·.2)).reverse else (arrOf st).map (·.2))=out at ko hout
 have I1:aZ X pins σ H { s with heap:=s.heap.update kS (Obj.mapSeq fun _=>(#[]:Array Value)) } :=
  I.turned (t':=s.toks) (fun b o hb q=>((Heap.SameBut.update s.heap kS _).2 b hb).trans q) fk.1 fk.2.1 fk.2.2.2.1 fk.2.2.2.2.1 fk.2.2.2.2.2
 have ea1:(s.heap.update kS (Obj.mapSeq fun _=>(#[]:Array Value))).get? a=some (seqObj "list" #[] e1):=((Heap.SameBut.update s.heap kS _).2 a (Ne.symm hka)).trans ea
 have I2:aZ X pins σ H { s with heap:=(s.heap.update kS (Obj.mapSeq fun _=>(#[]:Array Value))).update a (Obj.mapSeq fun _=>out) } :=
  I1.turned (t':=s.toks) (fun b o hb q=>((Heap.SameBut.update _ a _).2 b hb).trans q) fa.1 fa.2.1 fa.2.2.2.1 fa.2.2.2.2.1 fa.2.2.2.2.2
 unfold ksk_tail
 dsimp only
 refine wpAny_bind (listUpdate_at ek rfl ?_ (by rw [hsz]; exact Nat.le_trans (Nat.le_of_lt h64) (by decide)) (Nat.zero_le _))
 refine wpAny_bind (wpAny_letGo ?_)
 refine wpAny_bind (seqEpoch_at ea1 rfl ?_)
 rw [hO]
 refine wpAny_bind (listUpdate_at ea1 rfl ?_ (Nat.zero_le _) (by rw [hout]; exact Nat.le_trans (Nat.le_of_lt h64) (by decide)))
 rw [hfl]
 simp only [bne_self_eq_false,Bool.false_eq_true,if_false]
 exact wpAny_pure (done _ out _ I2 (get?_update_seq ea1 fun _=>out) ko)
theorem My (I:aZ X pins σ H s) (fk:jZ X pins H kS) (fa:jZ X pins H a) (hka:kS ≠ a) (ek:s.heap.get? kS=some (seqObj "list" keys e)) (ea:s.heap.get? a=some (seqObj "list" #[] e1))
  (hk:IntsAre keys.toList kz) (hlen:kz.length=vs.length) (h64:vs.length < 64)
  (done:∀ s' out c,aZ X pins σ H s'->s'.heap.get? a=some (seqObj "list" out c)->KskOut false kz vs out.toList->P (.done (.ret .none)) s') :
  wpAny (model X.prog X.w) A (ksk_end a false vs.toArray e1 (.ref kS) keys) P E s:=by
 have hsz:keys.size=vs.length:=by
  have h1:=hk.length
  rw [Array.length_toList] at h1
  omega
 have hzs:(keys.zip vs.toArray).size=vs.length:=by rw [Array.size_zip,hsz,List.size_toArray]; omega
 unfold ksk_end
 dsimp only
 simp only [Bool.false_eq_true,if_false]
 by_cases h2:vs.toArray.size < 2
 ·rw [if_pos h2,if_pos h2]
  refine wpAny_bind (wpAny_pure ?_)
  rw [StateT.run_pure]
  refine wpAny_bind (wpAny_pure ?_)
  refine BX (st:=SortSt.mk' general' (keys.zip vs.toArray) #[] 7 none) I fk fa hka ek ea hk hlen h64 (Array.Perm.refl _) (fun i j hij hj=>?_) rfl done
  have hj':j < (keys.zip vs.toArray).size:=hj
  rw [hzs] at hj'
  rw [List.size_toArray] at h2
  have z:i=j:=by omega
  rw [z]
  exact Int.le_refl _
 ·rw [if_neg h2,if_neg h2]
  rw [List.size_toArray] at h2
  rw [ksk_kind hk (by omega)]
  refine wpAny_bind (wpAny_pure ?_)
  refine wpAny_bind (wpAny_mono (wpS_sortRuns (a₀:=keys.zip vs.toArray) (st:=SortSt.mk' oneType' (keys.zip vs.toArray) #[] 7 none)
   (Q:=fun _ t=>(arrOf t).Perm (keys.zip vs.toArray) /\ failedOf t=none /\ SortedTo (arrOf t) (keys.zip vs.toArray).size)
   (ksk_intKeys hk) ⟨Array.Perm.refl _,rfl,rfl,rfl⟩ (by omega) (by omega) fun t z1 z2 z3=>⟨z1,z2,z3⟩) ?_ fun _ _ z=>z)
  rintro ⟨⟨⟩,t⟩ s2 ⟨rfl,p1,p2,p3⟩
  exact BX I fk fa hka ek ea hk hlen h64 p1 (by rw [p1.size_eq]; exact p3) p2 done
theorem JV (I:aZ X pins σ H s) (fk:jZ X pins H kS) (fa:jZ X pins H a) (hka:kS ≠ a) (ek:s.heap.get? kS=some (seqObj "list" #[] 0)) (ea:s.heap.get? a=some (seqObj "list" #[] e1))
  (hlen:kz.length=vs.length) (h64:vs.length < 64) (turn:∀ (i:Nat) v k,vs[i]? = some v->kz[i]? = some k->Ml X pins σ H A f v k)
  (done:∀ s' out c,aZ X pins σ H s'->s'.heap.get? a=some (seqObj "list" out c)->KskOut false kz vs out.toList->P (.done (.ret .none)) s') :
  wpAny (model X.prog X.w) A (ksk_rest a f false vs.toArray e1 (.ref kS)) P E s:=by
 unfold ksk_rest
 refine wpAny_bind (wpAny_rule ?_)
 rw [List.forIn_toArray]
 refine wpAny_bind (ksk_fold (fun i s'=>aZ X pins σ H s' /\ s'.heap.get? a=some (seqObj "list" #[] e1) /\ ∃ kA e,s'.heap.get? kS=some (seqObj "list" kA e) /\ IntsAre kA.toList (kz.take i)) vs 0 s ⟨I,ea,#[],0,ek,by simpa using IntsAre.nil⟩ ?step ?fin)
 case step =>
  rintro j x s1 hx ⟨I1,ea1,kA,e,ek1,hk⟩
  rw [Nat.zero_add] at hk ⊢
  have hj:j < vs.length:=(List.getElem?_eq_some_iff.mp hx).1
  have hkj:kz[j]? = some kz[j]:=List.getElem?_eq_getElem (by omega)
  have hz:kA.size <= vs.length:=by
   have h1:=hk.length
   rw [Array.length_toList,List.length_take] at h1
   omega
  have I2:aZ X (pins ++ [(kS,seqObj "list" kA e),(a,seqObj "list" #[] e1)]) σ H s1:=I1.pins_of fun p hp=>by
   rcases List.mem_append.mp hp with z | z
   ·exact I1.pin p (List.mem_append_right _ z)
   ·rcases List.mem_cons.mp z with z | z
    ·subst z; exact fk.pin ek1 fun v q=>nomatch q
    ·rw [List.mem_singleton.mp z]; exact fa.pin ea1 fun v q=>nomatch q
  refine wpAny_bind (wpAny_attempt (wpAny_mono (turn j x _ hx hkj _ s1 I2) (fun v s2 h2=>?_) fun _ _ z=>z.elim))
  obtain ⟨⟨t,rfl⟩,I3⟩:=h2
  have ek2:=(I3.pin (kS,seqObj "list" kA e) (List.mem_append_right _ (List.mem_append_right _ (.head _)))).1
  have ea2:=(I3.pin (a,seqObj "list" #[] e1) (List.mem_append_right _ (List.mem_append_right _ (.tail _ (.head _))))).1
  have I4:=I3.unpinned
  refine wpAny_bind (listUpdate_at ek2 rfl ?_ (Nat.le_trans hz (Nat.le_trans (Nat.le_of_lt h64) (by decide))) (Nat.le_trans (Nat.le_of_eq (Array.size_push ..)) (Nat.succ_le_succ (Nat.le_trans hz (Nat.le_trans (Nat.le_of_lt h64) (by decide))))))
  refine wpAny_pure ⟨rfl,I4.turned (t':=s2.toks) (fun b o hb q=>((Heap.SameBut.update s2.heap kS _).2 b hb).trans q) fk.1 fk.2.1 fk.2.2.2.1 fk.2.2.2.2.1 fk.2.2.2.2.2,((Heap.SameBut.update s2.heap kS _).2 a (Ne.symm hka)).trans ea2,kA.push (.int kz[j] t),_,get?_update_seq ek2 (·.push (.int kz[j] t)),?_⟩
  have q1:kz.take (j + 1)=kz.take j ++ [kz[j]]:=by rw [List.take_add_one,hkj]; rfl
  rw [q1,Array.toList_push]
  exact ksk_snoc hk
 case fin =>
  rintro s1 ⟨I1,ea1,kA,e,ek1,hk⟩
  have hk':IntsAre kA.toList kz:=by
   rw [Nat.zero_add,<- hlen,List.take_length] at hk
   exact hk
  exact wpAny_bind (listItems_at ek1 rfl (My I1 fk fa hka ek1 ea1 hk' hlen h64 done))
end
end L2
namespace L2
open PySem PySem.Spec PyProof.Rows
section
variable {X:Cx}{pins:List (Addr × Obj)}{σ : St}{H:Hp}{s:Shared}{A:Around}{E:Value->Shared->Prop}{P:PySem.Fin->Shared->Prop}{a:Addr}{vs:List Value}{kz:List Int}{n:Nat}{f:Value}
theorem Ju (I:aZ X pins σ H s) (fa:jZ X pins H a) (ea:s.heap.get? a=some (seqObj "list" vs.toArray n)) (hlen:kz.length=vs.length) (h64:vs.length < 64)
  (turn:∀ (i:Nat) v k,vs[i]? = some v->kz[i]? = some k->Ml X pins σ H A f v k)
  (done:∀ s' out c,aZ X pins σ H s'->s'.heap.get? a=some (seqObj "list" out c)->KskOut false kz vs out.toList->P (.done (.ret .none)) s') :
  wpAny (model X.prog X.w) A (ksk_tree a f false) P E s:=by
 have I1:aZ X pins σ H { s with heap:=s.heap.update a (Obj.mapSeq fun _=>(#[]:Array Value)) } :=
  I.turned (t':=s.toks) (fun b o hb q=>((Heap.SameBut.update s.heap a _).2 b hb).trans q) fa.1 fa.2.1 fa.2.2.2.1 fa.2.2.2.2.1 fa.2.2.2.2.2
 have ea1:=get?_update_seq ea fun _=>(#[]:Array Value)
 generalize hh:s.heap.update a (Obj.mapSeq fun _=>(#[]:Array Value))=h1 at I1 ea1
 have I2:aZ X pins σ H { s with heap:=(h1.push (seqObj "tuple" vs.toArray 0)).push (seqObj "list" #[] 0) } :=
  I1.kept (t':=s.toks) fun b o q=>Heap.get?_push_of_some _ (Heap.get?_push_of_some _ q)
 have hlt:a < h1.objs.size:=Heap.lt_size ea1
 have hsz:(h1.push (seqObj "tuple" vs.toArray 0)).objs.size=h1.objs.size + 1:=size_push' _ _
 have h64':vs.length <= sizeLine:=Nat.le_trans (Nat.le_of_lt h64) (by decide)
 unfold ksk_tree
 refine wpAny_bind (listItems_at ea rfl ?_)
 refine wpAny_bind (listUpdate_at ea rfl ?_ (by rw [List.size_toArray]; exact h64') (Nat.zero_le _))
 rw [hh]
 refine wpAny_bind (seqEpoch_at (s:={ s with heap:=h1 }) ea1 rfl ?_)
 refine wpAny_bind (wpAny_newTuple ?_ (by simpa using h64'))
 refine wpAny_bind (wpAny_newList ?_ (Nat.zero_le _))
 refine wpAny_holding ?_
 refine JV (s:={ s with heap:=(h1.push (seqObj "tuple" vs.toArray 0)).push (seqObj "list" #[] 0) }) (kS:=(h1.push (seqObj "tuple" vs.toArray 0)).objs.size) I2 ?_ fa ?_ (Heap.get?_push_size _ rfl) (Heap.get?_push_of_some _ (Heap.get?_push_of_some _ ea1)) hlen h64 turn done
 ·exact I1.fpOk (by rw [hsz]; exact Nat.le_succ _) (I1.hok.fresh (by rw [hsz]; exact Nat.le_succ _))
 ·rw [hsz]
  exact Nat.ne_of_gt (Nat.lt_succ_of_lt hlt)
def O9:Value->Addr
 | .ref a=>a
 | _=>0
theorem wR:∀ {qs:List Addr}{vs:List Value},bL (qs.map V.ref) vs->vs=qs.map Value.ref
 | [],_,h=>by cases h; rfl
 | q :: qs,_,h=>by
  cases h with
  | cons r t=>rw [wR t,show _=Value.ref q from r]; rfl
theorem qF:∀ (qs:List Addr),bL (qs.map V.ref) (qs.map Value.ref)
 | []=>.nil
 | q :: qs=>.cons rfl (qF qs)
theorem Gx {kz:List Int}{qs:List Addr}{out:List Value} (h:KskOut false kz (qs.map Value.ref) out):∃ ps:List (Int × Addr),ps.Perm (kz.zip qs) /\ out=ps.map (fun p=>Value.ref p.2) /\ ps.Pairwise (fun p q=>p.1 <= q.1):=by
 obtain ⟨ps,hp,ho,hs⟩:=h
 have e0:kz.zip (qs.map Value.ref)=(kz.zip qs).map fun p=>(p.1,Value.ref p.2):=by rw [List.zip_map_right]; exact List.map_congr_left fun ⟨x,y⟩ _=>rfl
 rw [e0] at hp
 have mem:∀ p ∈ ps,p.2=Value.ref (O9 p.2):=fun p hm=>by
  obtain ⟨q,_,rfl⟩:=List.mem_map.mp (hp.mem_iff.mp hm)
  rfl
 refine ⟨ps.map fun p=>(p.1,O9 p.2),?_,?_,?_⟩
 ·have z:=hp.map fun p=>(p.1,O9 p.2)
  rw [List.map_map] at z
  have e1:(kz.zip qs).map ((fun p=>(p.1,O9 p.2)) ∘ fun p=>(p.1,Value.ref p.2))=kz.zip qs:=by
   conv=>rhs; rw [<- List.map_id (kz.zip qs)]
   exact List.map_congr_left fun ⟨x,y⟩ _=>rfl
  rw [e1] at z
  exact z
 ·rw [ho,List.map_map]
  exact List.map_congr_left fun p hm=>mem p hm
 ·rw [List.pairwise_map]
  exact hs
theorem Js {l fa:Addr}{qs:List Addr}{Q:VK} (I:aZ X pins σ H s) (hS:bR X.K H l (qs.map V.ref)) (hlen:kz.length=qs.length) (h64:qs.length < 64)
  (turn:∀ (i:Nat) q k,qs[i]? = some q->kz[i]? = some k->Ml X pins σ H X.A.in1.in1 (.ref fa) (.ref q) k)
  (done:∀ D (ps:List (Int × Addr)),H D=none->ps.Perm (kz.zip qs)->ps.Pairwise (fun p q=>p.1 <= q.1)->Q (.ref D) (aY H D (.lst (ps.map fun p=>V.ref p.2)))) :
  wpAny (model X.prog X.w) X.A (call (.builtin "sorted") [.ref l] [(Str.ofString "key",.ref fa)]) (EP X pins σ Q) E s:=by
 obtain ⟨its,rv,pl,hz⟩:=I.list hS
 have ei:=wR rv
 subst ei
 have hl64:(qs.map Value.ref).length < 64:=by rw [List.length_map]; exact h64
 have h64':(qs.map Value.ref).length <= sizeLine:=Nat.le_trans (Nat.le_of_lt hl64) (by decide)
 refine call_function_entry_kw kind_sorted plain_sorted entry_sorted (ksk_s1 _ _) ?_
 unfold Builtin.«sorted»
 refine wpAny_bind (m:=checkCount "sorted" 1 1 _) (wpAny_pure ?_)
 refine wpAny_bind (collect_list pl.isList ?_ h64')
 refine wpAny_bind (wpAny_newList ?_ h64')
 have up:∀ b o,s.heap.get? b=some o->((s.heap.push (seqObj "list" #[] 0)).update s.heap.objs.size (Obj.mapSeq (· ++ (qs.map Value.ref).toArray))).get? b=some o:=fun b o q =>
  ((Heap.SameBut.update (s.heap.push (seqObj "list" #[] 0)) s.heap.objs.size _).2 b (Nat.ne_of_lt (Heap.lt_size q))).trans (Heap.get?_push_of_some _ q)
 have hsz:((s.heap.push (seqObj "list" #[] 0)).update s.heap.objs.size (Obj.mapSeq (· ++ (qs.map Value.ref).toArray))).objs.size=s.heap.objs.size + 1:=by rw [Heap.size_update,size_push']
 generalize (s.heap.push (seqObj "list" #[] 0)).update s.heap.objs.size (Obj.mapSeq (· ++ (qs.map Value.ref).toArray))=h1 at up hsz
 have I1:aZ X pins σ H { s with heap:=h1.push (seqObj "list" (qs.map Value.ref).toArray 0) }:=I.kept (t':=s.toks) fun b o q=>Heap.get?_push_of_some _ (up b o q)
 have fr:H h1.objs.size=none:=I.hok.fresh (by rw [hsz]; exact Nat.le_succ _)
 have fp:jZ X pins H h1.objs.size:=I.fpOk (by rw [hsz]; exact Nat.le_succ _) fr
 have yo:X.s₀.heap.objs.size <= h1.objs.size:=Nat.le_trans I.sz (by rw [hsz]; exact Nat.le_succ _)
 have ea:(h1.push (seqObj "list" (qs.map Value.ref).toArray 0)).get? h1.objs.size=some (seqObj "list" (qs.map Value.ref).toArray 0):=Heap.get?_push_size _ rfl
 refine wpAny_bind (wpAny_holding (wpAny_call_entry_kw PyProof.Rows.slot_list_sort ⟨_,ea,rfl⟩ PyProof.Rows.entry_list_sort ?body (ksk_l1 _ _)))
 case body =>
  show wpAny (model X.prog X.w) X.A.in1.in1 (Builtin.«list.sort» ⟨[.ref h1.objs.size],[(Str.ofString "key",.ref fa)]⟩) _ _ _
  rw [ksk_t1]
  refine Ju (kz:=kz) (s:={ s with heap:=h1.push (seqObj "list" (qs.map Value.ref).toArray 0) }) I1 fp ea (by rw [List.length_map]; exact hlen) hl64 (fun i v k hv hk=>?_) fun s2 out c I2 e2 ko=>⟨_,rfl,?_⟩
  ·rw [List.getElem?_map] at hv
   cases eq:qs[i]? with
   | none=>rw [eq] at hv; cases hv
   | some q =>
    rw [eq] at hv
    cases hv
    exact turn i q k eq hk
  ·obtain ⟨ps,hp,ho,hs⟩:=Gx ko
   have hpl:ps.length=qs.length:=by
    rw [hp.length_eq,List.length_zip,hlen,Nat.min_self]
   refine wpAny_pure ⟨_,rfl,.ref h1.objs.size,_,I2.track (o:=.lst (ps.map fun p=>V.ref p.2)) fp yo ⟨?_,out.toList,c,?_,?_⟩,rfl,done _ ps fr hp hs⟩
   ·rw [List.length_map,hpl]
    exact Nat.le_trans (Nat.le_of_lt h64) (by decide)
   ·rw [ho]
    have z:=qF (ps.map Prod.snd)
    rw [List.map_map,List.map_map] at z
    exact z
   ·rw [Array.toArray_toList]
    exact e2
end
end L2
namespace L2
open PySem PySem.Spec PyProof.Rows
def Gv (X:Cx) (A:Around) (p:Str) (M:List Str) (scope:Scope) (qual:Str) (f c':Addr) (s:Shared) (H:Hp):Cx where
 prog:=X.prog
 w:=X.w
 K:=X.K
 mg:=X.mg
 base:=X.base
 A:=A.deeper (PySem.W.envX qual scope s.heap.objs.size f (.ref c') (fO X.env scope.names []))
 N:=p :: M
 s₀:=s
 H₀:=H
 env:=PySem.W.envX qual scope s.heap.objs.size f (.ref c') (fO X.env scope.names [])
 outer:=X.stack
 stack:=PySem.W.envX qual scope s.heap.objs.size f (.ref c') (fO X.env scope.names []) :: X.stack
 ex:=[]
 fn:=fun _=>false
 calm:=true
 pn:=[]
 xe:=fun _ _=>False
abbrev uH (c':Addr) (qual:Str):HO:=.ext fun h=>h.CodeRec (.ref c') qual
section
variable {X:Cx}{pins:List (Addr × Obj)}{σ : St}{H:Hp}{A:Around}{p qual:Str}{M:List Str}{scope:Scope}{params:Arguments}{body:Expr}{pm ctv:Value}{c' f:Addr}{te:TE}
theorem Np (hA:A.frames=some X.stack) (hd:A.handled=none) (hdep:A.depth < recursionLimit) (S:cA X.env.scope scope) (nl:NL X.N M scope) (hp:scope.names.lookup p=some .local)
  (hco:scope.isCoroutine=false) (hgen:scope.isGenerator=false) (hbind:∀ (cl:List (Str × Addr)) (pm cdv ctv u:Value),bindArgs (PySem.W.kla_fn "<lambda>" qual params body scope cl pm cdv ctv) ⟨[u],[]⟩ = pure [(p,u)])
  (hb:∀ f c' s H,PE (Gv X A p M scope qual f c' s H) body te) {x:V}{u:Value}{k:Int} (rx:bJ x u) (hf:(f,PySem.W.kla_obj "<lambda>" qual params body scope (fO X.env scope.names []) pm c' ctv) ∈ pins)
  (hcr:H c'=some (uH c' qual)) (h:te (some x :: σ) H fun r H'=>r = .int k /\ H'=H):Ml X pins σ H A (.ref f) u k:=by
 intro more s I
 have hcd:s.heap.CodeRec (.ref c') qual:=(I.hok c' _ hcr).1
 have ho:=(I.pin _ (List.mem_append_right _ (List.mem_append_left _ hf))).1
 have sub:∀ x a,(fO X.env scope.names []).lookup x=some a->X.env.cells.lookup x=some a:=fun x a e=>by
  rcases qU _ _ _ (PySem.mem_of_lookup e) with z | z
  ·exact absurd z (by simp)
  ·exact z
 have kin:∀ x,scope.names.lookup x=some .free->X.env.kindOf x=some .cell ∨ X.env.kindOf x=some .free:=fun x e=>S.free (x,.free) (PySem.mem_of_lookup e) rfl
 have has:∀ x a,scope.names.lookup x=some .free->X.env.cells.lookup x=some a->(fO X.env scope.names []).lookup x=some a:=fun x a e ec=>by
  obtain ⟨d,hd⟩:=jY (qN ec scope.names [] (PySem.mem_of_lookup e))
  have:=sub x d hd
  rw [ec] at this
  cases this
  exact hd
 have nocell:∀ x,scope.names.lookup x ≠ some .cell:=fun x e=>S.nocell _ (PySem.mem_of_lookup e) rfl
 refine wpAny_call (PySem.W.kla_callFunE hdep ho rfl hco hgen rfl hcd ?_)
 rw [hbind]
 refine wpAny_pure (wpAny_newFunctionEnv S.nocell (fun y hy=>?_) (fun h₁ hns hsb=>⟨?_,?_⟩) S.kind)
 ·rw [List.mem_singleton.mp hy]; exact hp
 ·exact I.nolimit.keeps fun b o e=>hsb.extBut b o (Nat.ne_of_lt (Heap.lt_size e)) (Heap.get?_push_of_some _ e)
 have old:∀ b o,s.heap.get? b=some o->h₁.get? b=some o:=fun b o e=>hsb.extBut b o (Nat.ne_of_lt (Heap.lt_size e)) (Heap.get?_push_of_some _ e)
 have okY:(Gv X A p M scope qual f c' s H).Ok:=by
  refine ⟨I.ok.mod,S.kind,rfl,rfl,Nat.le_refl _,fun x y a h1 h2=>I.ok.inj x y a (sub x a h1) (sub y a h2),fun x hx=>?_,(fun x a h=>nomatch h),fun _=>hd,Around.frames_deeper hA,.inr ⟨rfl,rfl⟩,(fun b hb'=>nomatch hb'),
   I.bs,Nat.le_trans I.ok.bsz I.sz,(fun b o e hb'=>nomatch hb'),(fun b hb'=>nomatch hb'),I.stack,I.stkFree⟩
  have hf:scope.names.lookup x=some .free:=by
   rcases hx with hx | hx
   ·exact absurd hx (nocell x)
   ·exact hx
  obtain ⟨a,ea⟩:=I.ok.has x (kin x hf)
  exact ⟨a,has x a hf ea⟩
 have IY:aZ (Gv X A p M scope qual f c' s H) [] (some x :: σ) H { s with heap:=h₁,toks:=s.toks + [(p,u)].length }:=by
  refine ⟨okY,rfl,I.bare,Un.kept old,⟨_,hns,fun i y v e1 e2 e3=>?_⟩,fun y a e=>?_,I.hok.fresh (Nat.le_refl _),fun y a e=>I.freeC y a (sub y a e),(fun q hq=>nomatch hq),I.hok.kept old,?_⟩
  ·cases i with
   | zero =>
    have e1':some p=some y:=e1
    have e2':some (some x)=some (some v):=e2
    cases e1'
    cases e2'
    refine ⟨u,rx,.inl ⟨hp,?_⟩⟩
    show List.lookup p [(p,u)]=some u
    simp
   | succ i =>
    have e0:M[i]? = some y:=e1
    have e2':σ[i]? = some (some v):=e2
    have hf:scope.names.lookup y=some .free:=by
     rcases e3 with e3 | e3 | e3
     ·exact absurd e3 (nl.loc _ y e0)
     ·exact absurd e3 (nocell y)
     ·exact e3
    have hk:=kin y hf
    obtain ⟨m,hn,hl⟩:=I.loc
    obtain ⟨z,rz,lk⟩:=hl i y v (nl.free _ y e0 hf) e2' (hk.elim (fun z=>.inr (.inl z)) fun z=>.inr (.inr z))
    refine ⟨z,rz,.inr ⟨.inr hf,?_⟩⟩
    rcases lk with ⟨q,_⟩ | ⟨_,a,ea,o,eo,hdd⟩
    ·rcases hk with hk | hk <;> (rw [hk] at q; cases q)
    ·exact ⟨a,has y a hf ea,o,old a o eo,hdd⟩
  ·obtain ⟨v,o,eo,hdd⟩:=I.cell y a (sub y a e)
   exact ⟨v,o,old a o eo,hdd⟩
  ·show σ.length + 1=M.length + 1
   rw [I.len,nl.len]
 refine PySem.W.kla_codeExpr (wpAny_mono (hb f c' s H [] _ (some x :: σ) H _ IY h) (fun r s2 h2=>?_) fun _ _ z=>z.elim)
 obtain ⟨v,H2,J,rv,hv,hH⟩:=h2
 subst hv hH
 exact ⟨rv,I.call' (ch:=[]) J.os J.base J.hok J.bare (fun b hb'=>nomatch hb')⟩
end
end L2
namespace L2
open PySem PySem.Spec PyProof.Rows
def Q4 (pos:Pos) (c':Addr):Array Value:=#[rawInt pos.line,rawInt pos.col,.ref c']
def Qx (P:Addr) (pos:Pos) (qual:Str) (c':Addr) (H:Hp):Prop:=H P=some (.tbl (Q4 pos c')) /\ H c'=some (uH c' qual)
def fG (P:Addr) (pos:Pos) (qual:Str) (H:Hp):Prop:=H P=some (.tbl #[]) ∨ ∃ c',Qx P pos qual c' H
def cH (P:Addr) (H H':Hp):Prop:=∀ b o,b ≠ P->H b=some o->H' b=some o
theorem cH.refl {P:Addr} (H:Hp):cH P H H:=fun _ _ _ e=>e
theorem cH.trans {P:Addr}{H H1 H2:Hp} (a:cH P H H1) (b:cH P H1 H2):cH P H H2:=fun c o n e=>b c o n (a c o n e)
theorem aN.toT {P:Addr}{H H':Hp} (a:aN H H'):cH P H H':=fun b o _ e=>a b o e
theorem cH.free {P:Addr}{H H':Hp} (a:cH P H H') {l:Addr} (h:H' l=none) (hP:∃ ps,H' P=some (.tbl ps)):H l=none:=by
 cases q:H l with
 | none=>rfl
 | some o =>
  by_cases e:l=P
  ·obtain ⟨ps,z⟩:=hP
   rw [e,z] at h; cases h
  ·rw [a l o e q] at h; cases h
theorem cH.upd_new {P:Addr}{H H':Hp}{p:Addr} (s:cH P H H') (h:H p=none) (o:HO):cH P H (aY H' p o):=fun b u n q=>by rw [aK (aU q h)]; exact s b u n q
theorem fG.at_ {P:Addr}{pos:Pos}{qual:Str}{H:Hp} (t:fG P pos qual H):∃ ps,H P=some (.tbl ps):=by
 rcases t with t | ⟨c,t,_⟩
 ·exact ⟨_,t⟩
 ·exact ⟨_,t⟩
theorem cH.get {P:Addr}{pos:Pos}{qual:Str}{H H':Hp} (a:cH P H H') (t:fG P pos qual H) {b:Addr}{o:HO} (e:H b=some o) (n:∀ ps,o ≠ .tbl ps):H' b=some o:=by
 obtain ⟨ps,z⟩:=t.at_
 exact a b o (bO e z (n ps)) e
theorem fG.same {P:Addr}{pos:Pos}{qual:Str}{H H':Hp} (t:fG P pos qual H) (s:aN H H'):fG P pos qual H':=by
 rcases t with t | ⟨c,t,u⟩
 ·exact .inl (s _ _ t)
 ·exact .inr ⟨c,s _ _ t,s _ _ u⟩
theorem cH.lst {K:PySem.W.Frag}{P:Addr}{pos:Pos}{qual:Str}{H H':Hp} (a:cH P H H') (t:fG P pos qual H) {b:Addr}{xs:List V} (h:bR K H b xs):bR K H' b xs:=by
 rcases h with (h | ⟨o,h⟩) | h
 ·exact .inl (.inl (a.get t h fun _ z=>nomatch z))
 ·exact .inl (.inr ⟨o,a.get t h fun _ z=>nomatch z⟩)
 ·exact .inr h
theorem Hq {h h':Heap}{mg:Str->Option Value}{P:Addr} (b:h.BuiltinsAt mg P) (k:∀ a o,h.get? a=some o->h'.get? a=some o):h'.BuiltinsAt mg P:=by
 obtain ⟨bm,o,b1,b2,b3,b4,b5,b6⟩:=b
 exact ⟨bm,o,b1,b2,b3,b4,k _ _ b5,b6⟩
theorem Aj {c':Addr}{qual:Str}:∀ h1 h2:Heap,h1.CodeRec (.ref c') qual->(∀ o,h1.get? c'=some o->h2.get? c'=some o)->h2.CodeRec (.ref c') qual:=fun h1 h2 ⟨c,oc,vs,t,e,g,r⟩ k=>by
 cases e
 exact ⟨_,oc,vs,t,rfl,k _ g,r⟩
section
variable {X:Cx}{pins:List (Addr × Obj)}{σ : St}{H:Hp}{s:Shared}{E:Value->Shared->Prop}{c P:Addr}{pos:Pos}{params:Arguments}{body:Expr}{scope:Scope}{Q:Value->Shared->Prop}
theorem K8 (I:aZ X pins σ H s) (hcode:X.env.code = .ref c) (C:PySem.W.CodeHd X.base c P) (B:X.base.BuiltinsAt X.mg P) (T:fG P pos (X.env.qual ++ "<lambda>") H) (S:cA X.env.scope scope) (hdef:defaultsOf params X.env=([],[]))
  (q:∀ f c' pm ctv H' s',cH P H H'->Qx P pos (X.env.qual ++ "<lambda>") c' H'->aZ X (pins ++ [(f,PySem.W.kla_obj "<lambda>" (X.env.qual ++ "<lambda>") params body scope (fO X.env scope.names []) pm c' ctv)]) σ H' s'->Q (.ref f) s') :
  wpAny (model X.prog X.w) X.A (eval (.Lambda params body scope pos) X.env) Q E s:=by
 have hcl:=Ey S I.ok
 have hg:=I.ok.mod.glob.keeps I.bk
 have hB:=Hq B I.bk
 obtain ⟨ps0,hP0⟩:=T.at_
 have hgP:mainGlobals ≠ P:=fun z=>by
  obtain ⟨o,es,ep,e,_⟩:=I.ok.mod.glob
  have:=(I.bs _ o e).2
  rw [z,hP0] at this
  cases this
 refine PySem.W.kla_eval hdef ?_
 rcases T with T | ⟨c',T,U⟩
 ·have hP:s.heap.get? P=some (PySem.W.tabObj #[]):=I.hok P _ T
  refine PySem.W.kla_makeFunction (mg:=X.mg) hcl I.ok.glob hg hcode (C.keeps I.bk) hP trivial rfl hgP hB fun c' ctv h' tk hx hge hlt hrec htb=>?_
  have cn:H c'=none:=I.hok.fresh hge
  have cP:c' ≠ P:=Ne.symm (aU T cn)
  have new1:∀ b o,b ≠ P->s.heap.get? b=some o->(h'.push (PySem.W.kla_obj "<lambda>" (X.env.qual ++ "<lambda>") params body scope (fO X.env scope.names []) ((X.mg "__name__").getD .none) c' ctv)).get? b=some o:=fun b o hb e=>Heap.get?_push_of_some _ (hx b o hb e)
  have nP:∀ b,H b=none->b ≠ P:=fun b n z=>by rw [z,T] at n; cases n
  have ups:∀ b u,H b=some u->(∀ ps,u ≠ .tbl ps)->aY (aY H P (.tbl (Q4 pos c'))) c' (uH c' (X.env.qual ++ "<lambda>")) b=some u:=fun b u e nt=>by
   rw [aK (aU e cn),aK (bO e T (nt _))]; exact e
  have hfresh:H h'.objs.size=none:=I.hok.fresh (Nat.le_trans hge (Nat.le_of_lt hlt))
  have I1:aZ X pins σ (aY (aY H P (.tbl (Q4 pos c'))) c' (uH c' (X.env.qual ++ "<lambda>"))) { s with heap:=h'.push (PySem.W.kla_obj "<lambda>" (X.env.qual ++ "<lambda>") params body scope (fO X.env scope.names []) ((X.mg "__name__").getD .none) c' ctv),toks:=tk }:=by
   refine I.un (t':=tk) ⟨fun b o e n _ _=>new1 b o (nP b n) e,fun b o e n _ _=>⟨o.slots,new1 b o (nP b n) e⟩,fun b o e n _=>?_,fun b o e _=>?_,fun b xs e=>ups b _ e (fun _ z=>nomatch z),fun b o u e=>ups b _ e (fun _ z=>nomatch z),fun b ps e=>?_⟩ fun b u e=>?_
   ·rw [aK (Nat.ne_of_lt (Nat.lt_of_lt_of_le (Heap.lt_size e) hge)),aK (nP b n)]; exact n
   ·by_cases z:b=P
    ·rw [z]; exact ⟨_,Heap.get?_push_of_some _ htb⟩
    ·exact ⟨o,new1 b o z e⟩
   ·by_cases z:b=P
    ·rw [z,T] at e
     cases e
     refine ⟨Q4 pos c',?_⟩
     rw [z,aK (Ne.symm cP),aB]
     simp
    ·exact ⟨#[],by rw [aK (aU e cn),aK z,e]; simp⟩
   ·by_cases z:b=c'
    ·subst z
     rw [aB] at e
     cases e
     obtain ⟨c2,oc,vs,t,e2,g2,r2⟩:=hrec
     cases e2
     exact ⟨⟨_,oc,vs,t,rfl,Heap.get?_push_of_some _ g2,r2⟩,⟨oc,Heap.get?_push_of_some _ g2⟩,Aj⟩
    ·rw [aK z] at e
     by_cases z2:b=P
     ·subst z2
      rw [aB] at e
      cases e
      have q2:=Heap.get?_push_of_some (PySem.W.kla_obj "<lambda>" (X.env.qual ++ "<lambda>") params body scope (fO X.env scope.names []) ((X.mg "__name__").getD .none) c' ctv) htb
      rw [Array.empty_append] at q2
      exact q2
     ·rw [aK z2] at e
      refine (I.hok b u e).stay (fun d v hd r=>new1 d v ?_ r) (fun d r=>ups d _ r fun _ z=>nomatch z) fun d xs r=>ups d _ r fun _ z=>nomatch z
      rcases hd with z3 | z3
      ·rw [z3]; exact z2
      ·exact bO z3 T fun z=>nomatch z
  refine q _ c' ((X.mg "__name__").getD .none) ctv _ _ (fun b o n e=>?_) ⟨?_,aB⟩ (I1.pins_of fun p hp=>?_)
  ·rw [aK (aU e cn),aK n]; exact e
  ·rw [aK (Ne.symm cP),aB]
  ·rcases List.mem_append.mp hp with z | z
   ·exact I1.pin p (List.mem_append_right _ z)
   ·rw [List.mem_singleton.mp z]
    have fp:=I.fpOk (H':=aY (aY H P (.tbl (Q4 pos c'))) c' (uH c' (X.env.qual ++ "<lambda>"))) (b:=h'.objs.size) (Nat.le_trans hge (Nat.le_of_lt hlt)) (by rw [aK (Nat.ne_of_gt hlt),aK (nP _ hfresh)]; exact hfresh)
    exact ⟨Heap.get?_push_size _ rfl,fp.1,fp.2.1,fp.2.2.1,fun v z=>nomatch z⟩
 ·have hP:s.heap.get? P=some (PySem.W.tabObj (Q4 pos c')):=I.hok P _ T
  have am:codeAmong pos (Q4 pos c').toList=some (.ref c'):=by
   show codeAmong pos [rawInt pos.line,rawInt pos.col,.ref c']=some (.ref c')
   simp [codeAmong,rawInt]
  refine PySem.W.kla_makeFunctionHit (mg:=X.mg) hcl I.ok.glob hg hcode (C.keeps I.bk) hP trivial am hB fun ctv h' tk hk hsz=>?_
  have I1:aZ X pins σ H { s with heap:=h'.push (PySem.W.kla_obj "<lambda>" (X.env.qual ++ "<lambda>") params body scope (fO X.env scope.names []) ((X.mg "__name__").getD .none) c' ctv),toks:=tk }:=I.kept (t':=tk) fun b o e=>Heap.get?_push_of_some _ (hk b o e)
  refine q _ c' ((X.mg "__name__").getD .none) ctv H _ (cH.refl H) ⟨T,U⟩ (I1.pins_of fun p hp=>?_)
  rcases List.mem_append.mp hp with z | z
  ·exact I1.pin p (List.mem_append_right _ z)
  ·rw [List.mem_singleton.mp z]
   have fp:=I.fpOk (H':=H) (b:=h'.objs.size) hsz (I.hok.fresh hsz)
   exact ⟨Heap.get?_push_size _ rfl,fp.1,fp.2.1,fp.2.2.1,fun v z=>nomatch z⟩
end
end L2
namespace L2
open PySem PySem.Spec PyProof.Rows
def QC (K:PySem.W.Frag) (P:Addr) (pos:Pos) (qual:Str) (tl tb:TE):TE:=fun σ H Q=>tl σ H fun x H1=>∃ (l:Addr) (qs:List Addr) (kz:List Int),x = .ref l /\ bR K H1 l (qs.map V.ref) /\ kz.length=qs.length /\ qs.length < 64 /\ fG P pos qual H1 ∧
 ∀ H2 c',cH P H1 H2->Qx P pos qual c' H2->(∀ (i:Nat) q k,qs[i]? = some q->kz[i]? = some k->tb (some (.ref q) :: σ) H2 fun r H'=>r = .int k /\ H'=H2) ∧
  ∀ D (ps:List (Int × Addr)),H2 D=none->ps.Perm (kz.zip qs)->ps.Pairwise (fun p q=>p.1 <= q.1)->Q (.ref D) (aY H2 D (.lst (ps.map fun p=>V.ref p.2)))
theorem J6 {X:Cx}{c P:Addr}{k:Nat}{p:Str}{M:List Str}{scope:Scope}{params:Arguments}{body e:Expr}{p0 pos lpos kpos:Pos}{tl tb:TE} (hr:fD k X.A) (hc:X.calm=true) (hg:Gl X "sorted") (hm:X.mg "sorted" = none)
  (hcode:X.env.code = .ref c) (C:PySem.W.CodeHd X.base c P) (B:X.base.BuiltinsAt X.mg P) (S:cA X.env.scope scope) (nl:NL X.N M scope) (hp:scope.names.lookup p=some .local) (hco:scope.isCoroutine=false) (hgen:scope.isGenerator=false)
  (he:PE X e tl) (hb:∀ A f c' s H,PE (Gv X A p M scope (X.env.qual ++ "<lambda>") f c' s H) body tb)
  (hdef:defaultsOf params X.env=([],[]):=by rfl)
  (hbind:∀ (cl:List (Str × Addr)) (pm cdv ctv u:Value),bindArgs (PySem.W.kla_fn "<lambda>" (X.env.qual ++ "<lambda>") params body scope cl pm cdv ctv) ⟨[u],[]⟩ = pure [(p,u)]:=by intro _ _ _ _ _; rfl)
  (hs:starEach [e] X.env=[(false,eval e X.env)]:=by rfl) :
  PE X (.Call (.Name "sorted" p0) [e] [⟨some "key",.Lambda params body scope lpos,kpos⟩] pos) (QC X.K P lpos (X.env.qual ++ "<lambda>") tl tb):=by
 intro pins s σ H Q I h
 refine wpAny_Call_Name_kw (qO I hg hm Hw ?_ (by decide) (by decide))
 refine callWith_kw (dU (aA he aC hs pos pins s σ H (fun vs H1=>∃ x,vs=[x] /\ ∃ (l:Addr) (qs:List Addr) (kz:List Int),x = .ref l /\ bR X.K H1 l (qs.map V.ref) /\ kz.length=qs.length /\ qs.length < 64 /\ fG P lpos (X.env.qual ++ "<lambda>") H1 ∧
  ∀ H2 c',cH P H1 H2->Qx P lpos (X.env.qual ++ "<lambda>") c' H2->(∀ (i:Nat) q k,qs[i]? = some q->kz[i]? = some k->tb (some (.ref q) :: σ) H2 fun r H'=>r = .int k /\ H'=H2) ∧
   ∀ D (ps:List (Int × Addr)),H2 D=none->ps.Perm (kz.zip qs)->ps.Pairwise (fun p q=>p.1 <= q.1)->Q (.ref D) (aY H2 D (.lst (ps.map fun p=>V.ref p.2)))) I ?_) fun us s1 ⟨vs,H1,I1,r1,x,ev,l,qs,kz,ex,hS,hlen,h64,hT,q1⟩=>?_) ?_ ?_ rfl rfl
 ·show tl σ H fun x H1=>_
  have mono:=h
  exact (show tl σ H fun x H1=>∃ x',[x]=[x'] /\ _ from by
   have e1:(fun (x:V) (H1:Hp)=>∃ x',[x]=[x'] /\ ∃ (l:Addr) (qs:List Addr) (kz:List Int),x' = .ref l /\ bR X.K H1 l (qs.map V.ref) /\ kz.length=qs.length /\ qs.length < 64 /\ fG P lpos (X.env.qual ++ "<lambda>") H1 ∧
  ∀ H2 c',cH P H1 H2->Qx P lpos (X.env.qual ++ "<lambda>") c' H2->(∀ (i:Nat) q k,qs[i]? = some q->kz[i]? = some k->tb (some (.ref q) :: σ) H2 fun r H'=>r = .int k /\ H'=H2) ∧
   ∀ D (ps:List (Int × Addr)),H2 D=none->ps.Perm (kz.zip qs)->ps.Pairwise (fun p q=>p.1 <= q.1)->Q (.ref D) (aY H2 D (.lst (ps.map fun p=>V.ref p.2))))=fun x H1=>∃ (l:Addr) (qs:List Addr) (kz:List Int),x = .ref l /\ bR X.K H1 l (qs.map V.ref) /\ kz.length=qs.length /\ qs.length < 64 /\ fG P lpos (X.env.qual ++ "<lambda>") H1 ∧
  ∀ H2 c',cH P H1 H2->Qx P lpos (X.env.qual ++ "<lambda>") c' H2->(∀ (i:Nat) q k,qs[i]? = some q->kz[i]? = some k->tb (some (.ref q) :: σ) H2 fun r H'=>r = .int k /\ H'=H2) ∧
   ∀ D (ps:List (Int × Addr)),H2 D=none->ps.Perm (kz.zip qs)->ps.Pairwise (fun p q=>p.1 <= q.1)->Q (.ref D) (aY H2 D (.lst (ps.map fun p=>V.ref p.2))):=by
    funext x H1
    refine propext ⟨?_,?_⟩
    ·rintro ⟨x',z,r⟩
     injection z with z
     subst z
     exact r
    ·intro r
     exact ⟨x,rfl,r⟩
   rw [e1]
   exact mono)
 ·subst ev ex
  obtain ⟨u,rfl,ru⟩:=lO r1
  cases (show u=Value.ref l from ru)
  show wpAny _ _ (evalAll [do let v <- eval (.Lambda params body scope lpos) X.env; standAt pos; pure v]) _ _ s1
  refine wpAny_evalAll_cons (wpAny_bind (K8 I1 hcode C B hT S hdef fun f c' pm ctv H2 s2 st hit I2=>wpAny_bind (wpAny_standAt (wpAny_pure (wpAny_evalAll_nil ?_)))))
  obtain ⟨q2,q3⟩:=q1 H2 c' st hit
  have fin:=Js (E:=X.xe) (Q:=Q) (fa:=f) (kz:=kz) I2 (cH.lst st hT hS) hlen h64 (fun i q k eq ek=>Np (A:=X.A.in1.in1) I2.ok.frames (I2.ok.hd hc) hr.depth S nl hp hco hgen hbind (hb X.A.in1.in1) (x:=.ref q) rfl (List.mem_append_right _ (.head _)) hit.2 (q2 i q k eq ek)) fun D ps hD hp hs=>q3 D ps hD hp hs
  exact dU fin fun r s3 ⟨v,H3,I3,rv,qv⟩=>⟨v,H3,I3.unpinned,rv,qv⟩
 ·show backTo pos (starEach [e] X.env)=(false,eval e X.env) :: _
  rw [hs]
  rfl
 ·rw [hs]
  rfl
theorem fH.okc {P:Program}{w:World}{K:PySem.W.Frag}{mg:Str->Option Value}{base:Heap}{x qual:Str}{st:Stmt}{f c:Addr}{fd:FuncData}{N ps:List Str}{k:Nat}{sp:Sp} (F:fH K x qual st f fd) (hc:fd.code = .ref c) (S:aO N ps (aM st)) (len:∀ vs H Q E,sp vs H Q E->vs.length=ps.length)
  (hbody:∀ (A:Around) (outer:List Env) (s:Shared) (H:Hp) (vs:List V) (Q:VK) (E:XK),fD k (A.deeper (envOfC qual (aM st) s.heap.objs.size f (.ref c)))->sp vs H Q E ->
   ∃ t,rT (tU d7 P w K mg base N qual (aM st) f (.ref c) A outer s H E).nox (fV st) t /\ t { nx:=fun _ H'=>Q .non H',rt:=Q } (start N vs) H):aV P w K mg base d7 (k + 1) f fd ps sp:=by
 obtain ⟨oc,od,kV,doc,pm,an,cdv,ct,osl,rfl,lk,hcd⟩:=F.ex
 cases (show cdv=Value.ref c from hc)
 refine Fd lk hcd S len fun A outer s H vs Q E hr hsp=>?_
 obtain ⟨t,h,q⟩:=hbody A outer s H vs Q E hr hsp
 exact ⟨t,h.nox,q⟩
end L2
namespace L2
open PySem PySem.W
def ev {α : Type}:List α->List α
 | []=>[]
 | [a]=>[a]
 | a :: _ :: r=>a :: ev r
def od {α : Type}:List α->List α
 | []=>[]
 | [_]=>[]
 | _ :: b :: r=>b :: od r
def bt:Nat->List Obj->BT
 | 0,_=>.nil
 | _ + 1,[]=>.nil
 | n + 1,o :: r=>.node o (bt n (ev r)) (bt n (od r))
def Mu (l:List Obj):List (Nat × Obj)->List Obj
 | []=>l
 | p :: r=>Mu (l.set p.1 p.2) r
noncomputable def De (T:BT) (n k:Nat) (os:OsState):SharedT:=⟨T,n,{},Array.mk [],boot_drawn,k,os⟩
theorem zA {tb:String->Option Builtin}{p:Program}{w:World}{m0:Nat}{ann:Option Value}{env:Env}{q:Pos}{n N:Nat}{s s':SharedT}{r:Shared}{l iH:List Stmt}{c:Code}{pos p':Pos}
  (h:segRunT tb p w m0 ann 1 n s (piecesOf l env c pos [topFrame q])=some (.next,s',c,p')) (k:topRun tb p w m0 ann N s'.abs (restOf iH env c p' [topFrame q])=some r):topRun tb p w m0 ann (n + N) s.abs (restOf (l ++ iH) env c pos [topFrame q])=some r :=
 piece_app (segRun_of h) k
theorem Lb {p q:Program}{loose:List Str}{Xt:Shared->Bool}{α : Type}{Yf:Shared->α}{Ya:World->α}{N:Nat}{Tb Tf:Params->BT}{nb nf ka kf:Nat}{env:Env}{C:Code}{gs:List Stmt}{posA posB qp:Pos}{m0:Nat}{ann:Option Value}{a b c:Nat}
  (e1:opening p=plainProg p.main.scope.names) (h6:Nat.ble 600 N=true) (e2:∀ s,fenceModules? p s=some s)
  (size:∀ w:World,((boot_heap w.params).isNs mainGlobals && (Array.mk []:Array GenState).size == 0,(boot_heap w.params).objs.size,(boot_heap w.params).nsMap mainGlobals "__annotations__")=(true,m0,ann))
  (pre:∀ (w:World) (os:OsState),topGo treeTable p w m0 ann a ⟨boot_heap w.params,Array.mk [],boot_drawn,boot_toks,os⟩ (topStub p)=some ((De (Tb w.params) nb ka os).abs,⟨denote treeTable (.body gs env),C,posA,[topFrame qp]⟩))
  (blk:∀ (w:World) (os:OsState),segRun treeTable p w m0 ann 1 b (De (Tb w.params) nb ka os).abs (blockOf gs env C posA [topFrame qp])=some (.next,(De (Tb w.params) nb ka os).abs,C,posB))
  (run:∀ (w:World) (os:OsState),topRun treeTable p w m0 ann c (De (Tb w.params) nb ka os).abs (restOf gs env C posB [topFrame qp])=some (De (Tf w.params) nf kf os).abs)
  (le:Nat.ble (a + (b + c)) N=true)
  (looks:∀ w:World,(fun os=>((staticsOk (importedModules p.main.body) (boot_heap w.params) (absHeap (Tf w.params) nf {}) && namesBound p (absHeap (Tf w.params) nf {}) && gensDone ⟨absHeap (Tf w.params) nf {},Array.mk [],boot_drawn,kf,os⟩ && laidKept (boot_heap w.params) (absHeap (Tf w.params) nf {})),
    openSeen q loose (importedModules p.main.body) Xt true ⟨absHeap (Tf w.params) nf {},Array.mk [],boot_drawn,kf,os⟩,Yf ⟨absHeap (Tf w.params) nf {},Array.mk [],boot_drawn,kf,os⟩))=fun _=>(true,openGood q loose,Ya w)):LeftO p q loose Xt Yf Ya N :=
 LeftO.of_pieces (H₁:=fun P=>absHeap (Tf P) nf {}) (boot_open e1 h6 e2) size (fun w os=>go_top (pre w os) (piece_block (blk w os) (run w os))) le looks
end L2
namespace L2
open PySem PySem.Spec PyProof.Rows
inductive DE (K:PySem.W.Frag) (H:Hp):Nat->V->V->Bool->Prop
 | int (n:Nat) (i j:Int):DE K H n (.int i) (.int j) (i == j)
 | bl (n:Nat) (i j:Bool):DE K H n (.bl i) (.bl j) (i == j)
 | str (n:Nat) (i j:Str):DE K H n (.str i) (.str j) (i == j)
 | tup {n:Nat}{a b:Addr}{xs ys:List V} (e:Nat->Bool) (ha:bQ K H a xs) (hb:bQ K H b ys) (h:∀ (j:Nat) x y,xs[j]? = some x->ys[j]? = some y->DE K H n x y (e j)) :
   DE K H (n + 1) (.ref a) (.ref b) ((List.range (min xs.length ys.length)).all e && xs.length == ys.length)
 | lst {n:Nat}{a b:Addr}{xs ys:List V} (e:Nat->Bool) (ha:bR K H a xs) (hb:bR K H b ys) (hl:xs.length=ys.length) (h:∀ (j:Nat) x y,xs[j]? = some x->ys[j]? = some y->DE K H n x y (e j)) :
   DE K H (n + 1) (.ref a) (.ref b) ((List.range xs.length).all e)
 | lstN {n:Nat}{a b:Addr}{xs ys:List V} (ha:bR K H a xs) (hb:bR K H b ys) (hl:xs.length ≠ ys.length):DE K H (n + 1) (.ref a) (.ref b) false
section
variable {X:Cx}{pins:List (Addr × Obj)}{σ : St}{H:Hp}{s:Shared}
theorem DE.self (I:aZ X pins σ H s) {n:Nat}{x y:V}{k:Bool} (d:DE X.K H n x y k):x=y->k=true:=by
 induction d with
 | int n i j=>intro e; cases e; simp
 | bl n i j=>intro e; cases e; simp
 | str n i j=>intro e; cases e; simp
 | @tup n a b xs ys e ha hb h ih =>
  intro z
  cases z
  have q:=I.tuple_inj ha hb
  subst q
  rw [Bool.and_eq_true]
  refine ⟨List.all_eq_true.mpr fun j hj=>?_,by simp⟩
  rw [List.mem_range,Nat.min_self] at hj
  exact ih j _ _ (List.getElem?_eq_getElem hj) (List.getElem?_eq_getElem hj) rfl
 | @lst n a b xs ys e ha hb hl h ih =>
  intro z
  cases z
  have q:=I.list_inj ha hb
  subst q
  refine List.all_eq_true.mpr fun j hj=>?_
  rw [List.mem_range] at hj
  exact ih j _ _ (List.getElem?_eq_getElem hj) (List.getElem?_eq_getElem hj) rfl
 | @lstN n a b xs ys ha hb hl =>
  intro z
  cases z
  exact absurd (congrArg List.length (I.list_inj ha hb)) hl
theorem mY {xs:List V}{its:List Value} (r:bL xs its) {j:Nat} (hj:j < its.length):∃ x,xs[j]? = some x /\ bJ x its[j]:=by
 have hl:=r.length
 obtain ⟨u,hu,ru⟩:=r.get (List.getElem?_eq_getElem (l:=xs) (i:=j) (by omega))
 rw [List.getElem?_eq_getElem hj] at hu
 cases hu
 exact ⟨_,List.getElem?_eq_getElem (by omega),ru⟩
theorem m5 (A:Around):A.in1.units=A.units + 1:=rfl
theorem DE.eqAt (I:aZ X pins σ H s) {n:Nat}{x y:V}{k:Bool} (d:DE X.K H n x y k):∀ (A:Around) (u v:Value),A.units + n < cLine->bJ x u->bJ y v->PySem.SeqAt.EqAt A s u v k:=by
 induction d with
 | int n i j =>
  intro A u v _ ru rv
  obtain ⟨t,rfl⟩:=ru
  obtain ⟨t',rfl⟩:=rv
  exact PySem.SeqAt.EqAt.int_int _ _ _ _
 | bl n i j =>
  intro A u v _ ru rv
  cases (show u=Value.bool i from ru)
  cases (show v=Value.bool j from rv)
  exact PySem.SeqAt.EqAt.bool_bool _ _
 | str n i j =>
  intro A u v _ ru rv
  obtain ⟨t,rfl⟩:=ru
  obtain ⟨t',rfl⟩:=rv
  exact PySem.SeqAt.EqAt.str_str _ _ _ _
 | @tup n a b xs ys e ha hb h ih =>
  intro A u v hu ru rv
  cases (show u=Value.ref a from ru)
  cases (show v=Value.ref b from rv)
  by_cases hab:a=b
  ·have q:=(DE.tup e ha hb h).self I (by rw [hab])
   rw [q]
   subst hab
   exact PySem.SeqAt.EqAt.same _
  ·obtain ⟨its,r1,p1,_⟩:=I.tuple ha
   obtain ⟨its2,r2,p2,_⟩:=I.tuple hb
   refine PySem.SeqAt.EqAt.of_refs hab ?_
   have q:=PySem.SeqAt.RcAt.tuples (A:=A) (e:=e) (show s.heap.IsTuple a its.toArray from p1) (show s.heap.IsTuple b its2.toArray from p2) (by omega) (fun j h1 h2=>by
    obtain ⟨x,ex,rx⟩:=mY r1 (j:=j) (by simpa using h1)
    obtain ⟨y,ey,ry⟩:=mY r2 (j:=j) (by simpa using h2)
    rw [List.getElem_toArray,List.getElem_toArray]
    exact ih j x y ex ey A.in1 _ _ (by rw [m5]; omega) rx ry)
   rw [List.size_toArray,List.size_toArray,<- r1.length,<- r2.length] at q
   exact q
 | @lst n a b xs ys e ha hb hl h ih =>
  intro A u v hu ru rv
  cases (show u=Value.ref a from ru)
  cases (show v=Value.ref b from rv)
  by_cases hab:a=b
  ·have q:=(DE.lst e ha hb hl h).self I (by rw [hab])
   rw [q]
   subst hab
   exact PySem.SeqAt.EqAt.same _
  ·obtain ⟨its,r1,p1,_⟩:=I.list ha
   obtain ⟨its2,r2,p2,_⟩:=I.list hb
   refine PySem.SeqAt.EqAt.of_refs hab ?_
   have q:=PySem.SeqAt.RcAt.lists (A:=A) (e:=e) p1.isList p2.isList (by rw [List.size_toArray,List.size_toArray,<- r1.length,<- r2.length]; exact hl) (by omega) (fun j h1 h2=>by
    obtain ⟨x,ex,rx⟩:=mY r1 (j:=j) (by simpa using h1)
    obtain ⟨y,ey,ry⟩:=mY r2 (j:=j) (by simpa using h2)
    rw [List.getElem_toArray,List.getElem_toArray]
    exact ih j x y ex ey A.in1 _ _ (by rw [m5]; omega) rx ry)
   rw [List.size_toArray,<- r1.length] at q
   exact q
 | @lstN n a b xs ys ha hb hl =>
  intro A u v hu ru rv
  cases (show u=Value.ref a from ru)
  cases (show v=Value.ref b from rv)
  have hab:a ≠ b:=fun z=>by subst z; exact hl (congrArg List.length (I.list_inj ha hb))
  obtain ⟨its,r1,p1,_⟩:=I.list ha
  obtain ⟨its2,r2,p2,_⟩:=I.list hb
  refine PySem.SeqAt.EqAt.of_refs hab (PySem.SeqAt.RcAt.lists_lengths p1.isList p2.isList ?_ (by omega))
  rw [List.size_toArray,List.size_toArray,<- r1.length,<- r2.length]
  simpa using hl
end
end L2
namespace L2
open PySem PySem.Spec PyProof.Rows
section
variable {X:Cx}
theorem kY (hc:X.calm=true):jM X (.builtin "sum") (fun xs H Q=>∃ (a:Addr) (ns:List Int),xs=[.ref a] /\ bR X.K H a (ns.map V.int) /\ Q (.int ns.sum) H):=by
 intro pins s σ H xs us Q I r h
 obtain ⟨a,ns,rfl,hS,q⟩:=h
 obtain ⟨u,rfl,ru⟩:=lO r
 cases (show u=Value.ref a from ru)
 obtain ⟨its,rv,p,hz⟩:=I.list hS
 have hi:=vA rv
 obtain ⟨zs,e⟩:=(IntsAre.allInts hi).items
 have hl:=p.isList
 rw [e] at hl
 refine sum_intListG (I.ok.hd hc) hl fun h' tk t' hk=>⟨.int ns.sum,H,I.kept hk,⟨t',?_⟩,q⟩
 have n1:=nums_intItems (xs:=zs)
 rw [<- e,show its.toArray.toList=its from rfl,IntsAre.numsOf hi] at n1
 rw [preSum_eq,List.take_of_length_le (by simp),<- n1]
section
variable {prog:Program}{w:World}{A:Around}{E:Value->Shared->Prop}{s:Shared}{d it:Addr}{od:Obj}{es:Array DictEntry}{ep i:Nat}
theorem w5 {Q:Value->Shared->Prop} (hd:(d == sysModules)=false) (ho:s.heap.get? d=some od) (hx:od.ExactDict) (hdat:od.data = .dict es ep)
  (hQ:Q (.ref s.heap.objs.size) { s with heap:=s.heap.push { cls:=.type "dict_keyiterator",data:=.fields #[.ref d,.int 0 0,.int es.size 0,.int ep 0] } }) :
  wpAny (model prog w) A (pyIter (.ref d)) Q E s:=by
 have ty:s.TypeIs (.ref d) "dict":=⟨od,ho,hx.1⟩
 apply wpAny_pyIter_slot ty F.slot_dict_iter
 refine wpAny_call_entry F.slot_dict_iter ty F.entry_dict_iter ?body (F.args_dict_iter_1 _)
 case body =>
  unfold Builtin.«dict.__iter__»
  apply wpAny_bind
  unfold Builtin.Dict.dictSlotNone
  refine wpAny_bind (wpAny_notOrdered_dict ty (wpAny_pure (a:=Value.ref d) ?_))
  show wpAny _ _ (Builtin.Dict.showsAll d >>= fun _=>_) _ _ s
  unfold Builtin.Dict.showsAll
  rw [hd,if_neg Bool.false_ne_true]
  refine wpAny_bind (wpAny_pure (wpAny_bind (wpAny_dictEntries ho hdat (wpAny_bind (wpAny_dictEpoch ho hdat ?_)))))
  refine wpAny_bind (wpAny_newObj_type (wpAny_pure ⟨_,rfl,"dict_keyiterator",_,⟨_,Heap.get?_push_size _ rfl,rfl⟩,F.slot_dict_keyiterator_next.lookup,?_⟩))
  simpa only [rawInt] using hQ
theorem yG {e:DictEntry}{Q:Option Value->Shared->Prop} (hit:s.heap.IsKeyIter it d i es.size ep) (ho:s.heap.get? d=some od) (hdat:od.data = .dict es ep) (hx:es[i]? = some e)
  (hQ:∀ h',h'.IsKeyIter it d (i + 1) es.size ep->Heap.SameBut it s.heap h'->Q (some e.key) { s with heap:=h' }):wpAny (model prog w) A (pyNext (.ref it)) Q E s:=by
 obtain ⟨oi,hoi,hci,hdi⟩:=id hit
 have ty:=hit.typeIs
 have own:Builtin.Dict_items.ownsTuple "dict_keyiterator" = false:=by decide
 unfold pyNext
 apply wpAny_bind
 apply wpAny_attempt
 refine wpAny_callSpecial?_slot (name:=Str.ofString "__next__") ty F.slot_dict_keyiterator_next ?call
 case call =>
  refine wpAny_call_entry F.slot_dict_keyiterator_next ty F.entry_dict_keyiterator_next ?body (F.args_dict_keyiterator_next_1 _)
  case body =>
   refine wpAny_bind (wpAny_pure (wpAny_bind (wpAny_bind ?_)))
   refine wpAny_bind (wpAny_typeNameOfWhole_keyiter ty (wpAny_pure (wpAny_bind (wpAny_fieldsOf hoi hdi ?_))))
   simp only [own,Bool.false_eq_true,if_false]
   show wpAny _ _ (if (Value.ref d == Value.none)=true then _ else _) _ _ s
   rw [if_neg (fun z:(Value.ref d == Value.none)=true=>Bool.false_ne_true z)]
   refine wpAny_bind (wpAny_pure (wpAny_bind (wpAny_dictEntries ho hdat ?_)))
   rw [if_neg (by simp)]
   refine wpAny_bind (wpAny_pure (wpAny_bind (wpAny_dictEpoch ho hdat ?_)))
   rw [if_neg (by simp)]
   apply wpAny_pure
   have neg:¬ ((i:Int) < 0):=by omega
   simp only [neg,if_false,Int.toNat_natCast,hx]
   refine wpAny_bind (wpAny_bind (wpAny_typeNameOfWhole_keyiter ty (wpAny_pure (wpAny_bind (wpAny_isOneOf_keyiter ty ?_)))))
   show wpAny _ _ (setField (.ref it) 1 (rawInt ((i:Int) + 1)) >>= fun _=>_) _ _ s
   refine wpAny_bind (wpAny_setField hoi hdi (by simp) ?_)
   have nx:(s.heap.update it (Obj.mapFields (·.setIfInBounds 1 (rawInt ((i:Int) + 1))))).IsKeyIter it d (i + 1) es.size ep :=
    ⟨_,Heap.get?_update_self _ hoi (Obj.isFreed_of_fields (Obj.data_mapFields hdi _)),(Obj.cls_mapFields ..).trans hci,by rw [Obj.data_mapFields hdi]; simp [rawInt]⟩
   refine wpAny_bind (wpAny_holding (wpAny_bind (wpAny_isOneOf_keyiter (s:={ s with heap:=s.heap.update it (Obj.mapFields (·.setIfInBounds 1 (rawInt ((i:Int) + 1)))) }) nx.typeIs ?_)))
   show wpAny _ _ (pure e.key) _ _ _
   exact wpAny_pure (wpAny_pure ⟨_,rfl,wpAny_pure (hQ _ nx (Heap.SameBut.update ..))⟩)
theorem DK {Q:Option Value->Shared->Prop} (hh:A.handled=none) (hit:s.heap.IsKeyIter it d i es.size ep) (ho:s.heap.get? d=some od) (hdat:od.data = .dict es ep) (hx:es.size <= i)
  (hQ:∀ h',Heap.ExtBut it s.heap h'->Q none { s with heap:=h' }):wpAny (model prog w) A (pyNext (.ref it)) Q E s:=by
 obtain ⟨oi,hoi,hci,hdi⟩:=id hit
 have ty:=hit.typeIs
 have own:Builtin.Dict_items.ownsTuple "dict_keyiterator" = false:=by decide
 unfold pyNext
 apply wpAny_bind
 apply wpAny_attempt
 refine wpAny_callSpecial?_slot (name:=Str.ofString "__next__") ty F.slot_dict_keyiterator_next ?call
 case call =>
  refine wpAny_call_entry F.slot_dict_keyiterator_next ty F.entry_dict_keyiterator_next ?body (F.args_dict_keyiterator_next_1 _)
  case body =>
   refine wpAny_bind (wpAny_pure (wpAny_bind (wpAny_bind ?_)))
   refine wpAny_bind (wpAny_typeNameOfWhole_keyiter ty (wpAny_pure (wpAny_bind (wpAny_fieldsOf hoi hdi ?_))))
   simp only [own,Bool.false_eq_true,if_false]
   show wpAny _ _ (if (Value.ref d == Value.none)=true then _ else _) _ _ s
   rw [if_neg (fun z:(Value.ref d == Value.none)=true=>Bool.false_ne_true z)]
   refine wpAny_bind (wpAny_pure (wpAny_bind (wpAny_dictEntries ho hdat ?_)))
   rw [if_neg (by simp)]
   refine wpAny_bind (wpAny_pure (wpAny_bind (wpAny_dictEpoch ho hdat ?_)))
   rw [if_neg (by simp)]
   apply wpAny_pure
   have neg:¬ ((i:Int) < 0):=by omega
   simp only [neg,if_false,Int.toNat_natCast,Array.getElem?_eq_none hx]
   refine wpAny_bind (wpAny_bind (wpAny_typeNameOfWhole_keyiter ty (wpAny_pure ?_)))
   show wpAny _ _ (setField (.ref it) 0 .none >>= fun _=>_) _ _ s
   refine wpAny_bind (wpAny_setField hoi hdi (by simp) ?_)
   show wpAny _ _ (newExc (.type "StopIteration") [] >>= fun _=>_) _ _ _
   apply wpAny_bind
   simp only [newExc,newTuple]
   refine wpAny_bind (wpAny_newObj_type (wpAny_bind (m:=firstArgMember _ _) (wpAny_of_eq (a:=Value.none) (by first | rfl | (simp only [firstArgMember]; rfl)) (wpAny_newObj_type ?_ (by size_fits)))) (by size_fits))
   simp only [raiseNew]
   refine wpAny_bind (wpAny_handled ?_)
   rw [show A.in1.handled=Option.none from hh]
   refine wpAny_bind (wpAny_pure (wpAny_throw ?thr))
   apply wpAny_bind
   refine wpAny_isInstance (T:="StopIteration") (b:=true) ⟨_,Heap.get?_push_size _ rfl,rfl⟩ isSubtype_stop ?ends
   exact wpAny_pure (hQ _ (((Heap.SameBut.update ..).extBut.push _).push _))
end
def QQ (a:Addr) (o:Obj) (kvs:List (List dB × V)):It :=
 ⟨fun i H=>H a=some (.frz o (.dT kvs)) /\ i < kvs.length,fun i H x H'=>H'=H /\ ∃ k v q,kvs[i]? = some (k,v) /\ x = .ref q /\ H q=some (.tup (k.map kV)),fun i H=>H a=some (.frz o (.dT kvs)) /\ kvs.length <= i⟩
theorem Dm {P:Program}{w:World}{H:Hp}{h:Heap}{a:Addr}{o:Obj}{kvs:List (List dB × V)} (ok:m7 P w H h) (e:H a=some (.frz o (.dT kvs))) :
  h.get? a=some o /\ o.ExactDict /\ ∃ es ep,o.data = .dict es ep /\ es.size=kvs.length /\ ∀ (i:Nat) k v,kvs[i]? = some (k,v)->∃ q ent,es[i]? = some ent /\ ent.key = .ref q /\ H q=some (.tup (k.map kV)):=by
 obtain ⟨e1,z,y,xs,r,ob,es,ep,e2,ex,hd,he,nd⟩:=ok a _ e
 rw [e1] at e2
 cases e2
 have hl:kvs.length=xs.length:=Paired.length r
 refine ⟨e1,ex,es,ep,hd,?_,fun i k v hk=>?_⟩
 ·rw [<- Array.length_toList,he,List.length_map,hl]
 ·have get:∀ {l1:List (List dB × V)}{l2:List (List dB × Addr × Value)}{i:Nat}{k:List dB}{v:V},Paired (fun (p:List dB × V) (q:List dB × Addr × Value)=>p.1=q.1 /\ H q.2.1=some (.tup (p.1.map kV)) /\ bJ p.2 q.2.2) l1 l2->l1[i]? = some (k,v) ->
    ∃ q:List dB × Addr × Value,l2[i]? = some q /\ H q.2.1=some (.tup (k.map kV)):=by
   intro l1 l2 i k v r
   induction r generalizing i with
   | nil=>intro z; simp at z
   | cons h t ih =>
    intro z
    cases i with
    | zero=>simp at z; subst z; exact ⟨_,rfl,h.2.1⟩
    | succ j=>exact ih (by simpa using z)
  obtain ⟨q,hq,ht⟩:=get r hk
  refine ⟨q.2.1,entryOfKey (tupleKind (dZ P w)) q,?_,rfl,ht⟩
  rw [<- Array.getElem?_toList,he,List.getElem?_map,hq]
  rfl
theorem Hl {P:Program}{w:World}{K:PySem.W.Frag}{tg:Expr} (a it:Addr) (o:Obj) (kvs:List (List dB × V)) (es:Array DictEntry) (ep:Nat) (hd:o.data = .dict es ep) :
  Dy P w K tg (QQ a o kvs) [it] it (fun i h=>h.IsKeyIter it a i es.size ep) where
 mem:=by simp
 obj:=fun i h st b hb=>by
  have e:b=it:=by simpa using hb
  subst e
  obtain ⟨o,e,c,d⟩:=st
  exact ⟨o,e,fun v z=>by rw [d] at z; cases z⟩
 keep:=fun i h h' st k=>st.at fun o e=>k it (by simp) o e
 item:=by
  intro X hP hw hK hc i pins s σ H E I hf st hg
  subst hP hw hK
  obtain ⟨hH,hi⟩:=hg
  obtain ⟨e1,ex,es',ep',hd',hsz,get⟩:=Dm I.hok hH
  rw [hd] at hd'
  cases hd'
  obtain ⟨q,ent,hent,hkey,ht⟩:=get i _ _ (List.getElem?_eq_getElem hi)
  obtain ⟨f0,f1,f2,f3,f4,f5⟩:=hf it (by simp)
  refine yG st e1 hd hent fun h' st' sb=>?_
  have I1:aZ X pins σ H { s with heap:=h' }:=I.turned (t':=s.toks) (fun b o hb e=>(sb.2 b hb).trans e) f0 f1 f3 f4 f5
  obtain ⟨oo,e,c,d⟩:=id st'
  exact ⟨_,rfl,BW (s:={ s with heap:=h' }) e c d (by decide) ⟨.ref q,H,I1,hkey,⟨rfl,_,_,q,List.getElem?_eq_getElem hi,rfl,ht⟩,st',fun b hb=>(hf b hb).1⟩⟩
 done:=by
  intro X hP hw hK hc i pins s σ H E I hf st hg
  subst hP hw hK
  obtain ⟨hH,hi⟩:=hg
  obtain ⟨e1,ex,es',ep',hd',hsz,get⟩:=Dm I.hok hH
  rw [hd] at hd'
  cases hd'
  obtain ⟨f0,f1,f2,f3,f4,f5⟩:=hf it (by simp)
  exact DK (I.ok.hd hc) st e1 hd (by omega) fun h' eb=>⟨rfl,I.turned (t':=s.toks) (fun b o hb e=>eb b o hb e) f0 f1 f3 f4 f5⟩
 self:=fun _ _ _ _ _ st h=>wpAny_pyIter_keyiter st h
theorem aZ.freeze {pins:List (Addr × Obj)}{σ : St}{H:Hp}{s:Shared}{a:Addr}{kvs:List (List dB × V)} (I:aZ X pins σ H s) (e:H a=some (.dT kvs)):∃ o,s.heap.get? a=some o /\ aZ X pins σ (aY H a (.frz o (.dT kvs))) s:=by
 have ok:=I.hok a _ e
 obtain ⟨z,y,xs,r,ob,es,ep,e2,c⟩:=id ok
 refine ⟨ob,e2,?_⟩
 refine I.write (x:=a) (e:=a) (h':=s.heap) (t':=s.toks) (by rw [e]; exact trivial) (.inl rfl) (fun _ _ _ q=>q) ⟨_,e2⟩ ⟨e2,?_⟩
 refine ok.stay (fun _ _ _ q=>q) (fun b q=>?_) fun b ys q=>?_
 ·rw [aK (fun w=>by rw [w,e] at q; cases q)]; exact q
 ·rw [aK (fun w=>by rw [w,e] at q; cases q)]; exact q
def Vi (tl:TE):TI:=fun σ H R=>tl σ H fun x H1=>∃ a kvs,x = .ref a /\ ((H1 a=some (.dT kvs) /\ ∀ o,R (QQ a o kvs) (aY H1 a (.frz o (.dT kvs)))) ∨ ∃ o,H1 a=some (.frz o (.dT kvs)) /\ R (QQ a o kvs) H1)
theorem GC {pins:List (Addr × Obj)}{σ : St}{H:Hp}{s:Shared}{tg:Expr}{a:Addr}{o:Obj}{kvs:List (List dB × V)}{R:It->Hp->Prop} (I:aZ X pins σ H s) (e:H a=some (.frz o (.dT kvs))) (q:R (QQ a o kvs) H) :
  wpAny (model X.prog X.w) X.A (pyIter (.ref a)) (PIE X pins σ tg R) X.xe s:=by
 obtain ⟨e1,ex,es,ep,hd,hsz,get⟩:=Dm I.hok e
 obtain ⟨_,_,y,_⟩:=I.hok a _ e
 refine w5 y e1 ex hd ?_
 refine ⟨s.heap.objs.size,[s.heap.objs.size],_,_,H,rfl,I.kept (t':=s.toks) fun b o e=>Heap.get?_push_of_some _ e,Hl a _ o kvs es ep hd,⟨_,Heap.get?_push_size _ rfl,rfl,rfl⟩,fun b hb=>?_,q⟩
 have e:b=s.heap.objs.size:=by simpa using hb
 subst e
 exact I.fpOk (Nat.le_refl _) (I.hok.fresh (Nat.le_refl _))
theorem Lj {tg l:Expr}{tl:TE} (hl:PE X l tl):PI X tg l (Vi tl):=by
 intro pins s σ H R I h
 refine dU (hl pins s σ H _ I h) fun v s1 ⟨x,H1,I1,r1,q1⟩=>?_
 obtain ⟨a,kvs,rfl,q1⟩:=q1
 cases (show v=Value.ref a from r1)
 rcases q1 with ⟨e,q⟩ | ⟨o,e,q⟩
 ·obtain ⟨o,_,I2⟩:=I1.freeze e
  exact GC I2 aB (q o)
 ·exact GC I1 e q
def Ux (K:PySem.W.Frag) (a:Addr) (xs:List V):It :=
 ⟨fun i H=>i < xs.length /\ bR K H a xs,fun i H x H'=>H'=H /\ xs[xs.length - 1 - i]? = some x,fun i H=>xs.length <= i⟩
theorem KY {P:Program}{w:World}{K:PySem.W.Frag}{tg:Expr} (a it:Addr) (xs:List V):Dy P w K tg (Ux K a xs) [it] it (fun i h=>i <= xs.length /\ h.IsRevIter it a ((xs.length:Int) - 1 - (i:Int))) where
 mem:=by simp
 obj:=fun i h st b hb=>by
  have e:b=it:=by simpa using hb
  subst e
  obtain ⟨_,o,e,c,d⟩:=st
  exact ⟨o,e,fun v z=>by rw [d] at z; cases z⟩
 keep:=fun i h h' st k=>⟨st.1,st.2.at fun o e=>k it (by simp) o e⟩
 item:=by
  intro X hP hw hK hc i pins s σ H E I hf st hg
  subst hP hw hK
  obtain ⟨hi,hS⟩:=hg
  obtain ⟨_,st⟩:=st
  obtain ⟨its,rv,p,hz⟩:=I.list hS
  have hix:xs.length - 1 - i < xs.length:=by omega
  obtain ⟨u,hu,ru⟩:=rv.get (List.getElem?_eq_getElem hix)
  have ei:(xs.length:Int) - 1 - (i:Int)=((xs.length - 1 - i:Nat):Int):=by omega
  rw [ei] at st
  obtain ⟨f0,f1,f2,f3,f4,f5⟩:=hf it (by simp)
  refine wpAny_pyNext_rev_item st p.isList (x:=u) (by simpa using hu) fun h' st' sb=>?_
  have I1:aZ X pins σ H { s with heap:=h' }:=I.turned (t':=s.toks) (fun b o hb e=>(sb.2 b hb).trans e) f0 f1 f3 f4 f5
  obtain ⟨o,e,c,d⟩:=id st'
  refine ⟨u,rfl,BW (s:={ s with heap:=h' }) e c d (by decide) ⟨_,H,I1,ru,⟨rfl,List.getElem?_eq_getElem hix⟩,⟨hi,?_⟩,fun b hb=>(hf b hb).1⟩⟩
  have ej:(xs.length:Int) - 1 - ((i + 1:Nat):Int)=((xs.length - 1 - i:Nat):Int) - 1:=by omega
  rw [ej]
  exact st'
 done:=by
  intro X hP hw hK hc i pins s σ H E I hf st hg
  subst hP hw hK
  obtain ⟨hi,st⟩:=st
  have hg:xs.length <= i:=hg
  have ei:(xs.length:Int) - 1 - (i:Int) = -1:=by omega
  rw [ei] at st
  obtain ⟨f0,f1,f2,f3,f4,f5⟩:=hf it (by simp)
  exact wpAny_pyNext_rev_end (I.ok.hd hc) st fun h' eb=>⟨rfl,I.turned (t':=s.toks) (fun b o hb e=>eb b o hb e) f0 f1 f3 f4 f5⟩
 self:=fun _ _ _ _ _ st h=>wpAny_pyIter_revIter st.2 h
def Yy (K:PySem.W.Frag) (ta:TA):TI:=fun σ H R=>ta σ H fun vs H1=>∃ a xs,vs=[.ref a] /\ bR K H1 a xs /\ R (Ux K a xs) H1
theorem BK:bootBuiltins "reversed" = some (.type "reversed"):=by decide +kernel
theorem QM {tg a:Expr}{ta:TA}{p pos:Pos} (hg:Gl X "reversed") (hm:X.mg "reversed" = none) (ha:PA X [a] ta) (hs:starEach [a] X.env=[(false,eval a X.env)]:=by rfl):PI X tg (.Call (.Name "reversed" p) [a] [] pos) (Yy X.K ta):=by
 intro pins s σ H R I h
 refine Call_ (qO I hg hm BK (PyProof.Rows.callWith_type1 (dU (ha pos pins s σ H _ I h) fun us s1 ⟨vs,H1,I1,r1,q1⟩=>?_) hs rfl))
 obtain ⟨b,xs,e,hS,q⟩:=q1
 subst e
 obtain ⟨u,rfl,ru⟩:=lO r1
 cases (show u=Value.ref b from ru)
 obtain ⟨its,rv,pl,hz⟩:=I1.list hS
 refine call_reversed_list pl.isList ?_
 have hsz:its.toArray.size=xs.length:=by rw [List.size_toArray]; exact rv.length.symm
 rw [hsz]
 have st:Heap.IsRevIter (s1.heap.push (revObj b ((xs.length:Int) - 1))) s1.heap.objs.size b ((xs.length:Int) - 1 - ((0:Nat):Int)):=by
  rw [show (xs.length:Int) - 1 - ((0:Nat):Int)=(xs.length:Int) - 1 by omega]
  exact ⟨_,Heap.get?_push_size _ rfl,rfl,rfl⟩
 have I2:aZ X pins σ H1 { s1 with heap:=s1.heap.push (revObj b ((xs.length:Int) - 1)) }:=I1.kept (t':=s1.toks) fun b o e=>Heap.get?_push_of_some _ e
 refine wpAny_pyIter_revIter (s:={ s1 with heap:=s1.heap.push (revObj b ((xs.length:Int) - 1)) }) st ?_
 refine ⟨s1.heap.objs.size,[s1.heap.objs.size],_,_,H1,rfl,I2,KY b _ xs,⟨Nat.zero_le _,st⟩,fun c hc=>?_,q⟩
 have e:c=s1.heap.objs.size:=by simpa using hc
 subst e
 exact I1.fpOk (Nat.le_refl _) (I1.hok.fresh (Nat.le_refl _))
end
theorem iU {X:Cx}{K:PySem.W.Frag} (h:X.K=K):Va X (VB K):=by subst h; exact bB
theorem vC {X:Cx}{K:PySem.W.Frag} (h:X.K=K):Va X (Wg K):=by subst h; exact eN
theorem fX {X:Cx}{K:PySem.W.Frag} (hK:X.K=K) {pos:Pos}{es:List Expr}{k:Nat}{t:Oo}{n:Nat} (hc:X.calm=true) (h:WM X es t)
  (hn:(assignEach es X.env).length=n:=by rfl) (hst:(assignEach es X.env).findIdx? (·.1)=none:=by rfl):PG X (.Tuple es k pos) (UV K n t):=by
 subst hK
 exact yS hc h hn hst
theorem Jv {a:Addr}{o:Obj}{kvs:List (List dB × V)}{g:TG}{tb:TS}{D:rJ}{σ : St}{H:Hp} (Pv:Nat->St->Hp->Prop) (h0:Pv 0 σ H) (hl:∀ i σ H,i <= kvs.length->Pv i σ H->H a=some (.frz o (.dT kvs)))
  (hs:∀ i k v q σ H,kvs[i]? = some (k,v)->H q=some (.tup (k.map kV))->Pv i σ H->g (.ref q) σ H fun σ2 H2=>tb { D with nx:=Pv (i + 1),ct:=Pv (i + 1),bk:=D.nx } σ2 H2) (hd:∀ σ H,Pv kvs.length σ H->D.nx σ H) :
  ∃ W:Nat->Nat->St->Hp->Prop,(∃ m,W 0 m σ H) /\ ∀ i m σ H,W i m σ H ->
   ((QQ a o kvs).stop i H /\ D.nx σ H) ∨ ((QQ a o kvs).go i H /\ ∃ N:St->Hp->Prop,(∀ σ' H',N σ' H'->∃ m',m' < m /\ W (i + 1) m' σ' H') /\ ∀ x H',(QQ a o kvs).yld i H x H'->g x σ H' fun σ2 H2=>tb { D with nx:=N,ct:=N,bk:=D.nx } σ2 H2):=by
 refine ⟨fun i m σ H=>m=kvs.length - i /\ i <= kvs.length /\ Pv i σ H,⟨kvs.length,by simp,Nat.zero_le _,h0⟩,?_⟩
 rintro i m σ H ⟨rfl,hi,p⟩
 have q:=hl i σ H hi p
 by_cases hlt:i < kvs.length
 ·refine .inr ⟨⟨q,hlt⟩,Pv (i + 1),fun σ' H' p'=>⟨kvs.length - (i + 1),by omega,rfl,hlt,p'⟩,fun x H' y=>?_⟩
  obtain ⟨e,k,v,z,hk,ex,ht⟩:=y
  subst e ex
  exact hs i k v z σ _ hk ht p
 ·have e:i=kvs.length:=by omega
  subst e
  exact .inl ⟨⟨q,Nat.le_refl _⟩,hd σ H p⟩
end L2
namespace L2
open PySem PySem.Spec PyProof.Rows
theorem Hx {Pg:Program}{w:World}{K:PySem.W.Frag}{mg mb:Str->Option Value}{CX:yZ}{k:Nat}{fa a P c:Addr}{fd:FuncData}{x:Str}{sp:Sp}{s₁ : Shared}{vs:List Value}{ns:List Int}
  (KX:K.In s₁.heap) (hns:s₁.heap.Ns mainGlobals mg) (hb:s₁.heap.Ns builtinsNs mb) (hbb:∀ x:Str,x ≠ "__name__" -> mb x=bootBuiltins x) (hlim:s₁.heap.NoLimit) (hg:s₁.gens = #[])
  (ha:s₁.heap.get? a=some { cls:=.type "list",data:=.seq vs.toArray }) (hi:IntsAre vs ns) (hl:ns.length <= sizeLine) (hr:fD k callerA)
  (hP:s₁.heap.get? P=some (PySem.W.tabObj #[])) (hC:PySem.W.CodeHd s₁.heap c P) (hB:∃ bm ob,mg "__builtins__" = some (.ref bm) /\ bm ≠ builtinsNs /\ s₁.heap.get? bm=some ob /\ ob.cls = .type "module" /\ ob.dict=some builtinsNs /\ ob.data = .plain)
  (hKP:K.lookup P=none) (hCK:∀ h,K.In h->PySem.W.CodeHd h c P)
  (F:∀ base:Heap,K.In base->base.Ns mainGlobals mg->PySem.W.CodeHd base c P->base.BuiltinsAt mg P->aV Pg w K mg base CX k fa fd [x] sp) (hbind:∀ (s:Shared) (u:Value),BindsTo s fd ⟨[u],[]⟩ [(x,u)])
  (hsp:∀ H:Hp,H P=some (.tbl #[])->bR K H a (ns.map V.int)->sp [.ref a] H (fun v _=>v = .bl true) fun _ _ _=>False)
  (hCX:∀ H e s',CX [] H s₁ (fun _ _ _=>False) e s'->False) :
  codeAny (model Pg w) callerA (.call (.ref fa) ⟨[.ref a],[]⟩) (fun r s'=>r = .ok (.ret (.bool true)) /\ OldK s₁.heap s'.heap /\ s'.os=s₁.os /\ AllBare s'.gens) s₁:=by
 have rv:=xT hi
 have lenV:=hi.length
 have haP:a ≠ P:=fun z=>by rw [z,hP] at ha; cases ha
 have core:∀ H:Hp,H P=some (.tbl #[])->(∀ b,b ≠ P->H b=none ∨ ∃ xs,b=a /\ H b=some (.frz { cls:=.type "list",data:=.seq vs.toArray } (.lst xs)))->bR K H a (ns.map V.int)->m7 Pg w H s₁.heap->(H a ≠ none->K.lookup a=none) ->
   codeAny (model Pg w) callerA (.call (.ref fa) ⟨[.ref a],[]⟩) (fun r s'=>r = .ok (.ret (.bool true)) /\ OldK s₁.heap s'.heap /\ s'.os=s₁.os /\ AllBare s'.gens) s₁:=by
  intro H hHP hO hS hok hK
  have base_of:∀ {b:Addr}{o:Obj},s₁.heap.get? b=some o->H b=none->(vU s₁.heap H).get? b=some o:=fun e n=>JN e n
  have free:∀ {b:Addr}{o:Obj},s₁.heap.get? b=some o->(∀ xs n,o.data ≠ .seq xs n)->b ≠ P->H b=none:=fun {b o} e d nP=>by
   rcases hO b nP with z | ⟨xs,z,_⟩
   ·exact z
   ·rw [z,ha] at e
    cases e
    exact absurd rfl (d _ _)
  have ndP:∀ {b:Addr}{o:Obj}{es:Array DictEntry}{ep:Nat},s₁.heap.get? b=some o->o.data = .dict es ep->b ≠ P:=fun {b o es ep} e d z=>by
   rw [z,hP] at e
   cases e
   have d':Data.fields #[]=Data.dict es ep:=d
   cases d'
  have nsK:∀ {b:Addr}{m:Str->Option Value},s₁.heap.Ns b m->(vU s₁.heap H).Ns b m:=fun {b m} ⟨o,es,ep,e,d,r⟩=>⟨o,es,ep,base_of e (free e (fun xs n z=>by rw [d] at z; cases z) (ndP e d)),d,r⟩
  have hKb:K.In (vU s₁.heap H):=fun b o e=>base_of (KX b o e) (by
   by_cases z:b=P
   ·rw [z,hKP] at e; cases e
   ·rcases hO b z with q | ⟨xs,q,r⟩
    ·exact q
    ·subst q
     rw [hK (by rw [r]; simp)] at e; cases e)
  have hM:Mod K mg (vU s₁.heap H):=⟨hKb,nsK hns,⟨mb,nsK hb,hbb⟩,let ⟨mc,h1,h2⟩:=hlim; ⟨mc,nsK h1,h2⟩⟩
  have e0:vY Pg w K mg (vU s₁.heap H) callerA [] s₁ H:=⟨rfl,hM,fun b o e=>Nb e,Nat.le_of_eq (Ij _ _),trivial,fun b hb=>absurd (show b ∈ ([]:List Addr) from hb) (by simp),hok,.of_eq hg⟩
  have hBA:(vU s₁.heap H).BuiltinsAt mg P:=by
   obtain ⟨bm,ob,b1,b2,b3,b4,b5,b6⟩:=hB
   have nP:bm ≠ P:=fun z=>by rw [z,hP] at b3; cases b3; cases b4
   have nG:bm ≠ mainGlobals:=fun z=>by
    obtain ⟨o,es,ep,e,d,_⟩:=hns
    rw [z,e] at b3
    cases b3
    rw [d] at b6
    cases b6
   exact ⟨bm,ob,b1,b2,nG,nP,base_of b3 (free b3 (fun xs n z=>by rw [b6] at z; cases z) nP),b4,b5,b6⟩
  refine codeAny_mono ((F _ hKb (nsK hns) (hCK _ hKb) hBA).run callerA [] s₁ H ⟨[.ref a],[]⟩ [.ref a] [.ref a] _ _ hr e0 (hbind s₁ (.ref a)) (.cons rfl .nil) (hsp H hHP hS)) fun r s' h=>?_
  cases r with
  | error e=>exact (hCX H e s' h).elim
  | ok fl =>
   cases fl with
   | next=>exact False.elim h
   | brk=>exact False.elim h
   | cont=>exact False.elim h
   | ret u =>
    obtain ⟨v,H',os,bare,un,hok',r',q⟩:=h
    have q':v = .bl true:=q
    subst q'
    obtain rfl:u=Value.bool true:=r'
    have keep:∀ b o,b ≠ P->s₁.heap.get? b=some o->s'.heap.get? b=some o:=fun b o nP e=>by
     rcases hO b nP with z | ⟨xs,z1,z⟩
     ·exact un.keep b o e z (by intro z; exact absurd (show b ∈ ([]:List Addr) from z) (by simp)) (by simp)
     ·obtain ⟨e1,_⟩:=hok b _ z
      obtain ⟨e2,_⟩:=hok' b _ (un.frzs b _ _ z)
      rw [e] at e1; cases e1
      exact e2
    obtain ⟨more,hm⟩:=un.tbls P #[] hHP
    have hP':s'.heap.get? P=some { cls:=.none,data:=.fields (#[] ++ more) }:=hok' P _ hm
    refine ⟨rfl,⟨fun b o e=>?_,fun b o e=>?_⟩,os,bare⟩
    ·by_cases z:b=P
     ·subst z
      rw [hP] at e
      cases e
      exact .inr (.inl ⟨(hC.tab hP).isCodeTable,rfl,#[],more,rfl,hP'⟩)
     ·exact .inl (keep b o z e)
    ·by_cases z:b=P
     ·subst z; exact ⟨_,hP'⟩
     ·exact ⟨o,keep b o z e⟩
 cases hk:K.lookup a with
 | some o =>
  have e:=KX a o hk
  rw [ha] at e
  cases e
  refine core (fun b=>if b=P then some (.tbl #[]) else none) (if_pos rfl) (fun b z=>.inl (if_neg z)) (.inr ⟨_,vs.toArray,_,hk,rfl,rfl,rfl,by rw [List.size_toArray,lenV]; exact hl,by simpa using rv⟩) (fun b u z=>?_) fun z=>absurd (if_neg haP) z
  by_cases hb:b=P
  ·have z':=(if_pos hb).symm.trans z
   cases z'
   subst hb
   exact hP
  ·have z':=(if_neg hb).symm.trans z
   cases z'
 | none =>
  refine core (fun b=>if b=P then some (.tbl #[]) else if b=a then some (.frz { cls:=.type "list",data:=.seq vs.toArray } (.lst (ns.map V.int))) else none) (if_pos rfl) (fun b z=>?_) (.inl (.inr ⟨{ cls:=.type "list",data:=.seq vs.toArray },(if_neg haP).trans (if_pos rfl)⟩)) (fun b u z=>?_) fun _=>hk
  ·by_cases hb:b=a
   ·exact .inr ⟨_,hb,(if_neg z).trans (if_pos hb)⟩
   ·exact .inl ((if_neg z).trans (if_neg hb))
  ·by_cases hb:b=P
   ·have z':=(if_pos hb).symm.trans z
    cases z'
    subst hb
    exact hP
   ·have z1:=(if_neg hb).symm.trans z
    by_cases hb2:b=a
    ·have z':=(if_pos hb2).symm.trans z1
     cases z'
     subst hb2
     exact ⟨ha,by rw [List.length_map]; exact hl,vs,_,rv,ha⟩
    ·have z':=(if_neg hb2).symm.trans z1
     cases z'
theorem LC {l:PySem.W.OpenLaw}{n k:Nat}{q:Program}{loose:List Str}{XP:(Str->Option Value)->Heap->Prop}{YP:World->Heap->Prop}{d d0:DefRec}{K:Params->PySem.W.Frag}{CX:World->yZ}{sp:World->Addr->Sp}{x x0:Str}
  (hn:l.most=some n) (hn2:n <= sizeLine) (hdf:d.params.defaults=[]) (hr:fD k callerA)
  (h0:(recsOf q).find? (fun e=>e.name == x0)=some d0)
  (hY:∀ (w:World) (h:Heap),YP w h->(K w.params).In h)
  (F:∀ (w:World) (mg:Str->Option Value) (fa:Addr) (h:Heap),(K w.params).In h->h.Ns mainGlobals mg->mg d.name=some (.ref fa) ->
   ∃ (fd:FuncData) (c P:Addr),(∀ (s:Shared) (u:Value),BindsTo s fd ⟨[u],[]⟩ [(x,u)]) /\ PySem.W.tabIn (K w.params) x0=some (c,P) /\ PySem.W.codeHdIn (K w.params) c P=true /\ (K w.params).lookup P=none ∧
    ∀ base:Heap,(K w.params).In base->base.Ns mainGlobals mg->PySem.W.CodeHd base c P->base.BuiltinsAt mg P->aV l.prog w (K w.params) mg base (CX w) k fa fd [x] (sp w P))
  (hsp:∀ (w:World) (H:Hp) (a P:Addr) (ns:List Int),ns.length <= n->H P=some (.tbl #[])->bR (K w.params) H a (ns.map V.int)->sp w P [.ref a] H (fun v _=>v = .bl true) fun _ _ _=>False)
  (hCX:∀ (w:World) (H:Hp) (s:Shared) (e:Value) (s':Shared),CX w [] H s (fun _ _ _=>False) e s'->False) :
  PySem.W.WalkO q loose XP YP l.row.toRowW d [] (fun f vs=>PySem.call f vs):=by
 refine Att.Cy hn hdf fun w s₀ s₁ mg mb fa o pm cd doc a vs ns G Y ho hd hcd hmg hobj hints hlen hg=>?_
 have KX:=hY w _ Y
 obtain ⟨fd,c,P,hb,ht,hcd,hkp,hF⟩:=F w mg fa _ KX G.T.g hmg
 obtain ⟨hC,hP⟩:=PySem.W.tab_of G.T KX h0 ht
 exact Hx KX G.T.g G.T.b G.T.builtins G.T.nolimit hg hobj hints (Nat.le_trans hlen hn2) hr hP hC G.T.bmain hkp (fun h X=>PySem.W.codeHd_of_K X hcd) hF hb (fun H hO hS=>hsp w H a P ns hlen hO hS) fun H e s'=>hCX w H s₁ e s'
end L2
namespace L2
open PySem PySem.Spec PyProof.Rows
theorem xQ {X:Cx} (hc:X.calm=true):jM X (.builtin "max") (fun xs H Q=>∃ (a:Addr) (ns:List Int),xs=[.ref a] /\ bR X.K H a (ns.map V.int) /\ ns ≠ [] /\ ∀ M,M ∈ ns->(∀ n ∈ ns,n <= M)->Q (.int M) H):=by
 intro pins s σ H xs us Q I r h
 obtain ⟨a,ns,rfl,hS,hne,q⟩:=h
 obtain ⟨u,rfl,ru⟩:=lO r
 cases (show u=Value.ref a from ru)
 obtain ⟨its,rv,p,hz⟩:=I.list hS
 have hi:=vA rv
 obtain ⟨zs,e⟩:=(IntsAre.allInts hi).items
 have hl:=p.isList
 rw [e] at hl
 have hns:ns=zs.toList.map (·.1):=by
  have n1:=nums_intItems (xs:=zs)
  rw [<- e,show its.toArray.toList=its from rfl,IntsAre.numsOf hi] at n1
  exact n1
 have hsz:0 < zs.size:=by
  rcases Nat.eq_zero_or_pos zs.size with z | z
  ·exfalso
   apply hne
   rw [hns]
   have:zs = #[]:=Array.eq_empty_of_size_eq_zero z
   rw [this]
   rfl
  ·exact z
 refine max_intList (I.ok.hd hc) hl hsz fun v h' tk hv hk=>?_
 obtain ⟨t,rfl⟩:=intItems_at hv
 obtain ⟨h1,h2⟩:=argBest_gt (numAt zs) (zs.size - 1)
 refine ⟨.int _,H,I.kept hk,⟨t,rfl⟩,q _ ?_ fun n hn=>?_⟩
 ·rw [hns,numAt_eq]; exact getD_mem (by rw [List.length_map,Array.length_toList]; omega)
 ·rw [hns] at hn
  obtain ⟨j,hj,rfl⟩:=mem_getD hn
  rw [List.length_map,Array.length_toList] at hj
  rw [<- numAt_eq]; exact h2 j (by omega)
theorem PN {P:Program}{w:World}{H:Hp}{h:Heap}{a:Addr}{kvs:List (List dB × V)} (ok:dH P w H h a (.dT kvs)) :
  (a == sysModules)=false /\ ∃ o,h.get? a=some o /\ o.ExactDict /\ ∃ es ep,o.data = .dict es ep /\ es.size=kvs.length /\ ∀ (i:Nat) k v,kvs[i]? = some (k,v)->∃ q ent,es[i]? = some ent /\ ent.key = .ref q /\ H q=some (.tup (k.map kV)):=by
 obtain ⟨z,y,xs,r,ob,es,ep,e2,ex,hd,he,nd⟩:=ok
 have hl:kvs.length=xs.length:=Paired.length r
 refine ⟨y,ob,e2,ex,es,ep,hd,?_,fun i k v hk=>?_⟩
 ·rw [<- Array.length_toList,he,List.length_map,hl]
 ·have get:∀ {l1:List (List dB × V)}{l2:List (List dB × Addr × Value)}{i:Nat}{k:List dB}{v:V},Paired (fun (p:List dB × V) (q:List dB × Addr × Value)=>p.1=q.1 /\ H q.2.1=some (.tup (p.1.map kV)) /\ bJ p.2 q.2.2) l1 l2->l1[i]? = some (k,v) ->
    ∃ q:List dB × Addr × Value,l2[i]? = some q /\ H q.2.1=some (.tup (k.map kV)):=by
   intro l1 l2 i k v r
   induction r generalizing i with
   | nil=>intro z; simp at z
   | cons h t ih =>
    intro z
    cases i with
    | zero=>simp at z; subst z; exact ⟨_,rfl,h.2.1⟩
    | succ j=>exact ih (by simpa using z)
  obtain ⟨q,hq,ht⟩:=get r hk
  refine ⟨q.2.1,entryOfKey (tupleKind (dZ P w)) q,?_,rfl,ht⟩
  rw [<- Array.getElem?_toList,he,List.getElem?_map,hq]
  rfl
theorem Hi {P:Program}{w:World}{A:Around} (hh:A.handled=none) (it d:Addr) (hne:it ≠ d) (o:Obj) (es:Array DictEntry) (ep:Nat) (hd:o.data = .dict es ep) :
  Walks P w A it [it,d] [it] es.size (fun i v=>∃ ent,es[i]? = some ent /\ ent.key=v) (fun i h=>h.IsKeyIter it d i es.size ep /\ h.get? d=some o) where
 sub:=fun b hb=>by rw [List.mem_singleton.mp hb]; exact .head _
 frame:=fun i h h' st k=>⟨st.1.at fun o e=>k it (.head _) o e,k d (.tail _ (.head _)) _ st.2⟩
 item:=fun i s Q E hi st hQ=>by
  refine yG st.1 st.2 hd (Array.getElem?_eq_getElem hi) fun h' st' sb=>?_
  exact hQ _ h' s.toks ⟨_,Array.getElem?_eq_getElem hi,rfl⟩ ⟨st',(sb.2 d (Ne.symm hne)).trans st.2⟩ fun b o hb e=>(sb.2 b (fun z=>hb (by rw [z]; exact .head _))).trans e
 done:=fun s Q E st hQ=>by
  refine DK hh st.1 st.2 hd (Nat.le_refl _) fun h' eb=>?_
  exact hQ h' s.toks fun b o hb e=>eb b o (fun z=>hb (by rw [z]; exact .head _)) e
 self:=fun i s Q E st hQ=>wpAny_pyIter_keyiter st.1 hQ
theorem J8 {P:Program}{w:World} (d:Addr) (lo:(d == sysModules)=false) (o:Obj) (ex:o.ExactDict) (es:Array DictEntry) (ep:Nat) (hd:o.data = .dict es ep) :
  PySem.W.KdlSrc P w "dict" d d es.size (fun i v=>∃ ent,es[i]? = some ent /\ ent.key=v) (fun h=>h.get? d=some o) where
 type:=fun s e=>⟨o,e,ex.1⟩
 there:=fun h e=>⟨Heap.lt_size e,Heap.lt_size e⟩
 keep:=fun h h' e k=>k d (.inl rfl) o e
 notList:=by decide
 notTuple:=by decide
 hint:=fun A E s Q e hq=>PySem.W.kdl_hint_dict ⟨o,e,ex.1⟩ hq
 iter:=fun A s hh e=>⟨_,_,(fun E Q hq=>w5 lo e ex hd hq),Hi hh _ d (Nat.ne_of_gt (Heap.lt_size e)) o es ep hd,⟨⟨_,Heap.get?_push_size _ rfl,rfl,rfl⟩,Heap.get?_push_of_some _ e⟩⟩
theorem Eg {X:Cx} (hc:X.calm=true):jM X (.type "list") (fun xs H Q=>∃ (d:Addr) (kvs:List (List dB × V)),xs=[.ref d] /\ (H d=some (.dT kvs) ∨ ∃ o,H d=some (.frz o (.dT kvs))) ∧
  ∀ (l:Addr) (qs:List Addr),H l=none->qs.length=kvs.length->(∀ (i:Nat) k v,kvs[i]? = some (k,v)->∃ q,qs[i]? = some q /\ H q=some (.tup (k.map kV)))->Q (.ref l) (aY H l (.lst (qs.map V.ref)))):=by
 intro pins s σ H xs us Q I r h
 obtain ⟨d,kvs,rfl,hD,q⟩:=h
 obtain ⟨u,rfl,ru⟩:=lO r
 cases (show u=Value.ref d from ru)
 have ok:dH X.prog X.w H s.heap d (.dT kvs):=by
  rcases hD with e | ⟨o,e⟩
  ·exact I.hok d _ e
  ·exact (I.hok d _ e).2
 have hz:kvs.length <= sizeLine:=ok.1
 obtain ⟨lo,o,e,ex,es,ep,hd,hsz,get⟩:=PN ok
 refine PySem.W.kdl_call (J8 d lo o ex es ep hd) (I.ok.hd hc) e (by rw [hsz]; exact hz) fun h' tk acc c hk hl hacc=>?_
 have key:∀ (i:Nat),i < kvs.length->∃ q,acc.toList[i]? = some (Value.ref q) /\ ∀ k v,kvs[i]? = some (k,v)->H q=some (.tup (k.map kV)):=fun i hi=>by
  have hia:i < acc.size:=by rw [hacc.1,hsz]; exact hi
  obtain ⟨ent,e1,e2⟩:=hacc.2 i _ (Array.getElem?_eq_getElem hia)
  obtain ⟨q,ent',e3,e4,e5⟩:=get i _ _ (List.getElem?_eq_getElem hi)
  rw [e1] at e3
  cases e3
  refine ⟨q,?_,fun k v ek=>?_⟩
  ·rw [Array.getElem?_toList,Array.getElem?_eq_getElem hia,<- e2,e4]
  ·rw [List.getElem?_eq_getElem hi] at ek
   have ek:=Option.some.inj ek
   have:kvs[i].1=k:=by rw [ek]
   rw [<- this]
   exact e5
 have hla:acc.toList.length=kvs.length:=by rw [Array.length_toList,hacc.1,hsz]
 have eacc:acc.toList=(acc.toList.map O9).map Value.ref:=by
  refine List.ext_getElem? fun i=>?_
  rw [List.getElem?_map,List.getElem?_map]
  by_cases hi:i < kvs.length
  ·obtain ⟨q,e1,_⟩:=key i hi
   rw [e1]
   rfl
  ·rw [List.getElem?_eq_none (by omega)]
   rfl
 refine ⟨.ref s.heap.objs.size,_,I.laid (t':=tk) hk (Nat.le_refl _) (show dH X.prog X.w _ h' _ (.lst ((acc.toList.map O9).map V.ref)) from ⟨?_,acc.toList,c,?_,?_⟩),rfl,q _ (acc.toList.map O9) (I.hok.fresh (Nat.le_refl _)) (by rw [List.length_map,hla]) fun i k v ek=>?_⟩
 ·rw [List.length_map,List.length_map,hla]; exact hz
 ·have z:=qF (acc.toList.map O9)
  rw [<- eacc] at z
  exact z
 ·rw [Array.toArray_toList]; exact hl
 ·have hi:=(List.getElem?_eq_some_iff.mp ek).1
  obtain ⟨q2,e1,e2⟩:=key i hi
  exact ⟨q2,by rw [List.getElem?_map,e1]; rfl,e2 k v ek⟩
end L2
namespace Fr
theorem DW (a b:Int):Int.gcd b (a.fmod b)=Int.gcd a b:=by
 rw [Int.fmod_def,Int.gcd_sub_mul_left_right,Int.gcd_comm]
theorem xA {a b:Int} (hb:b ≠ 0):(a.fmod b).natAbs < b.natAbs:=by
 rcases Int.lt_or_gt_of_ne hb with h | h
 ·have e:a.fmod b = -((-a).fmod (-b)):=by
   rw [Int.fmod_def,Int.fmod_def,Int.neg_fdiv_neg,Int.neg_mul]
   omega
  have h1:=Int.fmod_nonneg_of_pos (-a) (show (0:Int) < -b by omega)
  have h2:=Int.fmod_lt_of_pos (-a) (show (0:Int) < -b by omega)
  omega
 ·have h1:=Int.fmod_nonneg_of_pos a h
  have h2:=Int.fmod_lt_of_pos a h
  omega
def dv (t b:Int):Int:=if b < 0 then -(Int.gcd t b:Int) else (Int.gcd t b:Int)
def sh (t b:Int):Int × Int:=(t.fdiv (dv t b),b.fdiv (dv t b))
structure gF (t b:Int):Prop where
 pos:0 < b
 red:Int.gcd t b=1
theorem mZ (t b:Int):(dv t b).natAbs=Int.gcd t b:=by unfold dv; split <;> omega
theorem yJ {t b:Int} (hb:b ≠ 0):dv t b ≠ 0:=by
 have:=Int.gcd_pos_of_ne_zero_right t hb
 have e:=mZ t b
 omega
theorem Az (t b:Int):dv t b ∣ t:=by
 have h:=Int.gcd_dvd_left t b
 unfold dv
 split
 ·exact Int.neg_dvd.mpr h
 ·exact h
theorem Aa (t b:Int):dv t b ∣ b:=by
 have h:=Int.gcd_dvd_right t b
 unfold dv
 split
 ·exact Int.neg_dvd.mpr h
 ·exact h
theorem zP (t b:Int):(sh t b).1 * dv t b=t:=Int.fdiv_mul_cancel (Az t b)
theorem uJ (t b:Int):(sh t b).2 * dv t b=b:=Int.fdiv_mul_cancel (Aa t b)
theorem jF (t b:Int):(sh t b).1 * b=t * (sh t b).2:=by
 have h1:=zP t b
 have h2:=uJ t b
 generalize (sh t b).1=x at *
 generalize (sh t b).2=y at *
 generalize dv t b=d at *
 rw [<- h1,<- h2]
 rw [Int.mul_assoc x d y,Int.mul_comm d y]
theorem oR {t b:Int} (hb:b ≠ 0):0 < (sh t b).2:=by
 have h2:=uJ t b
 have g:=Int.gcd_pos_of_ne_zero_right t hb
 rcases Int.lt_or_gt_of_ne hb with h | h
 ·have e:dv t b < 0:=by unfold dv; rw [if_pos h]; omega
  rcases (by omega:0 < (sh t b).2 ∨ (sh t b).2 <= 0) with q | q
  ·exact q
  ·have:=Int.mul_nonneg_of_nonpos_of_nonpos q (Int.le_of_lt e)
   omega
 ·have e:0 < dv t b:=by unfold dv; rw [if_neg (by omega)]; omega
  rcases (by omega:0 < (sh t b).2 ∨ (sh t b).2 <= 0) with q | q
  ·exact q
  ·have:=Int.mul_nonpos_of_nonpos_of_nonneg q (Int.le_of_lt e)
   omega
theorem Eo {t b:Int} (hb:b ≠ 0):Int.gcd (sh t b).1 (sh t b).2=1:=by
 have h:=Int.gcd_mul_right (sh t b).1 (dv t b) (sh t b).2
 rw [zP,uJ,mZ] at h
 have g:=Int.gcd_pos_of_ne_zero_right t hb
 have:1 * Int.gcd t b=Int.gcd (sh t b).1 (sh t b).2 * Int.gcd t b:=by omega
 exact (Nat.eq_of_mul_eq_mul_right g this).symm
theorem CG {t b:Int} (hb:b ≠ 0):gF (sh t b).1 (sh t b).2:=⟨oR hb,Eo hb⟩
theorem vJ {x d z:Int} (e:x * d=z) (hd:d ≠ 0):x.natAbs <= z.natAbs:=by
 rw [<- e,Int.natAbs_mul]
 have:1 <= d.natAbs:=by omega
 calc x.natAbs=x.natAbs * 1:=by omega
  _ <= x.natAbs * d.natAbs:=Nat.mul_le_mul_left _ this
theorem zV {t b:Int} (hb:b ≠ 0):(sh t b).1.natAbs <= t.natAbs:=vJ (zP t b) (yJ hb)
theorem Ag {t b:Int} (hb:b ≠ 0):(sh t b).2.natAbs <= b.natAbs:=vJ (uJ t b) (yJ hb)
theorem Yx {a b d:Int} (g:Int.gcd a b=1) (h:b ∣ a * d):b ∣ d:=by
 have h1:=Int.natAbs_dvd_natAbs.mpr h
 rw [Int.natAbs_mul] at h1
 have h2:Nat.Coprime b.natAbs a.natAbs:=by
  show Nat.gcd b.natAbs a.natAbs=1
  rw [Nat.gcd_comm]
  exact g
 exact Int.natAbs_dvd_natAbs.mp (h2.dvd_of_dvd_mul_left h1)
theorem Du {a b c d:Int} (p:gF a b) (q:gF c d) (e:a * d=c * b):a=c /\ b=d:=by
 have pp:=p.pos
 have qp:=q.pos
 have h1:b ∣ d:=by
  have:b ∣ a * d:=⟨c,by rw [e,Int.mul_comm]⟩
  exact Yx p.red this
 have h2:d ∣ b:=by
  have:d ∣ c * b:=⟨a,by rw [<- e,Int.mul_comm]⟩
  exact Yx q.red this
 have hbd:b=d:=Int.dvd_antisymm (Int.le_of_lt pp) (Int.le_of_lt qp) h1 h2
 subst hbd
 exact ⟨Int.eq_of_mul_eq_mul_right (by omega) e,rfl⟩
end Fr
namespace Tb
structure Rw where
 t:Int
 b:Int
 w:Int
def T (B:Int) (r:Rw):Int:=r.t * (B / r.b)
def mx (x:Int):Int:=if 0 < x then x else 0
def S (B l0 l1:Int) (rs:List Rw):Int:=(rs.map fun r=>r.w * mx (T B r * l1 - l0 * B)).sum
def WT (B:Int) (rs:List Rw):Int:=(rs.map fun r=>r.w * T B r).sum
def W (rs:List Rw):Int:=(rs.map (·.w)).sum
structure CM (B:Int) (rs:List Rw):Prop where
 pos:0 < B
 dv:∀ r ∈ rs,0 < r.b /\ r.b ∣ B
theorem gB (r:Rw) (rs:List Rw):W (r :: rs)=r.w + W rs:=by simp [W]
theorem sY (B:Int) (r:Rw) (rs:List Rw):WT B (r :: rs)=r.w * T B r + WT B rs:=by simp [WT]
theorem vO (B l0 l1:Int) (r:Rw) (rs:List Rw):S B l0 l1 (r :: rs)=r.w * mx (T B r * l1 - l0 * B) + S B l0 l1 rs:=by simp [S]
theorem CQ (B l0 l1:Int) (xs ys:List Rw):S B l0 l1 (xs ++ ys)=S B l0 l1 xs + S B l0 l1 ys:=by simp [S]
theorem CJ (xs ys:List Rw):W (xs ++ ys)=W xs + W ys:=by simp [W]
theorem Yq {B b:Int} (hb:0 < b) (hB:0 < B) (h:b ∣ B):∃ c,0 < c /\ B=b * c /\ B / b=c:=by
 obtain ⟨c,e⟩:=h
 have hc:0 < c:=by
  rcases (by omega:0 < c ∨ c <= 0) with z | z
  ·exact z
  ·have:=Int.mul_nonpos_of_nonneg_of_nonpos (Int.le_of_lt hb) z
   omega
 refine ⟨c,hc,e,?_⟩
 rw [e,Int.mul_comm,Int.mul_ediv_cancel _ (by omega)]
theorem Ga {B:Int}{r:Rw} (hb:0 < r.b) (hB:0 < B) (h:r.b ∣ B):T B r * r.b=r.t * B:=by
 obtain ⟨c,hc,e,q⟩:=Yq hb hB h
 unfold T
 rw [q,e]
 grind
theorem By {c x:Int} (hc:0 < c):0 < c * x ↔ 0 < x:=by
 constructor
 ·intro h
  rcases (by omega:0 < x ∨ x <= 0) with z | z
  ·exact z
  ·have:=Int.mul_nonpos_of_nonneg_of_nonpos (Int.le_of_lt hc) z
   omega
 ·intro h
  exact Int.mul_pos hc h
theorem Il {B l0 l1:Int}{r:Rw} (hb:0 < r.b) (hB:0 < B) (h:r.b ∣ B):0 < T B r * l1 - l0 * B ↔ l0 * r.b < r.t * l1:=by
 obtain ⟨c,hc,e,q⟩:=Yq hb hB h
 have e2:T B r * l1 - l0 * B=c * (r.t * l1 - l0 * r.b):=by
  unfold T
  rw [q,e]
  grind
 rw [e2,By hc]
 omega
theorem X4 (x:Int):0 <= mx x:=by unfold mx; split <;> omega
theorem Vv (x:Int):x <= mx x:=by unfold mx; split <;> omega
theorem UJ {B l0 l1 ws tops:Int} (hw:0 < ws) (hl:0 < l1) (hc:l0 * (ws * B)=tops * l1):∀ {hi:List Rw},(∀ r ∈ hi,tops <= T B r * ws)->ws * S B l0 l1 hi=l1 * (ws * WT B hi - tops * W hi)
 | [],_=>by simp [S,WT,W]
 | r :: hi,h=>by
  have ih:=UJ hw hl hc (fun x hx=>h x (List.mem_cons_of_mem _ hx))
  have hr:=h r List.mem_cons_self
  have e:ws * (T B r * l1 - l0 * B)=l1 * (T B r * ws - tops):=by grind
  have m:mx (T B r * l1 - l0 * B)=T B r * l1 - l0 * B:=by
   unfold mx
   split
   ·rfl
   ·rename_i n
    have h1:0 <= l1 * (T B r * ws - tops):=Int.mul_nonneg (Int.le_of_lt hl) (by omega)
    rw [<- e] at h1
    rcases (by omega:T B r * l1 - l0 * B=0 ∨ T B r * l1 - l0 * B < 0) with z | z
    ·omega
    ·have:=Int.mul_neg_of_pos_of_neg hw z
     omega
  rw [vO,sY,gB,m]
  have a1:ws * (r.w * (T B r * l1 - l0 * B) + S B l0 l1 hi)=r.w * (ws * (T B r * l1 - l0 * B)) + ws * S B l0 l1 hi:=by grind
  rw [a1,e,ih]
  grind
theorem Tc {B l0 l1 ws tops:Int} (hw:0 < ws) (hl:0 < l1) (hc:l0 * (ws * B)=tops * l1):∀ {lo:List Rw},(∀ r ∈ lo,T B r * ws <= tops)->S B l0 l1 lo=0
 | [],_=>by simp [S]
 | r :: lo,h=>by
  have ih:=Tc hw hl hc (fun x hx=>h x (List.mem_cons_of_mem _ hx))
  have hr:=h r List.mem_cons_self
  have e:ws * (T B r * l1 - l0 * B)=l1 * (T B r * ws - tops):=by grind
  have m:mx (T B r * l1 - l0 * B)=0:=by
   unfold mx
   split
   ·rename_i n
    have h1:=Int.mul_pos hw n
    have h2:l1 * (T B r * ws - tops) <= 0:=Int.mul_nonpos_of_nonneg_of_nonpos (Int.le_of_lt hl) (by omega)
    omega
   ·rfl
  rw [vO,m,ih]
  simp
theorem Hz {B l0 l1 ws tops P:Int}{lo hi:List Rw} (hw:0 < ws) (hl:0 < l1) (hc:l0 * (ws * B)=tops * l1) (ew:ws=W hi) (et:tops=WT B hi - P) (h1:∀ r ∈ hi,tops <= T B r * ws) (h2:∀ r ∈ lo,T B r * ws <= tops) :
  S B l0 l1 (lo ++ hi)=P * l1:=by
 have a:=UJ hw hl hc h1
 have b:=Tc hw hl hc h2
 rw [CQ,b,Int.zero_add]
 have:ws * S B l0 l1 hi=ws * (P * l1):=by rw [a,<- ew]; grind
 exact Int.eq_of_mul_eq_mul_left (by omega) this
theorem TV (B m0 m1:Int):∀ {hi:List Rw},(∀ r ∈ hi,0 <= r.w)->m1 * WT B hi - m0 * B * W hi <= S B m0 m1 hi
 | [],_=>by simp [S,WT,W]
 | r :: hi,h=>by
  have ih:=TV B m0 m1 (fun x hx=>h x (List.mem_cons_of_mem _ hx))
  have hr:=h r List.mem_cons_self
  have g:=Int.mul_le_mul_of_nonneg_left (Vv (T B r * m1 - m0 * B)) hr
  rw [vO,sY,gB]
  have e:m1 * (r.w * T B r + WT B hi) - m0 * B * (r.w + W hi)=r.w * (T B r * m1 - m0 * B) + (m1 * WT B hi - m0 * B * W hi):=by grind
  rw [e]
  omega
theorem YB (B m0 m1:Int):∀ {lo:List Rw},(∀ r ∈ lo,0 <= r.w)->0 <= S B m0 m1 lo
 | [],_=>by simp [S]
 | r :: lo,h=>by
  have ih:=YB B m0 m1 (fun x hx=>h x (List.mem_cons_of_mem _ hx))
  have g:=Int.mul_nonneg (h r List.mem_cons_self) (X4 (T B r * m1 - m0 * B))
  rw [vO]
  omega
theorem Ex {B l0 l1 m0 m1 ws tops P:Int}{lo hi:List Rw} (hB:0 < B) (hw:0 < ws) (hl:0 < l1) (hc:l0 * (ws * B)=tops * l1) (ew:ws=W hi) (et:tops=WT B hi - P)
  (hp:∀ r ∈ lo ++ hi,0 <= r.w) (lt:m0 * l1 < l0 * m1):P * m1 < S B m0 m1 (lo ++ hi):=by
 have a:=TV B m0 m1 (hi:=hi) (fun r hr=>hp r (List.mem_append_right _ hr))
 have b:=YB B m0 m1 (lo:=lo) (fun r hr=>hp r (List.mem_append_left _ hr))
 rw [CQ]
 have q:=Int.mul_lt_mul_of_pos_left lt (Int.mul_pos hw hB)
 have e1:ws * B * (m0 * l1)=l1 * (m0 * B * ws):=by grind
 have e2:ws * B * (l0 * m1)=l1 * (m1 * tops):=by grind
 rw [e1,e2] at q
 have q2:m0 * B * ws < m1 * tops:=Int.lt_of_mul_lt_mul_left q (Int.le_of_lt hl)
 have e3:m1 * WT B hi - m0 * B * W hi=m1 * tops + P * m1 - m0 * B * ws:=by rw [<- ew]; grind
 omega
def Le (x y:Rw):Prop:=x.t * y.b <= y.t * x.b
theorem Ox {B:Int}{x y:Rw} (hB:0 < B) (hx:0 < x.b) (hy:0 < y.b) (dx:x.b ∣ B) (dy:y.b ∣ B) (h:Le x y):T B x <= T B y:=by
 have e1:=Ga hx hB dx
 have e2:=Ga hy hB dy
 have g:=Int.mul_le_mul_of_nonneg_left h (Int.le_of_lt hB)
 have k:(x.b * y.b) * T B x <= (x.b * y.b) * T B y:=by
  have a1:(x.b * y.b) * T B x=B * (x.t * y.b):=by grind
  have a2:(x.b * y.b) * T B y=B * (y.t * x.b):=by grind
  rw [a1,a2]
  exact g
 exact Int.le_of_mul_le_mul_left k (Int.mul_pos hx hy)
structure Lp (B P:Int) (rs:List Rw) (i:Nat) (tops ws:Int):Prop where
 le:i <= rs.length
 ew:ws=W (rs.drop (rs.length - i))
 et:tops=WT B (rs.drop (rs.length - i)) - P
 hi:0 < i->∀ r ∈ rs.drop (rs.length - i),tops <= T B r * ws
 z:P=0->i <= 1
theorem Lp.start {B P:Int}{rs:List Rw} (e:0 <= P):Lp B P rs 0 (-P) 0:=by
 refine ⟨Nat.zero_le _,?_,?_,fun h=>absurd h (by omega),fun _=>by omega⟩
 ·simp [W]
 ·simp [WT]
structure PX (B:Int) (rs:List Rw):Prop where
 cm:CM B rs
 w:∀ r ∈ rs,1 <= r.w
 so:rs.Pairwise Le
theorem KQ:∀ {rs:List Rw},(∀ r ∈ rs,1 <= r.w)->rs ≠ []->0 < W rs
 | [],_,h=>absurd rfl h
 | [r],h,_=>by
  have:=h r List.mem_cons_self
  simp [W]
  omega
 | r :: s :: rs,h,_=>by
  have:=h r List.mem_cons_self
  have q:=KQ (rs:=s :: rs) (fun x hx=>h x (List.mem_cons_of_mem _ hx)) (by simp)
  rw [gB]
  omega
theorem qY {rs:List Rw}{i:Nat} (h:i < rs.length):∃ r,rs[rs.length - 1 - i]? = some r /\ rs.drop (rs.length - (i + 1))=r :: rs.drop (rs.length - i) /\ r ∈ rs:=by
 have hk:rs.length - 1 - i < rs.length:=by omega
 refine ⟨rs[rs.length - 1 - i],List.getElem?_eq_getElem hk,?_,List.getElem_mem hk⟩
 have e1:rs.length - (i + 1)=rs.length - 1 - i:=by omega
 have e2:rs.length - i=rs.length - 1 - i + 1:=by omega
 rw [e1,e2]
 exact List.drop_eq_getElem_cons hk
theorem PX.mono {B:Int}{rs:List Rw} (tb:PX B rs) {x y:Rw} (hx:x ∈ rs) (hy:y ∈ rs) (h:Le x y):T B x <= T B y :=
 Ox tb.cm.pos (tb.cm.dv x hx).1 (tb.cm.dv y hy).1 (tb.cm.dv x hx).2 (tb.cm.dv y hy).2 h
theorem Lp.ws_pos {B P tops ws:Int}{rs:List Rw}{i:Nat} (tb:PX B rs) (l:Lp B P rs i tops ws) (h:0 < i):0 < ws:=by
 rw [l.ew]
 have:=l.le
 refine KQ (fun r hr=>tb.w r (List.mem_of_mem_drop hr)) ?_
 intro e
 have:=congrArg List.length e
 simp at this
 omega
theorem Lp.next {B P tops ws:Int}{rs:List Rw}{i:Nat}{r:Rw} (tb:PX B rs) (hP:0 <= P) (l:Lp B P rs i tops ws) (hi:i < rs.length) (hr:rs[rs.length - 1 - i]? = some r) (go:¬ (0 < ws /\ T B r * ws <= tops)) :
  Lp B P rs (i + 1) (tops + r.w * T B r) (ws + r.w):=by
 obtain ⟨r',e1,e2,hm⟩:=qY hi
 rw [hr] at e1
 cases e1
 have hw:=tb.w r hm
 have last:tops <= T B r * ws:=by
  by_cases h0:0 < i
  ·have:=l.ws_pos tb h0
   omega
  ·have z:i=0:=by omega
   subst z
   have a:=l.ew
   have b:=l.et
   simp [W] at a
   simp [WT] at b
   rw [a,b]
   omega
 have mine:tops + r.w * T B r <= T B r * (ws + r.w):=by
  have:T B r * (ws + r.w)=T B r * ws + r.w * T B r:=by grind
  omega
 have wp:0 < ws + r.w:=by
  by_cases h0:0 < i
  ·have:=l.ws_pos tb h0
   omega
  ·have z:i=0:=by omega
   subst z
   have a:=l.ew
   simp [W] at a
   omega
 refine ⟨hi,?_,?_,fun _ x hx=>?_,fun p0=>?_⟩
 ·rw [e2,gB,<- l.ew]; omega
 ·rw [e2,sY,l.et]; omega
 ·rw [e2] at hx
  rcases List.mem_cons.mp hx with z | z
  ·subst z; exact mine
  ·have pw:(r :: rs.drop (rs.length - i)).Pairwise Le:=by
    rw [<- e2]
    exact tb.so.sublist (List.drop_sublist _ _)
   have le:=(List.pairwise_cons.mp pw).1 x z
   have tm:=tb.mono hm (List.mem_of_mem_drop z) le
   have:=Int.mul_le_mul_of_nonneg_right tm (Int.le_of_lt wp)
   omega
 ·have k:=l.z p0
  rcases (by omega:i=0 ∨ i=1) with z | z
  ·omega
  ·exfalso
   subst z
   apply go
   have wp1:=l.ws_pos tb (by decide)
   refine ⟨wp1,?_⟩
   obtain ⟨r2,f1,f2,fm⟩:=qY (rs:=rs) (i:=0) (by omega)
   have f3:rs.drop (rs.length - 1)=[r2]:=by
    have:rs.drop (rs.length - 0)=[]:=by simp
    rw [f2,this]
   have a:=l.ew
   have b:=l.et
   rw [f3] at a b
   simp [W] at a
   simp [WT] at b
   have pw:(r :: rs.drop (rs.length - 1)).Pairwise Le:=by
    rw [<- e2]
    exact tb.so.sublist (List.drop_sublist _ _)
   have le:=(List.pairwise_cons.mp pw).1 r2 (by rw [f3]; exact List.mem_cons_self)
   have tm:=tb.mono hm fm le
   have:=Int.mul_le_mul_of_nonneg_right tm (Int.le_of_lt wp1)
   rw [b,a] at *
   have e:T B r2 * r2.w=r2.w * T B r2:=Int.mul_comm _ _
   omega
structure Lv (B P l0 l1:Int) (rs:List Rw):Prop where
 pos:0 < l1
 has:S B l0 l1 rs=P * l1
 more:∀ m0 m1:Int,m0 * l1 < l0 * m1->P * m1 < S B m0 m1 rs
theorem Lp.ends {B P tops ws l0 l1:Int}{rs:List Rw}{i:Nat} (tb:PX B rs) (l:Lp B P rs i tops ws) (h0:0 < i) (stop:i=rs.length ∨ ∃ r,rs[rs.length - 1 - i]? = some r /\ i < rs.length /\ T B r * ws <= tops)
  (hl:0 < l1) (hc:l0 * (ws * B)=tops * l1):Lv B P l0 l1 rs:=by
 have wp:=l.ws_pos tb h0
 have e:rs=rs.take (rs.length - i) ++ rs.drop (rs.length - i):=(List.take_append_drop _ _).symm
 have lo:∀ r ∈ rs.take (rs.length - i),T B r * ws <= tops:=by
  rcases stop with z | ⟨r,hr,hi,ht⟩
  ·subst z
   simp
  ·intro x hx
   obtain ⟨j,hj,ex⟩:=List.mem_iff_getElem.mp hx
   rw [List.length_take] at hj
   rw [List.getElem_take] at ex
   have hk:rs.length - 1 - i < rs.length:=by omega
   rw [List.getElem?_eq_getElem hk] at hr
   have er:=Option.some.inj hr
   have tm:T B x <= T B r:=by
    by_cases ej:j=rs.length - 1 - i
    ·subst ej
     rw [<- ex,<- er]
     exact Int.le_refl _
    ·have le:=List.pairwise_iff_getElem.mp tb.so j (rs.length - 1 - i) (by omega) hk (by omega)
     rw [ex,er] at le
     exact tb.mono (by rw [<- ex]; exact List.getElem_mem _) (by rw [<- er]; exact List.getElem_mem _) le
   have:=Int.mul_le_mul_of_nonneg_right tm (Int.le_of_lt wp)
   omega
 refine ⟨hl,?_,fun m0 m1 lt=>?_⟩
 ·rw [e]
  exact Hz wp hl hc l.ew l.et (l.hi h0) lo
 ·rw [e]
  exact Ex tb.cm.pos wp hl hc l.ew l.et (fun r hr=>by rw [<- e] at hr; have:=tb.w r hr; omega) lt
theorem Lp.zero {B tops ws:Int}{rs:List Rw}{i:Nat} (tb:PX B rs) (fr:∀ r ∈ rs,Fr.gF r.t r.b) (l:Lp B 0 rs i tops ws) (h0:0 < i):∃ r,rs[rs.length - 1]? = some r /\ (Fr.sh tops (ws * B))=(r.t,r.b):=by
 have k:=l.z rfl
 have z:i=1:=by omega
 subst z
 have hle:=l.le
 obtain ⟨r2,f1,f2,fm⟩:=qY (rs:=rs) (i:=0) (by omega)
 have f3:rs.drop (rs.length - 1)=[r2]:=by
  have:rs.drop (rs.length - 0)=[]:=by simp
  rw [f2,this]
 have a:=l.ew
 have b:=l.et
 rw [f3] at a b
 simp [W] at a
 simp [WT] at b
 have hw:=tb.w r2 fm
 have hB:=tb.cm.pos
 have hb:=(tb.cm.dv r2 fm).1
 refine ⟨r2,by simpa using f1,?_⟩
 have ne:ws * B ≠ 0:=Int.ne_of_gt (Int.mul_pos (by omega) hB)
 have cr:=Fr.jF tops (ws * B)
 have tm:=Ga hb hB (tb.cm.dv r2 fm).2
 have ok:=Fr.CG (t:=tops) ne
 have q:(Fr.sh tops (ws * B)).1 * r2.b=r2.t * (Fr.sh tops (ws * B)).2:=by
  generalize (Fr.sh tops (ws * B)).1=x at *
  generalize (Fr.sh tops (ws * B)).2=y at *
  rw [a,b] at cr
  have:(r2.w * B) * (x * r2.b)=(r2.w * B) * (r2.t * y):=by grind
  exact Int.eq_of_mul_eq_mul_left (Int.ne_of_gt (Int.mul_pos (by omega) hB)) this
 obtain ⟨u1,u2⟩:=Fr.Du ok (fr r2 fm) q
 exact Prod.ext u1 u2
end Tb
namespace Tb
def Wt (ps:List Rw) (t b:Int):Int:=(ps.map fun r=>if r.t=t /\ r.b=b then r.w else 0).sum
def sO (ps:List Rw) (t b:Int):Prop:=∃ p ∈ ps,p.t=t /\ p.b=b
def Lt (x y:Rw):Prop:=x.t * y.b < y.t * x.b
structure Bv (ps ys:List Rw):Prop where
 lt:ys.Pairwise Lt
 fr:∀ y ∈ ys,Fr.gF y.t y.b
 has:∀ t b,sO ys t b ↔ sO ps t b
 d:∃ d,0 < d /\ ∀ y ∈ ys,Wt ps y.t y.b=y.w * d
 one:∀ e:Int,(∀ y ∈ ys,e ∣ y.w)->e ∣ 1
theorem Qq (t b:Int):Wt [] t b=0:=rfl
theorem lC (r:Rw) (ps:List Rw) (t b:Int):Wt (r :: ps) t b=(if r.t=t /\ r.b=b then r.w else 0) + Wt ps t b:=by simp [Wt]
theorem yO (ps qs:List Rw) (t b:Int):Wt (ps ++ qs) t b=Wt ps t b + Wt qs t b:=by simp [Wt]
theorem lJ {ps qs:List Rw}{t b:Int}:sO (ps ++ qs) t b ↔ sO ps t b ∨ sO qs t b:=by
 constructor
 ·rintro ⟨p,hp,e⟩
  rcases List.mem_append.mp hp with z | z
  ·exact .inl ⟨p,z,e⟩
  ·exact .inr ⟨p,z,e⟩
 ·rintro (⟨p,hp,e⟩ | ⟨p,hp,e⟩)
  ·exact ⟨p,List.mem_append_left _ hp,e⟩
  ·exact ⟨p,List.mem_append_right _ hp,e⟩
theorem jJ {r:Rw}{ps:List Rw}{t b:Int}:sO (r :: ps) t b ↔ (r.t=t /\ r.b=b) ∨ sO ps t b:=by
 constructor
 ·rintro ⟨p,hp,e⟩
  rcases List.mem_cons.mp hp with z | z
  ·subst z; exact .inl e
  ·exact .inr ⟨p,z,e⟩
 ·rintro (e | ⟨p,hp,e⟩)
  ·exact ⟨r,List.mem_cons_self,e⟩
  ·exact ⟨p,List.mem_cons_of_mem _ hp,e⟩
theorem sV {t b:Int}:¬ sO [] t b:=by rintro ⟨p,hp,_⟩; cases hp
theorem FP:∀ {ps:List Rw}{t b:Int},¬ sO ps t b->Wt ps t b=0
 | [],_,_,_=>rfl
 | r :: ps,t,b,h=>by
  rw [lC,if_neg fun e=>h (jJ.mpr (.inl e)),FP fun e=>h (jJ.mpr (.inr e))]
  rfl
theorem Oh:∀ {ps:List Rw} (t b:Int),(∀ r ∈ ps,1 <= r.w)->0 <= Wt ps t b
 | [],_,_,_=>Int.le_refl 0
 | r :: ps,t,b,h=>by
  have:=Oh t b fun x hx=>h x (List.mem_cons_of_mem _ hx)
  have hr:=h r List.mem_cons_self
  rw [lC]
  split <;> omega
theorem zT:∀ {ps:List Rw}{t b:Int},(∀ r ∈ ps,1 <= r.w)->sO ps t b->1 <= Wt ps t b
 | [],_,_,_,h=>absurd h sV
 | r :: ps,t,b,h,q=>by
  have hr:=h r List.mem_cons_self
  have hn:=Oh t b fun x hx=>h x (List.mem_cons_of_mem _ hx)
  rw [lC]
  split
  ·omega
  ·rename_i ne
   rcases jJ.mp q with z | z
   ·exact absurd z ne
   ·have:=zT (fun x hx=>h x (List.mem_cons_of_mem _ hx)) z
    omega
theorem Nx:∀ {ps:List Rw} (t b:Int),(∀ r ∈ ps,1 <= r.w)->Wt ps t b <= W ps
 | [],_,_,_=>Int.le_refl 0
 | r :: ps,t,b,h=>by
  have hr:=h r List.mem_cons_self
  have:=Nx t b fun x hx=>h x (List.mem_cons_of_mem _ hx)
  rw [lC,gB]
  split <;> omega
theorem J7 {x y:Rw} (h:Lt x y) (e1:x.t=y.t) (e2:x.b=y.b):False:=by
 unfold Lt at h
 rw [e1,e2] at h
 omega
theorem Jy {t b u c m:Int} (hb:0 < b) (hc:0 < c) (bm:b <= m) (cm:c <= m) (lt:t * c < u * b):(t * (m * m)).fdiv b < (u * (m * m)).fdiv c:=by
 have hm:0 < m:=by omega
 rw [Int.fdiv_eq_ediv_of_nonneg _ (Int.le_of_lt hb),Int.fdiv_eq_ediv_of_nonneg _ (Int.le_of_lt hc)]
 have k1:(t * (m * m)) / b * b <= t * (m * m):=Int.ediv_mul_le _ (Int.ne_of_gt hb)
 have hbc:b * c <= m * m:=Int.mul_le_mul bm cm (Int.le_of_lt hc) (Int.le_of_lt hm)
 have h1:(t * c + 1) * (m * m) <= u * b * (m * m):=Int.mul_le_mul_of_nonneg_right (by omega) (Int.le_of_lt (Int.mul_pos hm hm))
 suffices h:(t * (m * m)) / b + 1 <= (u * (m * m)) / c by omega
 refine (Int.le_ediv_iff_mul_le hc).mpr ?_
 have h2:b * (((t * (m * m)) / b + 1) * c) <= b * (u * (m * m)):=by
  have e1:b * (((t * (m * m)) / b + 1) * c)=c * ((t * (m * m)) / b * b) + b * c:=by grind
  have e2:b * (u * (m * m))=u * b * (m * m):=by grind
  have e3:(t * c + 1) * (m * m)=c * (t * (m * m)) + m * m:=by grind
  have h3:=Int.mul_le_mul_of_nonneg_left k1 (Int.le_of_lt hc)
  omega
 exact Int.le_of_mul_le_mul_left h2 hb
def sE (ns:List Int):Int:=ns.foldl (fun d n=>((Int.gcd d n:Nat):Int)) 0
theorem Gw (ns:List Int) (n:Int):sE (ns ++ [n])=((Int.gcd (sE ns) n:Nat):Int):=by unfold sE; rw [List.foldl_append]; rfl
theorem vH:∀ (ns:List Int) (d:Int),(ns.foldl (fun d n=>((Int.gcd d n:Nat):Int)) d ∣ d) /\ (∀ n ∈ ns,ns.foldl (fun d n=>((Int.gcd d n:Nat):Int)) d ∣ n) /\ ∀ e:Int,e ∣ d->(∀ n ∈ ns,e ∣ n)->e ∣ ns.foldl (fun d n=>((Int.gcd d n:Nat):Int)) d
 | [],d=>⟨Int.dvd_refl d,(fun _ h=>nomatch h),fun e h _=>h⟩
 | n :: ns,d=>by
  obtain ⟨a,b,c⟩:=vH ns ((Int.gcd d n:Nat):Int)
  refine ⟨Int.dvd_trans a (Int.gcd_dvd_left d n),fun k hk=>?_,fun e he hn=>c e (Int.dvd_coe_gcd he (hn n List.mem_cons_self)) fun k hk=>hn k (List.mem_cons_of_mem _ hk)⟩
  rcases List.mem_cons.mp hk with z | z
  ·subst z; exact Int.dvd_trans a (Int.gcd_dvd_right d k)
  ·exact b k z
theorem tV {ns:List Int}{n:Int} (h:n ∈ ns):sE ns ∣ n:=(vH ns 0).2.1 n h
theorem Eh {ns:List Int}{e:Int} (h:∀ n ∈ ns,e ∣ n):e ∣ sE ns:=(vH ns 0).2.2 e (Int.dvd_zero e) h
theorem Ff:∀ (ns:List Int) (d:Int),0 <= d->0 <= ns.foldl (fun d n=>((Int.gcd d n:Nat):Int)) d
 | [],_,h=>h
 | n :: ns,d,_=>Ff ns _ (Int.natCast_nonneg _)
theorem Lg {ns:List Int}{n:Int} (h:n ∈ ns) (hn:1 <= n):0 < sE ns:=by
 have h0:0 <= sE ns:=Ff ns 0 (Int.le_refl 0)
 rcases (by omega:0 < sE ns ∨ sE ns=0) with z | z
 ·exact z
 ·have:=tV h
  rw [z] at this
  have:=Int.zero_dvd.mp this
  omega
end Tb
set_option maxHeartbeats 4000000
namespace TD
open PySem L2
open Builtin.Int (intBits)
structure cB where
 p:Addr
 q:Addr
 t:Int
 b:Int
 w:Int
def cB.r (x:cB):Tb.Rw:=⟨x.t,x.b,x.w⟩
def gM (H:Hp) (x:cB):Prop:=H x.p=some (.tup [.ref x.q,.int x.w]) /\ H x.q=some (.tup [.int x.t,.int x.b])
def gC (xs:List cB):List V:=xs.map fun x=>V.ref x.p
structure eZ (H:Hp) (a:Addr) (xs:List cB):Prop where
 lst:H a=some (.lst (gC xs))
 rows:∀ x ∈ xs,gM H x
def cM (xs:List cB):List Tb.Rw:=xs.map cB.r
theorem gM.same {H H':Hp}{x:cB} (s:aN H H') (h:gM H x):gM H' x:=⟨s _ _ h.1,s _ _ h.2⟩
theorem eZ.same {H H':Hp}{a:Addr}{xs:List cB} (s:aN H H') (h:eZ H a xs):eZ H' a xs:=⟨s _ _ h.lst,fun x hx=>(h.rows x hx).same s⟩
theorem bV (xs:List cB):(gC xs).length=xs.length:=List.length_map _
theorem dJ (xs:List cB):(cM xs).length=xs.length:=List.length_map _
theorem jA {xs:List cB}{i:Nat}{v:V} (h:(gC xs)[i]? = some v):∃ x,xs[i]? = some x /\ v = .ref x.p:=by
 unfold gC at h
 rw [List.getElem?_map] at h
 cases e:xs[i]? with
 | none=>rw [e] at h; cases h
 | some x=>rw [e] at h; cases h; exact ⟨x,rfl,rfl⟩
theorem jC (xs:List cB) (y:cB):gC (xs ++ [y])=gC xs ++ [V.ref y.p]:=by unfold gC; rw [List.map_append]; rfl
theorem jH (xs:List cB) (y:cB):cM (xs ++ [y])=cM xs ++ [y.r]:=by unfold cM; rw [List.map_append]; rfl
theorem Dq (xs ys:List cB):cM (xs ++ ys)=cM xs ++ cM ys:=by unfold cM; rw [List.map_append]
theorem bG {α : Type}{xs:List α}{i:Nat}{x:α} (h:xs[i]? = some x):xs.take (i + 1)=xs.take i ++ [x]:=by
 rw [List.take_add_one,h]
 rfl
theorem gM.over {H:Hp}{a:Addr}{xs zs:List V}{x:cB} (h:gM H x) (e:H a=some (.lst xs)):gM (aY H a (.lst zs)) x :=
 ⟨by rw [aK (bO h.1 e fun z=>nomatch z)]; exact h.1,by rw [aK (bO h.2 e fun z=>nomatch z)]; exact h.2⟩
theorem Yv:1 <= sizeLine:=Nat.le_of_lt (aX (by decide))
theorem qT:2 <= sizeLine:=Nat.le_of_lt (aX (by decide))
theorem Yt:3 <= sizeLine:=Nat.le_of_lt (aX (by decide))
theorem dX {m n:Nat}{x y:Int} (hx:intBits x <= m) (hy:intBits y <= n) (h:m + n <= 134217728):JT x y:=Nat.le_trans (Nat.add_le_add hx hy) h
theorem gD {K:PySem.W.Frag} (T:String):PySem.W.kitOne K (.type T) (.type T)=some true:=by
 unfold PySem.W.kitOne
 rw [if_pos (beq_self_eq_true _)]
theorem oY {K:PySem.W.Frag}:PySem.W.kitOne K (.type "int") (.type "bool")=some false:=by rfl
structure Rs where
 q:Addr
 t:Int
 b:Int
def lV (rs:List Rs):List V:=rs.map fun r=>V.ref r.q
def Qz (x y:Rs):Prop:=x.t * y.b < y.t * x.b
def LeR (x y:Rs):Prop:=x.t * y.b <= y.t * x.b
def jW (r:Rs):List dB:=[.inl r.t,.inl r.b]
def Q3 (H:Hp) (r:Rs):Prop:=H r.q=some (.tup [.int r.t,.int r.b])
theorem pB (rs:List Rs):(lV rs).length=rs.length:=List.length_map _
theorem N5 (rs:List Rs):lV rs=(rs.map (·.q)).map V.ref:=by unfold lV; rw [List.map_map]; rfl
theorem Cq {rs:List Rs}{i:Nat}{v:V} (h:(lV rs)[i]? = some v):∃ x,rs[i]? = some x /\ v = .ref x.q:=by
 unfold lV at h
 rw [List.getElem?_map] at h
 cases e:rs[i]? with
 | none=>rw [e] at h; cases h
 | some x=>rw [e] at h; cases h; exact ⟨x,rfl,rfl⟩
theorem sU {x:Rs}{t b:Int}:jW x=[.inl t,.inl b] ↔ x.t=t /\ x.b=b:=by
 unfold jW
 constructor
 ·intro h
  injection h with h1 h2
  injection h2 with h2 _
  injection h1 with h1
  injection h2 with h2
  exact ⟨h1,h2⟩
 ·rintro ⟨rfl,rfl⟩; rfl
theorem Yj {x y:Rs} (fx:Fr.gF x.t x.b) (fy:Fr.gF y.t y.b) (h:LeR x y) (ne:jW x ≠ jW y):Qz x y:=by
 unfold LeR at h
 unfold Qz
 rcases (by omega:x.t * y.b < y.t * x.b ∨ x.t * y.b=y.t * x.b) with z | z
 ·exact z
 ·obtain ⟨e1,e2⟩:=Fr.Du fx fy z
  exact absurd (sU.mpr ⟨e1,e2⟩) ne
structure Dk (ps:List Tb.Rw) (kvs:List (List dB × V)):Prop where
 nd:(kvs.map (·.1)).Nodup
 en:∀ kv ∈ kvs,∃ t b,kv=([.inl t,.inl b],.int (Tb.Wt ps t b)) /\ Tb.sO ps t b
 all:∀ t b,Tb.sO ps t b->([Sum.inl t,Sum.inl b]:List dB) ∈ kvs.map (·.1)
theorem Dk.nil:Dk [] []:=⟨List.nodup_nil,(fun _ h=>nomatch h),fun t b h=>absurd h Tb.sV⟩
theorem uA {kvs:List (List dB × V)}{k:List dB}{v:V} (h:lB kvs k=some v):(k,v) ∈ kvs:=by
 unfold lB at h
 cases e:kvs.find? fun kv=>decide (kv.1=k) with
 | none=>rw [e] at h; cases h
 | some kv =>
  rw [e] at h
  have h1:kv.2=v:=Option.some.inj h
  have h2:=List.find?_some e
  have h3:kv.1=k:=of_decide_eq_true h2
  rw [<- h1,<- h3]
  exact List.mem_of_find?_eq_some e
theorem Ft {t b t' b':Int} (h:([Sum.inl t,Sum.inl b]:List dB)=[.inl t',.inl b']):t=t' /\ b=b':=by
 injection h with h1 h2
 injection h2 with h2 _
 injection h1 with h1
 injection h2 with h2
 exact ⟨h1,h2⟩
theorem Dk.val {ps:List Tb.Rw}{kvs:List (List dB × V)} (d:Dk ps kvs) {t b:Int} (h:Tb.sO ps t b):lB kvs [.inl t,.inl b]=some (.int (Tb.Wt ps t b)):=by
 cases e:lB kvs [.inl t,.inl b] with
 | none=>exact absurd (d.all t b h) (Ka e)
 | some v =>
  obtain ⟨t',b',e2,_⟩:=d.en _ (uA e)
  injection e2 with e3 e4
  obtain ⟨rfl,rfl⟩:=Ft e3
  rw [e4]
theorem Dk.get {ps:List Tb.Rw}{kvs:List (List dB × V)} (d:Dk ps kvs) (t b:Int):(lB kvs [.inl t,.inl b]).getD (.int 0) = .int (Tb.Wt ps t b):=by
 by_cases h:Tb.sO ps t b
 ·rw [d.val h]; rfl
 ·cases e:lB kvs [.inl t,.inl b] with
  | none=>rw [Tb.FP h]; rfl
  | some v =>
   obtain ⟨t',b',e2,h2⟩:=d.en _ (uA e)
   injection e2 with e3 e4
   obtain ⟨rfl,rfl⟩:=Ft e3
   exact absurd h2 h
theorem J3 {kvs:List (List dB × V)}{k:List dB}{v:V}{kv:List dB × V} (h:kv ∈ mH kvs k v):kv=(k,v) ∨ (kv ∈ kvs /\ kv.1 ≠ k):=by
 unfold mH at h
 split at h
 ·obtain ⟨x,hx,e⟩:=List.mem_map.mp h
  split at e
  ·rename_i ek
   left
   rw [<- e,ek]
  ·rename_i ek
   right
   rw [<- e]
   exact ⟨hx,ek⟩
 ·rename_i na
  rcases List.mem_append.mp h with z | z
  ·right
   refine ⟨z,fun ek=>na ?_⟩
   exact List.any_eq_true.mpr ⟨kv,z,decide_eq_true ek⟩
  ·exact .inl (by simpa using z)
theorem xD {kvs:List (List dB × V)}{k:List dB}{v:V}:(mH kvs k v).map (·.1)=if (kvs.any fun kv=>decide (kv.1=k))=true then kvs.map (·.1) else kvs.map (·.1) ++ [k]:=by
 unfold mH
 split
 ·rw [List.map_map]
  refine List.map_congr_left fun x _=>?_
  show (if x.1=k then (x.1,v) else x).1=x.1
  split <;> rfl
 ·rw [List.map_append]; rfl
theorem Dk.put {ps:List Tb.Rw}{kvs:List (List dB × V)} (d:Dk ps kvs) (x:Tb.Rw):Dk (ps ++ [x]) (mH kvs [.inl x.t,.inl x.b] (.int (Tb.Wt ps x.t x.b + x.w))):=by
 have hx:∀ t b,Tb.Wt [x] t b=if x.t=t /\ x.b=b then x.w else 0:=fun t b=>by rw [Tb.lC,Tb.Qq,Int.add_zero]
 refine ⟨?_,fun kv hkv=>?_,fun t b h=>?_⟩
 ·rw [xD]
  split
  ·exact d.nd
  ·rename_i na
   refine List.nodup_append.mpr ⟨d.nd,List.nodup_cons.mpr ⟨List.not_mem_nil,List.nodup_nil⟩,fun y hy z hz=>?_⟩
   rw [List.mem_singleton.mp hz]
   rintro rfl
   obtain ⟨kv,hkv,e⟩:=List.mem_map.mp hy
   exact na (List.any_eq_true.mpr ⟨kv,hkv,decide_eq_true e⟩)
 ·rcases J3 hkv with z | ⟨z,ne⟩
  ·refine ⟨x.t,x.b,?_,Tb.lJ.mpr (.inr ⟨x,List.mem_cons_self,rfl,rfl⟩)⟩
   rw [z,Tb.yO,hx,if_pos ⟨rfl,rfl⟩]
  ·obtain ⟨t,b,e,h⟩:=d.en kv z
   refine ⟨t,b,?_,Tb.lJ.mpr (.inl h)⟩
   rw [Tb.yO,hx,if_neg ?_,Int.add_zero]
   ·exact e
   ·rintro ⟨rfl,rfl⟩
    exact ne (by rw [e])
 ·rw [xD]
  have key:([Sum.inl t,Sum.inl b]:List dB) ∈ kvs.map (·.1) ∨ ([Sum.inl t,Sum.inl b]:List dB)=[.inl x.t,.inl x.b]:=by
   rcases Tb.lJ.mp h with z | ⟨p,hp,e1,e2⟩
   ·exact .inl (d.all t b z)
   ·right
    rw [List.mem_singleton.mp hp] at e1 e2
    rw [e1,e2]
  split
  ·rename_i ya
   rcases key with z | z
   ·exact z
   ·obtain ⟨kv,hkv,e⟩:=List.any_eq_true.mp ya
    rw [z,<- of_decide_eq_true e]
    exact List.mem_map.mpr ⟨kv,hkv,rfl⟩
  ·rcases key with z | z
   ·exact List.mem_append_left _ z
   ·rw [z]; exact List.mem_append_right _ (.head _)
def wOf (kv:List dB × V):Int:=match kv.2 with | .int w=>w | _=>0
def iT (kvs:List (List dB × V)):Int:=Tb.sE (kvs.map wOf)
theorem Dk.wOf {ps:List Tb.Rw}{kvs:List (List dB × V)} (d:Dk ps kvs) {t b:Int} (h:Tb.sO ps t b):Tb.Wt ps t b ∈ kvs.map TD.wOf:=by
 have m:=uA (d.val h)
 exact List.mem_map.mpr ⟨_,m,rfl⟩
theorem Dk.ne {ps:List Tb.Rw}{kvs:List (List dB × V)} (d:Dk ps kvs) (h:ps ≠ []):kvs ≠ []:=by
 cases ps with
 | nil=>exact absurd rfl h
 | cons p ps =>
  intro e
  have:=d.all p.t p.b (Tb.jJ.mpr (.inl ⟨rfl,rfl⟩))
  rw [e] at this
  cases this
theorem Dk.div_pos {ps:List Tb.Rw}{kvs:List (List dB × V)} (d:Dk ps kvs) (h:ps ≠ []) (hw:∀ p ∈ ps,1 <= p.w):0 < iT kvs:=by
 cases ps with
 | nil=>exact absurd rfl h
 | cons p ps =>
  have hp:Tb.sO (p :: ps) p.t p.b:=Tb.jJ.mpr (.inl ⟨rfl,rfl⟩)
  exact Tb.Lg (d.wOf hp) (Tb.zT hw hp)
theorem Lz {w d:Int} (hd:0 < d) (hw:1 <= w) (h:d ∣ w):w=w.fdiv d * d /\ 1 <= w.fdiv d /\ w.fdiv d <= w:=by
 obtain ⟨c,e⟩:=h
 have ec:w.fdiv d=c:=by
  have h:=Int.mul_fdiv_cancel_left (a:=d) c (Int.ne_of_gt hd)
  rw [<- e] at h
  exact h
 rw [ec]
 have cp:0 < c:=by
  rcases (by omega:0 < c ∨ c <= 0) with z | z
  ·exact z
  ·have:=Int.mul_nonpos_of_nonneg_of_nonpos (Int.le_of_lt hd) z
   omega
 have:=Int.mul_le_mul_of_nonneg_right (show (1:Int) <= d by omega) (Int.le_of_lt cp)
 refine ⟨by rw [e,Int.mul_comm],by omega,by omega⟩
theorem Q8 {ps:List Tb.Rw}{kvs:List (List dB × V)}{rs:List Rs}{ys:List cB} (d:Dk ps kvs) (hw:∀ p ∈ ps,1 <= p.w) (hf:∀ p ∈ ps,Fr.gF p.t p.b) (hne:ps ≠ []) (pr:(rs.map jW).Perm (kvs.map (·.1))) (so:rs.Pairwise Qz)
  (ey:ys.map (fun y=>Rs.mk y.q y.t y.b)=rs) (yw:∀ y ∈ ys,y.w=(Tb.Wt ps y.t y.b).fdiv (iT kvs)):Tb.Bv ps (cM ys) /\ ∀ y ∈ ys,1 <= y.w /\ y.w <= Tb.Wt ps y.t y.b:=by
 have dp:=d.div_pos hne hw
 have yk:∀ y ∈ ys,Tb.sO ps y.t y.b:=fun y hy=>by
  have h1:jW (Rs.mk y.q y.t y.b) ∈ rs.map jW:=by
   rw [<- ey]
   exact List.mem_map.mpr ⟨_,List.mem_map.mpr ⟨y,hy,rfl⟩,rfl⟩
  obtain ⟨kv,hkv,e⟩:=List.mem_map.mp (pr.mem_iff.mp h1)
  obtain ⟨t,b,e2,h⟩:=d.en kv hkv
  rw [e2] at e
  obtain ⟨e3,e4⟩:=sU.mp e.symm
  have e3:y.t=t:=e3
  have e4:y.b=b:=e4
  rw [e3,e4]
  exact h
 have pb:∀ y ∈ ys,Tb.Wt ps y.t y.b=y.w * iT kvs /\ 1 <= y.w /\ y.w <= Tb.Wt ps y.t y.b:=fun y hy=>by
  rw [yw y hy]
  exact Lz dp (Tb.zT hw (yk y hy)) (Tb.tV (d.wOf (yk y hy)))
 have back:∀ t b,Tb.sO ps t b->∃ y ∈ ys,y.t=t /\ y.b=b:=fun t b h=>by
  obtain ⟨r,hr,e⟩:=List.mem_map.mp (pr.mem_iff.mpr (d.all t b h))
  rw [<- ey] at hr
  obtain ⟨y,hy,rfl⟩:=List.mem_map.mp hr
  exact ⟨y,hy,sU.mp e⟩
 refine ⟨⟨?_,fun y hy=>?_,fun t b=>?_,⟨iT kvs,dp,fun y hy=>?_⟩,fun e he=>?_⟩,fun y hy=>(pb y hy).2⟩
 ·have h:(ys.map fun y=>Rs.mk y.q y.t y.b).Pairwise Qz:=by rw [ey]; exact so
  unfold cM
  rw [List.pairwise_map] at h ⊢
  exact h
 ·obtain ⟨z,hz,rfl⟩:=List.mem_map.mp hy
  obtain ⟨p,hp,e1,e2⟩:=yk z hz
  have:=hf p hp
  rw [e1,e2] at this
  exact this
 ·constructor
  ·rintro ⟨y,hy,rfl,rfl⟩
   obtain ⟨z,hz,rfl⟩:=List.mem_map.mp hy
   exact yk z hz
  ·intro h
   obtain ⟨y,hy,e1,e2⟩:=back t b h
   exact ⟨y.r,List.mem_map.mpr ⟨y,hy,rfl⟩,e1,e2⟩
 ·obtain ⟨z,hz,rfl⟩:=List.mem_map.mp hy
  exact (pb z hz).1
 ·have g:e * iT kvs ∣ iT kvs:=by
   refine Tb.Eh fun n hn=>?_
   obtain ⟨kv,hkv,rfl⟩:=List.mem_map.mp hn
   obtain ⟨t,b,e2,h⟩:=d.en kv hkv
   obtain ⟨y,hy,rfl,rfl⟩:=back t b h
   have q:=(pb y hy).1
   have q2:=he y.r (List.mem_map.mpr ⟨y,hy,rfl⟩)
   rw [e2]
   show e * iT kvs ∣ Tb.Wt ps y.t y.b
   rw [q]
   exact Int.mul_dvd_mul_right _ q2
  have g2:e * iT kvs ∣ 1 * iT kvs:=by rw [Int.one_mul]; exact g
  exact Int.dvd_of_mul_dvd_mul_right (Int.ne_of_gt dp) g2
theorem HX {α β : Type}{f:α->β}:∀ {x m:List β},x.Perm m->∀ l:List α,x=l.map f->∃ l':List α,l'.Perm l /\ m=l'.map f:=by
 intro x m h
 induction h with
 | nil=>intro l e; exact ⟨l,.refl _,e⟩
 | cons a p ih =>
  intro l e
  cases l with
  | nil=>cases e
  | cons b l =>
   injection e with e1 e2
   obtain ⟨l',p',e'⟩:=ih l e2
   exact ⟨b :: l',p'.cons b,by rw [List.map_cons,<- e1,<- e']⟩
 | swap a b t =>
  intro l e
  match l,e with
  | c :: d :: l,e =>
   injection e with e1 e2
   injection e2 with e2 e3
   exact ⟨d :: c :: l,.swap ..,by rw [List.map_cons,List.map_cons,<- e1,<- e2,<- e3]⟩
 | trans p q ih1 ih2 =>
  intro l e
  obtain ⟨l1,p1,e1⟩:=ih1 l e
  obtain ⟨l2,p2,e2⟩:=ih2 l1 e1
  exact ⟨l2,p2.trans p1,e2⟩
def JW (m:Int) (r:Rs):Int:=(r.t * (m * m)).fdiv r.b
theorem Bj {β : Type} (f:Rs->β) (g:Rs->Addr):∀ rs:List Rs,(rs.map f).zip (rs.map g)=rs.map fun r=>(f r,g r)
 | []=>rfl
 | r :: rs=>by simp [Bj f g rs]
theorem Nj {m:Int}{rs:List Rs}{ps:List (Int × Addr)} (hp:ps.Perm ((rs.map (JW m)).zip (rs.map (·.q)))) (hs:ps.Pairwise fun p q=>p.1 <= q.1) (nd:(rs.map jW).Nodup) (fr:∀ r ∈ rs,Fr.gF r.t r.b) (hm:∀ r ∈ rs,r.b <= m) :
  ∃ rs':List Rs,rs'.Perm rs /\ ps.map (fun p=>V.ref p.2)=lV rs' /\ rs'.Pairwise Qz:=by
 rw [Bj] at hp
 obtain ⟨rs',p',e⟩:=HX hp.symm rs rfl
 refine ⟨rs',p',?_,?_⟩
 ·rw [e,List.map_map]; rfl
 ·have nd':(rs'.map jW).Nodup:=(p'.map jW).nodup_iff.mpr nd
  rw [e,List.pairwise_map] at hs
  have nd2:rs'.Pairwise fun x y=>jW x ≠ jW y:=List.pairwise_map.mp nd'
  refine (hs.and nd2).imp_of_mem fun {x y} hx hy h=>?_
  have fx:=fr x (p'.mem_iff.mp hx)
  have fy:=fr y (p'.mem_iff.mp hy)
  refine Yj fx fy ?_ h.2
  unfold LeR
  rcases (by omega:x.t * y.b <= y.t * x.b ∨ y.t * x.b < x.t * y.b) with z | z
  ·exact z
  ·have:=Tb.Jy fy.pos fx.pos (hm y (p'.mem_iff.mp hy)) (hm x (p'.mem_iff.mp hx)) z
   have h1:JW m x <= JW m y:=h.1
   unfold JW at h1
   omega
end TD
namespace L2
open PySem PySem.Spec PyProof.Rows
end L2
namespace TD
open PySem L2
open Builtin.Int (intBits)
def dD (m n:Int):Int:=m * (n.fdiv ((Int.gcd m n:Nat):Int))
def dG (ns:List Int):Int:=ns.foldl dD 1
theorem Ed {m n:Int} (hm:0 < m) (hn:0 < n):0 < dD m n /\ m ∣ dD m n /\ n ∣ dD m n:=by
 have hg:0 < ((Int.gcd m n:Nat):Int):=by have:=Int.gcd_pos_of_ne_zero_right m (Int.ne_of_gt hn); omega
 obtain ⟨c,hc⟩:=Int.gcd_dvd_right m n
 obtain ⟨d,hd⟩:=Int.gcd_dvd_left m n
 have e:n.fdiv ((Int.gcd m n:Nat):Int)=c:=by
  have h:=Int.mul_fdiv_cancel_left (a:=((Int.gcd m n:Nat):Int)) c (by omega)
  rw [<- hc] at h
  exact h
 have cp:0 < c:=by
  rcases (by omega:0 < c ∨ c <= 0) with z | z
  ·exact z
  ·have:=Int.mul_nonpos_of_nonneg_of_nonpos (Int.le_of_lt hg) z
   omega
 unfold dD
 rw [e]
 refine ⟨Int.mul_pos hm cp,⟨c,rfl⟩,⟨d,?_⟩⟩
 generalize ((Int.gcd m n:Nat):Int)=g at *
 rw [hc,hd]
 grind
theorem DP:∀ (ns:List Int) (m:Int),0 < m->(∀ n ∈ ns,0 < n)->0 < ns.foldl dD m /\ m ∣ ns.foldl dD m /\ ∀ n ∈ ns,n ∣ ns.foldl dD m
 | [],m,hm,_=>⟨hm,Int.dvd_refl m,fun _ h=>nomatch h⟩
 | n :: ns,m,hm,h=>by
  obtain ⟨a,b,c⟩:=Ed hm (h n List.mem_cons_self)
  obtain ⟨x,y,z⟩:=DP ns (dD m n) a fun k hk=>h k (List.mem_cons_of_mem _ hk)
  refine ⟨x,Int.dvd_trans b y,fun k hk=>?_⟩
  rcases List.mem_cons.mp hk with e | e
  ·subst e; exact Int.dvd_trans c y
  ·exact z k e
theorem tE {ns:List Int} (h:∀ n ∈ ns,0 < n):0 < dG ns /\ ∀ n ∈ ns,n ∣ dG ns:=by
 obtain ⟨a,_,c⟩:=DP ns 1 (by decide) h
 exact ⟨a,c⟩
theorem Cm:∀ (ns:List Int) (m:Int) (k:Nat),intBits m <= k->intBits (ns.foldl dD m) <= k + (ns.map intBits).sum
 | [],m,k,h=>by simpa using h
 | n :: ns,m,k,h=>by
  have h1:intBits (dD m n) <= k + intBits n:=PySem.intBits_mul_le h (PySem.intBits_fdiv_le (Nat.le_refl _))
  have:=Cm ns (dD m n) _ h1
  simp only [List.map_cons,List.sum_cons]
  show intBits (ns.foldl dD (dD m n)) <= _
  omega
theorem xZ (ns:List Int):intBits (dG ns) <= 1 + (ns.map intBits).sum:=Cm ns 1 1 (by decide)
theorem Ia (ns:List Int) (n:Int):dG (ns ++ [n])=dD (dG ns) n:=by unfold dG; rw [List.foldl_append]; rfl
theorem DR (ns:List Int) (i:Nat):((ns.take i).map intBits).sum <= (ns.map intBits).sum:=by
 have e:ns.map intBits=(ns.take i).map intBits ++ (ns.drop i).map intBits:=by rw [<- List.map_append,List.take_append_drop]
 rw [e,List.sum_append]
 omega
theorem lH {k:Nat}:∀ {l:List Nat},(∀ n ∈ l,n <= k)->l.sum <= k * l.length
 | [],_=>by simp
 | n :: l,h=>by
  have a:=lH (l:=l) fun m hm=>h m (List.mem_cons_of_mem _ hm)
  have b:=h n List.mem_cons_self
  simp only [List.sum_cons,List.length_cons]
  rw [Nat.mul_add,Nat.mul_one]
  omega
def Bf:Sp:=fun vs H Q _=>∃ a b:Int,vs=[.int a,.int b] /\ Q (.int ((Int.gcd a b:Nat):Int)) H
def sS:Sp:=fun vs H Q _=>∃ t b:Int,vs=[.int t,.int b] /\ b ≠ 0 /\ intBits b <= 9000 /\ ∀ p H',aN H H'->H' p=some (.tup [.int (Fr.sh t b).1,.int (Fr.sh t b).2])->Q (.ref p) H'
structure Sz (a b c d:Int):Prop where
 a:intBits a <= 10000
 b:intBits b <= 10000
 c:intBits c <= 10000
 d:intBits d <= 10000
def zL (K:PySem.W.Frag):Sp:=fun vs H Q _=>∃ p q a b c d,vs=[.ref p,.ref q] /\ bQ K H p [.int a,.int b] /\ bQ K H q [.int c,.int d] /\ Sz a b c d /\ Q (.bl (decide (a * d < c * b))) H
def xG:Sp:=fun vs H Q _=>∃ i:Int,vs=[.int i] /\ Q (.bl true) H
def M6 (K:PySem.W.Frag):Sp:=fun vs H Q _=>∃ (a:Addr) (ns:List Int),vs=[.ref a] /\ bR K H a (ns.map V.int) /\ (∀ n ∈ ns,0 < n) /\ (∀ n ∈ ns,intBits n <= 9000) /\ (ns.map intBits).sum <= 200000 /\ Q (.int (dG ns)) H
def bN (xs:List cB):Int:=(xs.map cB.w).sum
def NQ:Sp:=fun vs H Q _=>∃ (a:Addr) (xs:List cB),vs=[.ref a] /\ eZ H a xs /\ xs.length <= 1000 /\ ∀ H',aN H H'->Q (.int (bN xs)) H'
def lK:Str:=("rising" : Str) ++ ".<locals>." ++ "<lambda>"
def K7 (K:PySem.W.Frag) (P:Addr) (lp:Pos):Sp:=fun vs H Q _=>∃ (a:Addr) (rs:List Rs),vs=[.ref a] /\ bR K H a (lV rs) /\ rs ≠ [] /\ rs.length < 64 /\ (∀ r ∈ rs,Q3 H r /\ Fr.gF r.t r.b /\ intBits r.t <= 4000 /\ intBits r.b <= 4000) /\ (rs.map jW).Nodup /\ fG P lp lK H ∧
 ∀ (D:Addr) (H':Hp) (rs':List Rs),cH P H H'->fG P lp lK H'->H' D=some (.lst (lV rs'))->rs'.Perm rs->rs'.Pairwise Qz->Q (.ref D) H'
def Br:Int:=2 ^ 4000
def PB (xs:List cB):Prop:=∀ x ∈ xs,Fr.gF x.t x.b /\ intBits x.t <= 4000 /\ intBits x.b <= 4000 /\ 1 <= x.w /\ x.w <= Br
structure HS (ps:List Tb.Rw) (ys:List cB):Prop where
 tab:Tb.Bv ps (cM ys)
 w:∀ y ∈ ys,1 <= y.w /\ y.w <= Tb.Wt ps y.t y.b
def Eb (P:Addr) (lp:Pos):Sp:=fun vs H Q _=>∃ (a:Addr) (xs:List cB),vs=[.ref a] /\ eZ H a xs /\ xs ≠ [] /\ xs.length < 64 /\ PB xs /\ fG P lp lK H ∧
 ∀ (r:Addr) (H':Hp) (ys:List cB),cH P H H'->fG P lp lK H'->H r=none->eZ H' r ys->HS (cM xs) ys->ys.length <= xs.length->Q (.ref r) H'
theorem PB.ps {xs:List cB} (h:PB xs):(∀ p ∈ cM xs,1 <= p.w) /\ ∀ p ∈ cM xs,Fr.gF p.t p.b:=by
 refine ⟨fun p hp=>?_,fun p hp=>?_⟩ <;>
 ·obtain ⟨x,hx,rfl⟩:=List.mem_map.mp hp
  first | exact (h x hx).2.2.2.1 | exact (h x hx).1
theorem jV (xs:List cB):bN xs=Tb.W (cM xs):=by
 unfold bN Tb.W cM
 rw [List.map_map]
 rfl
theorem YX {m:Int} (hm:0 <= m):∀ {ps:List Tb.Rw},(∀ p ∈ ps,1 <= p.w /\ p.w <= m)->0 <= Tb.W ps /\ Tb.W ps <= m * (ps.length:Int)
 | [],_=>by simp [Tb.W]
 | p :: ps,h=>by
  obtain ⟨a,b⟩:=YX hm (ps:=ps) fun y hy=>h y (List.mem_cons_of_mem _ hy)
  obtain ⟨c,d⟩:=h p List.mem_cons_self
  have f:m * ((p :: ps).length:Int)=m + m * (ps.length:Int):=by rw [List.length_cons]; grind
  rw [Tb.gB]
  omega
theorem HS.key {ps:List Tb.Rw}{ys:List cB} (o:HS ps ys) {y:cB} (hy:y ∈ ys):∃ p ∈ ps,p.t=y.t /\ p.b=y.b:=(o.tab.has y.t y.b).mp ⟨y.r,List.mem_map.mpr ⟨y,hy,rfl⟩,rfl,rfl⟩
theorem HS.ne {ps:List Tb.Rw}{ys:List cB} (o:HS ps ys) (h:ps ≠ []):ys ≠ []:=by
 rintro rfl
 cases ps with
 | nil=>exact h rfl
 | cons p ps=>exact Tb.sV ((o.tab.has p.t p.b).mpr (Tb.jJ.mpr (.inl ⟨rfl,rfl⟩)))
theorem Ja {ps:List Tb.Rw}{kvs:List (List dB × V)} (d:Dk ps kvs) (hne:ps ≠ []) (hw:∀ p ∈ ps,1 <= p.w /\ p.w <= Br) (hl:ps.length <= 1000):intBits (iT kvs) <= 9000:=by
 have dp:=d.div_pos hne fun p hp=>(hw p hp).1
 cases ps with
 | nil=>exact absurd rfl hne
 | cons p ps =>
  have hp:Tb.sO (p :: ps) p.t p.b:=Tb.jJ.mpr (.inl ⟨rfl,rfl⟩)
  have w1:=Tb.zT (fun p hp=>(hw p hp).1) hp
  have w2:=Tb.Nx p.t p.b (ps:=p :: ps) fun p hp=>(hw p hp).1
  have w3:=(YX (by decide) hw).2
  have dv:=Int.le_of_dvd (by omega) (Tb.tV (d.wOf hp))
  have dv:iT kvs <= Tb.Wt (p :: ps) p.t p.b:=dv
  refine PySem.intBits_le_iff.mpr ?_
  have e:Br * (((p :: ps).length:Nat):Int) <= Br * 1000:=Int.mul_le_mul_of_nonneg_left (by omega) (by decide)
  have e2:Br * 1000 < ((2 ^ 9000:Nat):Int):=by decide +kernel
  omega
end TD
namespace Sd
structure Fq (t b N k:Int):Prop where
 fr:Fr.gF t b
 dv:b ∣ N
 lo:-(k * b) <= t
 hi:t <= k * b
theorem eU {a b c:Int} (h:a <= b) (hc:0 <= c):a * c <= b * c:=Int.mul_le_mul_of_nonneg_right h hc
theorem Fq.mono {t b N k N' k':Int} (f:Fq t b N k) (h:N ∣ N') (hk:k <= k'):Fq t b N' k':=by
 have p:=Int.le_of_lt f.fr.pos
 have e:=eU hk p
 exact ⟨f.fr,Int.dvd_trans f.dv h,by have:=f.lo; omega,by have:=f.hi; omega⟩
theorem Qa {t b u N:Int} (hb:0 < b) (e:t * N=u * b):(Fr.sh t b).2 ∣ N:=by
 have hn:b ≠ 0:=Int.ne_of_gt hb
 have cr:=Fr.jF t b
 refine Fr.Yx (a:=(Fr.sh t b).1) (Fr.Eo hn) ⟨u,?_⟩
 have h:(Fr.sh t b).1 * N * b=(Fr.sh t b).2 * u * b:=by
  have h1:(Fr.sh t b).1 * N * b=((Fr.sh t b).1 * b) * N:=by grind
  have h2:(Fr.sh t b).2 * u * b=(Fr.sh t b).2 * (u * b):=by grind
  rw [h1,h2,cr,<- e]
  grind
 exact Int.eq_of_mul_eq_mul_right hn h
theorem GJ {t b u N k:Int} (hb:0 < b) (e:t * N=u * b) (lo:-(k * b) <= t) (hi:t <= k * b):Fq (Fr.sh t b).1 (Fr.sh t b).2 N k:=by
 have hn:b ≠ 0:=Int.ne_of_gt hb
 have cr:=Fr.jF t b
 have yp:=Int.le_of_lt (Fr.oR (t:=t) hn)
 refine ⟨Fr.CG hn,Qa hb e,?_,?_⟩
 ·have h:=eU lo yp
  rw [<- cr] at h
  refine Int.le_of_mul_le_mul_right (a:=b) ?_ hb
  have:-(k * (Fr.sh t b).2) * b = -(k * b) * (Fr.sh t b).2:=by grind
  rw [this]
  exact h
 ·have h:=eU hi yp
  rw [<- cr] at h
  refine Int.le_of_mul_le_mul_right (a:=b) ?_ hb
  have:k * (Fr.sh t b).2 * b=k * b * (Fr.sh t b).2:=by grind
  rw [this]
  exact h
def pls (x y:Int × Int):Int × Int:=Fr.sh (x.1 * y.2 + y.1 * x.2) (x.2 * y.2)
def tms (x y:Int × Int):Int × Int:=Fr.sh (x.1 * y.1) (x.2 * y.2)
abbrev FQ (x:Int × Int) (N k:Int):Prop:=Fq x.1 x.2 N k
theorem FQ.pls {x y:Int × Int}{N k l:Int} (f:FQ x N k) (g:FQ y N l):FQ (pls x y) N (k + l):=by
 obtain ⟨n1,e1⟩:=f.dv
 obtain ⟨n2,e2⟩:=g.dv
 have xp:=f.fr.pos
 have yp:=g.fr.pos
 refine GJ (u:=x.1 * n1 + y.1 * n2) (Int.mul_pos xp yp) ?_ ?_ ?_
 ·have h1:(x.1 * y.2 + y.1 * x.2) * N=x.1 * y.2 * N + y.1 * x.2 * N:=by grind
  rw [h1]
  have h2:x.1 * y.2 * N=x.1 * y.2 * (x.2 * n1):=by rw [<- e1]
  have h3:y.1 * x.2 * N=y.1 * x.2 * (y.2 * n2):=by rw [<- e2]
  rw [h2,h3]
  grind
 ·have h1:=eU f.lo (Int.le_of_lt yp)
  have h2:=eU g.lo (Int.le_of_lt xp)
  have h3:-((k + l) * (x.2 * y.2)) = -(k * x.2) * y.2 + -(l * y.2) * x.2:=by grind
  rw [h3]
  omega
 ·have h1:=eU f.hi (Int.le_of_lt yp)
  have h2:=eU g.hi (Int.le_of_lt xp)
  have h3:(k + l) * (x.2 * y.2)=(k * x.2) * y.2 + (l * y.2) * x.2:=by grind
  rw [h3]
  omega
theorem FQ.tms {x y:Int × Int}{M N k:Int} (f:FQ x M 1) (h0:0 <= x.1) (g:FQ y N k) (hk:0 <= k):FQ (tms x y) (M * N) k:=by
 obtain ⟨n1,e1⟩:=f.dv
 obtain ⟨n2,e2⟩:=g.dv
 have xp:=f.fr.pos
 have yp:=g.fr.pos
 have x1:=f.hi
 have kp:0 <= k * y.2:=Int.mul_nonneg hk (Int.le_of_lt yp)
 refine GJ (u:=x.1 * n1 * (y.1 * n2)) (Int.mul_pos xp yp) ?_ ?_ ?_
 ·rw [e1,e2]
  grind
 ·have a:=Int.mul_le_mul_of_nonneg_left g.lo h0
  have b:=eU x1 kp
  have c:x.1 * -(k * y.2) = -(x.1 * (k * y.2)):=by grind
  have d:k * (x.2 * y.2)=1 * x.2 * (k * y.2):=by grind
  rw [d]
  rw [c] at a
  omega
 ·have a:=Int.mul_le_mul_of_nonneg_left g.hi h0
  have b:=eU x1 kp
  have d:k * (x.2 * y.2)=1 * x.2 * (k * y.2):=by grind
  rw [d]
  omega
inductive Sd where
 | en (v:Int)
 | st (p:Int) (rs:List (Int × Sd))
inductive Ok:Sd->Nat->Nat->Prop
 | en {v:Int}{d m:Nat} (h0:0 <= v) (h9:v <= 1000000000) (hm:1 <= m):Ok (.en v) d m
 | st {p:Int}{rs:List (Int × Sd)}{d m:Nat}{f:Int × Sd->Nat} (h0:0 <= p) (h9:p <= 1000000000) (ne:rs ≠ []) (l4:rs.length <= 4) (w:∀ r ∈ rs,1 <= r.1 /\ r.1 <= 1000) (sub:∀ r ∈ rs,Ok r.2 d (f r)) (hk:(rs.map f).sum <= m):Ok (.st p rs) (d + 1) m
def fK (rs:List (Int × Sd)):Int:=(rs.map (·.1)).sum
def fW:List Int->Int
 | []=>1
 | n :: ns=>n * fW ns
def md (L:Int):Nat->Sd->Int
 | 0,_=>1
 | _ + 1,.en _=>L
 | n + 1,.st _ rs=>fK rs * fW (rs.map fun r=>md L n r.2)
theorem m8:∀ {l:List Int},(∀ n ∈ l,0 < n)->0 < fW l
 | [],_=>by decide
 | n :: l,h=>Int.mul_pos (h n List.mem_cons_self) (m8 fun m hm=>h m (List.mem_cons_of_mem _ hm))
theorem p8:∀ {l:List Int}{n:Int},n ∈ l->n ∣ fW l
 | m :: l,n,h=>by
  rcases List.mem_cons.mp h with e | e
  ·subst e; exact ⟨_,rfl⟩
  ·exact Int.dvd_trans (p8 e) ⟨m,by show m * fW l=fW l * m; grind⟩
theorem bU (n:Nat):(0:Int) < 2 ^ n:=Int.pow_pos (by decide)
theorem DN {e:Nat}:∀ {l:List Int},(∀ n ∈ l,0 < n /\ n <= 2 ^ e)->fW l <= 2 ^ (l.length * e)
 | [],_=>by simp [fW]
 | n :: l,h=>by
  have ih:=DN (l:=l) fun m hm=>h m (List.mem_cons_of_mem _ hm)
  have hn:=h n List.mem_cons_self
  have pp:=m8 (l:=l) fun m hm=>(h m (List.mem_cons_of_mem _ hm)).1
  show n * fW l <= _
  rw [List.length_cons,Nat.succ_mul,Nat.add_comm,Int.pow_add]
  exact Int.le_trans (Int.mul_le_mul_of_nonneg_right hn.2 (Int.le_of_lt pp)) (Int.mul_le_mul_of_nonneg_left ih (Int.le_of_lt (bU e)))
theorem FZ:∀ {rs:List (Int × Sd)},(∀ r ∈ rs,1 <= r.1 /\ r.1 <= 1000)->(rs.length:Int) <= fK rs /\ fK rs <= 1000 * (rs.length:Int)
 | [],_=>by decide
 | r :: rs,h=>by
  have ih:=FZ (rs:=rs) fun x hx=>h x (List.mem_cons_of_mem _ hx)
  have hr:=h r List.mem_cons_self
  have e:fK (r :: rs)=r.1 + fK rs:=by unfold fK; rw [List.map_cons,List.sum_cons]
  rw [e,List.length_cons]
  push_cast
  omega
theorem eF {a b:Nat} (h:a <= b):(2:Int) ^ a <= 2 ^ b:=by
 obtain ⟨c,rfl⟩:=Nat.exists_eq_add_of_le h
 rw [Int.pow_add]
 have h1:(1:Int) <= 2 ^ c:=by have:=bU c; omega
 have:=Int.mul_le_mul_of_nonneg_left h1 (Int.le_of_lt (bU a))
 omega
theorem Ks {rs:List (Int × Sd)} (ne:rs ≠ []) (w:∀ r ∈ rs,1 <= r.1 /\ r.1 <= 1000) (l4:rs.length <= 4):1 <= fK rs /\ fK rs <= 4000:=by
 have:=FZ w
 have:0 < rs.length:=List.length_pos_iff.mpr ne
 omega
theorem Ok.m1 {s:Sd}{d m:Nat} (ok:Ok s d m):1 <= m:=by
 induction ok with
 | en _ _ h=>exact h
 | @st p rs d m k h0 h9 ne l4 w sub hk ih =>
  cases rs with
  | nil=>exact absurd rfl ne
  | cons r rs =>
   have h1:=ih r List.mem_cons_self
   rw [List.map_cons,List.sum_cons] at hk
   omega
theorem M5 {α : Type}{f:α->Nat}{m:Nat}:∀ {l:List α},(l.map f).sum <= m->∀ x ∈ l,f x <= m
 | y :: l,h,x,hx=>by
  rw [List.map_cons,List.sum_cons] at h
  rcases List.mem_cons.mp hx with e | e
  ·subst e; omega
  ·exact M5 (l:=l) (by omega) x e
def kB:Nat->Int
 | 0=>2147483648
 | d + 1=>1000000000 + 4 * kB d
structure Lv (l:Int × Int):Prop where
 fr:Fr.gF l.1 l.2
 b:l.2 <= 2 ^ 10
 lo:-(2147483648 * l.2) <= l.1
 hi:l.1 <= 2147483648 * l.2
theorem Lv.fq {l:Int × Int} (h:Lv l):FQ l l.2 2147483648:=⟨h.fr,Int.dvd_refl _,h.lo,h.hi⟩
theorem fr1 (v:Int):Fr.gF v 1:=⟨by decide,by simp⟩
theorem aAY {w W:Int} (h0:1 <= w) (h1:w <= W):FQ (Fr.sh w W) W 1 /\ 0 <= (Fr.sh w W).1:=by
 have Wp:0 < W:=by omega
 refine ⟨GJ (u:=w) Wp rfl (by omega) (by omega),?_⟩
 have cr:=Fr.jF w W
 have yp:=Fr.oR (t:=w) (Int.ne_of_gt Wp)
 rcases Int.lt_or_le (Fr.sh w W).1 0 with z | z
 ·exfalso
  have a:(Fr.sh w W).1 * W < 0:=Int.mul_neg_of_neg_of_pos z Wp
  have b:0 < w * (Fr.sh w W).2:=Int.mul_pos (by omega) yp
  omega
 ·exact z
theorem Ip:∀ {rs:List (Int × Sd)}{r:Int × Sd},(∀ r ∈ rs,1 <= r.1 /\ r.1 <= 1000)->r ∈ rs->r.1 <= fK rs
 | x :: rs,r,h,hr=>by
  have e:fK (x :: rs)=x.1 + fK rs:=by unfold fK; rw [List.map_cons,List.sum_cons]
  have w0:=FZ (rs:=rs) fun x hx=>h x (List.mem_cons_of_mem _ hx)
  have hx:=h x List.mem_cons_self
  rcases List.mem_cons.mp hr with z | z
  ·subst z; omega
  ·have:=Ip (fun x hx=>h x (List.mem_cons_of_mem _ hx)) z
   omega
end Sd
namespace L2
open PySem PySem.Spec PyProof.Rows
theorem Gz (bs:List Bool):(List.range bs.length).all (fun i=>bs.getD i false)=bs.all id:=by
 rw [Bool.eq_iff_iff]
 simp only [List.all_eq_true,List.mem_range]
 constructor
 ·intro h b hb
  obtain ⟨i,hi,e⟩:=List.mem_iff_getElem.mp hb
  have q:=h i hi
  rw [gJ hi,e] at q
  exact q
 ·intro h i hi
  rw [gJ hi]
  exact h _ (List.getElem_mem hi)
section
variable {X:Cx}{K:PySem.W.Frag}
theorem Qp {us:List Value}{bs:List Bool} (h:bL (bs.map V.bl) us) {i:Nat}{v:Value} (e:us[i]? = some v):v = .bool (bs.getD i false):=by
 have hl:=h.length
 rw [List.length_map] at hl
 have hi:i < us.length:=(List.getElem?_eq_some_iff.mp e).1
 have e2:(bs.map V.bl)[i]? = some (.bl (bs.getD i false)):=by
  rw [List.getElem?_map,List.getElem?_eq_getElem (by omega),gJ (by omega)]
  rfl
 obtain ⟨u,hu,r⟩:=h.get e2
 rw [e] at hu
 cases hu
 exact r
theorem xN (hK:X.K=K) (hc:X.calm=true):jM X (.builtin "all") (fun xs H Q=>∃ (a:Addr) (bs:List Bool),xs=[.ref a] /\ bR K H a (bs.map V.bl) /\ Q (.bl (bs.all id)) H):=by
 subst hK
 intro pins s σ H xs us Q I r h
 obtain ⟨a,bs,rfl,hS,q⟩:=h
 obtain ⟨u,rfl,ru⟩:=lO r
 cases (show u=Value.ref a from ru)
 obtain ⟨its,rv,pl,hz⟩:=I.list hS
 have lt:a < s.heap.objs.size:=by obtain ⟨o,e,_⟩:=pl.isList; exact Heap.lt_size e
 have hl:=rv.length
 rw [List.length_map] at hl
 refine call_all_walk (wpAny_pyIter_list pl.isList ⟨s.heap.objs.size,_,_,_,_,_,fun i=>bs.getD i false,rfl,Walks.list (A:=X.A.in1) (I.ok.hd hc) s.heap.objs.size a (Nat.ne_of_lt lt) its.toArray,⟨⟨_,Heap.get?_push_size _ rfl,rfl,rfl⟩,pl.isList.push _⟩,?_,fun h' tk hk=>?_⟩)
 ·intro i v s' Q' E' hv hQ
  have e:=Qp rv (i:=i) (v:=v) (by simpa using hv)
  rw [e]
  exact wpAny_truthy_bool hQ
 ·refine ⟨.bl (bs.all id),H,I.kept (t':=tk) fun b o e=>hk b o (fun z=>?_) (Heap.get?_push_of_some _ e),?_,q⟩
  ·rw [List.mem_singleton.mp z] at e
   exact absurd (Heap.lt_size e) (Nat.lt_irrefl _)
  ·show Value.bool _=Value.bool _
   rw [List.size_toArray,<- hl,Gz]
end
end L2
namespace L2
open PySem PySem.Spec PyProof.Rows
structure Mz (K:PySem.W.Frag) (C:Addr) (m:Str) (f:Addr):Prop where
 ga:PySem.W.specialIn K (.ref C) "__getattribute__" = some (some (.builtin "type.__getattribute__"))
 rd:PySem.W.readsIn K C (.type "type")=true
 at_:PySem.W.findCls K (.ref C) (.type "type") m=some (.val (.ref f))
 hd:PySem.W.handedIn (.ref f)=true
 kp:PySem.W.keepIn K (.ref f)=true
section
variable {X:Cx}{CX:yZ}{C f:Addr}{fd:FuncData}{k:Nat}{x m:Str}{ps:List Str}{ds:List Value}{dvs:List V}{sp:Sp}{E:XK}{e:Expr}{es:List Expr}{t:TA}{p apos pos:Pos}
theorem Gp {pl:Sem Bool} (hg:Gl X x) (hm:X.mg x=some (.ref C)) (c:Mz X.K C m f) (F:aV X.prog X.w X.K X.mg X.base CX k f fd ps sp) (hr:fD k X.A) (hb:bI X.K fd ps ds) (hd:bL dvs ds) (hx:jE CX X E) (ha:PA X (e :: es) t)
  (hdb:(x == ("__debug__" : Str))=false:=by decide)
  (hst:starEach (e :: es) X.env=(false,eval e X.env) :: starEach es X.env:=by rfl) (hpl:(backTo pos (starEach es X.env)).any (·.1)=false:=by rfl)
  (ht:eval (.Call (.Attribute (.Name x p) m apos) (e :: es) [] pos) X.env=(do
   let ov <- eval (.Name x p) X.env
   standAt apos.atName
   let (f,first) <- holding [ov] (getMethod ov m pl)
   callWith pos f first (backTo pos (starEach (e :: es) X.env)) (backToKw pos (keywordEach [] X.env))):=by rfl) :
  PE X (.Call (.Attribute (.Name x p) m apos) (e :: es) [] pos) (Am sp dvs E t):=by
 intro pins s σ H Q I h
 refine PySem.W.methodCall_KW (pl:=pl) (pM I hg hm ?_ hdb) ht
 refine PySem.W.method_cls I.kIn c.ga (PySem.W.cls_value I.kIn c.rd c.at_ c.hd ?_)
 have I2:=I.tok (s.toks + 1)
 refine PySem.W.callWith_K (first:=[]) (h₀:=X.base) I.ok.mod.kin c.kp (dU (ha pos pins _ σ H _ I2 h) fun us s1 ⟨vs,H1,I1,r,q⟩=>⟨I1.kIn,?_⟩) hst hpl
 exact Ac F hr hb hd hx I1 r q
theorem jD {e:Expr}{t u:TE} (h1:PE X e t) (h2:PE X e u):PE X e (fun σ H Q=>t σ H Q ∨ u σ H Q):=fun pins s σ H Q I h=>h.elim (h1 pins s σ H Q I) (h2 pins s σ H Q I)
theorem pA {K:PySem.W.Frag} (hK:X.K=K):jM X (.builtin "isinstance") (fun xs H Q=>∃ (x:V) (C:Addr) (t:Value) (b:Bool),xs=[x,.ref C] /\ gP K H x t /\ PySem.W.kitOne K t (.ref C)=some b /\ Q (.bl b) H):=by
 subst hK
 intro pins s σ H xs us Q I r h
 obtain ⟨x,C,t,b,rfl,ty,e,q⟩:=h
 obtain ⟨u,w',rfl,rx,rt⟩:=KD r
 cases (show w'=Value.ref C from rt)
 exact wU I rx ty e fun tk=>⟨.bl b,H,I.tok _,rfl,q⟩
end
end L2
namespace L2
open PySem PySem.Spec PyProof.Rows
def nF (P:Program) (w:World):yZ:=fun outer H s E e s' =>
 ∃ (a:Addr) (cls a0:Value) (H':Hp) (B:Heap),e = .ref a /\ s'.os=s.os /\ AllBare s'.gens /\ Un (qX outer) [] H H' s.heap s'.heap /\ m7 P w H' s'.heap /\ Heap.FlyingW B outer a cls a0 s'.heap ∧
  (∀ b o,s.heap.get? b=some o->b ∉ qX outer->∃ o',B.get? b=some o') /\ (∀ b u,H' b=some u->∃ o',B.get? b=some o') /\ E cls none H'
section
variable {P:Program}{w:World}{H H':Hp}{B h0 h1 h2:Heap}{fs:List Addr}
theorem Gf (b1:B.StaysIn h1) (b2:B.StaysIn h2) {b:Addr}{o:Obj} (q:h1.get? b=some o) (x:∃ o',B.get? b=some o'):h2.get? b=some o:=by
 obtain ⟨o',e⟩:=x
 have:=b1 b o' e
 rw [q] at this
 cases this
 exact b2 b _ e
theorem JP (u:Un fs [] H H' h0 h1) (b1:B.StaysIn h1) (b2:B.StaysIn h2) (up:h1.UpToSlots h2) (nf:∀ b ∈ fs,∃ o,h1.get? b=some o /\ ∀ vs,o.data ≠ .fields vs)
  (hB:∀ b o,h0.get? b=some o->b ∉ fs->∃ o',B.get? b=some o'):Un fs [] H H' h0 h2:=by
 refine ⟨fun b o q n hb hx=>Gf b1 b2 (u.keep b o q n hb hx) (hB b o q hb),fun b o q n hb hx=>?_,u.free,fun b o q hx=>?_,u.tups,u.frzs,u.tbls⟩
 ·obtain ⟨sl,e⟩:=u.slot b o q n hb hx
  obtain ⟨o1,e1,d1⟩:=nf b hb
  rw [e] at e1
  cases e1
  obtain ⟨sl2,e2⟩:=up b _ e d1
  exact ⟨sl2,e2⟩
 ·by_cases hb:b ∈ fs
  ·obtain ⟨o1,e1,d1⟩:=nf b hb
   obtain ⟨sl2,e2⟩:=up b _ e1 d1
   exact ⟨_,e2⟩
  ·obtain ⟨o1,e1⟩:=hB b o q hb
   exact ⟨_,b2 b _ e1⟩
theorem Fx (x:m7 P w H h1) (b1:B.StaysIn h1) (b2:B.StaysIn h2) (hH:∀ b u,H b=some u->∃ o',B.get? b=some o'):m7 P w H h2:=fun a o e =>
 (x a o e).stay (fun b u hb q=>Gf b1 b2 q (by
  rcases hb with rfl | hb
  ·exact hH _ _ e
  ·exact hH _ _ hb)) (fun _ q=>q) fun _ _ q=>q
end
theorem Jm {P:Program}{w:World}{H:Hp}{h:Heap}{b:Addr}{u:HO} (x:dH P w H h b u) (z:h.get? b=none):False:=by
 cases u with
 | lst xs=>obtain ⟨_,_,_,_,e⟩:=x; rw [z] at e; cases e
 | tup xs=>obtain ⟨_,_,_,_,e,_⟩:=x; rw [z] at e; cases e
 | dK kvs=>obtain ⟨_,_,_,_,o,_,_,e,_⟩:=x; rw [z] at e; cases e
 | dT kvs=>obtain ⟨_,_,_,_,o,_,_,e,_⟩:=x; rw [z] at e; cases e
 | set S n=>obtain ⟨o,_,_,_,e,_⟩:=x; rw [z] at e; cases e
 | ins C dx fs=>obtain ⟨_,_,_,e,_⟩:=x; rw [z] at e; cases e
 | own y=>obtain ⟨_,e⟩:=x; rw [z] at e; cases e
 | xd fs=>obtain ⟨_,⟨_,_,_,e,_⟩,_⟩:=x; rw [z] at e; cases e
 | rng lo hi=>obtain ⟨_,_,_,e⟩:=x; rw [z] at e; cases e
 | frz ob v=>obtain ⟨e,_⟩:=x; rw [z] at e; cases e
 | tbl ps=>have e:=(show h.get? b=some _ from x); rw [z] at e; cases e
 | met f y=>have e:=(show h.get? b=some _ from x); rw [z] at e; cases e
 | ext φ=>obtain ⟨_,⟨_,e⟩,_⟩:=x; rw [z] at e; cases e
theorem GX {env:Env}{outer:List Env}{L b:Addr} (hf:env.frame=some L):b ∈ qX (env :: outer) ↔ b=L ∨ b ∈ qX outer:=by
 unfold qX
 rw [List.filterMap_cons,hf]
 exact List.mem_cons
structure rO (K:PySem.W.Frag) (C:Addr):Prop where
 isx:PySem.W.excIn K C ([.type "ValueError",.type "Exception",.type "BaseException",.type "object"]) "ValueError.__new__" = true
section
variable {X:Cx}
def Iz (X:Cx) (E:XK):Prop:=∀ (pins:List (Addr × Obj)) (σ : St) (H:Hp) (s:Shared) (h':Heap) (e:Addr) (cls:Value) (args:List Value),aZ X pins σ H s->Heap.MadeExcOf s.heap h' e cls args->E cls none H ->
 X.xe (.ref e) { s with heap:=h' }
end
section
variable {P:Program}{w:World}{K:PySem.W.Frag}{mg:Str->Option Value}{base:Heap}{N:List Str}{qual:Str}{scope:Scope}{f:Addr}{cd:Value}{A:Around}{outer:List Env}{s:Shared}{H:Hp}{E:XK}
theorem gH:Iz (tU (nF P w) P w K mg base N qual scope f cd A outer s H E) E:=by
 intro pins σ H1 s1 h' e cls args I mk hE
 have hfr:=I.ok.frames
 have hst:=I.stack
 have nsz:∀ b o,s.heap.get? b=some o->b ≠ s.heap.objs.size:=fun b o q z=>absurd (Heap.lt_size q) (by rw [z]; exact Nat.lt_irrefl _)
 have hide:∀ b o,s1.heap.get? b=some o->b ∉ qX (envOfC qual scope s.heap.objs.size f cd :: outer)->(PySem.W.hideAll s1.heap (qX (envOfC qual scope s.heap.objs.size f cd :: outer))).get? b=some o:=fun b o q hb=>PySem.W.hideAll_get _ q hb
 have inS:∀ b o,s.heap.get? b=some o->b ∉ qX outer->∃ o',(PySem.W.hideAll s1.heap (qX (envOfC qual scope s.heap.objs.size f cd :: outer))).get? b=some o':=fun b o q hb=>by
  obtain ⟨o',e'⟩:=I.base.there b o q (by show b ∉ ([]:List Addr); simp)
  exact ⟨o',hide b o' e' fun z=>((GX rfl).mp z).elim (nsz b o q) hb⟩
 have inH:∀ b u,H1 b=some u->∃ o',(PySem.W.hideAll s1.heap (qX (envOfC qual scope s.heap.objs.size f cd :: outer))).get? b=some o':=fun b u q=>by
  have lt:=I.hok.lt q
  obtain ⟨o',e'⟩ : ∃ o',s1.heap.get? b=some o':=by
   have:=I.hok b u q
   cases z:s1.heap.get? b with
   | some o'=>exact ⟨o',rfl⟩
   | none=>exact (Jm this z).elim
  refine ⟨o',hide b o' e' fun z=>?_⟩
  have:=I.stkFree b z
  rw [q] at this
  cases this
 show wpAny (model P w) (A.deeper (envOfC qual scope s.heap.objs.size f cd)) (leaving (envOfC qual scope s.heap.objs.size f cd) (.ref e)) _ _ _
 refine wpAny_leaves_madeW (h:=s1.heap) (base:=PySem.W.hideAll s1.heap (qX (envOfC qual scope s.heap.objs.size f cd :: outer))) hfr rfl (fun b o q=>PySem.W.of_hideAll _ q)
  (PySem.W.funFrames_hide hst fun env he b hb=>List.mem_filterMap.mpr ⟨env,he,hb⟩) mk fun h'' t fl _ _ up=>?_
 have b1:Heap.StaysIn (PySem.W.hideAll s1.heap (qX (envOfC qual scope s.heap.objs.size f cd :: outer))) h':=fun b o q=>mk.keeps _ _ (PySem.W.of_hideAll _ q)
 refine ⟨e,cls,.ref t,H1,_,rfl,I.os,I.bare,?_,Fx (I.hok.kept mk.keeps) b1 fl.1 inH,fl,inS,inH,hE⟩
 have u1:Un (qX outer) [] H H1 s.heap h':=Un.trans (show Un (qX outer) [] H H1 s.heap s1.heap from I.base) (Un.kept mk.keeps)
 refine JP u1 b1 fl.1 up (fun b hb=>?_) inS
 obtain ⟨_,o,ho,hd⟩:=I.funs.mem hb
 exact ⟨o,mk.keeps _ _ ho,hd⟩
theorem gU:jE (nF P w) (tU (nF P w) P w K mg base N qual scope f cd A outer s H E) E:=by
 rintro pins σ H1 s1 e s' I ⟨a,cls,a0,H',B,rfl,hos,hg,un,hok,fl,inB,inH,hE⟩
 have nsz:∀ b o,s.heap.get? b=some o->b ≠ s.heap.objs.size:=fun b o q z=>absurd (Heap.lt_size q) (by rw [z]; exact Nat.lt_irrefl _)
 have J:=I.call' (s':=s') (H':=H') (ch:=[]) hos un hok hg (fun b z=>absurd z (by simp))
 have inS:∀ b o,s.heap.get? b=some o->b ∉ qX outer->∃ o',B.get? b=some o':=fun b o q hb=>by
  obtain ⟨o',e'⟩:=I.base.there b o q (by show b ∉ ([]:List Addr); simp)
  exact inB b o' e' fun z=>((GX rfl).mp z).elim (nsz b o q) hb
 show wpAny (model P w) (A.deeper (envOfC qual scope s.heap.objs.size f cd)) (leaving (envOfC qual scope s.heap.objs.size f cd) (.ref a)) _ _ _
 refine wpAny_leaves_onW I.ok.frames rfl fl fun h'' fl' up=>?_
 refine ⟨a,cls,a0,H',B,rfl,J.os,hg,?_,Fx hok fl.1 fl'.1 inH,fl',inS,inH,hE⟩
 refine JP (show Un (qX outer) [] H H' s.heap s'.heap from J.base) fl.1 fl'.1 up (fun b hb=>?_) inS
 obtain ⟨_,o,ho,hd⟩:=fl.2.2.1.mem (List.mem_filterMap.mpr (by
  obtain ⟨env,he,z⟩:=List.mem_filterMap.mp hb
  exact ⟨env,List.mem_cons_of_mem _ he,z⟩))
 exact ⟨o,ho,hd⟩
end
end L2
namespace L2
open PySem PySem.Spec PySem.Calls PyProof.Rows PySem.W Builtin Builtin.ObjectAttr Builtin.Getset_descriptor
def IsX (a:Addr) (cls:Value) (h:Heap):Prop:=∃ o,h.get? a=some o /\ o.cls=cls
theorem IsX.ty {a:Addr}{cls:Value}{h:Heap}{M:Model} (x:IsX a cls h):Looks M h (typeOf (.ref a)) cls:=by
 obtain ⟨o,e,rfl⟩:=x
 exact (Looks.ld e).andThen .now
structure XTy (K:Frag) (D:Addr):Prop where
 ga:findIn K (.ref D) "__getattribute__" = some (some (.builtin "BaseException.__getattribute__"))
 gt:findIn K (.ref D) "__getattr__" = some none
 mb:mroIn K D (.type "BaseException")=some true
 cl:(clsIn K D).isSome=true
 fi:findIn K (.ref D) "__class__" = some (some (.builtin "object.__class__"))
 sp:specialIn K (.builtin "object.__class__") "__get__" = some (some (.builtin "getset_descriptor.__get__"))
 tk:takesIn K (.builtin "object.__class__")=some true
 mr:mroIn K D (.type "object")=some true
section
variable {prog:Program}{w:World}{A:Around}{E:Value->Shared->Prop}{s:Shared}{K:Frag}{a D:Addr}
end
section
variable {X:Cx}
end
end L2
namespace L2
open PySem PySem.Spec PySem.W PyProof.Rows
section
variable {X:Cx}
end
end L2
namespace L2
open PySem PySem.Spec PyProof.Rows
section
variable {X:Cx}
end
end L2
namespace L2
open PySem PySem.Spec PyProof.Rows
section
variable {X:Cx}{tg:Expr}
end
end L2
namespace PySem
namespace F
end F
end PySem
namespace L2
open PySem PySem.Spec PyProof.Rows
section
variable {X:Cx}
end
end L2
namespace L2
open PySem PySem.Spec PyProof.Rows
theorem uN {K:PySem.W.Frag}{a:Addr}{xs:List V}{k:Nat}{g:TG}{c:TT}{te:TE}{σ : St}{H1:Hp}{D:Addr}{Q:VK} (Pv:Nat->St->Hp->Prop) (h0:Pv 0 (List.replicate k none ++ σ) (aY H1 D (.lst [])))
  (hl:∀ i τ H,i <= xs.length->Pv i τ H->bQ K H a xs)
  (hs:∀ i m x τ H,m=xs.length - i->i < xs.length->xs[i]? = some x->Pv i τ H->g x τ H fun τ2 H2=>c τ2 H2 fun b H3=>if b=true then te τ2 H3 fun y H4=>∃ ys m',m' < m /\ H4 D=some (.lst ys) /\ ys.length < sizeLine /\ CW xs.length Pv (i + 1) m' τ2 (aY H4 D (.lst (ys ++ [y]))) else ∃ m',m' < m /\ CW xs.length Pv (i + 1) m' τ2 H3)
  (hd:∀ τ H,Pv xs.length τ H->Q (.ref D) H):Bt k (Itt K a) g c te σ H1 D Q:=by
 refine ⟨CW xs.length Pv,⟨xs.length,rfl,Nat.zero_le _,h0⟩,?_⟩
 rintro i m τ H ⟨hm,hi,p⟩
 have q:=hl i τ H hi p
 by_cases hlt:i < xs.length
 ·refine .inr ⟨⟨xs,xs[i],q,by simp [hlt]⟩,fun x H' y=>?_⟩
  obtain ⟨e,y⟩:=y
  subst e
  exact hs i m x τ _ hm hlt (y xs q) p
 ·have e:i=xs.length:=by omega
  subst e
  exact .inl ⟨⟨xs,q,Nat.le_refl _⟩,hd τ H p⟩
theorem Dw {i:Nat}{v:V}{τ : St}{H:Hp}{A B:St->Hp->Prop} (h:A (τ.set i (some v)) H):uB i v τ H (fun τ2 H2=>Q5 τ2 H2 (fun b H3=>if b=true then A τ2 H3 else B τ2 H3)):=eO (τ:=τ.set i (some v)) (A:=A (τ.set i (some v))) (B:=B (τ.set i (some v))) h
theorem Nh {K:PySem.W.Frag}{a:Addr}{xs:List V}{g:TG}{tb:TS}{D:rJ}{σ : St}{H:Hp} (Pv:Nat->St->Hp->Prop) (h0:Pv 0 σ H) (hl:∀ i σ H,i <= xs.length->Pv i σ H->bR K H a xs)
  (hs:∀ i x σ H,i < xs.length->xs[xs.length - 1 - i]? = some x->Pv i σ H->g x σ H fun σ2 H2=>tb { D with nx:=Pv (i + 1),ct:=Pv (i + 1),bk:=D.nx } σ2 H2) (hd:∀ σ H,Pv xs.length σ H->D.nx σ H) :
  ∃ W:Nat->Nat->St->Hp->Prop,(∃ m,W 0 m σ H) /\ ∀ i m σ H,W i m σ H ->
   ((Ux K a xs).stop i H /\ D.nx σ H) ∨ ((Ux K a xs).go i H /\ ∃ N:St->Hp->Prop,(∀ σ' H',N σ' H'->∃ m',m' < m /\ W (i + 1) m' σ' H') /\ ∀ x H',(Ux K a xs).yld i H x H'->g x σ H' fun σ2 H2=>tb { D with nx:=N,ct:=N,bk:=D.nx } σ2 H2):=by
 refine ⟨fun i m σ H=>m=xs.length - i /\ i <= xs.length /\ Pv i σ H,⟨xs.length,by simp,Nat.zero_le _,h0⟩,?_⟩
 rintro i m σ H ⟨rfl,hi,p⟩
 have q:=hl i σ H hi p
 by_cases hlt:i < xs.length
 ·refine .inr ⟨⟨hlt,q⟩,Pv (i + 1),fun σ' H' p'=>⟨xs.length - (i + 1),by omega,rfl,hlt,p'⟩,fun x H' y=>?_⟩
  obtain ⟨e,y⟩:=y
  subst e
  exact hs i x σ _ hlt y p
 ·have e:i=xs.length:=by omega
  subst e
  exact .inl ⟨Nat.le_refl _,hd σ H p⟩
end L2
namespace TD
open PySem L2
open Builtin.Int (intBits)
abbrev Tq (H:Hp) (p:Addr) (x:Int × Int):Prop:=H p=some (.tup [.int x.1,.int x.2])
structure Z4 (x:Int × Int):Prop where
 t:intBits x.1 <= 4400
 b:intBits x.2 <= 4400
 p:0 < x.2
abbrev Is (ns:List Int):List V:=ns.map V.int
theorem xR (ns:List Int):(Is ns).length=ns.length:=List.length_map _
theorem Gk (xs:List Int) (y:Int):Is (xs ++ [y])=Is xs ++ [V.int y]:=by show (xs ++ [y]).map V.int=_; rw [List.map_append]; rfl
def Ms:Sp:=fun vs H Q _=>∃ i:Int,vs=[.int i] /\ ∀ p H',aN H H'->Tq H' p (i,1)->Q (.ref p) H'
def PK (K:PySem.W.Frag):Sp:=fun vs H Q _=>∃ p q a b c d,vs=[.ref p,.ref q] /\ bQ K H p [.int a,.int b] /\ bQ K H q [.int c,.int d] /\ Sz a b c d /\ (c * b < a * d->Q (.ref q) H) /\ (¬ c * b < a * d->Q (.ref p) H)
theorem iZ {x:Int}{k:Nat} (h0:-(2 ^ k) < x) (h1:x < 2 ^ k):intBits x <= k:=by
 refine PySem.intBits_le_iff.mpr ?_
 have e:((2 ^ k:Nat):Int)=2 ^ k:=by push_cast; rfl
 omega
theorem pL {t b N k:Int}{n j:Nat} (f:Sd.Fq t b N k) (hN:0 < N) (hn:N <= 2 ^ n) (k0:0 <= k) (hj:k <= 2 ^ j):intBits b <= n + 1 /\ intBits t <= n + j + 1:=by
 have bp:=f.fr.pos
 have bl:=Int.le_of_dvd hN f.dv
 have e1:b <= 2 ^ n:=Int.le_trans bl hn
 have e2:k * b <= 2 ^ j * 2 ^ n:=Int.le_trans (Int.mul_le_mul_of_nonneg_right hj (Int.le_of_lt bp)) (Int.mul_le_mul_of_nonneg_left e1 (Int.le_of_lt (Sd.bU j)))
 rw [<- Int.pow_add,Nat.add_comm] at e2
 have p1:(2:Int) ^ (n + 1)=2 * 2 ^ n:=by rw [Int.pow_succ]; omega
 have p2:(2:Int) ^ (n + j + 1)=2 * 2 ^ (n + j):=by rw [Int.pow_succ]; omega
 have q1:=Sd.bU n
 have q2:=Sd.bU (n + j)
 have l:=f.lo
 have h:=f.hi
 exact ⟨iZ (by omega) (by omega),iZ (by omega) (by omega)⟩
structure GT (xs:List cB) (n:Nat) (W M k:Int):Prop where
 ne:xs ≠ []
 len:xs.length <= n
 w1:∀ x ∈ xs,1 <= x.w
 ws:bN xs <= W
 mp:0 < M
 fq:∀ x ∈ xs,Sd.Fq x.t x.b M k
structure Cp (n:Nat) (W M k:Int):Prop where
 n:n <= 12
 w:W <= 2 ^ 600
 m:M <= 2 ^ 1600
 k0:0 <= k
 k:k <= 2 ^ 1600
theorem j5 {xs:List cB} (w1:∀ x ∈ xs,1 <= x.w):∀ {x:cB},x ∈ xs->x.w <= bN xs:=by
 induction xs with
 | nil=>intro x h; cases h
 | cons y ys ih =>
  intro x hx
  have e:bN (y :: ys)=y.w + bN ys:=by unfold bN; rw [List.map_cons,List.sum_cons]
  have y1:=w1 y List.mem_cons_self
  have n0:0 <= bN ys:=by
   clear ih hx
   induction ys with
   | nil=>exact Int.le_refl _
   | cons z zs ih =>
    have e:bN (z :: zs)=z.w + bN zs:=by unfold bN; rw [List.map_cons,List.sum_cons]
    have z1:=w1 z (List.mem_cons_of_mem _ List.mem_cons_self)
    have:=ih (fun x hx=>by
     rcases List.mem_cons.mp hx with h | h
     ·subst h; exact y1
     ·exact w1 x (List.mem_cons_of_mem _ (List.mem_cons_of_mem _ h))) (by unfold bN; rw [List.map_cons,List.sum_cons])
    omega
  rcases List.mem_cons.mp hx with h | h
  ·subst h; omega
  ·have:=ih (fun x hx=>w1 x (List.mem_cons_of_mem _ hx)) h
   omega
theorem GT.bits {xs:List cB}{n:Nat}{W M k:Int} (g:GT xs n W M k) (c:Cp n W M k) {x:cB} (hx:x ∈ xs):intBits x.b <= 1601 /\ intBits x.t <= 3201:=by
 have:=pL (g.fq x hx) g.mp c.m c.k0 c.k
 omega
theorem GT.pb {xs:List cB}{n:Nat}{W M k:Int} (g:GT xs n W M k) (c:Cp n W M k):PB xs:=fun x hx=>by
 have b:=g.bits c hx
 have w:=j5 g.w1 hx
 have w2:=g.ws
 have w3:=c.w
 have e:(2:Int) ^ 600 <= Br:=by decide +kernel
 exact ⟨(g.fq x hx).fr,by omega,by omega,g.w1 x hx,by omega⟩
theorem GT.tot {xs:List cB}{n:Nat}{W M k:Int} (g:GT xs n W M k):1 <= bN xs:=by
 cases xs with
 | nil=>exact absurd rfl g.ne
 | cons x xs =>
  have:=j5 g.w1 (x:=x) List.mem_cons_self
  have:=g.w1 x List.mem_cons_self
  omega
def Cg (H:Hp) (a:Addr) (xs:List cB):Prop:=H a=some (.tup (gC xs)) /\ ∀ x ∈ xs,gM H x
theorem Cg.same {H H':Hp}{a:Addr}{xs:List cB} (s:aN H H') (h:Cg H a xs):Cg H' a xs:=⟨s _ _ h.1,fun x hx=>(h.2 x hx).same s⟩
def be:Nat->Nat
 | 0=>1
 | d + 1=>be d + (12 * (d + 1) + 1)
def ka:Nat->Nat
 | 0=>30
 | d + 1=>ka d + (12 * (d + 1) + 1) * 12 + 1
def wB (d m:Nat):Int:=2 ^ ((12 * d + 1) * m)
def kK (d:Nat):Int:=2 ^ ka d
theorem Ay {d m:Nat}{M:Int} (hd:d <= 4) (hm:m <= 12) (hM:M <= 2 ^ (be d * m)):Cp m (wB d m) M (kK d):=by
 have b:be d <= 125:=by
  rcases (by omega:d=0 ∨ d=1 ∨ d=2 ∨ d=3 ∨ d=4) with z | z | z | z | z <;> subst z <;> decide
 have a:ka d <= 1600:=by
  rcases (by omega:d=0 ∨ d=1 ∨ d=2 ∨ d=3 ∨ d=4) with z | z | z | z | z <;> subst z <;> decide
 refine ⟨hm,Sd.eF ?_,Int.le_trans hM (Sd.eF ?_),Int.le_of_lt (Sd.bU _),Sd.eF a⟩
 ·calc (12 * d + 1) * m <= 49 * m:=Nat.mul_le_mul_right _ (by omega)
   _ <= 49 * 12:=Nat.mul_le_mul_left _ hm
   _ <= 600:=by decide
 ·calc be d * m <= 125 * m:=Nat.mul_le_mul_right _ b
   _ <= 125 * 12:=Nat.mul_le_mul_left _ hm
   _ <= 1600:=by decide
end TD
namespace Fr
theorem O8 {x y t b:Int} (f:gF x y) (hb:b ≠ 0) (e:x * b=t * y):(x,y)=sh t b:=by
 have q:=CG (t:=t) hb
 have c2:=jF t b
 generalize (sh t b)=z at *
 obtain ⟨z1,z2⟩:=z
 have k:b * (x * z2)=b * (z1 * y):=by
  have k1:b * (x * z2)=(x * b) * z2:=by grind
  have k2:b * (z1 * y)=(z1 * b) * y:=by grind
  rw [k1,k2,c2,e]
  grind
 obtain ⟨a,c⟩:=Du f q (Int.eq_of_mul_eq_mul_left hb k)
 rw [a,c]
end Fr
namespace Tb
def PS (B:Int) (ps:List (Int × Int)):Int:=(ps.map fun p=>p.1 * (B / p.2)).sum
structure S9 (ps:List (Int × Int)) (t b:Int):Prop where
 pos:0 < b
 eq:∀ B,0 < B->(∀ p ∈ ps,0 < p.2 /\ p.2 ∣ B)->t * B=b * PS B ps
theorem Mq (B:Int) (p:Int × Int) (ps:List (Int × Int)):PS B (p :: ps)=p.1 * (B / p.2) + PS B ps:=by simp [PS]
theorem HD (B:Int) (ps qs:List (Int × Int)):PS B (ps ++ qs)=PS B ps + PS B qs:=by simp [PS]
theorem S9.nil:S9 [] 0 1:=⟨by decide,fun B _ _=>by simp [PS]⟩
theorem S9.snoc {ps:List (Int × Int)}{t b n d:Int} (h:S9 ps t b) (hd:0 < d):S9 (ps ++ [(n,d)]) (t * d + n * b) (b * d):=by
 refine ⟨Int.mul_pos h.pos hd,fun B hB q=>?_⟩
 have e:=h.eq B hB fun p hp=>q p (List.mem_append_left _ hp)
 obtain ⟨c,_,e1,e2⟩:=Yq hd hB (q (n,d) (by simp)).2
 rw [HD,Mq]
 show _=b * d * (PS B ps + (n * (B / d) + PS B []))
 rw [e2]
 have z:PS B []=0:=rfl
 rw [z]
 have k:(t * d + n * b) * B=(t * B) * d + n * b * B:=by grind
 rw [k,e]
 conv=>lhs; rw [e1]
 grind
def jG (l0 l1:Int) (r:Rw):Rw:=if l0 * r.b < r.t * l1 then ⟨l0,l1,r.w⟩ else r
end Tb
namespace TD
open PySem L2
open Builtin.Int (intBits)
structure iM where
 p:Addr
 w:Int
 a:Addr
 ys:List cB
def xV (H:Hp) (e:iM):Prop:=H e.p=some (.tup [.int e.w,.ref e.a]) /\ eZ H e.a e.ys
def o4 (es:List iM):List V:=es.map fun e=>V.ref e.p
structure uK (H:Hp) (a:Addr) (es:List iM):Prop where
 lst:H a=some (.lst (o4 es))
 ents:∀ e ∈ es,xV H e
theorem xV.same {H H':Hp}{e:iM} (s:aN H H') (h:xV H e):xV H' e:=⟨s _ _ h.1,h.2.same s⟩
theorem uK.same {H H':Hp}{a:Addr}{es:List iM} (s:aN H H') (h:uK H a es):uK H' a es:=⟨s _ _ h.lst,fun e he=>(h.ents e he).same s⟩
theorem oX (es:List iM):(o4 es).length=es.length:=List.length_map _
theorem Bx {es:List iM}{i:Nat}{v:V} (h:(o4 es)[i]? = some v):∃ x,es[i]? = some x /\ v = .ref x.p:=by
 unfold o4 at h
 rw [List.getElem?_map] at h
 cases e:es[i]? with
 | none=>rw [e] at h; cases h
 | some x=>rw [e] at h; cases h; exact ⟨x,rfl,rfl⟩
theorem Ef (xs:List iM) (y:iM):o4 (xs ++ [y])=o4 xs ++ [V.ref y.p]:=by unfold o4; rw [List.map_append]; rfl
def pZ (S:Int) (e:iM):Int:=e.w * S.fdiv (bN e.ys)
def cL (S:Int) (es:List iM):List Tb.Rw:=es.flatMap fun e=>e.ys.map fun y=>⟨y.t,y.b,pZ S e * y.w⟩
def cO (es:List iM):List Int:=es.map fun e=>bN e.ys
theorem zZ (S:Int) (es:List iM) (e:iM):cL S (es ++ [e])=cL S es ++ e.ys.map fun y=>⟨y.t,y.b,pZ S e * y.w⟩:=by
 unfold cL
 rw [List.flatMap_append]
 simp
def bK (xs:List cB):Int:=dG (xs.map cB.b)
theorem Dj {m n:Int} (hn:0 < n):dD m n=m * (Fr.sh m n).2:=by
 unfold dD Fr.sh Fr.dv
 rw [if_neg (by omega)]
theorem Cz {m n M:Int} (hn:0 < n) (h1:m ∣ M) (h2:n ∣ M):dD m n ∣ M:=by
 rw [Dj hn]
 obtain ⟨a,ea⟩:=h1
 obtain ⟨b,eb⟩:=h2
 have d1:=Fr.zP m n
 have d2:=Fr.uJ m n
 have dn:=Fr.yJ (t:=m) (Int.ne_of_gt hn)
 have h:(Fr.sh m n).2 ∣ (Fr.sh m n).1 * a:=by
  refine ⟨b,Int.eq_of_mul_eq_mul_right dn ?_⟩
  have e1:(Fr.sh m n).1 * a * Fr.dv m n=((Fr.sh m n).1 * Fr.dv m n) * a:=by grind
  have e2:(Fr.sh m n).2 * b * Fr.dv m n=((Fr.sh m n).2 * Fr.dv m n) * b:=by grind
  rw [e1,e2,d1,d2,<- ea,<- eb]
 obtain ⟨c,hc⟩:=Fr.Yx (Fr.Eo (t:=m) (Int.ne_of_gt hn)) h
 exact ⟨c,by rw [ea,hc]; grind⟩
theorem pO:∀ (ns:List Int) (m M:Int),(∀ n ∈ ns,0 < n)->m ∣ M->(∀ n ∈ ns,n ∣ M)->ns.foldl dD m ∣ M
 | [],_,_,_,h,_=>h
 | n :: ns,m,M,hp,h,hd=>pO ns _ M (fun k hk=>hp k (List.mem_cons_of_mem _ hk)) (Cz (hp n List.mem_cons_self) h (hd n List.mem_cons_self)) fun k hk=>hd k (List.mem_cons_of_mem _ hk)
theorem uV {ns:List Int}{M:Int} (hp:∀ n ∈ ns,0 < n) (hd:∀ n ∈ ns,n ∣ M):dG ns ∣ M:=pO ns 1 M hp ⟨M,(Int.one_mul _).symm⟩ hd
theorem Fj {ns:List Int} (hp:∀ n ∈ ns,0 < n):dG ns <= Sd.fW ns:=Int.le_of_dvd (Sd.m8 hp) (uV hp fun n hn=>Sd.p8 hn)
theorem GT.bp {xs:List cB}{n:Nat}{W M k:Int} (g:GT xs n W M k):∀ b ∈ xs.map cB.b,0 < b:=fun b hb=>by
 obtain ⟨x,hx,rfl⟩:=List.mem_map.mp hb
 exact (g.fq x hx).fr.pos
theorem GT.lcm {xs:List cB}{n:Nat}{W M k:Int} (g:GT xs n W M k):0 < bK xs /\ bK xs ∣ M /\ ∀ x ∈ xs,x.b ∣ bK xs:=by
 obtain ⟨a,b⟩:=tE g.bp
 exact ⟨a,uV g.bp fun b hb=>by obtain ⟨x,hx,rfl⟩:=List.mem_map.mp hb; exact (g.fq x hx).dv,fun x hx=>b _ (List.mem_map.mpr ⟨x,hx,rfl⟩)⟩
theorem GT.own {xs:List cB}{n:Nat}{W M k:Int} (g:GT xs n W M k):GT xs n W (bK xs) k /\ bK xs <= M:=by
 obtain ⟨a,b,c⟩:=g.lcm
 exact ⟨⟨g.ne,g.len,g.w1,g.ws,a,fun x hx=>⟨(g.fq x hx).fr,c x hx,(g.fq x hx).lo,(g.fq x hx).hi⟩⟩,Int.le_of_dvd g.mp b⟩
theorem Fe {r:Tb.Rw} (hr:1 <= r.w):∀ {ys:List Tb.Rw},ys.Pairwise Tb.Lt->(ys.map fun y=>if r.t=y.t /\ r.b=y.b then r.w else 0).sum <= r.w
 | [],_=>by show (0:Int) <= r.w; omega
 | y :: ys,h=>by
  obtain ⟨h1,h2⟩:=List.pairwise_cons.mp h
  rw [List.map_cons,List.sum_cons]
  by_cases e:r.t=y.t /\ r.b=y.b
  ·rw [if_pos e]
   have z:(ys.map fun y=>if r.t=y.t /\ r.b=y.b then r.w else 0).sum=0:=by
    have:∀ zs:List Tb.Rw,(∀ z ∈ zs,Tb.Lt y z)->(zs.map fun y=>if r.t=y.t /\ r.b=y.b then r.w else 0).sum=0:=by
     intro zs
     induction zs with
     | nil=>intro _; rfl
     | cons z zs ih =>
      intro hz
      rw [List.map_cons,List.sum_cons,ih fun x hx=>hz x (List.mem_cons_of_mem _ hx),if_neg fun q=>Tb.J7 (hz z List.mem_cons_self) (e.1.symm.trans q.1) (e.2.symm.trans q.2)]
      rfl
    exact this ys h1
   omega
  ·rw [if_neg e]
   have:=Fe hr h2
   omega
theorem Ke {ys:List Tb.Rw} (so:ys.Pairwise Tb.Lt):∀ {ps:List Tb.Rw},(∀ r ∈ ps,1 <= r.w)->(ys.map fun y=>Tb.Wt ps y.t y.b).sum <= Tb.W ps
 | [],_=>by
  have:∀ zs:List Tb.Rw,(zs.map fun y=>Tb.Wt [] y.t y.b).sum=0:=by
   intro zs
   induction zs with
   | nil=>rfl
   | cons z zs ih=>rw [List.map_cons,List.sum_cons,ih]; rfl
  rw [this]
  exact Int.le_refl _
 | r :: ps,h=>by
  have ih:=Ke so (ps:=ps) fun x hx=>h x (List.mem_cons_of_mem _ hx)
  have k:=Fe (h r List.mem_cons_self) so
  have e:∀ zs:List Tb.Rw,(zs.map fun y=>Tb.Wt (r :: ps) y.t y.b).sum=(zs.map fun y=>if r.t=y.t /\ r.b=y.b then r.w else 0).sum + (zs.map fun y=>Tb.Wt ps y.t y.b).sum:=by
   intro zs
   induction zs with
   | nil=>rfl
   | cons z zs ih =>
    rw [List.map_cons,List.sum_cons,List.map_cons,List.sum_cons,List.map_cons,List.sum_cons,ih,Tb.lC]
    omega
  rw [e,Tb.gB]
  omega
theorem HS.sum {ps:List Tb.Rw}{ys:List cB} (o:HS ps ys) (h:∀ r ∈ ps,1 <= r.w):bN ys <= Tb.W ps:=by
 have s:=Ke o.tab.lt h
 have le:∀ zs:List cB,(∀ y ∈ zs,y.w <= Tb.Wt ps y.t y.b)->bN zs <= ((cM zs).map fun y=>Tb.Wt ps y.t y.b).sum:=by
  intro zs
  induction zs with
  | nil=>intro _; exact Int.le_refl _
  | cons z zs ih =>
   intro hz
   have e:bN (z :: zs)=z.w + bN zs:=by unfold bN; rw [List.map_cons,List.sum_cons]
   have e2:cM (z :: zs)=z.r :: cM zs:=rfl
   rw [e,e2,List.map_cons,List.sum_cons]
   have h1:=hz z List.mem_cons_self
   have h2:=ih fun y hy=>hz y (List.mem_cons_of_mem _ hy)
   have h3:Tb.Wt ps z.r.t z.r.b=Tb.Wt ps z.t z.b:=rfl
   omega
 exact Int.le_trans (le ys fun y hy=>(o.w y hy).2) s
structure GM (es:List iM) (k0:Nat) (W0 kk:Int):Prop where
 ne:es ≠ []
 len:es.length <= 4
 k:k0 <= 12
 n:es.length * k0 <= 48
 w:∀ e ∈ es,1 <= e.w /\ e.w <= 1000
 g:∀ e ∈ es,GT e.ys k0 W0 (bK e.ys) kk
 c:∀ e ∈ es,Cp k0 W0 (bK e.ys) kk
theorem GM.tp {es:List iM}{k0:Nat}{W0 kk:Int} (g:GM es k0 W0 kk):∀ n ∈ cO es,0 < n /\ n <= 2 ^ 600:=fun n hn=>by
 obtain ⟨e,he,rfl⟩:=List.mem_map.mp hn
 have:=(g.g e he).tot
 have:=(g.g e he).ws
 have:=(g.c e he).w
 omega
theorem GM.tb {es:List iM}{k0:Nat}{W0 kk:Int} (g:GM es k0 W0 kk):(∀ n ∈ cO es,intBits n <= 601) /\ ((cO es).map intBits).sum <= 2404:=by
 have e1:∀ n ∈ cO es,intBits n <= 601:=fun n hn=>by
  have:=g.tp n hn
  have p1:(2:Int) ^ 601=2 * 2 ^ 600:=by rw [Int.pow_succ]; omega
  have q1:=Sd.bU 600
  exact iZ (by omega) (by omega)
 have h:=lH (k:=601) (l:=(cO es).map intBits) fun n hn=>by
  obtain ⟨z,hz,rfl⟩:=List.mem_map.mp hn
  exact e1 z hz
 have l:=g.len
 have e:((cO es).map intBits).length=es.length:=by rw [List.length_map]; unfold cO; rw [List.length_map]
 rw [e] at h
 exact ⟨e1,by omega⟩
theorem GM.S {es:List iM}{k0:Nat}{W0 kk:Int} (g:GM es k0 W0 kk):0 < dG (cO es) /\ dG (cO es) <= 2 ^ 2400 /\ intBits (dG (cO es)) <= 2405 /\ ∀ e ∈ es,bN e.ys ∣ dG (cO es):=by
 have tp:∀ n ∈ cO es,0 < n:=fun n hn=>(g.tp n hn).1
 obtain ⟨a,b⟩:=tE tp
 have l:=g.len
 have pl:=Sd.DN (e:=600) g.tp
 have e:(cO es).length=es.length:=by unfold cO; rw [List.length_map]
 rw [e] at pl
 have hb:=xZ (cO es)
 have:=g.tb.2
 exact ⟨a,Int.le_trans (Int.le_trans (Fj tp) pl) (Sd.eF (by omega)),by omega,fun e he=>b _ (List.mem_map.mpr ⟨e,he,rfl⟩)⟩
theorem z7 {S:Int}{e:iM} (hp:1 <= bN e.ys) (d:bN e.ys ∣ S):pZ S e * bN e.ys=e.w * S:=by
 unfold pZ
 obtain ⟨s,es⟩:=d
 have q1:S.fdiv (bN e.ys)=s:=by rw [es]; exact Int.mul_fdiv_cancel_left _ (by omega)
 rw [q1,es]
 grind
theorem Ls {S:Int}{e:iM} (hw:1 <= e.w) (hp:1 <= bN e.ys) (hS:0 < S) (d:bN e.ys ∣ S):1 <= pZ S e:=by
 have h:=z7 hp d
 have p:0 < e.w * S:=Int.mul_pos (by omega) hS
 rcases Int.lt_or_le 0 (pZ S e) with z | z
 ·omega
 ·have:=Int.mul_nonpos_of_nonpos_of_nonneg z (show (0:Int) <= bN e.ys by omega)
  omega
theorem GM.part {es:List iM}{k0:Nat}{W0 kk:Int} (g:GM es k0 W0 kk) {e:iM} (he:e ∈ es) {y:cB} (hy:y ∈ e.ys):1 <= pZ (dG (cO es)) e * y.w /\ pZ (dG (cO es)) e * y.w <= 1000 * dG (cO es):=by
 obtain ⟨Sp,_,_,Sd'⟩:=g.S
 have ge:=g.g e he
 have w:=g.w e he
 have f1:=Ls w.1 ge.tot Sp (Sd' e he)
 have y1:=ge.w1 y hy
 have y2:=j5 ge.w1 hy
 have a:=z7 ge.tot (Sd' e he)
 have b:=Int.mul_le_mul_of_nonneg_left y2 (show 0 <= pZ (dG (cO es)) e by omega)
 have c:=Int.mul_le_mul_of_nonneg_right w.2 (Int.le_of_lt Sp)
 have d:1 * 1 <= pZ (dG (cO es)) e * y.w:=Int.mul_le_mul f1 y1 (by decide) (by omega)
 omega
theorem GM.pb {es:List iM}{k0:Nat}{W0 kk:Int} (g:GM es k0 W0 kk) {e:iM} (he:e ∈ es) {y:cB} (hy:y ∈ e.ys):Fr.gF y.t y.b /\ intBits y.t <= 4000 /\ intBits y.b <= 4000 /\ 1 <= pZ (dG (cO es)) e * y.w /\ pZ (dG (cO es)) e * y.w <= Br:=by
 have b:=(g.g e he).bits (g.c e he) hy
 have p:=g.part he hy
 have s:=g.S.2.1
 have m:(1000:Int) * 2 ^ 2400 <= Br:=by decide +kernel
 exact ⟨((g.g e he).fq y hy).fr,by omega,by omega,p.1,by omega⟩
theorem FJ {S:Int}:∀ {es:List iM},(∀ e ∈ es,1 <= bN e.ys /\ bN e.ys ∣ S /\ e.w <= 1000)->0 <= S->Tb.W (cL S es) <= 1000 * (es.length:Int) * S
 | [],_,_=>by show (0:Int) <= _; simp
 | e :: es,h,hS=>by
  have ih:=FJ (es:=es) (fun x hx=>h x (List.mem_cons_of_mem _ hx)) hS
  obtain ⟨h1,h2,h3⟩:=h e List.mem_cons_self
  have e1:cL S (e :: es)=(e.ys.map fun y=>⟨y.t,y.b,pZ S e * y.w⟩) ++ cL S es:=rfl
  have e2:∀ zs:List cB,Tb.W (zs.map fun y=>(⟨y.t,y.b,pZ S e * y.w⟩ : Tb.Rw))=pZ S e * bN zs:=by
   intro zs
   induction zs with
   | nil=>show (0:Int)=_ * 0; simp
   | cons z zs ih =>
    have e:bN (z :: zs)=z.w + bN zs:=by unfold bN; rw [List.map_cons,List.sum_cons]
    rw [List.map_cons,Tb.gB,ih,e,Int.mul_add]
  rw [e1,Tb.CJ,e2,z7 h1 h2,List.length_cons]
  have:=Int.mul_le_mul_of_nonneg_right h3 hS
  push_cast
  have e3:1000 * ((es.length:Int) + 1) * S=1000 * (es.length:Int) * S + 1000 * S:=by grind
  rw [e3]
  omega
theorem HR {S:Int}{es:List iM}{t b:Int} (h:Tb.sO (cL S es) t b):∃ e ∈ es,∃ y ∈ e.ys,y.t=t /\ y.b=b:=by
 obtain ⟨p,hp,e1,e2⟩:=h
 obtain ⟨e,he,hq⟩:=List.mem_flatMap.mp hp
 obtain ⟨y,hy,rfl⟩:=List.mem_map.mp hq
 exact ⟨e,he,y,hy,e1,e2⟩
theorem GM.out {es:List iM}{k0:Nat}{W0 kk:Int}{ys:List cB} (g:GM es k0 W0 kk) (o:HS (cL (dG (cO es)) es) ys) (hl:ys.length <= es.length * k0) :
  GT ys (es.length * k0) (4000 * Sd.fW (cO es)) (Sd.fW (es.map fun e=>bK e.ys)) kk:=by
 obtain ⟨Sp,_,_,Sd'⟩:=g.S
 have tp:∀ n ∈ cO es,0 < n:=fun n hn=>(g.tp n hn).1
 have pw:∀ r ∈ cL (dG (cO es)) es,1 <= r.w:=fun r hr=>by
  obtain ⟨e,he,hq⟩:=List.mem_flatMap.mp hr
  obtain ⟨y,hy,rfl⟩:=List.mem_map.mp hq
  exact (g.part he hy).1
 have pne:cL (dG (cO es)) es ≠ []:=by
  cases es with
  | nil=>exact absurd rfl g.ne
  | cons e es =>
   intro z
   have h1:=(List.append_eq_nil_iff.mp (show (e.ys.map fun y=>(⟨y.t,y.b,pZ _ e * y.w⟩ : Tb.Rw)) ++ cL _ es=[] from z)).1
   exact (g.g e List.mem_cons_self).ne (List.map_eq_nil_iff.mp h1)
 have wp:=FJ (S:=dG (cO es)) (es:=es) (fun e he=>⟨(g.g e he).tot,Sd' e he,(g.w e he).2⟩) (Int.le_of_lt Sp)
 have sl:=Fj tp
 have l:=g.len
 have mpos:∀ n ∈ es.map (fun e=>bK e.ys),0 < n:=fun n hn=>by
  obtain ⟨e,he,rfl⟩:=List.mem_map.mp hn
  exact (g.g e he).mp
 refine ⟨o.ne pne,hl,fun y hy=>(o.w y hy).1,?_,Sd.m8 mpos,fun y hy=>?_⟩
 ·have a:=o.sum pw
  have b:1000 * (es.length:Int) * dG (cO es) <= 4000 * dG (cO es):=Int.mul_le_mul_of_nonneg_right (by omega) (Int.le_of_lt Sp)
  omega
 ·obtain ⟨p,hp,e1,e2⟩:=o.key hy
  obtain ⟨e,he,z,hz,e3,e4⟩:=HR ⟨p,hp,e1,e2⟩
  have f:=(g.g e he).fq z hz
  rw [e3,e4] at f
  exact Sd.Fq.mono f (Sd.p8 (List.mem_map.mpr ⟨e,he,rfl⟩)) (Int.le_refl _)
end TD
namespace TD
open PySem L2
open Builtin.Int (intBits)
theorem GT.cm {xs:List cB}{n:Nat}{W M k:Int} (g:GT xs n W M k):Tb.CM (bK xs) (cM xs):=by
 obtain ⟨a,b,c⟩:=g.lcm
 refine ⟨a,fun r hr=>?_⟩
 obtain ⟨x,hx,rfl⟩:=List.mem_map.mp hr
 exact ⟨(g.fq x hx).fr.pos,c x hx⟩
theorem GT.tab {xs:List cB}{n:Nat}{W M k:Int} (g:GT xs n W M k) (so:(cM xs).Pairwise Tb.Lt):Tb.PX (bK xs) (cM xs) :=
 ⟨g.cm,fun r hr=>by obtain ⟨x,hx,rfl⟩:=List.mem_map.mp hr; exact g.w1 x hx,so.imp fun h=>Int.le_of_lt h⟩
theorem aAs {B k:Int}{r:Tb.Rw} (hb:0 < r.b) (hB:0 < B) (d:r.b ∣ B) (lo:-(k * r.b) <= r.t) (hi:r.t <= k * r.b):-(k * B) <= Tb.T B r /\ Tb.T B r <= k * B:=by
 obtain ⟨c,hc,e,q⟩:=Tb.Yq hb hB d
 unfold Tb.T
 rw [q,e]
 have h1:=Int.mul_le_mul_of_nonneg_right lo (Int.le_of_lt hc)
 have h2:=Int.mul_le_mul_of_nonneg_right hi (Int.le_of_lt hc)
 have e1:-(k * r.b) * c = -(k * (r.b * c)):=by grind
 have e2:k * r.b * c=k * (r.b * c):=by grind
 rw [e1] at h1
 rw [e2] at h2
 exact ⟨h1,h2⟩
theorem Nr {B k:Int} (kB:0 <= k * B):∀ {rs:List Tb.Rw},(∀ r ∈ rs,1 <= r.w /\ -(k * B) <= Tb.T B r /\ Tb.T B r <= k * B)->-(k * B * Tb.W rs) <= Tb.WT B rs /\ Tb.WT B rs <= k * B * Tb.W rs
 | [],_=>by simp [Tb.W,Tb.WT]
 | r :: rs,h=>by
  obtain ⟨a,b⟩:=Nr kB (rs:=rs) fun x hx=>h x (List.mem_cons_of_mem _ hx)
  obtain ⟨w1,l,u⟩:=h r List.mem_cons_self
  rw [Tb.sY,Tb.gB]
  have h1:=Int.mul_le_mul_of_nonneg_left l (show 0 <= r.w by omega)
  have h2:=Int.mul_le_mul_of_nonneg_left u (show 0 <= r.w by omega)
  have e1:r.w * -(k * B) = -(k * B * r.w):=by grind
  have e2:r.w * (k * B)=k * B * r.w:=by grind
  have e3:k * B * (r.w + Tb.W rs)=k * B * r.w + k * B * Tb.W rs:=by grind
  rw [e1] at h1
  rw [e2] at h2
  rw [e3]
  omega
theorem Qf {rs:List Tb.Rw} (h:∀ r ∈ rs,1 <= r.w) (j:Nat):0 <= Tb.W (rs.drop j) /\ Tb.W (rs.drop j) <= Tb.W rs:=by
 have nn:∀ zs:List Tb.Rw,(∀ r ∈ zs,1 <= r.w)->0 <= Tb.W zs:=by
  intro zs
  induction zs with
  | nil=>intro _; exact Int.le_refl _
  | cons z zs ih =>
   intro hz
   rw [Tb.gB]
   have:=hz z List.mem_cons_self
   have:=ih fun x hx=>hz x (List.mem_cons_of_mem _ hx)
   omega
 have e:Tb.W rs=Tb.W (rs.take j) + Tb.W (rs.drop j):=by rw [<- Tb.CJ,List.take_append_drop]
 have a:=nn (rs.take j) fun r hr=>h r (List.mem_of_mem_take hr)
 have b:=nn (rs.drop j) fun r hr=>h r (List.mem_of_mem_drop hr)
 omega
theorem GT.lp {xs:List cB}{n:Nat}{W M k p tops ws:Int}{i:Nat} (g:GT xs n W M k) (k0:0 <= k) (p0:0 <= p) (l:Tb.Lp (bK xs) (p * Tb.W (cM xs) * bK xs) (cM xs) i tops ws) :
  0 <= ws /\ ws <= bN xs /\ -((p + k) * bN xs * bK xs) <= tops /\ tops <= (p + k) * bN xs * bK xs:=by
 have cm:=g.cm
 have Bp:=cm.pos
 have w1:∀ r ∈ cM xs,1 <= r.w:=fun r hr=>by obtain ⟨x,hx,rfl⟩:=List.mem_map.mp hr; exact g.w1 x hx
 have wd:=Qf w1 ((cM xs).length - i)
 have kB:0 <= k * bK xs:=Int.mul_nonneg k0 (Int.le_of_lt Bp)
 have wt:=Nr kB (rs:=(cM xs).drop ((cM xs).length - i)) fun r hr=>by
  obtain ⟨x,hx,rfl⟩:=List.mem_map.mp (List.mem_of_mem_drop hr)
  have f:=g.fq x hx
  exact ⟨g.w1 x hx,aAs (r:=x.r) f.fr.pos Bp (g.lcm.2.2 x hx) f.lo f.hi⟩
 have ew:=l.ew
 have et:=l.et
 rw [<- ew] at wd wt
 have m:=Int.mul_le_mul_of_nonneg_left wd.2 kB
 have P0:0 <= p * Tb.W (cM xs) * bK xs:=Int.mul_nonneg (Int.mul_nonneg p0 (by omega)) (Int.le_of_lt Bp)
 have e:(p + k) * bN xs * bK xs=p * Tb.W (cM xs) * bK xs + k * bK xs * Tb.W (cM xs):=by rw [jV]; grind
 rw [e,jV]
 exact ⟨wd.1,wd.2,by omega,by omega⟩
theorem Q6 {tops ws B k:Int} (hw:1 <= ws) (hB:0 < B) (k0:0 <= k) (lo:-(k * B) <= tops) (hi:tops <= k * B):Sd.FQ (Fr.sh tops (ws * B)) (ws * B) k:=by
 have p:0 < ws * B:=Int.mul_pos (by omega) hB
 have kb:0 <= k * B:=Int.mul_nonneg k0 (Int.le_of_lt hB)
 have e:k * (ws * B)=k * B * ws:=by grind
 have h:k * B * 1 <= k * B * ws:=Int.mul_le_mul_of_nonneg_left hw kb
 exact Sd.GJ (u:=tops) p rfl (by rw [e]; omega) (by rw [e]; omega)
def Oq:Sp:=fun vs H Q _=>∃ (a:Addr) (xs:List cB) (p:Int) (n:Nat) (W k:Int),vs=[.ref a,.int p] /\ eZ H a xs /\ GT xs n W (bK xs) k /\ Cp n W (bK xs) k /\ (cM xs).Pairwise Tb.Lt /\ 0 <= p /\ p <= 1000000000 ∧
 ∀ (r:Addr) (H':Hp) (l:Int × Int) (u:Int),aN H H'->Tq H' r l->1 <= u->u <= bN xs->Sd.FQ l (u * bK xs) ((p + k) * bN xs)->Tb.Lv (bK xs) (p * Tb.W (cM xs) * bK xs) l.1 l.2 (cM xs)->Q (.ref r) H'
theorem Qc {xs ys:List cB}{n:Nat}{W M k l0 l1:Int} (g:GT xs n W M k) (f:Sd.Fq l0 l1 M k) (o:HS ((cM xs).map (Tb.jG l0 l1)) ys) (hl:ys.length <= xs.length):GT ys n W M k:=by
 have cw:∀ r:Tb.Rw,(Tb.jG l0 l1 r).w=r.w:=fun r=>by unfold Tb.jG; split <;> rfl
 have pw:∀ r ∈ (cM xs).map (Tb.jG l0 l1),1 <= r.w:=fun r hr=>by
  obtain ⟨p,hp,rfl⟩:=List.mem_map.mp hr
  obtain ⟨x,hx,rfl⟩:=List.mem_map.mp hp
  rw [cw]
  exact g.w1 x hx
 have eW:∀ rs:List Tb.Rw,Tb.W (rs.map (Tb.jG l0 l1))=Tb.W rs:=by
  intro rs
  induction rs with
  | nil=>rfl
  | cons r rs ih=>rw [List.map_cons,Tb.gB,Tb.gB,ih,cw]
 have s:=o.sum pw
 rw [eW,<- jV] at s
 refine ⟨o.ne fun z=>g.ne (List.map_eq_nil_iff.mp (List.map_eq_nil_iff.mp z)),Nat.le_trans hl g.len,fun y hy=>(o.w y hy).1,Int.le_trans s g.ws,g.mp,fun y hy=>?_⟩
 obtain ⟨p,hp,e1,e2⟩:=o.key hy
 obtain ⟨q,hq,rfl⟩:=List.mem_map.mp hp
 obtain ⟨x,hx,rfl⟩:=List.mem_map.mp hq
 rw [<- e1,<- e2]
 unfold Tb.jG
 split
 ·exact f
 ·exact g.fq x hx
theorem QZ {xs ys:List cB}{n:Nat}{W M k l0 l1:Int} (g:GT xs n W M k) (c:Cp n W M k) (f:Sd.Fq l0 l1 M k) (e:cM ys=(cM xs).map (Tb.jG l0 l1)):PB ys:=fun y hy=>by
 have m:y.r ∈ (cM xs).map (Tb.jG l0 l1):=by rw [<- e]; exact List.mem_map.mpr ⟨y,hy,rfl⟩
 obtain ⟨p,hp,ep⟩:=List.mem_map.mp m
 obtain ⟨x,hx,rfl⟩:=List.mem_map.mp hp
 have pb:=g.pb c x hx
 have lb:=pL f g.mp c.m c.k0 c.k
 unfold Tb.jG at ep
 by_cases cc:l0 * x.r.b < x.r.t * l1
 ·rw [if_pos cc] at ep
  have e1:l0=y.t:=congrArg Tb.Rw.t ep
  have e2:l1=y.b:=congrArg Tb.Rw.b ep
  have e3:x.w=y.w:=congrArg Tb.Rw.w ep
  rw [<- e1,<- e2,<- e3]
  exact ⟨f.fr,by omega,by omega,pb.2.2.2.1,pb.2.2.2.2⟩
 ·rw [if_neg cc] at ep
  have e1:x.t=y.t:=congrArg Tb.Rw.t ep
  have e2:x.b=y.b:=congrArg Tb.Rw.b ep
  have e3:x.w=y.w:=congrArg Tb.Rw.w ep
  rw [<- e1,<- e2,<- e3]
  exact pb
def JC (Pt:Addr) (lp:Pos):Sp:=fun vs H Q _=>∃ (a l:Addr) (xs:List cB) (x:Int × Int) (n:Nat) (W M k:Int),vs=[.ref a,.ref l] /\ eZ H a xs /\ GT xs n W M k /\ Cp n W M k /\ Tq H l x /\ Sd.FQ x M k /\ fG Pt lp lK H ∧
 ∀ (r:Addr) (H':Hp) (ys:List cB),cH Pt H H'->fG Pt lp lK H'->H r=none->eZ H' r ys->GT ys n W M k->HS ((cM xs).map (Tb.jG x.1 x.2)) ys->Q (.ref r) H'
def Ku (Pt:Addr) (lp:Pos):Sp:=fun vs H Q _=>∃ (a:Addr) (es:List iM) (k0:Nat) (W0 kk:Int),vs=[.ref a] /\ uK H a es /\ GM es k0 W0 kk /\ fG Pt lp lK H ∧
 ∀ (r:Addr) (H':Hp) (ys:List cB),cH Pt H H'->fG Pt lp lK H'->H r=none->eZ H' r ys->GT ys (es.length * k0) (4000 * Sd.fW (cO es)) (Sd.fW (es.map fun e=>bK e.ys)) kk->HS (cL (dG (cO es)) es) ys->ys.length <= (cL (dG (cO es)) es).length->Q (.ref r) H'
def Di (xs:List cB) (d m:Nat):Prop:=GT xs m (wB d m) (bK xs) (kK d) /\ bK xs <= 2 ^ (be d * m)
theorem Di.up {xs:List cB}{d k:Nat} (h:Di xs d k) (hk:k <= 12):Di xs d 12:=by
 obtain ⟨g,l⟩:=h
 have a:wB d k <= wB d 12:=Sd.eF (Nat.mul_le_mul_left _ hk)
 exact ⟨⟨g.ne,Nat.le_trans g.len hk,g.w1,Int.le_trans g.ws a,g.mp,g.fq⟩,Int.le_trans l (Sd.eF (Nat.mul_le_mul_left _ hk))⟩
inductive Ae (d:Nat) (f:Int × Sd.Sd->Nat):List iM->List (Int × Sd.Sd)->Prop
 | nil:Ae d f [] []
 | cons {e:iM}{t:Int × Sd.Sd}{es:List iM}{rs:List (Int × Sd.Sd)} (g:Di e.ys d (f t)) (h:Ae d f es rs):Ae d f (e :: es) (t :: rs)
theorem Ae.snoc {d:Nat}{f:Int × Sd.Sd->Nat}{es:List iM}{rs:List (Int × Sd.Sd)} (h:Ae d f es rs) {e:iM}{t:Int × Sd.Sd} (g:Di e.ys d (f t)):Ae d f (es ++ [e]) (rs ++ [t]):=by
 induction h with
 | nil=>exact .cons g .nil
 | cons g' _ ih=>exact .cons g' ih
structure AeB (d n:Nat) (es:List iM):Prop where
 t0:0 < Sd.fW (cO es)
 t:Sd.fW (cO es) <= 2 ^ ((12 * d + 1) * n)
 l:Sd.fW (es.map fun e=>bK e.ys) <= 2 ^ (be d * n)
 p:∀ S,(cL S es).length <= n
theorem Ae.b {d:Nat}{f:Int × Sd.Sd->Nat}{es:List iM}{rs:List (Int × Sd.Sd)} (h:Ae d f es rs):AeB d (rs.map f).sum es:=by
 induction h with
 | nil=>exact ⟨by decide,by show (1:Int) <= _; simp,by show (1:Int) <= _; simp,fun _=>Nat.zero_le _⟩
 | @cons e t es rs g _ ih =>
  have a:=g.1.tot
  have b:=g.1.ws
  unfold wB at b
  have c:=g.1.mp
  have e1:cO (e :: es)=bN e.ys :: cO es:=rfl
  have lp:0 < Sd.fW (es.map fun e=>bK e.ys) ∨ True:=.inr trivial
  rw [List.map_cons,List.sum_cons]
  refine ⟨?_,?_,?_,fun S=>?_⟩
  ·rw [e1]; exact Int.mul_pos (by omega) ih.t0
  ·rw [e1,Nat.mul_add,Int.pow_add]
   exact Int.le_trans (Int.mul_le_mul_of_nonneg_right b (Int.le_of_lt ih.t0)) (Int.mul_le_mul_of_nonneg_left ih.t (Int.le_of_lt (Sd.bU _)))
  ·rw [List.map_cons,Nat.mul_add,Int.pow_add]
   exact Int.le_trans (Int.mul_le_mul_of_nonneg_left ih.l (Int.le_of_lt c)) (Int.mul_le_mul_of_nonneg_right g.2 (Int.le_of_lt (Sd.bU _)))
  ·have e2:cL S (e :: es)=(e.ys.map fun y=>⟨y.t,y.b,pZ S e * y.w⟩) ++ cL S es:=rfl
   rw [e2,List.length_append,List.length_map]
   have:=g.1.len
   have:=ih.p S
   omega
theorem Ae.all {d:Nat}{f:Int × Sd.Sd->Nat}{es:List iM}{rs:List (Int × Sd.Sd)} (h:Ae d f es rs) (hf:∀ t ∈ rs,f t <= 12):∀ e ∈ es,Di e.ys d 12:=by
 induction h with
 | nil=>intro e he; cases he
 | @cons e t es rs g _ ih =>
  intro x hx
  rcases List.mem_cons.mp hx with z | z
  ·subst z; exact g.up (hf t List.mem_cons_self)
  ·exact ih (fun u hu=>hf u (List.mem_cons_of_mem _ hu)) x z
theorem W7 {es:List iM}{d:Nat} (hd:d <= 4) (ne:es ≠ []) (l4:es.length <= 4) (w:∀ e ∈ es,1 <= e.w /\ e.w <= 1000) (g:∀ e ∈ es,Di e.ys d 12):GM es 12 (wB d 12) (kK d) :=
 ⟨ne,l4,by decide,by omega,w,fun e he=>(g e he).1,fun e he=>Ay hd (by decide) (g e he).2⟩
structure Mx (es:List iM) (ys:List cB) (d m:Nat):Prop where
 g:GT ys m (wB (d + 1) m) (bK ys) (kK d)
 l:bK ys <= 2 ^ (be d * m)
theorem Vx {es:List iM}{ys:List cB}{d m n n0:Nat} (ab:AeB d n es) (hn:n <= m) (hm1:1 <= m) (o:ys.length <= n) (h:GT ys n0 (4000 * Sd.fW (cO es)) (Sd.fW (es.map fun e=>bK e.ys)) (kK d)):Mx es ys d m:=by
 have x2:(12 * d + 1) * n <= (12 * d + 1) * m:=Nat.mul_le_mul_left _ hn
 have x3:12 + (12 * d + 1) * m <= (12 * (d + 1) + 1) * m:=by
  have:(12 * (d + 1) + 1) * m=12 * m + (12 * d + 1) * m:=by rw [show 12 * (d + 1) + 1=12 + (12 * d + 1) by omega,Nat.add_mul]
  omega
 have y2:be d * n <= be d * m:=Nat.mul_le_mul_left _ hn
 have W1:4000 * Sd.fW (cO es) <= wB (d + 1) m:=by
  have a:4000 * Sd.fW (cO es) <= 2 ^ 12 * Sd.fW (cO es):=Int.mul_le_mul_of_nonneg_right (by decide) (Int.le_of_lt ab.t0)
  have b:(2:Int) ^ 12 * Sd.fW (cO es) <= 2 ^ 12 * 2 ^ ((12 * d + 1) * n):=Int.mul_le_mul_of_nonneg_left ab.t (by decide)
  rw [<- Int.pow_add] at b
  have c:(2:Int) ^ (12 + (12 * d + 1) * n) <= wB (d + 1) m:=Sd.eF (by omega)
  omega
 obtain ⟨o1,o2⟩:=h.own
 have M1:bK ys <= 2 ^ (be d * m):=Int.le_trans (Int.le_trans o2 ab.l) (Sd.eF (by omega))
 exact ⟨⟨o1.ne,Nat.le_trans o hn,o1.w1,Int.le_trans o1.ws W1,o1.mp,o1.fq⟩,M1⟩
theorem Mx.cp {es:List iM}{ys:List cB}{d m:Nat} (x:Mx es ys d m) (hd:d + 1 <= 4) (hm:m <= 12):Cp m (wB (d + 1) m) (bK ys) (kK d):=by
 have a:=Ay (d:=d) (by omega) hm x.l
 have b:=Ay (d:=d + 1) (m:=m) (M:=1) hd hm (by have:=Sd.bU (be (d + 1) * m); omega)
 exact ⟨hm,b.w,a.m,a.k0,a.k⟩
theorem k30 (d:Nat):(1000000000:Int) <= kK d:=by
 have h:30 <= ka d:=by
  induction d with
  | zero=>exact Nat.le_refl _
  | succ d ih=>show 30 <= ka d + (12 * (d + 1) + 1) * 12 + 1; omega
 have:=Sd.eF h
 have e:(2:Int) ^ 30=1073741824:=by decide
 unfold kK
 omega
structure Lx (ys:List cB) (l:Int × Int) (M k:Int) (d m:Nat):Prop where
 g:GT ys m (wB (d + 1) m) M k
 c:Cp m (wB (d + 1) m) M k
 f:Sd.FQ l M k
 m:M <= 2 ^ (be (d + 1) * m)
 k:k <= kK (d + 1)
theorem TQ {es:List iM}{ys:List cB}{d m:Nat}{p u:Int}{l:Int × Int} (x:Mx es ys d m) (hd:d + 1 <= 4) (hm:m <= 12) (p0:0 <= p) (p9:p <= 1000000000) (u1:1 <= u) (u2:u <= bN ys) (f:Sd.FQ l (u * bK ys) ((p + kK d) * bN ys)) :
  Lx ys l (u * bK ys) ((p + kK d) * bN ys) d m:=by
 have kp:=Sd.bU (ka d)
 have kp:0 < kK d:=kp
 have k9:=k30 d
 have ws:=x.g.ws
 have w1:=x.g.tot
 have mp:=x.g.mp
 have wp:(0:Int) < wB (d + 1) m:=Sd.bU _
 have kk:kK d <= (p + kK d) * bN ys:=by
  have a:(p + kK d) * 1 <= (p + kK d) * bN ys:=Int.mul_le_mul_of_nonneg_left w1 (by omega)
  omega
 have M1:u * bK ys <= 2 ^ (be (d + 1) * m):=by
  have a:u * bK ys <= wB (d + 1) m * 2 ^ (be d * m):=Int.le_trans (Int.mul_le_mul_of_nonneg_right (Int.le_trans u2 ws) (Int.le_of_lt mp)) (Int.mul_le_mul_of_nonneg_left x.l (Int.le_of_lt wp))
  unfold wB at a
  rw [<- Int.pow_add] at a
  refine Int.le_trans a (Sd.eF ?_)
  have e:be (d + 1) * m=be d * m + (12 * (d + 1) + 1) * m:=by rw [<- Nat.add_mul]; rfl
  omega
 have K1:(p + kK d) * bN ys <= kK (d + 1):=by
  have a:(p + kK d) * bN ys <= (2 * kK d) * wB (d + 1) m:=Int.le_trans (Int.mul_le_mul_of_nonneg_right (by omega) (by omega)) (Int.mul_le_mul_of_nonneg_left ws (by omega))
  have e:(2 * kK d) * wB (d + 1) m=2 ^ (ka d + 1 + (12 * (d + 1) + 1) * m):=by
   unfold kK wB
   rw [Int.pow_add,Int.pow_succ]
   grind
  rw [e] at a
  refine Int.le_trans a (Sd.eF ?_)
  show _ <= ka d + (12 * (d + 1) + 1) * 12 + 1
  have:=Nat.mul_le_mul_left (12 * (d + 1) + 1) hm
  omega
 have c1:=Ay (d:=d + 1) hd hm M1
 refine ⟨⟨x.g.ne,x.g.len,x.g.w1,x.g.ws,Int.mul_pos (by omega) mp,fun y hy=>Sd.Fq.mono (x.g.fq y hy) ⟨u,by grind⟩ kk⟩,⟨hm,c1.w,c1.m,by omega,Int.le_trans K1 c1.k⟩,f,M1,K1⟩
theorem Tv {ys zs:List cB}{l:Int × Int}{M k:Int}{d m:Nat} (x:Lx ys l M k d m) (g:GT zs m (wB (d + 1) m) M k):Di zs (d + 1) m:=by
 obtain ⟨a,b⟩:=g.own
 exact ⟨⟨a.ne,a.len,a.w1,a.ws,a.mp,fun y hy=>Sd.Fq.mono (a.fq y hy) (Int.dvd_refl _) x.k⟩,Int.le_trans b x.m⟩
end TD
namespace Sd
def V (x:Int × Int):Rat:=(x.1:Rat) / (x.2:Rat)
def uM (a b:Rat):Rat:=if a < b then b else a
def rb (l:Rat):Nat->Sd->Rat
 | 0,_=>0
 | _ + 1,.en v=>uM l (v:Rat)
 | n + 1,.st p rs=>uM l (rs.foldl (fun a r=>a + (r.1:Rat) / (fK rs:Rat) * rb l n r.2) (-(p:Rat)))
def N7 (l:Rat):Nat->Sd->Rat
 | 0,_=>0
 | _ + 1,.en v=>(v:Rat)
 | n + 1,.st p rs=>rs.foldl (fun a r=>a + (r.1:Rat) / (fK rs:Rat) * rb l n r.2) (-(p:Rat))
theorem tX (l:Rat) (n:Nat) (s:Sd):rb l (n + 1) s=uM l (N7 l (n + 1) s):=by cases s <;> rfl
theorem gK {b:Int} (h:0 < b):(0:Rat) < (b:Rat):=by exact_mod_cast h
theorem d8 {b:Int} (h:0 < b):(b:Rat) ≠ 0:=by have:=gK h; grind
theorem NB {t b:Int} (h:0 < b):V (Fr.sh t b)=(t:Rat) / (b:Rat):=by
 have c:=Fr.jF t b
 have p:=Fr.oR (t:=t) (Int.ne_of_gt h)
 have c':((Fr.sh t b).1:Rat) * (b:Rat)=(t:Rat) * ((Fr.sh t b).2:Rat):=by exact_mod_cast c
 have n1:=d8 h
 have n2:=d8 p
 unfold V
 grind
theorem Gm {x y:Int × Int} (hx:0 < x.2) (hy:0 < y.2):V (pls x y)=V x + V y:=by
 unfold pls
 rw [NB (Int.mul_pos hx hy)]
 have n1:=d8 hx
 have n2:=d8 hy
 unfold V
 push_cast
 grind
theorem UG {x y:Int × Int} (hx:0 < x.2) (hy:0 < y.2):V (tms x y)=V x * V y:=by
 unfold tms
 rw [NB (Int.mul_pos hx hy)]
 have n1:=d8 hx
 have n2:=d8 hy
 unfold V
 push_cast
 grind
theorem Iw {x y:Int × Int} (hx:0 < x.2) (hy:0 < y.2):x.1 * y.2 < y.1 * x.2 ↔ V x < V y:=by
 have p1:=gK hx
 have p2:=gK hy
 have n1:=d8 hx
 have n2:=d8 hy
 have e1:V x * (x.2:Rat)=(x.1:Rat):=by unfold V; grind
 have e2:V y * (y.2:Rat)=(y.1:Rat):=by unfold V; grind
 have pp:(0:Rat) < (x.2:Rat) * (y.2:Rat):=Rat.mul_pos p1 p2
 have c:x.1 * y.2 < y.1 * x.2 ↔ (x.1:Rat) * (y.2:Rat) < (y.1:Rat) * (x.2:Rat):=by
  constructor
  ·intro h; exact_mod_cast h
  ·intro h; exact_mod_cast h
 rw [c,<- e1,<- e2]
 constructor
 ·intro h
  by_cases z:V x < V y
  ·exact z
  ·have:=Rat.mul_le_mul_of_nonneg_right (Rat.not_lt.mp z) (c:=(x.2:Rat) * (y.2:Rat)) (by grind)
   grind
 ·intro h
  have:=Rat.mul_lt_mul_of_pos_right h pp
  grind
theorem Gh {x y:Int × Int} (fx:Fr.gF x.1 x.2) (fy:Fr.gF y.1 y.2) (h:V x=V y):x=y:=by
 have n1:=d8 fx.pos
 have n2:=d8 fy.pos
 have c:(x.1:Rat) * (y.2:Rat)=(y.1:Rat) * (x.2:Rat):=by unfold V at h; grind
 have c':x.1 * y.2=y.1 * x.2:=by exact_mod_cast c
 have e:=Fr.O8 fx (Int.ne_of_gt fy.pos) c'
 have e2:=Fr.O8 fy (Int.ne_of_gt fy.pos) (rfl:y.1 * y.2=y.1 * y.2)
 exact e.trans e2.symm
def cv (r:Tb.Rw):Rat:=(r.t:Rat) / (r.b:Rat)
def up (l:Rat) (ys:List Tb.Rw):Rat:=(ys.map fun r=>(r.w:Rat) * (uM l (cv r) - l)).sum
def c7 (ys:List Tb.Rw):Rat:=(ys.map fun r=>(r.w:Rat)).sum
theorem tO (l:Rat):up l []=0:=rfl
theorem gZ (l:Rat) (r:Tb.Rw) (ys:List Tb.Rw):up l (r :: ys)=(r.w:Rat) * (uM l (cv r) - l) + up l ys:=by unfold up; rw [List.map_cons,List.sum_cons]
theorem jB (r:Tb.Rw) (ys:List Tb.Rw):c7 (r :: ys)=(r.w:Rat) + c7 ys:=by unfold c7; rw [List.map_cons,List.sum_cons]
theorem Ii (l:Rat) (xs ys:List Tb.Rw):up l (xs ++ ys)=up l xs + up l ys:=by unfold up; rw [List.map_append,List.sum_append]
theorem Bc (xs ys:List Tb.Rw):c7 (xs ++ ys)=c7 xs + c7 ys:=by unfold c7; rw [List.map_append,List.sum_append]
theorem qW:∀ ys:List Tb.Rw,c7 ys=((Tb.W ys:Int):Rat)
 | []=>rfl
 | r :: ys=>by rw [jB,Tb.gB,qW ys]; push_cast; rfl
theorem GQ {f:Int->Int->Rat}{r:Tb.Rw}:∀ {ys:List Tb.Rw},ys.Pairwise Tb.Lt->((ys.map fun y=>(((if r.t=y.t /\ r.b=y.b then r.w else 0:Int)):Rat) * f y.t y.b).sum=if (∃ y ∈ ys,y.t=r.t /\ y.b=r.b) then (r.w:Rat) * f r.t r.b else 0)
 | [],_=>by simp
 | y :: ys,so=>by
  obtain ⟨h1,h2⟩:=List.pairwise_cons.mp so
  rw [List.map_cons,List.sum_cons,GQ (f:=f) (r:=r) h2]
  by_cases e:r.t=y.t /\ r.b=y.b
  ·have no:¬ ∃ z ∈ ys,z.t=r.t /\ z.b=r.b:=by
    rintro ⟨z,hz,e1,e2⟩
    exact Tb.J7 (h1 z hz) (by omega) (by omega)
   rw [if_pos e,if_neg no,if_pos ⟨y,List.mem_cons_self,e.1.symm,e.2.symm⟩,<- e.1,<- e.2]
   grind
  ·rw [if_neg e]
   by_cases h:∃ z ∈ ys,z.t=r.t /\ z.b=r.b
   ·obtain ⟨z,hz,ez⟩:=h
    rw [if_pos ⟨z,hz,ez⟩,if_pos ⟨z,List.mem_cons_of_mem _ hz,ez⟩]
    push_cast
    grind
   ·rw [if_neg h,if_neg]
    ·push_cast
     grind
    ·rintro ⟨z,hz,ez⟩
     rcases List.mem_cons.mp hz with w | w
     ·subst w; exact e ⟨ez.1.symm,ez.2.symm⟩
     ·exact h ⟨z,w,ez⟩
theorem GK {α : Type}{f g:α->Rat}:∀ l:List α,(l.map fun x=>f x + g x).sum=(l.map f).sum + (l.map g).sum
 | []=>by show (0:Rat)=0 + 0; grind
 | x :: l=>by rw [List.map_cons,List.sum_cons,GK l,List.map_cons,List.sum_cons,List.map_cons,List.sum_cons]; grind
theorem yR {α : Type}{f:α->Rat} (d:Rat):∀ l:List α,(l.map fun x=>d * f x).sum=d * (l.map f).sum
 | []=>by simp
 | x :: l=>by rw [List.map_cons,List.sum_cons,yR d l,List.map_cons,List.sum_cons]; grind
theorem Bd {ys:List Tb.Rw} (so:ys.Pairwise Tb.Lt) (f:Int->Int->Rat):∀ {ps:List Tb.Rw},(∀ r ∈ ps,Tb.sO ys r.t r.b)->(ps.map fun r=>(r.w:Rat) * f r.t r.b).sum=(ys.map fun y=>((Tb.Wt ps y.t y.b:Int):Rat) * f y.t y.b).sum
 | [],_=>by
  have e:(ys.map fun y=>((Tb.Wt [] y.t y.b:Int):Rat) * f y.t y.b)=ys.map fun y=>(0:Rat) * f y.t y.b:=List.map_congr_left fun y _=>rfl
  rw [e,yR]
  simp
 | r :: ps,h=>by
  rw [List.map_cons,List.sum_cons,Bd so f fun x hx=>h x (List.mem_cons_of_mem _ hx)]
  have e:(ys.map fun y=>((Tb.Wt (r :: ps) y.t y.b:Int):Rat) * f y.t y.b)=ys.map fun y=>(((if r.t=y.t /\ r.b=y.b then r.w else 0:Int)):Rat) * f y.t y.b + ((Tb.Wt ps y.t y.b:Int):Rat) * f y.t y.b:=List.map_congr_left fun y _=>by
   rw [Tb.lC]
   push_cast
   grind
  rw [e,GK,GQ so,if_pos]
  obtain ⟨y,hy,e1,e2⟩:=h r List.mem_cons_self
  exact ⟨y,hy,e1,e2⟩
theorem BJ {ps ys:List Tb.Rw} (h:Tb.Bv ps ys):∃ d:Rat,0 < d /\ (∀ l,up l ps=d * up l ys) /\ c7 ps=d * c7 ys:=by
 obtain ⟨d,d0,hd⟩:=h.d
 have hh:∀ r ∈ ps,Tb.sO ys r.t r.b:=fun r hr=>(h.has r.t r.b).mpr ⟨r,hr,rfl,rfl⟩
 have key:∀ f:Int->Int->Rat,(ps.map fun r=>(r.w:Rat) * f r.t r.b).sum=(d:Rat) * (ys.map fun y=>(y.w:Rat) * f y.t y.b).sum:=fun f=>by
  rw [Bd h.lt f hh,<- yR]
  congr 1
  refine List.map_congr_left fun y hy=>?_
  rw [hd y hy]
  push_cast
  grind
 refine ⟨(d:Rat),gK d0,fun l=>key fun t b=>uM l ((t:Rat) / (b:Rat)) - l,?_⟩
 have k1:=key fun _ _=>1
 unfold c7
 have e:∀ l:List Tb.Rw,(l.map fun r=>(r.w:Rat) * 1)=l.map fun r=>(r.w:Rat):=fun l=>List.map_congr_left fun r _=>by grind
 rw [e,e] at k1
 exact k1
theorem JF (a b:Rat):a <= uM a b:=by unfold uM; split <;> grind
theorem Gd {l l':Rat} (h:l <= l'):∀ {ys:List Tb.Rw},(∀ r ∈ ys,1 <= r.w)->up l' ys <= up l ys
 | [],_=>by rw [tO,tO]; grind
 | r :: ys,hw=>by
  have a:=Gd h (ys:=ys) fun x hx=>hw x (List.mem_cons_of_mem _ hx)
  have w:=gK (show 0 < r.w by have:=hw r List.mem_cons_self; omega)
  have m:uM l' (cv r) - l' <= uM l (cv r) - l:=by unfold uM; split <;> split <;> grind
  have b:=Rat.mul_le_mul_of_nonneg_left m (c:=(r.w:Rat)) (by grind)
  rw [gZ,gZ]
  grind
theorem JB {ys:List Tb.Rw} (ne:ys ≠ []) (h:∀ r ∈ ys,1 <= r.w):0 < c7 ys:=by
 rw [qW]
 exact gK (Tb.KQ h ne)
theorem Qt {l0 l1:Int} (hl:0 < l1) {r:Tb.Rw} (hb:0 < r.b):cv (Tb.jG l0 l1 r)=(if V (l0,l1) < cv r then V (l0,l1) else cv r) /\ (Tb.jG l0 l1 r).w=r.w:=by
 have e:=Iw (x:=(l0,l1)) (y:=(r.t,r.b)) hl hb
 have e:l0 * r.b < r.t * l1 ↔ V (l0,l1) < cv r:=e
 unfold Tb.jG
 by_cases h:l0 * r.b < r.t * l1
 ·rw [if_pos h,if_pos (e.mp h)]
  exact ⟨rfl,rfl⟩
 ·rw [if_neg h,if_neg (fun z=>h (e.mpr z))]
  exact ⟨rfl,rfl⟩
theorem Dz {l0 l1:Int} (hl:0 < l1) {l:Rat}:∀ {ys:List Tb.Rw},(∀ r ∈ ys,0 < r.b)->up l (ys.map (Tb.jG l0 l1))=(if l < V (l0,l1) then up l ys - up (V (l0,l1)) ys else 0) /\ c7 (ys.map (Tb.jG l0 l1))=c7 ys
 | [],_=>by
  constructor
  ·simp only [List.map_nil,tO]; split <;> grind
  ·rfl
 | r :: ys,h=>by
  obtain ⟨a,b⟩:=Dz (l0:=l0) hl (l:=l) (ys:=ys) fun x hx=>h x (List.mem_cons_of_mem _ hx)
  obtain ⟨c,d⟩:=Qt (l0:=l0) hl (h r List.mem_cons_self)
  rw [List.map_cons,gZ,jB,a,b,c,d,jB,gZ,gZ]
  refine ⟨?_,rfl⟩
  unfold uM
  by_cases h1:l < V (l0,l1)
  ·rw [if_pos h1,if_pos h1]
   by_cases h2:V (l0,l1) < cv r
   ·simp only [if_pos h2]
    rw [if_pos h1,if_pos (show l < cv r by grind)]
    grind
   ·simp only [if_neg h2]
    by_cases h3:l < cv r
    ·rw [if_pos h3]; grind
    ·rw [if_neg h3]; grind
  ·rw [if_neg h1,if_neg h1]
   have:¬ l < (if V (l0,l1) < cv r then V (l0,l1) else cv r):=by split <;> grind
   rw [if_neg this]
   grind
theorem Oz {B l0 l1:Int} (hB:0 < B) (hl:0 < l1):∀ {ys:List Tb.Rw},(∀ r ∈ ys,0 < r.b /\ r.b ∣ B)->((Tb.S B l0 l1 ys:Int):Rat)=(B:Rat) * (l1:Rat) * up (V (l0,l1)) ys
 | [],_=>by rw [tO]; show ((0:Int):Rat)=_; push_cast; grind
 | r :: ys,h=>by
  have a:=Oz (l0:=l0) hB hl (ys:=ys) fun x hx=>h x (List.mem_cons_of_mem _ hx)
  obtain ⟨hb,dv⟩:=h r List.mem_cons_self
  have tm:=Tb.Ga hb hB dv
  have ai:=Tb.Il (l0:=l0) (l1:=l1) hb hB dv
  have e:=Iw (x:=(l0,l1)) (y:=(r.t,r.b)) hl hb
  have e:l0 * r.b < r.t * l1 ↔ V (l0,l1) < cv r:=e
  have n1:=d8 hB
  have n2:=d8 hl
  have n3:=d8 hb
  have tm':((Tb.T B r:Int):Rat) * (r.b:Rat)=(r.t:Rat) * (B:Rat):=by exact_mod_cast tm
  rw [Tb.vO,gZ]
  push_cast
  rw [a]
  unfold Tb.mx uM
  by_cases c:V (l0,l1) < cv r
  ·rw [if_pos (ai.mpr (e.mpr c)),if_pos c]
   push_cast
   unfold V cv
   have t2:((Tb.T B r:Int):Rat)=(r.t:Rat) * (B:Rat) / (r.b:Rat):=by grind
   rw [t2]
   grind
  ·rw [if_neg (fun z=>c (e.mp (ai.mp z))),if_neg c]
   push_cast
   grind
structure LvR (p:Int) (L:Rat) (ys:List Tb.Rw):Prop where
 has:up L ys=(p:Rat) * c7 ys
 more:∀ m:Rat,m < L->(p:Rat) * c7 ys < up m ys
theorem Ou (m:Rat):V (m.num,(m.den:Int))=m:=by
 unfold V
 show (m.num:Rat) / ((m.den:Int):Rat)=m
 rw [<- Rat.divInt_eq_div,Rat.num_divInt_den]
theorem Qm {B p l0 l1:Int}{ys:List Tb.Rw} (hB:0 < B) (h:∀ r ∈ ys,0 < r.b /\ r.b ∣ B) (L:Tb.Lv B (p * Tb.W ys * B) l0 l1 ys):LvR p (V (l0,l1)) ys:=by
 have n1:=d8 hB
 have n2:=d8 L.pos
 have q1:=gK hB
 constructor
 ·have a:=Oz (l0:=l0) hB L.pos h
  rw [L.has] at a
  push_cast at a
  rw [qW]
  grind
 ·intro m hm
  have mp:(0:Int) < (m.den:Int):=by exact_mod_cast m.den_pos
  have lt:=(Iw (x:=(m.num,(m.den:Int))) (y:=(l0,l1)) mp L.pos).mpr (by rw [Ou]; exact hm)
  have b:=L.more m.num m.den lt
  have a:=Oz (l0:=m.num) hB mp h
  rw [Ou] at a
  have b':((p * Tb.W ys * B * (m.den:Int):Int):Rat) < ((Tb.S B m.num m.den ys:Int):Rat):=by exact_mod_cast b
  rw [a] at b'
  push_cast at b'
  have q2:=gK mp
  push_cast at q2
  have q3:(0:Rat) < (B:Rat) * (m.den:Rat):=Rat.mul_pos q1 q2
  rw [qW]
  by_cases z:(p:Rat) * ((Tb.W ys:Int):Rat) < up m ys
  ·exact z
  ·have:=Rat.mul_le_mul_of_nonneg_right (Rat.not_lt.mp z) (c:=(B:Rat) * (m.den:Rat)) (by grind)
   grind
end Sd
namespace Sd
open TD
structure Mt (s:Sd) (d:Nat) (lv:Int × Int) (ys:List Tb.Rw):Prop where
 a:∀ n,d < n->∀ l:Rat,(rb l n s - l) * c7 ys=up l ys
 b:∀ l:Rat,0 < up l ys ↔ l < V lv
 c:∀ n,d < n->N7 (V lv) n s=V lv
 t:0 < c7 ys
inductive Al (d:Nat):List iM->List (Int × Sd)->Prop
 | nil:Al d [] []
 | cons {e:iM}{t:Int × Sd}{es:List iM}{rs:List (Int × Sd)} (w:e.w=t.1) (m:∃ lv,Mt t.2 d lv (cM e.ys)) (h:Al d es rs):Al d (e :: es) (t :: rs)
theorem Al.snoc {d:Nat}{es:List iM}{rs:List (Int × Sd)} (h:Al d es rs) {e:iM}{t:Int × Sd} (w:e.w=t.1) (m:∃ lv,Mt t.2 d lv (cM e.ys)):Al d (es ++ [e]) (rs ++ [t]):=by
 induction h with
 | nil=>exact .cons w m .nil
 | cons w' m' _ ih=>exact .cons w' m' ih
theorem Bq (l:Rat) (k:Int):∀ ys:List cB,up l (ys.map fun y=>⟨y.t,y.b,k * y.w⟩)=(k:Rat) * up l (cM ys) /\ c7 (ys.map fun y=>(⟨y.t,y.b,k * y.w⟩ : Tb.Rw))=(k:Rat) * c7 (cM ys)
 | []=>by
  constructor
  ·show (0:Rat)=(k:Rat) * 0; grind
  ·show (0:Rat)=(k:Rat) * 0; grind
 | y :: ys=>by
  obtain ⟨a,b⟩:=Bq l k ys
  have e:cM (y :: ys)=y.r :: cM ys:=rfl
  rw [List.map_cons,gZ,jB,a,b,e,gZ,jB]
  have e2:cv y.r=cv ⟨y.t,y.b,k * y.w⟩:=rfl
  have e3:y.r.w=y.w:=rfl
  rw [e2,e3]
  push_cast
  constructor <;> grind
theorem KN {S:Int}{d n:Nat} (hn:d < n) (l:Rat) {es:List iM}{rs:List (Int × Sd)} (al:Al d es rs):(∀ e ∈ es,1 <= bN e.ys /\ bN e.ys ∣ S) ->
  up l (cL S es)=(S:Rat) * (rs.map fun t=>(t.1:Rat) * (rb l n t.2 - l)).sum /\ c7 (cL S es)=(S:Rat) * ((fK rs:Int):Rat):=by
 induction al with
 | nil =>
  intro _
  constructor
  ·show (0:Rat)=(S:Rat) * 0; grind
  ·show (0:Rat)=(S:Rat) * ((0:Int):Rat); push_cast; grind
 | @cons e t es rs w m _ ih =>
  intro h
  obtain ⟨a,b⟩:=ih fun x hx=>h x (List.mem_cons_of_mem _ hx)
  obtain ⟨h1,h2⟩:=h e List.mem_cons_self
  obtain ⟨lv,mt⟩:=m
  have ef:=z7 h1 h2
  have ew:c7 (cM e.ys)=((bN e.ys:Int):Rat):=by rw [qW,jV]
  have ef':((pZ S e:Int):Rat) * c7 (cM e.ys)=(t.1:Rat) * (S:Rat):=by
   rw [ew,<- w]
   exact_mod_cast ef
  have ma:=mt.a n hn l
  have pe:cL S (e :: es)=(e.ys.map fun y=>(⟨y.t,y.b,pZ S e * y.w⟩ : Tb.Rw)) ++ cL S es:=rfl
  obtain ⟨u1,u2⟩:=Bq l (pZ S e) e.ys
  have wt:fK (t :: rs)=t.1 + fK rs:=by unfold fK; rw [List.map_cons,List.sum_cons]
  rw [pe,Ii,Bc,u1,u2,a,b,List.map_cons,List.sum_cons,wt,<- ma,ef']
  push_cast
  constructor
  ·have:((pZ S e:Int):Rat) * ((rb l n t.2 - l) * c7 (cM e.ys))=(rb l n t.2 - l) * (((pZ S e:Int):Rat) * c7 (cM e.ys)):=by grind
   rw [this,ef']
   grind
  ·grind
theorem DG (W l:Rat) (n:Nat):∀ (rs:List (Int × Sd)) (z:Rat),rs.foldl (fun a r=>a + (r.1:Rat) / W * rb l n r.2) z=z + (rs.map fun r=>(r.1:Rat) / W * rb l n r.2).sum
 | [],z=>by show z=z + 0; grind
 | r :: rs,z=>by rw [List.foldl_cons,DG W l n rs,List.map_cons,List.sum_cons]; grind
theorem xM {W:Rat} (hW:W ≠ 0) (l:Rat) (n:Nat):∀ rs:List (Int × Sd),(rs.map fun r=>(r.1:Rat) / W * rb l n r.2).sum=(rs.map fun t=>(t.1:Rat) * (rb l n t.2 - l)).sum / W + l * ((fK rs:Int):Rat) / W
 | []=>by show (0:Rat)=0 / W + l * ((0:Int):Rat) / W; push_cast; grind
 | r :: rs=>by
  have wt:fK (r :: rs)=r.1 + fK rs:=by unfold fK; rw [List.map_cons,List.sum_cons]
  rw [List.map_cons,List.sum_cons,xM hW l n rs,List.map_cons,List.sum_cons,wt]
  push_cast
  grind
theorem JR {p:Int}{rs:List (Int × Sd)} (hW:0 < fK rs) (l:Rat) (n:Nat):N7 l (n + 1) (.st p rs)=l - (p:Rat) + (rs.map fun t=>(t.1:Rat) * (rb l n t.2 - l)).sum / ((fK rs:Int):Rat):=by
 have ne:=d8 hW
 show rs.foldl (fun a r=>a + (r.1:Rat) / (fK rs:Rat) * rb l n r.2) (-(p:Rat))=_
 rw [DG,xM ne]
 grind
theorem Yd (v:Int) (d:Nat):Mt (.en v) d (v,1) [⟨v,1,1⟩]:=by
 have e1:V (v,1)=(v:Rat):=by unfold V; push_cast; grind
 have e2:cv ⟨v,1,1⟩ = (v:Rat):=e1
 have e3:c7 [⟨v,1,1⟩]=1:=by rw [jB]; show ((1:Int):Rat) + 0=1; push_cast; grind
 have e4:∀ l:Rat,up l [⟨v,1,1⟩]=uM l (v:Rat) - l:=fun l=>by rw [gZ,e2,tO]; push_cast; grind
 refine ⟨fun n hn l=>?_,fun l=>?_,fun n hn=>?_,by rw [e3]; grind⟩
 ·obtain ⟨n,rfl⟩ : ∃ k,n=k + 1:=⟨n - 1,by omega⟩
  rw [e3,e4]
  show (uM l (v:Rat) - l) * 1=_
  grind
 ·rw [e4,e1]
  unfold uM
  split <;> grind
 ·obtain ⟨n,rfl⟩ : ∃ k,n=k + 1:=⟨n - 1,by omega⟩
  rw [e1]
  rfl
theorem Uc {d:Nat}{es:List iM}{rs:List (Int × Sd)}{S p:Int}{lv:Int × Int}{ys zs:List Tb.Rw} (al:Al d es rs) (hS:0 < S) (hd:∀ e ∈ es,1 <= bN e.ys /\ bN e.ys ∣ S) (hW:0 < fK rs) (o:Tb.Bv (cL S es) ys) (ne:ys ≠ []) (hw:∀ r ∈ ys,1 <= r.w) (hb:∀ r ∈ ys,0 < r.b)
  (lp:0 < lv.2) (L:LvR p (V lv) ys) (o2:Tb.Bv (ys.map (Tb.jG lv.1 lv.2)) zs):Mt (.st p rs) (d + 1) lv zs:=by
 obtain ⟨k1,k1p,u1,t1⟩:=BJ o
 obtain ⟨k2,k2p,u2,t2⟩:=BJ o2
 have Tp:=JB ne hw
 have Wp:=gK hW
 have Sp:=gK hS
 obtain ⟨_,tc⟩:=Dz (l0:=lv.1) lp (l:=0) hb
 have t2':c7 ys=k2 * c7 zs:=by rw [<- tc,t2]
 have op:∀ n,d < n->∀ l:Rat,N7 l (n + 1) (.st p rs)=l - (p:Rat) + up l ys / c7 ys:=fun n hn l=>by
  obtain ⟨a,b⟩:=KN hn l al hd
  rw [JR hW]
  rw [u1] at a
  rw [t1] at b
  have n1:((fK rs:Int):Rat) ≠ 0:=by grind
  have n2:c7 ys ≠ 0:=by grind
  have n3:(S:Rat) ≠ 0:=by grind
  have n4:k1 ≠ 0:=by grind
  have c:(rs.map fun t=>(t.1:Rat) * (rb l n t.2 - l)).sum * c7 ys=up l ys * ((fK rs:Int):Rat):=by
   have e1:(S:Rat) * ((rs.map fun t=>(t.1:Rat) * (rb l n t.2 - l)).sum * c7 ys) * k1=(S:Rat) * (up l ys * ((fK rs:Int):Rat)) * k1:=by grind
   grind
  grind
 have cap:∀ l:Rat,k2 * up l zs=if l < V lv then up l ys - (p:Rat) * c7 ys else 0:=fun l=>by
  rw [<- u2,(Dz (l0:=lv.1) lp (l:=l) hb).1]
  show (if l < V lv then up l ys - up (V lv) ys else 0)=_
  rw [L.has]
 have key:∀ l:Rat,(uM l (l - (p:Rat) + up l ys / c7 ys) - l) * c7 ys=if l < V lv then up l ys - (p:Rat) * c7 ys else 0:=fun l=>by
  have n2:c7 ys ≠ 0:=by grind
  have q:up l ys / c7 ys * c7 ys=up l ys:=by grind
  by_cases h:l < V lv
  ·have m:=L.more l h
   have g:(p:Rat) < up l ys / c7 ys:=by
    by_cases z:(p:Rat) < up l ys / c7 ys
    ·exact z
    ·have:=Rat.mul_le_mul_of_nonneg_right (Rat.not_lt.mp z) (c:=c7 ys) (by grind)
     grind
   unfold uM
   rw [if_pos h,if_pos (by grind)]
   grind
  ·have m:=Gd (l:=V lv) (l':=l) (by grind) hw
   rw [L.has] at m
   have g:¬ (p:Rat) < up l ys / c7 ys:=fun z=>by
    have:=Rat.mul_lt_mul_of_pos_right z Tp
    grind
   unfold uM
   rw [if_neg h,if_neg (by grind)]
   grind
 have tz:0 < c7 zs:=by
  by_cases z:0 < c7 zs
  ·exact z
  ·have:=Rat.mul_le_mul_of_nonneg_left (Rat.not_lt.mp z) (c:=k2) (by grind)
   grind
 refine ⟨fun n hn l=>?_,fun l=>?_,fun n hn=>?_,tz⟩
 ·obtain ⟨n,rfl⟩ : ∃ k,n=k + 1:=⟨n - 1,by omega⟩
  rw [tX,op n (by omega) l]
  have a:=key l
  rw [<- cap l,t2'] at a
  have n4:k2 ≠ 0:=by grind
  rw [t2']
  grind
 ·have c:=cap l
  have n4:k2 ≠ 0:=by grind
  by_cases h:l < V lv
  ·have m:=L.more l h
   rw [if_pos h] at c
   refine ⟨fun _=>h,fun _=>?_⟩
   by_cases z:0 < up l zs
   ·exact z
   ·have:=Rat.mul_le_mul_of_nonneg_left (Rat.not_lt.mp z) (c:=k2) (by grind)
    grind
  ·rw [if_neg h] at c
   refine ⟨fun z=>?_,fun z=>absurd z h⟩
   have:=Rat.mul_lt_mul_of_pos_left z k2p
   grind
 ·obtain ⟨n,rfl⟩ : ∃ k,n=k + 1:=⟨n - 1,by omega⟩
  rw [op n (by omega),L.has]
  have n2:c7 ys ≠ 0:=by grind
  grind
def Rv (s:Sd) (d:Nat) (lv:Int × Int):Prop:=∃ ys,Mt s d lv ys
theorem Rv.iff {s:Sd}{d:Nat}{lv:Int × Int} (h:Rv s d lv) {n:Nat} (hn:d < n) (l:Rat):l < V lv ↔ l < rb l n s:=by
 obtain ⟨ys,m⟩:=h
 rw [<- m.b l,<- m.a n hn l]
 have t:=m.t
 constructor
 ·intro z
  by_cases y:l < rb l n s
  ·exact y
  ·have:=Rat.mul_le_mul_of_nonneg_right (a:=rb l n s - l) (b:=0) (c:=c7 ys) (by grind) (by grind)
   grind
 ·intro z
  exact Rat.mul_pos (by grind) t
theorem N8 {a b:Rat} (h:∀ l:Rat,l < a ↔ l < b):a=b:=by
 have h1:=h a
 have h2:=h b
 grind
theorem Rv.one {s:Sd}{d:Nat}{lv lw:Int × Int} (h:Rv s d lv) (h':Rv s d lw) (f:Fr.gF lv.1 lv.2) (f':Fr.gF lw.1 lw.2):lv=lw :=
 Gh f f' (N8 fun l=>(h.iff (Nat.lt_succ_self d) l).trans (h'.iff (Nat.lt_succ_self d) l).symm)
end Sd
namespace Sd
structure Lw (l:Int × Int):Prop where
 fr:Fr.gF l.1 l.2
 b:l.2 <= 2 ^ 1500
 lo:-(2 ^ 1530 * l.2) <= l.1
 hi:l.1 <= 2 ^ 1530 * l.2
theorem p30:(1000000000:Int) <= 2 ^ 1530:=by decide +kernel
theorem Lw.fq {l:Int × Int} (h:Lw l):FQ l l.2 (2 ^ 1530):=⟨h.fr,Int.dvd_refl _,h.lo,h.hi⟩
theorem Lv.lw {l:Int × Int} (h:Lv l):Lw l:=by
 have p:=h.fr.pos
 have e:(2147483648:Int) <= 2 ^ 1530:=by decide +kernel
 have f:=eU e (Int.le_of_lt p)
 have:=h.lo
 have:=h.hi
 exact ⟨h.fr,Int.le_trans h.b (eF (by decide)),by omega,by omega⟩
end Sd
namespace TD
open PySem L2
open Builtin.Int (intBits)
theorem Vk {x:Int × Int}{N k:Int} (f:Sd.FQ x N k) (hN:0 < N) (hn:N <= 2 ^ 2200) (k0:0 <= k) (hk:k <= 2 ^ 1600):Z4 x:=by
 have h:=pL f hN hn k0 hk
 exact ⟨by omega,by omega,f.fr.pos⟩
theorem Ny {l:Int × Int} (h:Sd.Lw l):Z4 l:=Vk h.fq h.fr.pos (Int.le_trans h.b (Sd.eF (by decide))) (Int.le_of_lt (Sd.bU _)) (Sd.eF (by decide))
end TD
namespace Sd
open TD
end Sd
namespace Sd
def nE:Nat->Sd->Int
 | 0,_=>0
 | _ + 1,.en _=>1
 | n + 1,.st _ rs=>(rs.map fun r=>nE n r.2).sum
def Lh (l:List Int):Int:=l.foldl max 0
def nS:Nat->Sd->Int
 | 0,_=>0
 | _ + 1,.en _=>0
 | n + 1,.st _ rs=>1 + Lh (rs.map fun r=>nS n r.2)
theorem mL:∀ (l:List Int) (a:Int),a <= l.foldl max a /\ (∀ x ∈ l,x <= l.foldl max a) /\ (l.foldl max a=a ∨ l.foldl max a ∈ l)
 | [],a=>⟨Int.le_refl _,(fun _ h=>nomatch h),.inl rfl⟩
 | y :: l,a=>by
  obtain ⟨h1,h2,h3⟩:=mL l (max a y)
  rw [List.foldl_cons]
  refine ⟨by omega,fun x hx=>?_,?_⟩
  ·rcases List.mem_cons.mp hx with e | e
   ·subst e; omega
   ·exact h2 x e
  ·rcases h3 with e | e
   ·rw [e]
    by_cases z:a <= y
    ·right; rw [show max a y=y by omega]; exact List.mem_cons_self
    ·left; omega
   ·exact .inr (List.mem_cons_of_mem _ e)
theorem Qw {l:List Int}{M:Int} (h0:∀ x ∈ l,0 <= x) (hm:M ∈ l) (hx:∀ x ∈ l,x <= M):M=Lh l:=by
 obtain ⟨h1,h2,h3⟩:=mL l 0
 have a:=h2 M hm
 unfold Lh
 rcases h3 with e | e
 ·have:=h0 M hm
  omega
 ·have:=hx _ e
  omega
theorem Ok.nE {s:Sd}{d m:Nat} (ok:Ok s d m):∀ n,d < n->nE n s <= (m:Int):=by
 induction ok with
 | en _ _ hm=>intro n hn; obtain ⟨n,rfl⟩ : ∃ k,n=k + 1:=⟨n - 1,by omega⟩; show (1:Int) <= _; omega
 | @st p rs d m k h0 h9 ne l4 w sub hk ih =>
  intro n hn
  obtain ⟨n,rfl⟩ : ∃ k,n=k + 1:=⟨n - 1,by omega⟩
  show (rs.map fun r=>Sd.nE n r.2).sum <= _
  have key:∀ l:List (Int × Sd),(∀ r ∈ l,r ∈ rs)->(l.map fun r=>Sd.nE n r.2).sum <= (((l.map k).sum:Nat):Int):=by
   intro l
   induction l with
   | nil=>intro _; exact Int.le_refl _
   | cons r l ih2 =>
    intro h
    have a:=ih2 fun x hx=>h x (List.mem_cons_of_mem _ hx)
    have b:=ih r (h r List.mem_cons_self) n (by omega)
    rw [List.map_cons,List.sum_cons,List.map_cons,List.sum_cons]
    push_cast
    omega
  have a:=key rs fun r hr=>hr
  omega
end Sd
namespace TD
open PySem L2
open Builtin.Int (intBits)
structure Cs where
 e:Addr
 s:Addr
def fB (n k:Int) (l cp:Addr):List (Str × V):=[("end_count",.int n),("stage_count",.int k),("level",.ref l),("cap_rows",.ref cp)]
def fE (n k:Int) (l cp:Addr) (v:Int):List (Str × V):=[("end_count",.int n),("stage_count",.int k),("level",.ref l),("cap_rows",.ref cp),("worth",.int v)]
def fS (n k:Int) (l cp:Addr) (p:Int) (r:Addr):List (Str × V):=[("end_count",.int n),("stage_count",.int k),("level",.ref l),("cap_rows",.ref cp),("price",.int p),("rows",.ref r)]
structure QG (H:Hp) (l cp:Addr) (s:Sd.Sd) (lq:Int × Int) (xs:List cB) (n k:Int) (d m:Nat):Prop where
 lv:Tq H l lq
 caps:Cg H cp xs
 gs:Di xs d m
 so:(cM xs).Pairwise Tb.Lt
 n1:1 <= n
 nm:n <= (m:Int)
 k0:0 <= k
 kd:k <= (d:Int)
 mt:Sd.Mt s d lq (cM xs)
 lw:Sd.Lw lq
 nx:n=Sd.nE (d + 1) s
 kx:k=Sd.nS (d + 1) s
inductive dI (c:Cs) (H:Hp):Addr->Sd.Sd->Nat->Nat->Prop
 | en {x dx l cp:Addr}{v n k:Int}{d m:Nat}{xs:List cB} (h:H x=some (.ins c.e dx (fE n k l cp v))) (vv:QG H l cp (.en v) (v,1) xs n k d m) (ok:Sd.Ok (.en v) d m):dI c H x (.en v) d m
 | st {x dx l cp r:Addr}{p n k:Int}{lv:Int × Int}{d m:Nat}{j:Int × Sd.Sd->Nat}{xs:List cB}{rs:List (Int × Sd.Sd)}{ps ys:List Addr} (h:H x=some (.ins c.s dx (fS n k l cp p r))) (vv:QG H l cp (.st p rs) lv xs n k (d + 1) m) (g:H r=some (.tup (ps.map V.ref)))
   (lp:ps.length=rs.length) (ly:ys.length=rs.length) (row:∀ (i:Nat) q y t,ps[i]? = some q->ys[i]? = some y->rs[i]? = some t->H q=some (.tup [.int t.1,.ref y])) (sub:∀ (i:Nat) y t,ys[i]? = some y->rs[i]? = some t->dI c H y t.2 d (j t))
   (p0:0 <= p) (p9:p <= 1000000000) (ne:rs ≠ []) (l4:rs.length <= 4) (w:∀ r ∈ rs,1 <= r.1 /\ r.1 <= 1000) (hk:(rs.map j).sum <= m):dI c H x (.st p rs) (d + 1) m
def Kp (H H':Hp):Prop:=∀ b o,H b=some o->(∀ ps,o ≠ .tbl ps)->(∀ C dx,o ≠ .ins C dx [])->H' b=some o
theorem aN.kp {H H':Hp} (s:aN H H'):Kp H H':=fun b o h _ _=>s b o h
theorem cH.kp {P:Addr}{pos:Pos}{qual:Str}{H H':Hp} (s:cH P H H') (t:fG P pos qual H):Kp H H':=fun b o h n _=>s.get t h n
theorem Kp.trans {H H1 H2:Hp} (a:Kp H H1) (b:Kp H1 H2):Kp H H2:=fun c o h n m=>b c o (a c o h n m) n m
theorem Kp.tup {H H':Hp} (k:Kp H H') {b:Addr}{xs:List V} (h:H b=some (.tup xs)):H' b=some (.tup xs):=k _ _ h (fun _ z=>nomatch z) (fun _ _ z=>nomatch z)
theorem Kp.ins {H H':Hp} (k:Kp H H') {b C dx:Addr}{f:Str × V}{fs:List (Str × V)} (h:H b=some (.ins C dx (f :: fs))):H' b=some (.ins C dx (f :: fs)):=k _ _ h (fun _ z=>nomatch z) (fun _ _ z=>by injection z with _ _ z; exact nomatch z)
theorem Kp.lst {H H':Hp} (k:Kp H H') {b:Addr}{xs:List V} (h:H b=some (.lst xs)):H' b=some (.lst xs):=k _ _ h (fun _ z=>nomatch z) (fun _ _ z=>nomatch z)
theorem gM.kp {H H':Hp}{x:cB} (s:Kp H H') (h:gM H x):gM H' x:=⟨s.tup h.1,s.tup h.2⟩
theorem Cg.kp {H H':Hp}{a:Addr}{xs:List cB} (s:Kp H H') (h:Cg H a xs):Cg H' a xs:=⟨s.tup h.1,fun x hx=>(h.2 x hx).kp s⟩
theorem eZ.kp {H H':Hp}{a:Addr}{xs:List cB} (s:Kp H H') (h:eZ H a xs):eZ H' a xs:=⟨s.lst h.lst,fun x hx=>(h.rows x hx).kp s⟩
theorem QG.kp {H H':Hp}{l cp:Addr}{sd:Sd.Sd}{lv:Int × Int}{xs:List cB}{n k:Int}{d m:Nat} (s:Kp H H') (h:QG H l cp sd lv xs n k d m):QG H' l cp sd lv xs n k d m:=⟨s.tup h.lv,h.caps.kp s,h.gs,h.so,h.n1,h.nm,h.k0,h.kd,h.mt,h.lw,h.nx,h.kx⟩
theorem dI.kp {c:Cs}{H H':Hp}{x:Addr}{s:Sd.Sd}{d m:Nat} (h:dI c H x s d m) (k:Kp H H'):dI c H' x s d m:=by
 induction h with
 | en h vv ok=>exact .en (k.ins h) (vv.kp k) ok
 | st h vv g lp ly row sub p0 p9 ne l4 w hk ih=>exact .st (k.ins h) (vv.kp k) (k.tup g) lp ly (fun i q y t a b c=>k.tup (row i q y t a b c)) ih p0 p9 ne l4 w hk
theorem dI.same {c:Cs}{H H':Hp}{x:Addr}{s:Sd.Sd}{d m:Nat} (k:aN H H') (h:dI c H x s d m):dI c H' x s d m:=h.kp (aN.kp k)
theorem JQ {α β : Type}{ys:List α}{rs:List β} (l:ys.length=rs.length) {r:β} (h:r ∈ rs):∃ (i:Nat) (y:α),ys[i]? = some y /\ rs[i]? = some r:=by
 obtain ⟨i,hi,e⟩:=List.getElem_of_mem h
 exact ⟨i,ys[i]'(by omega),List.getElem?_eq_getElem _,by rw [List.getElem?_eq_getElem hi,e]⟩
theorem dI.ok {c:Cs}{H:Hp}{x:Addr}{s:Sd.Sd}{d m:Nat} (h:dI c H x s d m):Sd.Ok s d m:=by
 induction h with
 | en _ _ ok=>exact ok
 | st h vv g lp ly row sub p0 p9 ne l4 w hk ih=>exact .st p0 p9 ne l4 w (fun r hr=>by obtain ⟨i,y,a,b⟩:=JQ ly hr; exact ih i y r a b) hk
inductive fY (H:Hp):Addr->Sd.Sd->Prop
 | en {a:Addr}{v:Int} (h:H a=some (.tup [.str "end",.int v])):fY H a (.en v)
 | st {a r:Addr}{p:Int}{rs:List (Int × Sd.Sd)}{ps ys:List Addr} (h:H a=some (.tup [.str "stage",.int p,.ref r])) (g:H r=some (.tup (ps.map V.ref))) (lp:ps.length=rs.length) (ly:ys.length=rs.length)
   (row:∀ (i:Nat) q y t,ps[i]? = some q->ys[i]? = some y->rs[i]? = some t->H q=some (.tup [.int t.1,.ref y])) (sub:∀ (i:Nat) y t,ys[i]? = some y->rs[i]? = some t->fY H y t.2):fY H a (.st p rs)
theorem fY.keep {H H':Hp}{a:Addr}{s:Sd.Sd} (h:fY H a s) (k:∀ b xs,H b=some (.tup xs)->H' b=some (.tup xs)):fY H' a s:=by
 induction h with
 | en h=>exact .en (k _ _ h)
 | st h g lp ly row sub ih=>exact .st (k _ _ h) (k _ _ g) lp ly (fun i q y t a b c=>k _ _ (row i q y t a b c)) ih
theorem fY.kp {H H':Hp}{a:Addr}{s:Sd.Sd} (h:fY H a s) (k:Kp H H'):fY H' a s:=h.keep fun b xs e=>k.tup e
theorem fY.same {H H':Hp}{a:Addr}{s:Sd.Sd} (k:aN H H') (h:fY H a s):fY H' a s:=h.keep fun b xs e=>k _ _ e
structure CK (K:PySem.W.Frag) (c:Cs):Prop where
 ce:Dc K c.e
 cs:Dc K c.s
 e1:cJ K c.e "end_count"
 e2:cJ K c.e "stage_count"
 e3:cJ K c.e "level"
 e4:cJ K c.e "cap_rows"
 e5:cJ K c.e "worth"
 s1:cJ K c.s "end_count"
 s2:cJ K c.s "stage_count"
 s3:cJ K c.s "level"
 s4:cJ K c.s "cap_rows"
 s5:cJ K c.s "price"
 s6:cJ K c.s "rows"
structure CT (K:PySem.W.Frag) (c:Cs):Prop where
 hn:PySem.W.specialIn K (.builtin "object.__class__") "__get__" = some (some (.builtin "getset_descriptor.__get__"))
 htk:PySem.W.takesIn K (.builtin "object.__class__")=some true
 ea:PySem.W.findIn K (.ref c.e) "__class__" = some (some (.builtin "object.__class__"))
 em:PySem.W.mroIn K c.e (.type "object")=some true
 sa:PySem.W.findIn K (.ref c.s) "__class__" = some (some (.builtin "object.__class__"))
 sm:PySem.W.mroIn K c.s (.type "object")=some true
 ee:PySem.W.kitOne K (.ref c.e) (.ref c.e)=some true
 se:PySem.W.kitOne K (.ref c.s) (.ref c.e)=some false
 ss:PySem.W.kitOne K (.ref c.s) (.ref c.s)=some true
def Kh (c:Cs):Sp:=fun vs H Q _=>∃ (x:Addr) (s:Sd.Sd) (d m:Nat),vs=[.ref x] /\ dI c H x s d m /\ ∀ n:Int,1 <= n->n <= (m:Int)->n=Sd.nE (d + 1) s->Q (.int n) H
def J9 (c:Cs):Sp:=fun vs H Q _=>∃ (x:Addr) (s:Sd.Sd) (d m:Nat),vs=[.ref x] /\ dI c H x s d m /\ ∀ k:Int,0 <= k->k <= (d:Int)->k=Sd.nS (d + 1) s->Q (.int k) H
def Kf (c:Cs):Sp:=fun vs H Q _=>∃ (x:Addr) (s:Sd.Sd) (d m:Nat),vs=[.ref x] /\ dI c H x s d m /\ ∀ (r:Addr) (H':Hp) (xs:List cB),aN H H'->H r=none->eZ H' r xs->Di xs d m->(cM xs).Pairwise Tb.Lt->(∃ lv,Sd.Mt s d lv (cM xs) /\ Sd.Lw lv)->Q (.ref r) H'
def O3 (c:Cs):Sp:=fun vs H Q _=>∃ (x:Addr) (s:Sd.Sd) (d m:Nat),vs=[.ref x] /\ dI c H x s d m /\ ∀ l lv,Tq H l lv->Sd.Lw lv->Sd.Rv s d lv->Q (.ref l) H
def JZ (c:Cs):Sp:=fun vs H Q _=>∃ (x dx C l a:Addr) (n k:Int) (xs:List cB),vs=[.ref x,.int n,.int k,.ref l,.ref a] /\ (C=c.e ∨ C=c.s) /\ H x=some (.ins C dx []) /\ eZ H a xs ∧
 ∀ (cp:Addr) (H':Hp),H cp=none->(∀ b o,b ≠ x->H b=some o->H' b=some o)->H' x=some (.ins C dx (fB n k l cp))->H' cp=some (.tup (gC xs))->Q .non H'
structure sI (c:Cs) (H:Hp) (ps ys:List Addr) (rs:List (Int × Sd.Sd)) (d:Nat) (j:Int × Sd.Sd->Nat):Prop where
 lp:ps.length=rs.length
 ly:ys.length=rs.length
 row:∀ (i:Nat) q y t,ps[i]? = some q->ys[i]? = some y->rs[i]? = some t->H q=some (.tup [.int t.1,.ref y])
 sub:∀ (i:Nat) y t,ys[i]? = some y->rs[i]? = some t->dI c H y t.2 d (j t)
theorem sI.kp {c:Cs}{H H':Hp}{ps ys:List Addr}{rs:List (Int × Sd.Sd)}{d:Nat}{j:Int × Sd.Sd->Nat} (h:sI c H ps ys rs d j) (k:Kp H H'):sI c H' ps ys rs d j:=⟨h.lp,h.ly,fun i q y t a b e=>k.tup (h.row i q y t a b e),fun i y t a b=>(h.sub i y t a b).kp k⟩
theorem sI.at_ {c:Cs}{H:Hp}{ps ys:List Addr}{rs:List (Int × Sd.Sd)}{d i:Nat}{j:Int × Sd.Sd->Nat}{v:V} (h:sI c H ps ys rs d j) (hv:(ps.map V.ref)[i]? = some v):∃ q y t,ps[i]? = some q /\ ys[i]? = some y /\ rs[i]? = some t /\ v = .ref q /\ H q=some (.tup [.int t.1,.ref y]) /\ dI c H y t.2 d (j t) /\ t ∈ rs:=by
 rw [List.getElem?_map] at hv
 cases e:ps[i]? with
 | none=>rw [e] at hv; cases hv
 | some q =>
  rw [e] at hv
  cases hv
  have hi:=(List.getElem?_eq_some_iff.mp e).1
  have l1:=h.lp
  have l2:=h.ly
  have ey:ys[i]? = some (ys[i]'(by omega)):=List.getElem?_eq_getElem _
  have er:rs[i]? = some (rs[i]'(by omega)):=List.getElem?_eq_getElem _
  exact ⟨q,_,_,rfl,ey,er,rfl,h.row i q _ _ e ey er,h.sub i _ _ ey er,List.mem_of_getElem? er⟩
def Rf (c:Cs):Sp:=fun vs H Q _=>∃ (x:Addr) (p:Int) (rs:List (Int × Sd.Sd)) (d m i:Nat) (t:Int × Sd.Sd),vs=[.ref x,.int (i:Int)] /\ dI c H x (.st p rs) (d + 1) m /\ rs[i]? = some t /\ ∀ (y:Addr) (j:Nat),j <= m->dI c H y t.2 d j->Q (.ref y) H
theorem QX {p q:Addr}{v:Int}{d m:Nat} (h0:0 <= v) (h9:v <= 1000000000) (hm:1 <= m):Di [⟨p,q,v,1,1⟩] d m:=by
 have e:bK [⟨p,q,v,1,1⟩]=1:=by show dG [1]=1; decide
 have w1:bN [(⟨p,q,v,1,1⟩ : cB)]=1:=rfl
 have wp:=Sd.bU ((12 * d + 1) * m)
 have bp:=Sd.bU (be d * m)
 have k9:=k30 d
 unfold Di
 rw [e]
 refine ⟨⟨by simp,by show 1 <= m; exact hm,fun x hx=>?_,by rw [w1]; unfold wB; omega,by decide,fun x hx=>?_⟩,by omega⟩
 ·rw [List.mem_singleton.mp hx]; exact Int.le_refl _
 ·rw [List.mem_singleton.mp hx]
  exact ⟨Sd.fr1 v,Int.dvd_refl _,by show -(kK d * 1) <= v; omega,by show v <= kK d * 1; omega⟩
def DX (x:Addr) (H H':Hp):Prop:=∀ b o,b ≠ x->H b=some o->H' b=some o
theorem DX.kp {x C dx:Addr}{H H':Hp} (s:DX x H H') (hx:H x=some (.ins C dx [])):Kp H H':=fun b o h _ n=>s b o (fun e=>by rw [e,hx] at h; cases h; exact n C dx rfl) h
theorem fG.sameX {P x C dx:Addr}{pos:Pos}{qual:Str}{fs:List (Str × V)}{H H':Hp} (t:fG P pos qual H) (s:DX x H H') (hx:H x=some (.ins C dx fs)):fG P pos qual H':=by
 rcases t with t | ⟨c,t,u⟩
 ·exact .inl (s _ _ (bO t hx fun z=>nomatch z) t)
 ·exact .inr ⟨c,s _ _ (bO t hx fun z=>nomatch z) t,s _ _ (bO u hx fun z=>by unfold uH at z; exact nomatch z) u⟩
theorem JM {c:Cs}{H H0:Hp}{y:Addr}{s:Sd.Sd}{d m:Nat}{σ : St}{ta:TE}{nm:Str}{sp:Sp}{Q:VK} (st:dI c H y s d m) (le:∀ n k l cp v,(fE n k l cp v).lookup nm=none) (ls:∀ n k l cp p r,(fS n k l cp p r).lookup nm=none) (hv:∀ R:VK,R (.ref y) H->ta σ H0 R) (q:sp [.ref y] H Q E0) :
  xY c.e nm sp [] E0 ta uT σ H0 Q ∨ xY c.s nm sp [] E0 ta uT σ H0 Q:=by
 cases st with
 | en h vv ok=>exact .inl (hv _ ⟨y,_,_,rfl,h,le _ _ _ _ _,q⟩)
 | st h vv g lp ly row sub p0 p9 ne l4 w hk=>exact .inr (hv _ ⟨y,_,_,rfl,h,ls _ _ _ _ _ _,q⟩)
def GZ (K:PySem.W.Frag):Sp:=fun vs H Q _=>∃ (a:Addr) (ns:List Int) (k:Int),vs=[.ref a,.int k] /\ bR K H a (ns.map V.int) /\ 0 <= k /\ ∀ j,Q (.int j) H
def O6:Sp:=fun vs H Q _=>∃ c k:Int,vs=[.int c,.int k] /\ 0 <= k /\ k <= 100000 /\ ∀ j,0 <= j->j < 2147483587->Q (.int j) H
def pp:Nat->Nat->Nat
 | 0,_=>2
 | d + 1,m=>((List.range 4).map fun i=>if i + 1 <= m then 2 + (i + 1) * (1 + pp d (m / (i + 1))) else 2).foldl max 2
def Lq (c:Cs) (Pt:Addr) (lp:Pos) (n:Nat):Sp:=fun vs H Q _=>∃ (a:Addr) (s:Sd.Sd) (d m:Nat),vs=[.ref a] /\ fY H a s /\ Sd.Ok s d m /\ d < n /\ d <= 4 /\ m <= 12 /\ fG Pt lp lK H /\ ∀ (x:Addr) (H':Hp),cH Pt H H'->fG Pt lp lK H'->dI c H' x s d m->Q (.ref x) H'
def tM (K:PySem.W.Frag) (Pt:Addr) (lp:Pos):Sp:=fun vs H Q _=>∃ (a:Addr) (ns:List Int),vs=[.ref a] /\ bR K H a (ns.map V.int) /\ ns.length <= 63 /\ H Pt=some (.tbl #[]) /\ ∀ H',Q (.bl true) H'
theorem Ko {v:Int} (h0:0 <= v) (h9:v <= 1000000000):Sd.Lw (v,1):=by
 have:=Sd.p30
 exact ⟨Sd.fr1 v,Sd.bU 1500,by show -(2 ^ 1530 * 1) <= v; omega,by show v <= 2 ^ 1530 * 1; omega⟩
theorem be4:∀ d,d + 1 <= 4->be (d + 1) <= 125 /\ ka (d + 1) <= 1530
 | 0,_=>by decide
 | 1,_=>by decide
 | 2,_=>by decide
 | 3,_=>by decide
 | d + 4,h=>by omega
theorem Tz {ys:List cB}{l:Int × Int}{M k:Int}{d m:Nat} (x:Lx ys l M k d m) (hd:d + 1 <= 4) (hm:m <= 12):Sd.Lw l:=by
 obtain ⟨b1,b2⟩:=be4 d hd
 have a:=Int.le_of_dvd x.g.mp x.f.dv
 have e:(2:Int) ^ (be (d + 1) * m) <= 2 ^ 1500:=Sd.eF (Nat.le_trans (Nat.mul_le_mul b1 hm) (by decide))
 have g:k <= 2 ^ 1530:=Int.le_trans x.k (Sd.eF b2)
 have h:=Sd.eU g (Int.le_of_lt x.f.fr.pos)
 have:=x.f.lo
 have:=x.f.hi
 exact ⟨x.f.fr,Int.le_trans a (Int.le_trans x.m e),by omega,by omega⟩
theorem Yk {d:Nat}{es:List iM}{rs:List (Int × Sd.Sd)}{p:Int}{lv:Int × Int}{ys zs:List cB}{n:Nat}{W k W0 kk:Int}{k0:Nat} (al:Sd.Al d es rs) (gm:GM es k0 W0 kk) (hW:0 < Sd.fK rs) (o:HS (cL (dG (cO es)) es) ys) (g:GT ys n W (bK ys) k)
  (lp:0 < lv.2) (L:Tb.Lv (bK ys) (p * Tb.W (cM ys) * bK ys) lv.1 lv.2 (cM ys)) (o2:HS ((cM ys).map (Tb.jG lv.1 lv.2)) zs):Sd.Mt (.st p rs) (d + 1) lv (cM zs):=by
 obtain ⟨S1,_,_,S2⟩:=gm.S
 have fr:∀ r ∈ cM ys,0 < r.b /\ r.b ∣ bK ys:=fun r hr=>by
  obtain ⟨y,hy,rfl⟩:=List.mem_map.mp hr
  exact ⟨(g.fq y hy).fr.pos,(g.fq y hy).dv⟩
 refine Sd.Uc al S1 (fun e he=>⟨(gm.g e he).tot,S2 e he⟩) hW o.tab (fun e=>g.ne (List.map_eq_nil_iff.mp e)) (fun r hr=>?_) (fun r hr=>(fr r hr).1) lp (Sd.Qm g.mp fr L) o2.tab
 obtain ⟨y,hy,rfl⟩:=List.mem_map.mp hr
 exact g.w1 y hy
end TD
namespace TD
open PySem L2
open Builtin.Int (intBits)
inductive Fy (H:Hp):Nat->V->V->Prop
 | int (n:Nat) (i:Int):Fy H n (.int i) (.int i)
 | str (n:Nat) (x:Str):Fy H n (.str x) (.str x)
 | tup {n:Nat}{a b:Addr}{xs ys:List V} (ha:H a=some (.tup xs)) (hb:H b=some (.tup ys)) (l:xs.length=ys.length) (h:∀ (j:Nat) x y,xs[j]? = some x->ys[j]? = some y->Fy H n x y):Fy H (n + 1) (.ref a) (.ref b)
 | lst {n:Nat}{a b:Addr}{xs ys:List V} (ha:H a=some (.lst xs)) (hb:H b=some (.lst ys)) (l:xs.length=ys.length) (h:∀ (j:Nat) x y,xs[j]? = some x->ys[j]? = some y->Fy H n x y):Fy H (n + 1) (.ref a) (.ref b)
theorem Fy.same {H H':Hp} (s:aN H H') {n:Nat}{x y:V} (h:Fy H n x y):Fy H' n x y:=by
 induction h with
 | int n i=>exact .int n i
 | str n x=>exact .str n x
 | tup ha hb l _ ih=>exact .tup (s _ _ ha) (s _ _ hb) l ih
 | lst ha hb l _ ih=>exact .lst (s _ _ ha) (s _ _ hb) l ih
theorem Fy.mono {H:Hp}{n:Nat}{x y:V} (h:Fy H n x y):∀ {m:Nat},n <= m->Fy H m x y:=by
 induction h with
 | int n i=>intro m _; exact .int m i
 | str n x=>intro m _; exact .str m x
 | tup ha hb l _ ih=>intro m hm; obtain ⟨m,rfl⟩ : ∃ k,m=k + 1:=⟨m - 1,by omega⟩; exact .tup ha hb l fun j x y a b=>ih j x y a b (by omega)
 | lst ha hb l _ ih=>intro m hm; obtain ⟨m,rfl⟩ : ∃ k,m=k + 1:=⟨m - 1,by omega⟩; exact .lst ha hb l fun j x y a b=>ih j x y a b (by omega)
theorem Fy.de {K:PySem.W.Frag}{H:Hp}{n:Nat}{x y:V} (h:Fy H n x y):DE K H n x y true:=by
 induction h with
 | int n i=>have d:=DE.int (K:=K) (H:=H) n i i; rwa [beq_self_eq_true] at d
 | str n x=>have d:=DE.str (K:=K) (H:=H) n x x; rwa [beq_self_eq_true] at d
 | @tup n a b xs ys ha hb l _ ih =>
  have d:=DE.tup (K:=K) (n:=n) (fun _=>true) (bQ.of ha) (bQ.of hb) ih
  have e:((List.range (min xs.length ys.length)).all (fun _=>true) && xs.length == ys.length)=true:=by rw [l]; simp
  rwa [e] at d
 | @lst n a b xs ys ha hb l _ ih =>
  have d:=DE.lst (K:=K) (n:=n) (fun _=>true) (bR.of ha) (bR.of hb) l ih
  have e:(List.range xs.length).all (fun _=>true)=true:=by simp
  rwa [e] at d
structure Wv where
 w:List Int
 p:Int × Int
 c:Int × Int
 v:Int
structure Wy where
 a:Addr
 q:Addr
 b:Addr
 e:Addr
 z:Wv
def Ei (H:Hp) (y:Wy):Prop:=H y.a=some (.tup [.ref y.q,.ref y.b,.ref y.e,.int y.z.v]) /\ H y.q=some (.tup (Is y.z.w)) /\ Tq H y.b y.z.p /\ Tq H y.e y.z.c
def wV (ys:List Wy):List V:=ys.map fun y=>V.ref y.a
structure yH (H:Hp) (a:Addr) (ys:List Wy):Prop where
 lst:H a=some (.lst (wV ys))
 each:∀ y ∈ ys,Ei H y
theorem Ei.same {H H':Hp} (s:aN H H') {y:Wy} (h:Ei H y):Ei H' y:=⟨s _ _ h.1,s _ _ h.2.1,s _ _ h.2.2.1,s _ _ h.2.2.2⟩
theorem yH.same {H H':Hp} (s:aN H H') {a:Addr}{ys:List Wy} (h:yH H a ys):yH H' a ys:=⟨s _ _ h.lst,fun y hy=>(h.each y hy).same s⟩
theorem Er (ys:List Wy) (y:Wy):wV (ys ++ [y])=wV ys ++ [V.ref y.a]:=by unfold wV; rw [List.map_append]; rfl
theorem yH.push {H:Hp}{a:Addr}{ys:List Wy}{y:Wy} (h:yH H a ys) (hy:Ei H y):yH (aY H a (.lst (wV ys ++ [.ref y.a]))) a (ys ++ [y]):=by
 have k:∀ z,Ei H z->Ei (aY H a (.lst (wV ys ++ [.ref y.a]))) z:=fun z hz =>
  ⟨by rw [aK (bO hz.1 h.lst fun w=>nomatch w)]; exact hz.1,by rw [aK (bO hz.2.1 h.lst fun w=>nomatch w)]; exact hz.2.1,by unfold Tq; rw [aK (bO hz.2.2.1 h.lst fun w=>nomatch w)]; exact hz.2.2.1,by unfold Tq; rw [aK (bO hz.2.2.2 h.lst fun w=>nomatch w)]; exact hz.2.2.2⟩
 refine ⟨by rw [aB,Er],fun z hz=>?_⟩
 rcases List.mem_append.mp hz with w | w
 ·exact k z (h.each z w)
 ·rw [List.mem_singleton.mp w]
  exact k y hy
end TD
namespace Sd
open TD
def lss (L c:Int × Int):Int × Int:=if c.1 * L.2 < L.1 * c.2 then c else L
def JK (L:Int × Int) (j:Nat) (sh:Int × Int) (y:Wv):Wv:=⟨(j:Int) :: y.w,tms sh y.p,lss L y.c,y.v⟩
def MK (L:Int × Int) (rs:List (Int × Sd)) (wss:List (List Wv)) (j:Nat):List Wv:=match rs[j]?,wss[j]? with
 | some t,some ws=>ws.map (JK L j (Fr.sh t.1 (fK rs)))
 | _,_=>[]
def KZ (L:Int × Int) (rs:List (Int × Sd)) (wss:List (List Wv)) (i:Nat):List Wv:=(List.range i).flatMap (MK L rs wss)
inductive WR:Nat->Sd->List Wv->Prop
 | en (v:Int) (d:Nat):WR d (.en v) [⟨[],(1,1),(v,1),v⟩]
 | st {p:Int}{rs:List (Int × Sd)}{d:Nat}{L:Int × Int}{wss:List (List Wv)} (rv:Rv (.st p rs) (d + 1) L) (lw:Lw L) (l:wss.length=rs.length) (h:∀ (i:Nat) t ws,rs[i]? = some t->wss[i]? = some ws->WR d t.2 ws):WR (d + 1) (.st p rs) (KZ L rs wss rs.length)
theorem WR.one {d:Nat}{s:Sd}{ws:List Wv} (h:WR d s ws):∀ {ws':List Wv},WR d s ws'->ws=ws':=by
 induction h with
 | en v d=>intro ws' h'; cases h'; rfl
 | @st p rs d L wss rv lw l h ih =>
  intro ws' h'
  cases h' with
  | @st _ _ _ L' wss' rv' lw' l' h' =>
   have e:=rv.one rv' lw.fr lw'.fr
   subst e
   have e2:wss=wss':=by
    refine List.ext_getElem? fun i=>?_
    by_cases hi:i < rs.length
    ·have a:wss[i]? = some (wss[i]'(by omega)):=List.getElem?_eq_getElem _
     have b:wss'[i]? = some (wss'[i]'(by omega)):=List.getElem?_eq_getElem _
     have r:rs[i]? = some (rs[i]'hi):=List.getElem?_eq_getElem _
     rw [a,b,ih i _ _ r a (h' i _ _ r b)]
    ·rw [List.getElem?_eq_none (by omega),List.getElem?_eq_none (by omega)]
   rw [e2]
theorem Hk {L:Int × Int}{rs:List (Int × Sd)}{wss:List (List Wv)}{i:Nat}{t:Int × Sd}{ws:List Wv} (ht:rs[i]? = some t) (hw:wss[i]? = some ws):KZ L rs wss (i + 1)=KZ L rs wss i ++ ws.map (JK L i (Fr.sh t.1 (fK rs))):=by
 unfold KZ
 rw [List.range_succ,List.flatMap_append]
 congr 1
 show [i].flatMap (MK L rs wss)=_
 rw [List.flatMap_cons,List.flatMap_nil,List.append_nil]
 unfold MK
 rw [ht,hw]
structure WB (d:Nat) (y:Wv):Prop where
 p:∃ N:Int,0 < N /\ N <= 2 ^ (12 * d) /\ FQ y.p N 1
 c:Lw y.c
 l:y.w.length <= d
theorem Pu {L c:Int × Int} (a:Lw L) (b:Lw c):Lw (lss L c):=by unfold lss; split <;> assumption
theorem Mf {d:Nat}{y:Wv}{L sh:Int × Int}{W:Int}{j:Nat} (h:WB d y) (lw:Lw L) (W0:0 < W) (W9:W <= 4000) (f:FQ sh W 1) (f0:0 <= sh.1):WB (d + 1) (JK L j sh y):=by
 obtain ⟨N,n0,n1,g⟩:=h.p
 refine ⟨⟨W * N,Int.mul_pos W0 n0,?_,FQ.tms f f0 g (by decide)⟩,Pu lw h.c,by show y.w.length + 1 <= d + 1; have:=h.l; omega⟩
 have a:W * N <= 2 ^ 12 * N:=eU (by omega) (Int.le_of_lt n0)
 have b:(2 ^ 12:Int) * N <= 2 ^ 12 * 2 ^ (12 * d):=Int.mul_le_mul_of_nonneg_left n1 (by decide)
 rw [<- Int.pow_add] at b
 rw [show 12 * (d + 1)=12 + 12 * d by omega]
 exact Int.le_trans a b
theorem WR.wb {d:Nat}{s:Sd}{ws:List Wv} (h:WR d s ws):∀ {m:Nat},Ok s d m->d <= 4->∀ y ∈ ws,WB d y:=by
 induction h with
 | en v d =>
  intro m ok d4 y hy
  rw [List.mem_singleton.mp hy]
  cases ok with
  | en h0 h9 hm=>exact ⟨⟨1,by decide,bU _,⟨fr1 1,Int.dvd_refl _,(by show -(1 * (1:Int)) <= 1; decide),(by show (1:Int) <= 1 * 1; decide)⟩⟩,Ko h0 h9,Nat.zero_le _⟩
 | @st p rs d L wss rv lw l h ih =>
  intro m ok d4 y hy
  cases ok with
  | st h0 h9 ne l4 w sub hk =>
   have W:=Ks ne w l4
   obtain ⟨j,hj,hy⟩:=List.mem_flatMap.mp hy
   have hj:=List.mem_range.mp hj
   have er:rs[j]? = some (rs[j]'hj):=List.getElem?_eq_getElem _
   have ew:wss[j]? = some (wss[j]'(by omega)):=List.getElem?_eq_getElem _
   unfold MK at hy
   rw [er,ew] at hy
   obtain ⟨z,hz,rfl⟩:=List.mem_map.mp hy
   have mem:=List.mem_of_getElem? er
   have s1:=aAY (w _ mem).1 (Ip w mem)
   exact Mf (ih j _ _ er ew (sub _ mem) (by omega) z hz) lw (by omega) W.2 s1.1 s1.2
theorem WR.len {d:Nat}{s:Sd}{ws:List Wv} (h:WR d s ws):(ws.length:Int)=nE (d + 1) s:=by
 induction h with
 | en v d=>rfl
 | @st p rs d L wss rv lw l h ih =>
  have key:∀ i,i <= rs.length->((KZ L rs wss i).length:Int)=((rs.take i).map fun r=>nE (d + 1) r.2).sum:=by
   intro i
   induction i with
   | zero=>intro _; rfl
   | succ i ih2 =>
    intro hi
    have er:rs[i]? = some (rs[i]'(by omega)):=List.getElem?_eq_getElem _
    have ew:wss[i]? = some (wss[i]'(by omega)):=List.getElem?_eq_getElem _
    rw [Hk er ew,List.length_append,List.length_map,List.take_add_one,er]
    show _=(List.map _ (List.take i rs ++ [rs[i]'(by omega)])).sum
    rw [List.map_append,List.sum_append,<- ih2 (by omega)]
    show _=_ + (nE (d + 1) (rs[i]'(by omega)).2 + 0)
    rw [<- ih i _ _ er ew]
    push_cast
    omega
  rw [key _ (Nat.le_refl _),List.take_length]
  rfl
end Sd
namespace TD
open PySem L2
def xO (c:Cs) (b:Bool):Sp:=fun vs H Q _=>∃ (x:Addr),vs=[.ref x] /\ Q (.bl b) H
end TD
namespace Sd
theorem QF {l:List Int}{x:Int} (h:x ∈ l):x <= Lh l:=(mL l 0).2.1 x h
theorem yI:∀ (n:Nat) (s:Sd),0 <= nE n s
 | 0,_=>Int.le_refl _
 | _ + 1,.en _=>by show (0:Int) <= 1; decide
 | n + 1,.st _ rs=>by
  show 0 <= (rs.map fun r=>nE n r.2).sum
  have key:∀ l:List (Int × Sd),0 <= (l.map fun r=>nE n r.2).sum:=by
   intro l
   induction l with
   | nil=>exact Int.le_refl _
   | cons r l ih=>rw [List.map_cons,List.sum_cons]; have:=yI n r.2; omega
  exact key rs
theorem XD {s:Sd}{d m:Nat} (ok:Ok s d m):∀ {d' m':Nat},nE (d + 1) s <= (m':Int)->nS (d + 1) s <= (d':Int)->Ok s d' m':=by
 induction ok with
 | @en v d m h0 h9 hm =>
  intro d' m' h1 h2
  have h1:(1:Int) <= (m':Int):=h1
  exact .en h0 h9 (by omega)
 | @st p rs d m f h0 h9 ne l4 w sub hk ih =>
  intro d' m' h1 h2
  have h1:(rs.map fun r=>nE (d + 1) r.2).sum <= (m':Int):=h1
  have h2:1 + Lh (rs.map fun r=>nS (d + 1) r.2) <= (d':Int):=h2
  have mp:=(mL (rs.map fun r=>nS (d + 1) r.2) 0).1
  obtain ⟨e,rfl⟩ : ∃ e,d'=e + 1:=⟨d' - 1,by unfold Lh at h2; omega⟩
  refine .st (f:=fun r=>(nE (d + 1) r.2).toNat) h0 h9 ne l4 w (fun r hr=>ih r hr ?_ ?_) ?_
  ·have:=yI (d + 1) r.2; omega
  ·have:=QF (List.mem_map.mpr ⟨r,hr,rfl⟩ : nS (d + 1) r.2 ∈ rs.map fun r=>nS (d + 1) r.2)
   push_cast at h2
   omega
  ·have key:∀ l:List (Int × Sd),(((l.map fun r=>(nE (d + 1) r.2).toNat).sum:Nat):Int)=(l.map fun r=>nE (d + 1) r.2).sum:=by
    intro l
    induction l with
    | nil=>rfl
    | cons r l ih2 =>
     rw [List.map_cons,List.sum_cons,List.map_cons,List.sum_cons]
     push_cast
     rw [ih2]
     have:=yI (d + 1) r.2
     omega
   have:=key rs
   omega
theorem X5 {s:Sd}{d m:Nat} (ok:Ok s d m):nS (d + 1) s <= (d:Int):=by
 induction ok with
 | @en v d m _ _ _=>show (0:Int) <= _; omega
 | @st p rs d m f h0 h9 ne l4 w sub hk ih =>
  show 1 + Lh (rs.map fun r=>nS (d + 1) r.2) <= _
  have h:=(mL (rs.map fun r=>nS (d + 1) r.2) 0).2.2
  have:Lh (rs.map fun r=>nS (d + 1) r.2) <= (d:Int):=by
   rcases h with e | e
   ·unfold Lh; omega
   ·obtain ⟨r,hr,e2⟩:=List.mem_map.mp e
    have:=ih r hr
    unfold Lh
    omega
  push_cast
  omega
end Sd
namespace L2
open PySem PySem.Spec PyProof.Rows
abbrev RP:List Value:=[.type "ValueError",.type "Exception",.type "BaseException",.type "object"]
theorem rO.obj {K:PySem.W.Frag}{h:Heap}{C:Addr} (x:rO K C) (k:K.In h):∃ (bm:List Value) (N:Addr) (nm q:Str) (bs:List Value) (hdct:Bool) (sn:List Str) (sub:List Value) (ab:Bool) (col:Option Bool) (dd:Option Addr) (k0 k1 k2 k3 k5:Option Value) (mN:Str->Option Value),
  h.get? C=some (excClassObj nm q C N bs bm hdct sn sub ab col dd k0 k1 k2 k3 k5 "ValueError.__new__") /\ h.Ns N mN /\ mN "__init__" = none /\ OwnTail h RP bm:=by
 have z:=x.isx
 unfold PySem.W.excIn at z
 split at z
 case h_2=>cases z
 case h_1 dd cd sl ho =>
  split at z
  case h_2=>cases z
  case h_1 C' bm k0 k1 k2 k3 n k5 hm hs =>
   simp only [Bool.and_eq_true,beq_iff_eq,Bool.not_eq_true'] at z
   obtain ⟨⟨⟨⟨⟨e1,e2⟩,hdel⟩,ht⟩,hok⟩,hni⟩:=z
   subst e1
   subst e2
   obtain ⟨nm,bs,mro,ns,qn,hd,sn,sub,ab,col,del⟩:=cd
   dsimp only at hm hdel hok hni
   subst hm
   subst hdel
   obtain ⟨l⟩:=sl
   obtain rfl:l=[k0,k1,k2,k3,some (.builtin "ValueError.__new__"),k5]:=hs
   have g:=k _ _ ho
   have nn:=PySem.W.isNs_of_in k hok
   exact ⟨bm,ns,nm,qn,bs,hd,sn,sub,ab,col,dd,k0,k1,k2,k3,k5,_,g,.of_isNs nn,PySem.W.nsMap_none_of_in k hok hni,PySem.W.tail_of_in k ht⟩
theorem iI {X:Cx}{x:Str}{C:Addr}{E:XK}{np cpos pos:Pos} (T:Iz X E) (hc:X.calm=true) (hg:Gl X x) (hm:X.mg x=some (.ref C)) (xc:rO X.K C) (hd:(x == ("__debug__" : Str))=false:=by decide) :
  PS X (.Raise (some (.Call (.Name x np) [] [] cpos)) none pos) (fun _ _ H=>E (.ref C) none H):=by
 intro pins s σ H D I h
 obtain ⟨bm,N,nm,q,bs,hdct,sn,sub,ab,col,dd,k0,k1,k2,k3,k5,mN,hC,hN,hni,TL⟩:=xc.obj I.kIn
 refine wpAny_Raise_call_subT (C:=C) (nm:=nm) (q:=q) (N:=N) (bs:=bs) (bm:=bm) (hdct:=hdct) (sn:=sn) (sub:=sub) (ab:=ab) (col:=col) (dd:=dd) (k0:=k0) (k1:=k1) (k2:=k2) (k3:=k3) (k5:=k5) PySem.F.excBase_ValueError (mN:=mN)
  (TL.hasType PySem.F.excBase_ValueError.hasBase) (I.ok.hd hc) rfl hni (pM I hg hm ⟨rfl,?_⟩ hd)
 exact evalArgs_empty ⟨rfl,Nat.zero_le _,hC,hN,TL,fun h' e mk=>T pins σ H s h' e _ _ I mk h⟩
section
variable {P:Program}{w:World}{K:PySem.W.Frag}{mg:Str->Option Value}{base:Heap}
theorem fH.okX {x qual:Str}{st:Stmt}{f:Addr}{fd:FuncData}{N ps:List Str}{k:Nat}{sp:Sp} (F:fH K x qual st f fd) (S:aO N ps (aM st)) (len:∀ vs H Q E,sp vs H Q E->vs.length=ps.length)
  (hbody:∀ (cdv:Value) (A:Around) (outer:List Env) (s:Shared) (H:Hp) (vs:List V) (Q:VK) (E:XK),fD k (A.deeper (envOfC qual (aM st) s.heap.objs.size f cdv))->sp vs H Q E ->
   ∃ t,rT (tU (nF P w) P w K mg base N qual (aM st) f cdv A outer s H E) (fV st) t /\ t { nx:=fun _ H'=>Q .non H',rt:=Q } (start N vs) H):aV P w K mg base (nF P w) (k + 1) f fd ps sp:=by
 obtain ⟨oc,od,kV,doc,pm,an,cdv,ct,osl,rfl,lk,hcd⟩:=F.ex
 exact Fd lk hcd S len fun A outer s H vs Q E hr hsp=>hbody cdv A outer s H vs Q E hr hsp
def PS0 (X:Cx) (st:Stmt) (t:TS):Prop :=
 ∀ (s:Shared) (σ : St) (H:Hp) (D:rJ),aZ X [] σ H s->t D σ H->wpAny (model X.prog X.w) X.A (exec st X.env) (SP X [] D) X.xe s
def aAo (X:Cx) (st:List Stmt) (t:TS):Prop :=
 ∀ (s:Shared) (σ : St) (H:Hp) (D:rJ),aZ X [] σ H s->t D σ H->wpAny (model X.prog X.w) X.A (execs st X.env) (SP X [] D) X.xe s
theorem rT.zero {X:Cx}{st:List Stmt}{t:TS} (h:rT X st t):aAo X st t:=fun s σ H D I q=>h [] s σ H D I q
theorem PS.zero {X:Cx}{st:Stmt}{t:TS} (h:PS X st t):PS0 X st t:=fun s σ H D I q=>h [] s σ H D I q
end
end L2
namespace L2
open PySem PySem.Spec PyProof.Rows
section
variable {X:Cx}{σ : St}{H:Hp}{s:Shared}{a:Addr}{h':Heap}{B:Heap}
end
section
variable {X:Cx}
end
end L2
namespace L2
open PySem PySem.Spec PyProof.Rows
structure zH (P:Program) (w:World) (K:PySem.W.Frag) (mg:Str->Option Value) (base:Heap) (n:Nat) (x:Str) (ps:List Str) (sp:Sp) (g:Addr) (gd:FuncData):Prop where
 ok:aV P w K mg base (nF P w) n g gd ps sp
 bi:bI K gd ps []
 kp:PySem.W.keepIn K (.ref g)=true
 at_:mg x=some (.ref g)
theorem zH.up {P:Program}{w:World}{K:PySem.W.Frag}{mg:Str->Option Value}{base:Heap}{n m:Nat}{x:Str}{ps:List Str}{sp:Sp}{g:Addr}{gd:FuncData} (c:zH P w K mg base n x ps sp g gd) (h:n <= m):zH P w K mg base m x ps sp g gd:=⟨c.ok.mono h,c.bi,c.kp,c.at_⟩
theorem mR {X:Cx}:jE (nF X.prog X.w) X E0:=fun _ _ _ _ _ _ _ ⟨_,_,_,_,_,_,_,_,_,_,_,_,_,h⟩=>False.elim h
theorem Jd {X:Cx}{n:Nat}{x:Str}{ps:List Str}{sp:Sp}{g:Addr}{gd:FuncData}{E:XK}{p pos:Pos}{e:Expr}{es:List Expr}{t:TA} (c:zH X.prog X.w X.K X.mg X.base n x ps sp g gd) (hr:fD n X.A) (hx:jE (nF X.prog X.w) X E) (ha:PA X (e :: es) t) (hg:Gl X x:=by rfl)
  (hd:(x == ("__debug__" : Str))=false:=by decide) (he:starEach (e :: es) X.env=(false,eval e X.env) :: starEach es X.env:=by rfl) (hpl:(backTo pos (starEach es X.env)).any (·.1)=false:=by rfl) :
  PE X (.Call (.Name x p) (e :: es) [] pos) (Am sp [] E t):=zQ c.ok hr hg c.at_ c.kp c.bi .nil hx ha hd he hpl
theorem PS.nox {X:Cx}{st:Stmt}{t:TS} (h:PS X.nox st t):PS X st t:=fun pins s σ H D I hw =>
 wpAny_mono (h pins s σ H D (I.wish _) hw) (fun _ _ q=>q.unwish) fun _ _ z=>False.elim z
end L2
namespace TD
open PySem L2
open Builtin.Int (intBits)
theorem gP.same {K:PySem.W.Frag}{H H':Hp}{v:V}{t:Value} (s:aN H H') (h:gP K H v t):gP K H' v t:=by
 cases h with
 | non=>exact .non
 | bl x=>exact .bl x
 | int i=>exact .int i
 | str x=>exact .str x
 | flt x=>exact .flt x
 | lst e=>exact .lst (s _ _ e)
 | frz e=>exact .frz (s _ _ e)
 | tup e=>exact .tup (s _ _ e)
 | dK e=>exact .dK (s _ _ e)
 | dT e=>exact .dT (s _ _ e)
 | ins e a b c d f=>exact .ins (s _ _ e) a b c d f
def Ng (H:Hp) (T:String) (v:V):Prop:=∀ K:PySem.W.Frag,∃ t,gP K H v t /\ PySem.W.kitOne K t (.type T)=some false
theorem Ng.same {H H':Hp}{T:String}{v:V} (s:aN H H') (h:Ng H T v):Ng H' T v:=fun K=>let ⟨t,a,b⟩:=h K; ⟨t,gP.same s a,b⟩
theorem yU {K:PySem.W.Frag}:PySem.W.kitOne K (.type "bool") (.type "int")=some true:=by rfl
inductive lL (H:Hp) (lo hi:Int):V->Bool->Prop where
 | no {v:V} (h:Ng H "int" v):lL H lo hi v false
 | bl (c:Bool):lL H lo hi (.bl c) false
 | int (i:Int):lL H lo hi (.int i) (decide (lo <= i) && decide (i <= hi))
theorem lL.same {H H':Hp}{lo hi:Int}{v:V}{b:Bool} (s:aN H H') (h:lL H lo hi v b):lL H' lo hi v b:=by
 cases h with
 | no h=>exact .no (h.same s)
 | bl c=>exact .bl c
 | int i=>exact .int i
theorem lL.yes {H:Hp}{lo hi i:Int} (h1:lo <= i) (h2:i <= hi):lL H lo hi (.int i) true:=by
 have h:=lL.int (H:=H) (lo:=lo) (hi:=hi) i
 rw [decide_eq_true h1,decide_eq_true h2] at h
 exact h
theorem lL.not {H:Hp}{lo hi i:Int} (h1:i < lo ∨ hi < i):lL H lo hi (.int i) false:=by
 have h:=lL.int (H:=H) (lo:=lo) (hi:=hi) i
 have e:(decide (lo <= i) && decide (i <= hi))=false:=by
  rcases h1 with h1 | h1
  ·rw [decide_eq_false (by omega)]; rfl
  ·rw [decide_eq_false (p:=i <= hi) (by omega),Bool.and_false]
 rw [e] at h
 exact h
def qP:Sp:=fun vs H Q _=>∃ (v:V) (lo hi:Int) (b:Bool),vs=[v,.int lo,.int hi] /\ lL H lo hi v b /\ Q (.bl b) H
theorem gP.kp {K:PySem.W.Frag}{H H':Hp}{v:V}{t:Value} (s:∀ b o,H b=some o->(∀ ps,o ≠ .tbl ps)->H' b=some o) (h:gP K H v t):gP K H' v t:=by
 cases h with
 | non=>exact .non
 | bl x=>exact .bl x
 | int i=>exact .int i
 | str x=>exact .str x
 | flt x=>exact .flt x
 | lst e=>exact .lst (s _ _ e fun _ z=>nomatch z)
 | frz e=>exact .frz (s _ _ e fun _ z=>nomatch z)
 | tup e=>exact .tup (s _ _ e fun _ z=>nomatch z)
 | dK e=>exact .dK (s _ _ e fun _ z=>nomatch z)
 | dT e=>exact .dT (s _ _ e fun _ z=>nomatch z)
 | ins e a b c d f=>exact .ins (s _ _ e fun _ z=>nomatch z) a b c d f
def Kt (H H':Hp):Prop:=∀ b o,H b=some o->(∀ ps,o ≠ .tbl ps)->H' b=some o
theorem aN.kt {H H':Hp} (s:aN H H'):Kt H H':=fun b o h _=>s b o h
theorem cH.kt {P:Addr}{pos:Pos}{qual:Str}{H H':Hp} (s:cH P H H') (t:fG P pos qual H):Kt H H':=fun b o h n=>s.get t h n
theorem Kt.trans {H H1 H2:Hp} (a:Kt H H1) (b:Kt H1 H2):Kt H H2:=fun c o h n=>b c o (a c o h n) n
theorem Kt.kp {H H':Hp} (k:Kt H H'):Kp H H':=fun b o h n _=>k b o h n
theorem Kt.refl (H:Hp):Kt H H:=fun _ _ h _=>h
theorem Kt.tup {H H':Hp} (k:Kt H H') {b:Addr}{xs:List V} (h:H b=some (.tup xs)):H' b=some (.tup xs):=k _ _ h fun _ z=>nomatch z
theorem Kt.lst {H H':Hp} (k:Kt H H') {b:Addr}{xs:List V} (h:H b=some (.lst xs)):H' b=some (.lst xs):=k _ _ h fun _ z=>nomatch z
theorem Ng.kt {H H':Hp}{T:String}{v:V} (s:Kt H H') (h:Ng H T v):Ng H' T v:=fun K=>let ⟨t,a,b⟩:=h K; ⟨t,gP.kp s a,b⟩
theorem lL.kt {H H':Hp}{lo hi:Int}{v:V}{b:Bool} (s:Kt H H') (h:lL H lo hi v b):lL H' lo hi v b:=by
 cases h with
 | no h=>exact .no (h.kt s)
 | bl c=>exact .bl c
 | int i=>exact .int i
theorem lL.inv {H:Hp}{lo hi:Int}{v:V} (h:lL H lo hi v true):∃ i,v = .int i /\ lo <= i /\ i <= hi:=by
 generalize hb:true=b at h
 cases h with
 | no h=>cases hb
 | bl c=>cases hb
 | int i =>
  have:=hb.symm
  rw [Bool.and_eq_true,decide_eq_true_eq,decide_eq_true_eq] at this
  exact ⟨i,rfl,this⟩
structure CN (K:PySem.W.Frag) (c:Cs):Prop where
 all:∀ T ∈ ["tuple","int","NoneType","str","list"],PySem.W.kitOne K (.type T) (.ref c.e)=some false /\ PySem.W.kitOne K (.type T) (.ref c.s)=some false
 et:PySem.W.kitOne K (.ref c.e) (.type "tuple")=some false
inductive Ah (c:Cs) (K:PySem.W.Frag) (H:Hp):V->Bool->Prop where
 | yes {x:Addr}{s:Sd.Sd}{d m:Nat} (h:dI c H x s d m):Ah c K H (.ref x) true
 | no {v:V}{T:String} (h:gP K H v (.type T)) (ht:T ∈ ["tuple","int","NoneType","str","list"]):Ah c K H v false
inductive z8 (c:Cs) (K:PySem.W.Frag) (H:Hp):V->Bool->Prop where
 | no {v:V}{t:Value} (h:gP K H v t) (hk:PySem.W.kitOne K t (.type "tuple")=some false):z8 c K H v false
 | len {a:Addr}{xs:List V} (e:H a=some (.tup xs)) (hl:xs.length ≠ 2):z8 c K H (.ref a) false
 | two {a:Addr}{x y:V}{b b2:Bool} (e:H a=some (.tup [x,y])) (hx:lL H 1 1000 x b) (hy:Ah c K H y b2):z8 c K H (.ref a) (b && b2)
inductive j4 (c:Cs) (K:PySem.W.Frag) (H:Hp):V->Bool->Prop where
 | no {v:V} (h:Ng H "list" v):j4 c K H v false
 | len {a:Addr}{xs:List V} (e:H a=some (.lst xs)) (hl:¬ (1 <= xs.length /\ xs.length <= 4)):j4 c K H (.ref a) false
 | all {a:Addr}{xs:List V}{bs:List Bool} (e:H a=some (.lst xs)) (h1:1 <= xs.length) (h4:xs.length <= 4) (hb:bs.length=xs.length) (h:∀ (i:Nat) x,xs[i]? = some x->z8 c K H x (bs.getD i false)):j4 c K H (.ref a) (bs.all id)
inductive sH (c:Cs) (K:PySem.W.Frag) (H:Hp):V->Bool->Prop where
 | no {v:V} (h:Ng H "list" v):sH c K H v false
 | len {a:Addr}{xs:List V} (e:H a=some (.lst xs)) (hl:¬ (1 <= xs.length /\ xs.length <= 6)):sH c K H (.ref a) false
 | all {a:Addr}{xs:List V}{bs:List Bool} (e:H a=some (.lst xs)) (h1:1 <= xs.length) (h6:xs.length <= 6) (hb:bs.length=xs.length) (h:∀ (i:Nat) x,xs[i]? = some x->Ah c K H x (bs.getD i false)):sH c K H (.ref a) (bs.all id)
section
variable {c:Cs}{K:PySem.W.Frag}{H H':Hp}{v:V}{b:Bool}
theorem Ah.kt (s:Kt H H') (h:Ah c K H v b):Ah c K H' v b:=by
 cases h with
 | yes h=>exact .yes (h.kp s.kp)
 | no h ht=>exact .no (gP.kp s h) ht
theorem z8.kt (s:Kt H H') (h:z8 c K H v b):z8 c K H' v b:=by
 cases h with
 | no h hk=>exact .no (gP.kp s h) hk
 | len e hl=>exact .len (s.tup e) hl
 | two e hx hy=>exact .two (s.tup e) (hx.kt s) (hy.kt s)
theorem j4.kt (s:Kt H H') (h:j4 c K H v b):j4 c K H' v b:=by
 cases h with
 | no h=>exact .no (h.kt s)
 | len e hl=>exact .len (s.lst e) hl
 | all e h1 h4 hb h=>exact .all (s.lst e) h1 h4 hb fun i x hx=>(h i x hx).kt s
theorem sH.kt (s:Kt H H') (h:sH c K H v b):sH c K H' v b:=by
 cases h with
 | no h=>exact .no (h.kt s)
 | len e hl=>exact .len (s.lst e) hl
 | all e h1 h6 hb h=>exact .all (s.lst e) h1 h6 hb fun i x hx=>(h i x hx).kt s
end
def Jb (c:Cs) (K:PySem.W.Frag):Sp:=fun vs H Q _=>∃ (v:V) (b:Bool),vs=[v] /\ Ah c K H v b /\ Q (.bl b) H
def GD (c:Cs) (K:PySem.W.Frag):Sp:=fun vs H Q _=>∃ (v:V) (b:Bool),vs=[v] /\ z8 c K H v b /\ Q (.bl b) H
def Cu (c:Cs) (K:PySem.W.Frag):Sp:=fun vs H Q _=>∃ (v:V) (b:Bool),vs=[v] /\ j4 c K H v b /\ ∀ H',aN H H'->Q (.bl b) H'
def O7 (c:Cs) (C:Addr):Sp:=fun vs H Q E =>
 (∃ (x dx:Addr) (v:Int),vs=[.ref x,.int v] /\ H x=some (.ins c.e dx []) /\ 0 <= v /\ v <= 1000000000 /\ ∀ H':Hp,(∀ b o,b ≠ x->H b=some o->H' b=some o)->(∀ d m:Nat,1 <= m->dI c H' x (.en v) d m)->Q .non H') ∨
 ∃ (x:Addr) (v:V),vs=[.ref x,v] /\ lL H 0 1000000000 v false /\ E (.ref C) none H
structure Dr (c:Cs) (H:Hp) (a:Addr) (ps ys:List Addr) (rs:List (Int × Sd.Sd)) (d:Nat) (j:Int × Sd.Sd->Nat):Prop where
 ha:H a=some (.lst (ps.map V.ref))
 R:sI c H ps ys rs d j
 ne:rs ≠ []
 l4:rs.length <= 4
 ww:∀ r ∈ rs,1 <= r.1 /\ r.1 <= 1000
def Nt (c:Cs) (K:PySem.W.Frag) (C Pt:Addr) (lp:Pos):Sp:=fun vs H Q E =>
 (∃ (x dx a:Addr) (p:Int) (ps ys:List Addr) (rs:List (Int × Sd.Sd)) (d:Nat) (j:Int × Sd.Sd->Nat),vs=[.ref x,.int p,.ref a] /\ H x=some (.ins c.s dx []) /\ Dr c H a ps ys rs d j /\ 0 <= p /\ p <= 1000000000 ∧
  (((12 < Sd.nE (d + 1 + 1) (.st p rs) ∨ 4 < Sd.nS (d + 1 + 1) (.st p rs)) /\ ∀ H',aN H H'->E (.ref C) none H') ∨
   ∃ m:Nat,(rs.map j).sum <= m /\ m <= 12 /\ d + 1 <= 4 /\ fG Pt lp lK H /\ ∀ H':Hp,(∀ b o,b ≠ x->b ≠ Pt->H b=some o->H' b=some o)->fG Pt lp lK H'->dI c H' x (.st p rs) (d + 1) m->Q .non H')) ∨
 ∃ (x:Addr) (v w:V),vs=[.ref x,v,w] /\ (lL H 0 1000000000 v false ∨ (lL H 0 1000000000 v true /\ j4 c K H w false)) /\ ∀ H',aN H H'->E (.ref C) none H'
def V3 (c:Cs) (K:PySem.W.Frag) (C:Addr):Sp:=fun vs H Q E=>∃ (v:V) (b:Bool),vs=[v] /\ sH c K H v b /\ (b=true->∀ H',aN H H'->Q .non H') /\ (b=false->∀ H',aN H H'->E (.ref C) none H')
end TD
namespace TD
open PySem L2
open Builtin.Int (intBits)
inductive Ol (c:Cs) (K:PySem.W.Frag) (H:Hp):V->V->Bool->Prop where
 | price {v w:V} (h:lL H 0 1000000000 v false):Ol c K H v w false
 | rows {v w:V} (h:lL H 0 1000000000 v true) (h2:j4 c K H w false):Ol c K H v w false
 | big {p:Int}{a:Addr}{ps ys:List Addr}{rs:List (Int × Sd.Sd)}{d:Nat}{j:Int × Sd.Sd->Nat} (p0:0 <= p) (p9:p <= 1000000000) (g:Dr c H a ps ys rs d j) (h:12 < Sd.nE (d + 1 + 1) (.st p rs) ∨ 4 < Sd.nS (d + 1 + 1) (.st p rs)):Ol c K H (.int p) (.ref a) false
 | good {p:Int}{a:Addr}{ps ys:List Addr}{rs:List (Int × Sd.Sd)}{d m:Nat}{j:Int × Sd.Sd->Nat} (p0:0 <= p) (p9:p <= 1000000000) (g:Dr c H a ps ys rs d j) (hm:(rs.map j).sum <= m) (m12:m <= 12) (d4:d + 1 <= 4):Ol c K H (.int p) (.ref a) true
inductive RB (c:Cs) (K:PySem.W.Frag) (H:Hp):Str->V->V->Bool->Prop where
 | en {v w:V}{b:Bool} (h:lL H 0 1000000000 v b):RB c K H "end" v w b
 | st {v w:V}{b:Bool} (h:Ol c K H v w b):RB c K H "stage" v w b
 | bx {v w:V}{b:Bool} (h:sH c K H v b):RB c K H "boxes" v w b
section
variable {c:Cs}{K:PySem.W.Frag}{H H':Hp}{a:Addr}{ps ys:List Addr}{rs:List (Int × Sd.Sd)}{d:Nat}{j:Int × Sd.Sd->Nat}
theorem Dr.kt (s:Kt H H') (g:Dr c H a ps ys rs d j):Dr c H' a ps ys rs d j:=⟨s.lst g.ha,g.R.kp s.kp,g.ne,g.l4,g.ww⟩
theorem Ol.kt (s:Kt H H') {v u:V}{b:Bool} (h:Ol c K H v u b):Ol c K H' v u b:=by
 cases h with
 | price h=>exact .price (h.kt s)
 | rows h h2=>exact .rows (h.kt s) (h2.kt s)
 | big p0 p9 g h=>exact .big p0 p9 (g.kt s) h
 | good p0 p9 g hm m12 d4=>exact .good p0 p9 (g.kt s) hm m12 d4
theorem RB.kt (s:Kt H H') {z:Str}{v u:V}{b:Bool} (h:RB c K H z v u b):RB c K H' z v u b:=by
 cases h with
 | en h=>exact .en (h.kt s)
 | st h=>exact .st (h.kt s)
 | bx h=>exact .bx (h.kt s)
theorem made {x dx:Addr}{o1 o2:HO} (hx:H x=none) (hd:H dx=none) (kp:∀ b o,b ≠ x->aY (aY H dx o1) x o2 b=some o->H' b=some o):aN H H':=fun b o e=>kp b o (aU e hx) (by rw [aK (aU e hx),aK (aU e hd)]; exact e)
theorem Gb {x dx:Addr}{o1 o2:HO} (hx:H x=none) (hd:H dx=none) (ne:dx ≠ x):aN H (aY (aY H dx o1) x o2):=(aH hd o1).trans (aH (by rw [aK (Ne.symm ne)]; exact hx) o2)
end
section
variable {c:Cs}{H H':Hp}
theorem pQ (kt:∀ b xs,H b=some (.tup xs)->H' b=some (.tup xs)) {l cp:Addr}{sd:Sd.Sd}{lv:Int × Int}{xs:List cB}{n k:Int}{d m:Nat} (h:QG H l cp sd lv xs n k d m):QG H' l cp sd lv xs n k d m :=
 ⟨kt _ _ h.lv,⟨kt _ _ h.caps.1,fun x hx=>⟨kt _ _ (h.caps.2 x hx).1,kt _ _ (h.caps.2 x hx).2⟩⟩,h.gs,h.so,h.n1,h.nm,h.k0,h.kd,h.mt,h.lw,h.nx,h.kx⟩
theorem zM (kt:∀ b xs,H b=some (.tup xs)->H' b=some (.tup xs)) (ki:∀ b C dx f fs,H b=some (.ins C dx (f :: fs))->H' b=some (.ins C dx (f :: fs))) {x:Addr}{s:Sd.Sd}{d m:Nat} (h:dI c H x s d m):dI c H' x s d m:=by
 induction h with
 | en h vv ok=>exact .en (ki _ _ _ _ _ h) (pQ kt vv) ok
 | st h vv g lp ly row sub p0 p9 ne l4 w hk ih=>exact .st (ki _ _ _ _ _ h) (pQ kt vv) (kt _ _ g) lp ly (fun i q y t a b c=>kt _ _ (row i q y t a b c)) ih p0 p9 ne l4 w hk
theorem qM {D:Addr}{zs zs':List V} (hD:H D=some (.lst zs)) {x:Addr}{s:Sd.Sd}{d m:Nat} (h:dI c H x s d m):dI c (aY H D (.lst zs')) x s d m :=
 zM (fun b xs e=>by rw [aK (bO e hD fun z=>nomatch z)]; exact e) (fun b C dx f fs e=>by rw [aK (bO e hD fun z=>nomatch z)]; exact e) h
def ER (c:Cs) (H:Hp) (tr:List (Addr × Addr × Int × Sd.Sd)):Prop:=∀ r ∈ tr,H r.1=some (.tup [.int r.2.2.1,.ref r.2.1]) /\ ∀ d m:Nat,1 <= m->dI c H r.2.1 r.2.2.2 d m
theorem ER.kt {tr:List (Addr × Addr × Int × Sd.Sd)} (s:Kt H H') (h:ER c H tr):ER c H' tr:=fun r hr=>⟨s.tup (h r hr).1,fun d m hm=>((h r hr).2 d m hm).kp s.kp⟩
theorem ER.lst {tr:List (Addr × Addr × Int × Sd.Sd)}{D:Addr}{zs zs':List V} (hD:H D=some (.lst zs)) (h:ER c H tr):ER c (aY H D (.lst zs')) tr:=fun r hr=>⟨by rw [aK (bO (h r hr).1 hD fun z=>nomatch z)]; exact (h r hr).1,fun d m hm=>qM hD ((h r hr).2 d m hm)⟩
theorem ER.snoc {tr:List (Addr × Addr × Int × Sd.Sd)}{r:Addr × Addr × Int × Sd.Sd} (h:ER c H tr) (h1:H r.1=some (.tup [.int r.2.2.1,.ref r.2.1])) (h2:∀ d m:Nat,1 <= m->dI c H r.2.1 r.2.2.2 d m):ER c H (tr ++ [r]):=fun x hx=>by
 rcases List.mem_append.mp hx with e | e
 ·exact h x e
 ·rw [List.mem_singleton.mp e]; exact ⟨h1,h2⟩
end
end TD
namespace L2
open PySem PySem.Spec PyProof.Rows
section
variable {X:Cx}
def Ow:Value->Addr
 | .ref a=>a
 | _=>0
def M4 (K:PySem.W.Frag) (n:Nat):V->List V->Hp->VK->Prop:=fun x vs H Q=>∃ (l v:Addr) (as:List Addr) (e:Addr->Bool) (j:Nat) (aj:Addr),x = .ref l /\ vs=[.ref v] /\ H l=some (.lst (as.map V.ref)) /\ as.length <= 1000 /\ (∀ a ∈ as,DE K H n (.ref a) (.ref v) (e a)) ∧
 as[j]? = some aj /\ e aj=true /\ (∀ m am,m < j->as[m]? = some am->e am=false) /\ Q (.int (j:Int)) H
theorem Cd:∀ {as:List Addr}{us:List Value},bL (as.map V.ref) us->us=as.map Value.ref
 | [],_,.nil=>rfl
 | a :: as,_,.cons r h=>by
  rw [Cd h]
  exact congrArg (· :: as.map Value.ref) r
theorem HB {n:Nat} (hu:X.A.units + n + 2 < cLine):MtM X "list.index" (M4 X.K n):=by
 intro pins s σ H x vs v us Q I rx rv h
 obtain ⟨l,y,as,e,j,aj,rfl,rfl,hH,h9,he,hj,hit,hno,q⟩:=h
 cases rx
 obtain ⟨u,rfl,ru⟩:=rv.one
 cases (show u=Value.ref y from ru)
 obtain ⟨z,its,m,r,hl,eo⟩:=I.lstM hH
 obtain rfl:=Cd r
 have hjl:j < as.length:=(List.getElem?_eq_some_iff.mp hj).1
 refine call_meets F.slot_list_index ⟨_,eo,rfl⟩ F.entry_list_index (F.args_list_index_2 _ _) (SeqAt.list_indexAt l (as.map Value.ref).toArray m none #[] (.ref y) (fun z=>e (Ow z)) j (by simpa using hjl) (by omega) ?_ (fun k hk hlt=>?_)) ⟨eo,fun z hz=>?_,?_⟩
 ·have:as[j]=aj:=by rw [List.getElem?_eq_getElem hjl] at hj; exact Option.some.inj hj
  simp only [List.getElem_toArray,List.getElem_map,Ow,this,hit]
 ·have hk':k < as.length:=by simpa using hk
  simp only [List.getElem_toArray,List.getElem_map,Ow]
  exact hno k _ hlt (List.getElem?_eq_getElem hk')
 ·obtain ⟨a,ha,rfl⟩:=List.mem_map.mp (show z ∈ as.map Value.ref by simpa using hz)
  exact (he a ha).eqAt I _ _ _ (by first | (show X.A.units + _ + n < cLine; omega) | (simp only [m5]; omega)) rfl rfl
 ·exact ⟨.int (j:Int),H,I.kept (h':=s.heap) (fun _ _ e=>e),⟨s.toks,rfl⟩,q⟩
end
end L2
namespace TD
open PySem L2
open Builtin.Int (intBits)
theorem Kr {K:PySem.W.Frag}{H:Hp}{s:Sd.Sd}{d m:Nat} (ok:Sd.Ok s d m):∀ {a b:Addr}{t:Sd.Sd}{n:Nat},fY H a s->fY H b t->3 * d + 1 <= n->∃ k,DE K H n (.ref a) (.ref b) k /\ (k=true ↔ s=t):=by
 induction ok with
 | @en v d m h0 h9 hm =>
  intro a b t n ha hb hn
  obtain ⟨n,rfl⟩ : ∃ q,n=q + 1:=⟨n - 1,by omega⟩
  cases ha with
  | en ha =>
   cases hb with
   | @en _ v' hb =>
    refine ⟨_,.tup (fun j=>match j with | 0=>true | _=>(v == v')) (bQ.of ha) (bQ.of hb) fun j x y hx hy=>?_,?_⟩
    ·match j,hx,hy with
     | 0,hx,hy=>cases hx; cases hy; exact DE.str n "end" "end"
     | 1,hx,hy=>cases hx; cases hy; exact DE.int n v v'
     | j + 2,hx,_=>simp at hx
    ·show ((true && ((v == v') && true)) && true)=true ↔ _
     rw [Bool.and_true,Bool.and_true,Bool.true_and,beq_iff_eq]
     exact ⟨fun e=>by rw [e],fun e=>by injection e⟩
   | @st _ r p rs ps ys hb g lp ly row sub =>
    refine ⟨_,.tup (fun j=>match j with | 0=>false | _=>(v == p)) (bQ.of ha) (bQ.of hb) fun j x y hx hy=>?_,?_⟩
    ·match j,hx,hy with
     | 0,hx,hy=>cases hx; cases hy; exact DE.str n "end" "stage"
     | 1,hx,hy=>cases hx; cases hy; exact DE.int n v p
     | j + 2,hx,_=>simp at hx
    ·exact ⟨(fun e=>by cases e),(fun e=>by cases e)⟩
 | @st p rs d m f h0 h9 ne l4 w sub hk ih =>
  intro a b t n ha hb hn
  obtain ⟨n,rfl⟩ : ∃ q,n=q + 1 + 1 + 1:=⟨n - 3,by omega⟩
  cases ha with
  | @st _ r _ _ ps ys ha g lp ly row sub1 =>
  cases hb with
  | @en _ v' hb =>
   refine ⟨_,.tup (fun j=>match j with | 0=>false | _=>(p == v')) (bQ.of ha) (bQ.of hb) fun j x y hx hy=>?_,?_⟩
   ·match j,hx,hy with
    | 0,hx,hy=>cases hx; cases hy; exact DE.str _ "stage" "end"
    | 1,hx,hy=>cases hx; cases hy; exact DE.int _ p v'
    | j + 2,_,hy=>simp at hy
   ·exact ⟨(fun e=>by cases e),(fun e=>by cases e)⟩
  | @st _ r' p' rs' ps' ys' hb g' lp' ly' row' sub' =>
   have each:∀ j:Nat,∃ k,∀ x y,(ps.map V.ref)[j]? = some x->(ps'.map V.ref)[j]? = some y->DE K H (n + 1) x y k /\ (k=true ↔ rs[j]? = rs'[j]?):=fun j=>by
    by_cases h1:j < rs.length
    ·by_cases h2:j < rs'.length
     ·have e1:ps[j]? = some (ps[j]'(by omega)):=List.getElem?_eq_getElem _
      have e2:ys[j]? = some (ys[j]'(by omega)):=List.getElem?_eq_getElem _
      have e3:rs[j]? = some rs[j]:=List.getElem?_eq_getElem _
      have f1:ps'[j]? = some (ps'[j]'(by omega)):=List.getElem?_eq_getElem _
      have f2:ys'[j]? = some (ys'[j]'(by omega)):=List.getElem?_eq_getElem _
      have f3:rs'[j]? = some rs'[j]:=List.getElem?_eq_getElem _
      obtain ⟨k,de,hk⟩:=ih rs[j] (List.getElem_mem h1) (n:=n) (sub1 j _ _ e2 e3) (sub' j _ _ f2 f3) (by omega)
      refine ⟨(rs[j].1 == rs'[j].1) && k,fun x y hx hy=>⟨?_,?_⟩⟩
      ·rw [List.getElem?_map,e1] at hx
       rw [List.getElem?_map,f1] at hy
       cases hx
       cases hy
       have z:=DE.tup (K:=K) (fun i=>match i with | 0=>(rs[j].1 == rs'[j].1) | _=>k) (bQ.of (row j _ _ _ e1 e2 e3)) (bQ.of (row' j _ _ _ f1 f2 f3)) (n:=n) fun i x y hx hy=>by
        match i,hx,hy with
        | 0,hx,hy=>cases hx; cases hy; exact DE.int n _ _
        | 1,hx,hy=>cases hx; cases hy; exact de
        | i + 2,hx,_=>simp at hx
       have ez:((List.range (min [V.int rs[j].1,V.ref ys[j]].length [V.int rs'[j].1,V.ref ys'[j]].length)).all (fun i=>match i with | 0=>(rs[j].1 == rs'[j].1) | _=>k) && [V.int rs[j].1,V.ref ys[j]].length == [V.int rs'[j].1,V.ref ys'[j]].length)=((rs[j].1 == rs'[j].1) && k):=by
        generalize (rs[j].1 == rs'[j].1)=u
        cases u <;> cases k <;> rfl
       rw [ez] at z
       exact z
      ·rw [e3,f3,Bool.and_eq_true,beq_iff_eq,hk]
       exact ⟨fun ⟨q1,q2⟩=>congrArg some (Prod.ext q1 q2),fun q=>by injection q with q; exact ⟨by rw [q],by rw [q]⟩⟩
     ·exact ⟨false,fun x y hx hy=>by rw [List.getElem?_eq_none (by rw [List.length_map]; omega)] at hy; cases hy⟩
    ·exact ⟨false,fun x y hx hy=>by rw [List.getElem?_eq_none (by rw [List.length_map]; omega)] at hx; cases hx⟩
   have dr:DE K H (n + 1 + 1) (.ref r) (.ref r') ((List.range (min (ps.map V.ref).length (ps'.map V.ref).length)).all (fun j=>Classical.choose (each j)) && (ps.map V.ref).length == (ps'.map V.ref).length) :=
    .tup _ (bQ.of g) (bQ.of g') fun j x y hx hy=>(Classical.choose_spec (each j) x y hx hy).1
   have er:((List.range (min (ps.map V.ref).length (ps'.map V.ref).length)).all (fun j=>Classical.choose (each j)) && (ps.map V.ref).length == (ps'.map V.ref).length)=true ↔ rs=rs':=by
    rw [Bool.and_eq_true,beq_iff_eq,List.length_map,List.length_map,lp,lp',List.all_eq_true]
    have at_:∀ j,j < rs.length->j < rs'.length->(Classical.choose (each j)=true ↔ rs[j]? = rs'[j]?):=fun j h1 h2 =>
     (Classical.choose_spec (each j) (V.ref (ps[j]'(by omega))) (V.ref (ps'[j]'(by omega))) (by rw [List.getElem?_map,List.getElem?_eq_getElem (by omega)]; rfl) (by rw [List.getElem?_map,List.getElem?_eq_getElem (by omega)]; rfl)).2
    constructor
    ·rintro ⟨q1,q2⟩
     refine List.ext_getElem? fun j=>?_
     by_cases h:j < rs.length
     ·exact (at_ j h (by omega)).mp (q1 j (List.mem_range.mpr (by omega)))
     ·rw [List.getElem?_eq_none (by omega),List.getElem?_eq_none (by omega)]
    ·rintro rfl
     exact ⟨fun j hj=>(at_ j (by have:=List.mem_range.mp hj; omega) (by have:=List.mem_range.mp hj; omega)).mpr rfl,rfl⟩
   generalize ((List.range (min (ps.map V.ref).length (ps'.map V.ref).length)).all (fun j=>Classical.choose (each j)) && (ps.map V.ref).length == (ps'.map V.ref).length)=kr at dr er
   refine ⟨_,.tup (fun j=>match j with | 0=>true | 1=>(p == p') | _=>kr) (bQ.of ha) (bQ.of hb) fun j x y hx hy=>?_,?_⟩
   ·match j,hx,hy with
    | 0,hx,hy=>cases hx; cases hy; exact DE.str _ "stage" "stage"
    | 1,hx,hy=>cases hx; cases hy; exact DE.int _ p p'
    | 2,hx,hy=>cases hx; cases hy; exact dr
    | j + 3,hx,_=>simp at hx
   ·show ((true && ((p == p') && (kr && true))) && true)=true ↔ _
    rw [Bool.and_true,Bool.and_true,Bool.true_and,Bool.and_eq_true,beq_iff_eq,er]
    exact ⟨fun ⟨q1,q2⟩=>by rw [q1,q2],fun q=>by injection q with q1 q2; exact ⟨q1,q2⟩⟩
end TD
namespace L2
open PySem PySem.Spec PyProof.Rows
section
variable {X:Cx}
def Y4 (K:PySem.W.Frag):R2:=fun x y H Q=>∃ a b xs ys,x = .ref a /\ y = .ref b /\ bQ K H a xs /\ bQ K H b ys /\ xs.length + ys.length <= sizeLine ∧
 (xs=[]->Q (.ref b) H) /\ (ys=[]->Q (.ref a) H) /\ ∀ p,H p=none->Q (.ref p) (aY H p (.tup (xs ++ ys)))
theorem zY:nZ X (binaryOp .Add) (Y4 X.K):=by
 intro pins s σ H x y v u Q I rx ry h
 obtain ⟨a,b,xs,ys,rfl,rfl,ha,hb,hz,q0,q1,q2⟩:=h
 by_cases hx:xs=[]
 ·cases rx
  cases ry
  obtain ⟨its,r1,p1,_⟩:=I.tuple ha
  obtain ⟨its2,r2,p2,_⟩:=I.tuple hb
  have e1:its=[]:=r1.nil_iff.mpr hx
  obtain ⟨⟨cls,dd,data,sl⟩,ho,hc,n,hd⟩:=id p1
  obtain ⟨⟨cls2,dd2,data2,sl2⟩,ho2,hc2,n2,hd2⟩:=id p2
  simp only at hc hd hc2 hd2
  subst hc hd hc2 hd2
  exact concat_meets ⟨_,ho,rfl⟩ ⟨_,ho2,rfl⟩ noFill_tuple_add seq_tuple_add PySem.F.slot_tuple_add PySem.F.entry_tuple_add (PySem.F.args_tuple_add_2 _ _)
   (tuple_addW0 a b its.toArray its2.toArray n n2 dd dd2 sl sl2 (by rw [e1]; rfl)) ⟨ho,ho2,.ref b,H,I,rfl,q0 hx⟩
 ·exact MP pins s σ H _ _ v u Q I rx ry ⟨a,b,xs,ys,rfl,rfl,ha,hb,hx,hz,q1,fun _=>q2⟩
def Li (K:PySem.W.Frag) (H:Hp) (n:Nat) (x y:V):Prop:=∀ (X:Cx) (pins:List (Addr × Obj)) (σ : St) (s:Shared),X.K=K->aZ X pins σ H s->∀ (A:Around) (u v:Value),A.units + n < cLine->bJ x u->bJ y v->PySem.SeqAt.EqAt A s u v true
section
variable {K:PySem.W.Frag}{H:Hp}{n:Nat}
theorem Li.of {x y:V} (d:DE K H n x y true):Li K H n x y:=fun X pins σ s hK I A u v hu r1 r2=>by
 subst hK
 exact d.eqAt I A u v hu r1 r2
theorem Li.non:Li K H n .non .non:=fun X pins σ s hK I A u v hu r1 r2=>by
 cases (show u=Value.none from r1)
 cases (show v=Value.none from r2)
 exact PySem.SeqAt.EqAt.same _
theorem Li.up {m:Nat}{x y:V} (h:Li K H n x y) (hm:n <= m):Li K H m x y:=fun X pins σ s hK I A u v hu r1 r2=>h X pins σ s hK I A u v (by omega) r1 r2
theorem Li.lst {a b:Addr}{xs ys:List V} (ha:bR K H a xs) (hb:bR K H b ys) (hl:xs.length=ys.length) (h:∀ (j:Nat) x y,xs[j]? = some x->ys[j]? = some y->Li K H n x y):Li K H (n + 1) (.ref a) (.ref b):=fun X pins σ s hK I A u v hu r1 r2=>by
 subst hK
 cases (show u=Value.ref a from r1)
 cases (show v=Value.ref b from r2)
 by_cases hab:a=b
 ·subst hab
  exact PySem.SeqAt.EqAt.same _
 ·obtain ⟨its,r1,p1,_⟩:=I.list ha
  obtain ⟨its2,r2,p2,_⟩:=I.list hb
  refine PySem.SeqAt.EqAt.of_refs hab ?_
  have q:=PySem.SeqAt.RcAt.lists (A:=A) (e:=fun _=>true) p1.isList p2.isList (by rw [List.size_toArray,List.size_toArray,<- r1.length,<- r2.length]; exact hl) (by omega) (fun j h1 h2=>by
   obtain ⟨x,ex,rx⟩:=mY r1 (j:=j) (by simpa using h1)
   obtain ⟨y,ey,ry⟩:=mY r2 (j:=j) (by simpa using h2)
   rw [List.getElem_toArray,List.getElem_toArray]
   exact h j x y ex ey X pins σ s rfl I A.in1 _ _ (by rw [m5]; omega) rx ry)
  rw [show (List.range its.toArray.size).all (fun _=>true)=true from by simp] at q
  exact q
end
end
end L2
namespace TD
open PySem L2
open Builtin.Int (intBits)
def pI (tp tl th:Addr) (sp:Int) (td:Addr):List (Str × V):=[("present",.ref tp),("lowest",.ref tl),("held",.ref th),("spent",.int sp),("done",.ref td)]
inductive IV (H:Hp):V->Prop where
 | non:IV H .non
 | sh {a:Addr}{lv:Int × Int} (h:Tq H a lv) (w:Sd.Lw lv):IV H (.ref a)
inductive rZ (H:Hp):Addr->Prop where
 | op {q:Addr}{b r:Int} (h:H q=some (.tup [.str "open",.int b,.int r])):rZ H q
 | tk {q:Addr}{b:Int} (h:H q=some (.tup [.str "take",.int b])):rZ H q
structure Ca where
 dx:Addr
 tp:Addr
 tl:Addr
 th:Addr
 td:Addr
 ys:List Addr
 ss:List (Sd.Sd × Nat × Nat)
 ls:List V
 bs:List Bool
 sp:Int
 ds:List Addr
structure gA (c:Cs) (cC:Addr) (H:Hp) (x:Addr) (q:Ca):Prop where
 hx:H x=some (.ins cC q.dx (pI q.tp q.tl q.th q.sp q.td))
 hp:H q.tp=some (.tup (q.ys.map V.ref))
 hl:H q.tl=some (.tup q.ls)
 hh:H q.th=some (.tup (q.bs.map V.bl))
 hd:H q.td=some (.tup (q.ds.map V.ref))
 n1:1 <= q.ys.length
 n6:q.ys.length <= 6
 es:q.ss.length=q.ys.length
 el:q.ls.length=q.ys.length
 eb:q.bs.length=q.ys.length
 st:∀ (i:Nat) y s,q.ys[i]? = some y->q.ss[i]? = some s->dI c H y s.1 s.2.1 s.2.2 /\ s.2.1 <= 4 /\ s.2.2 <= 12
 cp:∀ l ∈ q.ls,IV H l
 en:∀ (i:Nat) s,q.bs[i]? = some true->q.ss[i]? = some s->∃ v,s.1 = .en v
 dd:∀ d ∈ q.ds,rZ H d
 d9:q.ds.length <= 100
section
variable {c:Cs}{cC:Addr}{H H':Hp}{x:Addr}{q:Ca}
theorem IV.kt (s:Kt H H') {l:V} (h:IV H l):IV H' l:=by
 cases h with
 | non=>exact .non
 | sh h w=>exact .sh (s.tup h) w
theorem rZ.kt (s:Kt H H') {a:Addr} (h:rZ H a):rZ H' a:=by
 cases h with
 | op h=>exact .op (s.tup h)
 | tk h=>exact .tk (s.tup h)
theorem gA.kt (s:Kt H H') (h:gA c cC H x q):gA c cC H' x q :=
 ⟨s _ _ h.hx (fun _ z=>nomatch z),s.tup h.hp,s.tup h.hl,s.tup h.hh,s.tup h.hd,h.n1,h.n6,h.es,h.el,h.eb,fun i y t e1 e2=>⟨(h.st i y t e1 e2).1.kp s.kp,(h.st i y t e1 e2).2⟩,fun l hl=>(h.cp l hl).kt s,h.en,fun d hd=>(h.dd d hd).kt s,h.d9⟩
end
theorem VR {n:Nat} (h:n <= 1000):n <= sizeLine:=Nat.le_of_lt (aX h)
def KX (x:Addr) (H H':Hp):Prop:=∀ b o,b ≠ x->H b=some o->H' b=some o
theorem KX.refl (x:Addr) (H:Hp):KX x H H:=fun _ _ _ h=>h
theorem KX.trans {x:Addr}{H H1 H2:Hp} (a:KX x H H1) (b:KX x H1 H2):KX x H H2:=fun c o n h=>b c o n (a c o n h)
theorem KX.of {x:Addr}{H H':Hp} (s:aN H H'):KX x H H':=fun b o _ h=>s b o h
theorem KX.put {x:Addr}{H:Hp} (o:HO):KX x H (aY H x o):=fun b u n h=>by rw [aK n]; exact h
theorem uD {α : Type}:∀ {xs:List α}{i:Nat}{v:α},i < xs.length->xs.take i ++ [v] ++ xs.drop (i + 1)=xs.set i v
 | x :: xs,0,v,_=>by simp
 | x :: xs,i + 1,v,h=>by
  have:=uD (xs:=xs) (i:=i) (v:=v) (by simpa using h)
  simp only [List.take_succ_cons,List.cons_append,List.drop_succ_cons,List.set_cons_succ]
  rw [this]
theorem Mv {c:Cs}{K:PySem.W.Frag}{H:Hp}{a:Addr}{xs:List V} (e:H a=some (.lst xs)) (h:∀ x ∈ xs,Ah c K H x true) (b:Bool) (hb:b=(decide (0 < (xs.length:Int)) && decide ((xs.length:Int) < 7))):sH c K H (.ref a) b:=by
 by_cases h1:1 <= xs.length
 ·by_cases h6:xs.length <= 6
  ·have z:=sH.all (c:=c) (K:=K) (bs:=List.replicate xs.length true) e h1 h6 (by simp) fun i x hx=>by
    have hi:=(List.getElem?_eq_some_iff.mp hx).1
    have e2:(List.replicate xs.length true).getD i false=true:=by simp [List.getD,hi]
    rw [e2]
    exact h x (List.mem_of_getElem? hx)
   have e2:(List.replicate xs.length true).all id=true:=by simp
   rw [e2] at z
   rw [hb,decide_eq_true (by omega),decide_eq_true (by omega)]
   exact z
  ·rw [hb,decide_eq_true (by omega),decide_eq_false (by omega)]
   exact .len e (by omega)
 ·rw [hb,decide_eq_false (by omega)]
  exact .len e (by omega)
theorem Ik (xs:List V) (n:Nat) (h:n <= xs.length):iV xs none (some (n:Int))=xs.take n:=by
 unfold iV
 have e1:HT.gO xs.length 0 none=0:=rfl
 have e2:HT.gO xs.length xs.length (some (n:Int))=n:=by rw [HT.o6]; omega
 rw [e1,e2,List.drop_zero,Nat.sub_zero]
theorem Bw (xs:List V) (n:Nat) (h:n <= xs.length):iV xs (some (n:Int)) none=xs.drop n:=by
 unfold iV
 have e1:HT.gO xs.length xs.length none=xs.length:=rfl
 have e2:HT.gO xs.length 0 (some (n:Int))=n:=by rw [HT.o6]; omega
 rw [e1,e2,List.take_of_length_le (by rw [List.length_drop]; omega)]
theorem KX.kp {x:Addr}{H H':Hp}{o:HO} (k:KX x H H') (h:H x=some o) {b:Addr}{u:HO} (e:H b=some u) (n:u ≠ o):H' b=some u:=k b u (fun z=>n (by rw [z,h] at e; exact (Option.some.inj e).symm)) e
theorem dI.kx {c:Cs}{cC x:Addr}{q:Addr}{fs:List (Str × V)}{H H':Hp} (ne:cC ≠ c.e) (ns:cC ≠ c.s) (k:KX x H H') (hx:H x=some (.ins cC q fs)) {y:Addr}{s:Sd.Sd}{d m:Nat} (h:dI c H y s d m):dI c H' y s d m:=by
 induction h with
 | en h vv ok=>exact .en (k.kp hx h (fun z=>by injection z with z; exact ne z.symm)) (pQ (fun b xs e=>k.kp hx e fun z=>nomatch z) vv) ok
 | st h vv g lp ly row sub p0 p9 ne' l4 w hk ih=>exact .st (k.kp hx h (fun z=>by injection z with z; exact ns z.symm)) (pQ (fun b xs e=>k.kp hx e fun z=>nomatch z) vv) (k.kp hx g fun z=>nomatch z) lp ly (fun i q y t e1 e2 e3=>k.kp hx (row i q y t e1 e2 e3) fun z=>nomatch z) ih p0 p9 ne' l4 w hk
theorem rZ.kx {cC x:Addr}{q:Addr}{fs:List (Str × V)}{H H':Hp} (k:KX x H H') (hx:H x=some (.ins cC q fs)) {a:Addr} (h:rZ H a):rZ H' a:=by
 cases h with
 | op h=>exact .op (k.kp hx h fun z=>nomatch z)
 | tk h=>exact .tk (k.kp hx h fun z=>nomatch z)
structure Df (K:PySem.W.Frag) (c:Cs) (cC:Addr):Prop where
 ne:cC ≠ c.e
 nS:cC ≠ c.s
 cl:Dc K cC
 np:cJ K cC "present"
 nl:cJ K cC "lowest"
 nh:cJ K cC "held"
 ns:cJ K cC "spent"
 nd:cJ K cC "done"
def Og (q:Ca):List Nat:=(List.range q.ys.length).filter fun i=>q.bs.getD i false
def Oe (q:Ca):List Int:=(Og q).map Int.ofNat
def woS:Option (Sd.Sd × Nat × Nat)->Int
 | some (.en v,_)=>v
 | _=>0
def haV (q:Ca):Int:=((Og q).map fun i=>woS q.ss[i]?).sum - q.sp
section
variable (c:Cs) (cC:Addr) (C:Addr)
def Qs:Sp:=fun vs H Q _=>∃ (x:Addr) (q:Ca),vs=[.ref x] /\ gA c cC H x q /\ Q (.int (q.ys.length:Int)) H
def Ov:Sp:=fun vs H Q E=>∃ (x:Addr) (v:V) (q:Ca) (b:Bool),vs=[.ref x,v] /\ gA c cC H x q /\ lL H 0 ((q.ys.length:Int) - 1) v b /\ (b=true->Q .non H) /\ (b=false->E (.ref C) none H)
def Fi:Sp:=fun vs H Q E=>∃ (x:Addr) (v:V) (q:Ca) (b:Bool),vs=[.ref x,v] /\ gA c cC H x q /\ lL H 0 ((q.ys.length:Int) - 1) v b /\ (∀ (i:Nat) y,v = .int i->q.ys[i]? = some y->Q (.ref y) H) /\ (b=false->E (.ref C) none H)
def zE:Sp:=fun vs H Q E=>∃ (x:Addr) (v:V) (q:Ca) (b:Bool),vs=[.ref x,v] /\ gA c cC H x q /\ lL H 0 ((q.ys.length:Int) - 1) v b /\ (∀ (i:Nat) l,v = .int i->q.ls[i]? = some l->Q l H) /\ (b=false->E (.ref C) none H)
def Jj (K:PySem.W.Frag) (CB:Addr):Sp:=fun vs H Q E =>
 (∃ (x dx a:Addr) (ys:List Addr),vs=[.ref x,.ref a] /\ H x=some (.ins cC dx []) /\ H a=some (.lst (ys.map V.ref)) /\ 1 <= ys.length /\ ys.length <= 6 /\ (∀ y ∈ ys,∃ s d m,dI c H y s d m) ∧
  ∀ (tp tl th td:Addr) (H':Hp),(∀ b o,b ≠ x->H b=some o->H' b=some o)->H' x=some (.ins cC dx (pI tp tl th 0 td))->H' tp=some (.tup (ys.map V.ref))->H' tl=some (.tup (ys.map fun _=>V.non))->H' th=some (.tup (ys.map fun _=>V.bl false))->H' td=some (.tup [])->Q .non H') ∨
 ∃ (x:Addr) (v:V),vs=[.ref x,v] /\ sH c K H v false /\ ∀ H',aN H H'->E (.ref CB) none H'
def Ir:Sp:=fun vs H Q _=>∃ (x dq:Addr) (q:Ca),vs=[.ref x,.ref dq] /\ gA c cC H x q /\ rZ H dq /\ q.ds.length <= 99 /\ ∀ (x2 dx tp td:Addr) (H':Hp),H x2=none->aN H H'->gA c cC H' x2 { q with dx:=dx,tp:=tp,td:=td,ds:=q.ds ++ [dq] }->Q (.ref x2) H'
def Qg (K:PySem.W.Frag):Sp:=fun vs H Q _=>∃ (a:Addr) (xs:List V) (i:Nat) (v:V),vs=[.ref a,.int (i:Int),v] /\ H a=some (.tup xs) /\ i < xs.length /\ xs.length <= 900 /\ ∀ t H',aN H H'->H' t=some (.tup (xs.set i v))->Q (.ref t) H'
end
end TD
namespace TD
open PySem L2
open Builtin.Int (intBits)
def dN:Nat->Int
 | 0=>2
 | n + 1=>4 + 4 * (2 + dN n)
theorem Ji:∀ n,2 <= dN n
 | 0=>Int.le_refl _
 | n + 1=>by have:=Ji n; show (2:Int) <= 4 + 4 * (2 + dN n); omega
def La (K:PySem.W.Frag):Sp:=fun vs H Q _=>∃ (a:Addr) (ns:List Int) (k:Int),vs=[.ref a,.int k] /\ bR K H a (ns.map V.int) /\ 0 <= k /\ ∀ l x b,H l=none->0 <= b->b <= 1->Q (.ref l) (aY H l (.lst [.int x,.int b]))
def Jc:Sp:=fun vs H Q _=>∃ (l:Addr) (x b m:Int),vs=[.ref l,.int m] /\ H l=some (.lst [.int x,.int b]) /\ 1 <= m /\ m <= 1000000001 /\ 0 <= b /\ b <= 99998 /\ ∀ r x' b' H',0 <= r->r < m->0 <= b'->b' <= b + 1->KX l H H'->H' l=some (.lst [.int x',.int b'])->Q (.int r) H'
def M3 (n:Nat):Sp:=fun vs H Q _=>∃ (a:Addr) (s:Sd.Sd) (d m:Nat),vs=[.ref a] /\ fY H a s /\ Sd.Ok s d m /\ d < n /\ ∀ H',aN H H'->Q (.int (Sd.nE (d + 1) s)) H'
def MT (n0:Nat):Sp:=fun vs H Q _=>∃ (l:Addr) (x b lev most:Int) (n:Nat),vs=[.ref l,.int lev,.int most] /\ H l=some (.lst [.int x,.int b]) /\ lev=4 - (n:Int) /\ n <= 4 /\ n < n0 /\ 1 <= most /\ most <= 12 /\ 0 <= b /\ b + dN n <= 99990 ∧
 ∀ t s H' x' b',KX l H H'->H' l=some (.lst [.int x',.int b'])->0 <= b'->b' <= b + dN n->fY H' t s->Sd.Ok s n most.toNat->Q (.ref t) H'
theorem p9:Wa 10 9:=⟨by decide,by decide,by decide⟩
theorem Bu {xs:List V}{P:V->Prop} (h:∀ v ∈ xs,P v) {r:Int} (r0:0 <= r) (r1:r < (xs.length:Int)):∃ v,Io xs r=some v /\ P v:=by
 obtain ⟨j,rfl⟩ : ∃ j:Nat,r=(j:Int):=⟨r.toNat,by omega⟩
 have hj:j < xs.length:=by omega
 exact ⟨_,fU (List.getElem?_eq_getElem hj),h _ (List.getElem_mem hj)⟩
theorem KX.lst {l:Addr}{H H':Hp} (k:KX l H H') {x b:V} (hl:H l=some (.lst [x,b])) {a:Addr}{o:HO} (e:H a=some o) (n:∀ y z,o ≠ .lst [y,z]):H' a=some o:=k a o (fun z=>n x b (by rw [z,hl] at e; exact (Option.some.inj e).symm)) e
theorem K3:∀ {l:List Int},(∀ z ∈ l,0 <= z)->0 <= l.sum
 | [],_=>Int.le_refl _
 | a :: l,h=>by
  have h1:=h a List.mem_cons_self
  have h2:=K3 (l:=l) fun z hz=>h z (List.mem_cons_of_mem _ hz)
  rw [List.sum_cons]
  omega
theorem Gq {n:Nat}:∀ (rs:List (Int × Sd.Sd)),(((rs.map fun r=>(Sd.nE n r.2).toNat).sum:Nat):Int)=(rs.map fun r=>Sd.nE n r.2).sum
 | []=>rfl
 | r :: rs=>by
  have h1:=Gq (n:=n) rs
  have h2:=Sd.yI n r.2
  rw [List.map_cons,List.map_cons,List.sum_cons,List.sum_cons]
  push_cast
  omega
end TD
namespace TD
open PySem L2
open Builtin.Int (intBits)
def Md (H:Hp) (t:Addr):Prop:=∃ s,fY H t s /\ Sd.Ok s 4 12
def Sg (c:Cs) (H:Hp) (y:Addr):Prop:=∃ s d m,dI c H y s d m /\ d <= 4 /\ m <= 12
theorem Sg.kt {c:Cs}{H H':Hp} (s:Kt H H') {y:Addr} (h:Sg c H y):Sg c H' y:=let ⟨a,d,m,h,r⟩:=h; ⟨a,d,m,h.kp s.kp,r⟩
theorem Md.keep {H H':Hp} (k:∀ b xs,H b=some (.tup xs)->H' b=some (.tup xs)) {t:Addr} (h:Md H t):Md H' t:=let ⟨s,a,b⟩:=h; ⟨s,a.keep k,b⟩
def Od (K:PySem.W.Frag):Sp:=fun vs H Q _=>∃ (a:Addr) (ns:List Int) (m:Int),vs=[.ref a,.int m] /\ bR K H a (ns.map V.int) /\ 1 <= m /\ m <= 6 /\ ∀ (l:Addr) (ts:List Addr) (H':Hp),aN H H'->H' l=some (.lst (ts.map V.ref))->(∀ t ∈ ts,Md H' t)->(ts.length:Int)=m->Q (.ref l) H'
theorem BP {e:Addr->Bool}:∀ {ts:List Addr}{i:Nat}{a:Addr},ts[i]? = some a->e a=true->∃ j b,ts[j]? = some b /\ e b=true /\ j <= i /\ ∀ m c,m < j->ts[m]? = some c->e c=false
 | [],i,a,h,_=>by simp at h
 | t :: ts,i,a,h,ha=>by
  cases et:e t with
  | true=>exact ⟨0,t,rfl,et,Nat.zero_le _,fun m c hm=>absurd hm (Nat.not_lt_zero _)⟩
  | false =>
   match i,h with
   | 0,h=>cases h; rw [et] at ha; cases ha
   | i + 1,h =>
    obtain ⟨j,b,h1,h2,h3,h4⟩:=BP (ts:=ts) (i:=i) h ha
    refine ⟨j + 1,b,h1,h2,by omega,fun m c hm hc=>?_⟩
    match m,hc,hm with
    | 0,hc,_=>cases hc; exact et
    | m + 1,hc,hm=>exact h4 m c (by omega) hc
structure aAR (H:Hp) (r:Addr) (q:Ca) (r1 r2 r3 r6:Addr) (ts:List Addr):Prop where
 hr:H r=some (.lst [.ref r1,.ref r2,.ref r3,.int q.sp,.int (haV q),.ref r6])
 h1:H r1=some (.lst (ts.map V.ref))
 tl:ts.length=q.ss.length
 to:∀ (i:Nat) t s,ts[i]? = some t->q.ss[i]? = some s->fY H t s.1
 h2:H r2=some (.lst q.ls)
 h3:H r3=some (.lst ((Oe q).map V.int))
 h6:H r6=some (.lst (q.ds.map V.ref))
structure Oi (K:PySem.W.Frag) (C:Addr) (cs:List Addr) (nb:Int):Prop where
 xt:XTy K C
 ve:PySem.W.kitOne K (.ref C) (.type "ValueError")=some true
 ks:∀ (i:Nat) (c:Addr),cs[i]? = some c->PySem.W.kitOne K (.ref C) (.ref c)=some (decide ((i:Int)=nb))
theorem zB (x y:Int):decide (V.int x=V.int y)=decide (x=y):=by
 by_cases h:x=y
 ·rw [h,decide_eq_true rfl,decide_eq_true rfl]
 ·rw [decide_eq_false h,decide_eq_false (fun z=>h (by injection z))]
end TD
namespace Tb
def lo (l0 l1:Int) (ps:List Rw):List Rw:=ps.filter fun r=>decide (r.t * l1 < l0 * r.b)
def hiw (l0 l1:Int) (ps:List Rw):Int:=((ps.filter fun r=>!decide (r.t * l1 < l0 * r.b)).map Rw.w).sum
def lc (l0 l1:Int) (ps:List Rw):List Rw:=lo l0 l1 ps ++ (if 0 < hiw l0 l1 ps then [⟨l0,l1,hiw l0 l1 ps⟩] else [])
def dvw (g:Int) (ps:List Rw):List Rw:=ps.map fun r=>⟨r.t,r.b,r.w.fdiv g⟩
def lct (l0 l1:Int) (ps:List Rw):List Rw:=dvw (sE ((lc l0 l1 ps).map Rw.w)) (lc l0 l1 ps)
section
variable {l0 l1:Int} (fl:Fr.gF l0 l1)
include fl
end
end Tb
namespace Sd
def tB (M:Int) (ps:List Tb.Rw):Int:=(ps.map fun r=>r.w * r.t * M.fdiv r.b).sum
def sm (ps:List Tb.Rw):Rat:=(ps.map fun r=>(r.w:Rat) * cv r).sum
theorem zO (r:Tb.Rw) (ps:List Tb.Rw):sm (r :: ps)=(r.w:Rat) * cv r + sm ps:=by unfold sm; rw [List.map_cons,List.sum_cons]
theorem Hm (ps qs:List Tb.Rw):sm (ps ++ qs)=sm ps + sm qs:=by unfold sm; rw [List.map_append,List.sum_append]
theorem J2 {M:Int} (hM:0 < M):∀ {ps:List Tb.Rw},(∀ r ∈ ps,0 < r.b /\ r.b ∣ M)->((tB M ps:Int):Rat)=(M:Rat) * sm ps
 | [],_=>by simp [tB,sm]
 | r :: ps,h=>by
  have ih:=J2 hM (ps:=ps) fun x hx=>h x (List.mem_cons_of_mem _ hx)
  obtain ⟨b0,k,hk⟩:=h r List.mem_cons_self
  have e1:tB M (r :: ps)=r.w * r.t * M.fdiv r.b + tB M ps:=by unfold tB; rw [List.map_cons,List.sum_cons]
  have e2:M.fdiv r.b=k:=by rw [hk]; exact Int.mul_fdiv_cancel_left _ (Int.ne_of_gt b0)
  have e3:(M:Rat)=(r.b:Rat) * (k:Rat):=by rw [hk]; push_cast; rfl
  have n1:=d8 b0
  rw [e1,e2,zO]
  push_cast
  rw [ih]
  unfold cv
  rw [e3]
  grind
theorem yQ {l:Int × Int} (hl:0 < l.2):∀ {ps:List Tb.Rw},(∀ r ∈ ps,0 < r.b)->sm (ps.filter fun r=>decide (l.1 * r.b < r.t * l.2)) + -((Tb.W (ps.filter fun r=>decide (l.1 * r.b < r.t * l.2)):Int):Rat) * V l=up (V l) ps
 | [],_=>by simp [sm,up,Tb.W]; grind
 | r :: ps,h=>by
  have ih:=yQ hl (ps:=ps) fun x hx=>h x (List.mem_cons_of_mem _ hx)
  have b0:=h r List.mem_cons_self
  have key:=Iw (x:=l) (y:=(r.t,r.b)) hl b0
  rw [gZ]
  have ec:V (r.t,r.b)=cv r:=rfl
  rw [ec] at key
  by_cases c:l.1 * r.b < r.t * l.2
  ·rw [List.filter_cons_of_pos (by simpa using c),zO,Tb.gB]
   push_cast
   unfold uM
   rw [if_pos (key.mp c),<- ih]
   grind
  ·rw [List.filter_cons_of_neg (by simpa using c),ih]
   unfold uM
   rw [if_neg (fun z=>c (key.mpr z))]
   grind
theorem BL {p:Tb.Rw->Bool}:∀ {ps:List Tb.Rw},(∀ r ∈ ps,0 <= r.w)->0 <= Tb.W (ps.filter p) /\ Tb.W (ps.filter p) <= Tb.W ps
 | [],_=>by simp [Tb.W]
 | r :: ps,h=>by
  have ih:=BL (p:=p) (ps:=ps) fun x hx=>h x (List.mem_cons_of_mem _ hx)
  have w:=h r List.mem_cons_self
  rw [Tb.gB,List.filter_cons]
  split
  ·rw [Tb.gB]; omega
  ·omega
theorem Hj {M W:Int}{l:Int × Int}{ps ys:List Tb.Rw} (hM:0 < M) (hW:0 < W) (hl:0 < l.2) (hb:∀ r ∈ ps,0 < r.b) (hd:∀ r ∈ ys ++ [⟨l.1,l.2,-(Tb.W ys)⟩],0 < r.b /\ r.b ∣ M) (e:ys=ps.filter fun r=>decide (l.1 * r.b < r.t * l.2)) :
  V (Fr.sh (tB M (ys ++ [⟨l.1,l.2,-(Tb.W ys)⟩])) (M * W))=up (V l) ps / (W:Rat):=by
 rw [NB (Int.mul_pos hM hW),J2 hM hd,Hm,<- yQ hl hb,<- e]
 have n1:=d8 hM
 have n2:=d8 hW
 have e1:sm [⟨l.1,l.2,-(Tb.W ys)⟩] = -((Tb.W ys:Int):Rat) * V l:=by
  rw [zO]
  unfold sm cv V
  push_cast
  simp
  grind
 rw [e1]
 push_cast
 grind
end Sd
namespace TD
open PySem L2
open Builtin.Int (intBits)
def gG (H:Hp) (y:Addr) (xs:List cB):Prop:=∃ (C dx:Addr) (fs:List (Str × V)) (cp:Addr),H y=some (.ins C dx fs) /\ fs.lookup ("cap_rows" : Str)=some (V.ref cp) /\ Cg H cp xs
theorem Av {H:Hp}:∀ {xs ys:List cB},gC xs=gC ys->(∀ x ∈ xs,gM H x)->(∀ x ∈ ys,gM H x)->xs=ys
 | [],[],_,_,_=>rfl
 | [],_ :: _,h,_,_=>nomatch h
 | _ :: _,[],h,_,_=>nomatch h
 | x :: xs,y :: ys,h,hx,hy=>by
  have h':V.ref x.p :: gC xs=V.ref y.p :: gC ys:=h
  injection h' with h1 h2
  injection h1 with h1
  rw [Av h2 (fun z hz=>hx z (List.mem_cons_of_mem _ hz)) fun z hz=>hy z (List.mem_cons_of_mem _ hz)]
  obtain ⟨a1,a2⟩:=hx x List.mem_cons_self
  obtain ⟨b1,b2⟩:=hy y List.mem_cons_self
  cases x
  cases y
  simp only at h1 a1 a2 b1 b2
  subst h1
  rw [a1] at b1
  injection b1 with b1
  injection b1 with b1
  injection b1 with e1 e2
  injection e1 with e1
  injection e2 with e2
  injection e2 with e2
  subst e1 e2
  rw [a2] at b2
  injection b2 with b2
  injection b2 with b2
  injection b2 with e1 e2
  injection e1 with e1
  injection e2 with e2
  injection e2 with e2
  subst e1 e2
  rfl
theorem gG.uniq {H:Hp}{y:Addr}{xs zs:List cB} (a:gG H y xs) (b:gG H y zs):xs=zs:=by
 obtain ⟨C,dx,fs,cp,h1,h2,h3,h4⟩:=a
 obtain ⟨C',dx',fs',cp',g1,g2,g3,g4⟩:=b
 rw [h1] at g1
 injection g1 with g1
 injection g1 with e1 e2 e3
 subst e3
 rw [h2] at g2
 injection g2 with g2
 injection g2 with g2
 subst g2
 rw [h3] at g3
 injection g3 with g3
 injection g3 with g3
 exact Av g3 h4 g4
theorem dI.tab {c:Cs}{H:Hp}{y:Addr}{s:Sd.Sd}{d m:Nat} (h:dI c H y s d m):∃ xs lv,gG H y xs /\ Di xs d m /\ (cM xs).Pairwise Tb.Lt /\ Sd.Mt s d lv (cM xs) /\ Sd.Lw lv:=by
 cases h with
 | en h vv ok=>exact ⟨_,_,⟨_,_,_,_,h,rfl,vv.caps⟩,vv.gs,vv.so,vv.mt,vv.lw⟩
 | st h vv g lp ly row sub p0 p9 ne l4 w hk=>exact ⟨_,_,⟨_,_,_,_,h,rfl,vv.caps⟩,vv.gs,vv.so,vv.mt,vv.lw⟩
theorem gG.kp {c:Cs}{H H':Hp}{y:Addr}{s:Sd.Sd}{d m:Nat}{xs:List cB} (st:dI c H y s d m) (k:Kp H H') (h:gG H y xs):gG H' y xs:=by
 obtain ⟨C,dx,fs,cp,h1,h2,h3⟩:=h
 cases fs with
 | nil=>cases h2
 | cons f fs=>exact ⟨C,dx,_,cp,k.ins h1,h2,h3.kp k⟩
theorem gG.same {H H':Hp}{y:Addr}{xs:List cB} (k:aN H H') (h:gG H y xs):gG H' y xs:=by
 obtain ⟨C,dx,fs,cp,h1,h2,h3⟩:=h
 exact ⟨C,dx,fs,cp,k _ _ h1,h2,h3.kp (aN.kp k)⟩
structure Z6 (x:Int × Int):Prop where
 t:intBits x.1 <= 20000
 b:intBits x.2 <= 4400
 p:0 < x.2
theorem QD {ys zs:List cB} (e:cM ys=cM zs) {y:cB} (hy:y ∈ ys):∃ z ∈ zs,z.t=y.t /\ z.b=y.b /\ z.w=y.w:=by
 have h:y.r ∈ cM zs:=by rw [<- e]; exact List.mem_map.mpr ⟨y,hy,rfl⟩
 obtain ⟨z,hz,ez⟩:=List.mem_map.mp h
 refine ⟨z,hz,?_⟩
 have e1:z.r=y.r:=ez
 unfold cB.r at e1
 cases z; cases y
 simp at e1
 exact e1
theorem Nf {l:Int × Int} (h:Sd.Lw l):intBits l.2 <= 1501 /\ intBits l.1 <= 3031:=pL h.fq h.fr.pos h.b (Int.le_of_lt (Sd.bU _)) (Int.le_refl _)
section
variable (c:Cs) (cC:Addr) (C:Addr) (Pt:Addr) (lp:Pos)
def Nv:Sp:=fun vs H Q _=>∃ (p q:Addr) (x y:Int × Int),vs=[.ref p,.ref q] /\ Tq H p x /\ Tq H q y /\ Z6 x /\ Z6 y /\ ∀ r H',aN H H'->Tq H' r (Sd.tms x y)->Q (.ref r) H'
def sW:Sp:=fun vs H Q _=>∃ (x:Addr) (s:Sd.Sd) (d m:Nat) (xs:List cB),vs=[.ref x] /\ dI c H x s d m /\ gG H x xs /\ ∀ (r:Addr) (H':Hp),aN H H'->H r=none->eZ H' r xs->Q (.ref r) H'
structure BR (xs:List cB):Prop where
 len:xs.length <= 40
 b:∀ x ∈ xs,0 < x.b
 t:∀ x ∈ xs,intBits x.t <= 4000
 w:∀ x ∈ xs,intBits x.w <= 1000
 z:∀ x ∈ xs,intBits x.b <= 4000
 lz:intBits (bK xs) <= 5000
def Ot:Sp:=fun vs H Q _=>∃ (a:Addr) (xs:List cB) (W:Int),vs=[.ref a,.int W] /\ eZ H a xs /\ BR xs /\ 0 < W /\ intBits W <= 1000 ∧
 ∀ p H',aN H H'->Tq H' p (Fr.sh (Sd.tB (bK xs) (cM xs)) (bK xs * W))->Q (.ref p) H'
structure At (H:Hp) (x:Addr) (i:Nat) (q:Ca) (y:Addr) (xs:List cB):Prop where
 ca:gA c cC H x q
 yy:q.ys[i]? = some y
 tab:gG H y xs
end
theorem Hv {c:Cs}{ta:TE}{σ : St}{H:Hp}{Q:VK}{y:Addr}{s:Sd.Sd}{d m:Nat}{xs:List cB} (hta:∀ Q':VK,Q' (.ref y) H->ta σ H Q') (st:dI c H y s d m) (ct:gG H y xs)
  (k:∀ r H1,aN H H1->H r=none->eZ H1 r xs->Q (.ref r) H1):xY c.e "caps" (sW c) [] E0 ta uT σ H Q ∨ xY c.s "caps" (sW c) [] E0 ta uT σ H Q:=by
 have st0:=st
 cases st with
 | en h vv ok=>exact .inl (hta _ ⟨y,_,_,rfl,h,rfl,y,_,_,_,xs,rfl,st0,ct,k⟩)
 | st h vv g lp ly row sub p0 p9 ne l4 w hk=>exact .inr (hta _ ⟨y,_,_,rfl,h,rfl,y,_,_,_,xs,rfl,st0,ct,k⟩)
theorem VM {α : Type}{G:α->Prop}{A:Prop} (Cond:α->Prop) (main:(∀ H1,Cond H1->G H1)->A) (iH:∀ H1,Cond H1->G H1):A:=main iH
theorem q8:∀ {ps qs:List Addr},ps.map V.ref=qs.map V.ref->ps=qs
 | [],[],_=>rfl
 | [],_ :: _,h=>nomatch h
 | _ :: _,[],h=>nomatch h
 | p :: ps,q :: qs,h=>by
  injection h with h1 h2
  injection h1 with h1
  rw [h1,q8 h2]
theorem Ab {H:Hp}{a:Addr}{s:Sd.Sd} (h:fY H a s):∀ {t:Sd.Sd},fY H a t->s=t:=by
 induction h with
 | en h =>
  intro t h2
  cases h2 with
  | en h' =>
   rw [h] at h'
   injection h' with h'
   injection h' with h'
   injection h' with _ h'
   injection h' with h'
   injection h' with h'
   rw [h']
  | st h' =>
   rw [h] at h'
   injection h' with h'
   injection h' with h'
   injection h' with h' _
   injection h' with h'
   exact absurd h' (by decide)
 | @st a r p rs ps ys h g lp ly row sub ih =>
  intro t h2
  cases h2 with
  | en h' =>
   rw [h] at h'
   injection h' with h'
   injection h' with h'
   injection h' with h' _
   injection h' with h'
   exact absurd h' (by decide)
  | @st _ r' p' rs' ps' ys' h' g' lp' ly' row' sub' =>
   rw [h] at h'
   injection h' with h'
   injection h' with h'
   injection h' with _ h'
   injection h' with e1 h'
   injection e1 with e1
   injection h' with e2 _
   injection e2 with e2
   subst e1 e2
   rw [g] at g'
   injection g' with g'
   injection g' with g'
   have ep:=q8 g'
   subst ep
   have el:rs.length=rs'.length:=by omega
   have:rs=rs':=by
    refine List.ext_getElem el fun i h1 h2=>?_
    have a1:=row i ps[i] ys[i] rs[i] (List.getElem?_eq_getElem _) (List.getElem?_eq_getElem _) (List.getElem?_eq_getElem _)
    have a2:=row' i ps[i] ys'[i] rs'[i] (List.getElem?_eq_getElem _) (List.getElem?_eq_getElem _) (List.getElem?_eq_getElem _)
    rw [a1] at a2
    injection a2 with a2
    injection a2 with a2
    injection a2 with e1 a2
    injection e1 with e1
    injection a2 with e2 _
    injection e2 with e2
    have b2:=sub' i ys'[i] rs'[i] (List.getElem?_eq_getElem _) (List.getElem?_eq_getElem _)
    rw [<- e2] at b2
    have e3:=ih i ys[i] rs[i] (List.getElem?_eq_getElem _) (List.getElem?_eq_getElem _) b2
    exact Prod.ext e1 e3
   rw [this]
def Q0 (c:Cs) (H H':Hp) (ts ys:List Addr):Prop:=∀ (i:Nat) t y,ts[i]? = some t->ys[i]? = some y->∃ s,fY H t s /\ dI c H' y s 4 12
theorem Qu {K:PySem.W.Frag}{H:Hp}{ts:List Addr} (h:∀ t ∈ ts,Md H t) {t:Addr} (ht:t ∈ ts):∃ e:Addr->Bool,(∀ a ∈ ts,DE K H 13 (.ref a) (.ref t) (e a)) /\ e t=true /\ ∀ a ∈ ts,e a=true->∀ s,fY H a s->fY H t s:=by
 have each:∀ a,∃ k,(a ∈ ts->DE K H 13 (.ref a) (.ref t) k /\ (k=true->∀ s,fY H a s->fY H t s)) /\ (a=t->k=true):=fun a=>by
  by_cases ha:a ∈ ts
  ·obtain ⟨s,to,ok⟩:=h a ha
   obtain ⟨s2,to2,ok2⟩:=h t ht
   obtain ⟨k,de,hk⟩:=Kr (K:=K) ok to to2 (Nat.le_refl 13)
   have un:∀ s',fY H a s'->s'=s:=fun s' to'=>by
    obtain ⟨k1,de1,hk1⟩:=Kr (K:=K) ok to to' (Nat.le_refl 13)
    obtain ⟨k2,de2,hk2⟩:=Kr (K:=K) ok to to (Nat.le_refl 13)
    exact (Ab to' to)
   refine ⟨k,fun _=>⟨de,fun e s' to'=>?_⟩,fun e=>?_⟩
   ·rw [un s' to',hk.mp e]
    exact to2
   ·subst e
    exact hk.mpr (Ab to to2)
  ·exact ⟨false,fun z=>absurd z ha,fun e=>absurd (e ▸ ht) ha⟩
 exact ⟨fun a=>Classical.choose (each a),fun a ha=>((Classical.choose_spec (each a)).1 ha).1,(Classical.choose_spec (each t)).2 rfl,fun a ha=>((Classical.choose_spec (each a)).1 ha).2⟩
def OJ (c:Cs) (Pt:Addr) (lp:Pos):Sp:=fun vs H Q _=>∃ (l:Addr) (ts:List Addr),vs=[.ref l] /\ H l=some (.lst (ts.map V.ref)) /\ (∀ t ∈ ts,Md H t) /\ 1 <= ts.length /\ ts.length <= 6 /\ fG Pt lp lK H ∧
 ∀ (r:Addr) (ys:List Addr) (H':Hp),cH Pt H H'->fG Pt lp lK H'->H r=none->H' r=some (.lst (ys.map V.ref))->ys.length=ts.length->Q0 c H H' ts ys->Q (.ref r) H'
def ZP (H:Hp) (l:V) (xs:List cB) (due:List Tb.Rw) (o:Option Rat):Prop:=(l = .non /\ due=cM xs /\ o=none) ∨ ∃ a lv,l = .ref a /\ Tq H a lv /\ Sd.Lw lv /\ due=Tb.lct lv.1 lv.2 (cM xs) /\ o=some (Sd.up (Sd.V lv) (cM xs) / ((bN xs:Int):Rat))
def DV (o:Option Rat) (z:Int × Int):Prop:=match o with | none=>z=(0,1) | some v=>Sd.V z=v
theorem DV.uniq {o:Option Rat}{z y:Int × Int} (a:DV o z) (b:DV o y) (fz:Fr.gF z.1 z.2) (fy:Fr.gF y.1 y.2):z=y:=by
 cases o with
 | none=>exact (show z=(0,1) from a).trans (show y=(0,1) from b).symm
 | some v=>exact Sd.Gh fz fy ((show Sd.V z=v from a).trans (show Sd.V y=v from b).symm)
theorem ZP.kt {H H':Hp}{l:V}{xs:List cB}{due:List Tb.Rw}{o:Option Rat} (k:Kt H H') (h:ZP H l xs due o):ZP H' l xs due o:=by
 rcases h with h | ⟨a,lv,e,t,r⟩
 ·exact .inl h
 ·exact .inr ⟨a,lv,e,k.tup t,r⟩
section
variable {c:Cs}{cC:Addr}{Pt:Addr}{lp:Pos}{H:Hp}{Q:VK}{E:XK}{x:Addr}{i:Nat}{q:Ca}{y:Addr}{xs:List cB}{d m:Nat}{l:V}{due:List Tb.Rw}{o:Option Rat}
end
end TD
namespace TD
open PySem L2
open Builtin.Int (intBits)
theorem LQ {c:Cs}{H H':Hp}:∀ {ts ys:List Addr},ys.length=ts.length->Q0 c H H' ts ys->∃ ss:List Sd.Sd,ss.length=ts.length /\ (∀ (i:Nat) t s,ts[i]? = some t->ss[i]? = some s->fY H t s) /\ ∀ (i:Nat) y s,ys[i]? = some y->ss[i]? = some s->dI c H' y s 4 12
 | [],[],_,_=>⟨[],rfl,fun i t s h=>by simp at h,fun i t s h=>by simp at h⟩
 | [],_ :: _,h,_=>by simp at h
 | _ :: _,[],h,_=>by simp at h
 | t :: ts,y :: ys,hl,h=>by
  obtain ⟨ss,l,a,b⟩:=LQ (ts:=ts) (ys:=ys) (by simpa using hl) fun i t y e1 e2=>h (i + 1) t y e1 e2
  obtain ⟨s,to,st⟩:=h 0 t y rfl rfl
  refine ⟨s :: ss,by simp [l],fun i t' s' e1 e2=>?_,fun i t' s' e1 e2=>?_⟩
  ·cases i with
   | zero=>cases e1; cases e2; exact to
   | succ i=>exact a i t' s' e1 e2
  ·cases i with
   | zero=>cases e1; cases e2; exact st
   | succ i=>exact b i t' s' e1 e2
theorem Q0.kp {c:Cs}{H H1 H2:Hp}{ts ys:List Addr} (k:Kp H1 H2) (h:Q0 c H H1 ts ys):Q0 c H H2 ts ys:=fun i t y e1 e2=>let ⟨s,to,st⟩:=h i t y e1 e2; ⟨s,to,st.kp k⟩
def Mod (H:Hp) (ts:List Addr) (q:Ca):Prop:=∀ (i:Nat) t s,ts[i]? = some t->q.ss[i]? = some s->fY H t s.1
theorem Mod.keep {H H':Hp}{ts:List Addr}{q:Ca} (k:∀ b xs,H b=some (.tup xs)->H' b=some (.tup xs)) (h:Mod H ts q):Mod H' ts q:=fun i t s e1 e2=>(h i t s e1 e2).keep k
theorem gA.lst {c:Cs}{cC:Addr}{H:Hp}{x:Addr}{q:Ca}{l:Addr}{xs zs:List V} (h:gA c cC H x q) (e:H l=some (.lst xs)):gA c cC (aY H l (.lst zs)) x q:=by
 have kt:∀ b xs,H b=some (.tup xs)->aY H l (.lst zs) b=some (.tup xs):=fun b xs e1=>by rw [aK (bO e1 e fun z=>nomatch z)]; exact e1
 refine ⟨by rw [aK (bO h.hx e fun z=>nomatch z)]; exact h.hx,kt _ _ h.hp,kt _ _ h.hl,kt _ _ h.hh,kt _ _ h.hd,h.n1,h.n6,h.es,h.el,h.eb,fun i y s e1 e2=>⟨qM e (h.st i y s e1 e2).1,(h.st i y s e1 e2).2⟩,fun v hv=>?_,h.en,fun d hd=>?_,h.d9⟩
 ·cases h.cp v hv with
  | non=>exact .non
  | sh a b=>exact .sh (kt _ _ a) b
 ·cases h.dd d hd with
  | op a=>exact .op (kt _ _ a)
  | tk a=>exact .tk (kt _ _ a)
theorem JH (ns:List Int) (lo hi:Option Int):∃ ms:List Int,iV (ns.map V.int) lo hi=ms.map V.int /\ ms.length <= ns.length:=by
 unfold iV
 rw [List.length_map,<- List.map_drop,<- List.map_take]
 exact ⟨_,rfl,by rw [List.length_take,List.length_drop]; omega⟩
end TD
namespace L2
open PySem PySem.Spec PyProof.Rows
section
variable {X:Cx}
end
end L2
namespace TD
open PySem L2
open Builtin.Int (intBits)
structure SS where
 la:Addr
 ca:Addr
 ka:Addr
 da:Addr
 ts:List Addr
 ls:List V
 ks:List Int
 pd:Int
 ds:List Addr
def kvS (z:SS):List (dB × V):=[(.inr "stands",.ref z.la),(.inr "caps",.ref z.ca),(.inr "kept",.ref z.ka),(.inr "paid",.int z.pd),(.inr "deeds",.ref z.da)]
structure NZ (H:Hp) (a:Addr) (z:SS):Prop where
 hd:H a=some (.dK (kvS z))
 hs:H z.la=some (.lst (z.ts.map V.ref))
 hc:H z.ca=some (.lst z.ls)
 hk:H z.ka=some (.lst (z.ks.map V.int))
 hq:H z.da=some (.lst (z.ds.map V.ref))
 nd:[z.la,z.ca,z.ka,z.da].Nodup
structure Jk (H:Hp) (b:Addr) (z:SS):Prop where
 d:H b=none
 s:H z.la=none
 c:H z.ca=none
 k:H z.ka=none
 q:H z.da=none
theorem NZ.kt {H H':Hp}{a:Addr}{z:SS} (k:Kt H H') (h:NZ H a z):NZ H' a z:=⟨k _ _ h.hd (fun _ z=>nomatch z),k.lst h.hs,k.lst h.hc,k.lst h.hk,k.lst h.hq,h.nd⟩
theorem Jk.ne {H:Hp}{b m:Addr}{z:SS}{o:HO} (h:Jk H b z) (e:H m=some o):m ≠ b /\ m ≠ z.la /\ m ≠ z.ca /\ m ≠ z.ka /\ m ≠ z.da :=
 ⟨aU e h.d,aU e h.s,aU e h.c,aU e h.k,aU e h.q⟩
theorem Jk.back {H H1:Hp}{b:Addr}{z:SS} (s:aN H H1) (h:Jk H1 b z):Jk H b z:=⟨s.free h.d,s.free h.s,s.free h.c,s.free h.k,s.free h.q⟩
theorem NZ.over {H:Hp}{a m:Addr}{z:SS}{xs zs:List V} (h:NZ H a z) (e:H m=some (.lst xs)) (n:m ≠ z.la /\ m ≠ z.ca /\ m ≠ z.ka /\ m ≠ z.da):NZ (aY H m (.lst zs)) a z :=
 ⟨by rw [aK (bO h.hd e fun z=>nomatch z)]; exact h.hd,by rw [aK n.1.symm]; exact h.hs,by rw [aK n.2.1.symm]; exact h.hc,by rw [aK n.2.2.1.symm]; exact h.hk,by rw [aK n.2.2.2.symm]; exact h.hq,h.nd⟩
def Yo (H:Hp) (u v:V):Prop:=(u = .non /\ v = .non) ∨ ∃ a b lv,u = .ref a /\ v = .ref b /\ Tq H a lv /\ Tq H b lv /\ Sd.Lw lv
def Ys (H:Hp) (u v:Addr):Prop:=(∃ b r:Int,H u=some (.tup [.str "open",.int b,.int r]) /\ H v=some (.tup [.str "open",.int b,.int r])) ∨ ∃ b:Int,H u=some (.tup [.str "take",.int b]) /\ H v=some (.tup [.str "take",.int b])
theorem Yo.keep {H H':Hp} (k:∀ b xs,H b=some (.tup xs)->H' b=some (.tup xs)) {u v:V} (h:Yo H u v):Yo H' u v:=by
 rcases h with h | ⟨a,b,lv,e1,e2,t1,t2,w⟩
 ·exact .inl h
 ·exact .inr ⟨a,b,lv,e1,e2,k _ _ t1,k _ _ t2,w⟩
theorem Ys.keep {H H':Hp} (k:∀ b xs,H b=some (.tup xs)->H' b=some (.tup xs)) {u v:Addr} (h:Ys H u v):Ys H' u v:=by
 rcases h with ⟨b,r,e1,e2⟩ | ⟨b,e1,e2⟩
 ·exact .inl ⟨b,r,k _ _ e1,k _ _ e2⟩
 ·exact .inr ⟨b,k _ _ e1,k _ _ e2⟩
structure HN (H:Hp) (q:Ca) (z:SS):Prop where
 tl:z.ts.length=q.ys.length
 mo:Mod H z.ts q
 ll:z.ls.length=q.ys.length
 cp:∀ (i:Nat) u v,q.ls[i]? = some u->z.ls[i]? = some v->Yo H u v
 kk:z.ks.Perm (Oe q)
 pd:z.pd=q.sp
 dl:z.ds.length=q.ds.length
 dd:∀ (i:Nat) u v,q.ds[i]? = some u->z.ds[i]? = some v->Ys H u v
theorem HN.keep {H H':Hp}{q:Ca}{z:SS} (k:∀ b xs,H b=some (.tup xs)->H' b=some (.tup xs)) (h:HN H q z):HN H' q z :=
 ⟨h.tl,h.mo.keep k,h.ll,fun i u v e1 e2=>(h.cp i u v e1 e2).keep k,h.kk,h.pd,h.dl,fun i u v e1 e2=>(h.dd i u v e1 e2).keep k⟩
def K5 (H H':Hp) (q q2:Ca) (i:Nat) (s:Sd.Sd) (d:Nat):Prop:=∃ L lv rv,q2.ls=q.ls.set i (.ref L) /\ Tq H' L lv /\ Sd.Lw lv /\ Sd.Lw rv /\ Sd.Rv s d rv ∧
 ((q.ls[i]? = some .non /\ lv=rv) ∨ ∃ l0 lv0,q.ls[i]? = some (.ref l0) /\ Tq H l0 lv0 /\ lv=if rv.1 * lv0.2 < lv0.1 * rv.2 then rv else lv0)
section
variable (c:Cs) (cC:Addr) (C:Addr)
def KJ:Sp:=fun vs H Q _=>∃ (x:Addr) (i j:Nat) (q:Ca) (p:Int) (rs:List (Int × Sd.Sd)) (d m:Nat),vs=[.ref x,.int (i:Int),.int (j:Int)] /\ gA c cC H x q /\ q.ss[i]? = some (.st p rs,d,m) /\ j < rs.length /\ q.ds.length <= 99 ∧
 ∀ x2 q2 H',aN H H'->gA c cC H' x2 q2->q2.ys.length=q.ys.length->(∃ t d2 m2,rs[j]? = some t /\ q2.ss=q.ss.set i (t.2,d2,m2))->q2.bs=q.bs->K5 H H' q q2 i (.st p rs) d->q2.sp=q.sp + p->(∃ t,q2.ds=q.ds ++ [t] /\ H' t=some (.tup [.str "open",.int (i:Int),.int (j:Int)]))->Q (.ref x2) H'
def Nz:Sp:=fun vs H Q _=>∃ (x:Addr) (i:Nat) (q:Ca) (u:Int) (d m:Nat),vs=[.ref x,.int (i:Int)] /\ gA c cC H x q /\ q.ss[i]? = some (.en u,d,m) /\ q.bs[i]? = some false /\ q.ds.length <= 99 ∧
 ∀ x2 q2 H',aN H H'->gA c cC H' x2 q2->q2.ys.length=q.ys.length->q2.ss=q.ss->q2.bs=q.bs.set i true->q2.ls=q.ls->q2.sp=q.sp->(∃ t,q2.ds=q.ds ++ [t] /\ H' t=some (.tup [.str "take",.int (i:Int)]))->Q (.ref x2) H'
end
theorem Bm {c:Cs}{cC:Addr}{H H3:Hp}{x dx tp tl th td:Addr}{ts ys:List Addr} (hx3:H3 x=some (.ins cC dx (pI tp tl th 0 td))) (htp:H3 tp=some (.tup (ys.map V.ref))) (htl:H3 tl=some (.tup (ys.map fun _=>V.non))) (hth:H3 th=some (.tup (ys.map fun _=>V.bl false))) (htd:H3 td=some (.tup []))
  (n1:1 <= ys.length) (n6:ys.length <= 6) (yl:ys.length=ts.length) (cor:Q0 c H H3 ts ys) (kt:∀ b xs,H b=some (.tup xs)->H3 b=some (.tup xs)):∃ q1:Ca,gA c cC H3 x q1 /\ q1.ys=ys /\ q1.ds=[] /\ Mod H3 ts q1 /\ q1.ls=ys.map (fun _=>V.non) /\ q1.bs=ys.map (fun _=>false) /\ q1.sp=0:=by
 obtain ⟨ss,sl,a,b⟩:=LQ yl cor
 refine ⟨⟨dx,tp,tl,th,td,ys,ss.map fun s=>(s,4,12),ys.map fun _=>V.non,ys.map fun _=>false,0,[]⟩,⟨hx3,htp,htl,?_,htd,n1,n6,?_,by rw [List.length_map],by rw [List.length_map],fun i y s e1 e2=>?_,fun v hv=>?_,fun i s e1 _=>?_,(fun d hd=>nomatch hd),Nat.zero_le _⟩,rfl,rfl,fun i t s e1 e2=>?_,rfl,rfl,rfl⟩
 ·show H3 th=some (.tup ((ys.map fun _=>false).map V.bl))
  rw [List.map_map]
  exact hth
 ·show (ss.map _).length=ys.length
  rw [List.length_map]
  omega
 ·rw [List.getElem?_map] at e2
  cases e:ss[i]? with
  | none=>rw [e] at e2; cases e2
  | some z=>rw [e] at e2; cases e2; exact ⟨b i y z e1 e,Nat.le_refl 4,Nat.le_refl 12⟩
 ·obtain ⟨_,_,rfl⟩:=List.mem_map.mp hv
  exact .non
 ·rw [List.getElem?_map] at e1
  cases e:ys[i]? with
  | none=>rw [e] at e1; cases e1
  | some y=>rw [e] at e1; cases e1
 ·rw [List.getElem?_map] at e2
  cases e:ss[i]? with
  | none=>rw [e] at e2; cases e2
  | some z=>rw [e] at e2; cases e2; exact (a i t z e1 e).keep kt
theorem wZ (ks:List Int):(ks.map V.int).all pU=true:=List.all_eq_true.mpr fun v hv=>by
 obtain ⟨i,_,rfl⟩:=List.mem_map.mp hv
 rfl
theorem Lk {H:Hp}{a:Addr}{x y:Int × Int} (h:Tq H a x) (g:Tq H a y):x=y:=by
 have h':H a=some (.tup [.int x.1,.int x.2]):=h
 have g':H a=some (.tup [.int y.1,.int y.2]):=g
 rw [h'] at g'
 injection g' with q1
 injection q1 with q1
 injection q1 with a b
 injection a with a
 injection b with b
 injection b with b
 exact Prod.ext a b
def KR (m:Addr) (z:SS):Prop:=m ≠ z.la /\ m ≠ z.ca /\ m ≠ z.ka /\ m ≠ z.da
def Pr (c:Cs) (cC:Addr) (H:Hp) (mk p:Addr):Prop:=∃ x q a z,H p=some (.tup [.ref x,.ref a]) /\ gA c cC H x q /\ NZ H a z /\ HN H q z /\ KR mk z
structure LI (c:Cs) (cC:Addr) (A1 mk:Addr) (ms:List Int) (M:Int) (H:Hp) (i:Nat) (x a:Addr) (q:Ca) (z:SS) (ps:List Addr):Prop where
 hA:H A1=some (.lst (ms.map V.int))
 hm:H mk=some (.lst (ps.map V.ref))
 ca:gA c cC H x q
 st:NZ H a z
 re:HN H q z
 ap:KR mk z
 ly:(q.ys.length:Int)=M
 ld:q.ds.length <= i
 lp:ps.length <= i + 1
 pr:∀ p ∈ ps,Pr c cC H mk p
section
variable {c:Cs}{cC A1 mk:Addr}{ms:List Int}{M:Int}{H H':Hp}{i:Nat}{x a:Addr}{q:Ca}{z:SS}{ps:List Addr}
theorem Pr.same (s:aN H H') {p:Addr} (h:Pr c cC H mk p):Pr c cC H' mk p:=by
 obtain ⟨x,q,a,z,e,hc,hs,re,ap⟩:=h
 exact ⟨x,q,a,z,s _ _ e,hc.kt (aN.kt s),hs.kt (aN.kt s),re.keep (fun b xs e=>s _ _ e),ap⟩
theorem LI.same (s:aN H H') (h:LI c cC A1 mk ms M H i x a q z ps):LI c cC A1 mk ms M H' i x a q z ps :=
 ⟨s _ _ h.hA,s _ _ h.hm,h.ca.kt (aN.kt s),h.st.kt (aN.kt s),h.re.keep (fun b xs e=>s _ _ e),h.ap,h.ly,h.ld,h.lp,fun p hp=>(h.pr p hp).same s⟩
theorem LI.next (h:LI c cC A1 mk ms M H i x a q z ps):LI c cC A1 mk ms M H (i + 1) x a q z ps:=⟨h.hA,h.hm,h.ca,h.st,h.re,h.ap,h.ly,by have:=h.ld; omega,by have:=h.lp; omega,h.pr⟩
theorem LI.push (h:LI c cC A1 mk ms M H i x a q z ps) (nA:mk ≠ A1) {x2 a2 p:Addr}{q2:Ca}{z2:SS} (hp:H' p=some (.tup [.ref x2,.ref a2])) (s:aN H H') (hc:gA c cC H' x2 q2) (hs:NZ H' a2 z2) (re:HN H' q2 z2) (ap:KR mk z2) (ly:q2.ys.length=q.ys.length) (ld:q2.ds.length <= q.ds.length + 1) :
  LI c cC A1 mk ms M (aY H' mk (.lst (ps.map V.ref ++ [.ref p]))) (i + 1) x2 a2 q2 z2 (ps ++ [p]):=by
 have g:=h.same s
 have kt:∀ b xs,H' b=some (.tup xs)->aY H' mk (.lst (ps.map V.ref ++ [.ref p])) b=some (.tup xs):=fun b xs e=>by rw [aK (bO e g.hm fun z=>nomatch z)]; exact e
 refine ⟨by rw [aK nA.symm]; exact g.hA,by rw [aB,List.map_append]; rfl,hc.lst g.hm,hs.over g.hm ap,re.keep kt,ap,by rw [ly]; exact h.ly,by have:=h.ld; omega,by rw [List.length_append]; have:=h.lp; simp; omega,fun p' hp'=>?_⟩
 rcases List.mem_append.mp hp' with w | w
 ·obtain ⟨x,q,a,z,e,hc,hs,re,ap⟩:=g.pr p' w
  exact ⟨x,q,a,z,kt _ _ e,hc.lst g.hm,hs.over g.hm ap,re.keep kt,ap⟩
 ·rw [List.mem_singleton.mp w]
  exact ⟨x2,q2,a2,z2,kt _ _ hp,hc.lst g.hm,hs.over g.hm ap,re.keep kt,ap⟩
end
end TD
namespace TD
open PySem L2
open Builtin.Int (intBits)
theorem Bk {t b:Int} (hb:0 < b) {k:Nat} (hz:intBits b <= k):intBits ((Int.gcd t b:Nat):Int) <= k:=PySem.intBits_le_of_natAbs (by rw [Int.natAbs_natCast]; exact Int.gcd_le_natAbs_right t (Int.ne_of_gt hb)) hz
theorem Fz {x y:Int × Int} (fx:Fr.gF x.1 x.2) (py:0 < y.2) (h:intBits y.2 <= 4400):intBits ((Int.gcd (x.1 * y.2 + y.1 * x.2) (x.2 * y.2):Nat):Int) <= 9000:=by
 have d1:=@Int.gcd_dvd_left (x.1 * y.2 + y.1 * x.2) (x.2 * y.2)
 have d2:=@Int.gcd_dvd_right (x.1 * y.2 + y.1 * x.2) (x.2 * y.2)
 generalize ((Int.gcd (x.1 * y.2 + y.1 * x.2) (x.2 * y.2):Nat):Int)=g at d1 d2 ⊢
 have d3:g ∣ x.1 * (y.2 * y.2):=by
  have a:=Int.dvd_sub (Int.dvd_trans d1 (Int.dvd_mul_right _ y.2)) (Int.dvd_trans d2 (Int.dvd_mul_right _ y.1))
  have e:(x.1 * y.2 + y.1 * x.2) * y.2 - x.2 * y.2 * y.1=x.1 * (y.2 * y.2):=by grind
  rwa [e] at a
 have d4:g ∣ x.2 * (y.2 * y.2):=by
  have a:=Int.dvd_trans d2 (Int.dvd_mul_right _ y.2)
  rwa [Int.mul_assoc] at a
 have d5:=Int.dvd_coe_gcd d3 d4
 rw [Int.gcd_mul_right,fx.red,Nat.one_mul] at d5
 have le:g.natAbs <= (y.2 * y.2).natAbs:=by
  have n:=Int.natAbs_dvd_natAbs.mpr d5
  rw [Int.natAbs_natCast] at n
  exact Nat.le_of_dvd (Int.natAbs_pos.mpr (Int.ne_of_gt (Int.mul_pos py py))) n
 exact Nat.le_trans (PySem.intBits_le_of_natAbs le (PySem.intBits_mul_le h h)) (by decide)
structure Zr (n:Nat) (x:Int × Int):Prop where
 fr:Fr.gF x.1 x.2
 t:intBits x.1 <= 30000 * n
 b:intBits x.2 <= 30000 * n
structure Zd (x:Int × Int):Prop where
 fr:Fr.gF x.1 x.2
 t:intBits x.1 <= 15000
 b:intBits x.2 <= 4200
theorem Zd.z6 {x:Int × Int} (h:Zd x):Z6 x:=⟨Nat.le_trans h.t (by decide),Nat.le_trans h.b (by decide),h.fr.pos⟩
theorem Zd.zr {x:Int × Int} (h:Zd x):Zr 1 x:=⟨h.fr,Nat.le_trans h.t (by decide),Nat.le_trans h.b (by decide)⟩
theorem NK:Zd (0,1):=⟨⟨by decide,by decide⟩,by decide,by decide⟩
theorem Zr.pls {n:Nat}{x y:Int × Int} (h:Zr n x) (n1:1 <= n) (g:Z6 y):Zr (n + 1) (Sd.pls x y):=by
 have ne:x.2 * y.2 ≠ 0:=Int.ne_of_gt (Int.mul_pos h.fr.pos g.p)
 refine ⟨Fr.CG ne,?_,?_⟩
 ·refine Nat.le_trans (PySem.intBits_le_of_natAbs (Fr.zV ne) (PySem.intBits_add_le (PySem.intBits_mul_le h.t g.b) (PySem.intBits_mul_le g.t h.b))) ?_
  omega
 ·refine Nat.le_trans (PySem.intBits_le_of_natAbs (Fr.Ag ne) (PySem.intBits_mul_le h.b g.b)) ?_
  omega
theorem PJ {x:Int × Int}{w W:Int} (h:Zd x) (hW:0 < W) (bw:intBits w <= 100) (bW:intBits W <= 100):Z6 (Fr.sh w W) /\ Z6 (Sd.tms x (Fr.sh w W)) /\ Sd.V (Sd.tms x (Fr.sh w W))=Sd.V x * ((w:Rat) / (W:Rat)):=by
 have p:=Fr.oR (t:=w) (Int.ne_of_gt hW)
 have b1:=PySem.intBits_le_of_natAbs (Fr.zV (t:=w) (Int.ne_of_gt hW)) bw
 have b2:=PySem.intBits_le_of_natAbs (Fr.Ag (t:=w) (Int.ne_of_gt hW)) bW
 have ne:x.2 * (Fr.sh w W).2 ≠ 0:=Int.ne_of_gt (Int.mul_pos h.fr.pos p)
 refine ⟨⟨Nat.le_trans b1 (by decide),Nat.le_trans b2 (by decide),p⟩,⟨?_,?_,Fr.oR ne⟩,?_⟩
 ·exact Nat.le_trans (PySem.intBits_le_of_natAbs (Fr.zV ne) (PySem.intBits_mul_le h.t b1)) (by decide)
 ·exact Nat.le_trans (PySem.intBits_le_of_natAbs (Fr.Ag ne) (PySem.intBits_mul_le h.b b2)) (by decide)
 ·rw [Sd.UG h.fr.pos p,Sd.NB hW]
theorem Fv {k:Nat}:∀ {l:List Int},(∀ x ∈ l,intBits x <= k)->intBits l.sum <= k + l.length
 | [],_=>by show intBits 0 <= _; exact Nat.le_trans (by decide:intBits 0 <= 0) (Nat.zero_le _)
 | x :: l,h=>by
  rw [List.sum_cons,List.length_cons]
  have a:=PySem.intBits_add_le (Nat.le_trans (h x List.mem_cons_self) (Nat.le_add_right k l.length)) (Fv (l:=l) fun y hy=>h y (List.mem_cons_of_mem _ hy))
  omega
theorem Vo {xs:List cB} (h:BR xs):intBits (Sd.tB (bK xs) (cM xs)) <= 11000:=by
 have e:Sd.tB (bK xs) (cM xs)=(xs.map fun x=>x.w * x.t * (bK xs).fdiv x.b).sum:=by unfold Sd.tB cM; rw [List.map_map]; rfl
 rw [e]
 have a:=Fv (k:=10000) (l:=xs.map fun x=>x.w * x.t * (bK xs).fdiv x.b) fun z hz=>by
  obtain ⟨x,hx,rfl⟩:=List.mem_map.mp hz
  exact PySem.intBits_mul_le (PySem.intBits_mul_le (h.w x hx) (h.t x hx)) (PySem.intBits_fdiv_le h.lz)
 rw [List.length_map] at a
 have:=h.len
 omega
def Dv (H:Hp) (q:Ca) (i:Nat) (v:Rat):Prop:=∃ s l,q.ss[i]? = some s /\ q.ls[i]? = some l ∧
 ((l = .non /\ v=0) ∨ ∃ a lv,l = .ref a /\ Tq H a lv /\ Sd.Lw lv /\ ∀ n,5 <= n->v=Sd.rb (Sd.V lv) n s.1 - Sd.V lv)
theorem Dv.kt {H H':Hp}{q:Ca}{i:Nat}{v:Rat} (k:Kt H H') (h:Dv H q i v):Dv H' q i v:=by
 obtain ⟨s,l,e1,e2,h⟩:=h
 refine ⟨s,l,e1,e2,h.imp_right ?_⟩
 rintro ⟨a,lv,e,t,r⟩
 exact ⟨a,lv,e,k.tup t,r⟩
theorem Gu {s:Sd.Sd}{d:Nat}{lv:Int × Int}{ys:List Tb.Rw} (m:Sd.Mt s d lv ys) {n:Nat} (hn:d < n) (l:Rat):Sd.rb l n s - l=Sd.up l ys / Sd.c7 ys:=by
 have a:=m.a n hn l
 have t:=m.t
 have n2:Sd.c7 ys ≠ 0:=by grind
 grind
section
variable (c:Cs) (cC:Addr) (C:Addr) (Pt:Addr) (lp:Pos)
def Aw:Sp:=fun vs H Q _=>∃ t b:Int,vs=[.int t,.int b] /\ b ≠ 0 /\ intBits ((Int.gcd t b:Nat):Int) <= 9000 /\ ∀ p H',aN H H'->H' p=some (.tup [.int (Fr.sh t b).1,.int (Fr.sh t b).2])->Q (.ref p) H'
def zG:Sp:=fun vs H Q _=>∃ t b:Int,vs=[.int t,.int b] /\ 0 < b /\ intBits ((Int.gcd t b:Nat):Int) <= 9000 /\ ∀ p H',aN H H'->H' p=some (.tup [.int (Fr.sh t b).1,.int (Fr.sh t b).2])->Q (.ref p) H'
def yN:Sp:=fun vs H Q _=>∃ (p q:Addr) (x y:Int × Int) (n:Nat),vs=[.ref p,.ref q] /\ Tq H p x /\ Tq H q y /\ Zr n x /\ n <= 100 /\ Z6 y /\ ∀ r H',aN H H'->Tq H' r (Sd.pls x y)->Q (.ref r) H'
def tH:Sp:=fun vs H Q _=>∃ (p:Addr) (x:Int × Int),vs=[.ref p] /\ Tq H p x /\ Fr.gF x.1 x.2 /\ ∀ H',aN H H'->Q (.bl true) H'
def O2:Sp:=fun vs H Q _=>∃ (a l:Addr) (xs:List cB) (lv:Int × Int) (d m:Nat),vs=[.ref a,.ref l] /\ eZ H a xs /\ Di xs d m /\ d <= 4 /\ m <= 12 /\ Tq H l lv /\ Sd.Lw lv ∧
 ∀ (p:Addr) (H':Hp) (z:Int × Int),aN H H'->Tq H' p z->Zd z->Sd.V z=Sd.up (Sd.V lv) (cM xs) / ((bN xs:Int):Rat)->Q (.ref p) H'
def qI:Sp:=fun vs H Q _=>∃ (x:Addr) (i:Nat) (q:Ca) (y:Addr) (xs:List cB) (d m:Nat),vs=[.ref x,.int (i:Int)] /\ At c cC H x i q y xs /\ Di xs d m /\ d <= 4 /\ m <= 12 ∧
 ((q.ls[i]? = some .non /\ ∀ (r:Addr) (H':Hp),aN H H'->Tq H' r (0,1)->Q (.ref r) H') ∨
  ∃ (l:Addr) (lv:Int × Int),q.ls[i]? = some (.ref l) /\ Tq H l lv /\ Sd.Lw lv /\ ∀ (r:Addr) (H':Hp) (z:Int × Int),aN H H'->Tq H' r z->Zd z->Sd.V z=Sd.up (Sd.V lv) (cM xs) / ((bN xs:Int):Rat)->Q (.ref r) H')
end
theorem W4 {z:Int × Int} (p:0 < z.2) (h:0 <= Sd.V z):0 <= z.1:=by
 have e:=Sd.gK p
 have n:=Sd.d8 p
 have e1:Sd.V z * (z.2:Rat)=(z.1:Rat):=by unfold Sd.V; grind
 have:=Rat.mul_nonneg h (show 0 <= (z.2:Rat) by grind)
 rw [e1] at this
 exact_mod_cast this
theorem Om {c:Cs}{cC:Addr}{H:Hp}{x:Addr}{q:Ca} (h:gA c cC H x q) {i:Nat} (hi:i < q.ys.length):∃ v,Dv H q i v:=by
 have es:=h.es
 have el:=h.el
 have ei:q.ss[i]? = some (q.ss[i]'(by omega)):=List.getElem?_eq_getElem _
 obtain ⟨l,eL⟩ : ∃ l,q.ls[i]? = some l:=⟨_,List.getElem?_eq_getElem (show i < q.ls.length by omega)⟩
 obtain ⟨st,d4,m12⟩:=h.st i _ _ (List.getElem?_eq_getElem hi) ei
 obtain ⟨xs,lv0,ct,gs,so,mt,lw0⟩:=st.tab
 cases h.cp l (List.mem_of_getElem? eL) with
 | non=>exact ⟨0,_,_,ei,eL,.inl ⟨rfl,rfl⟩⟩
 | @sh a lv t w=>exact ⟨_,_,_,ei,eL,.inr ⟨a,lv,rfl,t,w,fun n hn=>(Gu mt (Nat.lt_of_le_of_lt d4 hn) (Sd.V lv)).symm⟩⟩
theorem Q7 {c:Cs}{cC:Addr}{H:Hp}{x:Addr}{q:Ca} (h:gA c cC H x q):∃ f:Nat->Rat,∀ i,i < q.ys.length->Dv H q i (f i):=by
 have a:∀ i,∃ v,i < q.ys.length->Dv H q i v:=fun i=>by
  by_cases hi:i < q.ys.length
  ·obtain ⟨v,hv⟩:=Om h hi
   exact ⟨v,fun _=>hv⟩
  ·exact ⟨0,fun z=>absurd z hi⟩
 exact ⟨fun i=>Classical.choose (a i),fun i=>Classical.choose_spec (a i)⟩
theorem sZ {c:Cs}{cC:Addr}{H:Hp}{x:Addr}{q:Ca}{i:Nat}{v:Rat}{Q:VK}{E:XK} (h:gA c cC H x q) (hi:i < q.ys.length) (dv:Dv H q i v)
  (k:∀ (r:Addr) (H':Hp) (z:Int × Int),aN H H'->Tq H' r z->Zd z->0 <= z.1->Sd.V z=v->(q.ls[i]? = some .non->z=(0,1))->Q (.ref r) H'):qI c cC [.ref x,.int (i:Int)] H Q E:=by
 obtain ⟨s,l,ei,eL,du⟩:=dv
 obtain ⟨st,d4,m12⟩:=h.st i _ _ (List.getElem?_eq_getElem hi) ei
 obtain ⟨xs,lv0,ct,gs,so,mt,lw0⟩:=st.tab
 refine ⟨x,i,q,_,xs,_,_,rfl,⟨h,List.getElem?_eq_getElem hi,ct⟩,gs,d4,m12,?_⟩
 rcases du with ⟨rfl,rfl⟩ | ⟨a,lv,rfl,tq,lw,hv⟩
 ·exact .inl ⟨eL,fun r H' s t=>k r H' (0,1) s t NK (by decide) (by unfold Sd.V; push_cast; grind) fun _=>rfl⟩
 ·refine .inr ⟨a,lv,eL,tq,lw,fun r H' z s2 t zd e=>?_⟩
  have e2:=Gu mt (n:=5) (Nat.lt_of_le_of_lt d4 (by decide)) (Sd.V lv)
  have e3:Sd.V z=v:=by rw [e,hv 5 (Nat.le_refl _),e2,Sd.qW,jV]
  refine k r H' z s2 t zd (W4 zd.fr.pos ?_) e3 fun z=>by rw [eL] at z; cases z
  rw [e3,hv 5 (Nat.le_refl _),Sd.tX]
  have:=Sd.JF (Sd.V lv) (Sd.N7 (Sd.V lv) 5 s.1)
  grind
theorem N6 {s:Sd.Sd}{d:Nat}{rv:Int × Int} (d4:d <= 4) (R:Sd.Rv s d rv):(Sd.N7 (Sd.V rv) 6 s - Sd.V rv=0) /\ ∀ l:Rat,Sd.V rv < l->Sd.rb l 6 s - l=0:=by
 obtain ⟨ys,m⟩:=R
 refine ⟨by rw [m.c 6 (by omega)]; grind,fun l hl=>?_⟩
 have a:=m.a 6 (by omega) l
 have b:=m.b l
 have t:=m.t
 have g:=Sd.JF l (Sd.N7 l 6 s)
 rw [<- Sd.tX] at g
 have nn:0 <= (Sd.rb l 6 s - l) * Sd.c7 ys:=Rat.mul_nonneg (by grind) (by grind)
 have z:¬ 0 < Sd.up l ys:=fun z=>by have:=b.mp z; grind
 have e:(Sd.rb l 6 s - l) * Sd.c7 ys=0:=by grind
 grind
theorem J0 {s:Sd.Sd}{d:Nat}{rv:Int × Int} (d4:d <= 4) (R:Sd.Rv s d rv) {l:Rat} (hl:l <= Sd.V rv):Sd.N7 l 6 s=Sd.rb l 6 s:=by
 have R0:=R
 obtain ⟨ys,m⟩:=R
 by_cases h:l < Sd.V rv
 ·have a:=(R0.iff (n:=6) (by omega) l).mp h
  rw [Sd.tX] at a ⊢
  unfold Sd.uM at a ⊢
  split at a
  ·rename_i c; rw [if_pos c]
  ·exact absurd a (by grind)
 ·obtain rfl:l=Sd.V rv:=by grind
  rw [Sd.tX,m.c 6 (by omega)]
  unfold Sd.uM
  split <;> rfl
def Dn (H:Hp) (l:V) (rv lv:Int × Int):Prop:=(l = .non /\ lv=rv) ∨ ∃ l0 lv0,l = .ref l0 /\ Tq H l0 lv0 /\ Sd.Lw lv0 /\ lv=if rv.1 * lv0.2 < lv0.1 * rv.2 then rv else lv0
theorem J5 {H:Hp}{q:Ca}{i:Nat}{v:Rat}{s:Sd.Sd}{d m:Nat}{l:V}{rv lv:Int × Int} (dv:Dv H q i v) (ei:q.ss[i]? = some (s,d,m)) (eL:q.ls[i]? = some l) (d4:d <= 4) (R:Sd.Rv s d rv) (lr:Sd.Lw rv) (nc:Dn H l rv lv):Sd.N7 (Sd.V lv) 6 s - Sd.V lv=v:=by
 obtain ⟨s',l',e1,e2,du⟩:=dv
 rw [ei] at e1
 cases e1
 rw [eL] at e2
 cases e2
 obtain ⟨a1,a2⟩:=N6 d4 R
 rcases nc with ⟨rfl,rfl⟩ | ⟨l0,lv0,rfl,t0,w0,e⟩
 ·rcases du with ⟨_,rfl⟩ | ⟨a,lv,z,_⟩
  ·exact a1
  ·cases z
 ·rcases du with ⟨z,_⟩ | ⟨a,lv1,z,t1,w1,hv⟩
  ·cases z
  ·cases z
   have e1:lv1=lv0:=by
    have z:=t1.symm.trans t0
    injection z with z
    injection z with z
    injection z with z1 z
    injection z with z2 _
    injection z1 with z1
    injection z2 with z2
    exact Prod.ext z1 z2
   subst e1
   rw [hv 6 (by decide)]
   have lt:=Sd.Iw lr.fr.pos w1.fr.pos
   by_cases c:rv.1 * lv1.2 < lv1.1 * rv.2
   ·rw [if_pos c] at e
    subst e
    rw [a1,a2 _ (lt.mp c)]
   ·rw [if_neg c] at e
    subst e
    have:Sd.V lv <= Sd.V rv:=Rat.not_lt.mp fun z=>c (lt.mpr z)
    rw [J0 d4 R this]
def Sm (bs:List Bool) (f:Nat->Rat):Nat->Rat
 | 0=>0
 | i + 1=>Sm bs f i + if bs.getD i false then 0 else f i
section
variable (c:Cs) (cC:Addr)
def Ob:Sp:=fun vs H Q _=>∃ (x:Addr) (q:Ca) (f:Nat->Rat),vs=[.ref x] /\ gA c cC H x q /\ (∀ i,i < q.ys.length->Dv H q i (f i)) ∧
 ∀ (r:Addr) (H':Hp) (z:Int × Int),aN H H'->Tq H' r z->Zr 7 z->Sd.V z=Sm q.bs f q.ys.length->Q (.ref r) H'
def O1:Sp:=fun vs H Q _=>∃ (x:Addr) (i:Nat) (q:Ca) (p:Int) (rs:List (Int × Sd.Sd)) (d m:Nat) (r:Addr) (ps zs:List Addr) (v:Rat),vs=[.ref x,.int (i:Int),.ref r] /\ gA c cC H x q /\ q.ss[i]? = some (.st p rs,d,m) /\ q.ds.length <= 99 ∧
 H r=some (.tup (ps.map V.ref)) /\ ps.length=rs.length /\ zs.length=rs.length /\ (∀ (i:Nat) q y t,ps[i]? = some q->zs[i]? = some y->rs[i]? = some t->H q=some (.tup [.int t.1,.ref y])) /\ Dv H q i v ∧
 ∀ (R:Addr) (H':Hp) (z:Int × Int),aN H H'->Tq H' R z->Fr.gF z.1 z.2->Sd.V z=v + (p:Rat)->Q (.ref R) H'
def K9:Sp:=fun vs H Q _=>∃ (x:Addr) (i:Nat) (q:Ca) (p:Int) (rs:List (Int × Sd.Sd)) (d m:Nat) (t:Addr),vs=[.ref x,.int (i:Int),.ref t] /\ gA c cC H x q /\ q.ss[i]? = some (.st p rs,d,m) /\ q.ds.length <= 99 /\ fY H t (.st p rs) ∧
 ∀ H',aN H H'->Q (.bl true) H'
def Jg (ks:List Int) (q:Ca):Prop:=∀ i,i < q.ys.length->RD (.int (i:Int)) (ks.map V.int)=q.bs.getD i false
def Oj:Sp:=fun vs H Q _=>∃ (x:Addr) (q:Ca) (l:Addr) (ks:List Int),vs=[.ref x,.int (q.ys.length:Int),.ref l] /\ gA c cC H x q /\ H l=some (.lst (ks.map V.int)) /\ Jg ks q /\ ∀ H',aN H H'->Q (.bl true) H'
end
theorem Zr.mono {n m:Nat}{x:Int × Int} (h:Zr n x) (l:n <= m):Zr m x:=⟨h.fr,Nat.le_trans h.t (Nat.mul_le_mul_left _ l),Nat.le_trans h.b (Nat.mul_le_mul_left _ l)⟩
theorem V01:Sd.V (0,1)=0:=by unfold Sd.V; push_cast; grind
theorem Sm.yes {bs:List Bool}{f:Nat->Rat}{i:Nat} (h:bs.getD i false=true):Sm bs f (i + 1)=Sm bs f i:=by
 show Sm bs f i + _=_
 rw [if_pos h]
 grind
theorem Sm.no {bs:List Bool}{f:Nat->Rat}{i:Nat} (h:bs.getD i false=false):Sm bs f (i + 1)=Sm bs f i + f i:=by
 show Sm bs f i + _=_
 rw [if_neg (by rw [h]; decide)]
theorem Jw {H:Hp}{rs:List (Int × Sd.Sd)}{ps zs:List Addr} (lp:ps.length=rs.length) (lz:zs.length=rs.length) (row:∀ (i:Nat) q y t,ps[i]? = some q->zs[i]? = some y->rs[i]? = some t->H q=some (.tup [.int t.1,.ref y])) {u:Nat} (hu:u < rs.length):∃ q1 y t,ps[u]? = some q1 /\ rs[u]? = some t /\ (ps.map V.ref)[u]? = some (.ref q1) /\ H q1=some (.tup [.int t.1,.ref y]) /\ t ∈ rs:=by
 have e1:ps[u]? = some (ps[u]'(by omega)):=List.getElem?_eq_getElem _
 have e2:zs[u]? = some (zs[u]'(by omega)):=List.getElem?_eq_getElem _
 have e3:rs[u]? = some (rs[u]'hu):=List.getElem?_eq_getElem _
 exact ⟨_,_,_,e1,e3,by rw [List.getElem?_map,e1]; rfl,row u _ _ _ e1 e2 e3,List.getElem_mem hu⟩
theorem Hc {c:Cs}{cC:Addr}{H:Hp}{x:Addr}{q:Ca} (h:gA c cC H x q) {i:Nat}{l:V} (eL:q.ls[i]? = some l) (rv:Int × Int):∃ lv,Dn H l rv lv:=by
 cases h.cp l (List.mem_of_getElem? eL) with
 | non=>exact ⟨rv,.inl ⟨rfl,rfl⟩⟩
 | sh t w=>exact ⟨_,.inr ⟨_,_,rfl,t,w,rfl⟩⟩
theorem Bh {H H':Hp} (s:aN H H') {l:V}{rv lv lv':Int × Int} (nc:Dn H l rv lv) (n2:(some l=some V.non /\ lv'=rv) ∨ ∃ l0 lv0,some l=some (V.ref l0) /\ Tq H' l0 lv0 /\ lv'=if rv.1 * lv0.2 < lv0.1 * rv.2 then rv else lv0):lv'=lv:=by
 rcases nc with ⟨rfl,rfl⟩ | ⟨l0,lv0,rfl,t0,w0,e⟩
 ·rcases n2 with ⟨_,e⟩ | ⟨_,_,z,_⟩
  ·exact e
  ·cases z
 ·rcases n2 with ⟨z,_⟩ | ⟨l1,lv1,z,t1,e1⟩
  ·cases z
  ·cases z
   rw [Lk t1 (s _ _ t0)] at e1
   exact e1.trans e.symm
theorem Mr {c:Cs}{cC:Addr}{H:Hp}{x:Addr}{q q2:Ca}{i d m:Nat}{t:Sd.Sd}{L:Addr}{lv:Int × Int} (h:gA c cC H x q2) (hi:i < q2.ys.length) (e1:q.ss.length=q2.ys.length) (e2:q.ls.length=q2.ys.length) (ess:q2.ss=q.ss.set i (t,d,m)) (els:q2.ls=q.ls.set i (.ref L)) (tq:Tq H L lv) (lw:Sd.Lw lv):Dv H q2 i (Sd.rb (Sd.V lv) 5 t - Sd.V lv):=by
 have ei:q2.ss[i]? = some (t,d,m):=by rw [ess,List.getElem?_set,if_pos rfl,if_pos (by omega)]
 have eL:q2.ls[i]? = some (.ref L):=by rw [els,List.getElem?_set,if_pos rfl,if_pos (by omega)]
 obtain ⟨st,d4,m12⟩:=h.st i _ _ (List.getElem?_eq_getElem hi) ei
 obtain ⟨xs,lv0,ct,gs,so,mt,lw0⟩:=st.tab
 exact ⟨_,_,ei,eL,.inr ⟨L,lv,rfl,tq,lw,fun n hn=>by rw [Gu mt (Nat.lt_of_le_of_lt d4 hn),Gu mt (Nat.lt_of_le_of_lt d4 (by decide:4 < 5))]⟩⟩
theorem Dh {z:Int} (h:0 <= z) (h1:z <= 1000000000):intBits z <= 100:=iZ (Int.lt_of_lt_of_le (show -(2 ^ 100:Int) < 0 by decide) h) (Int.lt_of_le_of_lt h1 (by decide))
theorem Xb {z:Int} (h:0 <= z) (h1:z <= 1000000000):Z6 (z,1):=⟨Nat.le_trans (Dh h h1) (by decide),(show intBits 1 <= 4400 by decide),(show (0:Int) < 1 by decide)⟩
theorem LK (ks:List Int) (b i:Nat):RD (.int (i:Int)) ((ks ++ [(b:Int)]).map V.int)=(RD (.int (i:Int)) (ks.map V.int) || decide (b=i)):=by
 unfold RD
 rw [List.map_append,List.any_append]
 congr 1
 show (((b:Int) == (i:Int)) || false)=_
 rw [Bool.or_false]
 by_cases h:b=i
 ·subst h; simp
 ·rw [decide_eq_false h]
  have h2:¬ (b:Int)=(i:Int):=by omega
  simpa using h2
theorem Jg.snoc {ks:List Int}{q q2:Ca}{b:Nat} (kp:Jg ks q) (hb:b < q.ys.length) (eb:q.bs.length=q.ys.length) (ey:q2.ys.length=q.ys.length) (e:q2.bs=q.bs.set b true):Jg (ks ++ [(b:Int)]) q2:=fun i hi=>by
 rw [LK,kp i (by omega),e,List.getD_eq_getElem?_getD,List.getD_eq_getElem?_getD,List.getElem?_set]
 by_cases h:b=i
 ·subst h
  rw [if_pos rfl,if_pos (by omega)]
  simp
 ·rw [if_neg h,decide_eq_false h,Bool.or_false]
theorem Jg.of {ks:List Int}{q q2:Ca} (kp:Jg ks q) (ey:q2.ys.length=q.ys.length) (e:q2.bs=q.bs):Jg ks q2:=fun i hi=>by
 rw [e]
 exact kp i (by omega)
theorem Jg.nil {q:Ca}{ys:List Addr} (e:q.bs=ys.map fun _=>false):Jg [] q:=fun i hi=>by
 rw [e,List.getD_eq_getElem?_getD,List.getElem?_map]
 cases ys[i]? <;> rfl
end TD
namespace TD
open PySem PySem.Spec PyProof.Rows L2
theorem CN.of {K:PySem.W.Frag}{c:Cs} (h:(["tuple","int","NoneType","str","list"].map fun T=>(PySem.W.kitOne K (.type T) (.ref c.e),PySem.W.kitOne K (.type T) (.ref c.s)))=List.replicate 5 (some false,some false)) (t:PySem.W.kitOne K (.ref c.e) (.type "tuple")=some false):CN K c :=
 ⟨fun T hT=>by
  have:=List.mem_map_of_mem (f:=fun T=>(PySem.W.kitOne K (.type T) (.ref c.e),PySem.W.kitOne K (.type T) (.ref c.s))) hT
  rw [h] at this
  have e:=List.eq_of_mem_replicate this
  exact ⟨congrArg (·.1) e,congrArg (·.2) e⟩,t⟩
theorem Oi.of {K:PySem.W.Frag}{C:Addr}{cs:List Addr}{nb:Int} (x:XTy K C) (ve:PySem.W.kitOne K (.ref C) (.type "ValueError")=some true) (h:(cs.map fun c=>PySem.W.kitOne K (.ref C) (.ref c))=(List.range cs.length).map fun (i:Nat)=>some (decide ((i:Int)=nb))):Oi K C cs nb :=
 ⟨x,ve,fun i c hc=>by
  have hi:i < cs.length:=(List.getElem?_eq_some_iff.mp hc).1
  have e:=congrArg (·[i]?) h
  simp only [List.getElem?_map,hc,Option.map_some,List.getElem?_range hi] at e
  exact Option.some.inj e⟩
end TD
namespace L2
open PySem PySem.Spec PyProof.Rows
structure K6 (K:PySem.W.Frag) (dT:Addr) (x qual:Str) (st:Stmt) (f:Addr) (fd:FuncData):Prop where
 ex:∃ (oc:Value) (od:Option Addr) (kV doc pm:Value) (an:Option Addr) (cdv ct:Value) (osl:Array (Option Value)),
  fd=PySem.W.fnOf x qual (iB st) (fV st) (aM st) (.ref dT) kV doc pm an cdv ct /\ K.lookup f=some ⟨oc,od,.func fd,osl⟩ /\ PySem.W.codeIn K cdv qual=true
 kp:PySem.W.keepIn K (.ref f)=true
section
variable {P:Program}{w:World}{K:PySem.W.Frag}{mg:Str->Option Value}{base:Heap}{dT:Addr}
theorem K6.ok {x qual:Str}{st:Stmt}{f:Addr}{fd:FuncData}{N ps:List Str}{k:Nat}{sp:Sp} (F:K6 K dT x qual st f fd) (S:aO N ps (aM st)) (len:∀ vs H Q E,sp vs H Q E->vs.length=ps.length)
  (hbody:∀ (cdv:Value) (A:Around) (outer:List Env) (s:Shared) (H:Hp) (vs:List V) (Q:VK) (E:XK),fD k (A.deeper (envOfC qual (aM st) s.heap.objs.size f cdv))->sp vs H Q E ->
   ∃ t,rT (tU d7 P w K mg base N qual (aM st) f cdv A outer s H E).nox (fV st) t /\ t { nx:=fun _ H'=>Q .non H',rt:=Q } (start N vs) H):aV P w K mg base d7 (k + 1) f fd ps sp:=by
 obtain ⟨oc,od,kV,doc,pm,an,cdv,ct,osl,rfl,lk,hcd⟩:=F.ex
 refine Fd lk hcd S len fun A outer s H vs Q E hr hsp=>?_
 obtain ⟨t,h,q⟩:=hbody cdv A outer s H vs Q E hr hsp
 exact ⟨t,rT.nox h,q⟩
theorem Mj {x qual:Str}{st:Stmt}{f:Addr}{oc:Value}{od an:Option Addr}{osl:Array (Option Value)}{kV doc pm cdv ct:Value} (l:K.lookup f=some ⟨oc,od,.func (PySem.W.fnOf x qual (iB st) (fV st) (aM st) (.ref dT) kV doc pm an cdv ct),osl⟩)
  (c:PySem.W.codeIn K cdv qual=true) (k:PySem.W.keepIn K (.ref f)=true):K6 K dT x qual st f (PySem.W.fnOf x qual (iB st) (fV st) (aM st) (.ref dT) kV doc pm an cdv ct):=⟨⟨oc,od,kV,doc,pm,an,cdv,ct,osl,rfl,l,c⟩,k⟩
end
end L2
namespace L2
open PySem PySem.Spec PySem.Calls PyProof.Rows
section
variable {X:Cx}
end
end L2
namespace L2
open PySem PySem.Spec PyProof.Rows
theorem eX {X:Cx}{K:PySem.W.Frag} (h:X.K=K):jM X (.type "tuple") (fun xs H Q=>∃ p ys,xs=[.ref p] /\ ((bR K H p ys /\ ∀ l,H l=none->Q (.ref l) (aY H l (.tup ys))) ∨ (bQ K H p ys /\ Q (.ref p) H))):=by subst h; exact vV
end L2
namespace L2
open PySem PySem.Spec PyProof.Rows
structure QE (X:Cx) (e:Expr) (t:TE):Prop where
 h:PE X e t
structure QT (X:Cx) (e:Expr) (t:TT):Prop where
 h:PT X e t
structure QA (X:Cx) (es:List Expr) (t:TA):Prop where
 h:PA X es t
structure QO (X:Cx) (e:Option Expr) (t:TO):Prop where
 h:PO X e t
structure QP (X:Cx) (pos:Pos) (ks:List (Option Expr)) (vs:List Expr) (trs:List (TE × TE)):Prop where
 h:PPs X pos ks vs trs
structure QS (X:Cx) (st:Stmt) (t:TS):Prop where
 h:PS X st t
structure QSs (X:Cx) (st:List Stmt) (t:TS):Prop where
 h:rT X st t
section
variable {X:Cx}{pos pos' p p2:Pos}{e a b:Expr}{es:List Expr}{te ta tb:TE}{t:TA}{x:Str}{st:Stmt}{iH:List Stmt}{ts us:TS}
theorem qv (i:Nat) {x:Str}{pos:Pos} (hN:X.N[i]? = some x:=by rfl) (hv:Yn X.env.scope x:=by first | exact Or.inl rfl | exact Or.inr (Or.inl rfl) | exact Or.inr (Or.inr rfl)) (hd:(x == ("__debug__" : Str))=false:=by decide)
  (hcd:(x == ("__classdict__" : Str))=false:=by decide):QE X (.Name x pos) (Ib i):=⟨Ld hN hv hd hcd⟩
end
end L2
namespace L2
open PySem PySem.Spec PyProof.Rows
structure QW (X:Cx) (e:Expr) (t:TT):Prop where
 h:PW X e t
section
variable {X:Cx}{CX:yZ}{k n:Nat}{f C:Addr}{fd:FuncData}{ps:List Str}{sp:Sp}{dvs:List V}{ds:List Value}{E:XK}{x m name:Str}{p pos apos cpos:Pos}{a b e o:Expr}{es iH:List Expr}{ta tb te to:TE}{t:TA}{tA tB':TT}{T id:String}{r:V->List V->Hp->VK->Prop}
theorem QW.qt (h:QW X e tA):QT X e tA:=⟨PW.pt h.h⟩
end
end L2
namespace K24
open PySem L2 TD
def top (i:Nat):Stmt:=PySem.Challenge.pw_lidprice_k24_whole_price_is_debt.main.body.getD i (.Pass ⟨0,0,0,0⟩)
def iD:Pos:=⟨44,30,44,72⟩
theorem rH:aO ["thing","least","most"] ["thing","least","most"] (aM (top 6)):=⟨rfl,rfl,rfl,by decide +kernel,rfl,by decide +kernel,by decide +kernel⟩
theorem jR:aO ["one","other","rest"] ["one","other"] (aM (top 7)):=⟨rfl,rfl,rfl,by decide +kernel,rfl,by decide +kernel,by decide +kernel⟩
theorem jN:aO ["numbers","multiple","number"] ["numbers"] (aM (top 8)):=⟨rfl,rfl,rfl,by decide +kernel,rfl,by decide +kernel,by decide +kernel⟩
theorem oZ:aO ["top","bottom","divisor"] ["top","bottom"] (aM (top 9)):=⟨rfl,rfl,rfl,by decide +kernel,rfl,by decide +kernel,by decide +kernel⟩
theorem An:aO ["number"] ["number"] (aM (top 10)):=⟨rfl,rfl,rfl,by decide +kernel,rfl,by decide +kernel,by decide +kernel⟩
theorem Gr:aO ["one","other"] ["one","other"] (aM (top 11)):=⟨rfl,rfl,rfl,by decide +kernel,rfl,by decide +kernel,by decide +kernel⟩
theorem Ck:aO ["one","other"] ["one","other"] (aM (top 12)):=⟨rfl,rfl,rfl,by decide +kernel,rfl,by decide +kernel,by decide +kernel⟩
theorem xJ:aO ["one","other"] ["one","other"] (aM (top 13)):=⟨rfl,rfl,rfl,by decide +kernel,rfl,by decide +kernel,by decide +kernel⟩
theorem w6:aO ["worths","most","scale"] ["worths"] (aM (top 17)):=⟨rfl,rfl,rfl,by decide +kernel,rfl,by decide +kernel,by decide +kernel⟩
theorem tZ:aO ["rows","weights","worth","weight","divisor"] ["rows"] (aM (top 18)):=⟨rfl,rfl,rfl,by decide +kernel,rfl,by decide +kernel,by decide +kernel⟩
theorem mO:aO ["table"] ["table"] (aM (top 19)):=⟨rfl,rfl,rfl,by decide +kernel,rfl,by decide +kernel,by decide +kernel⟩
theorem nY:aO ["rows","weights","bottom","top"] ["rows","weights"] (aM (top 20)):=⟨rfl,rfl,rfl,by decide +kernel,rfl,by decide +kernel,by decide +kernel⟩
theorem Ar:aO ["table","level","higher"] ["table","level"] (aM (top 21)):=⟨rfl,rfl,rfl,by decide +kernel,rfl,by decide +kernel,by decide +kernel⟩
theorem yD:aO ["table","level"] ["table","level"] (aM (top 22)):=⟨rfl,rfl,rfl,by decide +kernel,rfl,by decide +kernel,by decide +kernel⟩
theorem Be:aO ["rows","scale","parts","weight","table","factor"] ["rows"] (aM (top 23)):=⟨rfl,rfl,rfl,by decide +kernel,rfl,by decide +kernel,by decide +kernel⟩
theorem pK:aO ["table","price","bottom","tops","weights","worth","weight","top"] ["table","price"] (aM (top 24)):=⟨rfl,rfl,rfl,by decide +kernel,rfl,by decide +kernel,by decide +kernel⟩
theorem rG:aO ["thing"] ["thing"] (aM (top 34)):=⟨rfl,rfl,rfl,by decide +kernel,rfl,by decide +kernel,by decide +kernel⟩
theorem lQ:aO ["row"] ["row"] (aM (top 35)):=⟨rfl,rfl,rfl,by decide +kernel,rfl,by decide +kernel,by decide +kernel⟩
theorem j8:aO ["rows"] ["rows"] (aM (top 36)):=⟨rfl,rfl,rfl,by decide +kernel,rfl,by decide +kernel,by decide +kernel⟩
theorem nM:aO ["boxes"] ["boxes"] (aM (top 37)):=⟨rfl,rfl,rfl,by decide +kernel,rfl,by decide +kernel,by decide +kernel⟩
theorem oE:aO ["things","place","thing"] ["things","place","thing"] (aM (top 39)):=⟨rfl,rfl,rfl,by decide +kernel,rfl,by decide +kernel,by decide +kernel⟩
theorem lX:aO ["_law_script","_law_k"] ["_law_script","_law_k"] (aM (top 42)):=⟨rfl,rfl,rfl,by decide +kernel,rfl,by decide +kernel,by decide +kernel⟩
theorem nJ:aO ["_law_cell","_law_k","_law_number"] ["_law_cell","_law_k"] (aM (top 43)):=⟨rfl,rfl,rfl,by decide +kernel,rfl,by decide +kernel,by decide +kernel⟩
theorem pJ:aO ["_law_script","_law_k"] ["_law_script","_law_k"] (aM (top 44)):=⟨rfl,rfl,rfl,by decide +kernel,rfl,by decide +kernel,by decide +kernel⟩
theorem pY:aO ["_law_left_here","_law_many","_law_number"] ["_law_left_here","_law_many"] (aM (top 45)):=⟨rfl,rfl,rfl,by decide +kernel,rfl,by decide +kernel,by decide +kernel⟩
theorem pX:aO ["_law_stand"] ["_law_stand"] (aM (top 46)):=⟨rfl,rfl,rfl,by decide +kernel,rfl,by decide +kernel,by decide +kernel⟩
theorem oF:aO ["_law_left_here","_law_level","_law_most","_law_price","_law_rows","_law_many","_law_row","_law_weight","_law_room"] ["_law_left_here","_law_level","_law_most"] (aM (top 47)):=⟨rfl,rfl,rfl,by decide +kernel,rfl,by decide +kernel,by decide +kernel⟩
theorem mQ:aO ["_law_model_here"] ["_law_model_here"] (aM (top 48)):=⟨rfl,rfl,rfl,by decide +kernel,rfl,by decide +kernel,by decide +kernel⟩
theorem mD:aO ["_law_script","_law_many","_law_left_here","_law_models_here"] ["_law_script","_law_many"] (aM (top 49)):=⟨rfl,rfl,rfl,by decide +kernel,rfl,by decide +kernel,by decide +kernel⟩
theorem oA:aO ["_law_models_here","_law_boxes_here","_law_k","_law_first"] ["_law_models_here"] (aM (top 50)):=⟨rfl,rfl,rfl,by decide +kernel,rfl,by decide +kernel,by decide +kernel⟩
theorem oG:aO ["_law_found"] ["_law_found"] (aM (top 51)):=⟨rfl,rfl,rfl,by decide +kernel,rfl,by decide +kernel,by decide +kernel⟩
theorem lM:aO ["_law_one","_law_other"] ["_law_one","_law_other"] (aM (top 52)):=⟨rfl,rfl,rfl,by decide +kernel,rfl,by decide +kernel,by decide +kernel⟩
theorem mU:aO ["_law_top","_law_bottom","_law_many"] ["_law_top","_law_bottom"] (aM (top 53)):=⟨rfl,rfl,rfl,by decide +kernel,rfl,by decide +kernel,by decide +kernel⟩
theorem rB:aO ["_law_one","_law_other"] ["_law_one","_law_other"] (aM (top 54)):=⟨rfl,rfl,rfl,by decide +kernel,rfl,by decide +kernel,by decide +kernel⟩
theorem nU:aO ["_law_one","_law_other"] ["_law_one","_law_other"] (aM (top 55)):=⟨rfl,rfl,rfl,by decide +kernel,rfl,by decide +kernel,by decide +kernel⟩
theorem kW:aO ["_law_found"] ["_law_found"] (aM (top 56)):=⟨rfl,rfl,rfl,by decide +kernel,rfl,by decide +kernel,by decide +kernel⟩
theorem iR:aO ["_law_case","_law_box","_law_rows","_law_total","_law_sums","_law_row","_law_found"] ["_law_case","_law_box","_law_rows"] (aM (top 57)):=⟨rfl,rfl,rfl,by decide +kernel,rfl,by decide +kernel,by decide +kernel⟩
theorem nT:aO ["_law_case","_law_box","_law_stage","_law_ahead","_law_behind"] ["_law_case","_law_box","_law_stage"] (aM (top 58)):=⟨rfl,rfl,rfl,by decide +kernel,rfl,by decide +kernel,by decide +kernel⟩
theorem jQ:aO ["_law_case","_law_many","_law_kept","_law_total","_law_box","_law_found"] ["_law_case","_law_many","_law_kept"] (aM (top 59)):=⟨rfl,rfl,rfl,by decide +kernel,rfl,by decide +kernel,by decide +kernel⟩
theorem Jo:aO ["_law_script","_law_many","_law_stands","_law_case","_law_kept","_law_cell","_law_box","_law_stand","_law_row"] ["_law_script"] (aM (top 60)):=⟨rfl,rfl,rfl,by decide +kernel,rfl,by decide +kernel,by decide +kernel⟩
theorem jO:aO ["self","end_count","stage_count","level","cap_rows"] ["self","end_count","stage_count","level","cap_rows"] (aM (aG (top 31) 0)):=⟨rfl,rfl,rfl,by decide +kernel,rfl,by decide +kernel,by decide +kernel⟩
theorem oJ:aO ["self"] ["self"] (aM (aG (top 31) 1)):=⟨rfl,rfl,rfl,by decide +kernel,rfl,by decide +kernel,by decide +kernel⟩
theorem lU:aO ["self"] ["self"] (aM (aG (top 31) 2)):=⟨rfl,rfl,rfl,by decide +kernel,rfl,by decide +kernel,by decide +kernel⟩
theorem j7:aO ["self"] ["self"] (aM (aG (top 31) 3)):=⟨rfl,rfl,rfl,by decide +kernel,rfl,by decide +kernel,by decide +kernel⟩
theorem gW:aO ["self"] ["self"] (aM (aG (top 31) 4)):=⟨rfl,rfl,rfl,by decide +kernel,rfl,by decide +kernel,by decide +kernel⟩
theorem lN:aO ["self","worth"] ["self","worth"] (aM (aG (top 32) 0)):=⟨rfl,rfl,rfl,by decide +kernel,rfl,by decide +kernel,by decide +kernel⟩
theorem oM:aO ["self"] ["self"] (aM (aG (top 32) 1)):=⟨rfl,rfl,rfl,by decide +kernel,rfl,by decide +kernel,by decide +kernel⟩
theorem jT:aO ["self","price","rows","end_count","stage_count","behind","level"] ["self","price","rows"] (aM (aG (top 33) 0)):=⟨rfl,rfl,rfl,by decide +kernel,rfl,by decide +kernel,by decide +kernel⟩
theorem lR:aO ["self"] ["self"] (aM (aG (top 33) 1)):=⟨rfl,rfl,rfl,by decide +kernel,rfl,by decide +kernel,by decide +kernel⟩
theorem mG:aO ["self","row"] ["self","row"] (aM (aG (top 33) 3)):=⟨rfl,rfl,rfl,by decide +kernel,rfl,by decide +kernel,by decide +kernel⟩
theorem kZ:aO ["self","boxes"] ["self","boxes"] (aM (aG (top 40) 0)):=⟨rfl,rfl,rfl,by decide +kernel,rfl,by decide +kernel,by decide +kernel⟩
theorem kI:aO ["self"] ["self"] (aM (aG (top 40) 1)):=⟨rfl,rfl,rfl,by decide +kernel,rfl,by decide +kernel,by decide +kernel⟩
theorem j6:aO ["self","box"] ["self","box"] (aM (aG (top 40) 2)):=⟨rfl,rfl,rfl,by decide +kernel,rfl,by decide +kernel,by decide +kernel⟩
theorem oH:aO ["self","box"] ["self","box"] (aM (aG (top 40) 3)):=⟨rfl,rfl,rfl,by decide +kernel,rfl,by decide +kernel,by decide +kernel⟩
theorem rD:aO ["self","box"] ["self","box"] (aM (aG (top 40) 4)):=⟨rfl,rfl,rfl,by decide +kernel,rfl,by decide +kernel,by decide +kernel⟩
theorem pD:aO ["self","box","cap"] ["self","box"] (aM (aG (top 40) 10)):=⟨rfl,rfl,rfl,by decide +kernel,rfl,by decide +kernel,by decide +kernel⟩
theorem pG:aO ["self","debts","box"] ["self"] (aM (aG (top 40) 11)):=⟨rfl,rfl,rfl,by decide +kernel,rfl,by decide +kernel,by decide +kernel⟩
theorem mC:aO ["self","deed","case"] ["self","deed"] (aM (aG (top 40) 12)):=⟨rfl,rfl,rfl,by decide +kernel,rfl,by decide +kernel,by decide +kernel⟩
theorem mJ:aO ["self","box","row","stage","cap","lower","case"] ["self","box","row"] (aM (aG (top 40) 13)):=⟨rfl,rfl,rfl,by decide +kernel,rfl,by decide +kernel,by decide +kernel⟩
theorem oK:aO ["self","box","case"] ["self","box"] (aM (aG (top 40) 14)):=⟨rfl,rfl,rfl,by decide +kernel,rfl,by decide +kernel,by decide +kernel⟩
end K24
namespace K24
open PySem L2 TD
open Builtin.Int (intBits)
section
variable {P:Program}{w:World}{K:PySem.W.Frag}{mg:Str->Option Value}{base:Heap}{Pt:Addr}
theorem pP {n:Nat}{f:Addr}{fd:FuncData} (F:fH K "common_divisor" "common_divisor" (top 7) f fd) (z_abs:mg "abs" = none):aV P w K mg base d7 (n + 1) f fd ["one","other"] Bf:=by
 refine F.ok jR (fun vs H Q E h=>?_) (fun cdv A outer s H vs Q E hr h=>?_)
 ·obtain ⟨a,b,rfl,_⟩:=h
  rfl
 obtain ⟨a,b,rfl,q⟩:=h
 have nd:=jR.nd
 refine ⟨_,(aD (Bg PassesOwn.never (bZ Fg (pv 1) aF (cI _)) (aD (aP (i:=2) nd rfl (Or.inl rfl) (aR FW (pv 0) (pv 1))) (aD (aP (i:=0) nd rfl (Or.inl rfl) (pv 1)) (aJ (aP (i:=1) nd rfl (Or.inl rfl) (pv 2)))))) (aJ (aQ (bC Bl rfl z_abs Kg (aA (pv 0) aC))))),?_⟩
 refine Cr (fun σ H'=>∃ x y r,σ = [some (.int x),some (.int y),r] /\ Int.gcd x y=Int.gcd a b /\ H'=H) (fun σ _=>match σ with | [_,some (.int y),_]=>y.natAbs | _=>0) ⟨a,b,none,rfl,rfl,rfl⟩ (fun σ H' ⟨x,y,r,e,hg,eH⟩=>?_) (fun σ H Q Q' hQ ⟨v,e,hs,k,ek,q⟩=>⟨v,e,hs,k,ek,hQ _ _ q⟩)
 subst e eH
 refine ⟨_,rfl,rfl,_,rfl,?_⟩
 by_cases hy:y=0
 ·subst hy
  refine wK (by simp) ?_
  refine ⟨_,rfl,_,rfl,?_⟩
  have e:(if x < 0 then -x else x)=((Int.gcd a b:Nat):Int):=by
   rw [<- hg,Int.gcd_zero]
   split <;> omega
  rw [e]
  exact q
 ·refine wO (by simp [hy]) ?_
  refine ⟨_,rfl,_,rfl,x,y,rfl,rfl,hy,?_⟩
  refine ⟨_,rfl,?_⟩
  refine ⟨_,rfl,?_⟩
  exact ⟨⟨y,x.fmod y,_,rfl,(Fr.DW x y).trans hg,rfl⟩,Fr.xA hy⟩
theorem Lf {n:Nat}{f:Addr}{fd:FuncData} (F:fH K "share" "share" (top 9) f fd) {g_common_divisor:Addr}{gd_common_divisor:FuncData} (c_common_divisor:fL P w K mg base n "common_divisor" ["one","other"] Bf g_common_divisor gd_common_divisor):aV P w K mg base d7 (n + 1) f fd ["top","bottom"] sS:=by
 refine F.ok oZ (fun vs H Q E h=>?_) (fun cdv A outer s H vs Q E hr h=>?_)
 ·obtain ⟨t,b,rfl,_⟩:=h
  rfl
 obtain ⟨t,b,rfl,hb,hz,q⟩:=h
 have nd:=oZ.nd
 refine ⟨_,(aD (aP (i:=2) nd rfl (Or.inl rfl) (aL c_common_divisor hr (aA (pv 0) (aA (pv 1) aC)))) (aD (dW (bZ tW (pv 1) aF (cI _)) (aJ (aP (i:=2) nd rfl (Or.inl rfl) (FT zU (pv 2)))) bY) (aJ (aQ (dF (aA (aR fP (pv 0) (pv 2)) (aA (aR fP (pv 1) (pv 2)) aC))))))),?_⟩
 have hdz:intBits (Fr.dv t b) <= 9000:=PySem.intBits_le_of_natAbs (by rw [Fr.mZ]; exact Int.gcd_le_natAbs_right t hb) hz
 have hdn:=Fr.yJ (t:=t) hb
 refine ⟨_,rfl,_,rfl,t,b,rfl,?_⟩
 refine ⟨_,rfl,_,_,rfl,rfl,_,rfl,?_⟩
 refine uR (fun c=>?_) (fun c=>?_)
 ·have e:-((Int.gcd t b:Nat):Int)=Fr.dv t b:=by unfold Fr.dv; rw [if_pos (of_decide_eq_true c)]
  unfold Fr.sh at q
  rw [<- e] at q hdz hdn
  refine ⟨_,rfl,_,rfl,?_⟩
  refine ⟨_,rfl,_,rfl,_,_,rfl,rfl,⟨hdn,hdz⟩,_,rfl,_,rfl,_,_,rfl,rfl,⟨hdn,hdz⟩,qT,fun p hp=>?_⟩
  exact q p _ (aH hp _) aB
 ·have e:((Int.gcd t b:Nat):Int)=Fr.dv t b:=by unfold Fr.dv; rw [if_neg (of_decide_eq_false (Bool.eq_false_iff.mpr c))]
  unfold Fr.sh at q
  rw [<- e] at q hdz hdn
  refine ⟨_,rfl,_,rfl,_,_,rfl,rfl,⟨hdn,hdz⟩,_,rfl,_,rfl,_,_,rfl,rfl,⟨hdn,hdz⟩,qT,fun p hp=>?_⟩
  exact q p _ (aH hp _) aB
theorem oU {n:Nat}{f:Addr}{fd:FuncData} (F:fH K "common_multiple" "common_multiple" (top 8) f fd) {g_common_divisor:Addr}{gd_common_divisor:FuncData} (c_common_divisor:fL P w K mg base n "common_divisor" ["one","other"] Bf g_common_divisor gd_common_divisor):aV P w K mg base d7 (n + 1) f fd ["numbers"] (M6 K):=by
 refine F.ok jN (fun vs H Q E h=>?_) (fun cdv A outer s H vs Q E hr h=>?_)
 ·obtain ⟨a,ns,rfl,_⟩:=h
  rfl
 obtain ⟨a,ns,rfl,hS,hp,h9,hz,q⟩:=h
 have nd:=jN.nd
 refine ⟨_,(aD (aP (i:=1) nd rfl (Or.inl rfl) aF) (aD (jK PassesOwn.never rfl (cT (pv 0)) (aW (i:=2) nd rfl (Or.inl rfl)) (aJ (aP (i:=1) nd rfl (Or.inl rfl) (aR bT (pv 1) (aR fP (pv 2) (aL c_common_divisor hr (aA (pv 1) (aA (pv 2) aC)))))))) (aJ (aQ (pv 1))))),?_⟩
 have hl:(ns.map V.int).length=ns.length:=List.length_map _
 refine ⟨_,rfl,a,rfl,⟨_,hS⟩,?_⟩
 refine pR (xs:=ns.map V.int) (fun i σ H'=>∃ r,σ = [some (.ref a),some (.int (dG (ns.take i))),r] /\ H'=H) ⟨none,rfl,rfl⟩ (fun i σ H' _ ⟨r,_,e⟩=>by subst e; exact hS) ?turn ?done
 case turn =>
  rintro i x σ H' hx ⟨r,rfl,rfl⟩
  rw [List.getElem?_map] at hx
  cases e:ns[i]? with
  | none=>rw [e] at hx; cases hx
  | some n =>
   rw [e] at hx
   cases hx
   have hm:=List.mem_of_getElem? e
   have hn:=hp n hm
   have nz:=h9 n hm
   have gz:intBits ((Int.gcd (dG (ns.take i)) n:Nat):Int) <= 9000:=Nat.le_trans (PySem.intBits_le_of_natAbs (y:=n) (by have:=Int.gcd_le_natAbs_right (dG (ns.take i)) (Int.ne_of_gt hn); omega) (Nat.le_refl _)) (by omega)
   have gn:((Int.gcd (dG (ns.take i)) n:Nat):Int) ≠ 0:=by have:=Int.gcd_pos_of_ne_zero_right (dG (ns.take i)) (Int.ne_of_gt hn); omega
   have lb:=xZ (ns.take i)
   have st:=DR ns i
   refine ⟨_,rfl,_,rfl,_,rfl,_,rfl,dG (ns.take i),n,rfl,_,_,rfl,rfl,⟨gn,gz⟩,_,_,rfl,rfl,dX (m:=200001) (n:=9000) (by omega) (PySem.intBits_fdiv_le nz) (by decide),?_⟩
   refine ⟨some (V.int n),?_,rfl⟩
   rw [List.take_add_one,e]
   show _=[some (V.ref a),some (V.int (dG (ns.take i ++ [n]))),some (V.int n)]
   rw [Ia]
   rfl
 case done =>
  rintro σ H' ⟨r,rfl,rfl⟩
  rw [hl,List.take_length]
  exact ⟨_,rfl,q⟩
theorem K4 {n:Nat}{f:Addr}{fd:FuncData} (F:fH K "whole" "whole" (top 10) f fd):aV P w K mg base d7 (n + 1) f fd ["number"] Ms:=by
 refine F.ok An (fun vs H Q E h=>?_) (fun cdv A outer s H vs Q E hr h=>?_)
 ·obtain ⟨t,rfl,_⟩:=h
  rfl
 obtain ⟨t,rfl,q⟩:=h
 have nd:=An.nd
 refine ⟨_,(aJ (aQ (dF (aA (pv 0) (aA aF aC))))),?_⟩
 refine ⟨_,rfl,qT,fun p hp=>?_⟩
 exact q p _ (aH hp _) aB
theorem Jr {n:Nat}{f:Addr}{fd:FuncData} (F:fH K "below" "below" (top 12) f fd):aV P w K mg base d7 (n + 1) f fd ["one","other"] (zL K):=by
 refine F.ok Ck (fun vs H Q E h=>?_) (fun cdv A outer s H vs Q E hr h=>?_)
 ·obtain ⟨p,q,a,b,c,d,rfl,_⟩:=h
  rfl
 obtain ⟨p,q,a,b,c,d,rfl,hp,hq,z,k⟩:=h
 have nd:=Ck.nd
 refine ⟨_,(aJ (aQ (lG tW (aR bT (bA bB (pv 0) aF (fun _ _=>rfl)) (bA bB (pv 1) aF (fun _ _=>rfl))) (aR bT (bA bB (pv 1) aF (fun _ _=>rfl)) (bA bB (pv 0) aF (fun _ _=>rfl))) (cI _)))),?_⟩
 exact ⟨_,rfl,p,_,_,_,rfl,rfl,hp,rfl,_,rfl,q,_,_,_,rfl,rfl,hq,rfl,_,_,rfl,rfl,dX z.a z.d (by decide),_,rfl,q,_,_,_,rfl,rfl,hq,rfl,_,rfl,p,_,_,_,rfl,rfl,hp,rfl,_,_,rfl,rfl,dX z.c z.b (by decide),_,_,rfl,rfl,k⟩
theorem Hr {n:Nat}{f:Addr}{fd:FuncData} (F:fH K "lesser" "lesser" (top 13) f fd) {g_below:Addr}{gd_below:FuncData} (c_below:fL P w K mg base n "below" ["one","other"] (zL K) g_below gd_below):aV P w K mg base d7 (n + 1) f fd ["one","other"] (PK K):=by
 refine F.ok xJ (fun vs H Q E h=>?_) (fun cdv A outer s H vs Q E hr h=>?_)
 ·obtain ⟨p,q,a,b,c,d,rfl,_⟩:=h
  rfl
 obtain ⟨p,q,a,b,c,d,rfl,hp,hq,z,k1,k2⟩:=h
 have nd:=xJ.nd
 refine ⟨_,(aJ (aQ (vI (dR (aL c_below hr (aA (pv 1) (aA (pv 0) aC)))) (pv 1) (pv 0)))),?_⟩
 refine ⟨_,rfl,_,rfl,q,p,c,d,a,b,rfl,hq,hp,⟨z.c,z.d,z.a,z.b⟩,_,rfl,?_⟩
 by_cases cc:c * b < a * d
 ·refine wO (decide_eq_true cc) ?_
  exact ⟨_,rfl,k1 cc⟩
 ·refine wK (decide_eq_false cc) ?_
  exact ⟨_,rfl,k2 cc⟩
theorem IK {n:Nat}{f c:Addr}{fd:FuncData} (F:fH K "rising" "rising" (top 17) f fd) (hc:fd.code = .ref c) (hC:PySem.W.CodeHd base c Pt) (hB:base.BuiltinsAt mg Pt) (z_sorted:mg "sorted" = none) (z_max:mg "max" = none):aV P w K mg base d7 (n + 1) f fd ["worths"] (K7 K Pt iD):=by
 refine F.okc hc w6 (fun vs H Q E h=>?_) (fun A outer s H vs Q E hr h=>?_)
 ·obtain ⟨a,rs,rfl,_⟩:=h
  rfl
 obtain ⟨a,rs,rfl,hS,hne,h64,hrs,nd0,hT,q⟩:=h
 have nd:=w6.nd
 refine ⟨_,(aD (aP (i:=1) nd rfl (Or.inl rfl) (bC (xQ rfl) rfl z_max Kv (aA (cU (ls:=["worth"]) (M:=["worths","most","scale"]) rfl (cA.of (by rfl)) (NL.of (by rfl)) (cT (pv 0)) (fun _ _ _ _=>⟨(aW (i:=0) (cV (by rfl)) rfl (Or.inl rfl)),cQ,(bA (iU (K:=K) rfl) (pv 0) aF (fun _ _=>rfl))⟩)) aC))) (aD (aP (i:=2) nd rfl (Or.inr rfl) (aR bT (pv 1) (pv 1))) (aJ (aQ (J6 (p:="worth") (M:=["worths","most","scale"]) hr rfl rfl z_sorted rfl hC hB (cA.of (by rfl)) (NL.of (by rfl)) rfl rfl rfl (pv 0) (fun _ _ _ _ _=>(aR fP (aR bT (bA (iU (K:=K) rfl) (pv 0) aF (fun _ _=>rfl)) (pv 3)) (bA (iU (K:=K) rfl) (pv 0) aF (fun _ _=>rfl))))))))),?_⟩
 have hlr:=pB rs
 refine ⟨_,rfl,a,rfl,⟨_,hS⟩,fun D hD=>?_⟩
 refine cD (xs:=lV rs) (fun i τ H'=>∃ v0,τ = [v0,some (.ref a),none,none] /\ aN H H' /\ H' D=some (.lst ((rs.take i).map fun r=>V.int r.b))) ⟨none,rfl,aH hD _,aB⟩ ?keep ?turn ?done
 case keep =>
  rintro i τ H' hi ⟨v0,rfl,hs,_⟩
  exact hs.seq hS
 case turn =>
  rintro i m v τ H' hm hi hv ⟨v0,rfl,hs,hD'⟩
  obtain ⟨x,hx,rfl⟩:=Cq hv
  have hr2:=hs _ _ (hrs x (List.mem_of_getElem? hx)).1
  unfold uB
  refine eO ?_
  refine ⟨_,rfl,x.q,_,_,_,rfl,rfl,bQ.of hr2,rfl,?_⟩
  refine bM hm hi hD' (by rw [List.length_map]; exact aX (Nat.le_trans (List.length_take_le _ _) (by omega))) ⟨_,rfl,hs.upd_new hD _,?_⟩
  rw [aB,bG hx,List.map_append]
  rfl
 case done =>
 rintro τ H1 ⟨v0,rfl,s1,hD1⟩
 rw [hlr,List.take_length] at hD1
 refine ⟨D,rs.map Rs.b,rfl,bR.of (by rw [hD1,List.map_map]; rfl),fun e=>hne (List.map_eq_nil_iff.mp e),fun mx hmx hmax=>?_⟩
 obtain ⟨r0,hr0,rfl⟩:=List.mem_map.mp hmx
 have z0:=(hrs r0 hr0).2.2.2
 refine ⟨_,rfl,_,rfl,_,_,rfl,rfl,dX z0 z0 (by decide),?_⟩
 have zz:intBits (r0.b * r0.b) <= 8000:=PySem.intBits_mul_le z0 z0
 refine ⟨_,rfl,a,rs.map Rs.q,rs.map (JW r0.b),rfl,by rw [<- N5]; exact s1.seq hS,by rw [List.length_map,List.length_map],by rw [List.length_map]; exact h64,hT.same s1,fun H2 c' st hit=>⟨fun i qa kk eq ek=>?_,fun D2 ps hD2 hp hs=>?_⟩⟩
 ·rw [List.getElem?_map] at eq ek
  cases er:rs[i]? with
  | none=>rw [er] at eq; cases eq
  | some r =>
   rw [er] at eq ek
   cases eq
   cases ek
   obtain ⟨ra,rf,rt,rb⟩:=hrs r (List.mem_of_getElem? er)
   have ra2:H2 r.q=some (.tup [.int r.t,.int r.b]):=st.get (hT.same s1) (s1 _ _ ra) fun _ z=>nomatch z
   exact ⟨_,rfl,r.q,_,_,_,rfl,rfl,(bQ.of ra2),rfl,_,rfl,_,_,rfl,rfl,dX rt zz (by decide),_,rfl,r.q,_,_,_,rfl,rfl,(bQ.of ra2),rfl,_,_,rfl,rfl,⟨Int.ne_of_gt rf.pos,Nat.le_trans rb (by decide)⟩,rfl,rfl⟩
 ·obtain ⟨rs',pm,e,so⟩:=Nj hp hs nd0 (fun r hr=>(hrs r hr).2.1) (fun r hr=>hmax _ (List.mem_map.mpr ⟨r,hr,rfl⟩))
  rw [e]
  have tb2:fG Pt iD lK H2:=.inr ⟨c',hit⟩
  exact q D2 _ rs' (((s1.toT).trans st).trans (aN.toT (aH hD2 _))) (tb2.same (aH hD2 _)) aB pm so
theorem O5 {H:Hp}:∀ {kvs:List (List dB × V)}{qs:List Addr},qs.length=kvs.length->(∀ kv ∈ kvs,∃ t b:Int,kv.1=[.inl t,.inl b])->(∀ (i:Nat) k v,kvs[i]? = some (k,v)->∃ q,qs[i]? = some q /\ H q=some (.tup (k.map kV))) ->
  ∃ rs:List Rs,lV rs=qs.map V.ref /\ rs.map jW=kvs.map (·.1) /\ ∀ r ∈ rs,Q3 H r
 | [],[],_,_,_=>⟨[],rfl,rfl,fun _ h=>nomatch h⟩
 | [],_ :: _,h,_,_=>by simp at h
 | _ :: _,[],h,_,_=>by simp at h
 | kv :: kvs,q :: qs,hl,hk,hq=>by
  obtain ⟨rs,e1,e2,e3⟩:=O5 (kvs:=kvs) (qs:=qs) (by simpa using hl) (fun x hx=>hk x (List.mem_cons_of_mem _ hx)) fun i k v e=>by
   obtain ⟨z,z1,z2⟩:=hq (i + 1) k v (by simpa using e)
   exact ⟨z,by simpa using z1,z2⟩
  obtain ⟨t,b,ek⟩:=hk kv List.mem_cons_self
  obtain ⟨z,z1,z2⟩:=hq 0 kv.1 kv.2 rfl
  have z1:q=z:=by simpa using z1
  subst z1
  refine ⟨⟨q,t,b⟩ :: rs,?_,?_,fun r hr=>?_⟩
  ·show V.ref q :: lV rs=V.ref q :: qs.map V.ref
   rw [e1]
  ·show jW ⟨q,t,b⟩ :: rs.map jW=kv.1 :: kvs.map (·.1)
   rw [e2,ek]
   rfl
  ·rcases List.mem_cons.mp hr with e | e
   ·subst e
    rw [ek] at z2
    exact z2
   ·exact e3 r e
theorem Aq {xs:List cB}{kvs:List (List dB × V)} (pb:PB xs) (d:Dk (cM xs) kvs) {r:Rs} (h:jW r ∈ kvs.map (·.1)):Tb.sO (cM xs) r.t r.b /\ Fr.gF r.t r.b /\ intBits r.t <= 4000 /\ intBits r.b <= 4000:=by
 obtain ⟨kv,hkv,e⟩:=List.mem_map.mp h
 obtain ⟨t,b,e2,hh⟩:=d.en kv hkv
 rw [e2] at e
 obtain ⟨e3,e4⟩:=sU.mp e.symm
 rw [e3,e4]
 refine ⟨hh,?_⟩
 obtain ⟨p,hp,e5,e6⟩:=hh
 obtain ⟨x,hx,rfl⟩:=List.mem_map.mp hp
 have g:=pb x hx
 have e5:x.t=t:=e5
 have e6:x.b=b:=e6
 rw [<- e5,<- e6]
 exact ⟨g.1,g.2.1,g.2.2.1⟩
theorem Ep {n:Nat}{f:Addr}{fd:FuncData} (F:fH K "in_form" "in_form" (top 18) f fd) {g_rising:Addr}{gd_rising:FuncData} (c_rising:fL P w K mg base n "rising" ["worths"] (K7 K Pt iD) g_rising gd_rising) {g_common_divisor:Addr}{gd_common_divisor:FuncData} (c_common_divisor:fL P w K mg base n "common_divisor" ["one","other"] Bf g_common_divisor gd_common_divisor) (z_list:mg "list" = none):aV P w K mg base d7 (n + 1) f fd ["rows"] (Eb Pt iD):=by
 refine F.ok tZ (fun vs H Q E h=>?_) (fun cdv A outer s H vs Q E hr h=>?_)
 ·obtain ⟨a,xs,rfl,_⟩:=h
  rfl
 obtain ⟨a,xs,rfl,hT,xne,xlen,pb,hTb,q⟩:=h
 have nd:=tZ.nd
 have hu:=W8 hr
 refine ⟨_,(aD (aP (i:=1) nd rfl (Or.inr rfl) Kl) (aD (jK PassesOwn.never rfl (cT (pv 0)) (yS rfl (bH (aW (i:=2) nd rfl (Or.inl rfl)) (bH (aW (i:=3) nd rfl (Or.inl rfl)) eG))) (aJ (NP hu (pv 1) (pv 2) (aR fQ (JG hu (pv 1) (pv 2) aF ⟨rfl,rfl,rfl,rfl⟩) (pv 3)) rfl))) (aD (aP (i:=4) nd rfl (Or.inr rfl) aF) (aD (jK PassesOwn.never rfl (Lj (pv 1)) (aW (i:=2) nd rfl (Or.inl rfl)) (aJ (aP (i:=4) nd rfl (Or.inr rfl) (aL c_common_divisor hr (aA (pv 4) (aA (Fp hu (pv 1) (pv 2) (fun _ _=>rfl)) aC)))))) (aJ (aQ (cU (ls:=["worth"]) (M:=["rows","weights","worth#","weight","divisor"]) rfl (cA.of (by rfl)) (NL.of (by rfl)) (cT (aL c_rising hr (aA (eY (Eg rfl) rfl z_list mX (aA (pv 1) aC)) aC))) (fun _ _ _ _=>⟨(aW (i:=0) (cV (by rfl)) rfl (Or.inl rfl)),cQ,(dF (aA (pv 0) (aA (aR fP (Fp hu (pv 2) (pv 0) (fun _ _=>rfl)) (pv 5)) aC)))⟩)))))))),?_⟩
 have hlr:=bV xs
 intro Dd hDd
 have n0:=aH hDd (.dT [])
 refine ⟨_,rfl,a,rfl,⟨_,bR.of (hT.same n0).lst⟩,?_⟩
 refine pR (xs:=gC xs) (fun i σ H'=>∃ kvs v2 v3,σ = [some (.ref a),some (.ref Dd),v2,v3,none] /\ aN H H' /\ H' Dd=some (.dT kvs) /\ Dk (cM (xs.take i)) kvs /\ kvs.length <= i) ⟨[],none,none,rfl,n0,aB,Dk.nil,Nat.le_refl _⟩ ?keep ?turn ?done
 case keep =>
  rintro i σ H' hi ⟨kvs,v2,v3,rfl,hs,_⟩
  exact bR.of (hT.same hs).lst
 case turn =>
  rintro i v σ H' hv ⟨kvs,v2,v3,rfl,hs,hd,dk,kl⟩
  obtain ⟨x,hx,rfl⟩:=jA hv
  have hmem:=List.mem_of_getElem? hx
  have hi:=(List.getElem?_eq_some_iff.mp hx).1
  have hr:=(hT.same hs).rows x hmem
  have hq:H' x.q=some (.tup (([.inl x.t,.inl x.b]:List dB).map kV)):=hr.2
  refine ⟨x.p,_,rfl,bQ.of hr.1,rfl,_,_,rfl,_,_,rfl,rfl,?_⟩
  refine ⟨_,rfl,Dd,rfl,.inr ⟨_,.inl hd⟩,_,rfl,_,vQ.t hd hq,_,rfl,Tb.Wt (cM (xs.take i)) x.t x.b,x.w,dk.get x.t x.b,rfl,?_⟩
  refine ⟨_,rfl,_,rfl,Dd,_,rfl,El.t hd hq (aX (by omega)),?_⟩
  refine ⟨_,_,_,rfl,hs.upd_new hDd _,aB,?_,?_⟩
  ·rw [bG hx,jH]
   exact dk.put x.r
  ·have:=mK kvs [.inl x.t,.inl x.b] (.int (Tb.Wt (cM (xs.take i)) x.t x.b + x.w))
   exact Nat.le_trans this (by omega)
 case done =>
 rintro σ H1 ⟨kvs,v2,v3,rfl,s1,hd1,dk,kl⟩
 rw [hlr,List.take_length] at dk
 rw [hlr] at kl
 obtain ⟨hw1,hf1⟩:=pb.ps
 have pne:cM xs ≠ []:=fun e=>xne (List.map_eq_nil_iff.mp e)
 have plen:(cM xs).length <= 1000:=by rw [dJ]; omega
 have dpos:=dk.div_pos pne hw1
 have dbits:=Ja dk pne (fun p hp=>by obtain ⟨x,hx,rfl⟩:=List.mem_map.mp hp; exact ⟨(pb x hx).2.2.2.1,(pb x hx).2.2.2.2⟩) plen
 refine ⟨_,rfl,Dd,kvs,rfl,.inl ⟨hd1,fun o=>?_⟩⟩
 have s2:aN H (aY H1 Dd (.frz o (.dT kvs))):=s1.upd_new hDd _
 have hfz:aY H1 Dd (.frz o (.dT kvs)) Dd=some (.frz o (.dT kvs)):=aB
 generalize aY H1 Dd (.frz o (.dT kvs))=H2 at s2 hfz ⊢
 refine Jv (fun i σ H'=>∃ d v2,σ = [some (.ref a),some (.ref Dd),v2,v3,some (.int d)] /\ H'=H2 /\ d=Tb.sE ((kvs.take i).map wOf)) ⟨0,_,rfl,rfl,rfl⟩ (fun i σ H' _ ⟨_,_,_,e,_⟩=>by rw [e]; exact hfz) ?turn3 ?done3
 case turn3 =>
  rintro i k v kq σ H' hk hkt ⟨d,v2,rfl,rfl,ed⟩
  obtain ⟨t,b,ekv,hh⟩:=dk.en _ (List.mem_of_getElem? hk)
  injection ekv with ek1 ek2
  subst ek1 ek2
  refine ⟨_,rfl,_,rfl,_,rfl,Dd,.int (Tb.Wt (cM xs) t b),rfl,.inr ⟨kvs,[.inl t,.inl b],kq,.inr ⟨o,hfz⟩,rfl,hkt,(dk.val hh).symm⟩,d,Tb.Wt (cM xs) t b,rfl,?_⟩
  refine ⟨_,_,rfl,rfl,?_⟩
  rw [bG hk,List.map_append,ed]
  exact (Tb.Gw _ _).symm
 case done3 =>
 rintro σ H3 ⟨d,v2,rfl,rfl,ed⟩
 rw [List.take_length] at ed
 have ed:d=iT kvs:=ed
 subst ed
 have kb:∀ kv ∈ kvs,∃ t b:Int,kv.1=[.inl t,.inl b]:=fun kv hkv=>by
  obtain ⟨t,b,e,_⟩:=dk.en kv hkv
  exact ⟨t,b,by rw [e]⟩
 refine ⟨_,rfl,Dd,kvs,rfl,.inr ⟨o,hfz⟩,fun l qs hl hql hqs=>?_⟩
 obtain ⟨rs0,er1,er2,er3⟩:=O5 hql kb hqs
 have n3:=aH hl (.lst (qs.map V.ref))
 have s3:=s2.trans n3
 have rl0:rs0.length=kvs.length:=by simpa using congrArg List.length er2
 have kin0:∀ r ∈ rs0,jW r ∈ kvs.map (·.1):=fun r hr=>by rw [<- er2]; exact List.mem_map.mpr ⟨r,hr,rfl⟩
 refine ⟨l,rs0,rfl,bR.of (by rw [er1]; exact aB),?_,by omega,fun r hr=>⟨n3 _ _ (er3 r hr),(Aq pb dk (kin0 r hr)).2⟩,by rw [er2]; exact dk.nd,hTb.same s3,fun R H4 rs st4 tb4 hR pm so=>?_⟩
 ·rintro rfl
  exact dk.ne pne (List.length_eq_zero_iff.mp rl0.symm)
 have tb3:=hTb.same s3
 have hfz4:H4 Dd=some (.frz o (.dT kvs)):=st4.get tb3 (n3 _ _ hfz) fun _ z=>nomatch z
 have pmk:(rs.map jW).Perm (kvs.map (·.1)):=by rw [<- er2]; exact pm.map jW
 have kin:∀ r ∈ rs,jW r ∈ kvs.map (·.1):=fun r hr=>pmk.mem_iff.mp (List.mem_map.mpr ⟨r,hr,rfl⟩)
 have rat:∀ r ∈ rs,Q3 H4 r:=fun r hr=>st4.get tb3 (n3 _ _ (er3 r (pm.mem_iff.mp hr))) fun _ z=>nomatch z
 have rlen:rs.length=kvs.length:=by rw [pm.length_eq,rl0]
 have sT:cH Pt H H4:=(s3.toT).trans st4
 refine ⟨R,rfl,⟨_,bR.of hR⟩,fun D hD=>?_⟩
 refine cD (xs:=lV rs) (fun i τ H'=>∃ v0 ys,τ = [v0,some (.ref a),some (.ref Dd),v2,v3,some (.int (iT kvs))] /\ aN H4 H' /\ eZ H' D ys /\ ys.map (fun y=>Rs.mk y.q y.t y.b)=rs.take i /\ ∀ y ∈ ys,y.w=(Tb.Wt (cM xs) y.t y.b).fdiv (iT kvs)) ⟨none,[],rfl,aH hD _,⟨aB,fun _ h=>nomatch h⟩,rfl,(fun _ h=>nomatch h)⟩ ?keep4 ?turn4 ?done4
 case keep4 =>
  rintro i τ H' hi ⟨v0,ys,rfl,hs,_⟩
  exact bR.of (hs _ _ hR)
 case turn4 =>
  rintro i m v τ H' hm hi hv ⟨v0,ys,rfl,hs,hY,ey,yw⟩
  obtain ⟨r,hr,rfl⟩:=Cq hv
  have hmem:=List.mem_of_getElem? hr
  have hh:=(Aq pb dk (kin r hmem)).1
  have rq:H' r.q=some (.tup [.int r.t,.int r.b]):=hs _ _ (rat r hmem)
  have ylen:ys.length <= 1000:=by
   have h:=congrArg List.length ey
   rw [List.length_map,List.length_take] at h
   omega
  unfold uB
  refine eO ?_
  refine ⟨_,rfl,_,rfl,_,rfl,Dd,.int (Tb.Wt (cM xs) r.t r.b),rfl,.inr ⟨kvs,[.inl r.t,.inl r.b],r.q,.inr ⟨o,hs _ _ hfz4⟩,rfl,rq,(dk.val hh).symm⟩,_,rfl,_,_,rfl,rfl,⟨Int.ne_of_gt dpos,dbits⟩,qT,fun p hp=>?_⟩
  have n1:=aH hp (.tup [.ref r.q,.int ((Tb.Wt (cM xs) r.t r.b).fdiv (iT kvs))])
  have hY1:=hY.same n1
  refine bM hm hi hY1.lst (by rw [bV]; exact aX ylen) ⟨_,ys ++ [⟨p,r.q,r.t,r.b,(Tb.Wt (cM xs) r.t r.b).fdiv (iT kvs)⟩],rfl,(hs.trans n1).upd_new hD _,⟨?_,?_⟩,?_,?_⟩
  ·rw [aB,jC]
  ·intro y hy
   rcases List.mem_append.mp hy with z | z
   ·exact (hY1.rows y z).over hY1.lst
   ·rw [List.mem_singleton.mp z]
    exact gM.over ⟨aB,n1 _ _ rq⟩ hY1.lst
  ·rw [List.map_append,ey,bG hr]
   rfl
  ·intro y hy
   rcases List.mem_append.mp hy with z | z
   ·exact yw y z
   ·rw [List.mem_singleton.mp z]
 case done4 =>
  rintro τ H5 ⟨v0,ys,rfl,s5,hY,ey,yw⟩
  rw [pB,List.take_length] at ey
  obtain ⟨tab,wok⟩:=Q8 dk hw1 hf1 pne pmk so ey yw
  have yl:ys.length=rs.length:=by rw [<- ey,List.length_map]
  refine q D H5 ys (sT.trans (s5.toT)) (tb4.same s5) (sT.free hD tb4.at_) hY ⟨tab,wok⟩ (by omega)
theorem uX {n:Nat}{f:Addr}{fd:FuncData} (F:fH K "all_weights" "all_weights" (top 19) f fd) (z_sum:mg "sum" = none):aV P w K mg base d7 (n + 1) f fd ["table"] NQ:=by
 refine F.ok mO (fun vs H Q E h=>?_) (fun cdv A outer s H vs Q E hr h=>?_)
 ·obtain ⟨a,xs,rfl,_⟩:=h
  rfl
 obtain ⟨a,xs,rfl,hT,hl,q⟩:=h
 have nd:=mO.nd
 refine ⟨_,(aJ (aQ (bC (kY rfl) rfl z_sum qQ (aA (cU (ls:=["worth","weight"]) (M:=["table"]) rfl (cA.of (by rfl)) (NL.of (by rfl)) (cT (pv 0)) (fun _ _ _ _=>⟨(fX (K:=K) (n:=2) rfl rfl (bH (aW (i:=0) (cV (by rfl)) rfl (Or.inl rfl)) (bH (aW (i:=1) (cV (by rfl)) rfl (Or.inl rfl)) eG))),cQ,(pv 1)⟩)) aC)))),?_⟩
 have hlr:=bV xs
 refine ⟨_,rfl,a,rfl,⟨_,bR.of hT.lst⟩,fun D hD=>?_⟩
 refine cD (xs:=gC xs) (fun i τ H'=>∃ v0 v1,τ = [v0,v1,some (.ref a)] /\ aN H H' /\ H' D=some (.lst ((xs.take i).map fun x=>V.int x.w))) ⟨none,none,rfl,aH hD _,aB⟩ ?keep ?turn ?done
 case keep =>
  rintro i τ H' hi ⟨v0,v1,rfl,hs,_⟩
  exact bR.of (hT.same hs).lst
 case turn =>
  rintro i m v τ H' hm hi hv ⟨v0,v1,rfl,hs,hD'⟩
  obtain ⟨x,hx,rfl⟩:=jA hv
  have hr:=(hT.same hs).rows x (List.mem_of_getElem? hx)
  refine ⟨x.p,_,rfl,bQ.of hr.1,rfl,_,_,rfl,_,_,rfl,rfl,?_⟩
  refine eO ?_
  refine ⟨_,rfl,?_⟩
  refine bM hm hi hD' (by rw [List.length_map]; exact aX (Nat.le_trans (List.length_take_le _ _) (by omega))) ⟨_,_,rfl,hs.upd_new hD _,?_⟩
  rw [aB,bG hx,List.map_append]
  rfl
 case done =>
  rintro τ H' ⟨v0,v1,rfl,hs,hD'⟩
  rw [hlr,List.take_length] at hD'
  refine ⟨D,xs.map cB.w,rfl,bR.of (by rw [hD',List.map_map]; rfl),?_⟩
  exact q H' hs
theorem Hg {n:Nat}{f:Addr}{fd:FuncData} (F:fH K "capped" "capped" (top 22) f fd) {g_in_form:Addr}{gd_in_form:FuncData} (c_in_form:fL P w K mg base n "in_form" ["rows"] (Eb Pt iD) g_in_form gd_in_form) {g_lesser:Addr}{gd_lesser:FuncData} (c_lesser:fL P w K mg base n "lesser" ["one","other"] (PK K) g_lesser gd_lesser):aV P w K mg base d7 (n + 1) f fd ["table","level"] (JC Pt iD):=by
 refine F.ok yD (fun vs H Q E h=>?_) (fun cdv A outer s H vs Q E hr h=>?_)
 ·obtain ⟨a,l,xs,x0,n,W,M,kk,rfl,_⟩:=h
  rfl
 obtain ⟨a,l,xs,x0,n,W,M,kk,rfl,hT,g,c,hl,f,hTb,q⟩:=h
 have nd:=yD.nd
 refine ⟨_,(aJ (aQ (aL c_in_form hr (aA (cU (ls:=["worth","weight"]) (M:=["table","level"]) rfl (cA.of (by rfl)) (NL.of (by rfl)) (cT (pv 0)) (fun _ _ _ _=>⟨(fX (K:=K) (n:=2) rfl rfl (bH (aW (i:=0) (cV (by rfl)) rfl (Or.inl rfl)) (bH (aW (i:=1) (cV (by rfl)) rfl (Or.inl rfl)) eG))),cQ,(dF (aA (aL c_lesser hr (aA (pv 0) (aA (pv 3) aC))) (aA (pv 1) aC)))⟩)) aC)))),?_⟩
 obtain ⟨l0,l1⟩:=x0
 have hl:H l=some (.tup [.int l0,.int l1]):=hl
 have f:Sd.Fq l0 l1 M kk:=f
 have lb:=pL f g.mp c.m c.k0 c.k
 have hlr:=bV xs
 have glen:=g.len
 have gn:=c.n
 have ylen:∀ {i:Nat}{ys:List cB},cM ys=(cM (xs.take i)).map (Tb.jG l0 l1)->ys.length <= 12:=fun {i ys} e=>by
  have h1:=congrArg List.length e
  rw [dJ,List.length_map,dJ,List.length_take] at h1
  omega
 refine ⟨_,rfl,a,rfl,⟨_,bR.of hT.lst⟩,fun D hD=>?_⟩
 refine cD (xs:=gC xs) (fun i τ H'=>∃ v0 v1 ys,τ = [v0,v1,some (.ref a),some (.ref l)] /\ aN H H' /\ eZ H' D ys /\ cM ys=(cM (xs.take i)).map (Tb.jG l0 l1)) ⟨none,none,[],rfl,aH hD _,⟨aB,fun _ h=>nomatch h⟩,rfl⟩ ?keep ?turn ?done
 case keep =>
  rintro i τ H' hi ⟨v0,v1,ys,rfl,hs,_⟩
  exact bR.of (hT.same hs).lst
 case turn =>
  rintro i m v τ H' hm hi hv ⟨v0,v1,ys,rfl,hs,hY,ey⟩
  obtain ⟨x,hx,rfl⟩:=jA hv
  have hmem:=List.mem_of_getElem? hx
  have hr:=(hT.same hs).rows x hmem
  have xz:=g.bits c hmem
  have yl:=ylen ey
  refine ⟨x.p,_,rfl,bQ.of hr.1,rfl,_,_,rfl,_,_,rfl,rfl,?_⟩
  refine eO ?_
  refine ⟨_,rfl,_,rfl,x.q,l,x.t,x.b,l0,l1,rfl,bQ.of hr.2,bQ.of (hs _ _ hl),⟨by omega,by omega,by omega,by omega⟩,fun c=>?_,fun c=>?_⟩
  ·
   refine ⟨_,rfl,qT,fun p hp=>?_⟩
   have n1:=aH hp (.tup [.ref l,.int x.w])
   have hY1:=hY.same n1
   refine bM hm hi hY1.lst (by rw [bV]; exact aX (by omega)) ⟨_,_,ys ++ [⟨p,l,l0,l1,x.w⟩],rfl,(hs.trans n1).upd_new hD _,⟨?_,?_⟩,?_⟩
   ·rw [aB,jC]
   ·intro y hy
    rcases List.mem_append.mp hy with z | z
    ·exact (hY1.rows y z).over hY1.lst
    ·rw [List.mem_singleton.mp z]
     exact gM.over ⟨aB,n1 _ _ (hs _ _ hl)⟩ hY1.lst
   ·rw [jH,ey,bG hx,jH,List.map_append]
    show _ ++ [_]=_ ++ [Tb.jG l0 l1 x.r]
    unfold Tb.jG
    rw [if_pos (show l0 * x.r.b < x.r.t * l1 from c)]
    rfl
  ·
   refine ⟨_,rfl,qT,fun p hp=>?_⟩
   have n1:=aH hp (.tup [.ref x.q,.int x.w])
   have hY1:=hY.same n1
   refine bM hm hi hY1.lst (by rw [bV]; exact aX (by omega)) ⟨_,_,ys ++ [⟨p,x.q,x.t,x.b,x.w⟩],rfl,(hs.trans n1).upd_new hD _,⟨?_,?_⟩,?_⟩
   ·rw [aB,jC]
   ·intro y hy
    rcases List.mem_append.mp hy with z | z
    ·exact (hY1.rows y z).over hY1.lst
    ·rw [List.mem_singleton.mp z]
     exact gM.over ⟨aB,n1 _ _ hr.2⟩ hY1.lst
   ·rw [jH,ey,bG hx,jH,List.map_append]
    show _ ++ [_]=_ ++ [Tb.jG l0 l1 x.r]
    unfold Tb.jG
    rw [if_neg (show ¬ l0 * x.r.b < x.r.t * l1 from c)]
    rfl
 case done =>
 rintro τ H1 ⟨v0,v1,ys,rfl,s1,hY,ey⟩
 have yl:=ylen ey
 rw [hlr,List.take_length] at ey
 have el:ys.length=xs.length:=by
  have h1:=congrArg List.length ey
  rw [dJ,List.length_map,dJ] at h1
  exact h1
 refine ⟨D,ys,rfl,hY,?_,by omega,QZ g c f ey,hTb.same s1,fun r H5 zs s5 tb5 hr5 hZ o hzl=>?_⟩
 ·rintro rfl
  exact g.ne (List.length_eq_zero_iff.mp el.symm)
 ·rw [ey] at o
  exact q r H5 zs ((s1.toT).trans s5) tb5 (s1.free hr5) hZ (Qc g f o (by omega)) o
theorem _root_.TD.GM.wz {es:List iM}{k0:Nat}{W0 kk:Int} (g:GM es k0 W0 kk) {e:iM} (he:e ∈ es) {y:cB} (hy:y ∈ e.ys):intBits y.w <= 601:=by
 have ge:=g.g e he
 have a:=ge.w1 y hy
 have b:=j5 ge.w1 hy
 have c:=ge.ws
 have d:=(g.c e he).w
 have p1:(2:Int) ^ 601=2 * 2 ^ 600:=by rw [Int.pow_succ]; omega
 have q1:=Sd.bU 600
 exact iZ (by omega) (by omega)
theorem Jz {n:Nat}{f:Addr}{fd:FuncData} (F:fH K "mixed" "mixed" (top 23) f fd) {g_in_form:Addr}{gd_in_form:FuncData} (c_in_form:fL P w K mg base n "in_form" ["rows"] (Eb Pt iD) g_in_form gd_in_form) {g_all_weights:Addr}{gd_all_weights:FuncData} (c_all_weights:fL P w K mg base n "all_weights" ["table"] NQ g_all_weights gd_all_weights) {g_common_multiple:Addr}{gd_common_multiple:FuncData} (c_common_multiple:fL P w K mg base n "common_multiple" ["numbers"] (M6 K) g_common_multiple gd_common_multiple):aV P w K mg base d7 (n + 1) f fd ["rows"] (Ku Pt iD):=by
 refine F.ok Be (fun vs H Q E h=>?_) (fun cdv A outer s H vs Q E hr h=>?_)
 ·obtain ⟨a,es,k0,W0,kk,rfl,_⟩:=h
  rfl
 obtain ⟨a,es,k0,W0,kk,rfl,hE,g,hTb,q⟩:=h
 have nd:=Be.nd
 refine ⟨_,(aD (aP (i:=1) nd rfl (Or.inl rfl) (aL c_common_multiple hr (aA (cU (ls:=["weight","table"]) (M:=["rows","scale","parts","weight#","table#","factor"]) rfl (cA.of (by rfl)) (NL.of (by rfl)) (cT (pv 0)) (fun _ _ _ _=>⟨(fX (K:=K) (n:=2) rfl rfl (bH (aW (i:=0) (cV (by rfl)) rfl (Or.inl rfl)) (bH (aW (i:=1) (cV (by rfl)) rfl (Or.inl rfl)) eG))),cQ,(aL c_all_weights hr (aA (pv 1) aC))⟩)) aC))) (aD (aP (i:=2) nd rfl (Or.inl rfl) (iQ aC)) (aD (jK PassesOwn.never rfl (cT (pv 0)) (yS rfl (bH (aW (i:=3) nd rfl (Or.inl rfl)) (bH (aW (i:=4) nd rfl (Or.inl rfl)) eG))) (aD (aP (i:=5) nd rfl (Or.inr rfl) (aR bT (pv 3) (aR fP (pv 1) (aL c_all_weights hr (aA (pv 4) aC))))) (aJ (gY (yC PySem.F.plainAttrs_list PySem.F.slot_list_extend PySem.F.type_list_extend Hd (pv 2) (aA (cU (ls:=["worth","inner"]) (M:=["rows","scale","parts","weight","table","factor"]) rfl (cA.of (by rfl)) (NL.of (by rfl)) (cT (pv 4)) (fun _ _ _ _=>⟨(fX (K:=K) (n:=2) rfl rfl (bH (aW (i:=0) (cV (by rfl)) rfl (Or.inl rfl)) (bH (aW (i:=1) (cV (by rfl)) rfl (Or.inl rfl)) eG))),cQ,(dF (aA (pv 0) (aA (aR bT (pv 7) (pv 1)) aC)))⟩)) aC)))))) (aJ (aQ (aL c_in_form hr (aA (pv 2) aC))))))),?_⟩
 have hlr:=oX es
 have glen:=g.len
 have tpos:∀ n ∈ cO es,0 < n:=fun n hn=>(g.tp n hn).1
 have tb:=g.tb
 obtain ⟨Sp,_,Sz,Sdv⟩:=g.S
 have k12:=g.k
 have n12:=g.n
 refine ⟨_,rfl,a,rfl,⟨_,bR.of hE.lst⟩,fun D hD=>?_⟩
 refine cD (xs:=o4 es) (fun i τ H'=>∃ v0 v1,τ = [v0,v1,some (.ref a),none,none,none,none,none] /\ aN H H' /\ H' D=some (.lst ((es.take i).map fun e=>V.int (bN e.ys)))) ⟨none,none,rfl,aH hD _,aB⟩ ?keep ?turn ?done
 case keep =>
  rintro i τ H' hi ⟨v0,v1,rfl,hs,_⟩
  exact bR.of (hE.same hs).lst
 case turn =>
  rintro i m v τ H' hm hi hv ⟨v0,v1,rfl,hs,hD'⟩
  obtain ⟨e,he,rfl⟩:=Bx hv
  have hr:=(hE.same hs).ents e (List.mem_of_getElem? he)
  have ge:=g.g e (List.mem_of_getElem? he)
  refine ⟨e.p,_,rfl,bQ.of hr.1,rfl,_,_,rfl,_,_,rfl,rfl,?_⟩
  refine eO ?_
  refine ⟨_,rfl,e.a,e.ys,rfl,hr.2,by have:=ge.len; omega,fun H2 s2=>?_⟩
  refine bM hm hi (s2 _ _ hD') (by rw [List.length_map]; exact aX (Nat.le_trans (List.length_take_le _ _) (by omega))) ⟨_,_,rfl,(hs.trans s2).upd_new hD _,?_⟩
  rw [aB,bG he,List.map_append]
  rfl
 case done =>
 rintro τ H1 ⟨v0,v1,rfl,s1,hD1⟩
 rw [hlr,List.take_length] at hD1
 refine ⟨D,cO es,rfl,bR.of (by rw [hD1]; unfold cO; rw [List.map_map]; rfl),tpos,fun n hn=>Nat.le_trans (tb.1 n hn) (by decide),Nat.le_trans tb.2 (by decide),?_⟩
 refine ⟨Nat.zero_le _,fun Rp hRp=>?_⟩
 have hRn:H Rp=none:=s1.free hRp
 have s2:=s1.upd_new hRn (.lst [])
 refine ⟨_,rfl,a,rfl,⟨_,bR.of (hE.same s2).lst⟩,?_⟩
 refine pR (xs:=o4 es) (fun i σ H'=>∃ v3 v4 v5 xs,σ = [some (.ref a),some (.int (dG (cO es))),some (.ref Rp),v3,v4,v5] /\ aN H H' /\ eZ H' Rp xs /\ cM xs=cL (dG (cO es)) (es.take i) /\ PB xs /\ xs.length <= i * k0) ⟨none,none,none,[],rfl,s2,⟨aB,fun _ h=>nomatch h⟩,rfl,(fun _ h=>nomatch h),by rw [Nat.zero_mul]; exact Nat.le_refl _⟩ ?keep2 ?turn2 ?done2
 case keep2 =>
  rintro i σ H' hi ⟨v3,v4,v5,xs,rfl,hs,_⟩
  exact bR.of (hE.same hs).lst
 case turn2 =>
  rintro i v σ H' hv ⟨v3,v4,v5,xs,rfl,hs,hX,ex,pb,xl⟩
  obtain ⟨e,he,rfl⟩:=Bx hv
  have hmem:=List.mem_of_getElem? he
  have hi:=(List.getElem?_eq_some_iff.mp he).1
  have hr:=(hE.same hs).ents e hmem
  have ge:=g.g e hmem
  have gw:=g.w e hmem
  have gl:=ge.len
  have gs:=ge.tot
  have tz:=tb.1 _ (List.mem_map.mpr ⟨e,hmem,rfl⟩)
  have wz:intBits e.w <= 64:=PySem.intBits_le_64 (by omega) (by omega)
  have fz:intBits (pZ (dG (cO es)) e) <= 64 + 2405:=PySem.intBits_mul_le wz (PySem.intBits_fdiv_le Sz)
  refine ⟨e.p,_,rfl,bQ.of hr.1,rfl,_,_,rfl,_,_,rfl,rfl,?_⟩
  refine ⟨_,rfl,_,rfl,_,rfl,e.a,e.ys,rfl,hr.2,by omega,fun H2 s2=>?_⟩
  refine ⟨_,_,rfl,rfl,⟨by omega,Nat.le_trans tz (by decide)⟩,_,_,rfl,rfl,dX (m:=64) (n:=2405) wz (PySem.intBits_fdiv_le Sz) (by decide),?_⟩
  have hs2:=hs.trans s2
  have hr2:=hr.2.same s2
  refine ⟨_,rfl,.inl ⟨rfl,_,bR.of (hX.same s2).lst⟩,_,rfl,e.a,rfl,⟨_,bR.of hr2.lst⟩,fun D2 hD2=>?_⟩
  refine cD (xs:=gC e.ys) (fun j τ H''=>∃ v0 v1 zs,τ = [v0,v1,some (.ref a),some (.int (dG (cO es))),some (.ref Rp),some (.int e.w),some (.ref e.a),some (.int (pZ (dG (cO es)) e))] /\ aN H2 H'' /\ eZ H'' D2 zs /\ cM zs=(e.ys.take j).map (fun y=>⟨y.t,y.b,pZ (dG (cO es)) e * y.w⟩)) ⟨none,none,[],rfl,aH hD2 _,⟨aB,fun _ h=>nomatch h⟩,rfl⟩ ?keep3 ?turn3 ?done3
  case keep3 =>
   rintro j τ H'' hj ⟨v0,v1,zs,rfl,hs3,_⟩
   exact bR.of (hr2.same hs3).lst
  case turn3 =>
   rintro j m v τ H'' hm hj hv ⟨v0,v1,zs,rfl,hs3,hZ,ez⟩
   obtain ⟨y,hy,rfl⟩:=jA hv
   have hym:=List.mem_of_getElem? hy
   have ry:=(hr2.same hs3).rows y hym
   have yz:=g.wz hmem hym
   have zl:zs.length <= 12:=by
    have h:=congrArg List.length ez
    rw [dJ,List.length_map,List.length_take] at h
    omega
   refine ⟨y.p,_,rfl,bQ.of ry.1,rfl,_,_,rfl,_,_,rfl,rfl,?_⟩
   refine eO ?_
   refine ⟨_,rfl,_,rfl,_,rfl,_,_,rfl,rfl,dX fz yz (by decide),qT,fun p hp=>?_⟩
   have n1:=aH hp (.tup [.ref y.q,.int (pZ (dG (cO es)) e * y.w)])
   have hZ1:=hZ.same n1
   refine bM hm hj hZ1.lst (by rw [bV]; exact aX (by omega)) ⟨_,_,zs ++ [⟨p,y.q,y.t,y.b,pZ (dG (cO es)) e * y.w⟩],rfl,(hs3.trans n1).upd_new hD2 _,⟨?_,?_⟩,?_⟩
   ·rw [aB,jC]
   ·intro z hz
    rcases List.mem_append.mp hz with q1 | q1
    ·exact (hZ1.rows z q1).over hZ1.lst
    ·rw [List.mem_singleton.mp q1]
     exact gM.over ⟨aB,n1 _ _ ry.2⟩ hZ1.lst
   ·rw [jH,ez,bG hy,List.map_append]
    rfl
  case done3 =>
   rintro τ H3 ⟨v0,v1,zs,rfl,s3,hZ,ez⟩
   rw [bV,List.take_length] at ez
   have zl:zs.length=e.ys.length:=by
    have h:=congrArg List.length ez
    rw [dJ,List.length_map] at h
    exact h
   have hX3:=hX.same (s2.trans s3)
   have il:i * k0 <= es.length * k0:=Nat.mul_le_mul_right _ (by omega)
   refine ⟨Rp,D2,gC xs,gC zs,rfl,rfl,hX3.lst,hZ.lst,by rw [bV,bV]; exact Nat.le_of_lt (aX (by omega)),?_⟩
   have s4:aN H (aY H3 Rp (.lst (gC xs ++ gC zs))):=(hs2.trans s3).upd_new hRn _
   refine ⟨_,_,_,xs ++ zs,rfl,s4,⟨?_,?_⟩,?_,?_,?_⟩
   ·rw [aB]
    unfold gC
    rw [List.map_append]
   ·intro z hz
    rcases List.mem_append.mp hz with q1 | q1
    ·exact (hX3.rows z q1).over hX3.lst
    ·exact (hZ.rows z q1).over hX3.lst
   ·rw [Dq,ex,ez,bG he,zZ]
   ·intro z hz
    rcases List.mem_append.mp hz with q1 | q1
    ·exact pb z q1
    ·have m:z.r ∈ cM zs:=List.mem_map.mpr ⟨z,q1,rfl⟩
     rw [ez] at m
     obtain ⟨y,hy,ey⟩:=List.mem_map.mp m
     have e1:y.t=z.t:=congrArg Tb.Rw.t ey
     have e2:y.b=z.b:=congrArg Tb.Rw.b ey
     have e3:pZ (dG (cO es)) e * y.w=z.w:=congrArg Tb.Rw.w ey
     rw [<- e1,<- e2,<- e3]
     exact g.pb hmem hy
   ·rw [List.length_append,Nat.succ_mul]
    omega
 case done2 =>
  rintro σ H4 ⟨v3,v4,v5,xs,rfl,s4,hX,ex,pb,xl⟩
  rw [hlr,List.take_length] at ex
  rw [hlr] at xl
  refine ⟨_,rfl,Rp,xs,rfl,hX,?_,by omega,pb,hTb.same s4,fun r H5 ys s5 tb5 hr5 hY o hyl=>?_⟩
  ·rintro rfl
   have ex:([]:List Tb.Rw)=cL (dG (cO es)) es:=ex
   cases hes:es with
   | nil=>exact g.ne hes
   | cons e es' =>
    have ge:=g.g e (by rw [hes]; exact List.mem_cons_self)
    cases hys:e.ys with
    | nil=>exact ge.ne hys
    | cons y ys =>
     have z:Tb.sO (cL (dG (cO es)) es) y.t y.b:=by
      rw [hes]
      exact Tb.lJ.mpr (.inl ⟨⟨y.t,y.b,_⟩,List.mem_map.mpr ⟨y,by rw [hys]; exact List.mem_cons_self,rfl⟩,rfl,rfl⟩)
     rw [<- ex] at z
     exact Tb.sV z
  ·rw [ex] at o
   exact q r H5 ys ((s4.toT).trans s5) tb5 (s4.free hr5) hY (g.out o (by omega)) o (by rw [<- ex,dJ]; exact hyl)
theorem zK {n:Nat}{f:Addr}{fd:FuncData} (F:fH K "level_for" "level_for" (top 24) f fd) {g_share:Addr}{gd_share:FuncData} (c_share:fL P w K mg base n "share" ["top","bottom"] sS g_share gd_share) {g_all_weights:Addr}{gd_all_weights:FuncData} (c_all_weights:fL P w K mg base n "all_weights" ["table"] NQ g_all_weights gd_all_weights) {g_common_multiple:Addr}{gd_common_multiple:FuncData} (c_common_multiple:fL P w K mg base n "common_multiple" ["numbers"] (M6 K) g_common_multiple gd_common_multiple) (z_reversed:mg "reversed" = none):aV P w K mg base d7 (n + 1) f fd ["table","price"] Oq:=by
 refine F.ok pK (fun vs H Q E h=>?_) (fun cdv A outer s H vs Q E hr h=>?_)
 ·obtain ⟨a,xs,p,n,W,kk,rfl,_⟩:=h
  rfl
 obtain ⟨a,xs,p,n,W,kk,rfl,hT,g,c,so,p0,p9,q⟩:=h
 have nd:=pK.nd
 refine ⟨_,(aD (aP (i:=2) nd rfl (Or.inl rfl) (aL c_common_multiple hr (aA (cU (ls:=["worth","weight"]) (M:=["table","price","bottom","tops","weights","worth#","weight#","top"]) rfl (cA.of (by rfl)) (NL.of (by rfl)) (cT (pv 0)) (fun _ _ _ _=>⟨(fX (K:=K) (n:=2) rfl rfl (bH (aW (i:=0) (cV (by rfl)) rfl (Or.inl rfl)) (bH (aW (i:=1) (cV (by rfl)) rfl (Or.inl rfl)) eG))),cQ,(bA (iU (K:=K) rfl) (pv 0) aF (fun _ _=>rfl))⟩)) aC))) (aD (aP (i:=3) nd rfl (Or.inl rfl) (aR bT (aR bT (FT zU (pv 1)) (aL c_all_weights hr (aA (pv 0) aC))) (pv 2))) (aD (aP (i:=4) nd rfl (Or.inl rfl) aF) (aD (jK PassesOwn.never rfl (QM rfl z_reversed (aA (pv 0) aC)) (yS rfl (bH (aW (i:=5) nd rfl (Or.inl rfl)) (bH (aW (i:=6) nd rfl (Or.inl rfl)) eG))) (aD (aP (i:=7) nd rfl (Or.inl rfl) (aR bT (bA bB (pv 5) aF (fun _ _=>rfl)) (aR fP (pv 2) (bA bB (pv 5) aF (fun _ _=>rfl))))) (aD (dW (PW.pt (KC (bZ Ao (pv 4) aF (cI _)) (Gi (bZ uY (aR bT (pv 7) (pv 4)) (pv 3) (cI _))))) (aJ Kq) bY) (aD (aP (i:=3) nd rfl (Or.inl rfl) (aR fQ (pv 3) (aR bT (pv 6) (pv 7)))) (aJ (aP (i:=4) nd rfl (Or.inl rfl) (aR fQ (pv 4) (pv 6)))))))) (aJ (aQ (aL c_share hr (aA (pv 3) (aA (aR bT (pv 4) (pv 2)) aC))))))))),?_⟩
 have hlr:=bV xs
 have hrl:=dJ xs
 have glen:=g.len
 have gn:=c.n
 have tab:=g.tab so
 have wt1:=g.tot
 have wt2:=g.ws
 have wt3:=c.w
 have lm:0 < bK xs /\ bK xs <= 2 ^ 1600:=⟨g.mp,c.m⟩
 have p601:(2:Int) ^ 601=2 * 2 ^ 600:=by rw [Int.pow_succ]; omega
 have p600:=Sd.bU 600
 have p1601:(2:Int) ^ 1601=2 * 2 ^ 1600:=by rw [Int.pow_succ]; omega
 have glz:intBits (bK xs) <= 1601:=iZ (by omega) (by omega)
 have wsz:∀ z:Int,0 <= z->z <= bN xs->intBits z <= 601:=fun z h1 h2=>iZ (by omega) (by omega)
 have nz:0 < xs.length:=by
  rcases Nat.eq_zero_or_pos xs.length with z | z
  ·exact absurd (List.length_eq_zero_iff.mp z) g.ne
  ·exact z
 have b1:∀ x:Int,0 <= x->x <= 1000000000->intBits x <= 64:=fun x h1 h2=>PySem.intBits_le_64 (by omega) (by omega)
 have bpos:∀ n ∈ xs.map cB.b,0 < n:=fun n hn=>by
  obtain ⟨x,hx,rfl⟩:=List.mem_map.mp hn
  exact (g.fq x hx).fr.pos
 refine ⟨_,rfl,a,rfl,⟨_,bR.of hT.lst⟩,fun D hD=>?_⟩
 refine cD (xs:=gC xs) (fun i τ H'=>∃ v0 v1,τ = [v0,v1,some (.ref a),some (.int p),none,none,none,none,none,none] /\ aN H H' /\ H' D=some (.lst ((xs.take i).map fun x=>V.int x.b))) ⟨none,none,rfl,aH hD _,aB⟩ ?keep ?turn ?done
 case keep =>
  rintro i τ H' hi ⟨v0,v1,rfl,hs,_⟩
  exact bR.of (hT.same hs).lst
 case turn =>
  rintro i m v τ H' hm hi hv ⟨v0,v1,rfl,hs,hD'⟩
  obtain ⟨x,hx,rfl⟩:=jA hv
  have hr:=(hT.same hs).rows x (List.mem_of_getElem? hx)
  refine ⟨x.p,_,rfl,bQ.of hr.1,rfl,_,_,rfl,_,_,rfl,rfl,?_⟩
  refine eO ?_
  refine ⟨_,rfl,x.q,_,_,_,rfl,rfl,bQ.of hr.2,rfl,?_⟩
  refine bM hm hi hD' (by rw [List.length_map]; exact aX (Nat.le_trans (List.length_take_le _ _) (by omega))) ⟨_,_,rfl,hs.upd_new hD _,?_⟩
  rw [aB,bG hx,List.map_append]
  rfl
 case done =>
 rintro τ H1 ⟨v0,v1,rfl,s1,hD1⟩
 rw [hlr,List.take_length] at hD1
 have b9:∀ n ∈ xs.map cB.b,intBits n <= 1601:=fun n hn=>by
  obtain ⟨x,hx,rfl⟩:=List.mem_map.mp hn
  exact (g.bits c hx).1
 have b10:((xs.map cB.b).map intBits).sum <= 200000:=by
  have h:=lH (k:=1601) (l:=(xs.map cB.b).map intBits) fun n hn=>by
   obtain ⟨z,hz,rfl⟩:=List.mem_map.mp hn
   exact b9 z hz
  rw [List.length_map,List.length_map] at h
  omega
 refine ⟨D,xs.map cB.b,rfl,bR.of (by rw [hD1,List.map_map]; rfl),bpos,fun n hn=>Nat.le_trans (b9 n hn) (by decide),b10,?_⟩
 have hT1:=hT.same s1
 refine ⟨_,rfl,_,rfl,_,rfl,a,xs,rfl,hT1,by omega,fun H2 s2=>⟨_,_,rfl,rfl,dX (m:=64) (n:=601) (PySem.intBits_neg_le (b1 p p0 p9)) (wsz _ (by omega) (Int.le_refl _)) (by decide),_,rfl,_,_,rfl,rfl,dX (m:=64 + 601) (n:=1601) (PySem.intBits_mul_le (PySem.intBits_neg_le (b1 p p0 p9)) (wsz _ (by omega) (Int.le_refl _))) glz (by decide),?_⟩⟩
 have hT2:=hT1.same s2
 have gw2:=wt1
 rw [jV] at gw2
 have P0:0 <= p * Tb.W (cM xs) * bK xs:=Int.mul_nonneg (Int.mul_nonneg p0 (by omega)) (Int.le_of_lt tab.cm.pos)
 have fin:∀ (i:Nat) (tops ws:Int) (v5 v6 v7:Option V),0 < i->Tb.Lp (bK xs) (p * Tb.W (cM xs) * bK xs) (cM xs) i tops ws ->
   (i=(cM xs).length ∨ ∃ r,(cM xs)[(cM xs).length - 1 - i]? = some r /\ i < (cM xs).length /\ Tb.T (bK xs) r * ws <= tops) ->
   Ua (Am sS [] E0 (Jf (Ib 3) (Jf (Te (rI JT fun i j=>.int (i * j)) (Ib 4) (Ib 2)) uT))) { nx:=fun _ H'=>Q .non H',rt:=Q } [some (.ref a),some (.int p),some (.int (bK xs)),some (.int tops),some (.int ws),v5,v6,v7] H2:=by
  intro i tops ws v5 v6 v7 hi L stop
  have wp:=L.ws_pos tab hi
  obtain ⟨w0,wl,tlo,thi⟩:=g.lp c.k0 p0 L
  have wz:=wsz ws w0 wl
  have ne:ws * bK xs ≠ 0:=Int.ne_of_gt (Int.mul_pos wp tab.cm.pos)
  refine ⟨_,rfl,_,rfl,_,rfl,_,_,rfl,rfl,dX wz glz (by decide),tops,ws * bK xs,rfl,ne,Nat.le_trans (PySem.intBits_mul_le wz glz) (by decide),fun r H' s' hr'=>?_⟩
  have kp:0 <= (p + kk) * bN xs:=Int.mul_nonneg (by have:=c.k0; omega) (by omega)
  exact q r H' (Fr.sh tops (ws * bK xs)) ws ((s1.trans s2).trans s') hr' (by omega) wl (Q6 (by omega) lm.1 kp tlo thi) (L.ends tab hi stop (Fr.oR ne) (Fr.jF tops (ws * bK xs)))
 refine ⟨_,rfl,a,gC xs,rfl,bR.of hT2.lst,?_⟩
 refine Nh (fun i σ H'=>∃ tops ws v5 v6 v7,σ = [some (.ref a),some (.int p),some (.int (bK xs)),some (.int tops),some (.int ws),v5,v6,v7] /\ H'=H2 /\ Tb.Lp (bK xs) (p * Tb.W (cM xs) * bK xs) (cM xs) i tops ws) ?start (fun i σ H' _ ⟨_,_,_,_,_,_,e,_⟩=>by subst e; exact bR.of hT2.lst) ?turn2 ?done2
 case start =>
  refine ⟨_,_,none,none,none,rfl,rfl,?_⟩
  have e:-p * bN xs * bK xs = -(p * Tb.W (cM xs) * bK xs):=by rw [jV]; grind
  show Tb.Lp _ _ _ 0 (-p * bN xs * bK xs) 0
  rw [e]
  exact Tb.Lp.start P0
 case turn2 =>
  rintro i v σ H' hi hv ⟨tops,ws,v5,v6,v7,rfl,rfl,L⟩
  obtain ⟨x,hx,rfl⟩:=jA hv
  have hmem:=List.mem_of_getElem? hx
  have hr:=hT2.rows x hmem
  have xp:=(g.fq x hmem).fr.pos
  have xbz:=g.bits c hmem
  rw [hlr] at hi hx
  have hx':(cM xs)[(cM xs).length - 1 - i]? = some x.r:=by rw [hrl]; unfold cM; rw [List.getElem?_map,hx]; rfl
  have tT:x.t * (bK xs).fdiv x.b=Tb.T (bK xs) x.r:=by
   unfold Tb.T
   rw [Int.fdiv_eq_ediv_of_nonneg _ (Int.le_of_lt xp)]
   rfl
  have tz:intBits (x.t * (bK xs).fdiv x.b) <= 3201 + 1601:=PySem.intBits_mul_le xbz.2 (PySem.intBits_fdiv_le glz)
  obtain ⟨w0,wl,tlo,thi⟩:=g.lp c.k0 p0 L
  have wz:=wsz ws w0 wl
  have xw:=wsz x.w (by have:=g.w1 x hmem; omega) (j5 g.w1 hmem)
  refine ⟨x.p,_,rfl,bQ.of hr.1,rfl,_,_,rfl,_,_,rfl,rfl,?_⟩
  refine ⟨_,rfl,x.q,_,_,_,rfl,rfl,bQ.of hr.2,rfl,_,rfl,_,rfl,x.q,_,_,_,rfl,rfl,bQ.of hr.2,rfl,_,_,rfl,rfl,⟨Int.ne_of_gt xp,by omega⟩,_,_,rfl,rfl,dX xbz.2 (PySem.intBits_fdiv_le glz) (by decide),?_⟩
  refine ⟨_,rfl,_,_,rfl,rfl,_,rfl,?_⟩
  have go:¬ (0 < ws /\ Tb.T (bK xs) x.r * ws <= tops)->∃ tops' ws' v5 v6 v7,[some (V.ref a),some (.int p),some (.int (bK xs)),some (.int (tops + x.w * (x.t * (bK xs).fdiv x.b))),some (.int (ws + x.w)),some (.ref x.q),some (.int x.w),some (.int (x.t * (bK xs).fdiv x.b))]=[some (.ref a),some (.int p),some (.int (bK xs)),some (.int tops'),some (.int ws'),v5,v6,v7] /\ H'=H' /\ Tb.Lp (bK xs) (p * Tb.W (cM xs) * bK xs) (cM xs) (i + 1) tops' ws':=fun h=>by
   have L2:=L.next tab P0 (by rw [hrl]; exact hi) hx' h
   rw [<- tT] at L2
   exact ⟨_,_,_,_,_,rfl,rfl,L2⟩
  by_cases hw:0 < ws
  ·refine wO (decide_eq_true hw) ?_
   refine ⟨_,rfl,_,rfl,_,_,rfl,rfl,dX tz wz (by decide),_,rfl,_,_,rfl,rfl,_,rfl,?_⟩
   by_cases hb:x.t * (bK xs).fdiv x.b * ws <= tops
   ·refine wO (decide_eq_true hb) ?_
    have ip:0 < i:=by
     rcases Nat.eq_zero_or_pos i with z | z
     ·subst z
      have a0:=L.ew
      simp [Tb.W] at a0
      omega
     ·exact z
    exact fin i tops ws _ _ _ ip L (.inr ⟨x.r,hx',by rw [hrl]; exact hi,by rw [<- tT]; exact hb⟩)
   ·refine wK (decide_eq_false hb) ?_
    refine ⟨_,rfl,_,rfl,_,rfl,_,_,rfl,rfl,dX xw tz (by decide),_,_,rfl,rfl,?_⟩
    refine ⟨_,rfl,_,rfl,_,_,rfl,rfl,?_⟩
    exact go fun z=>hb (by rw [tT]; exact z.2)
  ·refine wK (decide_eq_false hw) ?_
   refine fZ ?_
   refine ⟨_,rfl,_,rfl,_,rfl,_,_,rfl,rfl,dX xw tz (by decide),_,_,rfl,rfl,?_⟩
   refine ⟨_,rfl,_,rfl,_,_,rfl,rfl,?_⟩
   exact go fun z=>hw z.1
 case done2 =>
  rintro σ H' ⟨tops,ws,v5,v6,v7,rfl,rfl,L⟩
  rw [hlr] at L
  exact fin xs.length tops ws v5 v6 v7 nz L (.inl hrl.symm)
theorem wC {n:Nat}{f:Addr}{fd:FuncData} (F:fH K "ends" "Stand.ends" (aG (top 31) 1) f fd) {c:Cs} (ck:CK K c):aV P w K mg base d7 (n + 1) f fd ["self"] (Kh c):=by
 refine F.ok oJ (fun vs H Q E h=>?_) (fun cdv A outer s H vs Q E hr h=>?_)
 ·obtain ⟨x,s,d,m,rfl,_⟩:=h
  rfl
 obtain ⟨x,s,d,m,rfl,st,q⟩:=h
 have nd:=oJ.nd
 refine ⟨_,(aJ (aQ (dO (pv 0) rfl))),?_⟩
 cases st with
 | en h vv ok=>exact ⟨_,rfl,x,c.e,_,_,_,rfl,h,ck.ce,ck.e1,rfl,q _ vv.n1 vv.nm vv.nx⟩
 | st h vv g lp ly row sub p0 p9 ne l4 w hk=>exact ⟨_,rfl,x,c.s,_,_,_,rfl,h,ck.cs,ck.s1,rfl,q _ vv.n1 vv.nm vv.nx⟩
theorem rM {n:Nat}{f:Addr}{fd:FuncData} (F:fH K "stages" "Stand.stages" (aG (top 31) 2) f fd) {c:Cs} (ck:CK K c):aV P w K mg base d7 (n + 1) f fd ["self"] (J9 c):=by
 refine F.ok lU (fun vs H Q E h=>?_) (fun cdv A outer s H vs Q E hr h=>?_)
 ·obtain ⟨x,s,d,m,rfl,_⟩:=h
  rfl
 obtain ⟨x,s,d,m,rfl,st,q⟩:=h
 have nd:=lU.nd
 refine ⟨_,(aJ (aQ (dO (pv 0) rfl))),?_⟩
 cases st with
 | en h vv ok=>exact ⟨_,rfl,x,c.e,_,_,_,rfl,h,ck.ce,ck.e2,rfl,q _ vv.k0 vv.kd vv.kx⟩
 | st h vv g lp ly row sub p0 p9 ne l4 w hk=>exact ⟨_,rfl,x,c.s,_,_,_,rfl,h,ck.cs,ck.s2,rfl,q _ vv.k0 vv.kd vv.kx⟩
theorem wD {n:Nat}{f:Addr}{fd:FuncData} (F:fH K "caps" "Stand.caps" (aG (top 31) 4) f fd) {c:Cs} (ck:CK K c) (z_list:mg "list" = none):aV P w K mg base d7 (n + 1) f fd ["self"] (Kf c):=by
 refine F.ok gW (fun vs H Q E h=>?_) (fun cdv A outer s H vs Q E hr h=>?_)
 ·obtain ⟨x,s,d,m,rfl,_⟩:=h
  rfl
 obtain ⟨x,s,d,m,rfl,st,q⟩:=h
 have nd:=gW.nd
 refine ⟨_,(aJ (aQ (eY lA rfl z_list mX (aA (dO (pv 0) rfl) aC)))),?_⟩
 cases st with
 | @en _ _ l cp v n' k' _ _ xs h vv ok =>
  refine ⟨_,rfl,x,c.e,_,_,_,rfl,h,ck.ce,ck.e4,rfl,?_⟩
  refine ⟨cp,_,rfl,.inr (bQ.of vv.caps.1),fun r hr0=>?_⟩
  have n1:=aH hr0 (.lst (gC xs))
  exact q r _ xs n1 hr0 ⟨aB,fun y hy=>(vv.caps.2 y hy).same n1⟩ vv.gs vv.so ⟨_,vv.mt,vv.lw⟩
 | @st _ _ l cp r0 p n' k' lv _ _ j xs rs ps ys h vv g lp ly row sub p0 p9 ne l4 w hk =>
  refine ⟨_,rfl,x,c.s,_,_,_,rfl,h,ck.cs,ck.s4,rfl,?_⟩
  refine ⟨cp,_,rfl,.inr (bQ.of vv.caps.1),fun r hr0=>?_⟩
  have n1:=aH hr0 (.lst (gC xs))
  exact q r _ xs n1 hr0 ⟨aB,fun y hy=>(vv.caps.2 y hy).same n1⟩ vv.gs vv.so ⟨_,vv.mt,vv.lw⟩
theorem pH {n:Nat}{f:Addr}{fd:FuncData} (F:fH K "__init__" "Stand.__init__" (aG (top 31) 0) f fd) {c:Cs} (ck:CK K c) (z_tuple:mg "tuple" = none):aV P w K mg base d7 (n + 1) f fd ["self","end_count","stage_count","level","cap_rows"] (JZ c):=by
 refine F.ok jO (fun vs H Q E h=>?_) (fun cdv A outer s H vs Q E hr h=>?_)
 ·obtain ⟨x,dx,C,l,a,n1,k1,xs,rfl,_⟩:=h
  rfl
 obtain ⟨x,dx,C,l,a,n1,k1,xs,rfl,hC,hx,hT,q⟩:=h
 have nd:=jO.nd
 refine ⟨_,(aD (fC (pv 0) (pv 1) rfl) (aD (fC (pv 0) (pv 2) rfl) (aD (fC (pv 0) (pv 3) rfl) (aJ (fC (pv 0) (eY (eX (K:=K) rfl) rfl z_tuple iK (aA (pv 4) aC)) rfl))))),?_⟩
 have cC:Dc K C /\ cJ K C "end_count" /\ cJ K C "stage_count" /\ cJ K C "level" /\ cJ K C "cap_rows":=by
  rcases hC with e | e <;> subst e
  ·exact ⟨ck.ce,ck.e1,ck.e2,ck.e3,ck.e4⟩
  ·exact ⟨ck.cs,ck.s1,ck.s2,ck.s3,ck.s4⟩
 have nax:a ≠ x:=bO hT.lst hx fun z=>nomatch z
 refine ⟨_,rfl,_,rfl,x,C,dx,[],rfl,hx,cC.1,cC.2.1,(by show _ < 1000; decide),?_⟩
 refine ⟨_,rfl,_,rfl,x,C,dx,_,rfl,aB,cC.1,cC.2.2.1,(by show 1 < 1000; decide),?_⟩
 refine ⟨_,rfl,_,rfl,x,C,dx,_,rfl,aB,cC.1,cC.2.2.2.1,(by show 2 < 1000; decide),?_⟩
 refine ⟨_,rfl,a,_,rfl,.inl ⟨bR.of (by rw [aK nax,aK nax,aK nax]; exact hT.lst),fun t ht=>?_⟩⟩
 have htx:t ≠ x:=fun e=>by rw [e,aB] at ht; cases ht
 refine ⟨_,rfl,x,C,dx,_,rfl,by rw [aK (Ne.symm htx)]; exact aB,cC.1,cC.2.2.2.2,(by show 3 < 1000; decide),?_⟩
 rw [aK htx,aK htx,aK htx] at ht
 refine q t _ ht (fun b o nb e=>?_) aB ?_
 ·rw [aK nb,aK (aU e ht),aK nb,aK nb,aK nb]
  exact e
 ·rw [aK htx]
  exact aB
theorem Ba {n:Nat}{f:Addr}{fd:FuncData} (F:fH K "is_whole" "is_whole" (top 6) f fd) (z_isinstance:mg "isinstance" = none) (z_bool:mg "bool" = none) (z_int:mg "int" = none):aV P w K mg base d7 (n + 1) f fd ["thing","least","most"] qP:=by
 refine F.ok rH (fun vs H Q E h=>?_) (fun cdv A outer s H vs Q E hr h=>?_)
 ·obtain ⟨v,lo,hi,b,rfl,_⟩:=h
  rfl
 obtain ⟨v,lo,hi,b,rfl,h,q⟩:=h
 have nd:=rH.nd
 refine ⟨_,(aJ (aQ (oN (bC (fJ (T:="int")) rfl z_isinstance cN (aA (pv 0) (aA (jP (v:=.ty "int") rfl z_int Ea rfl) aC))) (oN (LR (bC (fJ (T:="bool")) rfl z_isinstance cN (aA (pv 0) (aA (jP (v:=.ty "bool") rfl z_bool Fl rfl) aC)))) (oO (Iu uY uY (pv 1) (pv 0) (pv 2))))))),?_⟩
 cases h with
 | no h =>
  obtain ⟨t,ht,hk⟩:=h K
  refine ⟨_,rfl,_,_,_,rfl,ht,hk,_,rfl,?_⟩
  exact fZ q
 | bl c =>
  refine ⟨_,rfl,_,_,_,rfl,.bl c,yU,_,rfl,?_⟩
  refine iJ ?_
  refine ⟨_,rfl,_,_,_,rfl,.bl c,gD _,_,rfl,?_⟩
  refine ⟨_,rfl,?_⟩
  exact fZ q
 | int i =>
  refine ⟨_,rfl,_,_,_,rfl,.int i,gD _,_,rfl,?_⟩
  refine iJ ?_
  refine ⟨_,rfl,_,_,_,rfl,.int i,oY,_,rfl,?_⟩
  refine ⟨_,rfl,?_⟩
  refine iJ ?_
  refine ⟨_,rfl,_,rfl,_,_,rfl,rfl,_,rfl,?_⟩
  by_cases h1:lo <= i
  ·refine wO (decide_eq_true h1) ?_
   refine ⟨_,rfl,_,_,rfl,rfl,?_⟩
   rw [decide_eq_true h1] at q
   exact q
  ·refine wK (decide_eq_false h1) ?_
   rw [decide_eq_false h1] at q
   exact q
theorem BV {n:Nat}{f:Addr}{fd:FuncData} (F:fH K "is_stand" "is_stand" (top 34) f fd) {c:Cs} (ck:CK K c) (ct:CT K c) (cn:CN K c) (g_End:mg "End" = some (.ref c.e)) (g_Stage:mg "Stage" = some (.ref c.s)) (z_isinstance:mg "isinstance" = none):aV P w K mg base d7 (n + 1) f fd ["thing"] (Jb c K):=by
 refine F.ok rG (fun vs H Q E h=>?_) (fun cdv A outer s H vs Q E hr h=>?_)
 ·obtain ⟨v,b,rfl,_⟩:=h
  rfl
 obtain ⟨v,b,rfl,h,q⟩:=h
 have nd:=rG.nd
 refine ⟨_,(aJ (aQ (X8 (bC (pA (K:=K) rfl) rfl z_isinstance cN (aA (pv 0) (aA (iY (v:=.ref c.e) rfl g_End rfl) aC))) (oO (bC (pA (K:=K) rfl) rfl z_isinstance cN (aA (pv 0) (aA (iY (v:=.ref c.s) rfl g_Stage rfl) aC))))))),?_⟩
 cases h with
 | yes st =>
  cases st with
  | en h vv ok =>
   refine ⟨_,rfl,_,c.e,.ref c.e,true,rfl,.ins h ck.ce ct.ea ct.hn ct.htk ct.em,ct.ee,?_⟩
   refine ⟨_,rfl,?_⟩
   refine iJ ?_
   exact q
  | st h vv g lp ly row sub p0 p9 ne l4 w hk =>
   refine ⟨_,rfl,_,c.e,.ref c.s,false,rfl,.ins h ck.cs ct.sa ct.hn ct.htk ct.sm,ct.se,?_⟩
   refine ⟨_,rfl,?_⟩
   refine fZ ?_
   exact ⟨_,rfl,_,c.s,.ref c.s,true,rfl,.ins h ck.cs ct.sa ct.hn ct.htk ct.sm,ct.ss,q⟩
 | no h ht =>
  have z:=cn.all _ ht
  refine ⟨_,rfl,_,c.e,_,false,rfl,h,z.1,?_⟩
  refine ⟨_,rfl,?_⟩
  refine fZ ?_
  exact ⟨_,rfl,_,c.s,_,false,rfl,h,z.2,q⟩
theorem rN {n:Nat}{f:Addr}{fd:FuncData} (F:fH K "is_stage_row" "is_stage_row" (top 35) f fd) {c:Cs}{g_is_stand:Addr}{gd_is_stand:FuncData} (c_is_stand:fL P w K mg base n "is_stand" ["thing"] (Jb c K) g_is_stand gd_is_stand) {g_is_whole:Addr}{gd_is_whole:FuncData} (c_is_whole:fL P w K mg base n "is_whole" ["thing","least","most"] qP g_is_whole gd_is_whole) (z_len:mg "len" = none) (z_isinstance:mg "isinstance" = none) (z_tuple:mg "tuple" = none) {u_MOST_WEIGHT:Value} (g_MOST_WEIGHT:mg "MOST_WEIGHT" = some u_MOST_WEIGHT) (r_MOST_WEIGHT:bJ (.int 1000) u_MOST_WEIGHT):aV P w K mg base d7 (n + 1) f fd ["row"] (GD c K):=by
 refine F.ok lQ (fun vs H Q E h=>?_) (fun cdv A outer s H vs Q E hr h=>?_)
 ·obtain ⟨v,b,rfl,_⟩:=h
  rfl
 obtain ⟨v,b,rfl,h,q⟩:=h
 have nd:=lQ.nd
 refine ⟨_,(aD (dW (PW.pt (jU (eV (dR (bC (fJ (T:="tuple")) rfl z_isinstance cN (aA (pv 0) (aA (jP (v:=.ty "tuple") rfl z_tuple iK rfl) aC))))) (jL (bZ Fg (bC cX rfl z_len jX (aA (pv 0) aC)) aF (cI _))))) (aJ (aQ nH)) bY) (aJ (aQ (oN (aL c_is_whole hr (aA (bA bB (pv 0) aF (fun _ _=>rfl)) (aA aF (aA (iY (v:=.int 1000) rfl g_MOST_WEIGHT r_MOST_WEIGHT) aC)))) (oO (aL c_is_stand hr (aA (bA bB (pv 0) aF (fun _ _=>rfl)) aC))))))),?_⟩
 cases h with
 | no ht hk =>
  refine ⟨_,rfl,_,_,_,rfl,ht,hk,_,rfl,?_⟩
  exact iJ (iJ q)
 | @len a xs e hl =>
  refine ⟨_,rfl,_,_,_,rfl,.tup e,gD _,_,rfl,?_⟩
  refine fZ ?_
  refine ⟨_,rfl,a,_,rfl,.inr (bQ.of e),rfl,_,rfl,?_⟩
  refine wO ?_ q
  rw [decide_eq_false (fun z=>hl (by injection z with z; omega))]
  rfl
 | @two a x y b1 b2 e hx hy =>
  refine ⟨_,rfl,_,_,_,rfl,.tup e,gD _,_,rfl,?_⟩
  refine fZ ?_
  refine ⟨_,rfl,a,_,rfl,.inr (bQ.of e),rfl,_,rfl,?_⟩
  refine fZ ?_
  refine ⟨_,rfl,a,_,_,_,rfl,rfl,bQ.of e,rfl,x,1,1000,b1,rfl,hx,_,rfl,?_⟩
  cases b1 with
  | false=>exact fZ q
  | true =>
   refine iJ ?_
   exact ⟨_,rfl,a,_,_,_,rfl,rfl,bQ.of e,rfl,y,b2,rfl,hy,q⟩
theorem qC {n:Nat}{f:Addr}{fd:FuncData} (F:fH K "is_stage_rows" "is_stage_rows" (top 36) f fd) {c:Cs}{g_is_stage_row:Addr}{gd_is_stage_row:FuncData} (c_is_stage_row:fL P w K mg base n "is_stage_row" ["row"] (GD c K) g_is_stage_row gd_is_stage_row) (z_all:mg "all" = none) (z_len:mg "len" = none) (z_isinstance:mg "isinstance" = none) (z_list:mg "list" = none) {u_MOST_STAGE_ROWS:Value} (g_MOST_STAGE_ROWS:mg "MOST_STAGE_ROWS" = some u_MOST_STAGE_ROWS) (r_MOST_STAGE_ROWS:bJ (.int 4) u_MOST_STAGE_ROWS):aV P w K mg base d7 (n + 1) f fd ["rows"] (Cu c K):=by
 refine F.ok j8 (fun vs H Q E h=>?_) (fun cdv A outer s H vs Q E hr h=>?_)
 ·obtain ⟨v,b,rfl,_⟩:=h
  rfl
 obtain ⟨v,b,rfl,h,q⟩:=h
 have nd:=j8.nd
 refine ⟨_,(aD (dW (PW.pt (jU (eV (dR (bC (fJ (T:="list")) rfl z_isinstance cN (aA (pv 0) (aA (jP (v:=.ty "list") rfl z_list mX rfl) aC))))) (jL (eV (BZ uY uY aF (bC cX rfl z_len jX (aA (pv 0) aC)) (iY (v:=.int 4) rfl g_MOST_STAGE_ROWS r_MOST_STAGE_ROWS)))))) (aJ (aQ nH)) bY) (aJ (aQ (bC (xN rfl rfl) rfl z_all Je (aA (cU (ls:=["row"]) (M:=["rows"]) rfl (cA.of (by rfl)) (NL.of (by rfl)) (cT (pv 0)) (fun _ _ _ _=>⟨(aW (i:=0) (cV (by rfl)) rfl (Or.inl rfl)),cQ,(aL c_is_stage_row hr (aA (pv 0) aC))⟩)) aC))))),?_⟩
 cases h with
 | no h =>
  obtain ⟨t,ht,hk⟩:=h K
  refine ⟨_,rfl,_,_,_,rfl,ht,hk,_,rfl,?_⟩
  exact iJ (iJ (q H (aN.refl _)))
 | @len a xs e hl =>
  refine ⟨_,rfl,_,_,_,rfl,.lst e,gD _,_,rfl,?_⟩
  refine fZ ?_
  refine ⟨_,rfl,a,_,rfl,.inl (bR.of e),_,_,rfl,rfl,_,rfl,?_⟩
  by_cases h1:1 <= xs.length
  ·refine wO (decide_eq_true (show (1:Int) <= _ by omega)) ?_
   refine ⟨_,_,rfl,rfl,_,rfl,?_⟩
   refine wO ?_ (q H (aN.refl _))
   rw [decide_eq_false (show ¬ (xs.length:Int) <= 4 by omega)]
   rfl
  ·refine wK (decide_eq_false (show ¬ (1:Int) <= _ by omega)) ?_
   refine ⟨_,rfl,?_⟩
   exact iJ (q H (aN.refl _))
 | @all a xs bs e h1 h8 hb h =>
  refine ⟨_,rfl,_,_,_,rfl,.lst e,gD _,_,rfl,?_⟩
  refine fZ ?_
  refine ⟨_,rfl,a,_,rfl,.inl (bR.of e),_,_,rfl,rfl,_,rfl,?_⟩
  refine wO (decide_eq_true (show (1:Int) <= _ by omega)) ?_
  refine ⟨_,_,rfl,rfl,_,rfl,?_⟩
  refine wK (by rw [decide_eq_true (show (xs.length:Int) <= 4 by omega)]; rfl) ?_
  refine ⟨_,rfl,a,rfl,⟨_,bR.of e⟩,fun D hD=>?_⟩
  refine cD (xs:=xs) (fun i τ H'=>∃ v0,τ = [v0,some (.ref a)] /\ aN H H' /\ H' D=some (.lst ((bs.take i).map V.bl))) ⟨none,rfl,aH hD _,aB⟩ ?keep ?turn ?done
  case keep =>
   rintro i τ H' hi ⟨v0,rfl,hs,_⟩
   exact bR.of (hs _ _ e)
  case turn =>
   rintro i m v τ H' hm hi hv ⟨v0,rfl,hs,hD'⟩
   have hib:i < bs.length:=by omega
   have eb:bs[i]? = some (bs.getD i false):=by rw [List.getElem?_eq_getElem hib,gJ hib]
   refine Dw ?_
   refine ⟨_,rfl,v,bs.getD i false,rfl,(h i v hv).kt (aN.kt hs),?_⟩
   refine bM hm hi hD' (by rw [List.length_map,List.length_take]; exact aX (by omega)) ⟨_,rfl,hs.upd_new hD _,?_⟩
   rw [aB,bG eb,List.map_append]
   rfl
  case done =>
   rintro τ H' ⟨v0,rfl,hs,hD'⟩
   rw [<- hb,List.take_length] at hD'
   exact ⟨D,_,rfl,bR.of hD',q H' hs⟩
theorem wL {n:Nat}{f:Addr}{fd:FuncData} (F:fH K "need_boxes" "need_boxes" (top 37) f fd) {c:Cs}{C_NoBox:Addr} (g_NoBox:mg "NoBox" = some (.ref C_NoBox)) (x_NoBox:rO K C_NoBox) {g_is_stand:Addr}{gd_is_stand:FuncData} (c_is_stand:fL P w K mg base n "is_stand" ["thing"] (Jb c K) g_is_stand gd_is_stand) (z_all:mg "all" = none) (z_len:mg "len" = none) (z_isinstance:mg "isinstance" = none) (z_list:mg "list" = none) {u_MOST_BOXES:Value} (g_MOST_BOXES:mg "MOST_BOXES" = some u_MOST_BOXES) (r_MOST_BOXES:bJ (.int 6) u_MOST_BOXES):aV P w K mg base (nF P w) (n + 1) f fd ["boxes"] (V3 c K C_NoBox):=by
 refine F.okX nM (fun vs H Q E h=>?_) (fun cdv A outer s H vs Q E hr h=>?_)
 ·obtain ⟨v,b,rfl,_⟩:=h
  rfl
 obtain ⟨v,b,rfl,h,qt,qf⟩:=h
 have nd:=nM.nd
 refine ⟨_,(aD (dW (PT.nox (PW.pt (jU (eV (dR (bC (fJ (T:="list")) rfl z_isinstance cN (aA (pv 0) (aA (jP (v:=.ty "list") rfl z_list mX rfl) aC))))) (jL (eV (BZ uY uY aF (bC cX rfl z_len jX (aA (pv 0) aC)) (iY (v:=.int 6) rfl g_MOST_BOXES r_MOST_BOXES))))))) (aJ (iI gH rfl rfl g_NoBox x_NoBox)) bY) (aJ (dW (PT.nox (eV (dR (bC (xN rfl rfl) rfl z_all Je (aA (cU (ls:=["box"]) (M:=["boxes"]) rfl (cA.of (by rfl)) (NL.of (by rfl)) (cT (pv 0)) (fun _ _ _ _=>⟨(aW (i:=0) (cV (by rfl)) rfl (Or.inl rfl)),cQ,(aL c_is_stand hr (aA (pv 0) aC))⟩)) aC)))) ) (aJ (iI gH rfl rfl g_NoBox x_NoBox)) bY))),?_⟩
 cases h with
 | no h =>
  obtain ⟨t,ht,hk⟩:=h K
  refine ⟨_,rfl,_,_,_,rfl,ht,hk,_,rfl,?_⟩
  exact iJ (iJ (qf rfl H (aN.refl _)))
 | @len a xs e hl =>
  refine ⟨_,rfl,_,_,_,rfl,.lst e,gD _,_,rfl,?_⟩
  refine fZ ?_
  refine ⟨_,rfl,a,_,rfl,.inl (bR.of e),_,_,rfl,rfl,_,rfl,?_⟩
  by_cases h1:1 <= xs.length
  ·refine wO (decide_eq_true (show (1:Int) <= _ by omega)) ?_
   refine ⟨_,_,rfl,rfl,_,rfl,?_⟩
   refine wO ?_ (qf rfl H (aN.refl _))
   rw [decide_eq_false (show ¬ (xs.length:Int) <= 6 by omega)]
   rfl
  ·refine wK (decide_eq_false (show ¬ (1:Int) <= _ by omega)) ?_
   refine ⟨_,rfl,?_⟩
   exact iJ (qf rfl H (aN.refl _))
 | @all a xs bs e h1 h8 hb h =>
  refine ⟨_,rfl,_,_,_,rfl,.lst e,gD _,_,rfl,?_⟩
  refine fZ ?_
  refine ⟨_,rfl,a,_,rfl,.inl (bR.of e),_,_,rfl,rfl,_,rfl,?_⟩
  refine wO (decide_eq_true (show (1:Int) <= _ by omega)) ?_
  refine ⟨_,_,rfl,rfl,_,rfl,?_⟩
  refine wK (by rw [decide_eq_true (show (xs.length:Int) <= 6 by omega)]; rfl) ?_
  refine ⟨_,rfl,a,rfl,⟨_,bR.of e⟩,fun D hD=>?_⟩
  refine cD (xs:=xs) (fun i τ H'=>∃ v0,τ = [v0,some (.ref a)] /\ aN H H' /\ H' D=some (.lst ((bs.take i).map V.bl))) ⟨none,rfl,aH hD _,aB⟩ ?keep ?turn ?done
  case keep =>
   rintro i τ H' hi ⟨v0,rfl,hs,_⟩
   exact bR.of (hs _ _ e)
  case turn =>
   rintro i m v τ H' hm hi hv ⟨v0,rfl,hs,hD'⟩
   have hib:i < bs.length:=by omega
   have eb:bs[i]? = some (bs.getD i false):=by rw [List.getElem?_eq_getElem hib,gJ hib]
   refine Dw ?_
   refine ⟨_,rfl,v,bs.getD i false,rfl,(h i v hv).kt (aN.kt hs),?_⟩
   refine bM hm hi hD' (by rw [List.length_map,List.length_take]; exact aX (by omega)) ⟨_,rfl,hs.upd_new hD _,?_⟩
   rw [aB,bG eb,List.map_append]
   rfl
  case done =>
   rintro τ H' ⟨v0,rfl,hs,hD'⟩
   rw [<- hb,List.take_length] at hD'
   refine ⟨D,bs,rfl,bR.of hD',_,rfl,?_⟩
   cases hbb:bs.all id with
   | true=>exact fZ (qt hbb H' hs)
   | false=>exact iJ (qf hbb H' hs)
theorem rK {n:Nat}{f:Addr}{fd:FuncData} (F:fH K "__init__" "End.__init__" (aG (top 32) 0) f fd) {c:Cs} (ck:CK K c) {cSt fStI:Addr}{fdStI:FuncData} (g_Stand:mg "Stand" = some (.ref cSt)) (mS_i:Mz K cSt "__init__" fStI) (G_StI:aV P w K mg base d7 n fStI fdStI ["self","end_count","stage_count","level","cap_rows"] (JZ c)) (b_StI:bI K fdStI ["self","end_count","stage_count","level","cap_rows"] []) {C_NoBox:Addr} (g_NoBox:mg "NoBox" = some (.ref C_NoBox)) (x_NoBox:rO K C_NoBox) {g_whole:Addr}{gd_whole:FuncData} (c_whole:fL P w K mg base n "whole" ["number"] Ms g_whole gd_whole) {g_is_whole:Addr}{gd_is_whole:FuncData} (c_is_whole:fL P w K mg base n "is_whole" ["thing","least","most"] qP g_is_whole gd_is_whole) {u_MOST_WORTH:Value} (g_MOST_WORTH:mg "MOST_WORTH" = some u_MOST_WORTH) (r_MOST_WORTH:bJ (.int 1000000000) u_MOST_WORTH):aV P w K mg base (nF P w) (n + 1) f fd ["self","worth"] (O7 c C_NoBox):=by
 refine F.okX lN (fun vs H Q E h=>?_) (fun cdv A outer s H vs Q E hr h=>?_)
 ·rcases h with ⟨x,dx,v,rfl,_⟩ | ⟨x,v,rfl,_⟩ <;> rfl
 have nd:=lN.nd
 refine ⟨_,(aD (dW (PT.nox (eV (dR (aL c_is_whole hr (aA (pv 1) (aA aF (aA (iY (v:=.int 1000000000) rfl g_MOST_WORTH r_MOST_WORTH) aC))))))) (aJ (iI gH rfl rfl g_NoBox x_NoBox)) bY) (rT.nox (aD (gY (Gp rfl g_Stand mS_i G_StI hr b_StI .nil eE (aA (pv 0) (aA aF (aA aF (aA (aL c_whole hr (aA (pv 1) aC)) (aA (iQ (aA (dF (aA (aL c_whole hr (aA (pv 1) aC)) (aA aF aC))) aC)) aC))))))) (aJ (fC (pv 0) (pv 1) rfl))))),?_⟩
 rcases h with ⟨x,dx,v,rfl,hx,h0,h9,q⟩ | ⟨x,v,rfl,h,q⟩
 rotate_left
 ·refine ⟨_,rfl,v,0,1000000000,false,rfl,h,?_⟩
  refine ⟨_,rfl,?_⟩
  exact iJ q
 refine ⟨_,rfl,.int v,0,1000000000,true,rfl,lL.yes h0 h9,?_⟩
 refine ⟨_,rfl,?_⟩
 refine fZ ?_
 refine ⟨_,rfl,_,rfl,v,rfl,fun l H1 s1 hl=>?_⟩
 refine ⟨_,rfl,v,rfl,fun p H2 s2 hp=>?_⟩
 refine ⟨qT,fun t ht=>?_⟩
 refine ⟨Yv,fun a ha=>?_⟩
 have n3:=aH ht (.tup [.ref p,.int 1])
 have n4:=aH ha (.lst [.ref t])
 have s4:=((s1.trans s2).trans n3).trans n4
 have hT:eZ (aY (aY H2 t (.tup [.ref p,.int 1])) a (.lst [.ref t])) a [⟨t,p,v,1,1⟩]:=⟨aB,fun y hy=>by rw [List.mem_singleton.mp hy]; exact ⟨n4 _ _ aB,(n3.trans n4) _ _ hp⟩⟩
 have hl4:=(s2.trans (n3.trans n4)) _ _ hl
 generalize aY (aY H2 t (.tup [.ref p,.int 1])) a (.lst [.ref t])=H4 at n4 s4 hT hl4 ⊢
 refine ⟨x,dx,c.e,l,a,1,0,_,rfl,.inl rfl,s4 _ _ hx,hT,fun cp H5 cn k5 hx5 hc5=>?_⟩
 refine ⟨_,rfl,_,rfl,x,c.e,dx,_,rfl,hx5,ck.ce,ck.e5,(by show 4 < 1000; decide),?_⟩
 have hx4:=s4 _ _ hx
 have hu:∀ b o,b ≠ x->H4 b=some o->aY H5 x (.ins c.e dx (fE 1 0 l cp v)) b=some o:=fun b o nb e=>by rw [aK nb]; exact k5 b o nb e
 have tu:∀ b xs,H4 b=some (.tup xs)->aY H5 x (.ins c.e dx (fE 1 0 l cp v)) b=some (.tup xs):=fun b xs e=>hu b _ (bO e hx4 fun z=>nomatch z) e
 refine q _ (fun b o nb e=>hu b o nb (s4 _ _ e)) fun d m hm=>?_
 refine .en (dx:=dx) (l:=l) (cp:=cp) (n:=1) (k:=0) (xs:=[⟨t,p,v,1,1⟩]) aB ⟨tu _ _ hl4,⟨?_,fun y hy=>?_⟩,QX h0 h9 hm,List.pairwise_singleton _ _,by decide,by omega,by decide,by omega,Sd.Yd v d,Ko h0 h9,rfl,rfl⟩ (.en h0 h9 hm)
 ·have:cp ≠ x:=fun e=>by rw [e,hx5] at hc5; cases hc5
  rw [aK this]
  exact hc5
 ·have:=hT.rows y hy
  exact ⟨tu _ _ this.1,tu _ _ this.2⟩
theorem Gs {H:Hp}{D:Addr}{e:iM}{zs:List V}{o:HO} (hD:H D=some (.lst zs)) (n:e.a ≠ D) (h:xV H e):xV (aY H D o) e:=by
 refine ⟨?_,?_,fun x hx=>⟨?_,?_⟩⟩
 ·rw [aK (bO h.1 hD fun z=>nomatch z)]; exact h.1
 ·rw [aK n]; exact h.2.lst
 ·rw [aK (bO (h.2.rows x hx).1 hD fun z=>nomatch z)]; exact (h.2.rows x hx).1
 ·rw [aK (bO (h.2.rows x hx).2 hD fun z=>nomatch z)]; exact (h.2.rows x hx).2
theorem Ph {ns:List Int} (h:∀ n ∈ ns,1 <= n /\ True):(ns.length:Int) <= ns.sum:=by
 induction ns with
 | nil=>simp
 | cons n ns ih =>
  have a:=(h n List.mem_cons_self).1
  have b:=ih fun m hm=>h m (List.mem_cons_of_mem _ hm)
  rw [List.sum_cons,List.length_cons]
  push_cast
  omega
theorem j4.good {c:Cs}{K:PySem.W.Frag}{H:Hp}{a:Addr}{ps ys:List Addr}{rs:List (Int × Sd.Sd)}{d:Nat}{j:Int × Sd.Sd->Nat} (g:Dr c H a ps ys rs d j):j4 c K H (.ref a) true:=by
 have hl:(ps.map V.ref).length=rs.length:=by rw [List.length_map]; exact g.R.lp
 have h:=j4.all (c:=c) (K:=K) (bs:=List.replicate rs.length true) g.ha (by rw [hl]; exact List.length_pos_iff.mpr g.ne) (by rw [hl]; exact g.l4) (by rw [List.length_replicate,hl]) fun i v hv=>by
  obtain ⟨q1,y,t,_,_,er,rfl,h1,st,mem⟩:=g.R.at_ hv
  have hi:=(List.getElem?_eq_some_iff.mp er).1
  have e:(List.replicate rs.length true).getD i false=true:=by simp [List.getD,hi]
  rw [e]
  exact z8.two h1 (lL.yes (g.ww t mem).1 (g.ww t mem).2) (.yes st)
 have e:(List.replicate rs.length true).all id=true:=by simp
 rw [e] at h
 exact h
theorem pC {n:Nat}{f:Addr}{fd:FuncData} (F:fH K "__init__" "Stage.__init__" (aG (top 33) 0) f fd) {c:Cs} (ck:CK K c) {cSt fStI:Addr}{fdStI:FuncData} (g_Stand:mg "Stand" = some (.ref cSt)) (mS_i:Mz K cSt "__init__" fStI) (G_StI:aV P w K mg base d7 n fStI fdStI ["self","end_count","stage_count","level","cap_rows"] (JZ c)) (b_StI:bI K fdStI ["self","end_count","stage_count","level","cap_rows"] []) (cfE:Dc K c.e) (cfS:Dc K c.s) {f_ends:Addr}{fd_ends:FuncData} (m_Ee:dM K c.e "ends" f_ends) (m_Se:dM K c.s "ends" f_ends) (G_ends:aV P w K mg base d7 n f_ends fd_ends ["self"] (Kh c)) (b_ends:bI K fd_ends ["self"] []) {f_stgs:Addr}{fd_stgs:FuncData} (m_Eg:dM K c.e "stages" f_stgs) (m_Sg:dM K c.s "stages" f_stgs) (G_stgs:aV P w K mg base d7 n f_stgs fd_stgs ["self"] (J9 c)) (b_stgs:bI K fd_stgs ["self"] []) {f_caps:Addr}{fd_caps:FuncData} (m_Ec:dM K c.e "caps" f_caps) (m_Sc:dM K c.s "caps" f_caps) (G_caps:aV P w K mg base d7 n f_caps fd_caps ["self"] (Kf c)) (b_caps:bI K fd_caps ["self"] []) {C_NoBox:Addr} (g_NoBox:mg "NoBox" = some (.ref C_NoBox)) (x_NoBox:rO K C_NoBox) {g_capped:Addr}{gd_capped:FuncData} (c_capped:fL P w K mg base n "capped" ["table","level"] (JC Pt iD) g_capped gd_capped) {g_level_for:Addr}{gd_level_for:FuncData} (c_level_for:fL P w K mg base n "level_for" ["table","price"] Oq g_level_for gd_level_for) {g_mixed:Addr}{gd_mixed:FuncData} (c_mixed:fL P w K mg base n "mixed" ["rows"] (Ku Pt iD) g_mixed gd_mixed) {g_is_stage_rows:Addr}{gd_is_stage_rows:FuncData} (c_is_stage_rows:fL P w K mg base n "is_stage_rows" ["rows"] (Cu c K) g_is_stage_rows gd_is_stage_rows) {g_is_whole:Addr}{gd_is_whole:FuncData} (c_is_whole:fL P w K mg base n "is_whole" ["thing","least","most"] qP g_is_whole gd_is_whole) (z_tuple:mg "tuple" = none) (z_max:mg "max" = none) (z_sum:mg "sum" = none) {u_MOST_STAGES:Value} (g_MOST_STAGES:mg "MOST_STAGES" = some u_MOST_STAGES) (r_MOST_STAGES:bJ (.int 4) u_MOST_STAGES) {u_MOST_ENDS:Value} (g_MOST_ENDS:mg "MOST_ENDS" = some u_MOST_ENDS) (r_MOST_ENDS:bJ (.int 12) u_MOST_ENDS) {u_MOST_PRICE:Value} (g_MOST_PRICE:mg "MOST_PRICE" = some u_MOST_PRICE) (r_MOST_PRICE:bJ (.int 1000000000) u_MOST_PRICE):aV P w K mg base (nF P w) (n + 1) f fd ["self","price","rows"] (Nt c K C_NoBox Pt iD):=by
 refine F.okX jT (fun vs H Q E h=>?_) (fun cdv A outer s H vs Q E hr h=>?_)
 ·rcases h with ⟨x,dx,a,p,ps,ys,rs,d,j,rfl,_⟩ | ⟨x,v,w,rfl,_⟩ <;> rfl
 have nd:=jT.nd
 refine ⟨_,(aD (dW (PT.nox (PW.pt (jU (eV (dR (aL c_is_whole hr (aA (pv 1) (aA aF (aA (iY (v:=.int 1000000000) rfl g_MOST_PRICE r_MOST_PRICE) aC)))))) (jL (eV (dR (aL c_is_stage_rows hr (aA (pv 2) aC)))))))) (aJ (iI gH rfl rfl g_NoBox x_NoBox)) bY) (aD (PS.nox (aP (i:=3) nd rfl (Or.inl rfl) (bC (kY rfl) rfl z_sum qQ (aA (cU (ls:=["weight","stand"]) (M:=["self","price","rows","end_count","stage_count","behind","level"]) rfl (cA.of (by rfl)) (NL.of (by rfl)) (cT (pv 2)) (fun _ _ _ _=>⟨(fX (K:=K) (n:=2) rfl rfl (bH (aW (i:=0) (cV (by rfl)) rfl (Or.inl rfl)) (bH (aW (i:=1) (cV (by rfl)) rfl (Or.inl rfl)) eG))),cQ,(jD (cY (pv 1) cfE m_Ee G_ends hr b_ends .nil eE) (cY (pv 1) cfS m_Se G_ends hr b_ends .nil eE))⟩)) aC)))) (aD (PS.nox (aP (i:=4) nd rfl (Or.inl rfl) (aR fQ aF (bC (xQ rfl) rfl z_max Kv (aA (cU (ls:=["weight","stand"]) (M:=["self","price","rows","end_count","stage_count","behind","level"]) rfl (cA.of (by rfl)) (NL.of (by rfl)) (cT (pv 2)) (fun _ _ _ _=>⟨(fX (K:=K) (n:=2) rfl rfl (bH (aW (i:=0) (cV (by rfl)) rfl (Or.inl rfl)) (bH (aW (i:=1) (cV (by rfl)) rfl (Or.inl rfl)) eG))),cQ,(jD (cY (pv 1) cfE m_Eg G_stgs hr b_stgs .nil eE) (cY (pv 1) cfS m_Sg G_stgs hr b_stgs .nil eE))⟩)) aC))))) (aD (dW (PT.nox (PW.pt (jU (bZ Ao (pv 3) (iY (v:=.int 12) rfl g_MOST_ENDS r_MOST_ENDS) (cI _)) (jL (bZ Ao (pv 4) (iY (v:=.int 4) rfl g_MOST_STAGES r_MOST_STAGES) (cI _)))))) (aJ (iI gH rfl rfl g_NoBox x_NoBox)) bY) (rT.nox (aD (aP (i:=5) nd rfl (Or.inl rfl) (aL c_mixed hr (aA (cU (ls:=["weight","stand"]) (M:=["self","price","rows","end_count","stage_count","behind","level"]) rfl (cA.of (by rfl)) (NL.of (by rfl)) (cT (pv 2)) (fun _ _ _ _=>⟨(fX (K:=K) (n:=2) rfl rfl (bH (aW (i:=0) (cV (by rfl)) rfl (Or.inl rfl)) (bH (aW (i:=1) (cV (by rfl)) rfl (Or.inl rfl)) eG))),cQ,(dF (aA (pv 0) (aA (jD (cY (pv 1) cfE m_Ec G_caps hr b_caps .nil eE) (cY (pv 1) cfS m_Sc G_caps hr b_caps .nil eE)) aC)))⟩)) aC))) (aD (aP (i:=6) nd rfl (Or.inl rfl) (aL c_level_for hr (aA (pv 5) (aA (pv 1) aC)))) (aD (gY (Gp rfl g_Stand mS_i G_StI hr b_StI .nil eE (aA (pv 0) (aA (pv 3) (aA (pv 4) (aA (pv 6) (aA (aL c_capped hr (aA (pv 5) (aA (pv 6) aC))) aC))))))) (aD (fC (pv 0) (pv 1) rfl) (aJ (fC (pv 0) (eY (eX (K:=K) rfl) rfl z_tuple iK (aA (pv 2) aC)) rfl))))))))))),?_⟩
 rcases h with ⟨x,dx,a,p,ps,ys,rs,d,j,rfl,hx,g0,p0,p9,hq⟩ | ⟨x,v,u,rfl,h,q⟩
 rotate_left
 ·rcases h with h | ⟨h,h2⟩
  ·refine ⟨_,rfl,v,0,1000000000,false,rfl,h,?_⟩
   refine ⟨_,rfl,?_⟩
   exact iJ (iJ (q H (aN.refl _)))
  ·refine ⟨_,rfl,v,0,1000000000,true,rfl,h,?_⟩
   refine ⟨_,rfl,?_⟩
   refine fZ ?_
   refine ⟨_,rfl,u,false,rfl,h2,fun H1 s1=>?_⟩
   refine ⟨_,rfl,?_⟩
   exact iJ (q H1 s1)
 have ha:=g0.ha
 have R:=g0.R
 have ne:=g0.ne
 have l4:=g0.l4
 have ww:=g0.ww
 have hl:(ps.map V.ref).length=rs.length:=by rw [List.length_map]; exact R.lp
 have n1:1 <= rs.length:=List.length_pos_iff.mpr ne
 refine ⟨_,rfl,.int p,0,1000000000,true,rfl,lL.yes p0 p9,?_⟩
 refine ⟨_,rfl,?_⟩
 refine fZ ?_
 refine ⟨_,rfl,.ref a,true,rfl,j4.good g0,fun H1 s1=>?_⟩
 refine ⟨_,rfl,?_⟩
 refine fZ ?_
 have R1:=R.kp (aN.kp s1)
 have ha1:=s1 _ _ ha
 refine ⟨_,rfl,a,rfl,⟨_,bR.of ha1⟩,fun D hD=>?_⟩
 refine cD (xs:=ps.map V.ref) (fun i τ H'=>∃ v0 v1 cs,τ = [v0,v1,some (.ref x),some (.int p),some (.ref a),none,none,none,none] /\ aN H1 H' /\ H' D=some (.lst (Is cs)) /\ cs=(rs.take i).map (fun t=>Sd.nE (d + 1) t.2) /\ ∀ n ∈ cs,1 <= n /\ True) ⟨none,none,[],rfl,aH hD _,aB,rfl,fun _ h=>nomatch h⟩ ?keepA ?turnA ?doneA
 case keepA =>
  rintro i τ H' hi ⟨v0,v1,cs,rfl,hs,_⟩
  exact bR.of (hs _ _ ha1)
 case turnA =>
  rintro i mm v τ H' hm hi hv ⟨v0,v1,cs,rfl,hs,hD',nl,hn⟩
  obtain ⟨q1,y,t,_,_,er,rfl,h1,st,mem⟩:=R1.at_ hv
  refine ⟨q1,_,rfl,bQ.of (hs _ _ h1),rfl,_,_,rfl,_,_,rfl,rfl,?_⟩
  refine eO ?_
  refine JM (st.same hs) (fun _ _ _ _ _=>rfl) (fun _ _ _ _ _ _=>rfl) (fun R h=>⟨_,rfl,h⟩) ?_
  refine ⟨y,t.2,d,_,rfl,st.same hs,fun n n1 n2 n3=>?_⟩
  refine bM hm hi hD' (by rw [xR,nl,List.length_map]; exact aX (Nat.le_trans (List.length_take_le _ _) (by rw [hl] at hi; omega))) ⟨_,_,cs ++ [n],rfl,hs.upd_new hD _,by rw [aB,Gk],by rw [nl,bG er,List.map_append,n3]; rfl,fun z hz=>?_⟩
  rcases List.mem_append.mp hz with u | u
  ·exact hn z u
  ·rw [List.mem_singleton.mp u]
   exact ⟨n1,trivial⟩
 case doneA =>
 rintro τ H2 ⟨v0,v1,ns,rfl,s2,hD2,nl,hn⟩
 have nx0:=nl
 rw [hl,List.take_length] at nx0
 have nl:ns.length=rs.length:=by rw [nx0,List.length_map]
 have sn:=Ph hn
 refine ⟨D,ns,rfl,bR.of hD2,?_⟩
 have R2:=R1.kp (aN.kp s2)
 have ha2:=s2 _ _ ha1
 refine ⟨_,rfl,a,rfl,⟨_,bR.of ha2⟩,fun D2 hD2=>?_⟩
 refine cD (xs:=ps.map V.ref) (fun i τ H'=>∃ v0 v1 cs,τ = [v0,v1,some (.ref x),some (.int p),some (.ref a),some (.int ns.sum),none,none,none] /\ aN H2 H' /\ H' D2=some (.lst (Is cs)) /\ cs=(rs.take i).map (fun t=>Sd.nS (d + 1) t.2) /\ ∀ n ∈ cs,0 <= n /\ n <= (d:Int)) ⟨none,none,[],rfl,aH hD2 _,aB,rfl,fun _ h=>nomatch h⟩ ?keepB ?turnB ?doneB
 case keepB =>
  rintro i τ H' hi ⟨v0,v1,cs,rfl,hs,_⟩
  exact bR.of (hs _ _ ha2)
 case turnB =>
  rintro i mm v τ H' hm hi hv ⟨v0,v1,cs,rfl,hs,hD',nl,hn⟩
  obtain ⟨q1,y,t,_,_,er,rfl,h1,st,mem⟩:=R2.at_ hv
  refine ⟨q1,_,rfl,bQ.of (hs _ _ h1),rfl,_,_,rfl,_,_,rfl,rfl,?_⟩
  refine eO ?_
  refine JM (st.same hs) (fun _ _ _ _ _=>rfl) (fun _ _ _ _ _ _=>rfl) (fun R h=>⟨_,rfl,h⟩) ?_
  refine ⟨y,t.2,d,_,rfl,st.same hs,fun n n1 n2 n3=>?_⟩
  refine bM hm hi hD' (by rw [xR,nl,List.length_map]; exact aX (Nat.le_trans (List.length_take_le _ _) (by rw [hl] at hi; omega))) ⟨_,_,cs ++ [n],rfl,hs.upd_new hD2 _,by rw [aB,Gk],by rw [nl,bG er,List.map_append,n3]; rfl,fun z hz=>?_⟩
  rcases List.mem_append.mp hz with u | u
  ·exact hn z u
  ·rw [List.mem_singleton.mp u]
   exact ⟨n1,n2⟩
 case doneB =>
 rintro τ H3 ⟨v0,v1,ms,rfl,s3,hD3,ml,hms⟩
 have kx0:=ml
 rw [hl,List.take_length] at kx0
 have ml:ms.length=rs.length:=by rw [kx0,List.length_map]
 refine ⟨D2,ms,rfl,bR.of hD3,fun e=>by rw [e] at ml; have:(0:Nat)=rs.length:=ml; omega,fun mx hmx hmax=>?_⟩
 have kx1:1 + mx=Sd.nS (d + 1 + 1) (.st p rs):=by rw [Sd.Qw (fun x hx=>(hms x hx).1) hmx hmax,kx0]; rfl
 have nx1:ns.sum=Sd.nE (d + 1 + 1) (.st p rs):=by rw [nx0]; rfl
 have mb:=hms mx hmx
 refine ⟨_,_,rfl,rfl,?_⟩
 refine ⟨_,rfl,_,_,rfl,rfl,_,rfl,?_⟩
 rcases hq with ⟨big,qE⟩ | ⟨m,hm,m12,d4,hTb,q⟩
 ·have vD:=(s1.trans s2).trans s3
  by_cases h12:(12:Int) < ns.sum
  ·refine wO (decide_eq_true h12) ?_
   refine iJ ?_
   exact qE _ vD
  ·refine wK (decide_eq_false h12) ?_
   refine ⟨_,rfl,_,_,rfl,rfl,_,rfl,?_⟩
   refine wO (decide_eq_true (show (4:Int) < 1 + mx by omega)) ?_
   exact qE _ vD
 have okS:Sd.Ok (.st p rs) (d + 1) m:=.st p0 p9 ne l4 ww (fun r hr=>by obtain ⟨i,y,a,b⟩:=JQ R.ly hr; exact (R.sub i y r a b).ok) hm
 have jl:ns.sum <= (m:Int):=by have:=okS.nE (d + 1 + 1) (Nat.lt_succ_self _); rw [nx0]; exact this
 refine wK (decide_eq_false (by omega)) ?_
 refine ⟨_,rfl,_,_,rfl,rfl,_,rfl,?_⟩
 refine wK (decide_eq_false (by omega)) ?_
 have vD:=(s1.trans s2).trans s3
 have R3:=R2.kp (aN.kp s3)
 have ha3:=s3 _ _ ha2
 refine ⟨_,rfl,a,rfl,⟨_,bR.of ha3⟩,fun D3 hD3n=>?_⟩
 refine cD (xs:=ps.map V.ref) (fun i τ H'=>∃ v0 v1 es,τ = [v0,v1,some (.ref x),some (.int p),some (.ref a),some (.int ns.sum),some (.int (1 + mx)),none,none] /\ aN H3 H' /\ uK H' D3 es /\ Sd.Al d es (rs.take i) /\ Ae d j es (rs.take i) /\ es.length=i /\ ∀ e ∈ es,e.a ≠ D3 /\ (1 <= e.w /\ e.w <= 1000)) ⟨none,none,[],rfl,aH hD3n _,⟨aB,fun _ h=>nomatch h⟩,.nil,.nil,rfl,fun _ h=>nomatch h⟩ ?keepC ?turnC ?doneC
 case keepC =>
  rintro i τ H' hi ⟨v0,v1,es,rfl,hs,_⟩
  exact bR.of (hs _ _ ha3)
 case turnC =>
  rintro i mm v τ H' hm' hi hv ⟨v0,v1,es,rfl,hs,hE,al,ae,el,he⟩
  obtain ⟨q1,y,t,_,_,er,rfl,h1,st,mem⟩:=R3.at_ hv
  refine ⟨q1,_,rfl,bQ.of (hs _ _ h1),rfl,_,_,rfl,_,_,rfl,rfl,?_⟩
  refine eO ?_
  refine ⟨_,rfl,?_⟩
  refine JM (st.same hs) (fun _ _ _ _ _=>rfl) (fun _ _ _ _ _ _=>rfl) (fun R h=>⟨_,rfl,h⟩) ?_
  refine ⟨y,t.2,d,_,rfl,st.same hs,fun r H4 xs s4 hr4 hT4 gs so ⟨lv4,mt4,_⟩=>?_⟩
  refine ⟨qT,fun T hT=>?_⟩
  have n5:=aH hT (.tup [.int t.1,.ref r])
  have hE5:=(hE.same s4).same n5
  have nr:r ≠ D3:=fun e=>by rw [e,hE.lst] at hr4; cases hr4
  refine bM hm' hi hE5.lst (by rw [oX]; exact aX (by rw [hl] at hi; omega)) ⟨_,_,es ++ [⟨T,t.1,r,xs⟩],rfl,((hs.trans s4).trans n5).upd_new hD3n _,⟨by rw [aB,Ef],fun e h=>?_⟩,by rw [bG er]; exact al.snoc rfl ⟨lv4,mt4⟩,by rw [bG er]; exact ae.snoc gs,by rw [List.length_append,el]; rfl,fun e h=>?_⟩
  ·rcases List.mem_append.mp h with u | u
   ·exact Gs hE5.lst (he e u).1 (hE5.ents e u)
   ·rw [List.mem_singleton.mp u]
    exact Gs hE5.lst nr ⟨aB,hT4.same n5⟩
  ·rcases List.mem_append.mp h with u | u
   ·exact he e u
   ·rw [List.mem_singleton.mp u]
    exact ⟨nr,ww t mem⟩
 case doneC =>
 rintro τ H4 ⟨v0,v1,es,rfl,s4,hE,al,ae,el,he⟩
 rw [hl,List.take_length] at al ae
 rw [hl] at el
 have ene:es ≠ []:=fun e=>by rw [e] at el; have:(0:Nat)=rs.length:=el; omega
 have gall:=ae.all fun t ht=>Nat.le_trans (Sd.M5 hm t ht) m12
 have gm0:=W7 (show d <= 4 by omega) ene (by omega) (fun e h=>(he e h).2) gall
 have m1:1 <= m:=okS.m1
 have tb4:fG Pt iD lK H4:=hTb.same (vD.trans s4)
 refine ⟨D3,es,12,wB d 12,kK d,rfl,hE,gm0,tb4,fun B H5 xs s5 tb5 _ hB5 g5 o5 l5=>?_⟩
 have Mx1:=Vx ae.b hm m1 (Nat.le_trans l5 (ae.b.p _)) g5
 refine ⟨_,rfl,_,rfl,B,xs,p,m,_,kK d,rfl,hB5,Mx1.g,Mx1.cp d4 m12,o5.tab.lt,p0,p9,fun lv H6 l u s6 hl6 u1 u2 f hLv=>?_⟩
 have Lx1:=TQ Mx1 d4 m12 p0 p9 u1 u2 f
 have tb6:=tb5.same s6
 refine ⟨_,rfl,_,rfl,_,rfl,_,rfl,_,rfl,_,rfl,B,lv,xs,l,m,_,_,_,rfl,hB5.same s6,Lx1.g,Lx1.c,hl6,Lx1.f,tb6,fun cr H7 zs s7 tb7 _ hZ g7 o7=>?_⟩
 have sT:cH Pt H H7:=((((vD.trans s4).toT).trans s5).trans s6.toT).trans s7
 have hx7:H7 x=some (.ins c.s dx []):=sT.get hTb hx fun _ z=>nomatch z
 have ha7:H7 a=some (.lst (ps.map V.ref)):=sT.get hTb ha fun _ z=>nomatch z
 have hl7:H7 lv=some (.tup [.int l.1,.int l.2]):=s7.get tb6 hl6 fun _ z=>nomatch z
 have nax:a ≠ x:=bO ha7 hx7 fun z=>nomatch z
 refine ⟨x,dx,c.s,lv,cr,ns.sum,1 + mx,zs,rfl,.inr rfl,hx7,hZ,fun cp H8 cn k8 hx8 hc8=>?_⟩
 have ncx:cp ≠ x:=fun e=>by rw [e,hx8] at hc8; cases hc8
 refine ⟨_,rfl,_,rfl,x,c.s,dx,_,rfl,hx8,ck.cs,ck.s5,(by show 4 < 1000; decide),?_⟩
 refine ⟨_,rfl,a,_,rfl,.inl ⟨bR.of (by rw [aK nax]; exact k8 _ _ nax ha7),fun r hr0=>?_⟩⟩
 have nrx:r ≠ x:=fun e=>by rw [e,aB] at hr0; cases hr0
 refine ⟨_,rfl,x,c.s,dx,_,rfl,by rw [aK (Ne.symm nrx)]; exact aB,ck.cs,ck.s6,(by show 5 < 1000; decide),?_⟩
 rw [aK nrx] at hr0
 have kx:∀ b o,b ≠ x->H8 b=some o->aY (aY (aY H8 x (.ins c.s dx (b8 "price" (.int p) (fB ns.sum (1 + mx) lv cp)))) r (.tup (ps.map V.ref))) x (.ins c.s dx (fS ns.sum (1 + mx) lv cp p r)) b=some o:=fun b o nb e=>by
  rw [aK nb,aK (aU e hr0),aK nb]
  exact e
 have hr9:aY (aY (aY H8 x (.ins c.s dx (b8 "price" (.int p) (fB ns.sum (1 + mx) lv cp)))) r (.tup (ps.map V.ref))) x (.ins c.s dx (fS ns.sum (1 + mx) lv cp p r)) r=some (.tup (ps.map V.ref)):=by rw [aK nrx]; exact aB
 have hx9:aY (aY (aY H8 x (.ins c.s dx (b8 "price" (.int p) (fB ns.sum (1 + mx) lv cp)))) r (.tup (ps.map V.ref))) x (.ins c.s dx (fS ns.sum (1 + mx) lv cp p r)) x=some (.ins c.s dx (fS ns.sum (1 + mx) lv cp p r)):=aB
 show Q .non (aY (aY (aY H8 x (.ins c.s dx (b8 "price" (.int p) (fB ns.sum (1 + mx) lv cp)))) r (.tup (ps.map V.ref))) x (.ins c.s dx (fS ns.sum (1 + mx) lv cp p r)))
 generalize aY (aY (aY H8 x (.ins c.s dx (b8 "price" (.int p) (fB ns.sum (1 + mx) lv cp)))) r (.tup (ps.map V.ref))) x (.ins c.s dx (fS ns.sum (1 + mx) lv cp p r))=HF at kx hr9 hx9 ⊢
 have sX:DX x H7 HF:=fun b o nb e=>kx b o nb (k8 b o nb e)
 have kF:Kp H7 HF:=sX.kp hx7
 have RF:=R.kp ((cH.kp sT hTb).trans kF)
 refine q HF (fun b o nb nP e=>sX b o nb (sT b o nP e)) (fG.sameX tb7 sX hx7) ?_
 exact .st hx9 ⟨kF.tup hl7,⟨kx _ _ ncx hc8,fun y hy=>(hZ.rows y hy).kp kF⟩,Tv Lx1 g7,o7.tab.lt,by omega,by omega,by omega,by omega,Yk al gm0 (by have:=(Sd.Ks ne ww l4).1; omega) o5 Mx1.g Lx1.f.fr.pos hLv o7,Tz Lx1 d4 m12,nx1,kx1⟩ hr9 RF.lp RF.ly RF.row RF.sub p0 p9 ne l4 ww hm
end
end K24
namespace L2
open PySem PySem.Spec PyProof.Rows
section
variable {X:Cx}
end
end L2
namespace L2
open PySem PySem.Spec PyProof.Rows
section
variable {prog:Program}{w:World}{A:Around}{E:Value->Shared->Prop}{s:Shared}{a₀ : Array PyProof.Rows.Keyed}
end
section
variable {X:Cx}
end
end L2
namespace L2
open PySem PySem.Spec PyProof.Rows
section
variable {X:Cx}
end
end L2
namespace L2
open PySem PySem.Spec PyProof.Rows
end L2
namespace L2
open PySem PySem.Spec PyProof.Rows
section
variable {X:Cx}{K:PySem.W.Frag}{o e:Expr}{es:List Expr}{ta to:TE}{t:TA}{f name:Str}{pos apos cpos:Pos}{T id:String}{r:V->List V->Hp->VK->Prop}
end
end L2
namespace K24
open PySem L2 TD
open Builtin.Int (intBits)
section
variable {P:Program}{w:World}{K:PySem.W.Frag}{mg:Str->Option Value}{base:Heap}{Pt:Addr}
theorem qD {n:Nat}{f:Addr}{fd:FuncData} (F:fH K "how_many" "Case.how_many" (aG (top 40) 1) f fd) {c:Cs}{cC:Addr} (ca:Df K c cC) (z_len:mg "len" = none):aV P w K mg base d7 (n + 1) f fd ["self"] (Qs c cC):=by
 refine F.ok kI (fun vs H Q E h=>?_) (fun cdv A outer s H vs Q E hr h=>?_)
 ·obtain ⟨x,q,rfl,_⟩:=h
  rfl
 obtain ⟨x,q,rfl,h,k⟩:=h
 have nd:=kI.nd
 refine ⟨_,(aJ (aQ (bC cX rfl z_len jX (aA (dO (pv 0) rfl) aC)))),?_⟩
 refine ⟨_,rfl,x,cC,_,_,_,rfl,h.hx,ca.cl,ca.np,rfl,q.tp,_,rfl,.inr (bQ.of h.hp),?_⟩
 rw [List.length_map]
 exact k
theorem p7 {n:Nat}{f:Addr}{fd:FuncData} (F:fH K "need_box" "Case.need_box" (aG (top 40) 2) f fd) {c:Cs}{cC:Addr} (ca:Df K c cC) {C_NoDeed:Addr} (g_NoDeed:mg "NoDeed" = some (.ref C_NoDeed)) (x_NoDeed:rO K C_NoDeed) {f_hm:Addr}{fd_hm:FuncData} (m_hm:dM K cC "how_many" f_hm) (G_hm:aV P w K mg base d7 n f_hm fd_hm ["self"] (Qs c cC)) (b_hm:bI K fd_hm ["self"] []) {g_is_whole:Addr}{gd_is_whole:FuncData} (c_is_whole:fL P w K mg base n "is_whole" ["thing","least","most"] qP g_is_whole gd_is_whole):aV P w K mg base (nF P w) (n + 1) f fd ["self","box"] (Ov c cC C_NoDeed):=by
 refine F.okX j6 (fun vs H Q E h=>?_) (fun cdv A outer s H vs Q E hr h=>?_)
 ·obtain ⟨x,v,q,b,rfl,_⟩:=h
  rfl
 have nd:=j6.nd
 refine ⟨_,(aJ (dW (PT.nox (eV (dR (aL c_is_whole hr (aA (pv 1) (aA aF (aA (aR oV (cY (pv 0) ca.cl m_hm G_hm hr b_hm .nil eE) aF) aC))))))) (aJ (iI gH rfl rfl g_NoDeed x_NoDeed)) bY)),?_⟩
 obtain ⟨x,v,q,b,rfl,h,iw,qt,qf⟩:=h
 refine ⟨_,rfl,_,rfl,x,_,_,rfl,h.hx,rfl,x,q,rfl,h,_,_,rfl,rfl,v,0,(q.ys.length:Int) - 1,b,rfl,iw,?_⟩
 refine ⟨_,rfl,?_⟩
 cases b with
 | true=>exact fZ (qt rfl)
 | false=>exact iJ (qf rfl)
theorem wH {n:Nat}{f:Addr}{fd:FuncData} (F:fH K "stand" "Case.stand" (aG (top 40) 3) f fd) {c:Cs}{cC:Addr} (ca:Df K c cC) {C_NoDeed:Addr}{f_nb:Addr}{fd_nb:FuncData} (m_nb:dM K cC "need_box" f_nb) (G_nb:aV P w K mg base (nF P w) n f_nb fd_nb ["self","box"] (Ov c cC C_NoDeed)) (b_nb:bI K fd_nb ["self","box"] []):aV P w K mg base (nF P w) (n + 1) f fd ["self","box"] (Fi c cC C_NoDeed):=by
 refine F.okX oH (fun vs H Q E h=>?_) (fun cdv A outer s H vs Q E hr h=>?_)
 ·obtain ⟨x,v,q,b,rfl,_⟩:=h
  rfl
 have nd:=oH.nd
 refine ⟨_,(aD (gY (cZ (pv 0) ca.cl m_nb G_nb hr b_nb .nil gU (aA (pv 1) aC))) (aJ (aQ (bA bB (dO (pv 0) rfl) (pv 1) (fun _ _=>rfl))))),?_⟩
 obtain ⟨x,v,q,b,rfl,h,iw,qt,qf⟩:=h
 refine ⟨_,rfl,x,_,_,rfl,h.hx,rfl,_,rfl,x,v,q,b,rfl,h,iw,fun hb=>?_,fun hb=>qf hb⟩
 subst hb
 obtain ⟨i,rfl,i0,i9⟩:=iw.inv
 obtain ⟨j,rfl⟩ : ∃ j:Nat,i=(j:Int):=⟨i.toNat,by omega⟩
 have n1:=h.n1
 have el:=h.el
 have hj:j < q.ys.length:=by omega
 refine ⟨_,rfl,x,cC,_,_,_,rfl,h.hx,ca.cl,ca.np,rfl,_,rfl,q.tp,_,_,_,rfl,rfl,bQ.of h.hp,fU (by rw [List.getElem?_map,List.getElem?_eq_getElem hj]; rfl),qt j _ rfl (List.getElem?_eq_getElem hj)⟩
theorem Cv {n:Nat}{f:Addr}{fd:FuncData} (F:fH K "cap" "Case.cap" (aG (top 40) 4) f fd) {c:Cs}{cC:Addr} (ca:Df K c cC) {C_NoDeed:Addr}{f_nb:Addr}{fd_nb:FuncData} (m_nb:dM K cC "need_box" f_nb) (G_nb:aV P w K mg base (nF P w) n f_nb fd_nb ["self","box"] (Ov c cC C_NoDeed)) (b_nb:bI K fd_nb ["self","box"] []):aV P w K mg base (nF P w) (n + 1) f fd ["self","box"] (zE c cC C_NoDeed):=by
 refine F.okX rD (fun vs H Q E h=>?_) (fun cdv A outer s H vs Q E hr h=>?_)
 ·obtain ⟨x,v,q,b,rfl,_⟩:=h
  rfl
 have nd:=rD.nd
 refine ⟨_,(aD (gY (cZ (pv 0) ca.cl m_nb G_nb hr b_nb .nil gU (aA (pv 1) aC))) (aJ (aQ (bA bB (dO (pv 0) rfl) (pv 1) (fun _ _=>rfl))))),?_⟩
 obtain ⟨x,v,q,b,rfl,h,iw,qt,qf⟩:=h
 refine ⟨_,rfl,x,_,_,rfl,h.hx,rfl,_,rfl,x,v,q,b,rfl,h,iw,fun hb=>?_,fun hb=>qf hb⟩
 subst hb
 obtain ⟨i,rfl,i0,i9⟩:=iw.inv
 obtain ⟨j,rfl⟩ : ∃ j:Nat,i=(j:Int):=⟨i.toNat,by omega⟩
 have n1:=h.n1
 have el:=h.el
 have hj:j < q.ys.length:=by omega
 refine ⟨_,rfl,x,cC,_,_,_,rfl,h.hx,ca.cl,ca.nl,rfl,_,rfl,q.tl,_,_,_,rfl,rfl,bQ.of h.hl,fU (List.getElem?_eq_getElem (show j < q.ls.length by omega)),qt j _ rfl (List.getElem?_eq_getElem (show j < q.ls.length by omega))⟩
theorem Ai (x:Int) {m:Int} (h:0 < m):0 <= x % m /\ x % m < m:=⟨Int.emod_nonneg x (Int.ne_of_gt h),Int.emod_lt_of_pos x h⟩
theorem rY {n:Nat}{f:Addr}{fd:FuncData} (F:fH K "_law_cell_at" "_law_cell_at" (top 42) f fd) (z_len:mg "len" = none):aV P w K mg base d7 (n + 1) f fd ["_law_script","_law_k"] (GZ K):=by
 refine F.ok lX (fun vs H Q E h=>?_) (fun cdv A outer s H vs Q E hr h=>?_)
 ·obtain ⟨a,ns,i,rfl,_⟩:=h
  rfl
 obtain ⟨a,ns,i,rfl,hS,i0,q⟩:=h
 have nd:=lX.nd
 refine ⟨_,(aD (dW (bZ tW (pv 1) (bC cX rfl z_len jX (aA (pv 0) aC)) (cI _)) (aJ (aQ (bA eN (pv 0) (pv 1) (fun _ _=>rfl)))) bY) (aJ (aQ aF))),?_⟩
 have hl:(ns.map V.int).length=ns.length:=List.length_map _
 refine ⟨_,rfl,_,rfl,a,_,rfl,.inl hS,_,_,rfl,rfl,_,rfl,?_⟩
 refine uR (fun c=>?_) (fun c=>?_)
 ·have c':i < (((ns.map V.int).length:Nat):Int):=of_decide_eq_true c
  rw [hl] at c'
  exact ⟨_,rfl,_,rfl,a,_,_,_,rfl,rfl,hS,JX i0 c',q _⟩
 ·exact q _
theorem wF {n:Nat}{f:Addr}{fd:FuncData} (F:fH K "_law_mixed" "_law_mixed" (top 43) f fd):aV P w K mg base d7 (n + 1) f fd ["_law_cell","_law_k"] O6:=by
 refine F.ok nJ (fun vs H Q E h=>?_) (fun cdv A outer s H vs Q E hr h=>?_)
 ·obtain ⟨c,i,rfl,_⟩:=h
  rfl
 obtain ⟨c,i,rfl,i0,i9,q⟩:=h
 have nd:=nJ.nd
 refine ⟨_,(aD (aP (i:=2) nd rfl (Or.inl rfl) (aR gR (aR fQ (aR fQ (aR bT (aR gR (pv 0) aF) aF) (aR Pk aF (pv 1))) aF) aF)) (aD (aP (i:=2) nd rfl (Or.inl rfl) (aR fQ (aR gR (aR bT (aR gR (aR bT (pv 2) (pv 2)) aF) aF) aF) (pv 1))) (aJ (aQ (aR gR (aR bT (pv 2) (pv 2)) aF))))),?_⟩
 have b1:∀ x:Int,0 <= x->x < 2147583648->intBits x <= 64:=fun x h1 h2=>PySem.intBits_le_64 (by omega) (by omega)
 have m1:=Ai c (show (0:Int) < 2147483647 by decide)
 refine ⟨_,rfl,_,_,rfl,rfl,(by show (0:Int) < 2147483647; decide),_,_,rfl,rfl,dX (b1 _ m1.1 (by omega)) (b1 48271 (by decide) (by decide)) (by decide),_,rfl,_,_,rfl,rfl,.inl ⟨by decide,by decide⟩,_,_,rfl,rfl,_,_,rfl,rfl,_,_,rfl,rfl,(by show (0:Int) < 2147483647; decide),?_⟩
 have n1:=Ai (c % 2147483647 * 48271 + 7919 * i + 1) (show (0:Int) < 2147483647 by decide)
 have nb:=b1 _ n1.1 (Int.lt_trans n1.2 (by decide))
 have n2:=Ai ((c % 2147483647 * 48271 + 7919 * i + 1) % 2147483647 * ((c % 2147483647 * 48271 + 7919 * i + 1) % 2147483647)) (show (0:Int) < 2147483629 by decide)
 have n2b:=b1 _ n2.1 (Int.lt_trans n2.2 (by decide))
 refine ⟨_,rfl,_,rfl,_,_,rfl,rfl,dX nb nb (by decide),_,_,rfl,rfl,(by show (0:Int) < 2147483629; decide),_,_,rfl,rfl,dX n2b (b1 69621 (by decide) (by decide)) (by decide),_,_,rfl,rfl,(by show (0:Int) < 2147483579; decide),_,rfl,_,_,rfl,rfl,?_⟩
 have n3:=Ai ((c % 2147483647 * 48271 + 7919 * i + 1) % 2147483647 * ((c % 2147483647 * 48271 + 7919 * i + 1) % 2147483647) % 2147483629 * 69621) (show (0:Int) < 2147483579 by decide)
 have kb:=b1 ((c % 2147483647 * 48271 + 7919 * i + 1) % 2147483647 * ((c % 2147483647 * 48271 + 7919 * i + 1) % 2147483647) % 2147483629 * 69621 % 2147483579 + i) (by omega) (by omega)
 refine ⟨_,rfl,_,rfl,_,_,rfl,rfl,dX kb kb (by decide),_,_,rfl,rfl,(by show (0:Int) < 2147483587; decide),?_⟩
 exact q _ (Int.emod_nonneg _ (by decide)) (Int.emod_lt_of_pos _ (by decide))
theorem wJ {n:Nat}{f:Addr}{fd:FuncData} (F:fH K "with_thing" "with_thing" (top 39) f fd):aV P w K mg base d7 (n + 1) f fd ["things","place","thing"] (Qg K):=by
 refine F.ok oE (fun vs H Q E h=>?_) (fun cdv A outer s H vs Q E hr h=>?_)
 ·obtain ⟨a,xs,i,v,rfl,_⟩:=h
  rfl
 obtain ⟨a,xs,i,v,rfl,ha,hi,h9,k⟩:=h
 have nd:=oE.nd
 refine ⟨_,(aJ (aQ (aR zY (aR zY (vB Jl (pv 0) Ge (tK (pv 1))) (dF (aA (pv 2) aC))) (vB Jl (pv 0) (tK (aR fQ (pv 1) aF)) Ge)))),?_⟩
 refine ⟨_,rfl,_,rfl,_,rfl,a,_,rfl,bQ.of ha,(fun ⟨_,z⟩=>by rw [HT.o6] at z; omega),fun p hp=>?_⟩
 have m1:=aH hp (.tup (iV xs none (some (i:Int))))
 have e1:aY H p (.tup (iV xs none (some (i:Int)))) p=some (.tup (xs.take i)):=by rw [aB,Ik _ _ (by omega)]
 generalize aY H p (.tup (iV xs none (some (i:Int))))=H1 at m1 e1 ⊢
 refine ⟨_,rfl,Yv,fun t ht=>?_⟩
 have m2:=aH ht (.tup [v])
 refine ⟨p,t,_,_,rfl,rfl,bQ.of (m2 _ _ e1),bQ.of aB,VR (by rw [List.length_take]; show _ + 1 <= 1000; omega),?g0,(fun z=>nomatch z),?g2⟩
 case g0 =>
  intro z
  have sR:=m1.trans m2
  have eR:aY H1 t (.tup [v]) t=some (.tup (xs.take i ++ [v])):=by rw [aB,z]; rfl
  generalize aY H1 t (.tup [v])=H3 at sR eR ⊢
  generalize t=r at eR ⊢
  refine ⟨_,rfl,_,rfl,_,_,rfl,rfl,_,rfl,a,_,rfl,bQ.of (sR _ _ ha),(fun ⟨z,_⟩=>by rw [show ((i:Int) + 1)=((i + 1:Nat):Int) by push_cast; rfl,HT.o6] at z; omega),fun p2 hp2=>?_⟩
  have m2:=aH hp2 (.tup (iV xs (some ((i:Int) + 1)) none))
  have e2:aY H3 p2 (.tup (iV xs (some ((i:Int) + 1)) none)) p2=some (.tup (xs.drop (i + 1))):=by rw [aB,show ((i:Int) + 1)=((i + 1:Nat):Int) by push_cast; rfl,Bw _ _ (by omega)]
  generalize aY H3 p2 (.tup (iV xs (some ((i:Int) + 1)) none))=H4 at m2 e2 ⊢
  refine ⟨r,p2,_,_,rfl,rfl,bQ.of (m2 _ _ eR),bQ.of e2,VR (by rw [List.length_append,List.length_take,List.length_drop]; show _ + 1 + _ <= 1000; omega),(fun z=>by simp at z),fun z=>?_,fun t2 ht2=>?_⟩
  ·refine k r H4 (sR.trans m2) ?_
   rw [m2 _ _ eR,<- uD hi,z,List.append_nil]
  ·refine k t2 _ ((sR.trans m2).trans (aH ht2 _)) ?_
   rw [aB,uD hi]
 case g2 =>
  intro r hr0
  have sR:=(m1.trans m2).trans (aH hr0 (.tup (xs.take i ++ [v])))
  have eR:aY (aY H1 t (.tup [v])) r (.tup (xs.take i ++ [v])) r=some (.tup (xs.take i ++ [v])):=aB
  generalize aY (aY H1 t (.tup [v])) r (.tup (xs.take i ++ [v]))=H3 at sR eR ⊢
  refine ⟨_,rfl,_,rfl,_,_,rfl,rfl,_,rfl,a,_,rfl,bQ.of (sR _ _ ha),(fun ⟨z,_⟩=>by rw [show ((i:Int) + 1)=((i + 1:Nat):Int) by push_cast; rfl,HT.o6] at z; omega),fun p2 hp2=>?_⟩
  have m2:=aH hp2 (.tup (iV xs (some ((i:Int) + 1)) none))
  have e2:aY H3 p2 (.tup (iV xs (some ((i:Int) + 1)) none)) p2=some (.tup (xs.drop (i + 1))):=by rw [aB,show ((i:Int) + 1)=((i + 1:Nat):Int) by push_cast; rfl,Bw _ _ (by omega)]
  generalize aY H3 p2 (.tup (iV xs (some ((i:Int) + 1)) none))=H4 at m2 e2 ⊢
  refine ⟨r,p2,_,_,rfl,rfl,bQ.of (m2 _ _ eR),bQ.of e2,VR (by rw [List.length_append,List.length_take,List.length_drop]; show _ + 1 + _ <= 1000; omega),(fun z=>by simp at z),fun z=>?_,fun t2 ht2=>?_⟩
  ·refine k r H4 (sR.trans m2) ?_
   rw [m2 _ _ eR,<- uD hi,z,List.append_nil]
  ·refine k t2 _ ((sR.trans m2).trans (aH ht2 _)) ?_
   rw [aB,uD hi]
theorem qR {n:Nat}{f:Addr}{fd:FuncData} (F:fH K "__init__" "Case.__init__" (aG (top 40) 0) f fd) {c:Cs}{cC:Addr} (ca:Df K c cC) {C_NoBox:Addr} (g_NoBox:mg "NoBox" = some (.ref C_NoBox)) (x_NoBox:rO K C_NoBox) {g_need_boxes:Addr}{gd_need_boxes:FuncData} (c_need_boxes:zH P w K mg base n "need_boxes" ["boxes"] (V3 c K C_NoBox) g_need_boxes gd_need_boxes) (z_tuple:mg "tuple" = none):aV P w K mg base (nF P w) (n + 1) f fd ["self","boxes"] (Jj c cC K C_NoBox):=by
 refine F.okX kZ (fun vs H Q E h=>?_) (fun cdv A outer s H vs Q E hr h=>?_)
 ·rcases h with ⟨x,dx,a,ys,rfl,_⟩ | ⟨x,v,rfl,_⟩ <;> rfl
 have nd:=kZ.nd
 refine ⟨_,(aD (gY (Jd c_need_boxes hr gU (aA (pv 1) aC))) (rT.nox (aD (fC (pv 0) (eY (eX (K:=K) rfl) rfl z_tuple iK (aA (pv 1) aC)) rfl) (aD (fC (pv 0) (eY (eX (K:=K) rfl) rfl z_tuple iK (aA (cU (ls:=["box"]) (M:=["self","boxes"]) rfl (cA.of (by rfl)) (NL.of (by rfl)) (cT (pv 1)) (fun _ _ _ _=>⟨(aW (i:=0) (cV (by rfl)) rfl (Or.inl rfl)),cQ,qH⟩)) aC)) rfl) (aD (fC (pv 0) (eY (eX (K:=K) rfl) rfl z_tuple iK (aA (cU (ls:=["box"]) (M:=["self","boxes"]) rfl (cA.of (by rfl)) (NL.of (by rfl)) (cT (pv 1)) (fun _ _ _ _=>⟨(aW (i:=0) (cV (by rfl)) rfl (Or.inl rfl)),cQ,nH⟩)) aC)) rfl) (aD (fC (pv 0) aF rfl) (aJ (fC (pv 0) (dF aC) rfl)))))))),?_⟩
 rcases h with ⟨x,dx,a,ys,rfl,hx,ha,n1,n6,hst,k⟩ | ⟨x,v,rfl,hb,qE⟩
 rotate_left
 ·exact ⟨_,rfl,v,false,rfl,hb,(fun z=>nomatch z),fun _ H' s=>qE H' s⟩
 have bx:sH c K H (.ref a) true:=Mv ha (fun v hv=>by
  obtain ⟨y,hy,rfl⟩:=List.mem_map.mp hv
  obtain ⟨s,d,m,st⟩:=hst y hy
  exact .yes st) true (by rw [List.length_map,decide_eq_true (by omega),decide_eq_true (by omega)]; rfl)
 refine ⟨_,rfl,.ref a,true,rfl,bx,fun _ H1 s1=>?_,fun z=>nomatch z⟩
 have ha1:=s1 _ _ ha
 have hx1:=s1 _ _ hx
 have nax:a ≠ x:=bO ha hx fun z=>nomatch z
 refine ⟨_,rfl,a,_,rfl,.inl ⟨bR.of ha1,fun tp htp=>?_⟩⟩
 have np:=aH htp (.tup (ys.map V.ref))
 have ex:tp ≠ x:=fun z=>by rw [z,hx1] at htp; cases htp
 refine ⟨_,rfl,x,cC,dx,[],rfl,np _ _ hx1,ca.cl,ca.np,(by show 0 < 1000; decide),?_⟩
 have k2:KX x H1 (aY (aY H1 tp (.tup (ys.map V.ref))) x (.ins cC dx (b8 "present" (.ref tp) []))):=(KX.of np).trans (KX.put _)
 have ep:aY (aY H1 tp (.tup (ys.map V.ref))) x (.ins cC dx (b8 "present" (.ref tp) [])) tp=some (.tup (ys.map V.ref)):=by rw [aK ex]; exact aB
 have hx2:aY (aY H1 tp (.tup (ys.map V.ref))) x (.ins cC dx (b8 "present" (.ref tp) [])) x=some (.ins cC dx [("present",.ref tp)]):=aB
 generalize aY (aY H1 tp (.tup (ys.map V.ref))) x (.ins cC dx (b8 "present" (.ref tp) []))=H2 at k2 ep hx2 ⊢
 refine ⟨_,rfl,a,rfl,⟨_,bR.of (k2 _ _ nax ha1)⟩,fun DL hDL=>?_⟩
 refine cD (xs:=ys.map V.ref) (fun i τ H'=>∃ v0,τ = [v0,some (.ref x),some (.ref a)] /\ aN H2 H' /\ H' DL=some (.lst (((ys.map fun _=>V.non)).take i))) ⟨none,rfl,aH hDL _,aB⟩ ?keepL ?turnL ?doneL
 case keepL =>
  rintro i τ H' hi ⟨v0,rfl,hs,_⟩
  exact bR.of (hs _ _ (k2 _ _ nax ha1))
 case turnL =>
  rintro i m v τ H' hm hi hv ⟨v0,rfl,hs,hD'⟩
  have hi':i < ys.length:=by rw [List.length_map] at hi; exact hi
  refine Dw ?_
  refine bM hm hi hD' (by rw [List.length_take,List.length_map]; exact aX (by omega)) ⟨_,rfl,hs.upd_new hDL _,?_⟩
  rw [aB,bG (x:=V.non) (by rw [List.getElem?_map,List.getElem?_eq_getElem hi']; rfl)]
 case doneL =>
 rintro τ HL ⟨v0,rfl,hsL,hDL'⟩
 rw [show (ys.map V.ref).length=(ys.map fun _=>V.non).length by rw [List.length_map,List.length_map],List.take_length] at hDL'
 refine ⟨DL,_,rfl,.inl ⟨bR.of hDL',fun tL htL=>?_⟩⟩
 have nL:=aH htL (.tup (ys.map fun _=>V.non))
 have hx3:=(hsL.trans nL) _ _ hx2
 have el:tL ≠ x:=fun z=>by rw [z,hsL _ _ hx2] at htL; cases htL
 refine ⟨_,rfl,x,cC,dx,_,rfl,hx3,ca.cl,ca.nl,(by show 1 < 1000; decide),?_⟩
 have k4:KX x H2 (aY (aY HL tL (.tup (ys.map fun _=>V.non))) x (.ins cC dx (b8 "lowest" (.ref tL) [("present",.ref tp)]))):=(KX.of (hsL.trans nL)).trans (KX.put _)
 have eL:aY (aY HL tL (.tup (ys.map fun _=>V.non))) x (.ins cC dx (b8 "lowest" (.ref tL) [("present",.ref tp)])) tL=some (.tup (ys.map fun _=>V.non)):=by rw [aK el]; exact aB
 have hx4:aY (aY HL tL (.tup (ys.map fun _=>V.non))) x (.ins cC dx (b8 "lowest" (.ref tL) [("present",.ref tp)])) x=some (.ins cC dx [("present",.ref tp),("lowest",.ref tL)]):=aB
 generalize aY (aY HL tL (.tup (ys.map fun _=>V.non))) x (.ins cC dx (b8 "lowest" (.ref tL) [("present",.ref tp)]))=H4 at k4 eL hx4 ⊢
 refine ⟨_,rfl,a,rfl,⟨_,bR.of (k4 _ _ nax (k2 _ _ nax ha1))⟩,fun DQ hDQ=>?_⟩
 refine cD (xs:=ys.map V.ref) (fun i τ H'=>∃ v0,τ = [v0,some (.ref x),some (.ref a)] /\ aN H4 H' /\ H' DQ=some (.lst (((ys.map fun _=>V.bl false)).take i))) ⟨none,rfl,aH hDQ _,aB⟩ ?keepQ ?turnQ ?doneQ
 case keepQ =>
  rintro i τ H' hi ⟨v0,rfl,hs,_⟩
  exact bR.of (hs _ _ (k4 _ _ nax (k2 _ _ nax ha1)))
 case turnQ =>
  rintro i m v τ H' hm hi hv ⟨v0,rfl,hs,hD'⟩
  have hi':i < ys.length:=by rw [List.length_map] at hi; exact hi
  refine Dw ?_
  refine bM hm hi hD' (by rw [List.length_take,List.length_map]; exact aX (by omega)) ⟨_,rfl,hs.upd_new hDQ _,?_⟩
  rw [aB,bG (x:=V.bl false) (by rw [List.getElem?_map,List.getElem?_eq_getElem hi']; rfl)]
 case doneQ =>
 rintro τ HQ ⟨v0,rfl,hsQ,hDQ'⟩
 rw [show (ys.map V.ref).length=(ys.map fun _=>V.bl false).length by rw [List.length_map,List.length_map],List.take_length] at hDQ'
 refine ⟨DQ,_,rfl,.inl ⟨bR.of hDQ',fun tQ htQ=>?_⟩⟩
 have nQ:=aH htQ (.tup (ys.map fun _=>V.bl false))
 have hx5:=(hsQ.trans nQ) _ _ hx4
 have eq:tQ ≠ x:=fun z=>by rw [z,hsQ _ _ hx4] at htQ; cases htQ
 refine ⟨_,rfl,x,cC,dx,_,rfl,hx5,ca.cl,ca.nh,(by show 2 < 1000; decide),?_⟩
 have k6:KX x H4 (aY (aY HQ tQ (.tup (ys.map fun _=>V.bl false))) x (.ins cC dx (b8 "held" (.ref tQ) [("present",.ref tp),("lowest",.ref tL)]))):=(KX.of (hsQ.trans nQ)).trans (KX.put _)
 have eQ:aY (aY HQ tQ (.tup (ys.map fun _=>V.bl false))) x (.ins cC dx (b8 "held" (.ref tQ) [("present",.ref tp),("lowest",.ref tL)])) tQ=some (.tup (ys.map fun _=>V.bl false)):=by rw [aK eq]; exact aB
 have hx6:aY (aY HQ tQ (.tup (ys.map fun _=>V.bl false))) x (.ins cC dx (b8 "held" (.ref tQ) [("present",.ref tp),("lowest",.ref tL)])) x=some (.ins cC dx [("present",.ref tp),("lowest",.ref tL),("held",.ref tQ)]):=aB
 generalize aY (aY HQ tQ (.tup (ys.map fun _=>V.bl false))) x (.ins cC dx (b8 "held" (.ref tQ) [("present",.ref tp),("lowest",.ref tL)]))=H6 at k6 eQ hx6 ⊢
 refine ⟨_,rfl,x,cC,dx,_,rfl,hx6,ca.cl,ca.ns,(by show 3 < 1000; decide),?_⟩
 have k7:KX x H6 (aY H6 x (.ins cC dx (b8 "spent" (.int 0) [("present",.ref tp),("lowest",.ref tL),("held",.ref tQ)]))):=KX.put _
 have hx7:aY H6 x (.ins cC dx (b8 "spent" (.int 0) [("present",.ref tp),("lowest",.ref tL),("held",.ref tQ)])) x=some (.ins cC dx [("present",.ref tp),("lowest",.ref tL),("held",.ref tQ),("spent",.int 0)]):=aB
 generalize aY H6 x (.ins cC dx (b8 "spent" (.int 0) [("present",.ref tp),("lowest",.ref tL),("held",.ref tQ)]))=H7 at k7 hx7 ⊢
 refine ⟨Nat.zero_le _,fun td htd=>?_⟩
 have n8:=aH htd (.tup [])
 have ed:td ≠ x:=fun z=>by rw [z,hx7] at htd; cases htd
 refine ⟨_,rfl,x,cC,dx,_,rfl,n8 _ _ hx7,ca.cl,ca.nd,(by show 4 < 1000; decide),?_⟩
 have k8:KX x H7 (aY (aY H7 td (.tup [])) x (.ins cC dx (b8 "done" (.ref td) [("present",.ref tp),("lowest",.ref tL),("held",.ref tQ),("spent",.int 0)]))):=(KX.of n8).trans (KX.put _)
 have kL:=k6.trans (k7.trans k8)
 refine k tp tL tQ td _ (((KX.of s1).trans k2).trans (k4.trans kL)) aB ((k4.trans kL) _ _ ex ep) (kL _ _ el eL) ((k7.trans k8) _ _ eq eQ) ?_
 rw [aK ed]
 exact aB
theorem u5 {n:Nat}{f:Addr}{fd:FuncData} (F:fH K "behind" "Case.behind" (aG (top 40) 12) f fd) {c:Cs}{cC:Addr} (ca:Df K c cC) {C_NoBox:Addr}{iC:Addr}{dC:FuncData}{kC:Nat} (M_Case:Mk K cC iC) (G_Case:aV P w K mg base (nF P w) kC iC dC ["self","boxes"] (Jj c cC K C_NoBox)) (b_Case:bI K dC ["self","boxes"] []) (g_Case:mg "Case" = some (.ref cC)) (hn_Case:kC + 1 <= n) (z_list:mg "list" = none):aV P w K mg base d7 (n + 1) f fd ["self","deed"] (Ir c cC):=by
 refine F.ok mC (fun vs H Q E h=>?_) (fun cdv A outer s H vs Q E hr h=>?_)
 ·obtain ⟨x,dq,q,rfl,_⟩:=h
  rfl
 obtain ⟨x,dq,q,rfl,h,hd,h9,k⟩:=h
 have nd:=mC.nd
 refine ⟨_,(aD (aP (i:=2) nd rfl (Or.inl rfl) (sJ M_Case G_Case (hr.mono hn_Case) rfl g_Case b_Case .nil mR (aA (eY lA rfl z_list mX (aA (dO (pv 0) rfl) aC)) aC))) (aD (fC (pv 2) (dO (pv 0) rfl) rfl) (aD (fC (pv 2) (dO (pv 0) rfl) rfl) (aD (fC (pv 2) (dO (pv 0) rfl) rfl) (aD (fC (pv 2) (aR zY (dO (pv 0) rfl) (dF (aA (pv 1) aC))) rfl) (aJ (aQ (pv 2)))))))),?_⟩
 have n6:=h.n6
 refine ⟨_,rfl,x,cC,_,_,_,rfl,h.hx,ca.cl,ca.np,rfl,?_⟩
 refine ⟨q.tp,_,rfl,.inr (bQ.of h.hp),fun r hr0=>?_⟩
 have s1:=aH hr0 (.lst (q.ys.map V.ref))
 have er:aY H r (.lst (q.ys.map V.ref)) r=some (.lst (q.ys.map V.ref)):=aB
 generalize aY H r (.lst (q.ys.map V.ref))=H1 at s1 er ⊢
 intro x2 dx2 hx2 hdx2 nd2
 have nO:=Gb (o1:=.own x2) (o2:=.ins cC dx2 []) hx2 hdx2 nd2
 have h1:=h.kt (aN.kt (s1.trans nO))
 refine .inl ⟨x2,dx2,r,q.ys,rfl,aB,nO _ _ er,h.n1,h.n6,(fun y hy=>?_),fun tp tl th td H3 kx hx3 htp htl hth htd=>⟨rfl,?_⟩⟩
 ·obtain ⟨i,hi,rfl⟩:=List.mem_iff_getElem.mp hy
  exact ⟨_,_,_,(h1.st i _ _ (List.getElem?_eq_getElem hi) (List.getElem?_eq_getElem (by rw [h.es]; exact hi))).1⟩
 have s3:aN H H3:=s1.trans (made hx2 hdx2 kx)
 have hxn:H x2=none:=by
  cases e:H x2 with
  | none=>rfl
  | some o=>rw [s1 _ _ e] at hx2; cases hx2
 have nx:x ≠ x2:=fun z=>by rw [<- z,h.hx] at hxn; cases hxn
 have e3:=s3 _ _ h.hx
 refine ⟨_,rfl,x,cC,_,_,_,rfl,e3,ca.cl,ca.nl,rfl,_,rfl,x2,cC,dx2,_,rfl,hx3,ca.cl,ca.nl,(by show 5 < 1000; decide),?_⟩
 refine ⟨_,rfl,x,cC,_,_,_,rfl,(by rw [aK nx]; exact e3),ca.cl,ca.nh,rfl,_,rfl,x2,cC,dx2,_,rfl,aB,ca.cl,ca.nh,(by show 5 < 1000; decide),?_⟩
 refine ⟨_,rfl,x,cC,_,_,_,rfl,(by rw [aK nx,aK nx]; exact e3),ca.cl,ca.ns,rfl,_,rfl,x2,cC,dx2,_,rfl,aB,ca.cl,ca.ns,(by show 5 < 1000; decide),?_⟩
 have k4:KX x2 H3 (aY (aY (aY H3 x2 (.ins cC dx2 (b8 "lowest" (.ref q.tl) (pI tp tl th 0 td)))) x2 (.ins cC dx2 (b8 "held" (.ref q.th) (b8 "lowest" (.ref q.tl) (pI tp tl th 0 td))))) x2 (.ins cC dx2 (b8 "spent" (.int q.sp) (b8 "held" (.ref q.th) (b8 "lowest" (.ref q.tl) (pI tp tl th 0 td)))))):=((KX.put _).trans (KX.put _)).trans (KX.put _)
 have hx4:aY (aY (aY H3 x2 (.ins cC dx2 (b8 "lowest" (.ref q.tl) (pI tp tl th 0 td)))) x2 (.ins cC dx2 (b8 "held" (.ref q.th) (b8 "lowest" (.ref q.tl) (pI tp tl th 0 td))))) x2 (.ins cC dx2 (b8 "spent" (.int q.sp) (b8 "held" (.ref q.th) (b8 "lowest" (.ref q.tl) (pI tp tl th 0 td))))) x2=some (.ins cC dx2 (pI tp q.tl q.th q.sp td)):=aB
 generalize aY (aY (aY H3 x2 (.ins cC dx2 (b8 "lowest" (.ref q.tl) (pI tp tl th 0 td)))) x2 (.ins cC dx2 (b8 "held" (.ref q.th) (b8 "lowest" (.ref q.tl) (pI tp tl th 0 td))))) x2 (.ins cC dx2 (b8 "spent" (.int q.sp) (b8 "held" (.ref q.th) (b8 "lowest" (.ref q.tl) (pI tp tl th 0 td)))))=H4 at k4 hx4 ⊢
 have e4:=k4 _ _ nx e3
 have s4:aN H H4:=fun b o e=>k4 b o (aU e hxn) (s3 b o e)
 refine ⟨_,rfl,x,cC,_,_,_,rfl,e4,ca.cl,ca.nd,rfl,_,rfl,Yv,fun t ht=>?_⟩
 have n5:=aH ht (.tup [V.ref dq])
 have e5:aY H4 t (.tup [V.ref dq]) t=some (.tup [V.ref dq]):=aB
 have hx5:=n5 _ _ hx4
 have s5:=s4.trans n5
 have tx:tp ≠ x2:=bO htp hx3 fun z=>nomatch z
 have ep5:=n5 _ _ (k4 _ _ tx htp)
 generalize aY H4 t (.tup [V.ref dq])=H5 at n5 e5 hx5 s5 ep5 ⊢
 have fin:∀ (t2:Addr) (H6:Hp),aN H5 H6->H6 t2=some (.tup ((q.ds ++ [dq]).map V.ref))->t2 ≠ x2->Q (.ref x2) (aY H6 x2 (.ins cC dx2 (pI tp q.tl q.th q.sp t2))):=fun t2 H6 s6 e6 n26=>by
  have s7:aN H (aY H6 x2 (.ins cC dx2 (pI tp q.tl q.th q.sp t2))):=fun b o e=>by rw [aK (aU e hxn)]; exact s6 _ _ (s5 _ _ e)
  have h7:=h.kt (aN.kt s7)
  refine k x2 dx2 tp t2 _ hxn s7 ⟨aB,?_,h7.hl,h7.hh,?_,h7.n1,h7.n6,h7.es,h7.el,h7.eb,h7.st,h7.cp,h7.en,fun d hd'=>?_,?_⟩
  ·rw [aK tx]; exact s6 _ _ ep5
  ·rw [aK n26]; exact e6
  ·rcases List.mem_append.mp hd' with e | e
   ·exact h7.dd d e
   ·rw [List.mem_singleton.mp e]; exact hd.kt (aN.kt s7)
  ·show (q.ds ++ [dq]).length <= 100
   rw [List.length_append]
   show _ + 1 <= 100
   omega
 refine ⟨q.td,t,_,_,rfl,rfl,bQ.of (s5 _ _ h.hd),bQ.of e5,VR (by rw [List.length_map]; show _ + 1 <= 1000; omega),fun z=>?_,(fun z=>nomatch z),fun t2 ht2=>?_⟩
 ·refine ⟨_,rfl,x2,cC,dx2,_,rfl,hx5,ca.cl,ca.nd,(by show 5 < 1000; decide),?_⟩
  refine ⟨_,rfl,?_⟩
  refine fin t H5 (aN.refl _) ?_ (bO e5 hx5 fun z=>nomatch z)
  rw [e5,List.map_append,z]
  rfl
 ·have n6':=aH ht2 (.tup (q.ds.map V.ref ++ [V.ref dq]))
  refine ⟨_,rfl,x2,cC,dx2,_,rfl,n6' _ _ hx5,ca.cl,ca.nd,(by show 5 < 1000; decide),?_⟩
  refine ⟨_,rfl,?_⟩
  refine fin t2 _ n6' ?_ (fun z=>by rw [z,hx5] at ht2; cases ht2)
  rw [aB,List.map_append]
  rfl
theorem u9 {n:Nat}{f:Addr}{fd:FuncData} (F:fH K "opened" "Case.opened" (aG (top 40) 13) f fd) {c:Cs}{cC:Addr} (ca:Df K c cC) (ck:CK K c) {C_NoDeed:Addr} (g_NoDeed:mg "NoDeed" = some (.ref C_NoDeed)) (x_NoDeed:rO K C_NoDeed) {f_sd:Addr}{fd_sd:FuncData} (m_sd:dM K cC "stand" f_sd) (G_sd:aV P w K mg base (nF P w) n f_sd fd_sd ["self","box"] (Fi c cC C_NoDeed)) (b_sd:bI K fd_sd ["self","box"] []) {f_cp:Addr}{fd_cp:FuncData} (m_cp:dM K cC "cap" f_cp) (G_cp:aV P w K mg base (nF P w) n f_cp fd_cp ["self","box"] (zE c cC C_NoDeed)) (b_cp:bI K fd_cp ["self","box"] []) {f_Ei:Addr}{fd_Ei:FuncData} (m_Ei:dM K c.e "is_end" f_Ei) (G_Ei:aV P w K mg base d7 n f_Ei fd_Ei ["self"] (xO c true)) (b_Ei:bI K fd_Ei ["self"] []) {f_Si:Addr}{fd_Si:FuncData} (m_Si:dM K c.s "is_end" f_Si) (G_Si:aV P w K mg base d7 n f_Si fd_Si ["self"] (xO c false)) (b_Si:bI K fd_Si ["self"] []) {f_res:Addr}{fd_res:FuncData} (m_Sr:dM K c.s "reserve" f_res) (G_res:aV P w K mg base d7 n f_res fd_res ["self"] (O3 c)) (b_res:bI K fd_res ["self"] []) {f_af:Addr}{fd_af:FuncData} (m_af:dM K c.s "after" f_af) (G_af:aV P w K mg base d7 n f_af fd_af ["self","row"] (Rf c)) (b_af:bI K fd_af ["self","row"] []) {f_bh:Addr}{fd_bh:FuncData} (m_bh:dM K cC "behind" f_bh) (G_bh:aV P w K mg base d7 n f_bh fd_bh ["self","deed"] (Ir c cC)) (b_bh:bI K fd_bh ["self","deed"] []) {g_with_thing:Addr}{gd_with_thing:FuncData} (c_with_thing:fL P w K mg base n "with_thing" ["things","place","thing"] (Qg K) g_with_thing gd_with_thing) {g_lesser:Addr}{gd_lesser:FuncData} (c_lesser:fL P w K mg base n "lesser" ["one","other"] (PK K) g_lesser gd_lesser) {g_is_whole:Addr}{gd_is_whole:FuncData} (c_is_whole:fL P w K mg base n "is_whole" ["thing","least","most"] qP g_is_whole gd_is_whole) (z_len:mg "len" = none):aV P w K mg base (nF P w) (n + 1) f fd ["self","box","row"] (KJ c cC):=by
 refine F.okX mJ (fun vs H Q E h=>?_) (fun cdv A outer s H vs Q E hr h=>?_)
 ·obtain ⟨x,i,j,q,p,rs,d,m,rfl,_⟩:=h
  rfl
 have nd:=mJ.nd
 refine ⟨_,(aD (aP (i:=3) nd rfl (Or.inl rfl) (cZ (pv 0) ca.cl m_sd G_sd hr b_sd .nil gU (aA (pv 1) aC))) (aD (dW (PT.nox (PW.pt (jU (dR (jD (cY (pv 3) ck.ce m_Ei G_Ei hr b_Ei .nil eE) (cY (pv 3) ck.cs m_Si G_Si hr b_Si .nil eE))) (jL (eV (dR (aL c_is_whole hr (aA (pv 2) (aA aF (aA (aR oV (bC cX rfl z_len jX (aA (dO (pv 3) rfl) aC)) aF) aC)))))))))) (aJ (iI gH rfl rfl g_NoDeed x_NoDeed)) bY) (aD (aP (i:=4) nd rfl (Or.inl rfl) (cZ (pv 0) ca.cl m_cp G_cp hr b_cp .nil gU (aA (pv 1) aC))) (rT.nox (aD (aP (i:=5) nd rfl (Or.inl rfl) (vI (bZ Dg (pv 4) qH (cI _)) (cY (pv 3) ck.cs m_Sr G_res hr b_res .nil eE) (aL c_lesser hr (aA (pv 4) (aA (cY (pv 3) ck.cs m_Sr G_res hr b_res .nil eE) aC))))) (aD (aP (i:=6) nd rfl (Or.inl rfl) (cZ (pv 0) ca.cl m_bh G_bh hr b_bh .nil eE (aA (dF (aA oW (aA (pv 1) (aA (pv 2) aC)))) aC))) (aD (fC (pv 6) (aL c_with_thing hr (aA (dO (pv 0) rfl) (aA (pv 1) (aA (cZ (pv 3) ck.cs m_af G_af hr b_af .nil eE (aA (pv 2) aC)) aC)))) rfl) (aD (fC (pv 6) (aL c_with_thing hr (aA (dO (pv 0) rfl) (aA (pv 1) (aA (pv 5) aC)))) rfl) (aD (fC (pv 6) (aR fQ (dO (pv 0) rfl) (dO (pv 3) rfl)) rfl) (aJ (aQ (pv 6)))))))))))),?_⟩
 obtain ⟨x,i,j,q,p,rs,d,m,rfl,h,ei,hj,h9,k⟩:=h
 have es:=h.es
 have el:=h.el
 have ebl:=h.eb
 have n6:=h.n6
 have hi:i < q.ys.length:=by have:=(List.getElem?_eq_some_iff.mp ei).1; omega
 have ey:q.ys[i]? = some q.ys[i]:=List.getElem?_eq_getElem hi
 refine ⟨_,rfl,x,_,_,rfl,h.hx,rfl,_,rfl,x,.int (i:Int),q,true,rfl,h,lL.yes (by omega) (by omega),fun j0 y e1 e2=>?_,(fun z=>nomatch z)⟩
 obtain rfl:i=j0:=by injection e1 with e1; omega
 obtain rfl:q.ys[i]=y:=by rw [List.getElem?_eq_getElem (by omega)] at e2; exact Option.some.inj e2
 have d12:=(h.st i _ _ ey ei).2
 have st0:=(h.st i _ _ ey ei).1
 have st:=st0
 cases st with
 | @st _ dx l0 cp0 r0 _ n' k' lv2 d0 _ jj xs _ ps zs hh vv g lp ly row sub p0 p9 ne l4 ww hk =>
 refine .inr ⟨_,rfl,q.ys[i],_,_,rfl,hh,rfl,q.ys[i],rfl,?_⟩
 refine ⟨_,rfl,?_⟩
 refine fZ ?_
 refine ⟨_,rfl,_,rfl,q.ys[i],c.s,_,_,_,rfl,hh,ck.cs,ck.s6,rfl,r0,_,rfl,.inr (bQ.of g),_,_,rfl,rfl,.int (j:Int),0,_,true,rfl,(by rw [List.length_map,lp]; exact lL.yes (by omega) (by omega)),?_⟩
 refine ⟨_,rfl,?_⟩
 refine fZ ?_
 refine ⟨_,rfl,x,_,_,rfl,h.hx,rfl,_,rfl,x,.int (i:Int),q,true,rfl,h,lL.yes (by omega) (by omega),fun j0 y e1 e2=>?_,(fun z=>nomatch z)⟩
 obtain rfl:i=j0:=by injection e1 with e1; omega
 have cp:=h.cp y (List.mem_of_getElem? e2)
 refine' VM (fun L=>∃ lv rv:Int × Int,Tq H L lv /\ Sd.Lw lv /\ Sd.Lw rv /\ Sd.Rv (.st p rs) (d0 + 1) rv /\ ((q.ls[i]? = some .non /\ lv=rv) ∨ ∃ l0 lv0,q.ls[i]? = some (.ref l0) /\ Tq H l0 lv0 /\ lv=if rv.1 * lv0.2 < lv0.1 * rv.2 then rv else lv0)) (fun iH=>?main) ?rst
 case main =>
  have cpd:y = .non ∨ ∃ ca0 lv0,y = .ref ca0 /\ Tq H ca0 lv0 /\ Sd.Lw lv0:=by
   cases cp with
   | non=>exact .inl rfl
   | @sh ca0 lv0 tq0 lw0=>exact .inr ⟨ca0,lv0,rfl,tq0,lw0⟩
  refine ⟨_,rfl,rfl,_,rfl,?_⟩
  rcases cpd with ey0 | ⟨ca0,lv0,ey0,tq0,lw0⟩
  ·refine wO (decide_eq_true ey0) ?_
   refine ⟨_,rfl,q.ys[i],_,_,rfl,hh,rfl,q.ys[i],.st p rs,_,m,rfl,st0,fun l lv tq lw rv=>?_⟩
   exact iH l ⟨lv,lv,tq,lw,lw,rv,.inl ⟨ey0 ▸ e2,rfl⟩⟩
  ·refine wK (decide_eq_false (fun z=>by rw [ey0] at z; cases z)) ?_
   refine ⟨_,rfl,_,rfl,q.ys[i],_,_,rfl,hh,rfl,q.ys[i],.st p rs,_,m,rfl,st0,fun l lv tq lw rv=>?_⟩
   have z1:=Ny lw0
   have z2:=Ny lw
   refine ⟨ca0,l,lv0.1,lv0.2,lv.1,lv.2,congrArg (fun z=>[z,V.ref l]) ey0,bQ.of tq0,bQ.of tq,⟨Nat.le_trans z1.t (by decide),Nat.le_trans z1.b (by decide),Nat.le_trans z2.t (by decide),Nat.le_trans z2.b (by decide)⟩,fun hlt=>?_,fun hlt=>?_⟩
   ·exact iH l ⟨lv,lv,tq,lw,lw,rv,.inr ⟨ca0,lv0,ey0 ▸ e2,tq0,(if_pos hlt).symm⟩⟩
   ·rw [ey0]
    exact iH ca0 ⟨lv0,lv,tq0,lw0,lw,rv,.inr ⟨ca0,lv0,ey0 ▸ e2,tq0,(if_neg hlt).symm⟩⟩
 case rst =>
 rintro l ⟨lv,rv,tq,lw,lwr,hrv,hnc⟩
 refine ⟨_,rfl,x,_,_,rfl,h.hx,rfl,_,rfl,_,rfl,Yt,fun t ht=>?_⟩
 have n1:=aH ht (.tup [.str "open",.int (i:Int),.int (j:Int)])
 refine ⟨x,t,q,rfl,h.kt (aN.kt n1),.op aB,h9,fun x2 dx2 tp td H2 hxn s2 ca2=>?_⟩
 have hxn:H x2=none:=by
  cases e:H x2 with
  | none=>rfl
  | some o=>rw [n1 _ _ e] at hxn; cases hxn
 have vK:=n1.trans s2
 have h2:=h.kt (aN.kt vK)
 have nx:x ≠ x2:=fun z=>by rw [<- z,h.hx] at hxn; cases hxn
 have st2:=st0.kp (aN.kp vK)
 have hh2:=vK _ _ hh
 have ej:rs[j]? = some rs[j]:=List.getElem?_eq_getElem hj
 refine ⟨_,rfl,x,cC,_,_,_,rfl,h2.hx,ca.cl,ca.np,rfl,_,rfl,_,rfl,q.ys[i],_,_,rfl,hh2,rfl,_,rfl,q.ys[i],p,rs,d0,m,j,rs[j],rfl,st2,ej,fun y2 j2 hj2 st3=>?_⟩
 refine ⟨q.tp,_,i,.ref y2,rfl,h2.hp,by rw [List.length_map]; exact hi,by rw [List.length_map]; omega,fun t2 H3 s3 e3=>?_⟩
 have hx3:=s3 _ _ ca2.hx
 refine ⟨_,rfl,x2,cC,dx2,_,rfl,hx3,ca.cl,ca.np,(by show 5 < 1000; decide),?_⟩
 have k4:KX x2 H3 (aY H3 x2 (.ins cC dx2 (b8 "present" (.ref t2) (pI tp q.tl q.th q.sp td)))):=KX.put _
 have hx4:aY H3 x2 (.ins cC dx2 (b8 "present" (.ref t2) (pI tp q.tl q.th q.sp td))) x2=some (.ins cC dx2 (pI t2 q.tl q.th q.sp td)):=aB
 have e4:=k4 _ _ (bO e3 hx3 fun z=>nomatch z) e3
 generalize aY H3 x2 (.ins cC dx2 (b8 "present" (.ref t2) (pI tp q.tl q.th q.sp td)))=H4 at k4 hx4 e4 ⊢
 have s4:aN H H4:=fun b o e=>k4 b o (aU e hxn) (s3 _ _ (vK b o e))
 have h4:=h.kt (aN.kt s4)
 refine ⟨_,rfl,x,cC,_,_,_,rfl,h4.hx,ca.cl,ca.nl,rfl,_,rfl,_,rfl,q.tl,_,i,.ref l,rfl,h4.hl,by omega,by omega,fun t5 H5 s5 e5=>?_⟩
 have hx5:=s5 _ _ hx4
 refine ⟨_,rfl,x2,cC,dx2,_,rfl,hx5,ca.cl,ca.nl,(by show 5 < 1000; decide),?_⟩
 have k6:KX x2 H5 (aY H5 x2 (.ins cC dx2 (b8 "lowest" (.ref t5) (pI t2 q.tl q.th q.sp td)))):=KX.put _
 have hx6:aY H5 x2 (.ins cC dx2 (b8 "lowest" (.ref t5) (pI t2 q.tl q.th q.sp td))) x2=some (.ins cC dx2 (pI t2 t5 q.th q.sp td)):=aB
 have e6:=k6 _ _ (bO e5 hx5 fun z=>nomatch z) e5
 have e46:=k6 _ _ (bO (s5 _ _ e4) hx5 fun z=>nomatch z) (s5 _ _ e4)
 generalize aY H5 x2 (.ins cC dx2 (b8 "lowest" (.ref t5) (pI t2 q.tl q.th q.sp td)))=H6 at k6 hx6 e6 e46 ⊢
 have s6:aN H H6:=fun b o e=>k6 b o (aU e hxn) (s5 _ _ (s4 b o e))
 have h6:=h.kt (aN.kt s6)
 have kx26:KX x2 H2 H6:=((KX.of s3).trans k4).trans ((KX.of s5).trans k6)
 refine ⟨_,rfl,x,cC,_,_,_,rfl,h6.hx,ca.cl,ca.ns,rfl,_,rfl,q.ys[i],c.s,_,_,_,rfl,s6 _ _ hh,ck.cs,ck.s5,rfl,_,_,rfl,rfl,?_⟩
 refine ⟨_,rfl,x2,cC,dx2,_,rfl,hx6,ca.cl,ca.ns,(by show 5 < 1000; decide),?_⟩
 have k7:KX x2 H6 (aY H6 x2 (.ins cC dx2 (b8 "spent" (.int (q.sp + p)) (pI t2 t5 q.th q.sp td)))):=KX.put _
 have s7:aN H (aY H6 x2 (.ins cC dx2 (b8 "spent" (.int (q.sp + p)) (pI t2 t5 q.th q.sp td)))):=fun b o e=>k7 b o (aU e hxn) (s6 b o e)
 have h7:=h.kt (aN.kt s7)
 have kx27:=kx26.trans k7
 have st7:dI c (aY H6 x2 (.ins cC dx2 (b8 "spent" (.int (q.sp + p)) (pI t2 t5 q.th q.sp td)))) y2 rs[j].2 d0 j2:=dI.kx ca.ne ca.nS kx27 ca2.hx st3
 refine ⟨_,rfl,?_⟩
 refine k x2 ⟨dx2,t2,t5,q.th,td,q.ys.set i y2,q.ss.set i (rs[j].2,d0,j2),q.ls.set i (.ref l),q.bs,q.sp + p,q.ds ++ [t]⟩ _ s7 ⟨aB,?_,?_,h7.hh,?_,?_,?_,?_,?_,?_,?_,?_,?_,?_,?_⟩ ?_ ⟨rs[j],d0,j2,ej,rfl⟩ rfl ⟨l,lv,rv,rfl,s7 _ _ tq,lw,lwr,hrv,hnc⟩ rfl ⟨t,rfl,kx27 _ _ (bO (s2 _ _ aB) ca2.hx fun z=>nomatch z) (s2 _ _ aB)⟩
 ·rw [aK (bO e46 hx6 fun z=>nomatch z),List.map_set]; exact e46
 ·rw [aK (bO e6 hx6 fun z=>nomatch z)]; exact e6
 ·exact kx27 _ _ (bO ca2.hd ca2.hx fun z=>nomatch z) ca2.hd
 ·rw [List.length_set]; exact h.n1
 ·rw [List.length_set]; exact h.n6
 ·rw [List.length_set,List.length_set]; exact h.es
 ·rw [List.length_set,List.length_set]; exact h.el
 ·rw [List.length_set]; exact h.eb
 ·intro a y0 s0 ea eb0
  rw [List.getElem?_set] at ea eb0
  by_cases hia:i=a
  ·rw [if_pos hia,if_pos (by omega)] at ea eb0
   cases ea
   cases eb0
   exact ⟨st7,by have d13:d0 + 1 <= 4:=d12.1; show d0 <= 4; omega,by have d14:m <= 12:=d12.2; show j2 <= 12; omega⟩
  ·rw [if_neg hia] at ea eb0
   exact h7.st a y0 s0 ea eb0
 ·intro l0 hl0
  rcases List.mem_or_eq_of_mem_set hl0 with e | e
  ·exact h7.cp l0 e
  ·rw [e]; exact .sh (s7 _ _ tq) lw
 ·intro a s0 ea eb0
  rw [List.getElem?_set] at eb0
  by_cases hia:i=a
  ·subst hia
   obtain ⟨v0,z⟩:=h.en i _ ea ei
   cases z
  ·rw [if_neg hia] at eb0
   exact h.en a s0 ea eb0
 ·intro d' hd'
  exact rZ.kx kx27 ca2.hx (ca2.dd d' hd')
 ·exact ca2.d9
 ·rw [List.length_set]
theorem wI {n:Nat}{f:Addr}{fd:FuncData} (F:fH K "taken" "Case.taken" (aG (top 40) 14) f fd) {c:Cs}{cC:Addr} (ca:Df K c cC) (ck:CK K c) {C_NoDeed:Addr} (g_NoDeed:mg "NoDeed" = some (.ref C_NoDeed)) (x_NoDeed:rO K C_NoDeed) {f_sd:Addr}{fd_sd:FuncData} (m_sd:dM K cC "stand" f_sd) (G_sd:aV P w K mg base (nF P w) n f_sd fd_sd ["self","box"] (Fi c cC C_NoDeed)) (b_sd:bI K fd_sd ["self","box"] []) {f_Ei:Addr}{fd_Ei:FuncData} (m_Ei:dM K c.e "is_end" f_Ei) (G_Ei:aV P w K mg base d7 n f_Ei fd_Ei ["self"] (xO c true)) (b_Ei:bI K fd_Ei ["self"] []) {f_Si:Addr}{fd_Si:FuncData} (m_Si:dM K c.s "is_end" f_Si) (G_Si:aV P w K mg base d7 n f_Si fd_Si ["self"] (xO c false)) (b_Si:bI K fd_Si ["self"] []) {f_bh:Addr}{fd_bh:FuncData} (m_bh:dM K cC "behind" f_bh) (G_bh:aV P w K mg base d7 n f_bh fd_bh ["self","deed"] (Ir c cC)) (b_bh:bI K fd_bh ["self","deed"] []) {g_with_thing:Addr}{gd_with_thing:FuncData} (c_with_thing:fL P w K mg base n "with_thing" ["things","place","thing"] (Qg K) g_with_thing gd_with_thing):aV P w K mg base (nF P w) (n + 1) f fd ["self","box"] (Nz c cC):=by
 refine F.okX oK (fun vs H Q E h=>?_) (fun cdv A outer s H vs Q E hr h=>?_)
 ·obtain ⟨x,i,q,u,d,m,rfl,_⟩:=h
  rfl
 have nd:=oK.nd
 refine ⟨_,(aD (dW (PW.pt (jU (eV (dR (jD (cY (cZ (pv 0) ca.cl m_sd G_sd hr b_sd .nil gU (aA (pv 1) aC)) ck.ce m_Ei G_Ei hr b_Ei .nil eE) (cY (cZ (pv 0) ca.cl m_sd G_sd hr b_sd .nil gU (aA (pv 1) aC)) ck.cs m_Si G_Si hr b_Si .nil eE)))) (jL (dR (bA bB (dO (pv 0) rfl) (pv 1) (fun _ _=>rfl)))))) (aJ (iI gH rfl rfl g_NoDeed x_NoDeed)) bY) (rT.nox (aD (aP (i:=2) nd rfl (Or.inl rfl) (cZ (pv 0) ca.cl m_bh G_bh hr b_bh .nil eE (aA (dF (aA oW (aA (pv 1) aC))) aC))) (aD (fC (pv 2) (aL c_with_thing hr (aA (dO (pv 0) rfl) (aA (pv 1) (aA nH aC)))) rfl) (aJ (aQ (pv 2))))))),?_⟩
 obtain ⟨x,i,q,u,d,m,rfl,h,ei,eb,h9,k⟩:=h
 have es:=h.es
 have el:=h.el
 have ebl:=h.eb
 have n6:=h.n6
 have hi:i < q.ys.length:=by have:=(List.getElem?_eq_some_iff.mp ei).1; omega
 have ey:q.ys[i]? = some q.ys[i]:=List.getElem?_eq_getElem hi
 refine .inl ⟨_,rfl,x,_,_,rfl,h.hx,rfl,_,rfl,x,.int (i:Int),q,true,rfl,h,lL.yes (by omega) (by omega),fun j0 y e1 e2=>?_,(fun z=>nomatch z)⟩
 obtain rfl:i=j0:=by injection e1 with e1; omega
 obtain rfl:q.ys[i]=y:=by rw [List.getElem?_eq_getElem (by omega)] at e2; exact Option.some.inj e2
 have st:=(h.st i _ _ ey ei).1
 cases st with
 | en hh vv ok =>
 refine ⟨q.ys[i],_,_,rfl,hh,rfl,q.ys[i],rfl,?_⟩
 refine ⟨_,rfl,?_⟩
 refine fZ ?_
 refine ⟨_,rfl,x,cC,_,_,_,rfl,h.hx,ca.cl,ca.nh,rfl,_,rfl,q.th,_,_,_,rfl,rfl,bQ.of h.hh,fU (v:=V.bl false) (by rw [List.getElem?_map,eb]; rfl),?_⟩
 refine ⟨_,rfl,?_⟩
 refine fZ ?_
 refine ⟨_,rfl,x,_,_,rfl,h.hx,rfl,_,rfl,qT,fun t ht=>?_⟩
 have n1:=aH ht (.tup [.str "take",.int (i:Int)])
 refine ⟨x,t,q,rfl,h.kt (aN.kt n1),.tk aB,h9,fun x2 dx2 tp td H2 hxn s2 ca2=>?_⟩
 have hxn:H x2=none:=by
  cases e:H x2 with
  | none=>rfl
  | some o=>rw [n1 _ _ e] at hxn; cases hxn
 have vK:=n1.trans s2
 have h2:=h.kt (aN.kt vK)
 refine ⟨_,rfl,x,cC,_,_,_,rfl,h2.hx,ca.cl,ca.nh,rfl,_,rfl,q.th,_,i,.bl true,rfl,h2.hh,by rw [List.length_map]; omega,by rw [List.length_map]; omega,fun t2 H3 s3 e3=>?_⟩
 have hx3:=s3 _ _ ca2.hx
 refine ⟨_,rfl,x2,cC,dx2,_,rfl,hx3,ca.cl,ca.nh,(by show 5 < 1000; decide),?_⟩
 have k4:KX x2 H3 (aY H3 x2 (.ins cC dx2 (b8 "held" (.ref t2) (pI tp q.tl q.th q.sp td)))):=KX.put _
 have k24:KX x2 H2 (aY H3 x2 (.ins cC dx2 (b8 "held" (.ref t2) (pI tp q.tl q.th q.sp td)))):=(KX.of s3).trans k4
 have s4:aN H (aY H3 x2 (.ins cC dx2 (b8 "held" (.ref t2) (pI tp q.tl q.th q.sp td)))):=fun b o e=>k4 b o (aU e hxn) (s3 _ _ (vK b o e))
 have h4:=h.kt (aN.kt s4)
 refine ⟨_,rfl,?_⟩
 refine k x2 ⟨dx2,tp,q.tl,t2,td,q.ys,q.ss,q.ls,q.bs.set i true,q.sp,q.ds ++ [t]⟩ _ s4 ⟨aB,?_,h4.hl,?_,?_,h.n1,h.n6,h.es,h.el,?_,h4.st,h4.cp,?_,?_,ca2.d9⟩ rfl rfl rfl rfl rfl ⟨t,rfl,k24 _ _ (bO (s2 _ _ aB) ca2.hx fun z=>nomatch z) (s2 _ _ aB)⟩
 ·exact k24 _ _ (bO ca2.hp ca2.hx fun z=>nomatch z) ca2.hp
 ·rw [aK (bO e3 hx3 fun z=>nomatch z),List.map_set]; exact e3
 ·exact k24 _ _ (bO ca2.hd ca2.hx fun z=>nomatch z) ca2.hd
 ·rw [List.length_set]; exact h.eb
 ·intro a s0 ea es0
  rw [List.getElem?_set] at ea
  by_cases hia:i=a
  ·subst hia
   rw [ei] at es0
   cases es0
   exact ⟨u,rfl⟩
  ·rw [if_neg hia] at ea
   exact h.en a s0 ea es0
 ·intro d' hd'
  exact rZ.kx k24 ca2.hx (ca2.dd d' hd')
theorem vX {n:Nat}{f:Addr}{fd:FuncData} (F:fH K "is_end" "End.is_end" (aG (top 32) 1) f fd) {c:Cs}:aV P w K mg base d7 (n + 1) f fd ["self"] (xO c true):=by
 refine F.ok oM (fun vs H Q E h=>?_) (fun cdv A outer s H vs Q E hr h=>?_)
 ·obtain ⟨x,rfl,_⟩:=h
  rfl
 obtain ⟨x,rfl,q⟩:=h
 have nd:=oM.nd
 refine ⟨_,(aJ (aQ nH)),?_⟩
 exact q
theorem rR {n:Nat}{f:Addr}{fd:FuncData} (F:fH K "is_end" "Stage.is_end" (aG (top 33) 1) f fd) {c:Cs}:aV P w K mg base d7 (n + 1) f fd ["self"] (xO c false):=by
 refine F.ok lR (fun vs H Q E h=>?_) (fun cdv A outer s H vs Q E hr h=>?_)
 ·obtain ⟨x,rfl,_⟩:=h
  rfl
 obtain ⟨x,rfl,q⟩:=h
 have nd:=lR.nd
 refine ⟨_,(aJ (aQ nH)),?_⟩
 exact q
section
variable {c:Cs}{H H':Hp}
theorem Lr (kt:∀ b xs,H b=some (.tup xs)->H' b=some (.tup xs)) (ki:∀ b C dx f fs,H b=some (.ins C dx (f :: fs))->H' b=some (.ins C dx (f :: fs))) {ps ys:List Addr}{rs:List (Int × Sd.Sd)}{d:Nat}{j:Int × Sd.Sd->Nat} (h:sI c H ps ys rs d j):sI c H' ps ys rs d j :=
 ⟨h.lp,h.ly,fun i q y t a b e=>kt _ _ (h.row i q y t a b e),fun i y t a b=>zM kt ki (h.sub i y t a b)⟩
theorem pF {α : Type}{l:List α}{x y:α}{i:Nat} (h:(l ++ [x])[i]? = some y):(i < l.length /\ l[i]? = some y) ∨ (i=l.length /\ y=x):=by
 by_cases hi:i < l.length
 ·exact .inl ⟨hi,by rwa [List.getElem?_append_left hi] at h⟩
 ·have h2:=(List.getElem?_eq_some_iff.mp h).1
  rw [List.length_append,List.length_singleton] at h2
  have e:i=l.length:=by omega
  subst e
  rw [List.getElem?_append_right (Nat.le_refl _),Nat.sub_self] at h
  cases h
  exact .inr ⟨rfl,rfl⟩
theorem M7 {ps ys:List Addr}{rs:List (Int × Sd.Sd)}{d:Nat}{j:Int × Sd.Sd->Nat} (h:sI c H ps ys rs d j) {q y:Addr}{t:Int × Sd.Sd} (hq:H q=some (.tup [.int t.1,.ref y])) (hy:dI c H y t.2 d (j t)):sI c H (ps ++ [q]) (ys ++ [y]) (rs ++ [t]) d j:=by
 have l1:=h.lp
 have l2:=h.ly
 refine ⟨by simp [l1],by simp [l2],fun i q' y' t' a b c=>?_,fun i y' t' b c=>?_⟩
 ·rcases pF a with ⟨i1,a⟩ | ⟨i1,rfl⟩ <;> rcases pF b with ⟨i2,b⟩ | ⟨i2,rfl⟩ <;> rcases pF c with ⟨i3,c⟩ | ⟨i3,rfl⟩
  ·exact h.row i _ _ _ a b c
  all_goals first | exact hq | (exfalso; omega)
 ·rcases pF b with ⟨i2,b⟩ | ⟨i2,rfl⟩ <;> rcases pF c with ⟨i3,c⟩ | ⟨i3,rfl⟩
  ·exact h.sub i _ _ b c
  all_goals first | exact hy | (exfalso; omega)
theorem Km {ps ys:List Addr}{rs:List (Int × Sd.Sd)} (lp:ps.length=rs.length) (ly:ys.length=rs.length) (row:∀ (i:Nat) q y t,ps[i]? = some q->ys[i]? = some y->rs[i]? = some t->H q=some (.tup [.int t.1,.ref y])) (sub:∀ (i:Nat) y t,ys[i]? = some y->rs[i]? = some t->fY H y t.2)
  {i:Nat}{v:V} (hv:(ps.map V.ref)[i]? = some v):∃ q y t,rs[i]? = some t /\ v = .ref q /\ H q=some (.tup [.int t.1,.ref y]) /\ fY H y t.2 /\ t ∈ rs:=by
 rw [List.getElem?_map] at hv
 cases e:ps[i]? with
 | none=>rw [e] at hv; cases hv
 | some q =>
  rw [e] at hv
  cases hv
  have hi:=(List.getElem?_eq_some_iff.mp e).1
  have ey:ys[i]? = some (ys[i]'(by omega)):=List.getElem?_eq_getElem _
  have er:rs[i]? = some (rs[i]'(by omega)):=List.getElem?_eq_getElem _
  exact ⟨q,_,_,er,rfl,row i q _ _ e ey er,sub i _ _ ey er,List.mem_of_getElem? er⟩
end
structure wQ (H:Hp) (ps ys:List Addr) (rs:List (Int × Sd.Sd)):Prop where
 lp:ps.length=rs.length
 ly:ys.length=rs.length
 row:∀ (i:Nat) q y t,ps[i]? = some q->ys[i]? = some y->rs[i]? = some t->H q=some (.tup [.int t.1,.ref y])
 sub:∀ (i:Nat) y t,ys[i]? = some y->rs[i]? = some t->fY H y t.2
theorem wQ.keep {H H':Hp}{ps ys:List Addr}{rs:List (Int × Sd.Sd)} (h:wQ H ps ys rs) (k:∀ b xs,H b=some (.tup xs)->H' b=some (.tup xs)):wQ H' ps ys rs :=
 ⟨h.lp,h.ly,fun i q y t a b c=>k _ _ (h.row i q y t a b c),fun i y t a b=>(h.sub i y t a b).keep k⟩
theorem wQ.same {H H':Hp}{ps ys:List Addr}{rs:List (Int × Sd.Sd)} (s:aN H H') (h:wQ H ps ys rs):wQ H' ps ys rs:=h.keep fun b xs e=>s _ _ e
theorem lZ {α : Type}{l:List α}{x y:α}{i:Nat} (h:(l ++ [x])[i]? = some y):(i < l.length /\ l[i]? = some y) ∨ (i=l.length /\ y=x):=by
 by_cases hi:i < l.length
 ·exact .inl ⟨hi,by rwa [List.getElem?_append_left hi] at h⟩
 ·have h2:=(List.getElem?_eq_some_iff.mp h).1
  rw [List.length_append,List.length_singleton] at h2
  have e:i=l.length:=by omega
  subst e
  rw [List.getElem?_append_right (Nat.le_refl _),Nat.sub_self] at h
  cases h
  exact .inr ⟨rfl,rfl⟩
theorem wQ.snoc {H:Hp}{ps ys:List Addr}{rs:List (Int × Sd.Sd)} (h:wQ H ps ys rs) {q y:Addr}{t:Int × Sd.Sd} (hq:H q=some (.tup [.int t.1,.ref y])) (hy:fY H y t.2):wQ H (ps ++ [q]) (ys ++ [y]) (rs ++ [t]):=by
 have l1:=h.lp
 have l2:=h.ly
 refine ⟨by simp [l1],by simp [l2],fun i q' y' t' a b c=>?_,fun i y' t' b c=>?_⟩
 ·rcases lZ a with ⟨i1,a⟩ | ⟨i1,rfl⟩ <;> rcases lZ b with ⟨i2,b⟩ | ⟨i2,rfl⟩ <;> rcases lZ c with ⟨i3,c⟩ | ⟨i3,rfl⟩
  ·exact h.row i _ _ _ a b c
  all_goals first | exact hq | (exfalso; omega)
 ·rcases lZ b with ⟨i2,b⟩ | ⟨i2,rfl⟩ <;> rcases lZ c with ⟨i3,c⟩ | ⟨i3,rfl⟩
  ·exact h.sub i _ _ b c
  all_goals first | exact hy | (exfalso; omega)
theorem qJ {n:Nat}{f:Addr}{fd:FuncData} (F:fH K "reserve" "Stand.reserve" (aG (top 31) 3) f fd) {c:Cs} (ck:CK K c):aV P w K mg base d7 (n + 1) f fd ["self"] (O3 c):=by
 refine F.ok j7 (fun vs H Q E h=>?_) (fun cdv A outer s H vs Q E hr h=>?_)
 ·obtain ⟨x,s,d,m,rfl,_⟩:=h
  rfl
 obtain ⟨x,s,d,m,rfl,st,q⟩:=h
 have nd:=j7.nd
 refine ⟨_,(aJ (aQ (dO (pv 0) rfl))),?_⟩
 cases st with
 | en h vv ok=>exact ⟨_,rfl,x,c.e,_,_,_,rfl,h,ck.ce,ck.e3,rfl,q _ _ vv.lv vv.lw ⟨_,vv.mt⟩⟩
 | st h vv g lp ly row sub p0 p9 ne l4 w hk=>exact ⟨_,rfl,x,c.s,_,_,_,rfl,h,ck.cs,ck.s3,rfl,q _ _ vv.lv vv.lw ⟨_,vv.mt⟩⟩
theorem Wi {c:Cs}{H:Hp}{ps ys:List Addr}{rs:List (Int × Sd.Sd)}{d i:Nat}{j:Int × Sd.Sd->Nat}{t:Int × Sd.Sd} (R:sI c H ps ys rs d j) (h:rs[i]? = some t):∃ q y,(ps.map V.ref)[i]? = some (.ref q) /\ H q=some (.tup [.int t.1,.ref y]) /\ dI c H y t.2 d (j t):=by
 have hi:=(List.getElem?_eq_some_iff.mp h).1
 have l1:=R.lp
 have l2:=R.ly
 have ep:ps[i]? = some (ps[i]'(by omega)):=List.getElem?_eq_getElem _
 have ey:ys[i]? = some (ys[i]'(by omega)):=List.getElem?_eq_getElem _
 exact ⟨_,_,by rw [List.getElem?_map,ep]; rfl,R.row i _ _ _ ep ey h,R.sub i _ _ ey h⟩
theorem uL {n:Nat}{f:Addr}{fd:FuncData} (F:fH K "after" "Stage.after" (aG (top 33) 3) f fd) {c:Cs} (ck:CK K c):aV P w K mg base d7 (n + 1) f fd ["self","row"] (Rf c):=by
 refine F.ok mG (fun vs H Q E h=>?_) (fun cdv A outer s H vs Q E hr h=>?_)
 ·obtain ⟨x,p,rs,d,m,i,t,rfl,_⟩:=h
  rfl
 obtain ⟨x,p,rs,d,m,i,t,rfl,st,ht,q⟩:=h
 have nd:=mG.nd
 refine ⟨_,(aJ (aQ (bA bB (bA bB (dO (pv 0) rfl) (pv 1) (fun _ _=>rfl)) aF (fun _ _=>rfl)))),?_⟩
 cases st with
 | @st _ dx l cp r _ n' k' lv _ _ j xs _ ps ys h vv g lp ly row sub p0 p9 ne l4 w hk =>
  obtain ⟨q0,y,e1,e2,e3⟩:=Wi ⟨lp,ly,row,sub⟩ ht
  exact ⟨_,rfl,x,c.s,dx,_,_,rfl,h,ck.cs,ck.s6,rfl,_,rfl,r,_,_,_,rfl,rfl,bQ.of g,fU e1,q0,_,_,_,rfl,rfl,bQ.of e2,rfl,q y _ (Sd.M5 hk t (List.mem_of_getElem? ht)) e3⟩
theorem tY {n:Nat}{f:Addr}{fd:FuncData} (F:fH K "_law_object" "_law_object" (top 48) f fd) {n0:Nat}{c:Cs}{C_NoBox iE iS:Addr}{dE dS:FuncData}{kE kS:Nat} (M_End:Mk K c.e iE) (G_End:aV P w K mg base (nF P w) kE iE dE ["self","worth"] (O7 c C_NoBox)) (b_End:bI K dE ["self","worth"] []) (g_End:mg "End" = some (.ref c.e)) (hn_End:kE + 1 <= n) (M_Stage:Mk K c.s iS) (G_Stage:aV P w K mg base (nF P w) kS iS dS ["self","price","rows"] (Nt c K C_NoBox Pt iD)) (b_Stage:bI K dS ["self","price","rows"] []) (g_Stage:mg "Stage" = some (.ref c.s)) (hn_Stage:kS + 1 <= n) {g__law_object:Addr}{gd__law_object:FuncData} (c__law_object:fL P w K mg base n "_law_object" ["_law_model_here"] (Lq c Pt iD n0) g__law_object gd__law_object):aV P w K mg base d7 (n + 1) f fd ["_law_model_here"] (Lq c Pt iD (n0 + 1)):=by
 refine F.ok mQ (fun vs H Q E h=>?_) (fun cdv A outer s H vs Q E hr h=>?_)
 ·obtain ⟨a,s,d,m,rfl,_⟩:=h
  rfl
 obtain ⟨a,s,d,m,rfl,to,ok,dn,d4,m12,hTb,q⟩:=h
 have nd:=mQ.nd
 refine ⟨_,(aD (dW (bZ rC (bA bB (pv 0) aF (fun _ _=>rfl)) oW (cI _)) (aJ (aQ (sJ M_End G_End (hr.mono hn_End) rfl g_End b_End .nil mR (aA (bA bB (pv 0) aF (fun _ _=>rfl)) aC)))) bY) (aJ (aQ (sJ M_Stage G_Stage (hr.mono hn_Stage) rfl g_Stage b_Stage .nil mR (aA (bA bB (pv 0) aF (fun _ _=>rfl)) (aA (cU (ls:=["_law_weight","_law_one"]) (M:=["_law_model_here"]) rfl (cA.of (by rfl)) (NL.of (by rfl)) (Ew (bA bB (pv 0) aF (fun _ _=>rfl))) (fun _ _ _ _=>⟨(fX (K:=K) (n:=2) rfl rfl (bH (aW (i:=0) (cV (by rfl)) rfl (Or.inl rfl)) (bH (aW (i:=1) (cV (by rfl)) rfl (Or.inl rfl)) eG))),cQ,(dF (aA (pv 0) (aA (aL c__law_object hr (aA (pv 1) aC)) aC)))⟩)) aC)))))),?_⟩
 cases to with
 | @en _ v h =>
  cases ok with
  | en h0 h9 hm =>
  refine ⟨_,rfl,a,_,_,_,rfl,rfl,bQ.of h,rfl,rfl,_,rfl,?_⟩
  refine iJ ?_
  refine ⟨_,rfl,a,_,_,_,rfl,rfl,bQ.of h,rfl,?_⟩
  intro x dx hx hdx ndx
  have nO:aN H (aY (aY H dx (.own x)) x (.ins c.e dx [])):=(aH hdx (.own x)).trans (aH (by rw [aK (Ne.symm ndx)]; exact hx) _)
  refine .inl ⟨x,dx,v,rfl,aB,h0,h9,fun H' k5 st=>⟨rfl,?_⟩⟩
  have sX:DX x (aY (aY H dx (.own x)) x (.ins c.e dx [])) H':=k5
  exact q x H' (fun b o _ e=>k5 b o (aU e hx) (nO _ _ e)) (fG.sameX (hTb.same nO) sX aB) (st d m hm)
 | @st _ r p rs ps ys h g lp ly row sub =>
  cases ok with
  | @st _ _ d _ j h0 h9 ne l4 ww oks hk =>
  have hlr:(ps.map V.ref).length=rs.length:=by rw [List.length_map]; exact lp
  refine ⟨_,rfl,a,_,_,_,rfl,rfl,bQ.of h,rfl,rfl,_,rfl,?_⟩
  refine fZ ?_
  refine ⟨_,rfl,a,_,_,_,rfl,rfl,bQ.of h,rfl,?_⟩
  refine ⟨_,rfl,a,_,_,_,rfl,rfl,bQ.of h,rfl,r,rfl,⟨_,bQ.of g⟩,fun D hD=>?_⟩
  refine uN (xs:=ps.map V.ref) (fun i τ H'=>∃ v0 v1 qs zs,τ = [v0,v1,some (.ref a)] /\ cH Pt H H' /\ fG Pt iD lK H' /\ H' D=some (.lst (qs.map V.ref)) /\ sI c H' qs zs (rs.take i) d j) ⟨none,none,[],[],rfl,(aH hD _).toT,hTb.same (aH hD _),aB,⟨rfl,rfl,(fun i q y t a=>by simp at a),(fun i y t a=>by simp at a)⟩⟩ ?keep ?turn ?done
  case keep =>
   rintro u τ H' hi ⟨v0,v1,qs,zs,rfl,hs,_⟩
   exact bQ.of (hs.get hTb g fun _ z=>nomatch z)
  case turn =>
   rintro u mm v τ H' hm hi hv ⟨v0,v1,qs,zs,rfl,hs,tb,hD',R⟩
   obtain ⟨q1,y,t,er,rfl,h1,to,mem⟩:=Km lp ly row sub hv
   have kt:∀ b xs,H b=some (.tup xs)->H' b=some (.tup xs):=fun b xs e=>hs.get hTb e fun _ z=>nomatch z
   refine ⟨q1,_,rfl,bQ.of (kt _ _ h1),rfl,_,_,rfl,_,_,rfl,rfl,?_⟩
   refine eO ?_
   refine ⟨_,rfl,_,rfl,y,t.2,d,j t,rfl,to.keep kt,oks t mem,by omega,by omega,Nat.le_trans (Sd.M5 hk t mem) m12,tb,fun x H2 s2 tb2 st2=>?_⟩
   refine ⟨qT,fun T hT=>?_⟩
   have n3:=aH hT (.tup [.int t.1,.ref x])
   have hD2:H2 D=some (.lst (qs.map V.ref)):=s2.get tb hD' fun _ z=>nomatch z
   have hD3:=n3 _ _ hD2
   have R3:=(R.kp (cH.kp s2 tb)).kp (aN.kp n3)
   have nD:∀ (o:HO),aN (aY H2 T (.tup [.int t.1,.ref x])) (aY H2 T (.tup [.int t.1,.ref x])):=fun _=>aN.refl _
   have kt4:∀ (o:HO) b xs,aY H2 T (.tup [.int t.1,.ref x]) b=some (.tup xs)->aY (aY H2 T (.tup [.int t.1,.ref x])) D o b=some (.tup xs):=fun o b xs e=>by rw [aK (bO e hD3 fun z=>nomatch z)]; exact e
   have ki4:∀ (o:HO) b C dx f fs,aY H2 T (.tup [.int t.1,.ref x]) b=some (.ins C dx (f :: fs))->aY (aY H2 T (.tup [.int t.1,.ref x])) D o b=some (.ins C dx (f :: fs)):=fun o b C dx f fs e=>by rw [aK (bO e hD3 fun z=>nomatch z)]; exact e
   have ql:qs.length <= 4:=by rw [R.lp,List.length_take]; omega
   refine bM hm hi hD3 (by rw [List.length_map]; exact aX (by omega)) ⟨_,_,qs ++ [T],zs ++ [x],rfl,((hs.trans s2).trans n3.toT).upd_new hD _,?_,by rw [aB,List.map_append]; rfl,?_⟩
   ·have:=tb2.same n3
    rcases this with w | ⟨c',w1,w2⟩
    ·exact .inl (by rw [aK (bO w hD3 fun z=>nomatch z)]; exact w)
    ·exact .inr ⟨c',by rw [aK (bO w1 hD3 fun z=>nomatch z)]; exact w1,by rw [aK (bO w2 hD3 fun z=>by unfold uH at z; exact nomatch z)]; exact w2⟩
   ·rw [bG er]
    exact M7 (Lr (kt4 _) (ki4 _) R3) (kt4 _ _ _ aB) (zM (kt4 _) (ki4 _) (st2.kp (aN.kp n3)))
  case done =>
   rintro τ H1 ⟨v0,v1,qs,zs,rfl,hs,tb,hD',R⟩
   rw [hlr,List.take_length] at R
   intro x dx hx hdx ndx
   have nO:aN H1 (aY (aY H1 dx (.own x)) x (.ins c.s dx [])):=(aH hdx (.own x)).trans (aH (by rw [aK (Ne.symm ndx)]; exact hx) _)
   refine .inl ⟨x,dx,D,p,qs,zs,rs,d,j,rfl,aB,⟨nO _ _ hD',R.kp (aN.kp nO),ne,l4,ww⟩,h0,h9,.inr ⟨m,hk,m12,d4,tb.same nO,fun H' k5 tb5 st5=>⟨rfl,?_⟩⟩⟩
   exact q x H' (fun b o nP e=>k5 b o (aU (hs b o nP e) hx) nP (nO _ _ (hs b o nP e))) tb5 st5
theorem zN {n:Nat}{f:Addr}{fd:FuncData} (F:fH K "_law_left" "_law_left" (top 44) f fd) {g__law_cell_at:Addr}{gd__law_cell_at:FuncData} (c__law_cell_at:fL P w K mg base n "_law_cell_at" ["_law_script","_law_k"] (GZ K) g__law_cell_at gd__law_cell_at):aV P w K mg base d7 (n + 1) f fd ["_law_script","_law_k"] (La K):=by
 refine F.ok pJ (fun vs H Q E h=>?_) (fun cdv A outer s H vs Q E hr h=>?_)
 ·obtain ⟨a,ns,k,rfl,_⟩:=h
  rfl
 obtain ⟨a,ns,k,rfl,hS,hk,q⟩:=h
 have nd:=pJ.nd
 refine ⟨_,(aJ (aQ (iQ (aA (aL c__law_cell_at hr (aA (pv 0) (aA (pv 1) aC))) (aA (aR oV aF (aR gR (aR tD (aL c__law_cell_at hr (aA (pv 0) (aA aF aC))) aF) aF)) aC))))),?_⟩
 refine ⟨_,rfl,_,rfl,a,ns,k,rfl,hS,hk,fun x=>?_⟩
 refine ⟨_,rfl,a,ns,0,rfl,hS,by decide,fun y=>?_⟩
 refine ⟨_,_,rfl,rfl,⟨by decide,by decide⟩,_,_,rfl,rfl,(by show (0:Int) < 2; decide),_,_,rfl,rfl,qT,fun l hl=>?_⟩
 have g1:=Int.emod_nonneg (y / 24) (show (2:Int) ≠ 0 by decide)
 have g2:=Int.emod_lt_of_pos (y / 24) (show (0:Int) < 2 by decide)
 exact q l _ _ hl (by omega) (by omega)
theorem zJ {n:Nat}{f:Addr}{fd:FuncData} (F:fH K "_law_draw" "_law_draw" (top 45) f fd) {g__law_mixed:Addr}{gd__law_mixed:FuncData} (c__law_mixed:fL P w K mg base n "_law_mixed" ["_law_cell","_law_k"] O6 g__law_mixed gd__law_mixed):aV P w K mg base d7 (n + 1) f fd ["_law_left_here","_law_many"] Jc:=by
 refine F.ok pY (fun vs H Q E h=>?_) (fun cdv A outer s H vs Q E hr h=>?_)
 ·obtain ⟨l,x,b,m,rfl,_⟩:=h
  rfl
 obtain ⟨l,x,b,m,rfl,hl,m1,m9,b0,b9,q⟩:=h
 have nd:=pY.nd
 refine ⟨_,(aD (dW (bZ rC (bA eN (pv 0) aF (fun _ _=>rfl)) aF (cI _)) (aD (aP (i:=2) nd rfl (Or.inl rfl) (aR gR (bA eN (pv 0) aF (fun _ _=>rfl)) (pv 1))) (aD (Dt (aR tD (bA eN (pv 0) aF (fun _ _=>rfl)) (pv 1)) (Em (pv 0) aF u6)) (aJ (aQ (pv 2))))) bY) (aD (Dt (aR fQ (bA eN (pv 0) aF (fun _ _=>rfl)) aF) (Em (pv 0) aF u6)) (aJ (aQ (aR gR (aL c__law_mixed hr (aA (bA eN (pv 0) aF (fun _ _=>rfl)) (aA (bA eN (pv 0) aF (fun _ _=>rfl)) aC))) (pv 1)))))),?_⟩
 have AT:∀ (H:Hp) (y z:Int) (i:Nat) (v:Int),i < 2->[y,z][i]? = some v->Io [V.int y,V.int z] (i:Int)=some (V.int v):=fun H y z i v hi e=>by
  match i,hi,e with
  | 0,_,e=>cases e; rfl
  | 1,_,e=>cases e; rfl
 refine ⟨_,rfl,l,_,_,_,rfl,rfl,bR.of hl,rfl,rfl,_,rfl,?_⟩
 refine uR (fun c0=>?_) (fun c0=>?_)
 ·refine ⟨_,rfl,l,_,_,_,rfl,rfl,bR.of hl,rfl,_,rfl,_,_,rfl,rfl,(by show (0:Int) < m; omega),?_⟩
  refine ⟨_,rfl,l,_,_,_,rfl,rfl,bR.of hl,rfl,_,rfl,_,_,rfl,rfl,⟨by omega,by omega⟩,?_⟩
  refine ⟨_,rfl,l,_,0,0,rfl,rfl,hl,(by rfl),?_⟩
  refine ⟨_,rfl,?_⟩
  exact q _ _ b _ (Int.emod_nonneg _ (by omega)) (Int.emod_lt_of_pos _ (by omega)) b0 (by omega) (KX.put _) aB
 ·refine ⟨_,rfl,l,_,_,_,rfl,rfl,bR.of hl,rfl,_,_,rfl,rfl,?_⟩
  refine ⟨_,rfl,l,_,1,1,rfl,rfl,hl,(by rfl),?_⟩
  have e1:aY H l (.lst ([V.int x,V.int b].set 1 (.int (b + 1)))) l=some (.lst [V.int x,V.int (b + 1)]):=aB
  have k1:KX l H (aY H l (.lst ([V.int x,V.int b].set 1 (.int (b + 1))))):=KX.put _
  generalize aY H l (.lst ([V.int x,V.int b].set 1 (.int (b + 1))))=H1 at e1 k1 ⊢
  refine ⟨_,rfl,l,_,_,_,rfl,rfl,bR.of e1,rfl,_,rfl,l,_,_,_,rfl,rfl,bR.of e1,rfl,_,_,rfl,by omega,by omega,fun j j0 j9=>?_⟩
  refine ⟨_,rfl,_,_,rfl,rfl,(by show (0:Int) < m; omega),?_⟩
  exact q _ _ (b + 1) _ (Int.emod_nonneg _ (by omega)) (Int.emod_lt_of_pos _ (by omega)) (by omega) (by omega) k1 e1
theorem Ad {n:Nat}{f:Addr}{fd:FuncData} (F:fH K "_law_ends" "_law_ends" (top 46) f fd) {n0:Nat}{g__law_ends:Addr}{gd__law_ends:FuncData} (c__law_ends:fL P w K mg base n "_law_ends" ["_law_stand"] (M3 n0) g__law_ends gd__law_ends) (z_sum:mg "sum" = none):aV P w K mg base d7 (n + 1) f fd ["_law_stand"] (M3 (n0 + 1)):=by
 refine F.ok pX (fun vs H Q E h=>?_) (fun cdv A outer s H vs Q E hr h=>?_)
 ·obtain ⟨a,s,d,m,rfl,_⟩:=h
  rfl
 obtain ⟨a,s,d,m,rfl,to,ok,dn,q⟩:=h
 have nd:=pX.nd
 refine ⟨_,(aD (dW (bZ rC (bA bB (pv 0) aF (fun _ _=>rfl)) oW (cI _)) (aJ (aQ aF)) bY) (aJ (aQ (bC (kY rfl) rfl z_sum qQ (aA (cU (ls:=["_law_weight","_law_one"]) (M:=["_law_stand"]) rfl (cA.of (by rfl)) (NL.of (by rfl)) (Ew (bA bB (pv 0) aF (fun _ _=>rfl))) (fun _ _ _ _=>⟨(fX (K:=K) (n:=2) rfl rfl (bH (aW (i:=0) (cV (by rfl)) rfl (Or.inl rfl)) (bH (aW (i:=1) (cV (by rfl)) rfl (Or.inl rfl)) eG))),cQ,(aL c__law_ends hr (aA (pv 1) aC))⟩)) aC))))),?_⟩
 cases to with
 | @en _ v h =>
  refine ⟨_,rfl,a,_,_,_,rfl,rfl,bQ.of h,rfl,rfl,_,rfl,?_⟩
  refine iJ ?_
  exact q H (aN.refl _)
 | @st _ r p rs ps ys h g lp ly row sub =>
  cases ok with
  | @st _ _ d _ j h0 h9 ne l4 ww oks hk =>
  have hlr:(ps.map V.ref).length=rs.length:=by rw [List.length_map]; exact lp
  refine ⟨_,rfl,a,_,_,_,rfl,rfl,bQ.of h,rfl,rfl,_,rfl,?_⟩
  refine fZ ?_
  refine ⟨_,rfl,a,_,_,_,rfl,rfl,bQ.of h,rfl,r,rfl,⟨_,bQ.of g⟩,fun D hD=>?_⟩
  refine uN (xs:=ps.map V.ref) (fun i τ H'=>∃ v0 v1,τ = [v0,v1,some (.ref a)] /\ aN H H' /\ H' D=some (.lst (((rs.take i).map fun r=>Sd.nE (d + 1) r.2).map V.int))) ⟨none,none,rfl,aH hD _,aB⟩ ?keep ?turn ?done
  case keep =>
   rintro u τ H' hi ⟨v0,v1,rfl,hs,_⟩
   exact bQ.of (hs _ _ g)
  case turn =>
   rintro u mm v τ H' hm hi hv ⟨v0,v1,rfl,hs,hD'⟩
   obtain ⟨q1,y,t,er,rfl,h1,to,mem⟩:=Km lp ly row sub hv
   refine ⟨q1,_,rfl,bQ.of (hs _ _ h1),rfl,_,_,rfl,_,_,rfl,rfl,?_⟩
   refine eO ?_
   refine ⟨_,rfl,y,t.2,d,j t,rfl,to.same hs,oks t mem,by omega,fun H2 s2=>?_⟩
   refine bM hm hi (s2 _ _ hD') (by rw [List.length_map,List.length_map,List.length_take]; exact aX (by omega)) ⟨_,_,rfl,(hs.trans s2).upd_new hD _,?_⟩
   rw [aB,bG er,List.map_append,List.map_append]
   rfl
  case done =>
   rintro τ H1 ⟨v0,v1,rfl,hs,hD'⟩
   rw [hlr,List.take_length] at hD'
   exact ⟨D,_,rfl,bR.of hD',q H1 hs⟩
theorem wM {n:Nat}{f:Addr}{fd:FuncData}{dT:Addr} (F:K6 K dT "_law_model" "_law_model" (top 47) f fd) {n0:Nat}{g__law_model:Addr}{gd__law_model:FuncData} (c__law_model:fL P w K mg base n "_law_model" ["_law_left_here","_law_level","_law_most"] (MT n0) g__law_model gd__law_model) {g__law_ends:Addr}{gd__law_ends:FuncData} (c__law_ends:fL P w K mg base n "_law_ends" ["_law_stand"] (M3 6) g__law_ends gd__law_ends) {g__law_draw:Addr}{gd__law_draw:FuncData} (c__law_draw:fL P w K mg base n "_law_draw" ["_law_left_here","_law_many"] Jc g__law_draw gd__law_draw) (z_tuple:mg "tuple" = none) (z_range:mg "range" = none) (z_sum:mg "sum" = none) (z_min:mg "min" = none) (z_int:mg "int" = none):aV P w K mg base d7 (n + 1) f fd ["_law_left_here","_law_level","_law_most"] (MT (n0 + 1)):=by
 refine F.ok oF (fun vs H Q E h=>?_) (fun cdv A outer s H vs Q E hr h=>?_)
 ·obtain ⟨l,x,b,lev,most,n,rfl,_⟩:=h
  rfl
 obtain ⟨l,x,b,lev,most,n,rfl,hl,hlev,n4,nn,m1,m12,b0,b9,q⟩:=h
 have nd:=oF.nd
 refine ⟨_,(aD (dW (PW.pt (jU (bZ rC (pv 1) aF (cI _)) (jL (bZ rC (aL c__law_draw hr (aA (pv 0) (aA (bA eN (iQ (aA aF (aA aF aC))) (eY Hy rfl z_int Ea (aA (lG Ao (pv 1) aF (cI _)) aC)) (fun _ _=>rfl)) aC))) aF (cI _))))) (aJ (aQ (dF (aA oW (aA (aL c__law_draw hr (aA (pv 0) (aA (bA eN (iQ (aA aF (aA aF (aA (aR fQ (aR Jt aF aF) aF) aC)))) (aL c__law_draw hr (aA (pv 0) (aA aF aC))) (fun _ _=>rfl)) aC))) aC))))) bY) (aD (aP (i:=3) nd rfl (Or.inl rfl) (aL c__law_draw hr (aA (pv 0) (aA (bA eN (iQ (aA aF (aA aF (aA aF (aA (aR fQ (aR Jt aF aF) aF) aC))))) (aL c__law_draw hr (aA (pv 0) (aA aF aC))) (fun _ _=>rfl)) aC)))) (aD (aP (i:=4) nd rfl (Or.inl rfl) (iQ aC)) (aD (aP (i:=5) nd rfl (Or.inl rfl) (aR fQ aF (aL c__law_draw hr (aA (pv 0) (aA (bC (Hs rfl) rfl z_min Pn (aA aF (aA (pv 2) aC))) aC))))) (aD (jK PassesOwn.never rfl (gQ rfl z_range (aA (pv 5) aC)) (aW (i:=6) nd rfl (Or.inl rfl)) (aD (aP (i:=7) nd rfl (Or.inl rfl) (aR fQ aF (aL c__law_draw hr (aA (pv 0) (aA (bA eN (iQ (aA aF (aA aF aC))) (aL c__law_draw hr (aA (pv 0) (aA aF aC))) (fun _ _=>rfl)) aC))))) (aD (aP (i:=8) nd rfl (Or.inl rfl) (aR oV (aR oV (pv 2) (bC (kY rfl) rfl z_sum qQ (aA (cU (ls:=["_law_one"]) (M:=["_law_left_here","_law_level","_law_most","_law_price","_law_rows","_law_many","_law_row","_law_weight","_law_room"]) rfl (cA.of (by rfl)) (NL.of (by rfl)) (cT (pv 4)) (fun _ _ _ _=>⟨(aW (i:=0) (cV (by rfl)) rfl (Or.inl rfl)),cQ,(aL c__law_ends hr (aA (bA (iU (K:=K) rfl) (pv 0) aF (fun _ _=>rfl)) aC))⟩)) aC))) (aR oV (aR oV (pv 5) (pv 6)) aF))) (aJ (gY (yC PySem.F.plainAttrs_list PySem.F.slot_list_append PySem.F.type_list_append kJ (pv 4) (aA (dF (aA (pv 7) (aA (aL c__law_model hr (aA (pv 0) (aA (aR fQ (pv 1) aF) (aA (pv 8) aC)))) aC))) aC))))))) (aJ (aQ (dF (aA oW (aA (pv 3) (aA (eY (eX (K:=K) rfl) rfl z_tuple iK (aA (pv 4) aC)) aC))))))))))),?_⟩
 have d2:=Ji n
 refine ⟨_,rfl,rfl,_,rfl,?_⟩
 refine uR (fun _=>?_) (fun c0=>?_)
 ·refine iJ ?_
  refine ⟨_,rfl,_,_,rfl,rfl,p9,_,_,rfl,rfl,Yt,fun lE hlE=>?_⟩
  have mE:=aH hlE (.lst [V.int 10,V.int 1000,V.int (10 ^ (9:Int).toNat + 1)])
  have elE:aY H lE (.lst [V.int 10,V.int 1000,V.int (10 ^ (9:Int).toNat + 1)]) lE=some (.lst [V.int 10,V.int 1000,V.int (10 ^ (9:Int).toNat + 1)]):=aB
  have hLaE:=mE _ _ hl
  have nlE:lE ≠ l:=fun z=>by rw [z,hl] at hlE; cases hlE
  have kmE:KX l H (aY H lE (.lst [V.int 10,V.int 1000,V.int (10 ^ (9:Int).toNat + 1)])):=KX.of mE
  generalize aY H lE (.lst [V.int 10,V.int 1000,V.int (10 ^ (9:Int).toNat + 1)])=GE at mE elE hLaE kmE ⊢
  refine ⟨_,rfl,l,x,b,3,rfl,hLaE,by decide,by decide,by omega,by omega,fun iE xE bE HE i0E i1E b0E b1E kkE hLE=>?_⟩
  have el2E:=kkE _ _ nlE elE
  obtain ⟨vE,atE,uE,evE,u1E,u9E⟩:=Bu (xs:=[V.int 10,V.int 1000,V.int (10 ^ (9:Int).toNat + 1)]) (P:=fun v=>∃ u:Int,v = .int u /\ 1 <= u /\ u <= 1000000001) (fun v hv=>by
   simp only [List.mem_cons,List.not_mem_nil,or_false] at hv
   rcases hv with rfl | rfl | rfl
   ·exact ⟨_,rfl,by decide,by decide⟩
   ·exact ⟨_,rfl,by decide,by decide⟩
   ·exact ⟨_,rfl,by decide,by decide⟩
   ) i0E (by show iE < 3; exact i1E)
  subst evE
  refine ⟨lE,_,_,_,rfl,rfl,bR.of el2E,atE,l,xE,bE,uE,rfl,hLE,by omega,by omega,by omega,by omega,fun rE yE cE IE r0E r1E c0E c1E kjE hME=>?_⟩
  have ktE:=(kmE.trans kkE).trans kjE
  refine ⟨qT,fun t ht=>?_⟩
  have nt:=aH ht (.tup [.str "end",.int rE])
  exact q t (.en rE) _ yE cE ((KX.refl l H).trans (ktE.trans (KX.of nt))) (nt _ _ hME) c0E (by omega) (.en aB) (.en r0E (by omega) (by omega))
 have n0':n ≠ 0:=fun e=>c0 (decide_eq_true (by rw [hlev,e]; rfl))
 obtain ⟨n,rfl⟩ : ∃ n',n=n' + 1:=⟨n - 1,by omega⟩
 have dd:dN (n + 1)=4 + 4 * (2 + dN n):=rfl
 have d2':=Ji n
 refine ⟨_,rfl,qT,fun la hla=>?_⟩
 have ma:=aH hla (.lst [V.int 9,V.int 2])
 have ela:aY H la (.lst [V.int 9,V.int 2]) la=some (.lst [V.int 9,V.int 2]):=aB
 have hLa:=ma _ _ hl
 have kma:KX l H (aY H la (.lst [V.int 9,V.int 2])):=KX.of ma
 generalize aY H la (.lst [V.int 9,V.int 2])=Ha at ma ela hLa kma ⊢
 refine ⟨_,rfl,_,_,rfl,rfl,.inr ⟨_,rfl,?_⟩⟩
 obtain ⟨va,ata,ua,rfl,ua1,ua9⟩ : ∃ v,Io [V.int 9,V.int 2] (if decide (lev > 0)=true then 1 else 0)=some v /\ ∃ u:Int,v = .int u /\ 1 <= u /\ u <= 9:=by
  split
  ·exact ⟨_,rfl,2,rfl,by decide,by decide⟩
  ·exact ⟨_,rfl,9,rfl,by decide,by decide⟩
 refine ⟨la,_,_,_,rfl,rfl,bR.of ela,ata,l,x,b,ua,rfl,hLa,by omega,by omega,by omega,by omega,fun ra xa ba H1 ra0 ra1 ba0 ba1 ka hL1=>?_⟩
 have kA:=kma.trans ka
 refine ⟨rfl,_,rfl,?_⟩
 refine uR (fun _=>?_) (fun _=>?_)
 ·
  refine ⟨_,rfl,_,_,rfl,rfl,p9,_,_,rfl,rfl,Yt,fun lF hlF=>?_⟩
  have mF:=aH hlF (.lst [V.int 10,V.int 1000,V.int (10 ^ (9:Int).toNat + 1)])
  have elF:aY H1 lF (.lst [V.int 10,V.int 1000,V.int (10 ^ (9:Int).toNat + 1)]) lF=some (.lst [V.int 10,V.int 1000,V.int (10 ^ (9:Int).toNat + 1)]):=aB
  have hLaF:=mF _ _ hL1
  have nlF:lF ≠ l:=fun z=>by rw [z,hL1] at hlF; cases hlF
  have kmF:KX l H1 (aY H1 lF (.lst [V.int 10,V.int 1000,V.int (10 ^ (9:Int).toNat + 1)])):=KX.of mF
  generalize aY H1 lF (.lst [V.int 10,V.int 1000,V.int (10 ^ (9:Int).toNat + 1)])=GF at mF elF hLaF kmF ⊢
  refine ⟨_,rfl,l,xa,ba,3,rfl,hLaF,by decide,by decide,by omega,by omega,fun iF xF bF HF i0F i1F b0F b1F kkF hLF=>?_⟩
  have el2F:=kkF _ _ nlF elF
  obtain ⟨vF,atF,uF,evF,u1F,u9F⟩:=Bu (xs:=[V.int 10,V.int 1000,V.int (10 ^ (9:Int).toNat + 1)]) (P:=fun v=>∃ u:Int,v = .int u /\ 1 <= u /\ u <= 1000000001) (fun v hv=>by
   simp only [List.mem_cons,List.not_mem_nil,or_false] at hv
   rcases hv with rfl | rfl | rfl
   ·exact ⟨_,rfl,by decide,by decide⟩
   ·exact ⟨_,rfl,by decide,by decide⟩
   ·exact ⟨_,rfl,by decide,by decide⟩
   ) i0F (by show iF < 3; exact i1F)
  subst evF
  refine ⟨lF,_,_,_,rfl,rfl,bR.of el2F,atF,l,xF,bF,uF,rfl,hLF,by omega,by omega,by omega,by omega,fun rF yF cF IF r0F r1F c0F c1F kjF hMF=>?_⟩
  have ktF:=(kmF.trans kkF).trans kjF
  refine ⟨qT,fun t ht=>?_⟩
  have nt:=aH ht (.tup [.str "end",.int rF])
  exact q t (.en rF) _ yF cF (kA.trans (ktF.trans (KX.of nt))) (nt _ _ hMF) c0F (by omega) (.en aB) (.en r0F (by omega) (by omega))
 refine ⟨_,rfl,_,_,rfl,rfl,p9,_,_,rfl,rfl,VR (by decide:4 <= 1000),fun lP hlP=>?_⟩
 have mP:=aH hlP (.lst [V.int 1,V.int 6,V.int 6,V.int (10 ^ (9:Int).toNat + 1)])
 have elP:aY H1 lP (.lst [V.int 1,V.int 6,V.int 6,V.int (10 ^ (9:Int).toNat + 1)]) lP=some (.lst [V.int 1,V.int 6,V.int 6,V.int (10 ^ (9:Int).toNat + 1)]):=aB
 have hLaP:=mP _ _ hL1
 have nlP:lP ≠ l:=fun z=>by rw [z,hL1] at hlP; cases hlP
 have kmP:KX l H1 (aY H1 lP (.lst [V.int 1,V.int 6,V.int 6,V.int (10 ^ (9:Int).toNat + 1)])):=KX.of mP
 generalize aY H1 lP (.lst [V.int 1,V.int 6,V.int 6,V.int (10 ^ (9:Int).toNat + 1)])=GP at mP elP hLaP kmP ⊢
 refine ⟨_,rfl,l,xa,ba,4,rfl,hLaP,by decide,by decide,by omega,by omega,fun iP xP bP HP i0P i1P b0P b1P kkP hLP=>?_⟩
 have el2P:=kkP _ _ nlP elP
 obtain ⟨vP,atP,uP,evP,u1P,u9P⟩:=Bu (xs:=[V.int 1,V.int 6,V.int 6,V.int (10 ^ (9:Int).toNat + 1)]) (P:=fun v=>∃ u:Int,v = .int u /\ 1 <= u /\ u <= 1000000001) (fun v hv=>by
  simp only [List.mem_cons,List.not_mem_nil,or_false] at hv
  rcases hv with rfl | rfl | rfl | rfl
  ·exact ⟨_,rfl,by decide,by decide⟩
  ·exact ⟨_,rfl,by decide,by decide⟩
  ·exact ⟨_,rfl,by decide,by decide⟩
  ·exact ⟨_,rfl,by decide,by decide⟩
  ) i0P (by show iP < 4; exact i1P)
 subst evP
 refine ⟨lP,_,_,_,rfl,rfl,bR.of el2P,atP,l,xP,bP,uP,rfl,hLP,by omega,by omega,by omega,by omega,fun rP yP cP IP r0P r1P c0P c1P kjP hMP=>?_⟩
 have ktP:=(kmP.trans kkP).trans kjP
 have kP:=kA.trans ktP
 refine ⟨Nat.zero_le _,fun R hR=>?_⟩
 have nR:=aH hR (.lst [])
 have hL3:=nR _ _ hMP
 have hR0:H R=none:=by
  cases e:H R with
  | none=>rfl
  | some o =>
   by_cases z:R=l
   ·rw [z,hMP] at hR; cases hR
   ·rw [kP _ _ z e] at hR; cases hR
 have nRl:R ≠ l:=fun z=>by rw [z,hMP] at hR; cases hR
 have hR3:aY IP R (.lst []) R=some (.lst (([]:List Addr).map V.ref)):=aB
 have kR:KX l H (aY IP R (.lst [])):=kP.trans (KX.of nR)
 generalize aY IP R (.lst [])=H3 at nR hL3 hR3 kR ⊢
 obtain ⟨mn,hmn,mn1,mn4,mnm⟩ : ∃ mn:Int,(if most < 4 then most else 4)=mn /\ 1 <= mn /\ mn <= 4 /\ mn <= most:=by
  split
  ·exact ⟨_,rfl,by omega,by omega,by omega⟩
  ·exact ⟨_,rfl,by omega,by omega,by omega⟩
 refine ⟨_,rfl,_,rfl,_,_,rfl,?_⟩
 rw [hmn]
 refine ⟨l,yP,cP,mn,rfl,hL3,by omega,by omega,by omega,by omega,fun rm xm bm H4 rm0 rm1 bm0 bm1 km hL4=>?_⟩
 have hR4:=km _ _ nRl hR3
 have kR4:=kR.trans km
 refine ⟨_,_,rfl,rfl,?_⟩
 obtain ⟨M,rfl⟩ : ∃ M:Nat,rm=(M:Int) - 1:=⟨(1 + rm).toNat,by omega⟩
 refine ⟨_,rfl,(M:Int),congrArg (fun z=>[V.int z]) (show 1 + ((M:Int) - 1)=(M:Int) by omega),by omega,by omega,?_⟩
 refine kO (n:=(M:Int).toNat) (fun i σ H'=>∃ v6 v7 v8 ps ys rs x' b',σ = [some (.ref l),some (.int lev),some (.int most),some (.int rP),some (.ref R),some (.int (1 + ((M:Int) - 1))),v6,v7,v8] /\ KX l H H' /\ H' l=some (.lst [.int x',.int b']) /\ 0 <= b' /\ b' <= b + 4 + (i:Int) * (2 + dN n) /\ H' R=some (.lst (ps.map V.ref)) /\ wQ H' ps ys rs /\ rs.length=i /\ (∀ r ∈ rs,1 <= r.1 /\ r.1 <= 1000) /\ (∀ r ∈ rs,Sd.Ok r.2 n (Sd.nE (n + 1) r.2).toNat) /\ (rs.map fun r=>Sd.nE (n + 1) r.2).sum + ((M:Int) - i) <= most)
  ⟨none,none,none,[],[],[],xm,bm,rfl,kR4,hL4,bm0,by simp; omega,hR4,⟨rfl,rfl,(fun i q y t a=>by simp at a),(fun i y t a=>by simp at a)⟩,rfl,(fun _ h=>nomatch h),(fun _ h=>nomatch h),by simp; omega⟩ ?turn ?done
 case turn =>
  rintro i σ H5 hi ⟨v6,v7,v8,ps,ys,rs,x5,b5,rfl,k5,hL5,b50,b59,hR5,tw,rl,rw_,ro,rsum⟩
  have hiM:i < M:=by omega
  have im:((i:Int) + 1) * (2 + dN n)=(i:Int) * (2 + dN n) + (2 + dN n):=by rw [Int.add_mul,Int.one_mul]
  have im4:((i:Int) + 1) * (2 + dN n) <= 4 * (2 + dN n):=Int.mul_le_mul_of_nonneg_right (by omega) (by omega)
  refine ⟨_,rfl,qT,fun lW hlW=>?_⟩
  have mW:=aH hlW (.lst [V.int 3,V.int 1000])
  have elW:aY H5 lW (.lst [V.int 3,V.int 1000]) lW=some (.lst [V.int 3,V.int 1000]):=aB
  have hLaW:=mW _ _ hL5
  have nlW:lW ≠ l:=fun z=>by rw [z,hL5] at hlW; cases hlW
  have kmW:KX l H5 (aY H5 lW (.lst [V.int 3,V.int 1000])):=KX.of mW
  generalize aY H5 lW (.lst [V.int 3,V.int 1000])=GW at mW elW hLaW kmW ⊢
  refine ⟨_,rfl,l,x5,b5,2,rfl,hLaW,by decide,by decide,by omega,by omega,fun iW xW bW HW i0W i1W b0W b1W kkW hLW=>?_⟩
  have el2W:=kkW _ _ nlW elW
  obtain ⟨vW,atW,uW,evW,u1W,u9W⟩:=Bu (xs:=[V.int 3,V.int 1000]) (P:=fun v=>∃ u:Int,v = .int u /\ 1 <= u /\ u <= 1000) (fun v hv=>by
   simp only [List.mem_cons,List.not_mem_nil,or_false] at hv
   rcases hv with rfl | rfl
   ·exact ⟨_,rfl,by decide,by decide⟩
   ·exact ⟨_,rfl,by decide,by decide⟩
   ) i0W (by show iW < 2; exact i1W)
  subst evW
  refine ⟨lW,_,_,_,rfl,rfl,bR.of el2W,atW,l,xW,bW,uW,rfl,hLW,by omega,by omega,by omega,by omega,fun rW yW cW IW r0W r1W c0W c1W kjW hMW=>?_⟩
  have ktW:=(kmW.trans kkW).trans kjW
  refine ⟨_,_,rfl,rfl,?_⟩
  have hRW:=ktW _ _ nRl hR5
  have kt5:∀ b xs,H5 b=some (.tup xs)->IW b=some (.tup xs):=fun b xs e=>ktW _ _ (bO e hL5 fun z=>nomatch z) e
  have twW:=tw.keep kt5
  have hlr:(ps.map V.ref).length=rs.length:=by rw [List.length_map]; exact tw.lp
  refine ⟨_,rfl,_,rfl,R,rfl,⟨_,bR.of hRW⟩,fun D hD=>?_⟩
  refine cD (xs:=ps.map V.ref) (fun u τ H'=>∃ v0,τ = [v0,some (.ref l),some (.int lev),some (.int most),some (.int rP),some (.ref R),some (.int (1 + ((M:Int) - 1))),some (.int (0 + (i:Int))),some (.int (1 + rW)),v8] /\ aN IW H' /\ H' D=some (.lst (((rs.take u).map fun r=>Sd.nE (n + 1) r.2).map V.int))) ⟨none,rfl,aH hD _,aB⟩ ?keep2 ?turn2 ?done2
  case keep2 =>
   rintro u τ H' hu ⟨v0,rfl,hs,_⟩
   exact bR.of (hs _ _ hRW)
  case turn2 =>
   rintro u mm v τ H' hmm hu hv ⟨v0,rfl,hs,hD'⟩
   obtain ⟨q1,y,t,er,rfl,h1,to,mem⟩:=Km twW.lp twW.ly twW.row twW.sub hv
   refine Dw ?_
   refine ⟨_,rfl,q1,_,_,_,rfl,rfl,bQ.of (hs _ _ h1),rfl,y,t.2,n,_,rfl,to.same hs,ro t mem,by omega,fun H2 s2=>?_⟩
   refine bM hmm hu (s2 _ _ hD') (by rw [List.length_map,List.length_map,List.length_take]; exact aX (by omega)) ⟨_,rfl,(hs.trans s2).upd_new hD _,?_⟩
   rw [aB,bG er,List.map_append,List.map_append]
   rfl
  case done2 =>
  rintro τ H6 ⟨v0,rfl,hs6,hD6⟩
  rw [hlr,List.take_length] at hD6
  refine ⟨D,_,rfl,bR.of hD6,_,_,rfl,rfl,_,rfl,_,rfl,_,_,rfl,rfl,_,_,rfl,rfl,_,_,rfl,rfl,?_⟩
  have hL6:=hs6 _ _ hMW
  have hR6:=hs6 _ _ hRW
  have rm1':(1:Int) <= most - (rs.map fun r=>Sd.nE (n + 1) r.2).sum - (1 + ((M:Int) - 1) - (0 + (i:Int)) - 1):=by omega
  have snn:0 <= (rs.map fun r=>Sd.nE (n + 1) r.2).sum:=K3 (fun z hz=>by obtain ⟨r,_,rfl⟩:=List.mem_map.mp hz; exact Sd.yI _ _)
  refine ⟨_,rfl,.inl ⟨rfl,_,bR.of hR6⟩,_,rfl,_,rfl,_,rfl,_,_,rfl,rfl,_,rfl,l,yW,cW,_,_,n,rfl,hL6,by omega,by omega,by omega,rm1',by omega,by omega,by omega,fun t s H7 x7 b7 k7 hL7 b70 b79 to7 ok7=>?_⟩
  refine ⟨qT,fun T hT=>?_⟩
  have n8:=aH hT (.tup [.int (1 + rW),.ref t])
  have hR7:=k7 _ _ nRl hR6
  have hR8:=n8 _ _ hR7
  have pl:ps.length=i:=by rw [tw.lp,rl]
  have tR:∀ b xs,aY H7 T (.tup [.int (1 + rW),.ref t]) b=some (.tup xs)->aY (aY H7 T (.tup [.int (1 + rW),.ref t])) R (.lst (ps.map V.ref ++ [.ref T])) b=some (.tup xs):=fun b xs e=>by rw [aK (bO e hR8 fun w=>nomatch w)]; exact e
  have tw8:=((twW.keep fun b xs e=>n8 _ _ (k7 _ _ (bO (hs6 _ _ e) hL6 fun w=>nomatch w) (hs6 _ _ e))).keep tR).snoc (t:=(1 + rW,s)) (tR _ _ aB) ((to7.same n8).keep tR)
  have okE:Sd.Ok s n (Sd.nE (n + 1) s).toNat:=Sd.XD ok7 (by have:=Sd.yI (n + 1) s; omega) (Sd.X5 ok7)
  have le7:=ok7.nE (n + 1) (by omega)
  refine ⟨R,_,_,rfl,rfl,hR8,by rw [List.length_map,pl]; exact aX (by omega),?_⟩
  refine ⟨_,_,_,ps ++ [T],ys ++ [t],rs ++ [(1 + rW,s)],x7,b7,rfl,fun b o nb e=>?_,?_,b70,by push_cast; omega,by rw [aB,List.map_append]; rfl,tw8,by rw [List.length_append,rl]; rfl,fun z hz=>?_,fun z hz=>?_,?_⟩
  ·have hb:b ≠ R:=fun w=>by rw [w,hR0] at e; cases e
   rw [aK hb]
   exact n8 _ _ (k7 _ _ nb (hs6 _ _ (ktW _ _ nb (k5 b o nb e))))
  ·rw [aK (Ne.symm nRl)]
   exact n8 _ _ hL7
  ·rcases List.mem_append.mp hz with w | w
   ·exact rw_ z w
   ·rw [List.mem_singleton.mp w]
    exact ⟨by show 1 <= 1 + rW; omega,by show 1 + rW <= 1000; omega⟩
  ·rcases List.mem_append.mp hz with w | w
   ·exact ro z w
   ·rw [List.mem_singleton.mp w]
    exact okE
  ·rw [List.map_append,List.sum_append]
   show _ + (Sd.nE (n + 1) s + 0) + _ <= _
   push_cast
   omega
 case done =>
  rintro σ H5 ⟨v6,v7,v8,ps,ys,rs,x5,b5,rfl,k5,hL5,b50,b59,hR5,tw,rl,rw_,ro,rsum⟩
  rw [show (M:Int).toNat=M by omega] at rl b59
  have im4:(M:Int) * (2 + dN n) <= 4 * (2 + dN n):=Int.mul_le_mul_of_nonneg_right (by omega) (by omega)
  refine ⟨_,rfl,_,rfl,R,_,rfl,.inl ⟨bR.of hR5,fun t ht=>?_⟩⟩
  have n5:=aH ht (.tup (ps.map V.ref))
  refine ⟨Yt,fun r hr1=>?_⟩
  have n6:=aH hr1 (.tup [.str "stage",.int rP,.ref t])
  have tw6:=(tw.same n5).same n6
  have snat:((rs.map fun r=>(Sd.nE (n + 1) r.2).toNat).sum:Int)=(rs.map fun r=>Sd.nE (n + 1) r.2).sum:=Gq rs
  refine q r (.st rP rs) _ x5 b5 (k5.trans (KX.of (n5.trans n6))) (n6 _ _ (n5 _ _ hL5)) b50 (by omega) (.st aB (n6 _ _ aB) tw6.lp tw6.ly tw6.row tw6.sub) (.st (f:=fun r=>(Sd.nE (n + 1) r.2).toNat) r0P (by omega) (fun e=>by rw [e] at rl; have:(0:Nat)=M:=rl; omega) (by omega) rw_ ro (by omega))
theorem DY {pos:Pos}{qual:Str}{H:Hp}{a:Addr}{xs zs:List V} (t:fG Pt pos qual H) (e:H a=some (.lst xs)):fG Pt pos qual (aY H a (.lst zs)):=by
 rcases t with t | ⟨c,t,u⟩
 ·exact .inl (by rw [aK (bO t e fun z=>nomatch z)]; exact t)
 ·exact .inr ⟨c,by rw [aK (bO t e fun z=>nomatch z)]; exact t,by rw [aK (bO u e fun z=>nomatch z)]; exact u⟩
theorem uO {n:Nat}{f:Addr}{fd:FuncData} (F:fH K "_law_models" "_law_models" (top 49) f fd) {ds_md:List Value} (v_md:bL [.int 0,.int 12] ds_md) {g__law_cell_at:Addr}{gd__law_cell_at:FuncData} (c__law_cell_at:fL P w K mg base n "_law_cell_at" ["_law_script","_law_k"] (GZ K) g__law_cell_at gd__law_cell_at) {g__law_model:Addr}{gd__law_model:FuncData} (c__law_model:fL P w K mg base n "_law_model" ["_law_left_here","_law_level","_law_most"] (MT 5) g__law_model gd__law_model) {g__law_left:Addr}{gd__law_left:FuncData} (c__law_left:fL P w K mg base n "_law_left" ["_law_script","_law_k"] (La K) g__law_left gd__law_left) (b_md:bI K gd__law_model ["_law_left_here","_law_level","_law_most"] ds_md) (z_range:mg "range" = none):aV P w K mg base d7 (n + 1) f fd ["_law_script","_law_many"] (Od K):=by
 refine F.ok mD (fun vs H Q E h=>?_) (fun cdv A outer s H vs Q E hr h=>?_)
 ·obtain ⟨a,ns,m,rfl,_⟩:=h
  rfl
 obtain ⟨a,ns,m,rfl,hS,m1,m6,q⟩:=h
 have nd:=mD.nd
 refine ⟨_,(aD (aP (i:=2) nd rfl (Or.inr rfl) (aL c__law_left hr (aA (pv 0) (aA aF aC)))) (aD (aP (i:=3) nd rfl (Or.inr rfl) (cU (ls:=["_law_k"]) (M:=["_law_script","_law_many","_law_left_here","_law_models_here"]) rfl (cA.of (by rfl)) (NL.of (by rfl)) (gQ rfl z_range (aA (pv 1) aC)) (fun _ _ _ _=>⟨(aW (i:=0) (cV (by rfl)) rfl (Or.inl rfl)),cQ,(zQ c__law_model.ok hr rfl c__law_model.at_ c__law_model.kp b_md v_md eE (aA (pv 3) aC))⟩))) (aD (dW (bZ rC (aR gR (aR tD (aL c__law_cell_at hr (aA (pv 0) (aA aF aC))) aF) aF) aF (cI _)) (aJ (aP (i:=3) nd rfl (Or.inr rfl) (cU (ls:=["_law_k"]) (M:=["_law_script","_law_many","_law_left_here","_law_models_here"]) rfl (cA.of (by rfl)) (NL.of (by rfl)) (gQ rfl z_range (aA (pv 1) aC)) (fun _ _ _ _=>⟨(aW (i:=0) (cV (by rfl)) rfl (Or.inl rfl)),cQ,(bA (vC (K:=K) rfl) (iQ (aA (bA (vC (K:=K) rfl) (pv 4) (pv 0) (fun _ _=>rfl)) (aA (bA (vC (K:=K) rfl) (pv 4) aF (fun _ _=>rfl)) aC))) (aR gR (pv 0) aF) (fun _ _=>rfl))⟩)))) bY) (aJ (aQ (pv 3)))))),?_⟩
 refine ⟨_,rfl,a,ns,1,rfl,hS,by decide,fun l x b hl b0 b1=>?_⟩
 have n1:=aH hl (.lst [.int x,.int b])
 have e1:aY H l (.lst [.int x,.int b]) l=some (.lst [.int x,.int b]):=aB
 generalize aY H l (.lst [.int x,.int b])=H1 at n1 e1 ⊢
 have d4:dN 4=1532:=by decide
 refine ⟨_,rfl,m,rfl,by omega,by omega,fun D hD=>?_⟩
 have nDl:D ≠ l:=fun z=>by rw [z,e1] at hD; cases hD
 refine u0 (n:=m.toNat) (fun i τ H'=>∃ v0 ts x' b',τ = [v0,some (.ref a),some (.int m),some (.ref l),none] /\ KX l H1 H' /\ H' l=some (.lst [.int x',.int b']) /\ 0 <= b' /\ b' <= 1 + (i:Int) * 1532 /\ H' D=some (.lst (ts.map V.ref)) /\ (∀ t ∈ ts,Md H' t) /\ ts.length=i) ⟨none,[],x,b,rfl,KX.of (aH hD _),aH hD _ _ _ e1,b0,by simp; omega,aB,(fun _ h=>nomatch h),rfl⟩ ?turn ?done
 case turn =>
  rintro i mm τ H2 hmm hi ⟨v0,ts,x2,b2,rfl,k2,hL2,b20,b21,hD2,hmd,tl⟩
  have i6:(i:Int) * 1532 <= 5 * 1532:=Int.mul_le_mul_of_nonneg_right (by omega) (by decide)
  refine Dw ?_
  refine ⟨_,rfl,l,x2,b2,0,12,4,rfl,hL2,by decide,by decide,by decide,by decide,by decide,b20,by rw [d4]; omega,fun t s H3 x3 b3 k3 hL3 b30 b31 to ok=>?_⟩
  rw [d4] at b31
  have hD3:=k3 _ _ nDl hD2
  refine bM hmm hi hD3 (by rw [List.length_map]; exact aX (by omega)) ⟨_,ts ++ [t],x3,b3,rfl,(fun b' o nb e=>?_),?_,b30,by push_cast; rw [Int.add_mul,Int.one_mul]; omega,by rw [aB,List.map_append]; rfl,fun z hz=>?_,by rw [List.length_append,tl]; rfl⟩
  ·rw [aK (aU e hD)]; exact k3 _ _ nb (k2 _ _ nb e)
  ·rw [aK (Ne.symm nDl)]; exact hL3
  ·have kd:∀ c xs,H3 c=some (.tup xs)->aY H3 D (.lst (ts.map V.ref ++ [V.ref t])) c=some (.tup xs):=fun c xs e=>by rw [aK (bO e hD3 fun w=>nomatch w)]; exact e
   rcases List.mem_append.mp hz with w | w
   ·exact ((hmd z w).keep fun c xs e=>k3 _ _ (bO e hL2 fun w=>nomatch w) e).keep kd
   ·rw [List.mem_singleton.mp w]
    exact Md.keep kd ⟨s,to,ok⟩
 case done =>
 rintro τ H2 ⟨v0,ts,x2,b2,rfl,k2,hL2,b20,b21,hD2,hmd,tl⟩
 have s2:aN H H2:=fun b' o e=>k2 _ _ (aU e hl) (n1 _ _ e)
 refine ⟨_,rfl,a,ns,0,rfl,s2.seq hS,by decide,fun c0=>?_⟩
 refine ⟨_,_,rfl,rfl,⟨by decide,by decide⟩,_,_,rfl,rfl,(by show (0:Int) < 4; decide),rfl,_,rfl,?_⟩
 refine uR (fun _=>?_) (fun _=>?_)
 case refine_2=>exact ⟨_,rfl,q D ts H2 s2 hD2 hmd (by omega)⟩
 refine ⟨_,rfl,m,rfl,by omega,by omega,fun D3 hD3=>?_⟩
 refine u0 (n:=m.toNat) (fun i τ H'=>∃ v0 us,τ = [v0,some (.ref a),some (.int m),some (.ref l),some (.ref D)] /\ aN H2 H' /\ H' D3=some (.lst (us.map V.ref)) /\ (∀ t ∈ us,t ∈ ts) /\ us.length=i) ⟨none,[],rfl,aH hD3 _,aB,(fun _ h=>nomatch h),rfl⟩ ?turn3 ?done3
 case turn3 =>
  rintro i mm τ H4 hmm hi ⟨v0,us,rfl,s4,hD4,hus,ul⟩
  have hit:i < ts.length:=by omega
  have h0t:0 < ts.length:=by omega
  refine Dw ?_
  refine ⟨_,rfl,_,rfl,D,_,_,_,rfl,rfl,bR.of (s4 _ _ hD2),(by rw [Int.zero_add]; exact fU (v:=V.ref ts[i]) (by rw [List.getElem?_map,List.getElem?_eq_getElem hit]; rfl)),_,rfl,D,_,_,_,rfl,rfl,bR.of (s4 _ _ hD2),fU (j:=0) (v:=V.ref ts[0]) (by rw [List.getElem?_map,List.getElem?_eq_getElem h0t]; rfl),qT,fun l2 hl2=>?_⟩
  have n5:=aH hl2 (.lst [V.ref ts[i],V.ref ts[0]])
  obtain ⟨v,hv,u,rfl,hu⟩:=Bu (xs:=[V.ref ts[i],V.ref ts[0]]) (P:=fun v=>∃ u,v = .ref u /\ u ∈ ts) (fun v hv=>by
   simp only [List.mem_cons,List.not_mem_nil,or_false] at hv
   rcases hv with rfl | rfl
   ·exact ⟨_,rfl,List.getElem_mem hit⟩
   ·exact ⟨_,rfl,List.getElem_mem h0t⟩) (r:=(0 + (i:Int)) % 2) (Int.emod_nonneg _ (by decide)) (Int.emod_lt_of_pos _ (by decide))
  refine ⟨_,rfl,_,_,rfl,rfl,(by show (0:Int) < 2; decide),l2,_,_,_,rfl,rfl,bR.of aB,hv,?_⟩
  refine bM hmm hi (n5 _ _ hD4) (by rw [List.length_map]; exact aX (by omega)) ⟨_,us ++ [u],rfl,(s4.trans n5).upd_new hD3 _,by rw [aB,List.map_append]; rfl,fun z hz=>?_,by rw [List.length_append,ul]; rfl⟩
  rcases List.mem_append.mp hz with w | w
  ·exact hus z w
  ·rw [List.mem_singleton.mp w]; exact hu
 case done3 =>
 rintro τ H4 ⟨v0,us,rfl,s4,hD4,hus,ul⟩
 exact ⟨_,rfl,q D3 us H4 (s2.trans s4) hD4 (fun t ht=>(hmd t (hus t ht)).keep fun c xs e=>s4 _ _ e) (by omega)⟩
theorem wN {n:Nat}{f:Addr}{fd:FuncData} (F:fH K "_law_boxes" "_law_boxes" (top 50) f fd) {c:Cs}{g__law_object:Addr}{gd__law_object:FuncData} (c__law_object:fL P w K mg base n "_law_object" ["_law_model_here"] (Lq c Pt iD 5) g__law_object gd__law_object) (z_range:mg "range" = none) (z_len:mg "len" = none):aV P w K mg base d7 (n + 1) f fd ["_law_models_here"] (OJ c Pt iD):=by
 refine F.ok oA (fun vs H Q E h=>?_) (fun cdv A outer s H vs Q E hr h=>?_)
 ·obtain ⟨l,ts,rfl,_⟩:=h
  rfl
 obtain ⟨l,ts,rfl,hl,hmd,t1,t6,tb,q⟩:=h
 have nd:=oA.nd
 have hu15:_ + 13 + 2 < cLine:=Nat.lt_of_le_of_lt (Nat.add_le_add_left (by decide:15 <= 64) _) (fD.units hr)
 refine ⟨_,(aD (aP (i:=1) nd rfl (Or.inl rfl) (iQ aC)) (aD (jK PassesOwn.never rfl (gQ rfl z_range (aA (bC cX rfl z_len jX (aA (pv 0) aC)) aC)) (aW (i:=2) nd rfl (Or.inl rfl)) (aD (aP (i:=3) nd rfl (Or.inl rfl) (yC PySem.F.plainAttrs_list PySem.F.slot_list_index PySem.F.type_list_index (HB (n:=13) hu15) (pv 0) (aA (bA eN (pv 0) (pv 2) (fun _ _=>rfl)) aC))) (aJ (dW (bZ tW (pv 3) (pv 2) (cI _)) (aJ (gY (yC PySem.F.plainAttrs_list PySem.F.slot_list_append PySem.F.type_list_append kJ (pv 1) (aA (bA eN (pv 1) (pv 3) (fun _ _=>rfl)) aC)))) (aJ (gY (yC PySem.F.plainAttrs_list PySem.F.slot_list_append PySem.F.type_list_append kJ (pv 1) (aA (aL c__law_object hr (aA (bA eN (pv 0) (pv 2) (fun _ _=>rfl)) aC)) aC)))))))) (aJ (aQ (pv 1))))),?_⟩
 refine ⟨Nat.zero_le _,fun R hR=>?_⟩
 have n1:=aH hR (.lst [])
 refine ⟨_,rfl,l,_,rfl,.inl (bR.of (n1 _ _ hl)),(ts.length:Int),by rw [List.length_map],by omega,by omega,?_⟩
 refine kO (n:=(ts.length:Int).toNat) (fun i σ H'=>∃ v2 v3 ys,σ = [some (.ref l),some (.ref R),v2,v3] /\ cH Pt H H' /\ fG Pt iD lK H' /\ H' R=some (.lst (ys.map V.ref)) /\ ys.length=i /\ Q0 c H H' ts ys) ⟨none,none,[],rfl,n1.toT,tb.same n1,aB,rfl,(fun _ _ _ _ h=>by simp at h)⟩ ?turn ?done
 case done =>
  rintro σ H' ⟨v2,v3,ys,rfl,s2,tb2,hR2,yl,hy⟩
  exact ⟨_,rfl,q R ys H' s2 tb2 hR hR2 (by omega) hy⟩
 case turn =>
  rintro i σ H2 hi ⟨v2,v3,ys,rfl,s2,tb2,hR2,yl,hy⟩
  have kt2:=cH.kt s2 tb
  have hl2:=kt2.lst hl
  have hit:i < ts.length:=by omega
  have eti:ts[i]? = some ts[i]:=List.getElem?_eq_getElem hit
  have hmd2:∀ t ∈ ts,Md H2 t:=fun t ht=>(hmd t ht).keep fun b xs e=>kt2.tup e
  obtain ⟨e,he,hee,hsm⟩:=Qu (K:=K) hmd2 (List.getElem_mem hit)
  obtain ⟨j,tj,ej,hj,hji,hno⟩:=BP (e:=e) eti hee
  have atk:Io (ts.map V.ref) (0 + (i:Int))=some (V.ref ts[i]):=by rw [Int.zero_add]; exact fU (by rw [List.getElem?_map,eti]; rfl)
  refine ⟨_,rfl,.inl ⟨rfl,_,bR.of hl2⟩,_,rfl,_,rfl,l,_,_,_,rfl,rfl,bR.of hl2,atk,l,ts[i],ts,e,j,tj,rfl,rfl,hl2,by omega,he,ej,hj,hno,?_⟩
  refine ⟨_,rfl,_,rfl,_,_,rfl,rfl,_,rfl,?_⟩
  refine uR (fun c0=>?_) (fun c0=>?_)
  ·have cji:(j:Int) < 0 + (i:Int):=of_decide_eq_true c0
   have hjy:j < ys.length:=by omega
   refine ⟨_,rfl,.inl ⟨rfl,_,bR.of hR2⟩,_,rfl,_,rfl,R,_,_,_,rfl,rfl,bR.of hR2,fU (v:=V.ref ys[j]) (by rw [List.getElem?_map,List.getElem?_eq_getElem hjy]; rfl),R,_,_,rfl,rfl,hR2,by rw [List.length_map]; exact aX (by omega),?_⟩
   refine ⟨_,_,ys ++ [ys[j]],rfl,s2.upd_new hR _,DY tb2 hR2,by rw [aB,List.map_append]; rfl,by rw [List.length_append,yl]; rfl,fun u t y e1 e2=>?_⟩
   by_cases hu:u < ys.length
   ·rw [List.getElem?_append_left hu] at e2
    obtain ⟨s,to,st⟩:=hy u t y e1 e2
    exact ⟨s,to,qM hR2 st⟩
   ·rw [List.getElem?_append_right (by omega)] at e2
    have:u=i:=by have:=(List.getElem?_eq_some_iff.mp e2).1; simp at this; omega
    subst this
    rw [show u - ys.length=0 by omega] at e2
    cases e2
    rw [eti] at e1
    cases e1
    obtain ⟨s,to,st⟩:=hy j tj ys[j] ej (List.getElem?_eq_getElem hjy)
    obtain ⟨s',to',_⟩:=hmd ts[u] (List.getElem_mem hit)
    have t1:=hsm tj (List.mem_of_getElem? ej) hj s (to.keep fun b xs e=>kt2.tup e)
    have t2:=to'.keep (H':=H2) fun b xs e=>kt2.tup e
    rw [Ab t1 t2] at st
    exact ⟨s',to',qM hR2 st⟩
  ·obtain ⟨s,to0,ok⟩:=hmd ts[i] (List.getElem_mem hit)
   have to:=to0.keep (H':=H2) fun b xs e=>kt2.tup e
   refine ⟨_,rfl,.inl ⟨rfl,_,bR.of hR2⟩,_,rfl,_,rfl,l,_,_,_,rfl,rfl,bR.of hl2,atk,ts[i],s,4,12,rfl,to,ok,by decide,by decide,by decide,tb2,fun x H3 s3 tb3 st=>?_⟩
   have kt3:=cH.kt s3 tb2
   have hR3:=kt3.lst hR2
   refine ⟨R,_,_,rfl,rfl,hR3,by rw [List.length_map]; exact aX (by omega),?_⟩
   refine ⟨_,_,ys ++ [x],rfl,(s2.trans s3).upd_new hR _,DY tb3 hR3,by rw [aB,List.map_append]; rfl,by rw [List.length_append,yl]; rfl,fun u t y e1 e2=>?_⟩
   by_cases hu:u < ys.length
   ·rw [List.getElem?_append_left hu] at e2
    obtain ⟨s,to,st⟩:=hy u t y e1 e2
    exact ⟨s,to,qM hR3 (st.kp kt3.kp)⟩
   ·rw [List.getElem?_append_right (by omega)] at e2
    have:u=i:=by have:=(List.getElem?_eq_some_iff.mp e2).1; simp at this; omega
    subst this
    rw [show u - ys.length=0 by omega] at e2
    cases e2
    rw [eti] at e1
    cases e1
    exact ⟨s,to0,qM hR3 st⟩
theorem wA {n:Nat}{f:Addr}{fd:FuncData} (F:fH K "_law_whole" "_law_whole" (top 51) f fd) (z_isinstance:mg "isinstance" = none) (z_bool:mg "bool" = none) (z_int:mg "int" = none):aV P w K mg base d7 (n + 1) f fd ["_law_found"] xG:=by
 refine F.ok oG (fun vs H Q E h=>?_) (fun cdv A outer s H vs Q E hr h=>?_)
 ·obtain ⟨i,rfl,_⟩:=h
  rfl
 obtain ⟨i,rfl,q⟩:=h
 have nd:=oG.nd
 refine ⟨_,(aJ (aQ (oN (bC (fJ (T:="int")) rfl z_isinstance cN (aA (pv 0) (aA (jP (v:=.ty "int") rfl z_int Ea rfl) aC))) (oO (LR (bC (fJ (T:="bool")) rfl z_isinstance cN (aA (pv 0) (aA (jP (v:=.ty "bool") rfl z_bool Fl rfl) aC)))))))),?_⟩
 refine ⟨_,rfl,_,_,_,rfl,.int i,gD _,_,rfl,?_⟩
 refine iJ ?_
 refine ⟨_,rfl,_,_,_,rfl,.int i,oY,_,rfl,?_⟩
 exact q
theorem sG {n:Nat}{f:Addr}{fd:FuncData} (F:fH K "_law_divisor" "_law_divisor" (top 52) f fd) (z_abs:mg "abs" = none):aV P w K mg base d7 (n + 1) f fd ["_law_one","_law_other"] Bf:=by
 refine F.ok lM (fun vs H Q E h=>?_) (fun cdv A outer s H vs Q E hr h=>?_)
 ·obtain ⟨a,b,rfl,_⟩:=h
  rfl
 obtain ⟨a,b,rfl,q⟩:=h
 have nd:=lM.nd
 refine ⟨_,(aD (Bg PassesOwn.never (bZ Fg (pv 1) aF (cI _)) (aJ (Py (i:=0) (j:=1) rfl nd rfl rfl (by decide) rfl rfl (aA (pv 1) (aA (aR FW (pv 0) (pv 1)) aC)) rfl))) (aJ (aQ (bC Bl rfl z_abs Kg (aA (pv 0) aC))))),?_⟩
 refine Cr (fun σ H'=>∃ x y,σ = [some (.int x),some (.int y)] /\ Int.gcd x y=Int.gcd a b /\ H'=H) (fun σ _=>match σ with | [_,some (.int y)]=>y.natAbs | _=>0) ⟨a,b,rfl,rfl,rfl⟩ (fun σ H' ⟨x,y,e,hg,eH⟩=>?_) (fun σ H Q Q' hQ ⟨v,e,hs,k,ek,q⟩=>⟨v,e,hs,k,ek,hQ _ _ q⟩)
 subst e eH
 refine ⟨_,rfl,rfl,_,rfl,?_⟩
 by_cases hy:y=0
 ·subst hy
  refine wK (by simp) ?_
  refine ⟨_,rfl,_,rfl,?_⟩
  have e:(if x < 0 then -x else x)=((Int.gcd a b:Nat):Int):=by
   rw [<- hg,Int.gcd_zero]
   split <;> omega
  rw [e]
  exact q
 ·refine wO (by simp [hy]) ?_
  refine ⟨_,rfl,_,rfl,_,rfl,x,y,rfl,rfl,hy,_,_,rfl,?_⟩
  exact ⟨⟨y,x.fmod y,rfl,(Fr.DW x y).trans hg,rfl⟩,Fr.xA hy⟩
theorem vL {n:Nat}{f:Addr}{fd:FuncData} (F:fH K "_law_lowest" "_law_lowest" (top 53) f fd) {g__law_divisor:Addr}{gd__law_divisor:FuncData} (c__law_divisor:fL P w K mg base n "_law_divisor" ["_law_one","_law_other"] Bf g__law_divisor gd__law_divisor):aV P w K mg base d7 (n + 1) f fd ["_law_top","_law_bottom"] zG:=by
 refine F.ok mU (fun vs H Q E h=>?_) (fun cdv A outer s H vs Q E hr h=>?_)
 ·obtain ⟨t,b,rfl,_⟩:=h
  rfl
 obtain ⟨t,b,rfl,hb,hz,q⟩:=h
 have nd:=mU.nd
 refine ⟨_,(aD (aP (i:=2) nd rfl (Or.inl rfl) (aL c__law_divisor hr (aA (pv 0) (aA (pv 1) aC)))) (aJ (aQ (dF (aA (aR fP (pv 0) (pv 2)) (aA (aR fP (pv 1) (pv 2)) aC)))))),?_⟩
 have hb0:b ≠ 0:=Int.ne_of_gt hb
 have hdn:=Fr.yJ (t:=t) hb0
 refine ⟨_,rfl,_,rfl,t,b,rfl,?_⟩
 have e:((Int.gcd t b:Nat):Int)=Fr.dv t b:=by unfold Fr.dv; rw [if_neg (by omega)]
 unfold Fr.sh at q
 have hdz:=hz
 rw [<- e] at q hdn
 refine ⟨_,rfl,_,rfl,_,_,rfl,rfl,⟨hdn,hdz⟩,_,rfl,_,rfl,_,_,rfl,rfl,⟨hdn,hdz⟩,qT,fun p hp=>?_⟩
 exact q p _ (aH hp _) aB
theorem CZ {n:Nat}{f:Addr}{fd:FuncData} (F:fH K "_law_sum" "_law_sum" (top 54) f fd) {g__law_lowest:Addr}{gd__law_lowest:FuncData} (c__law_lowest:fL P w K mg base n "_law_lowest" ["_law_top","_law_bottom"] zG g__law_lowest gd__law_lowest):aV P w K mg base d7 (n + 1) f fd ["_law_one","_law_other"] yN:=by
 refine F.ok rB (fun vs H Q E h=>?_) (fun cdv A outer s H vs Q E hr h=>?_)
 ·obtain ⟨p,q,x,y,n0,rfl,_⟩:=h
  rfl
 obtain ⟨p,q,x,y,n0,rfl,hp,hq,z1,hn0,z2,k⟩:=h
 have nd:=rB.nd
 refine ⟨_,(aJ (aQ (aL c__law_lowest hr (aA (aR fQ (aR bT (bA bB (pv 0) aF (fun _ _=>rfl)) (bA bB (pv 1) aF (fun _ _=>rfl))) (aR bT (bA bB (pv 1) aF (fun _ _=>rfl)) (bA bB (pv 0) aF (fun _ _=>rfl)))) (aA (aR bT (bA bB (pv 0) aF (fun _ _=>rfl)) (bA bB (pv 1) aF (fun _ _=>rfl))) aC))))),?_⟩
 refine ⟨_,rfl,p,_,_,_,rfl,rfl,(bQ.of hp),rfl,_,rfl,q,_,_,_,rfl,rfl,(bQ.of hq),rfl,_,_,rfl,rfl,dX z1.t z2.b (by omega),_,rfl,q,_,_,_,rfl,rfl,(bQ.of hq),rfl,_,rfl,p,_,_,_,rfl,rfl,(bQ.of hp),rfl,_,_,rfl,rfl,dX z2.t z1.b (by omega),_,_,rfl,rfl,_,rfl,p,_,_,_,rfl,rfl,(bQ.of hp),rfl,_,rfl,q,_,_,_,rfl,rfl,(bQ.of hq),rfl,_,_,rfl,rfl,dX z1.b z2.b (by omega),_,_,rfl,Int.mul_pos z1.fr.pos z2.p,Fz z1.fr z2.p z2.b,k⟩
theorem vR {n:Nat}{f:Addr}{fd:FuncData} (F:fH K "_law_times" "_law_times" (top 55) f fd) {g__law_lowest:Addr}{gd__law_lowest:FuncData} (c__law_lowest:fL P w K mg base n "_law_lowest" ["_law_top","_law_bottom"] zG g__law_lowest gd__law_lowest):aV P w K mg base d7 (n + 1) f fd ["_law_one","_law_other"] Nv:=by
 refine F.ok nU (fun vs H Q E h=>?_) (fun cdv A outer s H vs Q E hr h=>?_)
 ·obtain ⟨p,q,x,y,rfl,_⟩:=h
  rfl
 obtain ⟨p,q,x,y,rfl,hp,hq,z1,z2,k⟩:=h
 have nd:=nU.nd
 refine ⟨_,(aJ (aQ (aL c__law_lowest hr (aA (aR bT (bA bB (pv 0) aF (fun _ _=>rfl)) (bA bB (pv 1) aF (fun _ _=>rfl))) (aA (aR bT (bA bB (pv 0) aF (fun _ _=>rfl)) (bA bB (pv 1) aF (fun _ _=>rfl))) aC))))),?_⟩
 refine ⟨_,rfl,p,_,_,_,rfl,rfl,(bQ.of hp),rfl,_,rfl,q,_,_,_,rfl,rfl,(bQ.of hq),rfl,_,_,rfl,rfl,dX z1.t z2.t (by decide),_,rfl,p,_,_,_,rfl,rfl,(bQ.of hp),rfl,_,rfl,q,_,_,_,rfl,rfl,(bQ.of hq),rfl,_,_,rfl,rfl,dX z1.b z2.b (by decide),_,_,rfl,Int.mul_pos z1.p z2.p,Bk (Int.mul_pos z1.p z2.p) (Nat.le_trans (PySem.intBits_mul_le z1.b z2.b) (by decide)),k⟩
theorem p6 {n:Nat}{f:Addr}{fd:FuncData} (F:fH K "_law_is_share" "_law_is_share" (top 56) f fd) {g__law_divisor:Addr}{gd__law_divisor:FuncData} (c__law_divisor:fL P w K mg base n "_law_divisor" ["_law_one","_law_other"] Bf g__law_divisor gd__law_divisor) {g__law_whole:Addr}{gd__law_whole:FuncData} (c__law_whole:fL P w K mg base n "_law_whole" ["_law_found"] xG g__law_whole gd__law_whole) (z_len:mg "len" = none) (z_isinstance:mg "isinstance" = none) (z_tuple:mg "tuple" = none):aV P w K mg base d7 (n + 1) f fd ["_law_found"] tH:=by
 refine F.ok kW (fun vs H Q E h=>?_) (fun cdv A outer s H vs Q E hr h=>?_)
 ·obtain ⟨p,x,rfl,_⟩:=h
  rfl
 obtain ⟨p,x,rfl,hp,f,q⟩:=h
 have nd:=kW.nd
 refine ⟨_,(aD (dW (PW.pt (jU (eV (dR (bC (fJ (T:="tuple")) rfl z_isinstance cN (aA (pv 0) (aA (jP (v:=.ty "tuple") rfl z_tuple iK rfl) aC))))) (jU (bZ Fg (bC cX rfl z_len jX (aA (pv 0) aC)) aF (cI _)) (jU (eV (dR (aL c__law_whole hr (aA (bA bB (pv 0) aF (fun _ _=>rfl)) aC)))) (jL (eV (dR (aL c__law_whole hr (aA (bA bB (pv 0) aF (fun _ _=>rfl)) aC))))))))) (aJ (aQ nH)) bY) (aJ (aQ (oN (lG Ao (bA bB (pv 0) aF (fun _ _=>rfl)) aF (cI _)) (oO (lG rC (aL c__law_divisor hr (aA (bA bB (pv 0) aF (fun _ _=>rfl)) (aA (bA bB (pv 0) aF (fun _ _=>rfl)) aC))) aF (cI _))))))),?_⟩
 refine ⟨_,rfl,_,_,_,rfl,.tup hp,gD _,_,rfl,?_⟩
 refine fZ ?_
 refine ⟨_,rfl,p,_,rfl,.inr (bQ.of hp),rfl,_,rfl,?_⟩
 refine fZ ?_
 refine ⟨_,rfl,p,_,_,_,rfl,rfl,bQ.of hp,rfl,_,rfl,_,rfl,?_⟩
 refine fZ ?_
 refine ⟨_,rfl,p,_,_,_,rfl,rfl,bQ.of hp,rfl,_,rfl,_,rfl,?_⟩
 refine fZ ?_
 refine ⟨_,rfl,p,_,_,_,rfl,rfl,bQ.of hp,rfl,_,_,rfl,rfl,_,rfl,?_⟩
 refine wO (decide_eq_true f.pos) ?_
 refine ⟨_,rfl,p,_,_,_,rfl,rfl,bQ.of hp,rfl,_,rfl,p,_,_,_,rfl,rfl,bQ.of hp,rfl,x.1,x.2,rfl,rfl,?_⟩
 rw [show (x.1.gcd x.2)=1 from f.red]
 exact q H (fun _ _ h=>h)
theorem HJ {n:Nat}{f:Addr}{fd:FuncData} (F:fH K "share" "share" (top 9) f fd) {g_common_divisor:Addr}{gd_common_divisor:FuncData} (c_common_divisor:fL P w K mg base n "common_divisor" ["one","other"] Bf g_common_divisor gd_common_divisor):aV P w K mg base d7 (n + 1) f fd ["top","bottom"] Aw:=by
 refine F.ok oZ (fun vs H Q E h=>?_) (fun cdv A outer s H vs Q E hr h=>?_)
 ·obtain ⟨t,b,rfl,_⟩:=h
  rfl
 obtain ⟨t,b,rfl,hb,hz,q⟩:=h
 have nd:=oZ.nd
 refine ⟨_,(aD (aP (i:=2) nd rfl (Or.inl rfl) (aL c_common_divisor hr (aA (pv 0) (aA (pv 1) aC)))) (aD (dW (bZ tW (pv 1) aF (cI _)) (aJ (aP (i:=2) nd rfl (Or.inl rfl) (FT zU (pv 2)))) bY) (aJ (aQ (dF (aA (aR fP (pv 0) (pv 2)) (aA (aR fP (pv 1) (pv 2)) aC))))))),?_⟩
 have hdz:intBits (Fr.dv t b) <= 9000:=PySem.intBits_le_of_natAbs (by rw [Fr.mZ,Int.natAbs_natCast]; exact Nat.le_refl _) hz
 have hdn:=Fr.yJ (t:=t) hb
 refine ⟨_,rfl,_,rfl,t,b,rfl,?_⟩
 refine ⟨_,rfl,_,_,rfl,rfl,_,rfl,?_⟩
 refine uR (fun c=>?_) (fun c=>?_)
 ·have e:-((Int.gcd t b:Nat):Int)=Fr.dv t b:=by unfold Fr.dv; rw [if_pos (of_decide_eq_true c)]
  unfold Fr.sh at q
  rw [<- e] at q hdz hdn
  refine ⟨_,rfl,_,rfl,?_⟩
  refine ⟨_,rfl,_,rfl,_,_,rfl,rfl,⟨hdn,hdz⟩,_,rfl,_,rfl,_,_,rfl,rfl,⟨hdn,hdz⟩,qT,fun p hp=>?_⟩
  exact q p _ (aH hp _) aB
 ·have e:((Int.gcd t b:Nat):Int)=Fr.dv t b:=by unfold Fr.dv; rw [if_neg (of_decide_eq_false (Bool.eq_false_iff.mpr c))]
  unfold Fr.sh at q
  rw [<- e] at q hdz hdn
  refine ⟨_,rfl,_,rfl,_,_,rfl,rfl,⟨hdn,hdz⟩,_,rfl,_,rfl,_,_,rfl,rfl,⟨hdn,hdz⟩,qT,fun p hp=>?_⟩
  exact q p _ (aH hp _) aB
theorem Ln {n:Nat}{f:Addr}{fd:FuncData} (F:fH K "plus" "plus" (top 11) f fd) {g_share:Addr}{gd_share:FuncData} (c_share:fL P w K mg base n "share" ["top","bottom"] Aw g_share gd_share):aV P w K mg base d7 (n + 1) f fd ["one","other"] yN:=by
 refine F.ok Gr (fun vs H Q E h=>?_) (fun cdv A outer s H vs Q E hr h=>?_)
 ·obtain ⟨p,q,x,y,n0,rfl,_⟩:=h
  rfl
 obtain ⟨p,q,x,y,n0,rfl,hp,hq,z1,hn0,z2,k⟩:=h
 have nd:=Gr.nd
 refine ⟨_,(aJ (aQ (aL c_share hr (aA (aR fQ (aR bT (bA bB (pv 0) aF (fun _ _=>rfl)) (bA bB (pv 1) aF (fun _ _=>rfl))) (aR bT (bA bB (pv 1) aF (fun _ _=>rfl)) (bA bB (pv 0) aF (fun _ _=>rfl)))) (aA (aR bT (bA bB (pv 0) aF (fun _ _=>rfl)) (bA bB (pv 1) aF (fun _ _=>rfl))) aC))))),?_⟩
 refine ⟨_,rfl,p,_,_,_,rfl,rfl,(bQ.of hp),rfl,_,rfl,q,_,_,_,rfl,rfl,(bQ.of hq),rfl,_,_,rfl,rfl,dX z1.t z2.b (by omega),_,rfl,q,_,_,_,rfl,rfl,(bQ.of hq),rfl,_,rfl,p,_,_,_,rfl,rfl,(bQ.of hp),rfl,_,_,rfl,rfl,dX z2.t z1.b (by omega),_,_,rfl,rfl,_,rfl,p,_,_,_,rfl,rfl,(bQ.of hp),rfl,_,rfl,q,_,_,_,rfl,rfl,(bQ.of hq),rfl,_,_,rfl,rfl,dX z1.b z2.b (by omega),_,_,rfl,Int.ne_of_gt (Int.mul_pos z1.fr.pos z2.p),Fz z1.fr z2.p z2.b,k⟩
theorem uC {n:Nat}{f:Addr}{fd:FuncData} (F:fH K "caps" "Stand.caps" (aG (top 31) 4) f fd) {c:Cs} (ck:CK K c) (z_list:mg "list" = none):aV P w K mg base d7 (n + 1) f fd ["self"] (sW c):=by
 refine F.ok gW (fun vs H Q E h=>?_) (fun cdv A outer s H vs Q E hr h=>?_)
 ·obtain ⟨x,s,d,m,xs0,rfl,_⟩:=h
  rfl
 obtain ⟨x,s,d,m,xs0,rfl,st,ct,q⟩:=h
 have nd:=gW.nd
 refine ⟨_,(aJ (aQ (eY lA rfl z_list mX (aA (dO (pv 0) rfl) aC)))),?_⟩
 cases st with
 | @en _ _ l cp v n' k' _ _ xs h vv ok =>
  cases gG.uniq ct ⟨_,_,_,_,h,rfl,vv.caps⟩
  refine ⟨_,rfl,x,c.e,_,_,_,rfl,h,ck.ce,ck.e4,rfl,?_⟩
  refine ⟨cp,_,rfl,.inr (bQ.of vv.caps.1),fun r hr0=>?_⟩
  have n1:=aH hr0 (.lst (gC xs0))
  exact q r _ n1 hr0 ⟨aB,fun y hy=>(vv.caps.2 y hy).same n1⟩
 | @st _ _ l cp r0 p n' k' lv _ _ j xs rs ps ys h vv g lp ly row sub p0 p9 ne l4 w hk =>
  cases gG.uniq ct ⟨_,_,_,_,h,rfl,vv.caps⟩
  refine ⟨_,rfl,x,c.s,_,_,_,rfl,h,ck.cs,ck.s4,rfl,?_⟩
  refine ⟨cp,_,rfl,.inr (bQ.of vv.caps.1),fun r hr0=>?_⟩
  have n1:=aH hr0 (.lst (gC xs0))
  exact q r _ n1 hr0 ⟨aB,fun y hy=>(vv.caps.2 y hy).same n1⟩
theorem v9 {n:Nat}{f:Addr}{fd:FuncData} (F:fH K "by_weights" "by_weights" (top 20) f fd) {g_share:Addr}{gd_share:FuncData} (c_share:fL P w K mg base n "share" ["top","bottom"] sS g_share gd_share) {g_common_multiple:Addr}{gd_common_multiple:FuncData} (c_common_multiple:fL P w K mg base n "common_multiple" ["numbers"] (M6 K) g_common_multiple gd_common_multiple) (z_sum:mg "sum" = none):aV P w K mg base d7 (n + 1) f fd ["rows","weights"] Ot:=by
 refine F.ok nY (fun vs H Q E h=>?_) (fun cdv A outer s H vs Q E hr h=>?_)
 ·obtain ⟨a,xs,W,rfl,_⟩:=h
  rfl
 obtain ⟨a,xs,W,rfl,hT,hb,hW,hWz,q⟩:=h
 have nd:=nY.nd
 refine ⟨_,(aD (aP (i:=2) nd rfl (Or.inr rfl) (aL c_common_multiple hr (aA (cU (ls:=["worth","weight"]) (M:=["rows","weights","bottom","top"]) rfl (cA.of (by rfl)) (NL.of (by rfl)) (cT (pv 0)) (fun _ _ _ _=>⟨(fX (K:=K) (n:=2) rfl rfl (bH (aW (i:=0) (cV (by rfl)) rfl (Or.inl rfl)) (bH (aW (i:=1) (cV (by rfl)) rfl (Or.inl rfl)) eG))),cQ,(bA (iU (K:=K) rfl) (pv 0) aF (fun _ _=>rfl))⟩)) aC))) (aD (aP (i:=3) nd rfl (Or.inl rfl) (bC (kY rfl) rfl z_sum qQ (aA (cU (ls:=["worth","weight"]) (M:=["rows","weights","bottom","top"]) rfl (cA.of (by rfl)) (NL.of (by rfl)) (cT (pv 0)) (fun _ _ _ _=>⟨(fX (K:=K) (n:=2) rfl rfl (bH (aW (i:=0) (cV (by rfl)) rfl (Or.inl rfl)) (bH (aW (i:=1) (cV (by rfl)) rfl (Or.inl rfl)) eG))),cQ,(aR bT (aR bT (pv 1) (bA (iU (K:=K) rfl) (pv 0) aF (fun _ _=>rfl))) (aR fP (pv 4) (bA (iU (K:=K) rfl) (pv 0) aF (fun _ _=>rfl))))⟩)) aC))) (aJ (aQ (aL c_share hr (aA (pv 3) (aA (aR bT (pv 2) (pv 1)) aC))))))),?_⟩
 have hlr:=bV xs
 have hlen:=hb.len
 have bpos:∀ n ∈ xs.map cB.b,0 < n:=fun n hn=>by
  obtain ⟨x,hx,rfl⟩:=List.mem_map.mp hn
  exact hb.b x hx
 obtain ⟨lp,ld⟩:=tE bpos
 have b9:∀ n ∈ xs.map cB.b,intBits n <= 9000:=fun n hn=>by
  obtain ⟨x,hx,rfl⟩:=List.mem_map.mp hn
  have:=hb.z x hx
  omega
 have bz:((xs.map cB.b).map intBits).sum <= 200000:=by
  have h:=lH (k:=4000) (l:=(xs.map cB.b).map intBits) fun n hn=>by
   obtain ⟨z,hz,rfl⟩:=List.mem_map.mp hn
   obtain ⟨x,hx,rfl⟩:=List.mem_map.mp hz
   exact hb.z x hx
  rw [List.length_map,List.length_map] at h
  omega
 refine ⟨_,rfl,a,rfl,⟨_,bR.of hT.lst⟩,fun D hD=>?_⟩
 refine cD (xs:=gC xs) (fun i τ H'=>∃ v0 v1,τ = [v0,v1,some (.ref a),some (.int W),none,none] /\ aN H H' /\ H' D=some (.lst ((xs.take i).map fun x=>V.int x.b))) ⟨none,none,rfl,aH hD _,aB⟩ ?keep ?turn ?done
 case keep =>
  rintro i τ H' hi ⟨v0,v1,rfl,hs,_⟩
  exact bR.of (hT.same hs).lst
 case turn =>
  rintro i m v τ H' hm hi hv ⟨v0,v1,rfl,hs,hD'⟩
  obtain ⟨x,hx,rfl⟩:=jA hv
  have hr:=(hT.same hs).rows x (List.mem_of_getElem? hx)
  refine ⟨x.p,_,rfl,bQ.of hr.1,rfl,_,_,rfl,_,_,rfl,rfl,?_⟩
  refine eO ?_
  refine ⟨_,rfl,x.q,_,_,_,rfl,rfl,bQ.of hr.2,rfl,?_⟩
  refine bM hm hi hD' (by rw [List.length_map]; exact aX (Nat.le_trans (List.length_take_le _ _) (by omega))) ⟨_,_,rfl,hs.upd_new hD _,?_⟩
  rw [aB,bG hx,List.map_append]
  rfl
 case done =>
 rintro τ H1 ⟨v0,v1,rfl,s1,hD1⟩
 rw [hlr,List.take_length] at hD1
 refine ⟨D,xs.map cB.b,rfl,bR.of (by rw [hD1,List.map_map]; rfl),bpos,b9,bz,?_⟩
 have hT1:=hT.same s1
 refine ⟨_,rfl,a,rfl,⟨_,bR.of hT1.lst⟩,fun E2 hE=>?_⟩
 refine cD (xs:=gC xs) (fun i τ H'=>∃ v0 v1,τ = [v0,v1,some (.ref a),some (.int W),some (.int (bK xs)),none] /\ aN H1 H' /\ H' E2=some (.lst ((xs.take i).map fun x=>V.int (x.w * x.t * (bK xs).fdiv x.b)))) ⟨none,none,rfl,aH hE _,aB⟩ ?keep2 ?turn2 ?done2
 case keep2 =>
  rintro i τ H' hi ⟨v0,v1,rfl,hs,_⟩
  exact bR.of (hT1.same hs).lst
 case turn2 =>
  rintro i m v τ H' hm hi hv ⟨v0,v1,rfl,hs,hD'⟩
  obtain ⟨x,hx,rfl⟩:=jA hv
  have hmem:=List.mem_of_getElem? hx
  have hr:=(hT1.same hs).rows x hmem
  have xb:=hb.b x hmem
  have xt:=hb.t x hmem
  have xw:=hb.w x hmem
  have xz:=hb.z x hmem
  refine ⟨x.p,_,rfl,bQ.of hr.1,rfl,_,_,rfl,_,_,rfl,rfl,?_⟩
  refine eO ?_
  refine ⟨_,rfl,_,rfl,x.q,_,_,_,rfl,rfl,bQ.of hr.2,rfl,_,_,rfl,rfl,dX xw xt (by decide),_,rfl,_,rfl,x.q,_,_,_,rfl,rfl,bQ.of hr.2,rfl,_,_,rfl,rfl,⟨Int.ne_of_gt xb,by omega⟩,_,_,rfl,rfl,dX (m:=5000) (n:=5000) (PySem.intBits_mul_le xw xt) (PySem.intBits_fdiv_le hb.lz) (by decide),?_⟩
  refine bM hm hi hD' (by rw [List.length_map]; exact aX (Nat.le_trans (List.length_take_le _ _) (by omega))) ⟨_,_,rfl,hs.upd_new hE _,?_⟩
  rw [aB,bG hx,List.map_append]
  rfl
 case done2 =>
 rintro τ H2 ⟨v0,v1,rfl,s2,hE2⟩
 rw [hlr,List.take_length] at hE2
 refine ⟨E2,xs.map fun x=>x.w * x.t * (bK xs).fdiv x.b,rfl,bR.of (by rw [hE2,List.map_map]; rfl),?_⟩
 have zz:=hb.lz
 refine ⟨_,rfl,_,rfl,_,rfl,_,_,rfl,rfl,dX zz hWz (by decide),?_⟩
 refine ⟨_,_,rfl,Int.ne_of_gt (Int.mul_pos lp hW),Nat.le_trans (PySem.intBits_mul_le zz hWz) (by decide),fun p H' s' hp=>?_⟩
 have e:Sd.tB (bK xs) (cM xs)=(xs.map fun x=>x.w * x.t * (bK xs).fdiv x.b).sum:=by unfold Sd.tB cM; rw [List.map_map]; rfl
 exact q p H' ((s1.trans s2).trans s') (by rw [e]; exact hp)
theorem Iv {n:Nat}{f:Addr}{fd:FuncData} (F:fH K "above" "above" (top 21) f fd) {g_by_weights:Addr}{gd_by_weights:FuncData} (c_by_weights:fL P w K mg base n "by_weights" ["rows","weights"] Ot g_by_weights gd_by_weights) {g_all_weights:Addr}{gd_all_weights:FuncData} (c_all_weights:fL P w K mg base n "all_weights" ["table"] NQ g_all_weights gd_all_weights) {g_below:Addr}{gd_below:FuncData} (c_below:fL P w K mg base n "below" ["one","other"] (zL K) g_below gd_below):aV P w K mg base d7 (n + 1) f fd ["table","level"] O2:=by
 refine F.ok Ar (fun vs H Q E h=>?_) (fun cdv A outer s H vs Q E hr h=>?_)
 ·obtain ⟨a,l,xs,lv,d,m,rfl,_⟩:=h
  rfl
 obtain ⟨a,l,xs,lv,d,m,rfl,hT,gs,d4,m12,hl,lw,q⟩:=h
 have nd:=Ar.nd
 refine ⟨_,(aD (Ma (i:=2) (ls:=["worth","weight"]) (M:=["table","level","higher"]) rfl (cA.of (by rfl)) (NL.of (by rfl)) nd rfl (Or.inl rfl) (cT (pv 0)) (fun _ _ _ _=>⟨(fX (K:=K) (n:=2) rfl rfl (bH (aW (i:=0) (cV (by rfl)) rfl (Or.inl rfl)) (bH (aW (i:=1) (cV (by rfl)) rfl (Or.inl rfl)) eG))),(Mw (dR (aL c_below hr (aA (pv 3) (aA (pv 0) aC))))),(dF (aA (pv 0) (aA (pv 1) aC)))⟩)) (aJ (aQ (aL c_by_weights hr (aA (aR PL (pv 2) (iQ (aA (dF (aA (pv 1) (aA (FT zU (aL c_all_weights hr (aA (pv 2) aC))) aC))) aC))) (aA (aL c_all_weights hr (aA (pv 0) aC)) aC)))))),?_⟩
 have hlr:=bV xs
 obtain ⟨l0,l1⟩:=lv
 have hl:H l=some (.tup [.int l0,.int l1]):=hl
 have cp:=Ay d4 m12 gs.2
 have pb:=gs.1.pb cp
 have lb:intBits l1 <= 1501 /\ intBits l0 <= 3031:=Nf lw
 have glen:=Nat.le_trans gs.1.len cp.n
 have ylen:∀ {i:Nat}{ys:List cB},cM ys=cM ((xs.take i).filter fun x=>decide (l0 * x.b < x.t * l1))->ys.length <= 12:=fun {i ys} e=>by
  have h1:ys.length=((xs.take i).filter fun x=>decide (l0 * x.b < x.t * l1)).length:=by rw [<- dJ,e,dJ]
  have h2:=List.length_filter_le (fun x:cB=>decide (l0 * x.b < x.t * l1)) (xs.take i)
  have h3:=List.length_take_le i xs
  have h4:(xs.take i).length <= xs.length:=by rw [List.length_take]; omega
  omega
 refine ⟨_,rfl,a,rfl,⟨_,bR.of hT.lst⟩,fun D hD=>?_⟩
 refine cD (xs:=gC xs) (fun i τ H'=>∃ v0 v1 ys,τ = [v0,v1,some (.ref a),some (.ref l),none] /\ aN H H' /\ eZ H' D ys /\ cM ys=cM ((xs.take i).filter fun x=>decide (l0 * x.b < x.t * l1))) ⟨none,none,[],rfl,aH hD _,⟨aB,fun _ h=>nomatch h⟩,rfl⟩ ?keep ?turn ?done
 case keep =>
  rintro i τ H' hi ⟨v0,v1,ys,rfl,hs,_⟩
  exact bR.of (hT.same hs).lst
 case turn =>
  rintro i m v τ H' hm hi hv ⟨v0,v1,ys,rfl,hs,hY,hf⟩
  obtain ⟨x,hx,rfl⟩:=jA hv
  have hmem:=List.mem_of_getElem? hx
  have hr:=(hT.same hs).rows x hmem
  have xt:=(pb x hmem).2.1
  have xb:=(pb x hmem).2.2.1
  refine ⟨x.p,_,rfl,bQ.of hr.1,rfl,_,_,rfl,_,_,rfl,rfl,?_⟩
  refine ⟨_,rfl,_,rfl,l,x.q,l0,l1,x.t,x.b,rfl,bQ.of (hs _ _ hl),bQ.of hr.2,⟨by omega,by omega,by omega,by omega⟩,_,rfl,?_⟩
  refine uR (fun c=>?_) (fun c=>?_)
  ·refine ⟨_,rfl,_,rfl,qT,fun p hp=>?_⟩
   have n1:=aH hp (.tup [.ref x.q,.int x.w])
   have hY1:=hY.same n1
   refine bM hm hi hY1.lst (by rw [bV]; exact aX (Nat.le_trans (ylen hf) (by decide))) ⟨_,_,ys ++ [⟨p,x.q,x.t,x.b,x.w⟩],rfl,(hs.trans n1).upd_new hD _,⟨?_,?_⟩,?_⟩
   ·rw [aB,jC]
   ·intro y hy
    rcases List.mem_append.mp hy with z | z
    ·exact (hY1.rows y z).over hY1.lst
    ·have e:y = ⟨p,x.q,x.t,x.b,x.w⟩:=by simpa using z
     subst e
     exact gM.over ⟨aB,n1 _ _ hr.2⟩ hY1.lst
   ·rw [bG hx,List.filter_append,List.filter_cons_of_pos (by simpa using c)]
    unfold cM at hf ⊢
    rw [List.map_append,List.map_append,hf]
    rfl
  ·refine Im hm hi ⟨_,_,ys,rfl,hs,hY,?_⟩
   rw [bG hx,List.filter_append,List.filter_cons_of_neg (by simpa using c),List.filter_nil,List.append_nil]
   exact hf
 case done =>
 rintro τ H1 ⟨v0,v1,ys,rfl,s1,hY,hf⟩
 have yl:=ylen hf
 rw [hlr,List.take_length] at hf
 have yok:∀ y ∈ ys,0 < y.b /\ intBits y.t <= 4000 /\ intBits y.b <= 4000 /\ 1 <= y.w /\ y.b ∣ bK xs /\ y.w <= bN xs:=fun y hy=>by
  obtain ⟨z,hz,e1,e2,e3⟩:=QD hf hy
  have hz1:=(List.mem_filter.mp hz).1
  have p:=pb z hz1
  rw [<- e1,<- e2,<- e3]
  exact ⟨p.1.pos,p.2.1,p.2.2.1,p.2.2.2.1,(gs.1.fq z hz1).dv,j5 gs.1.w1 hz1⟩
 have efl:cM ys=(cM xs).filter fun r=>decide ((l0,l1).1 * r.b < r.t * (l0,l1).2):=by
  rw [hf]
  unfold cM
  rw [List.filter_map]
  rfl
 have yw:0 <= bN ys /\ bN ys <= bN xs:=by
  rw [jV,jV,efl]
  exact Sd.BL fun r hr=>by
   obtain ⟨x,hx,rfl⟩:=List.mem_map.mp hr
   have:=gs.1.w1 x hx
   show 0 <= x.w
   omega
 have W1:=gs.1.tot
 have W2:bN xs <= 2 ^ 600:=Int.le_trans gs.1.ws cp.w
 have wb:∀ z:Int,-(2 ^ 600) <= z->z <= 2 ^ 600->intBits z <= 1000:=fun z h1 h2=>iZ (Int.lt_of_lt_of_le (show -(2 ^ 1000:Int) < -(2 ^ 600) by decide +kernel) h1) (Int.lt_of_le_of_lt h2 (by decide +kernel))
 refine ⟨_,rfl,_,rfl,_,rfl,D,ys,rfl,hY,by omega,fun H2 s2=>⟨_,rfl,qT,fun p3 hp3=>⟨Yv,fun l4 hl4=>?_⟩⟩⟩
 have n3:=aH hp3 (.tup [.ref l,.int (-(bN ys))])
 have n4:=aH hl4 (.lst [.ref p3])
 have s4:=s2.trans (n3.trans n4)
 have hY4:=hY.same s4
 refine ⟨D,l4,_,_,rfl,rfl,hY4.lst,aB,by rw [bV]; exact Nat.le_of_lt (aX (by show ys.length + 1 <= 1000; omega)),fun c5 hc5=>?_⟩
 have n5:=aH hc5 (.lst (gC ys ++ [.ref p3]))
 have s5:=s4.trans n5
 have hv3:=n4 _ _ (aB (H:=H2) (a:=p3) (o:=.tup [.ref l,.int (-(bN ys))]))
 refine ⟨_,rfl,a,xs,rfl,hT.same (s1.trans s5),by omega,fun H6 s6=>?_⟩
 have hT6:eZ H6 c5 (ys ++ [(cB.mk p3 l l0 l1 (-(bN ys)))]):=by
  refine ⟨s6 _ _ (by rw [jC]; exact aB),fun y hy=>?_⟩
  rcases List.mem_append.mp hy with z | z
  ·exact (hY.rows y z).same (s5.trans s6)
  ·have e:y=(cB.mk p3 l l0 l1 (-(bN ys))):=by simpa using z
   subst e
   exact ⟨s6 _ _ (n5 _ _ hv3),s6 _ _ (s5 _ _ (s1 _ _ hl))⟩
 have all:∀ (P':cB->Prop),(∀ y ∈ ys,P' y)->P' (cB.mk p3 l l0 l1 (-(bN ys)))->∀ y ∈ ys ++ [(cB.mk p3 l l0 l1 (-(bN ys)))],P' y:=fun P' h1 h2 y hy=>by
  rcases List.mem_append.mp hy with z | z
  ·exact h1 y z
  ·have e:y=(cB.mk p3 l l0 l1 (-(bN ys))):=by simpa using z
   subst e
   exact h2
 have l1p:0 < l1:=lw.fr.pos
 have bp:=all (fun y=>0 < y.b) (fun y hy=>(yok y hy).1) l1p
 have bd:=all (fun y=>y.b ∣ bK xs * l1) (fun y hy=>Int.dvd_trans (yok y hy).2.2.2.2.1 ⟨l1,rfl⟩) ⟨bK xs,Int.mul_comm _ _⟩
 have bpos:∀ n ∈ (ys ++ [(cB.mk p3 l l0 l1 (-(bN ys)))]).map cB.b,0 < n:=fun n hn=>by
  obtain ⟨z,hz,rfl⟩:=List.mem_map.mp hn
  exact bp z hz
 obtain ⟨lp,ld⟩:=tE bpos
 have lz:intBits (bK (ys ++ [(cB.mk p3 l l0 l1 (-(bN ys)))])) <= 3101:=by
  have dv:=uV bpos (M:=bK xs * l1) fun n hn=>by
   obtain ⟨z,hz,rfl⟩:=List.mem_map.mp hn
   exact bd z hz
  have p0:=Int.mul_pos gs.1.mp l1p
  have le:=Int.le_of_dvd p0 dv
  have u1:bK xs * l1 <= 2 ^ 1600 * l1:=Sd.eU cp.m (Int.le_of_lt l1p)
  have u2:(2 ^ 1600:Int) * l1 <= 2 ^ 1600 * 2 ^ 1500:=Int.mul_le_mul_of_nonneg_left lw.b (Int.le_of_lt (Sd.bU _))
  rw [<- Int.pow_add] at u2
  exact iZ (Int.lt_of_lt_of_le (show -(2 ^ 3101:Int) < 0 by decide +kernel) (Int.le_of_lt lp)) (Int.lt_of_le_of_lt (Int.le_trans le (Int.le_trans u1 u2)) (by decide +kernel))
 have br:BR (ys ++ [(cB.mk p3 l l0 l1 (-(bN ys)))]):=⟨by rw [List.length_append]; simp; omega,bp,all _ (fun y hy=>(yok y hy).2.1) (by show intBits l0 <= 4000; omega),
  all _ (fun y hy=>by have h:=yok y hy; exact wb _ (Int.le_trans (by decide +kernel:-(2 ^ 600:Int) <= 1) h.2.2.2.1) (Int.le_trans h.2.2.2.2.2 W2)) (wb _ (by show -(2 ^ 600) <= -(bN ys); omega) (Int.le_trans (Int.neg_nonpos_of_nonneg yw.1) (Int.le_of_lt (Sd.bU _)))),all _ (fun y hy=>(yok y hy).2.2.1) (by show intBits l1 <= 4000; omega),by omega⟩
 have wz:=wb (bN xs) (Int.le_trans (by decide +kernel:-(2 ^ 600:Int) <= 1) W1) W2
 refine ⟨c5,ys ++ [(cB.mk p3 l l0 l1 (-(bN ys)))],bN xs,rfl,hT6,br,by omega,wz,fun p H' s' hp=>?_⟩
 have ne:bK (ys ++ [(cB.mk p3 l l0 l1 (-(bN ys)))]) * bN xs ≠ 0:=Int.ne_of_gt (Int.mul_pos lp (by omega))
 refine q p H' _ ((s1.trans s5).trans (s6.trans s')) hp ⟨Fr.CG ne,Nat.le_trans (PySem.intBits_le_of_natAbs (Fr.zV ne) (Vo br)) (by decide),Nat.le_trans (PySem.intBits_le_of_natAbs (Fr.Ag ne) (PySem.intBits_mul_le lz wz)) (by decide)⟩ ?_
 have er:cM (ys ++ [(cB.mk p3 l l0 l1 (-(bN ys)))])=cM ys ++ [⟨(l0,l1).1,(l0,l1).2,-(Tb.W (cM ys))⟩]:=by rw [jH,<- jV]; rfl
 rw [er]
 refine Sd.Hj (l:=(l0,l1)) lp (by omega) l1p (fun r hr=>?_) (fun r hr=>?_) efl
 ·obtain ⟨x,hx,rfl⟩:=List.mem_map.mp hr
  exact (pb x hx).1.pos
 ·rw [<- er] at hr
  obtain ⟨x,hx,rfl⟩:=List.mem_map.mp hr
  exact ⟨bp x hx,ld _ (List.mem_map.mpr ⟨x,hx,rfl⟩)⟩
theorem zX {n:Nat}{f:Addr}{fd:FuncData} (F:fH K "debt" "Case.debt" (aG (top 40) 10) f fd) {c:Cs}{cC:Addr} (ca:Df K c cC) (ck:CK K c) {C_NoDeed:Addr}{f_sd:Addr}{fd_sd:FuncData} (m_sd:dM K cC "stand" f_sd) (G_sd:aV P w K mg base (nF P w) n f_sd fd_sd ["self","box"] (Fi c cC C_NoDeed)) (b_sd:bI K fd_sd ["self","box"] []) {f_cp:Addr}{fd_cp:FuncData} (m_cp:dM K cC "cap" f_cp) (G_cp:aV P w K mg base (nF P w) n f_cp fd_cp ["self","box"] (zE c cC C_NoDeed)) (b_cp:bI K fd_cp ["self","box"] []) {f_caps:Addr}{fd_caps:FuncData} (m_Ec:dM K c.e "caps" f_caps) (m_Sc:dM K c.s "caps" f_caps) (G_caps:aV P w K mg base d7 n f_caps fd_caps ["self"] (sW c)) (b_caps:bI K fd_caps ["self"] []) {g_whole:Addr}{gd_whole:FuncData} (c_whole:fL P w K mg base n "whole" ["number"] Ms g_whole gd_whole) {g_above:Addr}{gd_above:FuncData} (c_above:fL P w K mg base n "above" ["table","level"] O2 g_above gd_above):aV P w K mg base d7 (n + 1) f fd ["self","box"] (qI c cC):=by
 refine F.ok pD (fun vs H Q E h=>?_) (fun cdv A outer s H vs Q E hr h=>?_)
 ·obtain ⟨x,i,q,y,xs,d,m,rfl,_⟩:=h
  rfl
 obtain ⟨x,i,q,y,xs,d,m,rfl,at_,gs,d4,m12,k⟩:=h
 have nd:=pD.nd
 refine ⟨_,(aD (aP (i:=2) nd rfl (Or.inl rfl) (cZ (pv 0) ca.cl m_cp G_cp hr b_cp .nil mR (aA (pv 1) aC))) (aJ (aQ (vI (bZ Dg (pv 2) qH (cI _)) (aL c_whole hr (aA aF aC)) (aL c_above hr (aA (jD (cY (cZ (pv 0) ca.cl m_sd G_sd hr b_sd .nil mR (aA (pv 1) aC)) ck.ce m_Ec G_caps hr b_caps .nil eE) (cY (cZ (pv 0) ca.cl m_sd G_sd hr b_sd .nil mR (aA (pv 1) aC)) ck.cs m_Sc G_caps hr b_caps .nil eE)) (aA (pv 2) aC))))))),?_⟩
 have h:=at_.ca
 have n6:=h.n6
 have es:=h.es
 have el:=h.el
 have hi:i < q.ys.length:=(List.getElem?_eq_some_iff.mp at_.yy).1
 have ei:q.ss[i]? = some (q.ss[i]'(by omega)):=List.getElem?_eq_getElem _
 have st:=(h.st i _ _ at_.yy ei).1
 refine ⟨_,rfl,x,_,_,rfl,h.hx,rfl,_,rfl,x,.int (i:Int),q,true,rfl,h,lL.yes (by omega) (by omega),fun j0 y0 e1 e2=>?_,(fun z=>nomatch z)⟩
 obtain rfl:i=j0:=by injection e1 with e1; omega
 rcases k with ⟨el2,k⟩ | ⟨l,lv,el2,tq,lw,k⟩
 ·rw [el2] at e2
  cases e2
  refine ⟨_,rfl,rfl,_,rfl,?_⟩
  refine wO (decide_eq_true rfl) ?_
  exact ⟨_,rfl,fun p H' s tz=>k p H' s tz⟩
 ·rw [el2] at e2
  cases e2
  refine ⟨_,rfl,rfl,_,rfl,?_⟩
  refine wK (decide_eq_false (fun z=>nomatch z)) ?_
  refine Hv (fun Q' hq=>⟨_,rfl,x,_,_,rfl,h.hx,rfl,_,rfl,x,.int (i:Int),q,true,rfl,h,lL.yes (by omega) (by omega),fun j0 y0 e1 e2=>by obtain rfl:i=j0:=(by injection e1 with e1; omega); rw [at_.yy] at e2; cases e2; exact hq,(fun z=>nomatch z)⟩) st at_.tab fun r H1 s1 hr1 hT1=>?_
  exact ⟨_,rfl,r,l,xs,lv,d,m,rfl,hT1,gs,d4,m12,s1 _ _ tq,lw,fun p H' z s' tz zd v=>k p H' z (s1.trans s') tz zd v⟩
theorem yV {n:Nat}{f:Addr}{fd:FuncData} (F:fH K "left" "Case.left" (aG (top 40) 11) f fd) {c:Cs}{cC:Addr} (ca:Df K c cC) {f_hm:Addr}{fd_hm:FuncData} (m_hm:dM K cC "how_many" f_hm) (G_hm:aV P w K mg base d7 n f_hm fd_hm ["self"] (Qs c cC)) (b_hm:bI K fd_hm ["self"] []) {f_db:Addr}{fd_db:FuncData} (m_db:dM K cC "debt" f_db) (G_db:aV P w K mg base d7 n f_db fd_db ["self","box"] (qI c cC)) (b_db:bI K fd_db ["self","box"] []) {g_plus:Addr}{gd_plus:FuncData} (c_plus:fL P w K mg base n "plus" ["one","other"] yN g_plus gd_plus) {g_whole:Addr}{gd_whole:FuncData} (c_whole:fL P w K mg base n "whole" ["number"] Ms g_whole gd_whole) (z_range:mg "range" = none):aV P w K mg base d7 (n + 1) f fd ["self"] (Ob c cC):=by
 refine F.ok pG (fun vs H Q E h=>?_) (fun cdv A outer s H vs Q E hr h=>?_)
 ·obtain ⟨x,q,f0,rfl,_⟩:=h
  rfl
 obtain ⟨x,q,f0,rfl,h,hf,k⟩:=h
 have nd:=pG.nd
 refine ⟨_,(aD (aP (i:=1) nd rfl (Or.inl rfl) (aL c_whole hr (aA aF aC))) (aD (jK PassesOwn.never rfl (gQ rfl z_range (aA (cY (pv 0) ca.cl m_hm G_hm hr b_hm .nil eE) aC)) (aW (i:=2) nd rfl (Or.inl rfl)) (aJ (dW (eV (dR (bA bB (dO (pv 0) rfl) (pv 2) (fun _ _=>rfl)))) (aJ (aP (i:=1) nd rfl (Or.inl rfl) (aL c_plus hr (aA (pv 1) (aA (cZ (pv 0) ca.cl m_db G_db hr b_db .nil eE (aA (pv 2) aC)) aC))))) bY))) (aJ (aQ (pv 1))))),?_⟩
 have n6:=h.n6
 have ebl:=h.eb
 refine ⟨_,rfl,fun r0 H1 s1 t1=>?_⟩
 have h1:=h.kt (aN.kt s1)
 refine ⟨_,rfl,x,_,_,rfl,h1.hx,rfl,x,q,rfl,h1,(q.ys.length:Int),rfl,by omega,by omega,?_⟩
 refine kO (n:=(q.ys.length:Int).toNat) (fun i σ H'=>∃ v2 r z,σ = [some (.ref x),some (.ref r),v2] /\ aN H H' /\ Tq H' r z /\ Zr (i + 1) z /\ Sd.V z=Sm q.bs f0 i) ⟨none,r0,(0,1),rfl,s1,t1,NK.zr,V01⟩ ?turn ?done
 case turn =>
  rintro i σ H2 hi ⟨v2,r,z,rfl,s2,t2,zr,e2⟩
  have h2:=h.kt (aN.kt s2)
  have hiy:i < q.ys.length:=by omega
  have hib:i < q.bs.length:=by omega
  have eb:q.bs[i]? = some (q.bs.getD i false):=by rw [List.getElem?_eq_getElem hib,gJ hib]
  refine ⟨_,rfl,x,cC,_,_,_,rfl,h2.hx,ca.cl,ca.nh,rfl,_,rfl,q.th,_,_,_,rfl,rfl,bQ.of h2.hh,(by rw [Int.zero_add]; exact fU (v:=V.bl (q.bs.getD i false)) (by rw [List.getElem?_map,eb]; rfl)),?_⟩
  cases e:q.bs.getD i false with
  | true =>
   refine ⟨_,rfl,?_⟩
   refine wK rfl ?_
   exact ⟨_,r,z,rfl,s2,t2,zr.mono (by omega),e2.trans (Sm.yes e).symm⟩
  | false =>
   refine ⟨_,rfl,?_⟩
   refine wO rfl ?_
   refine ⟨_,rfl,_,rfl,x,_,_,rfl,h2.hx,rfl,_,rfl,?_⟩
   dsimp only [uT]
   rw [Int.zero_add]
   refine sZ h2 hiy ((hf i hiy).kt (aN.kt s2)) fun rd H3 zd s3 t3 z3 nn e3 _=>?_
   refine ⟨r,rd,z,zd,i + 1,rfl,s3 _ _ t2,t3,zr,by omega,z3.z6,fun r4 H4 s4 t4=>?_⟩
   refine ⟨_,r4,_,rfl,s2.trans (s3.trans s4),t4,zr.pls (by omega) z3.z6,?_⟩
   rw [Sd.Gm zr.fr.pos z3.fr.pos,e2,e3,Sm.no e]
 case done =>
  rintro σ H2 ⟨v2,r,z,rfl,s2,t2,zr,e2⟩
  have et:(q.ys.length:Int).toNat=q.ys.length:=Int.toNat_natCast _
  rw [et] at e2 zr
  exact ⟨_,rfl,k r H2 z s2 t2 (zr.mono (by omega)) e2⟩
theorem pN {n:Nat}{f:Addr}{fd:FuncData} (F:fH K "_law_left_fits" "_law_left_fits" (top 59) f fd) {c:Cs}{cC:Addr} (ca:Df K c cC) {f_db:Addr}{fd_db:FuncData} (m_db:dM K cC "debt" f_db) (G_db:aV P w K mg base d7 n f_db fd_db ["self","box"] (qI c cC)) (b_db:bI K fd_db ["self","box"] []) {f_lf:Addr}{fd_lf:FuncData} (m_lf:dM K cC "left" f_lf) (G_lf:aV P w K mg base d7 n f_lf fd_lf ["self"] (Ob c cC)) (b_lf:bI K fd_lf ["self"] []) {g__law_is_share:Addr}{gd__law_is_share:FuncData} (c__law_is_share:fL P w K mg base n "_law_is_share" ["_law_found"] tH g__law_is_share gd__law_is_share) {g__law_sum:Addr}{gd__law_sum:FuncData} (c__law_sum:fL P w K mg base n "_law_sum" ["_law_one","_law_other"] yN g__law_sum gd__law_sum) (z_range:mg "range" = none):aV P w K mg base d7 (n + 1) f fd ["_law_case","_law_many","_law_kept"] (Oj c cC):=by
 refine F.ok jQ (fun vs H Q E h=>?_) (fun cdv A outer s H vs Q E hr h=>?_)
 ·obtain ⟨x,q,l,ks,rfl,_⟩:=h
  rfl
 obtain ⟨x,q,l,ks,rfl,h,hl,kp,k⟩:=h
 have nd:=jQ.nd
 have hu0:=fD.units0 hr
 refine ⟨_,(aD (aP (i:=3) nd rfl (Or.inl rfl) (dF (aA aF (aA aF aC)))) (aD (jK PassesOwn.never rfl (gQ rfl z_range (aA (pv 1) aC)) (aW (i:=4) nd rfl (Or.inl rfl)) (aJ (dW (bZ o9 (pv 4) (pv 2) rfl) (aJ (aP (i:=3) nd rfl (Or.inl rfl) (aL c__law_sum hr (aA (pv 3) (aA (cZ (pv 0) ca.cl m_db G_db hr b_db .nil eE (aA (pv 4) aC)) aC))))) bY))) (aD (aP (i:=5) nd rfl (Or.inl rfl) (cY (pv 0) ca.cl m_lf G_lf hr b_lf .nil eE)) (aJ (aQ (oN (aL c__law_is_share hr (aA (pv 5) aC)) (oO (lG (Kz hu0) (pv 5) (pv 3) (cI _))))))))),?_⟩
 have n6:=h.n6
 obtain ⟨f0,hf⟩:=Q7 h
 refine ⟨qT,fun r0 hr0=>?_⟩
 have s1:=aH hr0 (.tup [.int 0,.int 1])
 refine ⟨_,rfl,(q.ys.length:Int),rfl,by omega,by omega,?_⟩
 refine kO (n:=(q.ys.length:Int).toNat) (fun i σ H'=>∃ v2 r z,σ = [some (.ref x),some (.int (q.ys.length:Int)),some (.ref l),some (.ref r),v2,none] /\ aN H H' /\ Tq H' r z /\ Zr (i + 1) z /\ Sd.V z=Sm q.bs f0 i) ⟨none,r0,(0,1),rfl,s1,aB,NK.zr,V01⟩ ?turn ?done
 case turn =>
  rintro i σ H2 hi ⟨v2,r,z,rfl,s2,t2,zr,e2⟩
  have h2:=h.kt (aN.kt s2)
  have hiy:i < q.ys.length:=by omega
  refine ⟨_,rfl,_,rfl,l,_,rfl,.inl (bR.of (s2 _ _ hl)),rfl,wZ ks,_,rfl,?_⟩
  rw [Int.zero_add,kp i hiy]
  refine uR (fun c1=>?_) (fun c1=>?_)
  ·have e:q.bs.getD i false=false:=by simpa using c1
   refine ⟨_,rfl,_,rfl,x,_,_,rfl,h2.hx,rfl,_,rfl,?_⟩
   dsimp only [uT]
   refine sZ h2 hiy ((hf i hiy).kt (aN.kt s2)) fun rd H3 zd s3 t3 z3 nn e3 _=>?_
   refine ⟨r,rd,z,zd,i + 1,rfl,s3 _ _ t2,t3,zr,by omega,z3.z6,fun r4 H4 s4 t4=>?_⟩
   refine ⟨_,r4,_,rfl,s2.trans (s3.trans s4),t4,zr.pls (by omega) z3.z6,?_⟩
   rw [Sd.Gm zr.fr.pos z3.fr.pos,e2,e3,Sm.no e]
  ·have e:q.bs.getD i false=true:=by simpa using c1
   exact ⟨_,r,z,rfl,s2,t2,zr.mono (by omega),e2.trans (Sm.yes e).symm⟩
 case done =>
  rintro σ H2 ⟨v2,r,z,rfl,s2,t2,zr,e2⟩
  have et:(q.ys.length:Int).toNat=q.ys.length:=Int.toNat_natCast _
  rw [et] at e2 zr
  have h2:=h.kt (aN.kt s2)
  refine ⟨_,rfl,x,_,_,rfl,h2.hx,rfl,x,q,f0,rfl,h2,fun i hi=>(hf i hi).kt (aN.kt s2),fun r3 H3 z3 s3 t3 zr3 e3=>?_⟩
  refine ⟨_,rfl,r3,z3,rfl,t3,zr3.fr,fun H4 s4=>?_⟩
  refine ⟨_,rfl,?_⟩
  refine iJ ?_
  obtain rfl:=Sd.Gh zr3.fr zr.fr (e3.trans e2.symm)
  refine ⟨_,rfl,_,rfl,r3,r,[z3.1,z3.2],[z3.1,z3.2],rfl,rfl,bQ.of (s4 _ _ t3),bQ.of (s4 _ _ (s3 _ _ t2)),?_⟩
  rw [decide_eq_true rfl]
  exact k H4 (s2.trans (s3.trans s4))
theorem nC {n:Nat}{f:Addr}{fd:FuncData} (F:fH K "_law_mean_behind" "_law_mean_behind" (top 57) f fd) {c:Cs}{cC:Addr} (ca:Df K c cC) {f_op:Addr}{fd_op:FuncData} (m_op:dM K cC "opened" f_op) (G_op:aV P w K mg base (nF P w) n f_op fd_op ["self","box","row"] (KJ c cC)) (b_op:bI K fd_op ["self","box","row"] []) {f_db:Addr}{fd_db:FuncData} (m_db:dM K cC "debt" f_db) (G_db:aV P w K mg base d7 n f_db fd_db ["self","box"] (qI c cC)) (b_db:bI K fd_db ["self","box"] []) {g__law_sum:Addr}{gd__law_sum:FuncData} (c__law_sum:fL P w K mg base n "_law_sum" ["_law_one","_law_other"] yN g__law_sum gd__law_sum) {g__law_times:Addr}{gd__law_times:FuncData} (c__law_times:fL P w K mg base n "_law_times" ["_law_one","_law_other"] Nv g__law_times gd__law_times) {g__law_lowest:Addr}{gd__law_lowest:FuncData} (c__law_lowest:fL P w K mg base n "_law_lowest" ["_law_top","_law_bottom"] zG g__law_lowest gd__law_lowest) {g__law_is_share:Addr}{gd__law_is_share:FuncData} (c__law_is_share:fL P w K mg base n "_law_is_share" ["_law_found"] tH g__law_is_share gd__law_is_share) (z_range:mg "range" = none) (z_len:mg "len" = none) (z_sum:mg "sum" = none):aV P w K mg base d7 (n + 1) f fd ["_law_case","_law_box","_law_rows"] (O1 c cC):=by
 refine F.ok iR (fun vs H Q E h=>?_) (fun cdv A outer s H vs Q E hr h=>?_)
 ·obtain ⟨x,i,q,p,rs,d,m,r,ps,zs,v,rfl,_⟩:=h
  rfl
 obtain ⟨x,i,q,p,rs,d,m,r,ps,zs,v,rfl,h,ei,h9,hR,lp,lz,row,dv,k⟩:=h
 have nd:=iR.nd
 refine ⟨_,(aD (aP (i:=3) nd rfl (Or.inl rfl) (bC (kY rfl) rfl z_sum qQ (aA (cU (ls:=["_law_row"]) (M:=["_law_case","_law_box","_law_rows","_law_total","_law_sums","_law_row#","_law_found"]) rfl (cA.of (by rfl)) (NL.of (by rfl)) (Ew (pv 2)) (fun _ _ _ _=>⟨(aW (i:=0) (cV (by rfl)) rfl (Or.inl rfl)),cQ,(bA (iU (K:=K) rfl) (pv 0) aF (fun _ _=>rfl))⟩)) aC))) (aD (aP (i:=4) nd rfl (Or.inl rfl) (dF (aA aF (aA aF aC)))) (aD (jK PassesOwn.never rfl (gQ rfl z_range (aA (bC cX rfl z_len jX (aA (pv 2) aC)) aC)) (aW (i:=5) nd rfl (Or.inl rfl)) (aD (aP (i:=6) nd rfl (Or.inl rfl) (cZ (cZ (pv 0) ca.cl m_op G_op hr b_op .nil mR (aA (pv 1) (aA (pv 5) aC))) ca.cl m_db G_db hr b_db .nil eE (aA (pv 1) aC))) (aD (dW (PW.pt (jU (eV (dR (aL c__law_is_share hr (aA (pv 6) aC)))) (jL (bZ tW (bA bB (pv 6) aF (fun _ _=>rfl)) aF (cI _))))) (aJ (aQ qH)) bY) (aJ (aP (i:=4) nd rfl (Or.inl rfl) (aL c__law_sum hr (aA (pv 4) (aA (aL c__law_times hr (aA (pv 6) (aA (aL c__law_lowest hr (aA (bA bB (bA bB (pv 2) (pv 5) (fun _ _=>rfl)) aF (fun _ _=>rfl)) (aA (pv 3) aC))) aC))) aC)))))))) (aJ (aQ (pv 4)))))),?_⟩
 have n6:=h.n6
 have es:=h.es
 have el:=h.el
 have hi:i < q.ys.length:=by have:=(List.getElem?_eq_some_iff.mp ei).1; omega
 have ey:q.ys[i]? = some q.ys[i]:=List.getElem?_eq_getElem hi
 obtain ⟨st,d4,m12⟩:=h.st i _ _ ey ei
 obtain ⟨p0,p9,ne,l4,ww⟩ : 0 <= p /\ p <= 1000000000 /\ rs ≠ [] /\ rs.length <= 4 /\ ∀ r ∈ rs,1 <= r.1 /\ r.1 <= 1000:=by
  cases st with
  | st _ _ _ _ _ _ _ p0 p9 ne l4 w _=>exact ⟨p0,p9,ne,l4,w⟩
 obtain ⟨xs,rv,ct,gs,so,mt,lwr⟩:=st.tab
 have R0:Sd.Rv (.st p rs) d rv:=⟨_,mt⟩
 obtain ⟨l,eL⟩ : ∃ l,q.ls[i]? = some l:=⟨_,List.getElem?_eq_getElem (show i < q.ls.length by omega)⟩
 obtain ⟨lv,nc⟩:=Hc h eL rv
 have md:=J5 dv ei eL d4 R0 lwr nc
 have sw:=Sd.FZ ww
 have rl:0 < rs.length:=List.length_pos_iff.mpr ne
 have W1:0 < Sd.fK rs:=by omega
 have hlr:(ps.map V.ref).length=rs.length:=by rw [List.length_map]; exact lp
 refine ⟨_,rfl,r,rfl,⟨_,bQ.of hR⟩,fun D hD=>?_⟩
 refine uN (xs:=ps.map V.ref) (fun u τ H'=>∃ v0,τ = [v0,some (.ref x),some (.int (i:Int)),some (.ref r),none,none,none,none] /\ aN H H' /\ H' D=some (.lst (((rs.take u).map fun t=>t.1).map V.int))) ⟨none,rfl,aH hD _,aB⟩ ?keep ?turn ?done
 case keep =>
  rintro u τ H' hu ⟨v0,rfl,hs,_⟩
  exact bQ.of (hs _ _ hR)
 case turn =>
  rintro u mm w τ H' hm hu hv ⟨v0,rfl,hs,hD'⟩
  obtain ⟨q1,y,t,e1,et,e2,hq1,mem⟩:=Jw lp lz row (show u < rs.length by omega)
  rw [e2] at hv
  cases hv
  unfold uB
  refine eO ?_
  refine ⟨_,rfl,q1,_,_,_,rfl,rfl,bQ.of (hs _ _ hq1),rfl,?_⟩
  refine bM hm hu hD' (by rw [List.length_map,List.length_map,List.length_take]; exact aX (by omega)) ⟨_,rfl,hs.upd_new hD _,?_⟩
  rw [aB,bG et,List.map_append,List.map_append]
  rfl
 case done =>
 rintro τ H1 ⟨v0,rfl,s1,hD1⟩
 rw [hlr,List.take_length] at hD1
 refine ⟨D,rs.map fun t=>t.1,rfl,bR.of hD1,?_⟩
 rw [show (rs.map fun t=>t.1).sum=Sd.fK rs from rfl]
 refine ⟨qT,fun r0 hr0=>?_⟩
 have s2:=s1.trans (aH hr0 (.tup [.int 0,.int 1]))
 refine ⟨_,rfl,r,_,rfl,.inr (bQ.of (s2 _ _ hR)),((ps.map V.ref).length:Int),rfl,by omega,by omega,?_⟩
 refine kO (n:=((ps.map V.ref).length:Int).toNat) (fun u σ H'=>∃ v5 v6 R z,σ = [some (.ref x),some (.int (i:Int)),some (.ref r),some (.int (Sd.fK rs)),some (.ref R),v5,v6] /\ aN H H' /\ Tq H' R z /\ Zr (u + 1) z /\ Sd.V z=((rs.take u).map fun t=>(t.1:Rat) * (Sd.rb (Sd.V lv) 5 t.2 - Sd.V lv)).sum / ((Sd.fK rs:Int):Rat)) ⟨none,none,r0,(0,1),rfl,s2,aB,NK.zr,by rw [V01]; show (0:Rat)=0 / _; grind⟩ ?turn2 ?done2
 case turn2 =>
  rintro u σ H3 hu ⟨v5,v6,R,z,rfl,s3,t3,zr3,e3⟩
  rw [hlr] at hu
  have hur:u < rs.length:=by omega
  have h3:=h.kt (aN.kt s3)
  obtain ⟨q1,y,t,e1,et,e2,hq1,mem⟩:=Jw lp lz row hur
  rw [Int.zero_add]
  refine ⟨_,rfl,x,_,_,rfl,h3.hx,rfl,_,rfl,_,rfl,x,i,u,q,p,rs,d,m,rfl,h3,ei,hur,h9,fun x2 q2 H4 s4 h4 y4 nx bs4 nc4 sp4 dd4=>?_⟩
  obtain ⟨t',d2,m2,et',ess⟩:=nx
  obtain rfl:t=t':=by rw [et] at et'; exact Option.some.inj et'
  obtain ⟨L,lv4,rv4,els,tq4,lw4,lwr4,R4,nc5⟩:=nc4
  obtain rfl:=Sd.Rv.one R4 R0 lwr4.fr lwr.fr
  rw [eL] at nc5
  obtain rfl:=Bh s3 nc nc5
  have dv4:=Mr h4 (by omega) (by omega) (by omega) ess els tq4 lw4
  refine ⟨x2,_,_,rfl,h4.hx,rfl,_,rfl,?_⟩
  dsimp only [uT]
  refine sZ h4 (by omega) dv4 fun rd H5 zd s5 t5 z5 nn5 e5 _=>?_
  refine ⟨_,rfl,rd,zd,rfl,t5,z5.fr,fun H6 s6=>?_⟩
  refine ⟨_,rfl,?_⟩
  refine fZ ?_
  have t6:=s6 _ _ t5
  refine ⟨_,rfl,rd,_,_,_,rfl,rfl,bQ.of t6,rfl,_,_,rfl,rfl,_,rfl,?_⟩
  refine wK (decide_eq_false (by omega)) ?_
  have s36:=s4.trans (s5.trans s6)
  have s06:=s3.trans s36
  have tw:=ww t mem
  have bw:=Dh (z:=t.1) (by omega) (by omega)
  have bW:=Dh (z:=Sd.fK rs) (by omega) (by omega)
  obtain ⟨zl,zt,vt⟩:=PJ (w:=t.1) z5 W1 bw bW
  refine ⟨_,rfl,_,rfl,_,rfl,_,rfl,r,_,_,_,rfl,rfl,bQ.of (s06 _ _ hR),fU e2,q1,_,_,_,rfl,rfl,bQ.of (s06 _ _ hq1),rfl,_,rfl,t.1,Sd.fK rs,rfl,W1,Bk W1 (Nat.le_trans bW (by decide)),fun r7 H7 s7 t7=>?_⟩
  refine ⟨rd,r7,zd,Fr.sh t.1 (Sd.fK rs),rfl,s7 _ _ t6,t7,z5.z6,zl,fun r8 H8 s8 t8=>?_⟩
  refine ⟨R,r8,z,_,u + 1,rfl,s8 _ _ (s7 _ _ (s36 _ _ t3)),t8,zr3,by omega,zt,fun r9 H9 s9 t9=>?_⟩
  refine ⟨_,_,r9,_,rfl,s06.trans (s7.trans (s8.trans s9)),t9,zr3.pls (by omega) zt,?_⟩
  rw [Sd.Gm zr3.fr.pos zt.p,e3,vt,e5,bG et,List.map_append,List.sum_append]
  have nW:=Sd.d8 W1
  simp only [List.map_cons,List.map_nil,List.sum_cons,List.sum_nil]
  grind
 case done2 =>
  rintro σ H3 ⟨v5,v6,R,z,rfl,s3,t3,zr3,e3⟩
  have et:((ps.map V.ref).length:Int).toNat=rs.length:=by rw [hlr]; exact Int.toNat_natCast _
  rw [et,List.take_length] at e3
  refine ⟨_,rfl,k R H3 z s3 t3 zr3.fr ?_⟩
  have o:=Sd.JR (p:=p) W1 (Sd.V lv) 5
  rw [<- e3] at o
  grind
theorem vZ {n:Nat}{f:Addr}{fd:FuncData} (F:fH K "_law_fixed" "_law_fixed" (top 58) f fd) {c:Cs}{cC:Addr} (ca:Df K c cC) {C_NoDeed:Addr}{f_cp:Addr}{fd_cp:FuncData} (m_cp:dM K cC "cap" f_cp) (G_cp:aV P w K mg base (nF P w) n f_cp fd_cp ["self","box"] (zE c cC C_NoDeed)) (b_cp:bI K fd_cp ["self","box"] []) {f_db:Addr}{fd_db:FuncData} (m_db:dM K cC "debt" f_db) (G_db:aV P w K mg base d7 n f_db fd_db ["self","box"] (qI c cC)) (b_db:bI K fd_db ["self","box"] []) {g__law_sum:Addr}{gd__law_sum:FuncData} (c__law_sum:fL P w K mg base n "_law_sum" ["_law_one","_law_other"] yN g__law_sum gd__law_sum) {g__law_mean_behind:Addr}{gd__law_mean_behind:FuncData} (c__law_mean_behind:fL P w K mg base n "_law_mean_behind" ["_law_case","_law_box","_law_rows"] (O1 c cC) g__law_mean_behind gd__law_mean_behind) {g__law_is_share:Addr}{gd__law_is_share:FuncData} (c__law_is_share:fL P w K mg base n "_law_is_share" ["_law_found"] tH g__law_is_share gd__law_is_share):aV P w K mg base d7 (n + 1) f fd ["_law_case","_law_box","_law_stage"] (K9 c cC):=by
 refine F.ok nT (fun vs H Q E h=>?_) (fun cdv A outer s H vs Q E hr h=>?_)
 ·obtain ⟨x,i,q,p,rs,d,m,t,rfl,_⟩:=h
  rfl
 obtain ⟨x,i,q,p,rs,d,m,t,rfl,h,ei,h9,to,k⟩:=h
 have nd:=nT.nd
 have hu0:=fD.units0 hr
 refine ⟨_,(aD (aP (i:=3) nd rfl (Or.inl rfl) (cZ (pv 0) ca.cl m_db G_db hr b_db .nil eE (aA (pv 1) aC))) (aD (dW (PW.pt (jU (eV (dR (aL c__law_is_share hr (aA (pv 3) aC)))) (jU (bZ tW (bA bB (pv 3) aF (fun _ _=>rfl)) aF (cI _)) (jL (PW.pt (KC (bZ Dg (cZ (pv 0) ca.cl m_cp G_cp hr b_cp .nil mR (aA (pv 1) aC)) qH (cI _)) (Gi (bZ (QB hu0) (pv 3) (dF (aA aF (aA aF aC))) (cI _))))))))) (aJ (aQ nH)) bY) (aD (aP (i:=4) nd rfl (Or.inl rfl) (aL c__law_mean_behind hr (aA (pv 0) (aA (pv 1) (aA (bA bB (pv 2) aF (fun _ _=>rfl)) aC))))) (aJ (aQ (oN (lG NT (pv 4) qH (cI _)) (oO (lG (Kz hu0) (aL c__law_sum hr (aA (pv 3) (aA (dF (aA (bA bB (pv 2) aF (fun _ _=>rfl)) (aA aF aC))) aC))) (pv 4) (cI _))))))))),?_⟩
 have n6:=h.n6
 have es:=h.es
 have el:=h.el
 have hi:i < q.ys.length:=by have:=(List.getElem?_eq_some_iff.mp ei).1; omega
 have ey:q.ys[i]? = some q.ys[i]:=List.getElem?_eq_getElem hi
 obtain ⟨st,d4,m12⟩:=h.st i _ _ ey ei
 obtain ⟨p0,p9,ne,l4,ww⟩ : 0 <= p /\ p <= 1000000000 /\ rs ≠ [] /\ rs.length <= 4 /\ ∀ r ∈ rs,1 <= r.1 /\ r.1 <= 1000:=by
  cases st with
  | st _ _ _ _ _ _ _ p0 p9 ne l4 w _=>exact ⟨p0,p9,ne,l4,w⟩
 obtain ⟨v,dv⟩:=Om h hi
 cases to with
 | @st _ r _ _ ps zs ht hR lp lz row sub =>
 refine ⟨_,rfl,x,_,_,rfl,h.hx,rfl,_,rfl,?_⟩
 dsimp only [uT]
 refine sZ h hi dv fun ra H1 za s1 t1 z1 nn1 e1 no1=>?_
 refine ⟨_,rfl,ra,za,rfl,t1,z1.fr,fun H2 s2=>?_⟩
 refine ⟨_,rfl,?_⟩
 refine fZ ?_
 have t2:=s2 _ _ t1
 refine ⟨_,rfl,ra,_,_,_,rfl,rfl,bQ.of t2,rfl,_,_,rfl,rfl,_,rfl,?_⟩
 refine wK (decide_eq_false (by omega)) ?_
 have vK:=s1.trans s2
 have h2:=h.kt (aN.kt vK)
 obtain ⟨l,eL⟩ : ∃ l,q.ls[i]? = some l:=⟨_,List.getElem?_eq_getElem (show i < q.ls.length by omega)⟩
 have cl:=h.cp l (List.mem_of_getElem? eL)
 refine' VM (fun H3=>aN H2 H3) (fun iH=>?main) ?rst
 case main =>
  refine ⟨_,rfl,x,_,_,rfl,h2.hx,rfl,_,rfl,x,.int (i:Int),q,true,rfl,h2,lL.yes (by omega) (by omega),fun j0 y0 e1 e2=>?_,(fun z=>nomatch z)⟩
  obtain rfl:i=j0:=by injection e1 with e1; omega
  rw [eL] at e2
  cases e2
  refine ⟨rfl,_,rfl,?_⟩
  cases cl with
  | non =>
   refine wO (decide_eq_true rfl) ?_
   obtain rfl:=no1 eL
   refine ⟨_,rfl,qT,fun p3 hp3=>?_⟩
   have s3:=aH hp3 (.tup [.int 0,.int 1])
   refine ⟨ra,p3,[0,1],[0,1],rfl,rfl,bQ.of (s3 _ _ t2),bQ.of aB,_,rfl,?_⟩
   refine wK (by decide) ?_
   exact iH _ s3
  | sh tl wl =>
   refine wK (decide_eq_false (fun z=>nomatch z)) ?_
   exact iH _ (aN.refl _)
 case rst =>
 intro H3 s3
 have s03:=vK.trans s3
 have h3:=h.kt (aN.kt s03)
 refine ⟨_,rfl,_,rfl,_,rfl,t,_,_,_,rfl,rfl,bQ.of (s03 _ _ ht),rfl,x,i,q,p,rs,d,m,r,ps,zs,v,rfl,h3,ei,h9,s03 _ _ hR,lp,lz,fun i q y t a b c=>s03 _ _ (row i q y t a b c),dv.kt (aN.kt s03),fun R H4 z s4 t4 f4 e4=>?_⟩
 refine ⟨_,rfl,rfl,?_⟩
 refine ⟨_,rfl,?_⟩
 refine iJ ?_
 refine ⟨_,rfl,_,rfl,t,_,_,_,rfl,rfl,bQ.of (s4 _ _ (s03 _ _ ht)),rfl,qT,fun p5 hp5=>?_⟩
 have s5:=aH hp5 (.tup [.int p,.int 1])
 refine ⟨ra,p5,za,(p,1),1,rfl,s5 _ _ (s4 _ _ (s3 _ _ t2)),aB,z1.zr,by decide,Xb p0 p9,fun r6 H6 s6 t6=>?_⟩
 have zp:=z1.zr.pls (Nat.le_refl 1) (Xb p0 p9)
 obtain rfl:Sd.pls za (p,1)=z:=Sd.Gh zp.fr f4 (by
  rw [Sd.Gm z1.fr.pos (show (0:Int) < 1 by decide),e1,e4]
  congr 1
  unfold Sd.V
  push_cast
  grind)
 refine ⟨_,rfl,r6,R,[(Sd.pls za (p,1)).1,(Sd.pls za (p,1)).2],[(Sd.pls za (p,1)).1,(Sd.pls za (p,1)).2],rfl,rfl,bQ.of t6,bQ.of (s6 _ _ (s5 _ _ t4)),?_⟩
 rw [decide_eq_true rfl]
 exact k H6 (s03.trans (s4.trans (s5.trans s6)))
theorem Qd {n:Nat}{f:Addr}{fd:FuncData} (F:fH K "law" "law" (top 60) f fd) {c:Cs}{cC:Addr} (ca:Df K c cC) (ck:CK K c) {C_NoBox:Addr}{iC:Addr}{dC:FuncData}{kC:Nat} (M_Case:Mk K cC iC) (G_Case:aV P w K mg base (nF P w) kC iC dC ["self","boxes"] (Jj c cC K C_NoBox)) (b_Case:bI K dC ["self","boxes"] []) (g_Case:mg "Case" = some (.ref cC)) (hn_Case:kC + 1 <= n) {f_op:Addr}{fd_op:FuncData} (m_op:dM K cC "opened" f_op) (G_op:aV P w K mg base (nF P w) n f_op fd_op ["self","box","row"] (KJ c cC)) (b_op:bI K fd_op ["self","box","row"] []) {f_tk:Addr}{fd_tk:FuncData} (m_tk:dM K cC "taken" f_tk) (G_tk:aV P w K mg base (nF P w) n f_tk fd_tk ["self","box"] (Nz c cC)) (b_tk:bI K fd_tk ["self","box"] []) {g__law_left_fits:Addr}{gd__law_left_fits:FuncData} (c__law_left_fits:fL P w K mg base n "_law_left_fits" ["_law_case","_law_many","_law_kept"] (Oj c cC) g__law_left_fits gd__law_left_fits) {g__law_fixed:Addr}{gd__law_fixed:FuncData} (c__law_fixed:fL P w K mg base n "_law_fixed" ["_law_case","_law_box","_law_stage"] (K9 c cC) g__law_fixed gd__law_fixed) {g__law_boxes:Addr}{gd__law_boxes:FuncData} (c__law_boxes:fL P w K mg base n "_law_boxes" ["_law_models_here"] (OJ c Pt iD) g__law_boxes gd__law_boxes) {g__law_models:Addr}{gd__law_models:FuncData} (c__law_models:fL P w K mg base n "_law_models" ["_law_script","_law_many"] (Od K) g__law_models gd__law_models) {g__law_cell_at:Addr}{gd__law_cell_at:FuncData} (c__law_cell_at:fL P w K mg base n "_law_cell_at" ["_law_script","_law_k"] (GZ K) g__law_cell_at gd__law_cell_at) (z_len:mg "len" = none):aV P w K mg base d7 (n + 1) f fd ["_law_script"] (tM K Pt iD):=by
 refine F.ok Jo (fun vs H Q E h=>?_) (fun cdv A outer s H vs Q E hr h=>?_)
 ·obtain ⟨a,ns,rfl,_⟩:=h
  rfl
 obtain ⟨a,ns,rfl,hS,hlen,hT0,kq⟩:=h
 have nd:=Jo.nd
 refine ⟨_,(aD (aP (i:=1) nd rfl (Or.inl rfl) (aR fQ aF (aR gR (aL c__law_cell_at hr (aA (pv 0) (aA aF aC))) aF))) (aD (aP (i:=2) nd rfl (Or.inl rfl) (aL c__law_models hr (aA (pv 0) (aA (pv 1) aC)))) (aD (aP (i:=3) nd rfl (Or.inl rfl) (sJ M_Case G_Case (hr.mono hn_Case) rfl g_Case b_Case .nil mR (aA (aL c__law_boxes hr (aA (pv 2) aC)) aC))) (aD (aP (i:=4) nd rfl (Or.inl rfl) (iQ aC)) (aD (jK PassesOwn.never rfl (cT (vB Nm (pv 0) (tK aF) (tK aF))) (aW (i:=5) nd rfl (Or.inl rfl)) (aD (aP (i:=6) nd rfl (Or.inl rfl) (aR gR (pv 5) (pv 1))) (aD (aP (i:=7) nd rfl (Or.inl rfl) (bA eN (pv 2) (pv 6) (fun _ _=>rfl))) (aJ (dW (bZ rC (bA bB (pv 7) aF (fun _ _=>rfl)) oW (cI _)) (aD (dW (eV (dR (aL c__law_fixed hr (aA (pv 3) (aA (pv 6) (aA (pv 7) aC)))))) (aJ (aQ nH)) bY) (aD (aP (i:=8) nd rfl (Or.inl rfl) (aR gR (aR tD (pv 5) (pv 1)) (bC cX rfl z_len jX (aA (bA bB (pv 7) aF (fun _ _=>rfl)) aC)))) (aD (aP (i:=3) nd rfl (Or.inl rfl) (cZ (pv 3) ca.cl m_op G_op hr b_op .nil mR (aA (pv 6) (aA (pv 8) aC)))) (aJ (Dt (bA bB (bA bB (bA bB (pv 7) aF (fun _ _=>rfl)) (pv 8) (fun _ _=>rfl)) aF (fun _ _=>rfl)) (Em (pv 2) (pv 6) u6)))))) (aJ (dW (bZ o9 (pv 6) (pv 4) rfl) (aD (aP (i:=3) nd rfl (Or.inl rfl) (cZ (pv 3) ca.cl m_tk G_tk hr b_tk .nil mR (aA (pv 6) aC))) (aD (gY (yC PySem.F.plainAttrs_list PySem.F.slot_list_append PySem.F.type_list_append kJ (pv 4) (aA (pv 6) aC))) (aJ (dW (eV (dR (aL c__law_left_fits hr (aA (pv 3) (aA (pv 1) (aA (pv 4) aC)))))) (aJ (aQ nH)) bY)))) bY))))))) (aJ (aQ (aL c__law_left_fits hr (aA (pv 3) (aA (pv 1) (aA (pv 4) aC))))))))))),?_⟩
 have hT0:fG Pt iD lK H:=.inl hT0
 refine ⟨_,rfl,a,ns,0,rfl,hS,by decide,fun c0=>?_⟩
 have g1:=Int.emod_nonneg c0 (show (6:Int) ≠ 0 by decide)
 have g2:=Int.emod_lt_of_pos c0 (show (0:Int) < 6 by decide)
 refine ⟨_,_,rfl,rfl,(by show (0:Int) < 6; decide),_,_,rfl,rfl,?_⟩
 refine ⟨_,rfl,_,rfl,a,ns,1 + c0 % 6,rfl,hS,by omega,by omega,fun l ts0 H1 s1 hl1 hmd tl0=>?_⟩
 have tb1:=hT0.same s1
 refine ⟨_,rfl,l,ts0,rfl,hl1,hmd,by omega,by omega,tb1,fun R ys H2 s2 tb2 hRn hR2 yl cor=>?_⟩
 have sT2:cH Pt H H2:=s1.toT.trans s2
 have hS2:bR K H2 a (ns.map V.int):=sT2.lst hT0 hS
 have kt2:=cH.kt s2 tb1
 intro x dx hx hdx ndx
 have nO:=Gb (o1:=.own x) (o2:=.ins cC dx []) hx hdx ndx
 refine .inl ⟨x,dx,R,ys,rfl,aB,nO _ _ hR2,by omega,by omega,(fun y hy=>?_),fun tp tl2 th td H3 kx hx3 htp htl hth htd=>⟨rfl,?_⟩⟩
 ·obtain ⟨u,hu,e⟩:=List.getElem_of_mem hy
  obtain ⟨s,_,st⟩:=cor u (ts0[u]'(by omega)) y (List.getElem?_eq_getElem _) (by rw [List.getElem?_eq_getElem hu,e])
  exact ⟨s,4,12,st.kp (aN.kp nO)⟩
 have s3:aN H2 H3:=made hx hdx kx
 have hS3:=s3.seq hS2
 have hl3:=s3 _ _ (kt2.lst hl1)
 obtain ⟨q1,hq1,hy1,hd1,mo1,ls1,bs1,sp1⟩:=Bm hx3 htp htl hth htd (by omega) (by omega) yl (cor.kp (aN.kp s3)) (fun b xs e=>s3 _ _ (kt2.tup e))
 have hmn:(1 + c0 % 6)=(q1.ys.length:Int):=by rw [hy1]; omega
 have ql:q1.ys.length=ts0.length:=by omega
 refine ⟨Nat.zero_le _,fun kl hkl=>?_⟩
 have nkl:l ≠ kl:=fun z=>by rw [<- z,hl3] at hkl; cases hkl
 have n4:=aH hkl (.lst [])
 have hk4:aY H3 kl (.lst []) kl=some (.lst (([]:List Int).map V.int)):=aB
 generalize aY H3 kl (.lst [])=H4 at n4 hk4 ⊢
 have hl4:=n4 _ _ hl3
 obtain ⟨ms,ems,ml⟩:=JH ns (some 2) (some 63)
 refine ⟨_,rfl,_,rfl,_,rfl,a,_,rfl,n4.seq hS3,fun A1 hA1=>?_⟩
 have nA:l ≠ A1:=fun z=>by rw [<- z,hl4] at hA1; cases hA1
 have nAk:kl ≠ A1:=fun z=>by rw [<- z,hk4] at hA1; cases hA1
 have n5:=aH hA1 (.lst (iV (ns.map V.int) (some 2) (some 63)))
 have e5:aY H4 A1 (.lst (iV (ns.map V.int) (some 2) (some 63))) A1=some (.lst (ms.map V.int)):=by rw [aB,ems]
 generalize aY H4 A1 (.lst (iV (ns.map V.int) (some 2) (some 63)))=H5 at n5 e5 ⊢
 have n45:=n4.trans n5
 refine ⟨A1,rfl,⟨_,bR.of e5⟩,?_⟩
 refine pR (xs:=ms.map V.int) (fun i σ H'=>∃ x q ts ks v5 v6 v7 v8,σ = [some (.ref a),some (.int (1 + c0 % 6)),some (.ref l),some (.ref x),some (.ref kl),v5,v6,v7,v8] /\ H' A1=some (.lst (ms.map V.int)) /\ H' l=some (.lst (ts.map V.ref)) /\ H' kl=some (.lst (ks.map V.int)) /\ Jg ks q /\ ks.length <= i /\ Mod H' ts q /\ gA c cC H' x q /\ (q.ys.length:Int)=(1 + c0 % 6) /\ q.ds.length <= i /\ ts.length=q.ys.length)
  ⟨x,q1,ts0,[],none,none,none,none,rfl,e5,n5 _ _ hl4,n5 _ _ hk4,Jg.nil bs1,Nat.le_refl _,mo1.keep (fun b xs e=>n45 _ _ e),hq1.kt (aN.kt n45),hmn.symm,by rw [hd1]; exact Nat.le_refl _,ql.symm⟩ (fun i σ H' _ ⟨_,_,_,_,_,_,_,_,_,e,_⟩=>bR.of e) ?turn2 ?done2
 case done2 =>
  rintro σ H6 ⟨x,q,ts,ks,v5,v6,v7,v8,rfl,hA6,hl6,hk6,kp,kn,mo,h,hm,hd,tl⟩
  refine ⟨_,rfl,_,rfl,_,rfl,x,q,kl,ks,by rw [hm]; rfl,h,hk6,kp,fun H7 s7=>?_⟩
  exact kq H7
 case turn2 =>
  rintro i v σ H6 hv ⟨x,q,ts,ks,v5,v6,v7,v8,rfl,hA6,hl6,hk6,kp,kn,mo,h,hm,hd,tl⟩
  obtain ⟨cell,hc,rfl⟩ : ∃ cell,ms[i]? = some cell /\ v = .int cell:=by
   rw [List.getElem?_map] at hv
   cases e:ms[i]? with
   | none=>rw [e] at hv; cases hv
   | some z=>rw [e] at hv; cases hv; exact ⟨z,rfl,rfl⟩
  have hin:=(List.getElem?_eq_some_iff.mp hc).1
  have n6:=h.n6
  have es:=h.es
  have ebl:=h.eb
  have g3:=Int.emod_nonneg cell (show (1 + c0 % 6) ≠ 0 by omega)
  have g4:=Int.emod_lt_of_pos cell (show (0:Int) < (1 + c0 % 6) by omega)
  obtain ⟨b,hb⟩ : ∃ b:Nat,cell % (1 + c0 % 6)=(b:Int):=⟨(cell % (1 + c0 % 6)).toNat,by omega⟩
  have hby:b < q.ys.length:=by omega
  have et:ts[b]? = some (ts[b]'(by omega)):=List.getElem?_eq_getElem _
  have ei:q.ss[b]? = some (q.ss[b]'(by omega)):=List.getElem?_eq_getElem _
  have eb:q.bs[b]? = some (q.bs[b]'(by omega)):=List.getElem?_eq_getElem _
  have to:=mo b _ _ et ei
  generalize ts[b]'(by omega)=t at et to
  generalize q.ss[b]'(by omega)=ent at ei to
  obtain ⟨sd,d,m⟩:=ent
  refine ⟨_,rfl,_,rfl,_,_,rfl,rfl,(by show (0:Int) < (1 + c0 % 6); omega),?_⟩
  refine ⟨_,rfl,_,rfl,l,_,_,_,rfl,rfl,bR.of hl6,(by rw [hb]; exact fU (v:=V.ref t) (by rw [List.getElem?_map,et]; rfl)),?_⟩
  have to0:=to
  cases to with
  | @en _ u ht =>
   refine ⟨_,rfl,t,_,_,_,rfl,rfl,bQ.of ht,rfl,rfl,_,rfl,?_⟩
   refine wK (by decide) ?_
   refine ⟨_,rfl,_,rfl,kl,_,rfl,.inl (bR.of hk6),rfl,wZ ks,_,rfl,?_⟩
   refine uR (fun c1=>?_) (fun c1=>?_)
   ·have nb:q.bs.getD b false=false:=by
     rw [<- kp b hby,<- hb]
     simpa using c1
    have eb2:q.bs[b]? = some false:=by rw [eb,<- gJ (d:=false) (show b < q.bs.length by omega),nb]
    refine ⟨_,rfl,x,_,_,rfl,h.hx,rfl,_,rfl,x,b,q,u,d,m,congrArg (fun z=>[V.ref x,V.int z]) hb,h,ei,eb2,by omega,fun x2 q2 H8 s8 h8 y8 ss8 bs8 ls8 sp8 dd8=>?_⟩
    obtain ⟨td,ed,_⟩:=dd8
    have hk8:=s8 _ _ hk6
    refine ⟨_,rfl,.inl ⟨rfl,_,bR.of hk8⟩,_,rfl,kl,_,.int (cell % (1 + c0 % 6)),rfl,rfl,hk8,by rw [List.length_map]; exact aX (by omega),?_⟩
    have h9:gA c cC (aY H8 kl (.lst (ks.map V.int ++ [.int (cell % (1 + c0 % 6))]))) x2 q2:=h8.lst hk8
    have kt9:∀ b' xs,H8 b'=some (.tup xs)->aY H8 kl (.lst (ks.map V.int ++ [.int (cell % (1 + c0 % 6))])) b'=some (.tup xs):=fun b' xs e=>by rw [aK (bO e hk8 fun z=>nomatch z)]; exact e
    have hl9:aY H8 kl (.lst (ks.map V.int ++ [.int (cell % (1 + c0 % 6))])) l=some (.lst (ts.map V.ref)):=by rw [aK nkl]; exact s8 _ _ hl6
    have hA9:aY H8 kl (.lst (ks.map V.int ++ [.int (cell % (1 + c0 % 6))])) A1=some (.lst (ms.map V.int)):=by rw [aK nAk.symm]; exact s8 _ _ hA6
    have e9:aY H8 kl (.lst (ks.map V.int ++ [.int (cell % (1 + c0 % 6))])) kl=some (.lst ((ks ++ [(b:Int)]).map V.int)):=by rw [aB,List.map_append,hb]; rfl
    generalize aY H8 kl (.lst (ks.map V.int ++ [.int (cell % (1 + c0 % 6))]))=H9 at h9 kt9 hl9 hA9 e9 ⊢
    have kp9:=kp.snoc hby ebl y8 bs8
    refine ⟨_,rfl,_,rfl,_,rfl,x2,q2,kl,ks ++ [(b:Int)],by rw [y8,hm]; rfl,h9,e9,kp9,fun H10 Gy=>?_⟩
    refine ⟨_,rfl,?_⟩
    refine fZ ?_
    refine ⟨x2,q2,ts,ks ++ [(b:Int)],_,_,_,_,rfl,Gy _ _ hA9,Gy _ _ hl9,Gy _ _ e9,kp9,by rw [List.length_append]; simpa using kn,fun i t s e1 e2=>(mo i t s e1 (ss8 ▸ e2)).keep fun b xs e=>Gy _ _ (kt9 _ _ (s8 _ _ e)),h9.kt (aN.kt Gy),by omega,by rw [ed,List.length_append]; simpa using hd,by omega⟩
   ·exact ⟨x,q,ts,ks,_,_,_,_,rfl,hA6,hl6,hk6,kp,by omega,mo,h,hm,by omega,tl⟩
  | @st _ r p rs ps zs ht hr lp ly row sub =>
   have st:=(h.st b _ _ (List.getElem?_eq_getElem hby) ei).1
   have rl:0 < rs.length:=by
    cases st with
    | st _ _ _ _ _ _ _ _ _ ne=>exact List.length_pos_iff.mpr ne
   refine ⟨_,rfl,t,_,_,_,rfl,rfl,bQ.of ht,rfl,rfl,_,rfl,?_⟩
   refine wO (by decide) ?_
   refine ⟨_,rfl,_,rfl,_,rfl,x,b,q,p,rs,d,m,t,congrArg (fun z=>[V.ref x,V.int z,V.ref t]) hb,h,ei,by omega,to0,fun H7 s7=>?_⟩
   refine ⟨_,rfl,?_⟩
   refine fZ ?_
   have h7:=h.kt (aN.kt s7)
   refine ⟨_,rfl,_,rfl,_,_,rfl,rfl,⟨by omega,by omega⟩,_,rfl,t,_,_,_,rfl,rfl,bQ.of (s7 _ _ ht),rfl,r,_,rfl,.inr (bQ.of (s7 _ _ hr)),_,_,rfl,rfl,(by rw [List.length_map,lp]; omega),?_⟩
   rw [List.length_map,lp]
   have f1:=Int.emod_nonneg (cell / (1 + c0 % 6)) (show (rs.length:Int) ≠ 0 by omega)
   have f2:=Int.emod_lt_of_pos (cell / (1 + c0 % 6)) (show (0:Int) < (rs.length:Int) by omega)
   obtain ⟨j,hj⟩ : ∃ z:Nat,cell / (1 + c0 % 6) % (rs.length:Int)=(z:Int):=⟨(cell / (1 + c0 % 6) % (rs.length:Int)).toNat,by omega⟩
   have hjr:j < rs.length:=by omega
   refine ⟨_,rfl,x,_,_,rfl,h7.hx,rfl,_,rfl,_,rfl,x,b,j,q,p,rs,d,m,(by rw [<- hb,<- hj]; rfl),h7,ei,hjr,by omega,fun x2 q2 H8 s8 h8 y8 nx bs8 nc sp8 dd8=>?_⟩
   obtain ⟨td,ed,_⟩:=dd8
   obtain ⟨tt,d2,m2,ett,ss8⟩:=nx
   have s78:=s7.trans s8
   have ep:ps[j]? = some (ps[j]'(by omega)):=List.getElem?_eq_getElem _
   have ez:zs[j]? = some (zs[j]'(by omega)):=List.getElem?_eq_getElem _
   have rw7:=s78 _ _ (row j _ _ tt ep ez ett)
   have to7:=(sub j _ tt ez ett).same s78
   generalize zs[j]'(by omega)=z at ez rw7 to7
   generalize ps[j]'(by omega)=pp at ep rw7
   refine ⟨_,rfl,t,_,_,_,rfl,rfl,bQ.of (s78 _ _ ht),rfl,_,rfl,r,_,_,_,rfl,rfl,bQ.of (s78 _ _ hr),(by rw [hj]; exact fU (v:=V.ref pp) (by rw [List.getElem?_map,ep]; rfl)),pp,_,_,_,rfl,rfl,bQ.of rw7,rfl,?_⟩
   have hl8:=s78 _ _ hl6
   refine ⟨_,rfl,_,rfl,l,_,_,b,rfl,rfl,hl8,?_,?_⟩
   ·unfold Nq
    rw [if_pos (by omega),if_pos (by rw [List.length_map]; omega),hb]
    rfl
   have h9:gA c cC (aY H8 l (.lst ((ts.map V.ref).set b (.ref z)))) x2 q2:=h8.lst hl8
   have e9:aY H8 l (.lst ((ts.map V.ref).set b (.ref z))) l=some (.lst ((ts.set b z).map V.ref)):=by rw [aB,List.map_set]
   have hA9:aY H8 l (.lst ((ts.map V.ref).set b (.ref z))) A1=some (.lst (ms.map V.int)):=by rw [aK nA.symm]; exact s78 _ _ hA6
   have hk9:aY H8 l (.lst ((ts.map V.ref).set b (.ref z))) kl=some (.lst (ks.map V.int)):=by rw [aK nkl.symm]; exact s78 _ _ hk6
   have kt9:∀ b' xs,H8 b'=some (.tup xs)->aY H8 l (.lst ((ts.map V.ref).set b (.ref z))) b'=some (.tup xs):=fun b' xs e=>by rw [aK (bO e hl8 fun z=>nomatch z)]; exact e
   generalize aY H8 l (.lst ((ts.map V.ref).set b (.ref z)))=H9 at h9 e9 hA9 hk9 kt9 ⊢
   refine ⟨x2,q2,ts.set b z,ks,_,_,_,_,rfl,hA9,e9,hk9,kp.of y8 bs8,by omega,fun u t' s' e1 e2=>?_,h9,by omega,by rw [ed,List.length_append]; simpa using hd,by rw [List.length_set]; omega⟩
   rw [ss8] at e2
   rw [List.getElem?_set] at e1 e2
   by_cases hu:b=u
   ·rw [if_pos hu,if_pos (by omega)] at e1 e2
    cases e1
    cases e2
    exact to7.keep kt9
   ·rw [if_neg hu] at e1 e2
    exact ((mo u t' s' e1 e2).same s78).keep kt9
end
end K24
namespace L2
open PySem PySem.Spec PyProof.Rows
structure TF (K:PySem.W.Frag) (x:Str) (st:Stmt) (f:Addr) (fd:FuncData):Prop where
 a:PySem.W.nsIn K mainGlobals x=some (some (.ref f))
 F:fH K x x st f fd
structure MF (K:PySem.W.Frag) (C:Addr) (m q:Str) (st:Stmt) (f:Addr) (fd:FuncData):Prop where
 a:PySem.W.findIn K (.ref C) m=some (some (.ref f))
 i:PySem.W.isFn K (.ref f)=true
 F:fH K m q st f fd
structure TD (K:PySem.W.Frag) (x:Str) (st:Stmt) (dT f:Addr) (fd:FuncData):Prop where
 a:PySem.W.nsIn K mainGlobals x=some (some (.ref f))
 F:K6 K dT x x st f fd
def Qn (K:PySem.W.Frag) (l:List Str):Bool:=l.all fun x=>match PySem.W.nsIn K mainGlobals x with | some none=>true | _=>false
def Xd (mg:Str->Option Value):List Str->Prop
 | []=>True
 | x :: r=>mg x=none /\ Xd mg r
section
variable {P:Program}{w:World}{K:PySem.W.Frag}{mg:Str->Option Value}{base h:Heap}{x m q:Str}{st:Stmt}{f C:Addr}{fd:FuncData}{ps:List Str}{sp:Sp}{n:Nat}
theorem Wq (X:K.In h) (G:h.Ns mainGlobals mg):∀ {l:List Str},Qn K l=true->Xd mg l
 | [],_=>trivial
 | y :: r,e=>by
  have e':((match PySem.W.nsIn K mainGlobals y with | some none=>true | _=>false) && Qn K r)=true:=e
  rw [Bool.and_eq_true] at e'
  refine ⟨PySem.W.mg_none_of X G ?_,Wq X G e'.2⟩
  have e1:=e'.1
  revert e1
  cases PySem.W.nsIn K mainGlobals y with
  | none=>intro z; cases z
  | some o=>cases o with
   | none=>intro _; rfl
   | some v=>intro z; cases z
theorem MF.mt (T:MF K C m q st f fd):dM K C m f:=⟨T.a,T.i,T.F.kp⟩
theorem TF.cal (T:TF K x st f fd) (X:K.In h) (G:h.Ns mainGlobals mg) (g:aV P w K mg base d7 n f fd ps sp) (b:bI K fd ps []):fL P w K mg base n x ps sp f fd:=⟨g,b,T.F.kp,PySem.W.mg_of X G T.a⟩
theorem TF.calX (T:TF K x st f fd) (X:K.In h) (G:h.Ns mainGlobals mg) (g:aV P w K mg base (nF P w) n f fd ps sp) (b:bI K fd ps []):zH P w K mg base n x ps sp f fd:=⟨g,b,T.F.kp,PySem.W.mg_of X G T.a⟩
theorem TD.cal {dT:Addr} (T:TD K x st dT f fd) (X:K.In h) (G:h.Ns mainGlobals mg) (g:aV P w K mg base d7 n f fd ps sp) (b:bI K fd ps []):fL P w K mg base n x ps sp f fd:=⟨g,b,T.F.kp,PySem.W.mg_of X G T.a⟩
theorem fL.u {m:Nat} (c:fL P w K mg base n x ps sp f fd) (h:n <= m:=by omega):fL P w K mg base m x ps sp f fd:=c.up h
theorem zH.u {m:Nat} (c:zH P w K mg base n x ps sp f fd) (h:n <= m:=by omega):zH P w K mg base m x ps sp f fd:=c.up h
theorem aV.u {CX:yZ}{m:Nat} (g:aV P w K mg base CX n f fd ps sp) (h:n <= m:=by omega):aV P w K mg base CX m f fd ps sp:=g.mono h
theorem wY {CX:yZ} (_:aV P w K mg base CX n f fd ps sp) (b:bI K fd ps []):bI K fd ps []:=b
abbrev Yu (x q:Str) (st:Stmt) (us:List Value) (r:List (Str × Value)):Prop:=∀ (kV doc pm:Value) (an:Option Addr) (cdv ct:Value),bindArgs (PySem.W.fnOf x q (iB st) (fV st) (aM st) .none kV doc pm an cdv ct) ⟨us,[]⟩ = pure r
theorem fH.bd1 {a:Str} (F:fH K x q st f fd) (h:∀ u,Yu x q st [u] [(a,u)]:=by intros; exact fun _ _ _ _ _ _=>rfl):bI K fd [a] []:=F.binds fun _ _ _ _ _ _ us hl=>match us,hl with | [_],_=>h _ _ _ _ _ _ _
theorem fH.bd2 {a b:Str} (F:fH K x q st f fd) (h:∀ u v,Yu x q st [u,v] [(a,u),(b,v)]:=by intros; exact fun _ _ _ _ _ _=>rfl):bI K fd [a,b] []:=F.binds fun _ _ _ _ _ _ us hl=>match us,hl with | [_,_],_=>h _ _ _ _ _ _ _ _
theorem fH.bd3 {a b c:Str} (F:fH K x q st f fd) (h:∀ u v y,Yu x q st [u,v,y] [(a,u),(b,v),(c,y)]:=by intros; exact fun _ _ _ _ _ _=>rfl):bI K fd [a,b,c] []:=F.binds fun _ _ _ _ _ _ us hl=>match us,hl with | [_,_,_],_=>h _ _ _ _ _ _ _ _ _
theorem fH.bd5 {a b c d e:Str} (F:fH K x q st f fd) (h:∀ u v y z t,Yu x q st [u,v,y,z,t] [(a,u),(b,v),(c,y),(d,z),(e,t)]:=by intros; exact fun _ _ _ _ _ _=>rfl):bI K fd [a,b,c,d,e] []:=F.binds fun _ _ _ _ _ _ us hl=>match us,hl with | [_,_,_,_,_],_=>h _ _ _ _ _ _ _ _ _ _ _
theorem Yr {CX:yZ}{b:Nat}{sp:Nat->Sp} (z:∀ vs H Q E,¬ sp 0 vs H Q E) (s:∀ d,aV P w K mg base CX (b + d) f fd ps (sp d)->aV P w K mg base CX (b + d + 1) f fd ps (sp (d + 1))):∀ d,aV P w K mg base CX (b + d) f fd ps (sp d)
 | 0=>⟨fun vs H Q E y=>absurd y (z vs H Q E),fun A outer s H args us vs Q E _ _ _ _ y=>absurd y (z vs H Q E)⟩
 | d + 1=>s d (Yr z s d)
end
end L2
namespace K24
open PySem L2 TD PyProof.Rows
theorem Qj {l:W.OpenLaw}{w:World}{K:W.Frag}{h:Heap}{mg:Str->Option Value}{fa cR Pt f1 f2 f3 f4 f5 f6 f7 f8 f9 f10 f11 f12 f13 f14 f15 f16 f17 f18 f19 f20 f21 f22 f23 f24 f25 f26 f27 f28 f29 f30 f31 f32 f33 f34 f35 f36 f37 f38 f39 f40 f41 f42 f43 f44 f45 f46 f47 f48 f49 f50 f51 f52 f53 f54 f55 f56 f57 f58 f59 f60 dT cSt cE cS cC C_NoDeed C_NoBox:Addr}{g1 g2 g3 g4 g5 g6 g7 g8 g9 g10 g11 g12 g13 g14 g15 g16 g17 g18 g19 g20 g21 g22 g23 g24 g25 g26 g27 g28 g29 g30 g31 g32 g33 g34 g35 g36 g37 g38 g39 g40 g41 g42 g43 g44 g45 g46 g47 g48 g49 g50 g51 g52 g53 g54 g55 g56 g57 g58 g59 g60:FuncData} (X:K.In h) (G:h.Ns mainGlobals mg) (hfa:mg "law" = some (.ref fa))
  (aC_Stand:W.nsIn K mainGlobals "Stand" = some (some (.ref cSt)))
  (aC_End:W.nsIn K mainGlobals "End" = some (some (.ref cE)))
  (aC_Stage:W.nsIn K mainGlobals "Stage" = some (some (.ref cS)))
  (aC_Case:W.nsIn K mainGlobals "Case" = some (some (.ref cC)))
  (aC_NoDeed:W.nsIn K mainGlobals "NoDeed" = some (some (.ref C_NoDeed)))
  (aC_NoBox:W.nsIn K mainGlobals "NoBox" = some (some (.ref C_NoBox)))
  (T1:TF K "is_whole" (top 6) f1 g1)
  (T2:TF K "common_divisor" (top 7) f2 g2)
  (T3:TF K "common_multiple" (top 8) f3 g3)
  (T4:TF K "share" (top 9) f4 g4)
  (T5:TF K "whole" (top 10) f5 g5)
  (T6:TF K "plus" (top 11) f6 g6)
  (T7:TF K "below" (top 12) f7 g7)
  (T8:TF K "lesser" (top 13) f8 g8)
  (T9:TF K "rising" (top 17) f9 g9)
  (T10:TF K "in_form" (top 18) f10 g10)
  (T11:TF K "all_weights" (top 19) f11 g11)
  (T12:TF K "by_weights" (top 20) f12 g12)
  (T13:TF K "above" (top 21) f13 g13)
  (T14:TF K "capped" (top 22) f14 g14)
  (T15:TF K "mixed" (top 23) f15 g15)
  (T16:TF K "level_for" (top 24) f16 g16)
  (T17:TF K "is_stand" (top 34) f17 g17)
  (T18:TF K "is_stage_row" (top 35) f18 g18)
  (T19:TF K "is_stage_rows" (top 36) f19 g19)
  (T20:TF K "need_boxes" (top 37) f20 g20)
  (T21:TF K "with_thing" (top 39) f21 g21)
  (T22:TF K "_law_cell_at" (top 42) f22 g22)
  (T23:TF K "_law_mixed" (top 43) f23 g23)
  (T24:TF K "_law_left" (top 44) f24 g24)
  (T25:TF K "_law_draw" (top 45) f25 g25)
  (T26:TF K "_law_ends" (top 46) f26 g26)
  (T27:L2.TD K "_law_model" (top 47) dT f27 g27)
  (T28:TF K "_law_object" (top 48) f28 g28)
  (T29:TF K "_law_models" (top 49) f29 g29)
  (T30:TF K "_law_boxes" (top 50) f30 g30)
  (T31:TF K "_law_whole" (top 51) f31 g31)
  (T32:TF K "_law_divisor" (top 52) f32 g32)
  (T33:TF K "_law_lowest" (top 53) f33 g33)
  (T34:TF K "_law_sum" (top 54) f34 g34)
  (T35:TF K "_law_times" (top 55) f35 g35)
  (T36:TF K "_law_is_share" (top 56) f36 g36)
  (T37:TF K "_law_mean_behind" (top 57) f37 g37)
  (T38:TF K "_law_fixed" (top 58) f38 g38)
  (T39:TF K "_law_left_fits" (top 59) f39 g39)
  (T40:TF K "law" (top 60) f40 g40)
  (T41:MF K cSt "__init__" "Stand.__init__" (aG (top 31) 0) f41 g41)
  (T42:MF K cSt "ends" "Stand.ends" (aG (top 31) 1) f42 g42)
  (T43:MF K cSt "stages" "Stand.stages" (aG (top 31) 2) f43 g43)
  (T44:MF K cSt "reserve" "Stand.reserve" (aG (top 31) 3) f44 g44)
  (T45:MF K cSt "caps" "Stand.caps" (aG (top 31) 4) f45 g45)
  (T46:MF K cE "__init__" "End.__init__" (aG (top 32) 0) f46 g46)
  (T47:MF K cE "is_end" "End.is_end" (aG (top 32) 1) f47 g47)
  (T48:MF K cS "__init__" "Stage.__init__" (aG (top 33) 0) f48 g48)
  (T49:MF K cS "is_end" "Stage.is_end" (aG (top 33) 1) f49 g49)
  (T50:MF K cS "after" "Stage.after" (aG (top 33) 3) f50 g50)
  (T51:MF K cC "__init__" "Case.__init__" (aG (top 40) 0) f51 g51)
  (T52:MF K cC "how_many" "Case.how_many" (aG (top 40) 1) f52 g52)
  (T53:MF K cC "need_box" "Case.need_box" (aG (top 40) 2) f53 g53)
  (T54:MF K cC "stand" "Case.stand" (aG (top 40) 3) f54 g54)
  (T55:MF K cC "cap" "Case.cap" (aG (top 40) 4) f55 g55)
  (T56:MF K cC "debt" "Case.debt" (aG (top 40) 10) f56 g56)
  (T57:MF K cC "left" "Case.left" (aG (top 40) 11) f57 g57)
  (T58:MF K cC "behind" "Case.behind" (aG (top 40) 12) f58 g58)
  (T59:MF K cC "opened" "Case.opened" (aG (top 40) 13) f59 g59)
  (T60:MF K cC "taken" "Case.taken" (aG (top 40) 14) f60 g60)
  (ck:CK K ⟨cE,cS⟩)
  (ct:CT K ⟨cE,cS⟩)
  (mkE:W.makesIn K cE=true)
  (kcE:W.keepIn K (.ref cE)=true)
  (vE_ends:W.findIn K (.ref cE) "ends" = some (some (.ref f42)))
  (vE_stages:W.findIn K (.ref cE) "stages" = some (some (.ref f43)))
  (vE_reserve:W.findIn K (.ref cE) "reserve" = some (some (.ref f44)))
  (vE_caps:W.findIn K (.ref cE) "caps" = some (some (.ref f45)))
  (mkS:W.makesIn K cS=true)
  (kcS:W.keepIn K (.ref cS)=true)
  (vS_ends:W.findIn K (.ref cS) "ends" = some (some (.ref f42)))
  (vS_stages:W.findIn K (.ref cS) "stages" = some (some (.ref f43)))
  (vS_reserve:W.findIn K (.ref cS) "reserve" = some (some (.ref f44)))
  (vS_caps:W.findIn K (.ref cS) "caps" = some (some (.ref f45)))
  (mS_i:Mz K cSt "__init__" f41)
  (xclD:rO K C_NoDeed)
  (xcl:rO K C_NoBox)
  (cn:CN K ⟨cE,cS⟩)
  (ca:Df K ⟨cE,cS⟩ cC)
  (mkC:W.makesIn K cC=true)
  (kcC:W.keepIn K (.ref cC)=true)
  (y_:Qn K ["abs","all","bool","int","isinstance","len","list","max","min","range","reversed","sorted","sum","tuple"]=true)
  {tk_MOST_WEIGHT:Tok} (yg_MOST_WEIGHT:W.nsIn K mainGlobals "MOST_WEIGHT" = some (some (.int 1000 tk_MOST_WEIGHT)))
  {tk_MOST_STAGE_ROWS:Tok} (yg_MOST_STAGE_ROWS:W.nsIn K mainGlobals "MOST_STAGE_ROWS" = some (some (.int 4 tk_MOST_STAGE_ROWS)))
  {tk_MOST_BOXES:Tok} (yg_MOST_BOXES:W.nsIn K mainGlobals "MOST_BOXES" = some (some (.int 6 tk_MOST_BOXES)))
  {tk_MOST_WORTH:Tok} (yg_MOST_WORTH:W.nsIn K mainGlobals "MOST_WORTH" = some (some (.int 1000000000 tk_MOST_WORTH)))
  {tk_MOST_STAGES:Tok} (yg_MOST_STAGES:W.nsIn K mainGlobals "MOST_STAGES" = some (some (.int 4 tk_MOST_STAGES)))
  {tk_MOST_ENDS:Tok} (yg_MOST_ENDS:W.nsIn K mainGlobals "MOST_ENDS" = some (some (.int 12 tk_MOST_ENDS)))
  {tk_MOST_PRICE:Tok} (yg_MOST_PRICE:W.nsIn K mainGlobals "MOST_PRICE" = some (some (.int 1000000000 tk_MOST_PRICE)))
  {tk0 tk12:Tok}{dn:Nat}{dsl:Array (Option Value)}{ddd:Option Addr} (ldT:K.lookup dT=some ⟨.type "tuple",ddd,.seq #[.int 0 tk0,.int 12 tk12] dn,dsl⟩)
  (gcR:g9.code = .ref cR)
  (tb:W.tabIn K "rising" = some (cR,Pt)) (ch:W.codeHdIn K cR Pt=true) (np:K.lookup Pt=none)
  : ∃ (fd:FuncData) (c P:Addr),(∀ (s:Shared) (v:Value),BindsTo s fd ⟨[v],[]⟩ [("_law_script",v)]) /\ W.tabIn K "rising" = some (c,P) /\ W.codeHdIn K c P=true /\ K.lookup P=none /\ ∀ base:Heap,K.In base->base.Ns mainGlobals mg->W.CodeHd base c P->base.BuiltinsAt mg P->aV l.prog w K mg base d7 15 fa fd ["_law_script"] (tM K P iD):=by
 obtain ⟨c,rfl,rfl⟩ : ∃ c:Cs,c.e=cE /\ c.s=cS:=⟨⟨cE,cS⟩,rfl,rfl⟩
 replace ck:CK K c:=ck
 replace ct:CT K c:=ct
 replace cn:CN K c:=cn
 replace ca:Df K c cC:=ca
 cases hfa.symm.trans (W.mg_of X G T40.a)
 have ⟨z_abs,z_all,z_bool,z_int,z_isinstance,z_len,z_list,z_max,z_min,z_range,z_reversed,z_sorted,z_sum,z_tuple,_⟩:=Wq X G y_
 have g_Stand:=W.mg_of X G aC_Stand
 have g_End:=W.mg_of X G aC_End
 have g_Stage:=W.mg_of X G aC_Stage
 have g_Case:=W.mg_of X G aC_Case
 have g_NoDeed:=W.mg_of X G aC_NoDeed
 have g_NoBox:=W.mg_of X G aC_NoBox
 have g_MOST_WEIGHT:=W.mg_of X G yg_MOST_WEIGHT
 have r_MOST_WEIGHT:bJ (.int 1000) (.int 1000 tk_MOST_WEIGHT):=⟨_,rfl⟩
 have g_MOST_STAGE_ROWS:=W.mg_of X G yg_MOST_STAGE_ROWS
 have r_MOST_STAGE_ROWS:bJ (.int 4) (.int 4 tk_MOST_STAGE_ROWS):=⟨_,rfl⟩
 have g_MOST_BOXES:=W.mg_of X G yg_MOST_BOXES
 have r_MOST_BOXES:bJ (.int 6) (.int 6 tk_MOST_BOXES):=⟨_,rfl⟩
 have g_MOST_WORTH:=W.mg_of X G yg_MOST_WORTH
 have r_MOST_WORTH:bJ (.int 1000000000) (.int 1000000000 tk_MOST_WORTH):=⟨_,rfl⟩
 have g_MOST_STAGES:=W.mg_of X G yg_MOST_STAGES
 have r_MOST_STAGES:bJ (.int 4) (.int 4 tk_MOST_STAGES):=⟨_,rfl⟩
 have g_MOST_ENDS:=W.mg_of X G yg_MOST_ENDS
 have r_MOST_ENDS:bJ (.int 12) (.int 12 tk_MOST_ENDS):=⟨_,rfl⟩
 have g_MOST_PRICE:=W.mg_of X G yg_MOST_PRICE
 have r_MOST_PRICE:bJ (.int 1000000000) (.int 1000000000 tk_MOST_PRICE):=⟨_,rfl⟩
 refine ⟨g40,cR,Pt,fun s v=>?_,tb,ch,np,fun base _ _ hC hB=>?_⟩
 ·obtain ⟨_,_,_,_,_,_,_,_,_,rfl,_⟩:=T40.F.ex
  exact .of_eq rfl
 have R {CX n f g ps sp} (z:aV l.prog w K mg base CX n f g ps sp):=z
 have ME:Mk K c.e f46:=⟨mkE,T46.a,T46.i,kcE⟩
 have MS:Mk K c.s f48:=⟨mkS,T48.a,T48.i,kcS⟩
 have mE_ends:dM K c.e "ends" f42:=⟨vE_ends,T42.i,T42.F.kp⟩
 have mS_ends:dM K c.s "ends" f42:=⟨vS_ends,T42.i,T42.F.kp⟩
 have mE_stages:dM K c.e "stages" f43:=⟨vE_stages,T43.i,T43.F.kp⟩
 have mS_stages:dM K c.s "stages" f43:=⟨vS_stages,T43.i,T43.F.kp⟩
 have mE_reserve:dM K c.e "reserve" f44:=⟨vE_reserve,T44.i,T44.F.kp⟩
 have mS_reserve:dM K c.s "reserve" f44:=⟨vS_reserve,T44.i,T44.F.kp⟩
 have mE_caps:dM K c.e "caps" f45:=⟨vE_caps,T45.i,T45.F.kp⟩
 have mS_caps:dM K c.s "caps" f45:=⟨vS_caps,T45.i,T45.F.kp⟩
 have mt47:=T47.mt
 have mt49:=T49.mt
 have mt50:=T50.mt
 have mt52:=T52.mt
 have mt53:=T53.mt
 have mt54:=T54.mt
 have mt55:=T55.mt
 have mt56:=T56.mt
 have mt57:=T57.mt
 have mt58:=T58.mt
 have mt59:=T59.mt
 have mt60:=T60.mt
 have MCa:Mk K cC f51:=⟨mkC,T51.a,T51.i,kcC⟩
 have bAll:∀ (s:Shared) (us:List Value),K.In s.heap->∀ (bs:List (Str × Value)),(∃ a,us=[a] /\ bs=[(("_law_left_here" : Str),a),(("_law_level" : Str),Value.int 0 tk0),(("_law_most" : Str),Value.int 12 tk12)]) ∨ (∃ a b c,us=[a,b,c] /\ bs=[(("_law_left_here" : Str),a),(("_law_level" : Str),b),(("_law_most" : Str),c)])->BindsTo s g27 ⟨us,[]⟩ bs:=fun s us X bs hb=>by
  obtain ⟨_,_,_,_,_,_,_,_,_,rfl,_⟩:=T27.F.ex
  rcases hb with ⟨a,rfl,rfl⟩ | ⟨a,b,c,rfl,rfl⟩ <;> exact BindsTo.of_defaults rfl (X _ _ ldT) rfl rfl rfl
 have b27:bI K g27 ["_law_left_here","_law_level","_law_most"] []:=fun s us X hl=>by
  have hl':us.length=3:=by simpa using hl
  match us,hl' with
  | [a,b,c],_=>exact bAll s _ X _ (.inr ⟨a,b,c,rfl,rfl⟩)
 have bD:bI K g27 ["_law_left_here","_law_level","_law_most"] [.int 0 tk0,.int 12 tk12]:=fun s us X hl=>by
  have hl':us.length=1:=by simp at hl; omega
  match us,hl' with
  | [a],_=>exact bAll s _ X _ (.inl ⟨a,rfl,rfl⟩)
 have v_md:bL [V.int 0,V.int 12] [Value.int 0 tk0,Value.int 12 tk12]:=.cons ⟨_,rfl⟩ (.cons ⟨_,rfl⟩ .nil)
 have G1:=R (Ba (n:=0) T1.F z_isinstance z_bool z_int)
 have C1:=T1.cal X G G1 T1.F.bd3
 have G2:=R (pP (n:=0) T2.F z_abs)
 have C2:=T2.cal X G G2 T2.F.bd2
 have G3:=R (oU (n:=1) T3.F C2.u)
 have C3:=T3.cal X G G3 T3.F.bd1
 have G4:=R (Lf (n:=1) T4.F C2.u)
 have C4:=T4.cal X G G4 T4.F.bd2
 have G5:=R (K4 (n:=0) T5.F )
 have C5:=T5.cal X G G5 T5.F.bd1
 have G6:=R (Ln (n:=2) T6.F (T4.cal X G (R (HJ (n:=1) T4.F C2.u)) T4.F.bd2).u)
 have C6:=T6.cal X G G6 T6.F.bd2
 have G7:=R (Jr (n:=0) T7.F )
 have C7:=T7.cal X G G7 T7.F.bd2
 have G8:=R (Hr (n:=1) T8.F C7.u)
 have C8:=T8.cal X G G8 T8.F.bd2
 have G9:=R (IK (n:=0) T9.F gcR hC hB z_sorted z_max)
 have C9:=T9.cal X G G9 T9.F.bd1
 have G10:=R (Ep (n:=1) T10.F C9.u C2.u z_list)
 have C10:=T10.cal X G G10 T10.F.bd1
 have G11:=R (uX (n:=0) T11.F z_sum)
 have C11:=T11.cal X G G11 T11.F.bd1
 have G12:=R (v9 (n:=2) T12.F C4.u C3.u z_sum)
 have C12:=T12.cal X G G12 T12.F.bd2
 have G13:=R (Iv (n:=3) T13.F C12.u C11.u C7.u)
 have C13:=T13.cal X G G13 T13.F.bd2
 have G14:=R (Hg (n:=2) T14.F C10.u C8.u)
 have C14:=T14.cal X G G14 T14.F.bd2
 have G15:=R (Jz (n:=2) T15.F C10.u C11.u C3.u)
 have C15:=T15.cal X G G15 T15.F.bd1
 have G16:=R (zK (n:=2) T16.F C4.u C11.u C3.u z_reversed)
 have C16:=T16.cal X G G16 T16.F.bd2
 have G17:=R (BV (n:=0) T17.F ck ct cn g_End g_Stage z_isinstance)
 have C17:=T17.cal X G G17 T17.F.bd1
 have G18:=R (rN (n:=1) T18.F (c:=c) C17.u C1.u z_len z_isinstance z_tuple g_MOST_WEIGHT r_MOST_WEIGHT)
 have C18:=T18.cal X G G18 T18.F.bd1
 have G19:=R (qC (n:=2) T19.F (c:=c) C18.u z_all z_len z_isinstance z_list g_MOST_STAGE_ROWS r_MOST_STAGE_ROWS)
 have C19:=T19.cal X G G19 T19.F.bd1
 have G20:=R (wL (n:=1) T20.F (c:=c) g_NoBox xcl C17.u z_all z_len z_isinstance z_list g_MOST_BOXES r_MOST_BOXES)
 have C20:=T20.calX X G G20 T20.F.bd1
 have G21:=R (wJ (n:=0) T21.F )
 have C21:=T21.cal X G G21 T21.F.bd3
 have G22:=R (rY (n:=0) T22.F z_len)
 have C22:=T22.cal X G G22 T22.F.bd2
 have G23:=R (wF (n:=0) T23.F )
 have C23:=T23.cal X G G23 T23.F.bd2
 have G24:=R (zN (n:=1) T24.F C22.u)
 have C24:=T24.cal X G G24 T24.F.bd2
 have G25:=R (zJ (n:=1) T25.F C23.u)
 have C25:=T25.cal X G G25 T25.F.bd2
 have b26:bI K g26 ["_law_stand"] []:=T26.F.bd1
 have G26:=Yr (b:=1) (sp:=M3) (fun vs H Q E ⟨_,_,_,_,_,_,_,h,_⟩=>absurd h (Nat.not_lt_zero _)) (fun d z=>R (Ad (n:=1 + d) T26.F (T26.cal X G z b26) z_sum)) 6
 have C26:=T26.cal X G G26 b26
 have G27:=Yr (b:=8) (sp:=MT) (fun vs H Q E ⟨_,_,_,_,_,_,_,_,_,_,h,_⟩=>absurd h (Nat.not_lt_zero _)) (fun d z=>R (wM (n:=8 + d) T27.F (T27.cal X G z b27) C26.u C25.u z_tuple z_range z_sum z_min z_int)) 5
 have C27:=T27.cal X G G27 b27
 have G41:=R (pH (n:=0) T41.F ck z_tuple)
 have b41:=wY G41 T41.F.bd5
 have G46:=R (rK (n:=1) T46.F ck g_Stand mS_i G41.u b41 g_NoBox xcl C5.u C1.u g_MOST_WORTH r_MOST_WORTH)
 have b46:=wY G46 T46.F.bd2
 have G42:=R (wC (n:=0) T42.F ck)
 have b42:=wY G42 T42.F.bd1
 have G43:=R (rM (n:=0) T43.F ck)
 have b43:=wY G43 T43.F.bd1
 have G45:=R (wD (n:=0) T45.F ck z_list)
 have b45:=wY G45 T45.F.bd1
 have G48:=R (pC (n:=3) T48.F ck g_Stand mS_i G41.u b41 ck.ce ck.cs mE_ends mS_ends G42.u b42 mE_stages mS_stages G43.u b43 mE_caps mS_caps G45.u b45 g_NoBox xcl C14.u C16.u C15.u C19.u C1.u z_tuple z_max z_sum g_MOST_STAGES r_MOST_STAGES g_MOST_ENDS r_MOST_ENDS g_MOST_PRICE r_MOST_PRICE)
 have b48:=wY G48 T48.F.bd3
 have b28:bI K g28 ["_law_model_here"] []:=T28.F.bd1
 have G28:=Yr (b:=6) (sp:=Lq c Pt iD) (fun vs H Q E ⟨_,_,_,_,_,_,_,h,_⟩=>absurd h (Nat.not_lt_zero _)) (fun d z=>R (tY (n:=6 + d) T28.F ME G46 b46 g_End (by omega) MS G48 b48 g_Stage (by omega) (T28.cal X G z b28))) 5
 have C28:=T28.cal X G G28 b28
 have G29:=R (uO (n:=13) T29.F v_md C22.u C27.u C24.u bD z_range)
 have C29:=T29.cal X G G29 T29.F.bd2
 have G30:=R (wN (n:=11) T30.F (c:=c) C28.u z_range z_len)
 have C30:=T30.cal X G G30 T30.F.bd1
 have G31:=R (wA (n:=0) T31.F z_isinstance z_bool z_int)
 have C31:=T31.cal X G G31 T31.F.bd1
 have G32:=R (sG (n:=0) T32.F z_abs)
 have C32:=T32.cal X G G32 T32.F.bd2
 have G33:=R (vL (n:=1) T33.F C32.u)
 have C33:=T33.cal X G G33 T33.F.bd2
 have G34:=R (CZ (n:=2) T34.F C33.u)
 have C34:=T34.cal X G G34 T34.F.bd2
 have G35:=R (vR (n:=2) T35.F C33.u)
 have C35:=T35.cal X G G35 T35.F.bd2
 have G36:=R (p6 (n:=1) T36.F C32.u C31.u z_len z_isinstance z_tuple)
 have C36:=T36.cal X G G36 T36.F.bd1
 have G52:=R (qD (n:=0) T52.F ca z_len)
 have b52:=wY G52 T52.F.bd1
 have G53:=R (p7 (n:=1) T53.F ca g_NoDeed xclD mt52 G52.u b52 C1.u)
 have b53:=wY G53 T53.F.bd2
 have G54:=R (wH (n:=2) T54.F ca mt53 G53.u b53)
 have b54:=wY G54 T54.F.bd2
 have G55:=R (Cv (n:=2) T55.F ca mt53 G53.u b53)
 have b55:=wY G55 T55.F.bd2
 have G47:=R (vX (n:=0) T47.F (c:=c))
 have b47:=wY G47 T47.F.bd1
 have G49:=R (rR (n:=0) T49.F (c:=c))
 have b49:=wY G49 T49.F.bd1
 have G44:=R (qJ (n:=0) T44.F ck)
 have b44:=wY G44 T44.F.bd1
 have G50:=R (uL (n:=0) T50.F ck)
 have b50:=wY G50 T50.F.bd2
 have G51:=R (qR (n:=2) T51.F ca g_NoBox xcl C20.u z_tuple)
 have b51:=wY G51 T51.F.bd2
 have G58:=R (u5 (n:=4) T58.F ca MCa G51 b51 g_Case (by omega) z_list)
 have b58:=wY G58 T58.F.bd2
 have G59:=R (u9 (n:=5) T59.F ca ck g_NoDeed xclD mt54 G54.u b54 mt55 G55.u b55 mt47 G47.u b47 mt49 G49.u b49 mS_reserve G44.u b44 mt50 G50.u b50 mt58 G58.u b58 C21.u C8.u C1.u z_len)
 have b59:=wY G59 T59.F.bd3
 have G56:=R (zX (n:=4) T56.F ca ck mt54 G54.u b54 mt55 G55.u b55 mE_caps mS_caps (R (uC (n:=0) T45.F ck z_list)).u b45 C5.u C13.u)
 have b56:=wY G56 T56.F.bd2
 have G37:=R (nC (n:=6) T37.F ca mt59 G59.u b59 mt56 G56.u b56 C34.u C35.u C33.u C36.u z_range z_len z_sum)
 have C37:=T37.cal X G G37 T37.F.bd3
 have G38:=R (vZ (n:=7) T38.F ca mt55 G55.u b55 mt56 G56.u b56 C34.u C37.u C36.u)
 have C38:=T38.cal X G G38 T38.F.bd3
 have G57:=R (yV (n:=5) T57.F ca mt52 G52.u b52 mt56 G56.u b56 C6.u C5.u z_range)
 have b57:=wY G57 T57.F.bd1
 have G39:=R (pN (n:=6) T39.F ca mt56 G56.u b56 mt57 G57.u b57 C36.u C34.u z_range)
 have C39:=T39.cal X G G39 T39.F.bd3
 have G60:=R (wI (n:=5) T60.F ca ck g_NoDeed xclD mt54 G54.u b54 mt47 G47.u b47 mt49 G49.u b49 mt58 G58.u b58 C21.u)
 have b60:=wY G60 T60.F.bd2
 exact Qd (n:=14) T40.F ca ck MCa G51 b51 g_Case (by omega) mt59 G59.u b59 mt60 G60.u b60 C39.u C38.u C30.u C29.u C22.u z_len
theorem aAt {l:W.OpenLaw}{q:Program}{loose:List Str}{XP:(Str->Option Value)->Heap->Prop}{YP:World->Heap->Prop}{d d0:DefRec}{K:Params->W.Frag} (hn:l.most=some 63) (hdf:d.params.defaults=[])
  (h0:(recsOf q).find? (fun e=>e.name == ("rising" : Str))=some d0)
  (hY:∀ (w:World) (h:Heap),YP w h->(K w.params).In h)
  (F:∀ (w:World) (mg:Str->Option Value) (fa:Addr) (h:Heap),(K w.params).In h->h.Ns mainGlobals mg->mg d.name=some (.ref fa) ->
   ∃ (fd:FuncData) (c P:Addr),(∀ (s:Shared) (u:Value),BindsTo s fd ⟨[u],[]⟩ [("_law_script",u)]) /\ W.tabIn (K w.params) "rising" = some (c,P) /\ W.codeHdIn (K w.params) c P=true /\ (K w.params).lookup P=none /\ ∀ base:Heap,(K w.params).In base->base.Ns mainGlobals mg->W.CodeHd base c P->base.BuiltinsAt mg P->aV l.prog w (K w.params) mg base d7 15 fa fd ["_law_script"] (tM (K w.params) P iD)) :
  W.WalkO q loose XP YP l.row.toRowW d [] (fun f vs=>PySem.call f vs) :=
 L2.LC (n:=63) (k:=15) (x:="_law_script") (x0:="rising") (CX:=fun _=>d7) (sp:=fun w P=>tM (K w.params) P iD) hn (by decide) hdf ⟨rfl,by decide,by decide⟩ h0 hY F (fun _ _ a P ns hl hP hS=>⟨a,ns,rfl,hS,hl,hP,fun _=>rfl⟩) fun _ _ _ _ _ z=>z
noncomputable section
abbrev OO:=Params->Obj
def E (P:Params) (x:Str) (t:Tok) (v:Value):DictEntry:=⟨PyData.keyHash P x,.str x t,v⟩
abbrev fnO (n q:Str) (st:Stmt) (dV kV doc pm:Value) (an:Option Addr) (cdv ct:Value):FuncData:=W.fnOf n q (iB st) (fV st) (aM st) dV kV doc pm an cdv ct
def fnT (n q:Str) (st:Stmt):FuncData:={ name:=n,qualname:=q,params:=iB st,body:=.stmts (fV st),scope:=aM st,globals:=0,closure:=[],defaults:=.none,kwdefaults:=.none }
def s0  : Obj:=⟨(.type "tuple"),none,(.seq #[] 0),#[]⟩
def s1  : Obj:=⟨.none,none,(.fields #[]),#[]⟩
def s2 (x0:Str) (x1:Nat) (x3:Nat) (x5:Nat) (x6:Int) (x16:Nat) (x19:Nat) (x20:Int) (x25:Nat):Obj:=⟨(.type "code"),none,(.fields #[(.str x0 x1),(.str x0 x3),(.str "/claim/cut.py" x5),(.int x6 0),(.int 0 0),(.int 0 0),(.int 0 0),(.int 0 0),(.ref x16),(.bool false),(.int 181 0),(.ref x19),.none,.none,.none,.none,(.int x20 0),(.int x6 0),(.str "/claim/cut.py" x25)]),#[]⟩
def s3 (x0:Nat) (x2:Nat) (x3:Str) (x4:Nat):Obj:=⟨(.type "frame"),none,.plain,#[(some (.ref x0)),(some (.ref 3)),(some (.ref x2)),none,(some (.str x3 x4)),none,(some (.ref 0))]⟩
def s4 (x0:Str) (x1:Nat):Obj:=⟨(.type "tuple"),none,(.seq #[(.str x0 x1)] 0),#[]⟩
def s5 (x0:Str) (x1:Str) (x2:Stmt):Obj:=⟨.none,none,(.func (fnT x0 x1 x2)),#[]⟩
def s6 (x0:Str) (x1:Nat) (x2:Str) (x3:Nat) (x5:Nat) (x6:Int) (x8:Int) (x16:Nat) (x19:Nat) (x20:Nat) (x21:Nat) (x22:Nat) (x23:Int) (x28:Nat):Obj:=⟨(.type "code"),none,(.fields #[(.str x0 x1),(.str x2 x3),(.str "/claim/cut.py" x5),(.int x6 0),(.int x8 0),(.int 0 0),(.int 0 0),(.int 3 0),(.ref x16),(.bool true),(.int 181 0),(.ref x19),.none,(.ref x20),(.ref x21),(.ref x22),(.int x23 0),(.int x6 0),(.str "/claim/cut.py" x28)]),#[]⟩
def s7 (x0:Str) (x1:Str) (x2:Stmt) (x3:Str) (x4:Nat) (x5:Nat):Obj:=⟨(.type "function"),none,(.func (fnO x0 x1 x2 .none .none .none (.str x3 x4) none (.ref x5) .none)),#[]⟩
def s8  : Obj:=⟨(.type "builtin_function_or_method"),none,(.fields #[(.builtin "type.__prepare__"),(.type "type")]),#[]⟩
def s9 (x0:Nat):Obj:=⟨(.type "super"),none,(.fields #[(.ref x0),(.ref x0),(.ref x0)]),#[]⟩
def Gy (x0:Nat):Obj:=⟨(.type "builtin_function_or_method"),none,(.fields #[(.builtin "object.__init_subclass__"),(.ref x0)]),#[]⟩
def Yw (x0:Nat):Obj:=⟨(.type "tuple"),none,(.seq #[(.ref x0)] 0),#[]⟩
def vK (x0:Str) (x1:Nat) (x2:Str) (x3:Nat) (x4:Str) (x5:Nat):Obj:=⟨(.type "tuple"),none,(.seq #[(.str x0 x1),(.str x2 x3),(.str x4 x5)] 0),#[]⟩
def vD (x0:Str) (x1:Nat) (x2:Str) (x3:Nat):Obj:=⟨(.type "tuple"),none,(.seq #[(.str x0 x1),(.str x2 x3)] 0),#[]⟩
def Ci (x0:Str) (x1:Nat) (x2:Str) (x3:Nat) (x5:Nat) (x6:Int) (x8:Int) (x16:Nat) (x19:Nat) (x20:Nat) (x21:Int) (x26:Nat):Obj:=⟨(.type "code"),none,(.fields #[(.str x0 x1),(.str x2 x3),(.str "/claim/cut.py" x5),(.int x6 0),(.int x8 0),(.int 0 0),(.int 0 0),(.int 3 0),(.ref x16),(.bool true),(.int 181 0),(.ref x19),.none,.none,.none,(.ref x20),(.int x21 0),(.int x6 0),(.str "/claim/cut.py" x26)]),#[]⟩
def o13:OO:=fun _=>s2 "<module>" 182 183 184 1 11 12 185 186
def o14:OO:=fun _=>s3 13 3 "__main__" 164
def o3:OO:=fun P=>⟨(.type "dict"),none,(.dict #[E P "__name__" 165 (.str "lidprice.stands" 369),E P "__doc__" 166 .none,E P "__package__" 167 .none,E P "__loader__" 168 (.builtin "__main__.__loader__#opaque"),E P "__spec__" 169 .none,E P "__annotations__" 170 (.ref 6),E P "__builtins__" 171 (.ref 4),E P "__file__" 173 (.str "/claim/cut.py" 172),E P "__cached__" 174 .none,E P "_wall" 193 (.ref 21),E P "LidError" 213 (.ref 31),E P "NoBox" 229 (.ref 44),E P "NoDeed" 245 (.ref 56),E P "is_whole" 256 (.ref 65),E P "common_divisor" 265 (.ref 72),E P "common_multiple" 274 (.ref 79),E P "share" 283 (.ref 86),E P "whole" 290 (.ref 93),E P "plus" 298 (.ref 100),E P "below" 306 (.ref 107),E P "lesser" 314 (.ref 114),E P "MOST_WORTH" 318 (.int 1000000000 317),E P "MOST_WEIGHT" 320 (.int 1000 319),E P "rising" 326 (.ref 119),E P "in_form" 332 (.ref 124),E P "all_weights" 338 (.ref 129),E P "by_weights" 344 (.ref 134),E P "above" 350 (.ref 139),E P "capped" 356 (.ref 144),E P "mixed" 362 (.ref 149),E P "level_for" 368 (.ref 154),E P "MOST_PRICE" 372 (.int 1000000000 371),E P "MOST_STAGE_ROWS" 374 (.int 4 373),E P "MOST_STAGES" 376 (.int 4 375),E P "MOST_ENDS" 378 (.int 12 377),E P "MOST_BOXES" 380 (.int 6 379),E P "Stand" 443 (.ref 199)] 37),#[]⟩
def XF:OO:=fun _=>⟨.none,none,(.fields #[(.int 1 0),(.int 0 0),(.ref 20),(.int 5 0),(.int 0 0),(.ref 27),(.int 7 0),(.int 0 0),(.ref 40),(.int 9 0),(.int 0 0),(.ref 52),(.int 12 0),(.int 0 0),(.ref 64),(.int 14 0),(.int 0 0),(.ref 71),(.int 20 0),(.int 0 0),(.ref 78),(.int 25 0),(.int 0 0),(.ref 85),(.int 30 0),(.int 0 0),(.ref 92),(.int 32 0),(.int 0 0),(.ref 99),(.int 34 0),(.int 0 0),(.ref 106),(.int 36 0),(.int 0 0),(.ref 113),(.int 41 0),(.int 0 0),(.ref 118),(.int 45 0),(.int 0 0),(.ref 123),(.int 53 0),(.int 0 0),(.ref 128),(.int 55 0),(.int 0 0),(.ref 133),(.int 59 0),(.int 0 0),(.ref 138),(.int 62 0),(.int 0 0),(.ref 143),(.int 64 0),(.int 0 0),(.ref 148),(.int 71 0),(.int 0 0),(.ref 153),(.int 88 0),(.int 0 0),(.ref 160)]),#[]⟩
def o17:OO:=fun _=>s4 "k" 190
def o19:OO:=fun _=>s5 "_wall" "_wall" (top 0)
def o20:OO:=fun _=>s6 "_wall" 187 "_wall" 188 189 1 1 15 16 17 18 19 191 192
def o21:OO:=fun _=>s7 "_wall" "_wall" (top 0) "__main__" 164 20
def o22:OO:=fun _=>⟨(.type "tuple"),none,(.seq #[(.type "ValueError")] 0),#[]⟩
def o24:OO:=fun P=>⟨(.type "dict"),none,(.dict #[E P "__module__" 203 (.str "lidprice.errors" 194),E P "__qualname__" 205 (.str "LidError" 204),E P "__firstlineno__" 207 (.int 5 206),E P "__static_attributes__" 208 (.ref 29)] 4),#[]⟩
def o27:OO:=fun _=>s2 "LidError" 198 199 200 5 25 26 201 202
def o28:OO:=fun _=>s3 27 24 "lidprice.errors" 194
def o30:OO:=fun P=>⟨(.type "dict"),none,(.dict #[E P "__module__" 203 (.str "lidprice.errors" 194),E P "__firstlineno__" 207 (.int 5 206),E P "__static_attributes__" 208 (.ref 29),E P "__weakref__" 210 (.ref 32),E P "__doc__" 211 .none] 3),#[]⟩
def o31:OO:=fun _=>⟨(.type "type"),none,(.cls ⟨"LidError",[(.type "ValueError")],[(.ref 31),(.type "ValueError"),(.type "Exception"),(.type "BaseException"),(.type "object")],30,"LidError",true,[],[(.ref 44),(.ref 56)],false,none,false⟩),#[(some (.ref 22)),none,(some (.str "LidError" 196)),(some (.str "LidError" 204)),(some (.builtin "ValueError.__new__")),(some (.bool true))]⟩
def o32:OO:=fun _=>⟨(.type "getset_descriptor"),none,(.fields #[(.str "__weakref__" 209),(.ref 31),(.builtin "ExceptionGroup.__weakref__"),.none]),#[]⟩
def o33:OO:=fun _=>s9 31
def o34:OO:=fun _=>Gy 31
def o35:OO:=fun _=>Yw 31
def o37:OO:=fun P=>⟨(.type "dict"),none,(.dict #[E P "__module__" 221 (.str "lidprice.errors" 194),E P "__qualname__" 223 (.str "NoBox" 222),E P "__firstlineno__" 225 (.int 7 224),E P "__static_attributes__" 226 (.ref 42)] 4),#[]⟩
def o40:OO:=fun _=>s2 "NoBox" 216 217 218 7 38 39 219 220
def o41:OO:=fun _=>s3 40 37 "lidprice.errors" 194
def o43:OO:=fun P=>⟨(.type "dict"),none,(.dict #[E P "__module__" 221 (.str "lidprice.errors" 194),E P "__firstlineno__" 225 (.int 7 224),E P "__static_attributes__" 226 (.ref 42),E P "__doc__" 227 .none] 2),#[]⟩
def o44:OO:=fun _=>⟨(.type "type"),none,(.cls ⟨"NoBox",[(.ref 31)],[(.ref 44),(.ref 31),(.type "ValueError"),(.type "Exception"),(.type "BaseException"),(.type "object")],43,"NoBox",true,[],[],false,none,false⟩),#[(some (.ref 35)),none,(some (.str "NoBox" 214)),(some (.str "NoBox" 222)),(some (.builtin "ValueError.__new__")),(some (.bool true))]⟩
def o45:OO:=fun _=>s9 44
def o46:OO:=fun _=>Gy 44
def o47:OO:=fun _=>Yw 31
def o49:OO:=fun P=>⟨(.type "dict"),none,(.dict #[E P "__module__" 237 (.str "lidprice.errors" 194),E P "__qualname__" 239 (.str "NoDeed" 238),E P "__firstlineno__" 241 (.int 9 240),E P "__static_attributes__" 242 (.ref 54)] 4),#[]⟩
def o52:OO:=fun _=>s2 "NoDeed" 232 233 234 9 50 51 235 236
def o53:OO:=fun _=>s3 52 49 "lidprice.errors" 194
def o55:OO:=fun P=>⟨(.type "dict"),none,(.dict #[E P "__module__" 237 (.str "lidprice.errors" 194),E P "__firstlineno__" 241 (.int 9 240),E P "__static_attributes__" 242 (.ref 54),E P "__doc__" 243 .none] 2),#[]⟩
def o56:OO:=fun _=>⟨(.type "type"),none,(.cls ⟨"NoDeed",[(.ref 31)],[(.ref 56),(.ref 31),(.type "ValueError"),(.type "Exception"),(.type "BaseException"),(.type "object")],55,"NoDeed",true,[],[],false,none,false⟩),#[(some (.ref 47)),none,(some (.str "NoDeed" 230)),(some (.str "NoDeed" 238)),(some (.builtin "ValueError.__new__")),(some (.bool true))]⟩
def o57:OO:=fun _=>s9 56
def o58:OO:=fun _=>Gy 56
def o61:OO:=fun _=>vK "thing" 251 "least" 252 "most" 253
def o63:OO:=fun _=>s5 "is_whole" "is_whole" (top 6)
def o64:OO:=fun _=>s6 "is_whole" 248 "is_whole" 249 250 12 3 59 60 61 62 63 254 255
def o65:OO:=fun _=>s7 "is_whole" "is_whole" (top 6) "lidprice.shares" 246 64
def o68:OO:=fun _=>vK "one" 260 "other" 261 "rest" 262
def o70:OO:=fun _=>s5 "common_divisor" "common_divisor" (top 7)
def o71:OO:=fun _=>s6 "common_divisor" 257 "common_divisor" 258 259 14 2 66 67 68 69 70 263 264
def o72:OO:=fun _=>s7 "common_divisor" "common_divisor" (top 7) "lidprice.shares" 246 71
def o75:OO:=fun _=>vK "numbers" 269 "multiple" 270 "number" 271
def o77:OO:=fun _=>s5 "common_multiple" "common_multiple" (top 8)
def o78:OO:=fun _=>s6 "common_multiple" 266 "common_multiple" 267 268 20 1 73 74 75 76 77 272 273
def o79:OO:=fun _=>s7 "common_multiple" "common_multiple" (top 8) "lidprice.shares" 246 78
def o82:OO:=fun _=>vK "top" 278 "bottom" 279 "divisor" 280
def o84:OO:=fun _=>s5 "share" "share" (top 9)
def o85:OO:=fun _=>s6 "share" 275 "share" 276 277 25 2 80 81 82 83 84 281 282
def o86:OO:=fun _=>s7 "share" "share" (top 9) "lidprice.shares" 246 85
def o89:OO:=fun _=>s4 "number" 287
def o91:OO:=fun _=>s5 "whole" "whole" (top 10)
def o92:OO:=fun _=>s6 "whole" 284 "whole" 285 286 30 1 87 88 89 90 91 288 289
def o93:OO:=fun _=>s7 "whole" "whole" (top 10) "lidprice.shares" 246 92
def o96:OO:=fun _=>vD "one" 294 "other" 295
def o98:OO:=fun _=>s5 "plus" "plus" (top 11)
def o99:OO:=fun _=>s6 "plus" 291 "plus" 292 293 32 2 94 95 96 97 98 296 297
def Wr:OO:=fun _=>s7 "plus" "plus" (top 11) "lidprice.shares" 246 99
def XX:OO:=fun _=>vD "one" 302 "other" 303
def aA7:OO:=fun _=>s5 "below" "below" (top 12)
def XN:OO:=fun _=>s6 "below" 299 "below" 300 301 34 2 101 102 103 104 105 304 305
def Y9:OO:=fun _=>s7 "below" "below" (top 12) "lidprice.shares" 246 106
def Rz:OO:=fun _=>vD "one" 310 "other" 311
def Zi:OO:=fun _=>s5 "lesser" "lesser" (top 13)
def V7:OO:=fun _=>s6 "lesser" 307 "lesser" 308 309 36 2 108 109 110 111 112 312 313
def XH:OO:=fun _=>s7 "lesser" "lesser" (top 13) "lidprice.shares" 246 113
def aAK:OO:=fun _=>s5 "rising" "rising" (top 17)
def Vg:OO:=fun _=>Ci "rising" 321 "rising" 322 323 41 1 115 116 117 324 325
def Ur:OO:=fun _=>s7 "rising" "rising" (top 17) "lidprice.tables" 315 118
def aAm:OO:=fun _=>s5 "in_form" "in_form" (top 18)
def V8:OO:=fun _=>Ci "in_form" 327 "in_form" 328 329 45 1 120 121 122 330 331
def Su:OO:=fun _=>s7 "in_form" "in_form" (top 18) "lidprice.tables" 315 123
def Za:OO:=fun _=>s5 "all_weights" "all_weights" (top 19)
def WQ:OO:=fun _=>Ci "all_weights" 333 "all_weights" 334 335 53 1 125 126 127 336 337
def S7:OO:=fun _=>s7 "all_weights" "all_weights" (top 19) "lidprice.tables" 315 128
def aBp:OO:=fun _=>s5 "by_weights" "by_weights" (top 20)
def Ve:OO:=fun _=>Ci "by_weights" 339 "by_weights" 340 341 55 2 130 131 132 342 343
def V9:OO:=fun _=>s7 "by_weights" "by_weights" (top 20) "lidprice.tables" 315 133
def aA1:OO:=fun _=>s5 "above" "above" (top 21)
def WD:OO:=fun _=>Ci "above" 345 "above" 346 347 59 2 135 136 137 348 349
def Wl:OO:=fun _=>s7 "above" "above" (top 21) "lidprice.tables" 315 138
def Z9:OO:=fun _=>s5 "capped" "capped" (top 22)
def V2:OO:=fun _=>Ci "capped" 351 "capped" 352 353 62 2 140 141 142 354 355
def YT:OO:=fun _=>s7 "capped" "capped" (top 22) "lidprice.tables" 315 143
def aAC:OO:=fun _=>s5 "mixed" "mixed" (top 23)
def YQ:OO:=fun _=>Ci "mixed" 357 "mixed" 358 359 64 1 145 146 147 360 361
def X6:OO:=fun _=>s7 "mixed" "mixed" (top 23) "lidprice.tables" 315 148
def ZR:OO:=fun _=>s5 "level_for" "level_for" (top 24)
def V4:OO:=fun _=>Ci "level_for" 363 "level_for" 364 365 71 2 150 151 152 366 367
def VG:OO:=fun _=>s7 "level_for" "level_for" (top 24) "lidprice.tables" 315 153
def ZF:OO:=fun P=>⟨(.type "dict"),none,(.dict #[E P "__module__" 388 (.str "lidprice.stands" 369),E P "__qualname__" 390 (.str "Stand" 389),E P "__firstlineno__" 392 (.int 88 391),E P "__init__" 403 (.ref 168),E P "ends" 410 (.ref 175),E P "stages" 417 (.ref 182),E P "reserve" 424 (.ref 189),E P "caps" 431 (.ref 196),E P "__static_attributes__" 436 (.ref 197)] 9),#[]⟩
def aAQ:OO:=fun _=>⟨.none,none,(.fields #[(.int 90 0),(.int 4 0),(.ref 167),(.int 96 0),(.int 4 0),(.ref 174),(.int 99 0),(.int 4 0),(.ref 181),(.int 102 0),(.int 4 0),(.ref 188),(.int 105 0),(.int 4 0),(.ref 195)]),#[]⟩
def aBn:OO:=fun _=>s2 "Stand" 383 384 385 88 158 159 386 387
def aAX:OO:=fun _=>s3 160 157 "lidprice.stands" 369
def U4:OO:=fun _=>⟨(.type "tuple"),none,(.seq #[(.str "self" 396),(.str "end_count" 397),(.str "stage_count" 398),(.str "level" 399),(.str "cap_rows" 400)] 0),#[]⟩
def aAW:OO:=fun _=>s5 "__init__" "Stand.__init__" (aG (top 31) 0)
def Rk:OO:=fun _=>s6 "__init__" 393 "Stand.__init__" 394 395 90 5 162 163 164 165 166 401 402
def WF:OO:=fun _=>s7 "__init__" "Stand.__init__" (aG (top 31) 0) "lidprice.stands" 369 167
def Ug:OO:=fun _=>s4 "self" 407
def ZM:OO:=fun _=>s5 "ends" "Stand.ends" (aG (top 31) 1)
def Xu:OO:=fun _=>s6 "ends" 404 "Stand.ends" 405 406 96 1 169 170 171 172 173 408 409
def We:OO:=fun _=>s7 "ends" "Stand.ends" (aG (top 31) 1) "lidprice.stands" 369 174
def RG:OO:=fun _=>s4 "self" 414
def aBu:OO:=fun _=>s5 "stages" "Stand.stages" (aG (top 31) 2)
def Uj:OO:=fun _=>s6 "stages" 411 "Stand.stages" 412 413 99 1 176 177 178 179 180 415 416
def RJ:OO:=fun _=>s7 "stages" "Stand.stages" (aG (top 31) 2) "lidprice.stands" 369 181
def Vl:OO:=fun _=>s4 "self" 421
def aA6:OO:=fun _=>s5 "reserve" "Stand.reserve" (aG (top 31) 3)
def WN:OO:=fun _=>s6 "reserve" 418 "Stand.reserve" 419 420 102 1 183 184 185 186 187 422 423
def Xz:OO:=fun _=>s7 "reserve" "Stand.reserve" (aG (top 31) 3) "lidprice.stands" 369 188
def Ws:OO:=fun _=>s4 "self" 428
def aBt:OO:=fun _=>s5 "caps" "Stand.caps" (aG (top 31) 4)
def Ul:OO:=fun _=>s6 "caps" 425 "Stand.caps" 426 427 105 1 190 191 192 193 194 429 430
def Ye:OO:=fun _=>s7 "caps" "Stand.caps" (aG (top 31) 4) "lidprice.stands" 369 195
def R7:OO:=fun _=>⟨(.type "tuple"),none,(.seq #[(.str "cap_rows" 432),(.str "end_count" 433),(.str "level" 434),(.str "stage_count" 435)] 0),#[]⟩
def TX:OO:=fun P=>⟨(.type "dict"),none,(.dict #[E P "__module__" 388 (.str "lidprice.stands" 369),E P "__firstlineno__" 392 (.int 88 391),E P "__init__" 403 (.ref 168),E P "ends" 410 (.ref 175),E P "stages" 417 (.ref 182),E P "reserve" 424 (.ref 189),E P "caps" 431 (.ref 196),E P "__static_attributes__" 436 (.ref 197),E P "__dict__" 438 (.ref 200),E P "__weakref__" 440 (.ref 201),E P "__doc__" 441 .none] 4),#[]⟩
def aAx:OO:=fun _=>⟨(.type "type"),none,(.cls ⟨"Stand",[(.type "object")],[(.ref 199),(.type "object")],198,"Stand",true,[],[],false,none,false⟩),#[none,none,(some (.str "Stand" 381)),(some (.str "Stand" 389)),(some (.builtin "object.__new__")),(some (.bool true))]⟩
def RN:OO:=fun _=>⟨(.type "getset_descriptor"),none,(.fields #[(.str "__dict__" 437),(.ref 199),(.builtin "function.__dict__"),(.builtin "function.__dict__#set")]),#[]⟩
def Xy:OO:=fun _=>⟨(.type "getset_descriptor"),none,(.fields #[(.str "__weakref__" 439),(.ref 199),(.builtin "ExceptionGroup.__weakref__"),.none]),#[]⟩
def ZK:OO:=fun _=>s9 199
def aBx:OO:=fun _=>Gy 199
def aBi:OO:=fun P=>⟨(.type "dict"),none,(.dict #[E P "__name__" 165 (.str "lidprice.cases" 593),E P "__doc__" 166 .none,E P "__package__" 167 .none,E P "__loader__" 168 (.builtin "__main__.__loader__#opaque"),E P "__spec__" 169 .none,E P "__annotations__" 170 (.ref 6),E P "__builtins__" 171 (.ref 4),E P "__file__" 173 (.str "/claim/cut.py" 172),E P "__cached__" 174 .none,E P "_wall" 193 (.ref 21),E P "LidError" 213 (.ref 31),E P "NoBox" 229 (.ref 44),E P "NoDeed" 245 (.ref 56),E P "is_whole" 256 (.ref 65),E P "common_divisor" 265 (.ref 72),E P "common_multiple" 274 (.ref 79),E P "share" 283 (.ref 86),E P "whole" 290 (.ref 93),E P "plus" 298 (.ref 100),E P "below" 306 (.ref 107),E P "lesser" 314 (.ref 114),E P "MOST_WORTH" 318 (.int 1000000000 317),E P "MOST_WEIGHT" 320 (.int 1000 319),E P "rising" 326 (.ref 119),E P "in_form" 332 (.ref 124),E P "all_weights" 338 (.ref 129),E P "by_weights" 344 (.ref 134),E P "above" 350 (.ref 139),E P "capped" 356 (.ref 144),E P "mixed" 362 (.ref 149),E P "level_for" 368 (.ref 154),E P "MOST_PRICE" 372 (.int 1000000000 371),E P "MOST_STAGE_ROWS" 374 (.int 4 373),E P "MOST_STAGES" 376 (.int 4 375),E P "MOST_ENDS" 378 (.int 12 377),E P "MOST_BOXES" 380 (.int 6 379),E P "Stand" 443 (.ref 199),E P "End" 497 (.ref 248),E P "Stage" 566 (.ref 307),E P "is_stand" 573 (.ref 316),E P "is_stage_row" 580 (.ref 323),E P "is_stage_rows" 586 (.ref 328),E P "need_boxes" 592 (.ref 333),E P "with_thing" 603 (.ref 340),E P "Case" 752 (.ref 453)] 45),#[]⟩
def Tj:OO:=fun _=>⟨.none,none,(.fields #[(.int 1 0),(.int 0 0),(.ref 20),(.int 5 0),(.int 0 0),(.ref 27),(.int 7 0),(.int 0 0),(.ref 40),(.int 9 0),(.int 0 0),(.ref 52),(.int 12 0),(.int 0 0),(.ref 64),(.int 14 0),(.int 0 0),(.ref 71),(.int 20 0),(.int 0 0),(.ref 78),(.int 25 0),(.int 0 0),(.ref 85),(.int 30 0),(.int 0 0),(.ref 92),(.int 32 0),(.int 0 0),(.ref 99),(.int 34 0),(.int 0 0),(.ref 106),(.int 36 0),(.int 0 0),(.ref 113),(.int 41 0),(.int 0 0),(.ref 118),(.int 45 0),(.int 0 0),(.ref 123),(.int 53 0),(.int 0 0),(.ref 128),(.int 55 0),(.int 0 0),(.ref 133),(.int 59 0),(.int 0 0),(.ref 138),(.int 62 0),(.int 0 0),(.ref 143),(.int 64 0),(.int 0 0),(.ref 148),(.int 71 0),(.int 0 0),(.ref 153),(.int 88 0),(.int 0 0),(.ref 160),(.int 107 0),(.int 0 0),(.ref 209),(.int 126 0),(.int 0 0),(.ref 256),(.int 158 0),(.int 0 0),(.ref 315),(.int 160 0),(.int 0 0),(.ref 322),(.int 164 0),(.int 0 0),(.ref 327),(.int 168 0),(.int 0 0),(.ref 332),(.int 174 0),(.int 0 0),(.ref 339),(.int 176 0),(.int 0 0),(.ref 346)]),#[]⟩
def Jq:OO:=fun _=>⟨(.type "type"),none,(.cls ⟨"Stand",[(.type "object")],[(.ref 199),(.type "object")],198,"Stand",true,[],[(.ref 248),(.ref 307)],false,none,false⟩),#[none,none,(some (.str "Stand" 381)),(some (.str "Stand" 389)),(some (.builtin "object.__new__")),(some (.bool true))]⟩
def Wc:OO:=fun _=>Yw 199
def Zc:OO:=fun P=>⟨(.type "dict"),none,(.dict #[E P "__module__" 451 (.str "lidprice.stands" 369),E P "__qualname__" 453 (.str "End" 452),E P "__firstlineno__" 455 (.int 107 454),E P "__init__" 463 (.ref 217),E P "is_end" 470 (.ref 224),E P "ways" 477 (.ref 231),E P "beside" 485 (.ref 238),E P "told" 492 (.ref 245),E P "__static_attributes__" 494 (.ref 246)] 9),#[]⟩
def aAL:OO:=fun _=>⟨.none,none,(.fields #[(.int 109 0),(.int 4 0),(.ref 216),(.int 115 0),(.int 4 0),(.ref 223),(.int 118 0),(.int 4 0),(.ref 230),(.int 121 0),(.int 4 0),(.ref 237),(.int 124 0),(.int 4 0),(.ref 244)]),#[]⟩
def Z3:OO:=fun _=>s2 "End" 446 447 448 107 207 208 449 450
def aAy:OO:=fun _=>s3 209 206 "lidprice.stands" 369
def Tt:OO:=fun _=>vD "self" 459 "worth" 460
def Zn:OO:=fun _=>s5 "__init__" "End.__init__" (aG (top 32) 0)
def Ym:OO:=fun _=>s6 "__init__" 456 "End.__init__" 457 458 109 2 211 212 213 214 215 461 462
def Vq:OO:=fun _=>s7 "__init__" "End.__init__" (aG (top 32) 0) "lidprice.stands" 369 216
def RW:OO:=fun _=>s4 "self" 467
def Zb:OO:=fun _=>s5 "is_end" "End.is_end" (aG (top 32) 1)
def Xe:OO:=fun _=>s6 "is_end" 464 "End.is_end" 465 466 115 1 218 219 220 221 222 468 469
def Rg:OO:=fun _=>s7 "is_end" "End.is_end" (aG (top 32) 1) "lidprice.stands" 369 223
def SN:OO:=fun _=>s4 "self" 474
def aA5:OO:=fun _=>s5 "ways" "End.ways" (aG (top 32) 2)
def YF:OO:=fun _=>s6 "ways" 471 "End.ways" 472 473 118 1 225 226 227 228 229 475 476
def V6:OO:=fun _=>s7 "ways" "End.ways" (aG (top 32) 2) "lidprice.stands" 369 230
def TJ:OO:=fun _=>vD "self" 481 "level" 482
def Z0:OO:=fun _=>s5 "beside" "End.beside" (aG (top 32) 3)
def YJ:OO:=fun _=>s6 "beside" 478 "End.beside" 479 480 121 2 232 233 234 235 236 483 484
def Ud:OO:=fun _=>s7 "beside" "End.beside" (aG (top 32) 3) "lidprice.stands" 369 237
def Vc:OO:=fun _=>s4 "self" 489
def aBB:OO:=fun _=>s5 "told" "End.told" (aG (top 32) 4)
def UW:OO:=fun _=>s6 "told" 486 "End.told" 487 488 124 1 239 240 241 242 243 490 491
def Vh:OO:=fun _=>s7 "told" "End.told" (aG (top 32) 4) "lidprice.stands" 369 244
def Xr:OO:=fun _=>s4 "worth" 493
def XC:OO:=fun P=>⟨(.type "dict"),none,(.dict #[E P "__module__" 451 (.str "lidprice.stands" 369),E P "__firstlineno__" 455 (.int 107 454),E P "__init__" 463 (.ref 217),E P "is_end" 470 (.ref 224),E P "ways" 477 (.ref 231),E P "beside" 485 (.ref 238),E P "told" 492 (.ref 245),E P "__static_attributes__" 494 (.ref 246),E P "__doc__" 495 .none] 2),#[]⟩
def Wn:OO:=fun _=>⟨(.type "type"),none,(.cls ⟨"End",[(.ref 199)],[(.ref 248),(.ref 199),(.type "object")],247,"End",true,[],[],false,none,false⟩),#[(some (.ref 204)),none,(some (.str "End" 444)),(some (.str "End" 452)),(some (.builtin "object.__new__")),(some (.bool true))]⟩
def aAB:OO:=fun _=>s9 248
def Zq:OO:=fun _=>Gy 248
def Yl:OO:=fun _=>Yw 199
def Zm:OO:=fun P=>⟨(.type "dict"),none,(.dict #[E P "__module__" 505 (.str "lidprice.stands" 369),E P "__qualname__" 507 (.str "Stage" 506),E P "__firstlineno__" 509 (.int 126 508),E P "__init__" 515 (.ref 262),E P "is_end" 522 (.ref 269),E P "row_share" 530 (.ref 276),E P "after" 538 (.ref 283),E P "ways" 545 (.ref 290),E P "beside" 553 (.ref 297),E P "told" 560 (.ref 304),E P "__static_attributes__" 563 (.ref 305)] 11),#[]⟩
def aAu:OO:=fun _=>⟨.none,none,(.fields #[(.int 128 0),(.int 4 0),(.ref 261),(.int 141 0),(.int 4 0),(.ref 268),(.int 144 0),(.int 4 0),(.ref 275),(.int 147 0),(.int 4 0),(.ref 282),(.int 150 0),(.int 4 0),(.ref 289),(.int 153 0),(.int 4 0),(.ref 296),(.int 156 0),(.int 4 0),(.ref 303)]),#[]⟩
def aBf:OO:=fun _=>s2 "Stage" 500 501 502 126 254 255 503 504
def aAP:OO:=fun _=>s3 256 253 "lidprice.stands" 369
def aAk:OO:=fun _=>s5 "__init__" "Stage.__init__" (aG (top 33) 0)
def WP:OO:=fun _=>Ci "__init__" 510 "Stage.__init__" 511 512 128 3 258 259 260 513 514
def Wu:OO:=fun _=>s7 "__init__" "Stage.__init__" (aG (top 33) 0) "lidprice.stands" 369 261
def Th:OO:=fun _=>s4 "self" 519
def ZW:OO:=fun _=>s5 "is_end" "Stage.is_end" (aG (top 33) 1)
def Uk:OO:=fun _=>s6 "is_end" 516 "Stage.is_end" 517 518 141 1 263 264 265 266 267 520 521
def VP:OO:=fun _=>s7 "is_end" "Stage.is_end" (aG (top 33) 1) "lidprice.stands" 369 268
def Xo:OO:=fun _=>vD "self" 526 "row" 527
def Zv:OO:=fun _=>s5 "row_share" "Stage.row_share" (aG (top 33) 2)
def Wo:OO:=fun _=>s6 "row_share" 523 "Stage.row_share" 524 525 144 2 270 271 272 273 274 528 529
def Vn:OO:=fun _=>s7 "row_share" "Stage.row_share" (aG (top 33) 2) "lidprice.stands" 369 275
def S6:OO:=fun _=>vD "self" 534 "row" 535
def Ze:OO:=fun _=>s5 "after" "Stage.after" (aG (top 33) 3)
def Uh:OO:=fun _=>s6 "after" 531 "Stage.after" 532 533 147 2 277 278 279 280 281 536 537
def Xa:OO:=fun _=>s7 "after" "Stage.after" (aG (top 33) 3) "lidprice.stands" 369 282
def Tg:OO:=fun _=>s4 "self" 542
def aBA:OO:=fun _=>s5 "ways" "Stage.ways" (aG (top 33) 4)
def V1:OO:=fun _=>s6 "ways" 539 "Stage.ways" 540 541 150 1 284 285 286 287 288 543 544
def UT:OO:=fun _=>s7 "ways" "Stage.ways" (aG (top 33) 4) "lidprice.stands" 369 289
def Sx:OO:=fun _=>vD "self" 549 "level" 550
def aBv:OO:=fun _=>s5 "beside" "Stage.beside" (aG (top 33) 5)
def YM:OO:=fun _=>s6 "beside" 546 "Stage.beside" 547 548 153 2 291 292 293 294 295 551 552
def RX:OO:=fun _=>s7 "beside" "Stage.beside" (aG (top 33) 5) "lidprice.stands" 369 296
def Xp:OO:=fun _=>s4 "self" 557
def aBd:OO:=fun _=>s5 "told" "Stage.told" (aG (top 33) 6)
def RV:OO:=fun _=>s6 "told" 554 "Stage.told" 555 556 156 1 298 299 300 301 302 558 559
def Wk:OO:=fun _=>s7 "told" "Stage.told" (aG (top 33) 6) "lidprice.stands" 369 303
def Tu:OO:=fun _=>vD "price" 561 "rows" 562
def Ut:OO:=fun P=>⟨(.type "dict"),none,(.dict #[E P "__module__" 505 (.str "lidprice.stands" 369),E P "__firstlineno__" 509 (.int 126 508),E P "__init__" 515 (.ref 262),E P "is_end" 522 (.ref 269),E P "row_share" 530 (.ref 276),E P "after" 538 (.ref 283),E P "ways" 545 (.ref 290),E P "beside" 553 (.ref 297),E P "told" 560 (.ref 304),E P "__static_attributes__" 563 (.ref 305),E P "__doc__" 564 .none] 2),#[]⟩
def Ro:OO:=fun _=>⟨(.type "type"),none,(.cls ⟨"Stage",[(.ref 199)],[(.ref 307),(.ref 199),(.type "object")],306,"Stage",true,[],[],false,none,false⟩),#[(some (.ref 251)),none,(some (.str "Stage" 498)),(some (.str "Stage" 506)),(some (.builtin "object.__new__")),(some (.bool true))]⟩
def aAr:OO:=fun _=>s9 307
def Zw:OO:=fun _=>Gy 307
def Xv:OO:=fun _=>s4 "thing" 570
def aBy:OO:=fun _=>s5 "is_stand" "is_stand" (top 34)
def U0:OO:=fun _=>s6 "is_stand" 567 "is_stand" 568 569 158 1 310 311 312 313 314 571 572
def Wb:OO:=fun _=>s7 "is_stand" "is_stand" (top 34) "lidprice.stands" 369 315
def WL:OO:=fun _=>s4 "row" 577
def aAD:OO:=fun _=>s5 "is_stage_row" "is_stage_row" (top 35)
def Rh:OO:=fun _=>s6 "is_stage_row" 574 "is_stage_row" 575 576 160 1 317 318 319 320 321 578 579
def SQ:OO:=fun _=>s7 "is_stage_row" "is_stage_row" (top 35) "lidprice.stands" 369 322
def Z8:OO:=fun _=>s5 "is_stage_rows" "is_stage_rows" (top 36)
def Sv:OO:=fun _=>Ci "is_stage_rows" 581 "is_stage_rows" 582 583 164 1 324 325 326 584 585
def XJ:OO:=fun _=>s7 "is_stage_rows" "is_stage_rows" (top 36) "lidprice.stands" 369 327
def Zj:OO:=fun _=>s5 "need_boxes" "need_boxes" (top 37)
def Yh:OO:=fun _=>Ci "need_boxes" 587 "need_boxes" 588 589 168 1 329 330 331 590 591
def Wf:OO:=fun _=>s7 "need_boxes" "need_boxes" (top 37) "lidprice.stands" 369 332
def Vz:OO:=fun _=>vK "things" 598 "place" 599 "thing" 600
def aAH:OO:=fun _=>s5 "with_thing" "with_thing" (top 39)
def Xw:OO:=fun _=>s6 "with_thing" 595 "with_thing" 596 597 174 3 334 335 336 337 338 601 602
def Wz:OO:=fun _=>s7 "with_thing" "with_thing" (top 39) "lidprice.cases" 593 339
def aBk:OO:=fun P=>⟨(.type "dict"),none,(.dict #[E P "__module__" 611 (.str "lidprice.cases" 593),E P "__qualname__" 613 (.str "Case" 612),E P "__firstlineno__" 615 (.int 176 614),E P "__init__" 621 (.ref 352),E P "how_many" 628 (.ref 359),E P "need_box" 636 (.ref 366),E P "stand" 644 (.ref 373),E P "cap" 652 (.ref 380),E P "kept" 659 (.ref 387),E P "paid" 666 (.ref 394),E P "had" 673 (.ref 401),E P "deeds" 680 (.ref 408),E P "caps" 690 (.ref 415),E P "debt" 699 (.ref 422),E P "left" 708 (.ref 429),E P "behind" 717 (.ref 436),E P "opened" 730 (.ref 443),E P "taken" 739 (.ref 450),E P "__static_attributes__" 745 (.ref 451)] 19),#[]⟩
def aA9:OO:=fun _=>⟨.none,none,(.fields #[(.int 178 0),(.int 4 0),(.ref 351),(.int 186 0),(.int 4 0),(.ref 358),(.int 189 0),(.int 4 0),(.ref 365),(.int 193 0),(.int 4 0),(.ref 372),(.int 197 0),(.int 4 0),(.ref 379),(.int 201 0),(.int 4 0),(.ref 386),(.int 204 0),(.int 4 0),(.ref 393),(.int 207 0),(.int 4 0),(.ref 400),(.int 210 0),(.int 4 0),(.ref 407),(.int 213 0),(.int 4 0),(.ref 414),(.int 218 0),(.int 4 0),(.ref 421),(.int 222 0),(.int 4 0),(.ref 428),(.int 229 0),(.int 4 0),(.ref 435),(.int 237 0),(.int 4 0),(.ref 442),(.int 249 0),(.int 4 0),(.ref 449)]),#[]⟩
def aAj:OO:=fun _=>s2 "Case" 606 607 608 176 344 345 609 610
def aBC:OO:=fun _=>s3 346 343 "lidprice.cases" 593
def aAn:OO:=fun _=>s5 "__init__" "Case.__init__" (aG (top 40) 0)
def Xc:OO:=fun _=>Ci "__init__" 616 "Case.__init__" 617 618 178 2 348 349 350 619 620
def YL:OO:=fun _=>s7 "__init__" "Case.__init__" (aG (top 40) 0) "lidprice.cases" 593 351
def Wj:OO:=fun _=>s4 "self" 625
def aAh:OO:=fun _=>s5 "how_many" "Case.how_many" (aG (top 40) 1)
def Wh:OO:=fun _=>s6 "how_many" 622 "Case.how_many" 623 624 186 1 353 354 355 356 357 626 627
def U9:OO:=fun _=>s7 "how_many" "Case.how_many" (aG (top 40) 1) "lidprice.cases" 593 358
def YG:OO:=fun _=>vD "self" 632 "box" 633
def aAq:OO:=fun _=>s5 "need_box" "Case.need_box" (aG (top 40) 2)
def Rq:OO:=fun _=>s6 "need_box" 629 "Case.need_box" 630 631 189 2 360 361 362 363 364 634 635
def VN:OO:=fun _=>s7 "need_box" "Case.need_box" (aG (top 40) 2) "lidprice.cases" 593 365
def Rr:OO:=fun _=>vD "self" 640 "box" 641
def aAJ:OO:=fun _=>s5 "stand" "Case.stand" (aG (top 40) 3)
def W6:OO:=fun _=>s6 "stand" 637 "Case.stand" 638 639 193 2 367 368 369 370 371 642 643
def WX:OO:=fun _=>s7 "stand" "Case.stand" (aG (top 40) 3) "lidprice.cases" 593 372
def Vy:OO:=fun _=>vD "self" 648 "box" 649
def Zx:OO:=fun _=>s5 "cap" "Case.cap" (aG (top 40) 4)
def W5:OO:=fun _=>s6 "cap" 645 "Case.cap" 646 647 197 2 374 375 376 377 378 650 651
def Y6:OO:=fun _=>s7 "cap" "Case.cap" (aG (top 40) 4) "lidprice.cases" 593 379
def XM:OO:=fun _=>s4 "self" 656
def aBc:OO:=fun _=>s5 "kept" "Case.kept" (aG (top 40) 5)
def XR:OO:=fun _=>s6 "kept" 653 "Case.kept" 654 655 201 1 381 382 383 384 385 657 658
def S5:OO:=fun _=>s7 "kept" "Case.kept" (aG (top 40) 5) "lidprice.cases" 593 386
def Xk:OO:=fun _=>s4 "self" 663
def aA0:OO:=fun _=>s5 "paid" "Case.paid" (aG (top 40) 6)
def Sy:OO:=fun _=>s6 "paid" 660 "Case.paid" 661 662 204 1 388 389 390 391 392 664 665
def Rj:OO:=fun _=>s7 "paid" "Case.paid" (aG (top 40) 6) "lidprice.cases" 593 393
def Rt:OO:=fun _=>s4 "self" 670
def aAc:OO:=fun _=>s5 "had" "Case.had" (aG (top 40) 7)
def Yg:OO:=fun _=>s6 "had" 667 "Case.had" 668 669 207 1 395 396 397 398 399 671 672
def Vj:OO:=fun _=>s7 "had" "Case.had" (aG (top 40) 7) "lidprice.cases" 593 400
def W3:OO:=fun _=>s4 "self" 677
def Yz:OO:=fun _=>s5 "deeds" "Case.deeds" (aG (top 40) 8)
def Tw:OO:=fun _=>s6 "deeds" 674 "Case.deeds" 675 676 210 1 402 403 404 405 406 678 679
def VD:OO:=fun _=>s7 "deeds" "Case.deeds" (aG (top 40) 8) "lidprice.cases" 593 407
def YC:OO:=fun _=>⟨(.type "tuple"),none,(.seq #[(.str "self" 684),(.str "box" 685),(.str "table" 686),(.str "cap" 687)] 0),#[]⟩
def aAM:OO:=fun _=>s5 "caps" "Case.caps" (aG (top 40) 9)
def U7:OO:=fun _=>s6 "caps" 681 "Case.caps" 682 683 213 2 409 410 411 412 413 688 689
def Uv:OO:=fun _=>s7 "caps" "Case.caps" (aG (top 40) 9) "lidprice.cases" 593 414
def Xj:OO:=fun _=>vK "self" 694 "box" 695 "cap" 696
def aA8:OO:=fun _=>s5 "debt" "Case.debt" (aG (top 40) 10)
def Sw:OO:=fun _=>s6 "debt" 691 "Case.debt" 692 693 218 2 416 417 418 419 420 697 698
def Rn:OO:=fun _=>s7 "debt" "Case.debt" (aG (top 40) 10) "lidprice.cases" 593 421
def Ri:OO:=fun _=>vK "self" 703 "debts" 704 "box" 705
def aAb:OO:=fun _=>s5 "left" "Case.left" (aG (top 40) 11)
def U5:OO:=fun _=>s6 "left" 700 "Case.left" 701 702 222 1 423 424 425 426 427 706 707
def Uz:OO:=fun _=>s7 "left" "Case.left" (aG (top 40) 11) "lidprice.cases" 593 428
def RZ:OO:=fun _=>vK "self" 712 "deed" 713 "case" 714
def Zk:OO:=fun _=>s5 "behind" "Case.behind" (aG (top 40) 12)
def Wx:OO:=fun _=>s6 "behind" 709 "Case.behind" 710 711 229 2 430 431 432 433 434 715 716
def YH:OO:=fun _=>s7 "behind" "Case.behind" (aG (top 40) 12) "lidprice.cases" 593 435
def XS:OO:=fun _=>⟨(.type "tuple"),none,(.seq #[(.str "self" 721),(.str "box" 722),(.str "row" 723),(.str "stage" 724),(.str "cap" 725),(.str "lower" 726),(.str "case" 727)] 0),#[]⟩
def aAg:OO:=fun _=>s5 "opened" "Case.opened" (aG (top 40) 13)
def Ww:OO:=fun _=>s6 "opened" 718 "Case.opened" 719 720 237 3 437 438 439 440 441 728 729
def Xl:OO:=fun _=>s7 "opened" "Case.opened" (aG (top 40) 13) "lidprice.cases" 593 442
def Uw:OO:=fun _=>vK "self" 734 "box" 735 "case" 736
def aAN:OO:=fun _=>s5 "taken" "Case.taken" (aG (top 40) 14)
def Y7:OO:=fun _=>s6 "taken" 731 "Case.taken" 732 733 249 2 444 445 446 447 448 737 738
def VH:OO:=fun _=>s7 "taken" "Case.taken" (aG (top 40) 14) "lidprice.cases" 593 449
def Us:OO:=fun _=>⟨(.type "tuple"),none,(.seq #[(.str "done" 740),(.str "held" 741),(.str "lowest" 742),(.str "present" 743),(.str "spent" 744)] 0),#[]⟩
def WY:OO:=fun P=>⟨(.type "dict"),none,(.dict #[E P "__module__" 611 (.str "lidprice.cases" 593),E P "__firstlineno__" 615 (.int 176 614),E P "__init__" 621 (.ref 352),E P "how_many" 628 (.ref 359),E P "need_box" 636 (.ref 366),E P "stand" 644 (.ref 373),E P "cap" 652 (.ref 380),E P "kept" 659 (.ref 387),E P "paid" 666 (.ref 394),E P "had" 673 (.ref 401),E P "deeds" 680 (.ref 408),E P "caps" 690 (.ref 415),E P "debt" 699 (.ref 422),E P "left" 708 (.ref 429),E P "behind" 717 (.ref 436),E P "opened" 730 (.ref 443),E P "taken" 739 (.ref 450),E P "__static_attributes__" 745 (.ref 451),E P "__dict__" 747 (.ref 454),E P "__weakref__" 749 (.ref 455),E P "__doc__" 750 .none] 4),#[]⟩
def XQ:OO:=fun _=>⟨(.type "type"),none,(.cls ⟨"Case",[(.type "object")],[(.ref 453),(.type "object")],452,"Case",true,[],[],false,none,false⟩),#[none,none,(some (.str "Case" 604)),(some (.str "Case" 612)),(some (.builtin "object.__new__")),(some (.bool true))]⟩
def YD:OO:=fun _=>⟨(.type "getset_descriptor"),none,(.fields #[(.str "__dict__" 746),(.ref 453),(.builtin "function.__dict__"),(.builtin "function.__dict__#set")]),#[]⟩
def Wd:OO:=fun _=>⟨(.type "getset_descriptor"),none,(.fields #[(.str "__weakref__" 748),(.ref 453),(.builtin "ExceptionGroup.__weakref__"),.none]),#[]⟩
def Z2:OO:=fun _=>s9 453
def aAa:OO:=fun _=>Gy 453
def YK:OO:=fun P=>⟨(.type "dict"),none,(.dict #[E P "__name__" 165 (.str "law_lidprice_k24_whole_price_is_debt" 753),E P "__doc__" 166 .none,E P "__package__" 167 .none,E P "__loader__" 168 (.builtin "__main__.__loader__#opaque"),E P "__spec__" 169 .none,E P "__annotations__" 170 (.ref 6),E P "__builtins__" 171 (.ref 4),E P "__file__" 173 (.str "/claim/cut.py" 172),E P "__cached__" 174 .none,E P "_wall" 193 (.ref 21),E P "LidError" 213 (.ref 31),E P "NoBox" 229 (.ref 44),E P "NoDeed" 245 (.ref 56),E P "is_whole" 256 (.ref 65),E P "common_divisor" 265 (.ref 72),E P "common_multiple" 274 (.ref 79),E P "share" 283 (.ref 86),E P "whole" 290 (.ref 93),E P "plus" 298 (.ref 100),E P "below" 306 (.ref 107),E P "lesser" 314 (.ref 114),E P "MOST_WORTH" 318 (.int 1000000000 317),E P "MOST_WEIGHT" 320 (.int 1000 319),E P "rising" 326 (.ref 119),E P "in_form" 332 (.ref 124),E P "all_weights" 338 (.ref 129),E P "by_weights" 344 (.ref 134),E P "above" 350 (.ref 139),E P "capped" 356 (.ref 144),E P "mixed" 362 (.ref 149),E P "level_for" 368 (.ref 154),E P "MOST_PRICE" 372 (.int 1000000000 371),E P "MOST_STAGE_ROWS" 374 (.int 4 373),E P "MOST_STAGES" 376 (.int 4 375),E P "MOST_ENDS" 378 (.int 12 377),E P "MOST_BOXES" 380 (.int 6 379),E P "Stand" 443 (.ref 199),E P "End" 497 (.ref 248),E P "Stage" 566 (.ref 307),E P "is_stand" 573 (.ref 316),E P "is_stage_row" 580 (.ref 323),E P "is_stage_rows" 586 (.ref 328),E P "need_boxes" 592 (.ref 333),E P "with_thing" 603 (.ref 340),E P "Case" 752 (.ref 453),E P "_law_cell_at" 762 (.ref 464),E P "_law_mixed" 771 (.ref 471),E P "_law_left" 779 (.ref 478),E P "_law_draw" 788 (.ref 485),E P "_law_ends" 794 (.ref 490),E P "_law_model" 802 (.ref 496),E P "_law_object" 808 (.ref 501),E P "_law_models" 814 (.ref 506),E P "_law_boxes" 824 (.ref 513),E P "_law_whole" 831 (.ref 520),E P "_law_divisor" 839 (.ref 527),E P "_law_lowest" 848 (.ref 534),E P "_law_sum" 856 (.ref 541),E P "_law_times" 864 (.ref 548),E P "_law_is_share" 871 (.ref 555),E P "_law_mean_behind" 877 (.ref 560),E P "_law_fixed" 888 (.ref 567),E P "_law_left_fits" 900 (.ref 574),E P "law" 915 (.ref 581)] 64),#[]⟩
def Up:OO:=fun _=>⟨.none,none,(.fields #[(.int 1 0),(.int 0 0),(.ref 20),(.int 5 0),(.int 0 0),(.ref 27),(.int 7 0),(.int 0 0),(.ref 40),(.int 9 0),(.int 0 0),(.ref 52),(.int 12 0),(.int 0 0),(.ref 64),(.int 14 0),(.int 0 0),(.ref 71),(.int 20 0),(.int 0 0),(.ref 78),(.int 25 0),(.int 0 0),(.ref 85),(.int 30 0),(.int 0 0),(.ref 92),(.int 32 0),(.int 0 0),(.ref 99),(.int 34 0),(.int 0 0),(.ref 106),(.int 36 0),(.int 0 0),(.ref 113),(.int 41 0),(.int 0 0),(.ref 118),(.int 45 0),(.int 0 0),(.ref 123),(.int 53 0),(.int 0 0),(.ref 128),(.int 55 0),(.int 0 0),(.ref 133),(.int 59 0),(.int 0 0),(.ref 138),(.int 62 0),(.int 0 0),(.ref 143),(.int 64 0),(.int 0 0),(.ref 148),(.int 71 0),(.int 0 0),(.ref 153),(.int 88 0),(.int 0 0),(.ref 160),(.int 107 0),(.int 0 0),(.ref 209),(.int 126 0),(.int 0 0),(.ref 256),(.int 158 0),(.int 0 0),(.ref 315),(.int 160 0),(.int 0 0),(.ref 322),(.int 164 0),(.int 0 0),(.ref 327),(.int 168 0),(.int 0 0),(.ref 332),(.int 174 0),(.int 0 0),(.ref 339),(.int 176 0),(.int 0 0),(.ref 346),(.int 256 0),(.int 0 0),(.ref 463),(.int 260 0),(.int 0 0),(.ref 470),(.int 264 0),(.int 0 0),(.ref 477),(.int 266 0),(.int 0 0),(.ref 484),(.int 273 0),(.int 0 0),(.ref 489),(.int 277 0),(.int 0 0),(.ref 495),(.int 288 0),(.int 0 0),(.ref 500),(.int 292 0),(.int 0 0),(.ref 505),(.int 298 0),(.int 0 0),(.ref 512),(.int 307 0),(.int 0 0),(.ref 519),(.int 309 0),(.int 0 0),(.ref 526),(.int 313 0),(.int 0 0),(.ref 533),(.int 316 0),(.int 0 0),(.ref 540),(.int 318 0),(.int 0 0),(.ref 547),(.int 320 0),(.int 0 0),(.ref 554),(.int 324 0),(.int 0 0),(.ref 559),(.int 333 0),(.int 0 0),(.ref 566),(.int 339 0),(.int 0 0),(.ref 573),(.int 346 0),(.int 0 0),(.ref 580)]),#[]⟩
def Vu:OO:=fun _=>vD "_law_script" 758 "_law_k" 759
def aAS:OO:=fun _=>s5 "_law_cell_at" "_law_cell_at" (top 42)
def UL:OO:=fun _=>s6 "_law_cell_at" 755 "_law_cell_at" 756 757 256 2 458 459 460 461 462 760 761
def Rx:OO:=fun _=>s7 "_law_cell_at" "_law_cell_at" (top 42) "law_lidprice_k24_whole_price_is_debt" 753 463
def Y5:OO:=fun _=>vK "_law_cell" 766 "_law_k" 767 "_law_number" 768
def ZL:OO:=fun _=>s5 "_law_mixed" "_law_mixed" (top 43)
def TY:OO:=fun _=>s6 "_law_mixed" 763 "_law_mixed" 764 765 260 2 465 466 467 468 469 769 770
def Uo:OO:=fun _=>s7 "_law_mixed" "_law_mixed" (top 43) "law_lidprice_k24_whole_price_is_debt" 753 470
def Xx:OO:=fun _=>vD "_law_script" 775 "_law_k" 776
def aAG:OO:=fun _=>s5 "_law_left" "_law_left" (top 44)
def Sq:OO:=fun _=>s6 "_law_left" 772 "_law_left" 773 774 264 2 472 473 474 475 476 777 778
def Y8:OO:=fun _=>s7 "_law_left" "_law_left" (top 44) "law_lidprice_k24_whole_price_is_debt" 753 477
def YW:OO:=fun _=>vK "_law_left_here" 783 "_law_many" 784 "_law_number" 785
def aBg:OO:=fun _=>s5 "_law_draw" "_law_draw" (top 45)
def RL:OO:=fun _=>s6 "_law_draw" 780 "_law_draw" 781 782 266 2 479 480 481 482 483 786 787
def RQ:OO:=fun _=>s7 "_law_draw" "_law_draw" (top 45) "law_lidprice_k24_whole_price_is_debt" 753 484
def aBD:OO:=fun _=>s5 "_law_ends" "_law_ends" (top 46)
def Xm:OO:=fun _=>Ci "_law_ends" 789 "_law_ends" 790 791 273 1 486 487 488 792 793
def WW:OO:=fun _=>s7 "_law_ends" "_law_ends" (top 46) "law_lidprice_k24_whole_price_is_debt" 753 489
def Vw:OO:=fun _=>⟨(.type "tuple"),none,(.seq #[(.int 0 795),(.int 12 796)] 0),#[]⟩
def Zu:OO:=fun _=>s5 "_law_model" "_law_model" (top 47)
def Ti:OO:=fun _=>Ci "_law_model" 797 "_law_model" 798 799 277 3 492 493 494 800 801
def Vr:OO:=fun _=>⟨(.type "function"),none,(.func (fnO "_law_model" "_law_model" (top 47) (.ref 491) .none .none (.str "law_lidprice_k24_whole_price_is_debt" 753) none (.ref 495) .none)),#[]⟩
def Zo:OO:=fun _=>s5 "_law_object" "_law_object" (top 48)
def R6:OO:=fun _=>Ci "_law_object" 803 "_law_object" 804 805 288 1 497 498 499 806 807
def RK:OO:=fun _=>s7 "_law_object" "_law_object" (top 48) "law_lidprice_k24_whole_price_is_debt" 753 500
def aAp:OO:=fun _=>s5 "_law_models" "_law_models" (top 49)
def Yc:OO:=fun _=>Ci "_law_models" 809 "_law_models" 810 811 292 2 502 503 504 812 813
def Ue:OO:=fun _=>s7 "_law_models" "_law_models" (top 49) "law_lidprice_k24_whole_price_is_debt" 753 505
def RM:OO:=fun _=>⟨(.type "tuple"),none,(.seq #[(.str "_law_models_here" 818),(.str "_law_boxes_here" 819),(.str "_law_k" 820),(.str "_law_first" 821)] 0),#[]⟩
def aAf:OO:=fun _=>s5 "_law_boxes" "_law_boxes" (top 50)
def SJ:OO:=fun _=>s6 "_law_boxes" 815 "_law_boxes" 816 817 298 1 507 508 509 510 511 822 823
def Vm:OO:=fun _=>s7 "_law_boxes" "_law_boxes" (top 50) "law_lidprice_k24_whole_price_is_debt" 753 512
def SX:OO:=fun _=>s4 "_law_found" 828
def aBo:OO:=fun _=>s5 "_law_whole" "_law_whole" (top 51)
def Rm:OO:=fun _=>s6 "_law_whole" 825 "_law_whole" 826 827 307 1 514 515 516 517 518 829 830
def Vt:OO:=fun _=>s7 "_law_whole" "_law_whole" (top 51) "law_lidprice_k24_whole_price_is_debt" 753 519
def VL:OO:=fun _=>vD "_law_one" 835 "_law_other" 836
def aAz:OO:=fun _=>s5 "_law_divisor" "_law_divisor" (top 52)
def Tr:OO:=fun _=>s6 "_law_divisor" 832 "_law_divisor" 833 834 309 2 521 522 523 524 525 837 838
def Xn:OO:=fun _=>s7 "_law_divisor" "_law_divisor" (top 52) "law_lidprice_k24_whole_price_is_debt" 753 526
def Vd:OO:=fun _=>vK "_law_top" 843 "_law_bottom" 844 "_law_many" 845
def Zh:OO:=fun _=>s5 "_law_lowest" "_law_lowest" (top 53)
def Uy:OO:=fun _=>s6 "_law_lowest" 840 "_law_lowest" 841 842 313 2 528 529 530 531 532 846 847
def Uq:OO:=fun _=>s7 "_law_lowest" "_law_lowest" (top 53) "law_lidprice_k24_whole_price_is_debt" 753 533
def Uu:OO:=fun _=>vD "_law_one" 852 "_law_other" 853
def aAT:OO:=fun _=>s5 "_law_sum" "_law_sum" (top 54)
def Ru:OO:=fun _=>s6 "_law_sum" 849 "_law_sum" 850 851 316 2 535 536 537 538 539 854 855
def Tn:OO:=fun _=>s7 "_law_sum" "_law_sum" (top 54) "law_lidprice_k24_whole_price_is_debt" 753 540
def Sh:OO:=fun _=>vD "_law_one" 860 "_law_other" 861
def aAE:OO:=fun _=>s5 "_law_times" "_law_times" (top 55)
def Vp:OO:=fun _=>s6 "_law_times" 857 "_law_times" 858 859 318 2 542 543 544 545 546 862 863
def YZ:OO:=fun _=>s7 "_law_times" "_law_times" (top 55) "law_lidprice_k24_whole_price_is_debt" 753 547
def Rb:OO:=fun _=>s4 "_law_found" 868
def Z7:OO:=fun _=>s5 "_law_is_share" "_law_is_share" (top 56)
def Rc:OO:=fun _=>s6 "_law_is_share" 865 "_law_is_share" 866 867 320 1 549 550 551 552 553 869 870
def Ra:OO:=fun _=>s7 "_law_is_share" "_law_is_share" (top 56) "law_lidprice_k24_whole_price_is_debt" 753 554
def aBz:OO:=fun _=>s5 "_law_mean_behind" "_law_mean_behind" (top 57)
def R9:OO:=fun _=>Ci "_law_mean_behind" 872 "_law_mean_behind" 873 874 324 3 556 557 558 875 876
def Vb:OO:=fun _=>s7 "_law_mean_behind" "_law_mean_behind" (top 57) "law_lidprice_k24_whole_price_is_debt" 753 559
def Ss:OO:=fun _=>⟨(.type "tuple"),none,(.seq #[(.str "_law_case" 881),(.str "_law_box" 882),(.str "_law_stage" 883),(.str "_law_ahead" 884),(.str "_law_behind" 885)] 0),#[]⟩
def ZX:OO:=fun _=>s5 "_law_fixed" "_law_fixed" (top 58)
def YS:OO:=fun _=>s6 "_law_fixed" 878 "_law_fixed" 879 880 333 3 561 562 563 564 565 886 887
def U6:OO:=fun _=>s7 "_law_fixed" "_law_fixed" (top 58) "law_lidprice_k24_whole_price_is_debt" 753 566
def R8:OO:=fun _=>⟨(.type "tuple"),none,(.seq #[(.str "_law_case" 892),(.str "_law_many" 893),(.str "_law_kept" 894),(.str "_law_total" 895),(.str "_law_box" 896),(.str "_law_found" 897)] 0),#[]⟩
def aBe:OO:=fun _=>s5 "_law_left_fits" "_law_left_fits" (top 59)
def Vf:OO:=fun _=>s6 "_law_left_fits" 889 "_law_left_fits" 890 891 339 3 568 569 570 571 572 898 899
def WK:OO:=fun _=>s7 "_law_left_fits" "_law_left_fits" (top 59) "law_lidprice_k24_whole_price_is_debt" 753 573
def U3:OO:=fun _=>⟨(.type "tuple"),none,(.seq #[(.str "_law_script" 904),(.str "_law_many" 905),(.str "_law_stands" 906),(.str "_law_case" 907),(.str "_law_kept" 908),(.str "_law_cell" 909),(.str "_law_box" 910),(.str "_law_stand" 911),(.str "_law_row" 912)] 0),#[]⟩
def aAe:OO:=fun _=>s5 "law" "law" (top 60)
def V5:OO:=fun _=>s6 "law" 901 "law" 902 903 346 1 575 576 577 578 579 913 914
def Um:OO:=fun _=>s7 "law" "law" (top 60) "law_lidprice_k24_whole_price_is_debt" 753 580
def l0 (P:Params):List Obj:=W.boot_o_0 P :: W.boot_o_1 P :: W.boot_o_2 P :: W.boot_o_3 P :: W.boot_o_4 P :: W.boot_o_5 P :: W.boot_o_6 P :: W.boot_o_7 P :: W.boot_o_8 P :: W.boot_o_9 P :: W.boot_o_10 P :: s0 :: s1 :: o13 P :: o14 P :: []
def t0 (P:Params):W.BT:=L2.bt 14 (l0 P)
def l1 (P:Params):List Obj:=L2.Mu (l0 P) [(3,o3 P),(12,XF P)] ++ (s0 :: s1 :: o17 P :: s0 :: o19 P :: o20 P :: o21 P :: o22 P :: s8 :: o24 P :: s0 :: s1 :: o27 P :: o28 P :: s0 :: o30 P :: o31 P :: o32 P :: o33 P :: o34 P :: o35 P :: s8 :: o37 P :: s0 :: s1 :: o40 P :: o41 P :: s0 :: o43 P :: o44 P :: o45 P :: o46 P :: o47 P :: s8 :: o49 P :: s0 :: s1 :: o52 P :: o53 P :: s0 :: o55 P :: o56 P :: o57 P :: o58 P :: s0 :: s1 :: o61 P :: s0 :: o63 P :: o64 P :: o65 P :: s0 :: s1 :: o68 P :: s0 :: o70 P :: o71 P :: o72 P :: s0 :: s1 :: o75 P :: s0 :: o77 P :: o78 P :: o79 P :: s0 :: s1 :: o82 P :: s0 :: o84 P :: o85 P :: o86 P :: s0 :: s1 :: o89 P :: s0 :: o91 P :: o92 P :: o93 P :: s0 :: s1 :: o96 P :: s0 :: o98 P :: o99 P :: Wr P :: s0 :: s1 :: XX P :: s0 :: aA7 P :: XN P :: Y9 P :: s0 :: s1 :: Rz P :: s0 :: Zi P :: V7 P :: XH P :: s0 :: s1 :: aAK P :: Vg P :: Ur P :: s0 :: s1 :: aAm P :: V8 P :: Su P :: s0 :: s1 :: Za P :: WQ P :: S7 P :: s0 :: s1 :: aBp P :: Ve P :: V9 P :: s0 :: s1 :: aA1 P :: WD P :: Wl P :: s0 :: s1 :: Z9 P :: V2 P :: YT P :: s0 :: s1 :: aAC P :: YQ P :: X6 P :: s0 :: s1 :: ZR P :: V4 P :: VG P :: s0 :: s8 :: ZF P :: s0 :: aAQ P :: aBn P :: aAX P :: s0 :: s1 :: U4 P :: s0 :: aAW P :: Rk P :: WF P :: s0 :: s1 :: Ug P :: s0 :: ZM P :: Xu P :: We P :: s0 :: s1 :: RG P :: s0 :: aBu P :: Uj P :: RJ P :: s0 :: s1 :: Vl P :: s0 :: aA6 P :: WN P :: Xz P :: s0 :: s1 :: Ws P :: s0 :: aBt P :: Ul P :: Ye P :: R7 P :: TX P :: aAx P :: RN P :: Xy P :: ZK P :: aBx P :: [])
def t1 (P:Params):W.BT:=L2.bt 14 (l1 P)
def l2 (P:Params):List Obj:=L2.Mu (l1 P) [(3,aBi P),(12,Tj P),(199,Jq P)] ++ (Wc P :: s8 :: Zc P :: s0 :: aAL P :: Z3 P :: aAy P :: s0 :: s1 :: Tt P :: s0 :: Zn P :: Ym P :: Vq P :: s0 :: s1 :: RW P :: s0 :: Zb P :: Xe P :: Rg P :: s0 :: s1 :: SN P :: s0 :: aA5 P :: YF P :: V6 P :: s0 :: s1 :: TJ P :: s0 :: Z0 P :: YJ P :: Ud P :: s0 :: s1 :: Vc P :: s0 :: aBB P :: UW P :: Vh P :: Xr P :: XC P :: Wn P :: aAB P :: Zq P :: Yl P :: s8 :: Zm P :: s0 :: aAu P :: aBf P :: aAP P :: s0 :: s1 :: aAk P :: WP P :: Wu P :: s0 :: s1 :: Th P :: s0 :: ZW P :: Uk P :: VP P :: s0 :: s1 :: Xo P :: s0 :: Zv P :: Wo P :: Vn P :: s0 :: s1 :: S6 P :: s0 :: Ze P :: Uh P :: Xa P :: s0 :: s1 :: Tg P :: s0 :: aBA P :: V1 P :: UT P :: s0 :: s1 :: Sx P :: s0 :: aBv P :: YM P :: RX P :: s0 :: s1 :: Xp P :: s0 :: aBd P :: RV P :: Wk P :: Tu P :: Ut P :: Ro P :: aAr P :: Zw P :: s0 :: s1 :: Xv P :: s0 :: aBy P :: U0 P :: Wb P :: s0 :: s1 :: WL P :: s0 :: aAD P :: Rh P :: SQ P :: s0 :: s1 :: Z8 P :: Sv P :: XJ P :: s0 :: s1 :: Zj P :: Yh P :: Wf P :: s0 :: s1 :: Vz P :: s0 :: aAH P :: Xw P :: Wz P :: s0 :: s8 :: aBk P :: s0 :: aA9 P :: aAj P :: aBC P :: s0 :: s1 :: aAn P :: Xc P :: YL P :: s0 :: s1 :: Wj P :: s0 :: aAh P :: Wh P :: U9 P :: s0 :: s1 :: YG P :: s0 :: aAq P :: Rq P :: VN P :: s0 :: s1 :: Rr P :: s0 :: aAJ P :: W6 P :: WX P :: s0 :: s1 :: Vy P :: s0 :: Zx P :: W5 P :: Y6 P :: s0 :: s1 :: XM P :: s0 :: aBc P :: XR P :: S5 P :: s0 :: s1 :: Xk P :: s0 :: aA0 P :: Sy P :: Rj P :: s0 :: s1 :: Rt P :: s0 :: aAc P :: Yg P :: Vj P :: s0 :: s1 :: W3 P :: s0 :: Yz P :: Tw P :: VD P :: s0 :: s1 :: YC P :: s0 :: aAM P :: U7 P :: Uv P :: s0 :: s1 :: Xj P :: s0 :: aA8 P :: Sw P :: Rn P :: s0 :: s1 :: Ri P :: s0 :: aAb P :: U5 P :: Uz P :: s0 :: s1 :: RZ P :: s0 :: Zk P :: Wx P :: YH P :: s0 :: s1 :: XS P :: s0 :: aAg P :: Ww P :: Xl P :: s0 :: s1 :: Uw P :: s0 :: aAN P :: Y7 P :: VH P :: Us P :: WY P :: XQ P :: YD P :: Wd P :: Z2 P :: aAa P :: [])
def t2 (P:Params):W.BT:=L2.bt 14 (l2 P)
def l3 (P:Params):List Obj:=L2.Mu (l2 P) [(3,YK P),(12,Up P)] ++ (s0 :: s1 :: Vu P :: s0 :: aAS P :: UL P :: Rx P :: s0 :: s1 :: Y5 P :: s0 :: ZL P :: TY P :: Uo P :: s0 :: s1 :: Xx P :: s0 :: aAG P :: Sq P :: Y8 P :: s0 :: s1 :: YW P :: s0 :: aBg P :: RL P :: RQ P :: s0 :: s1 :: aBD P :: Xm P :: WW P :: Vw P :: s0 :: s1 :: Zu P :: Ti P :: Vr P :: s0 :: s1 :: Zo P :: R6 P :: RK P :: s0 :: s1 :: aAp P :: Yc P :: Ue P :: s0 :: s1 :: RM P :: s0 :: aAf P :: SJ P :: Vm P :: s0 :: s1 :: SX P :: s0 :: aBo P :: Rm P :: Vt P :: s0 :: s1 :: VL P :: s0 :: aAz P :: Tr P :: Xn P :: s0 :: s1 :: Vd P :: s0 :: Zh P :: Uy P :: Uq P :: s0 :: s1 :: Uu P :: s0 :: aAT P :: Ru P :: Tn P :: s0 :: s1 :: Sh P :: s0 :: aAE P :: Vp P :: YZ P :: s0 :: s1 :: Rb P :: s0 :: Z7 P :: Rc P :: Ra P :: s0 :: s1 :: aBz P :: R9 P :: Vb P :: s0 :: s1 :: Ss P :: s0 :: ZX P :: YS P :: U6 P :: s0 :: s1 :: R8 P :: s0 :: aBe P :: Vf P :: WK P :: s0 :: s1 :: U3 P :: s0 :: aAe P :: V5 P :: Um P :: [])
def t3 (P:Params):W.BT:=L2.bt 14 (l3 P)
def CP:Env:={ scope:=PySem.Challenge.pw_lidprice_k24_whole_price_is_debt.main.scope,locals:=mainNs,globals:=mainNs,cells:=[],code:=(.ref 13),frame:=some 14 }
def g1:List Stmt:=[top 0,top 1,top 2,top 3,top 4,top 5,top 6,top 7,top 8,top 9,top 10,top 11,top 12,top 13,top 14,top 15,top 16,top 17,top 18,top 19,top 20,top 21,top 22,top 23,top 24,top 25,top 26,top 27,top 28,top 29,top 30,top 31]
def g2:List Stmt:=[top 32,top 33,top 34,top 35,top 36,top 37,top 38,top 39,top 40]
def g3:List Stmt:=[top 41,top 42,top 43,top 44,top 45,top 46,top 47,top 48,top 49,top 50,top 51,top 52,top 53,top 54,top 55,top 56,top 57,top 58,top 59,top 60]
def gs:List Stmt:=g1 ++ (g2 ++ (g3 ++ []))
def mV:Code:=.body gs CP
theorem aAF (w:World) (os:OsState):W.segRunT PySem.treeTable PySem.Challenge.pw_lidprice_k24_whole_price_is_debt w 11 (some (.ref 6)) 1 1544 (De (t0 w.params) 15 187 os) (W.piecesOf g1 CP mV ⟨0,0,0,0⟩ [W.topFrame ⟨0,0,0,0⟩])=some (.next,De (t1 w.params) 204 444 os,mV,⟨88,0,106,34⟩):=by kernel_rfl
theorem aAZ (w:World) (os:OsState):W.segRunT PySem.treeTable PySem.Challenge.pw_lidprice_k24_whole_price_is_debt w 11 (some (.ref 6)) 1 1628 (De (t1 w.params) 204 444 os) (W.piecesOf g2 CP mV ⟨88,0,106,34⟩ [W.topFrame ⟨0,0,0,0⟩])=some (.next,De (t2 w.params) 458 753 os,mV,⟨176,0,254,19⟩):=by kernel_rfl
theorem Zt (w:World) (os:OsState):W.segRunT PySem.treeTable PySem.Challenge.pw_lidprice_k24_whole_price_is_debt w 11 (some (.ref 6)) 1 580 (De (t2 w.params) 458 753 os) (W.piecesOf g3 CP mV ⟨176,0,254,19⟩ [W.topFrame ⟨0,0,0,0⟩])=some (.next,De (t3 w.params) 582 916 os,mV,⟨346,0,365,58⟩):=by kernel_rfl
theorem aAO (w:World) (os:OsState):W.topRun PySem.treeTable PySem.Challenge.pw_lidprice_k24_whole_price_is_debt w 11 (some (.ref 6)) 2 (De (t3 w.params) 582 916 os).abs (W.restOf [] CP mV ⟨346,0,365,58⟩ [W.topFrame ⟨0,0,0,0⟩])=some (De (t3 w.params) 582 916 os).abs:=by kernel_rfl
theorem ZS (w:World) (os:OsState):W.topGo PySem.treeTable PySem.Challenge.pw_lidprice_k24_whole_price_is_debt w 11 (some (.ref 6)) 12 ⟨W.boot_heap w.params,Array.mk [],W.boot_drawn,W.boot_toks,os⟩ (W.topStub PySem.Challenge.pw_lidprice_k24_whole_price_is_debt)=some ((De (t0 w.params) 15 187 os).abs,⟨denote PySem.treeTable (.body gs CP),mV,⟨0,0,0,0⟩,[W.topFrame ⟨0,0,0,0⟩]⟩):=by kernel_rfl
theorem aBs (w:World) (os:OsState):W.segRun PySem.treeTable PySem.Challenge.pw_lidprice_k24_whole_price_is_debt w 11 (some (.ref 6)) 1 1 (De (t0 w.params) 15 187 os).abs (W.blockOf gs CP mV ⟨0,0,0,0⟩ [W.topFrame ⟨0,0,0,0⟩])=some (.next,(De (t0 w.params) 15 187 os).abs,mV,⟨0,0,0,0⟩):=by kernel_rfl
def xU (P:Params):W.Frag :=
(nat_lit 2,W.boot_o_2 P) ::
(nat_lit 3,YK P) ::
(nat_lit 15,s0) ::
(nat_lit 17,o17 P) ::
(nat_lit 18,s0) ::
(nat_lit 20,o20 P) ::
(nat_lit 21,o21 P) ::
(nat_lit 22,o22 P) ::
(nat_lit 29,s0) ::
(nat_lit 30,o30 P) ::
(nat_lit 31,o31 P) ::
(nat_lit 32,o32 P) ::
(nat_lit 35,o35 P) ::
(nat_lit 42,s0) ::
(nat_lit 43,o43 P) ::
(nat_lit 44,o44 P) ::
(nat_lit 47,o47 P) ::
(nat_lit 54,s0) ::
(nat_lit 55,o55 P) ::
(nat_lit 56,o56 P) ::
(nat_lit 59,s0) ::
(nat_lit 61,o61 P) ::
(nat_lit 62,s0) ::
(nat_lit 64,o64 P) ::
(nat_lit 65,o65 P) ::
(nat_lit 66,s0) ::
(nat_lit 68,o68 P) ::
(nat_lit 69,s0) ::
(nat_lit 71,o71 P) ::
(nat_lit 72,o72 P) ::
(nat_lit 73,s0) ::
(nat_lit 75,o75 P) ::
(nat_lit 76,s0) ::
(nat_lit 78,o78 P) ::
(nat_lit 79,o79 P) ::
(nat_lit 80,s0) ::
(nat_lit 82,o82 P) ::
(nat_lit 83,s0) ::
(nat_lit 85,o85 P) ::
(nat_lit 86,o86 P) ::
(nat_lit 87,s0) ::
(nat_lit 89,o89 P) ::
(nat_lit 90,s0) ::
(nat_lit 92,o92 P) ::
(nat_lit 93,o93 P) ::
(nat_lit 94,s0) ::
(nat_lit 96,o96 P) ::
(nat_lit 97,s0) ::
(nat_lit 99,o99 P) ::
(nat_lit 100,Wr P) ::
(nat_lit 101,s0) ::
(nat_lit 103,XX P) ::
(nat_lit 104,s0) ::
(nat_lit 106,XN P) ::
(nat_lit 107,Y9 P) ::
(nat_lit 108,s0) ::
(nat_lit 110,Rz P) ::
(nat_lit 111,s0) ::
(nat_lit 113,V7 P) ::
(nat_lit 114,XH P) ::
(nat_lit 115,s0) ::
(nat_lit 118,Vg P) ::
(nat_lit 119,Ur P) ::
(nat_lit 120,s0) ::
(nat_lit 123,V8 P) ::
(nat_lit 124,Su P) ::
(nat_lit 125,s0) ::
(nat_lit 128,WQ P) ::
(nat_lit 129,S7 P) ::
(nat_lit 130,s0) ::
(nat_lit 133,Ve P) ::
(nat_lit 134,V9 P) ::
(nat_lit 135,s0) ::
(nat_lit 138,WD P) ::
(nat_lit 139,Wl P) ::
(nat_lit 140,s0) ::
(nat_lit 143,V2 P) ::
(nat_lit 144,YT P) ::
(nat_lit 145,s0) ::
(nat_lit 148,YQ P) ::
(nat_lit 149,X6 P) ::
(nat_lit 150,s0) ::
(nat_lit 153,V4 P) ::
(nat_lit 154,VG P) ::
(nat_lit 162,s0) ::
(nat_lit 164,U4 P) ::
(nat_lit 165,s0) ::
(nat_lit 167,Rk P) ::
(nat_lit 168,WF P) ::
(nat_lit 169,s0) ::
(nat_lit 171,Ug P) ::
(nat_lit 172,s0) ::
(nat_lit 174,Xu P) ::
(nat_lit 175,We P) ::
(nat_lit 176,s0) ::
(nat_lit 178,RG P) ::
(nat_lit 179,s0) ::
(nat_lit 181,Uj P) ::
(nat_lit 182,RJ P) ::
(nat_lit 183,s0) ::
(nat_lit 185,Vl P) ::
(nat_lit 186,s0) ::
(nat_lit 188,WN P) ::
(nat_lit 189,Xz P) ::
(nat_lit 190,s0) ::
(nat_lit 192,Ws P) ::
(nat_lit 193,s0) ::
(nat_lit 195,Ul P) ::
(nat_lit 196,Ye P) ::
(nat_lit 197,R7 P) ::
(nat_lit 198,TX P) ::
(nat_lit 199,Jq P) ::
(nat_lit 200,RN P) ::
(nat_lit 201,Xy P) ::
(nat_lit 204,Wc P) ::
(nat_lit 211,s0) ::
(nat_lit 213,Tt P) ::
(nat_lit 214,s0) ::
(nat_lit 216,Ym P) ::
(nat_lit 217,Vq P) ::
(nat_lit 218,s0) ::
(nat_lit 220,RW P) ::
(nat_lit 221,s0) ::
(nat_lit 223,Xe P) ::
(nat_lit 224,Rg P) ::
(nat_lit 225,s0) ::
(nat_lit 227,SN P) ::
(nat_lit 228,s0) ::
(nat_lit 230,YF P) ::
(nat_lit 231,V6 P) ::
(nat_lit 232,s0) ::
(nat_lit 234,TJ P) ::
(nat_lit 235,s0) ::
(nat_lit 237,YJ P) ::
(nat_lit 238,Ud P) ::
(nat_lit 239,s0) ::
(nat_lit 241,Vc P) ::
(nat_lit 242,s0) ::
(nat_lit 244,UW P) ::
(nat_lit 245,Vh P) ::
(nat_lit 246,Xr P) ::
(nat_lit 247,XC P) ::
(nat_lit 248,Wn P) ::
(nat_lit 251,Yl P) ::
(nat_lit 258,s0) ::
(nat_lit 261,WP P) ::
(nat_lit 262,Wu P) ::
(nat_lit 263,s0) ::
(nat_lit 265,Th P) ::
(nat_lit 266,s0) ::
(nat_lit 268,Uk P) ::
(nat_lit 269,VP P) ::
(nat_lit 270,s0) ::
(nat_lit 272,Xo P) ::
(nat_lit 273,s0) ::
(nat_lit 275,Wo P) ::
(nat_lit 276,Vn P) ::
(nat_lit 277,s0) ::
(nat_lit 279,S6 P) ::
(nat_lit 280,s0) ::
(nat_lit 282,Uh P) ::
(nat_lit 283,Xa P) ::
(nat_lit 284,s0) ::
(nat_lit 286,Tg P) ::
(nat_lit 287,s0) ::
(nat_lit 289,V1 P) ::
(nat_lit 290,UT P) ::
(nat_lit 291,s0) ::
(nat_lit 293,Sx P) ::
(nat_lit 294,s0) ::
(nat_lit 296,YM P) ::
(nat_lit 297,RX P) ::
(nat_lit 298,s0) ::
(nat_lit 300,Xp P) ::
(nat_lit 301,s0) ::
(nat_lit 303,RV P) ::
(nat_lit 304,Wk P) ::
(nat_lit 305,Tu P) ::
(nat_lit 306,Ut P) ::
(nat_lit 307,Ro P) ::
(nat_lit 310,s0) ::
(nat_lit 312,Xv P) ::
(nat_lit 313,s0) ::
(nat_lit 315,U0 P) ::
(nat_lit 316,Wb P) ::
(nat_lit 317,s0) ::
(nat_lit 319,WL P) ::
(nat_lit 320,s0) ::
(nat_lit 322,Rh P) ::
(nat_lit 323,SQ P) ::
(nat_lit 324,s0) ::
(nat_lit 327,Sv P) ::
(nat_lit 328,XJ P) ::
(nat_lit 329,s0) ::
(nat_lit 332,Yh P) ::
(nat_lit 333,Wf P) ::
(nat_lit 334,s0) ::
(nat_lit 336,Vz P) ::
(nat_lit 337,s0) ::
(nat_lit 339,Xw P) ::
(nat_lit 340,Wz P) ::
(nat_lit 348,s0) ::
(nat_lit 351,Xc P) ::
(nat_lit 352,YL P) ::
(nat_lit 353,s0) ::
(nat_lit 355,Wj P) ::
(nat_lit 356,s0) ::
(nat_lit 358,Wh P) ::
(nat_lit 359,U9 P) ::
(nat_lit 360,s0) ::
(nat_lit 362,YG P) ::
(nat_lit 363,s0) ::
(nat_lit 365,Rq P) ::
(nat_lit 366,VN P) ::
(nat_lit 367,s0) ::
(nat_lit 369,Rr P) ::
(nat_lit 370,s0) ::
(nat_lit 372,W6 P) ::
(nat_lit 373,WX P) ::
(nat_lit 374,s0) ::
(nat_lit 376,Vy P) ::
(nat_lit 377,s0) ::
(nat_lit 379,W5 P) ::
(nat_lit 380,Y6 P) ::
(nat_lit 381,s0) ::
(nat_lit 383,XM P) ::
(nat_lit 384,s0) ::
(nat_lit 386,XR P) ::
(nat_lit 387,S5 P) ::
(nat_lit 388,s0) ::
(nat_lit 390,Xk P) ::
(nat_lit 391,s0) ::
(nat_lit 393,Sy P) ::
(nat_lit 394,Rj P) ::
(nat_lit 395,s0) ::
(nat_lit 397,Rt P) ::
(nat_lit 398,s0) ::
(nat_lit 400,Yg P) ::
(nat_lit 401,Vj P) ::
(nat_lit 402,s0) ::
(nat_lit 404,W3 P) ::
(nat_lit 405,s0) ::
(nat_lit 407,Tw P) ::
(nat_lit 408,VD P) ::
(nat_lit 409,s0) ::
(nat_lit 411,YC P) ::
(nat_lit 412,s0) ::
(nat_lit 414,U7 P) ::
(nat_lit 415,Uv P) ::
(nat_lit 416,s0) ::
(nat_lit 418,Xj P) ::
(nat_lit 419,s0) ::
(nat_lit 421,Sw P) ::
(nat_lit 422,Rn P) ::
(nat_lit 423,s0) ::
(nat_lit 425,Ri P) ::
(nat_lit 426,s0) ::
(nat_lit 428,U5 P) ::
(nat_lit 429,Uz P) ::
(nat_lit 430,s0) ::
(nat_lit 432,RZ P) ::
(nat_lit 433,s0) ::
(nat_lit 435,Wx P) ::
(nat_lit 436,YH P) ::
(nat_lit 437,s0) ::
(nat_lit 439,XS P) ::
(nat_lit 440,s0) ::
(nat_lit 442,Ww P) ::
(nat_lit 443,Xl P) ::
(nat_lit 444,s0) ::
(nat_lit 446,Uw P) ::
(nat_lit 447,s0) ::
(nat_lit 449,Y7 P) ::
(nat_lit 450,VH P) ::
(nat_lit 451,Us P) ::
(nat_lit 452,WY P) ::
(nat_lit 453,XQ P) ::
(nat_lit 454,YD P) ::
(nat_lit 455,Wd P) ::
(nat_lit 458,s0) ::
(nat_lit 460,Vu P) ::
(nat_lit 461,s0) ::
(nat_lit 463,UL P) ::
(nat_lit 464,Rx P) ::
(nat_lit 465,s0) ::
(nat_lit 467,Y5 P) ::
(nat_lit 468,s0) ::
(nat_lit 470,TY P) ::
(nat_lit 471,Uo P) ::
(nat_lit 472,s0) ::
(nat_lit 474,Xx P) ::
(nat_lit 475,s0) ::
(nat_lit 477,Sq P) ::
(nat_lit 478,Y8 P) ::
(nat_lit 479,s0) ::
(nat_lit 481,YW P) ::
(nat_lit 482,s0) ::
(nat_lit 484,RL P) ::
(nat_lit 485,RQ P) ::
(nat_lit 486,s0) ::
(nat_lit 489,Xm P) ::
(nat_lit 490,WW P) ::
(nat_lit 491,Vw P) ::
(nat_lit 492,s0) ::
(nat_lit 495,Ti P) ::
(nat_lit 496,Vr P) ::
(nat_lit 497,s0) ::
(nat_lit 500,R6 P) ::
(nat_lit 501,RK P) ::
(nat_lit 502,s0) ::
(nat_lit 505,Yc P) ::
(nat_lit 506,Ue P) ::
(nat_lit 507,s0) ::
(nat_lit 509,RM P) ::
(nat_lit 510,s0) ::
(nat_lit 512,SJ P) ::
(nat_lit 513,Vm P) ::
(nat_lit 514,s0) ::
(nat_lit 516,SX P) ::
(nat_lit 517,s0) ::
(nat_lit 519,Rm P) ::
(nat_lit 520,Vt P) ::
(nat_lit 521,s0) ::
(nat_lit 523,VL P) ::
(nat_lit 524,s0) ::
(nat_lit 526,Tr P) ::
(nat_lit 527,Xn P) ::
(nat_lit 528,s0) ::
(nat_lit 530,Vd P) ::
(nat_lit 531,s0) ::
(nat_lit 533,Uy P) ::
(nat_lit 534,Uq P) ::
(nat_lit 535,s0) ::
(nat_lit 537,Uu P) ::
(nat_lit 538,s0) ::
(nat_lit 540,Ru P) ::
(nat_lit 541,Tn P) ::
(nat_lit 542,s0) ::
(nat_lit 544,Sh P) ::
(nat_lit 545,s0) ::
(nat_lit 547,Vp P) ::
(nat_lit 548,YZ P) ::
(nat_lit 549,s0) ::
(nat_lit 551,Rb P) ::
(nat_lit 552,s0) ::
(nat_lit 554,Rc P) ::
(nat_lit 555,Ra P) ::
(nat_lit 556,s0) ::
(nat_lit 559,R9 P) ::
(nat_lit 560,Vb P) ::
(nat_lit 561,s0) ::
(nat_lit 563,Ss P) ::
(nat_lit 564,s0) ::
(nat_lit 566,YS P) ::
(nat_lit 567,U6 P) ::
(nat_lit 568,s0) ::
(nat_lit 570,R8 P) ::
(nat_lit 571,s0) ::
(nat_lit 573,Vf P) ::
(nat_lit 574,WK P) ::
(nat_lit 575,s0) ::
(nat_lit 577,U3 P) ::
(nat_lit 578,s0) ::
(nat_lit 580,V5 P) ::
(nat_lit 581,Um P) :: []
def RC:List Addr:=2 :: 3 :: 15 :: 17 :: 18 :: 20 :: 21 :: 22 :: 29 :: 30 :: 31 :: 32 :: 35 :: 42 :: 43 :: 44 :: 47 :: 54 :: 55 :: 56 :: 59 :: 61 :: 62 :: 64 :: 65 :: 66 :: 68 :: 69 :: 71 :: 72 :: 73 :: 75 :: 76 :: 78 :: 79 :: 80 :: 82 :: 83 :: 85 :: 86 :: 87 :: 89 :: 90 :: 92 :: 93 :: 94 :: 96 :: 97 :: 99 :: 100 :: 101 :: 103 :: 104 :: 106 :: 107 :: 108 :: 110 :: 111 :: 113 :: 114 :: 115 :: 118 :: 119 :: 120 :: 123 :: 124 :: 125 :: 128 :: 129 :: 130 :: 133 :: 134 :: 135 :: 138 :: 139 :: 140 :: 143 :: 144 :: 145 :: 148 :: 149 :: 150 :: 153 :: 154 :: 162 :: 164 :: 165 :: 167 :: 168 :: 169 :: 171 :: 172 :: 174 :: 175 :: 176 :: 178 :: 179 :: 181 :: 182 :: 183 :: 185 :: 186 :: 188 :: 189 :: 190 :: 192 :: 193 :: 195 :: 196 :: 197 :: 198 :: 199 :: 200 :: 201 :: 204 :: 211 :: 213 :: 214 :: 216 :: 217 :: 218 :: 220 :: 221 :: 223 :: 224 :: 225 :: 227 :: 228 :: 230 :: 231 :: 232 :: 234 :: 235 :: 237 :: 238 :: 239 :: 241 :: 242 :: 244 :: 245 :: 246 :: 247 :: 248 :: 251 :: 258 :: 261 :: 262 :: 263 :: 265 :: 266 :: 268 :: 269 :: 270 :: 272 :: 273 :: 275 :: 276 :: 277 :: 279 :: 280 :: 282 :: 283 :: 284 :: 286 :: 287 :: 289 :: 290 :: 291 :: 293 :: 294 :: 296 :: 297 :: 298 :: 300 :: 301 :: 303 :: 304 :: 305 :: 306 :: 307 :: 310 :: 312 :: 313 :: 315 :: 316 :: 317 :: 319 :: 320 :: 322 :: 323 :: 324 :: 327 :: 328 :: 329 :: 332 :: 333 :: 334 :: 336 :: 337 :: 339 :: 340 :: 348 :: 351 :: 352 :: 353 :: 355 :: 356 :: 358 :: 359 :: 360 :: 362 :: 363 :: 365 :: 366 :: 367 :: 369 :: 370 :: 372 :: 373 :: 374 :: 376 :: 377 :: 379 :: 380 :: 381 :: 383 :: 384 :: 386 :: 387 :: 388 :: 390 :: 391 :: 393 :: 394 :: 395 :: 397 :: 398 :: 400 :: 401 :: 402 :: 404 :: 405 :: 407 :: 408 :: 409 :: 411 :: 412 :: 414 :: 415 :: 416 :: 418 :: 419 :: 421 :: 422 :: 423 :: 425 :: 426 :: 428 :: 429 :: 430 :: 432 :: 433 :: 435 :: 436 :: 437 :: 439 :: 440 :: 442 :: 443 :: 444 :: 446 :: 447 :: 449 :: 450 :: 451 :: 452 :: 453 :: 454 :: 455 :: 458 :: 460 :: 461 :: 463 :: 464 :: 465 :: 467 :: 468 :: 470 :: 471 :: 472 :: 474 :: 475 :: 477 :: 478 :: 479 :: 481 :: 482 :: 484 :: 485 :: 486 :: 489 :: 490 :: 491 :: 492 :: 495 :: 496 :: 497 :: 500 :: 501 :: 502 :: 505 :: 506 :: 507 :: 509 :: 510 :: 512 :: 513 :: 514 :: 516 :: 517 :: 519 :: 520 :: 521 :: 523 :: 524 :: 526 :: 527 :: 528 :: 530 :: 531 :: 533 :: 534 :: 535 :: 537 :: 538 :: 540 :: 541 :: 542 :: 544 :: 545 :: 547 :: 548 :: 549 :: 551 :: 552 :: 554 :: 555 :: 556 :: 559 :: 560 :: 561 :: 563 :: 564 :: 566 :: 567 :: 568 :: 570 :: 571 :: 573 :: 574 :: 575 :: 577 :: 578 :: 580 :: 581 :: []
theorem Ax:∀ P,RC=(xU P).map (·.1):=fun _=>by kernel_rfl
def vw:Program:={ PySem.Challenge.pw_lidprice_k24_whole_price_is_debt with main:={ (PySem.Challenge.pw_lidprice_k24_whole_price_is_debt).main with body:=[top 0,top 2,top 3,top 4,top 6,top 7,top 8,top 9,top 10,top 11,top 12,top 13,top 15,top 16,top 17,top 18,top 19,top 20,top 21,top 22,top 23,top 24,top 26,top 27,top 28,top 29,top 30,top 31,top 32,top 33,top 34,top 35,top 36,top 37,top 39,top 40,top 42,top 43,top 44,top 45,top 46,top 48,top 49,top 50,top 51,top 52,top 53,top 54,top 55,top 56,top 57,top 58,top 59,top 60] } }
def xtK (s:Shared):Bool:=W.xlAt vw [] s && W.recOk (W.RowW.records (W.OpenRow.toRowW (W.OpenLaw.row PySem.Challenge.rw_lidprice_k24_whole_price_is_debt))) s
theorem Y0:W.LeftO PySem.Challenge.pw_lidprice_k24_whole_price_is_debt vw ["_law_model"] xtK (W.Hook.obs (W.kHook xU RC Ax)) (W.Hook.val (W.kHook xU RC Ax)) 8224 :=
 L2.Lb (Tb:=t0) (Tf:=t3) (nf:=582) (kf:=916) (env:=CP) (C:=mV) (gs:=gs) (m0:=11) (ann:=(some (.ref 6))) (by kernel_rfl) (by decide) (fun _=>by kernel_rfl) (fun _=>by kernel_rfl) ZS aBs (c:=1544 + (1628 + (580 + (2)))) (fun w os=>L2.zA (aAF w os) (L2.zA (aAZ w os) (L2.zA (Zt w os) (aAO w os)))) (by decide) (fun _=>by kernel_rfl)
end
end K24
open PySem PySem.W PyProof.Rows
set_option maxRecDepth 100000 in
set_option maxHeartbeats 0 in
theorem PySem.Challenge.cw_lidprice_k24_whole_price_is_debt_holds : PySem.Challenge.rw_lidprice_k24_whole_price_is_debt.Holds := by
 w_on; o_law
 refine PySem.W.holds_open (N:=8224) (q:=K24.vw) (loose:=["_law_model"]) (Xt:=K24.xtK) (XP:=PySem.W.XL K24.vw [])
  (Yf:=PySem.W.Hook.obs (PySem.W.kHook K24.xU K24.RC K24.Ax)) (Ya:=PySem.W.Hook.val (PySem.W.kHook K24.xU K24.RC K24.Ax))
  (YP:=PySem.W.Hook.says (PySem.W.kHook K24.xU K24.RC K24.Ax)) K24.Y0
  (PySem.W.Hook.of _) (PySem.W.Hook.keeps _) (fun s e=>PySem.W.xl_of s (Bool.and_eq_true_iff.mp e).1) PySem.W.XL.keeps
  (by rfl) (by rfl) (by rfl) (fun s e=>PySem.W.recFacts_of (Bool.and_eq_true_iff.mp e).2)
  (by rfl) (by first | assumption | decide +kernel) (by decide +kernel)
  ⟨rfl,rfl,rfl,rfl,rfl,by decide +kernel⟩ ?hw ?hc
 case hw=>w_witness2
 k_fill
 refine K24.aAt (l:=PySem.Challenge.rw_lidprice_k24_whole_price_is_debt) rfl rfl rfl (fun w h Y=>by first | exact PySem.W.kIn_of Y | exact PySem.W.km_in_of Y) ?F
 case F =>
  intro w mg fa h KX G hmg
  apply K24.Qj (cR:=118) (Pt:=116) KX G hmg
  all_goals first | k_is | kit_is | exact ⟨by k_is,L2.Kw (by k_is) (by k_is) (by k_is)⟩ | exact ⟨by k_is,by k_is,L2.Kw (by k_is) (by k_is) (by k_is)⟩ | exact ⟨by k_is,L2.Mj (by k_is) (by k_is) (by k_is)⟩ | (refine ⟨⟨?_,?_,?_,?_⟩,⟨?_,?_,?_,?_⟩,?_,?_,?_,?_,?_,?_,?_,?_,?_,?_,?_⟩ <;> first | k_is | kit_is | kernel_rfl | (unfold L2.cJ; kernel_rfl) | decide) | (refine ⟨?_,?_,?_,?_,?_,?_,?_,?_,?_⟩ <;> first | k_is | kit_is | kernel_rfl | (unfold L2.cJ; kernel_rfl) | decide) | (refine ⟨?_,?_,?_,?_,?_⟩ <;> first | k_is | kit_is | kernel_rfl | (unfold L2.cJ; kernel_rfl) | decide) | (refine ⟨?_⟩ <;> first | k_is | kit_is | kernel_rfl | (unfold L2.cJ; kernel_rfl) | decide) | (refine TD.CN.of ?_ ?_ <;> first | k_is | kit_is | kernel_rfl | (unfold L2.cJ; kernel_rfl) | decide) | (refine ⟨?_,?_,⟨?_,?_,?_,?_⟩,?_,?_,?_,?_,?_⟩ <;> first | k_is | kit_is | kernel_rfl | (unfold L2.cJ; kernel_rfl) | decide) | kernel_rfl | exact rfl | decide
