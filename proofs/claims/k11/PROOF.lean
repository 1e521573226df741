import PyProof.Rows.All
import Wide.All
import OpenK.AllK
import Wide.FinOn
import Lean
import PyProof.EqAt
import PyProof.EqKinds
import PyProof.TupleCall
import PyProof.NeKinds
import KE.IntBitsLaws
import KE.KRevIter
import KE.KSortKey
import KE.KLam
import KE.KNestM
import KE.KDictList
import PyProof.ConsumeWalk
import PyProof.ZipIter
import PyProof.Rows.Range3
import PyProof.CollectWalk
import PyProof.ListNew
import PyProof.IsRules
import KE.KUnpack
import PyProof.Rows.TupIter
import PyProof.Draws
import PyProof.EnumFor
import PySem.Challenge.RW_lidprice_k11_stands_told
set_option Elab.async false
set_option linter.all false
set_option maxRecDepth 100000
namespace L2
open PySem PySem.Spec PyProof.Rows
abbrev Key := Sum Int Str
def keyIs : Key -> Value -> Bool
  | .inl k, v => Value.isInt k v
  | .inr x, v => Value.isStrOf x v
def keyH (w : World) : Key -> Int
  | .inl k => hashInt k
  | .inr x => hashStr w x
theorem keyIs_shape : ∀ {k : Key} {v : Value}, keyIs k v = true -> (∃ i t, k = Sum.inl i /\ v = Value.int i t) ∨ (∃ x t, k = Sum.inr x /\ v = Value.str x t)
  | .inl i, v, h => by
    obtain ⟨t, e⟩ := Value.isInt_shape (k := i) (v := v) h
    exact .inl ⟨i, t, rfl, e⟩
  | .inr x, v, h => by
    obtain ⟨t, e⟩ := Value.isStrOf_shape (x := x) (v := v) h
    exact .inr ⟨x, t, rfl, e⟩
theorem keyIs_int (i : Int) (t : Tok) : keyIs (.inl i) (.int i t) = true := by simp [keyIs, Value.isInt]
theorem keyIs_str (x : Str) (t : Tok) : keyIs (.inr x) (.str x t) = true := by simp [keyIs, Value.isStrOf]
theorem key_ll (a b : Int) : decide ((Sum.inl a : Key) = Sum.inl b) = (a == b) := by
  by_cases e : a = b
  · subst e; simp
  · have h : ¬ (Sum.inl a : Key) = Sum.inl b := fun q => e (Sum.inl.inj q)
    rw [decide_eq_false h]
    exact (beq_eq_false_iff_ne.mpr e).symm
theorem key_rr (a b : Str) : decide ((Sum.inr a : Key) = Sum.inr b) = decide (a = b) := by
  by_cases e : a = b
  · subst e; simp
  · have h : ¬ (Sum.inr a : Key) = Sum.inr b := fun q => e (Sum.inr.inj q)
    rw [decide_eq_false h, decide_eq_false e]
theorem key_lr (a : Int) (b : Str) : decide ((Sum.inl a : Key) = Sum.inr b) = false := decide_eq_false (fun q => nomatch q)
theorem key_rl (a : Str) (b : Int) : decide ((Sum.inr a : Key) = Sum.inl b) = false := decide_eq_false (fun q => nomatch q)
def mixKind (prog : Program) (w : World) : PySem.KeyKind prog w Key where
  is := keyIs
  hash := keyH w
  inj := fun v a b ha hb => by
    rcases keyIs_shape ha with ⟨i, t, rfl, rfl⟩ | ⟨x, t, rfl, rfl⟩
    · rcases keyIs_shape hb with ⟨j, u, rfl, e⟩ | ⟨y, u, rfl, e⟩
      · injection e with e1 _; rw [e1]
      · exact nomatch e
    · rcases keyIs_shape hb with ⟨j, u, rfl, e⟩ | ⟨y, u, rfl, e⟩
      · exact nomatch e
      · injection e with e1 _; rw [e1]
  byValue := fun k v h => by
    rcases keyIs_shape h with ⟨i, t, rfl, rfl⟩ | ⟨x, t, rfl, rfl⟩ <;> rfl
  pyHash := fun hv h => by
    rcases keyIs_shape hv with ⟨i, t, rfl, rfl⟩ | ⟨x, t, rfl, rfl⟩
    · exact wpAny_pyHash_int h
    · exact wpAny_pyHash_str h
  eqBool := fun hu hv h => by
    rcases keyIs_shape hu with ⟨i, t, rfl, rfl⟩ | ⟨x, t, rfl, rfl⟩
    · rcases keyIs_shape hv with ⟨j, u, rfl, rfl⟩ | ⟨y, u, rfl, rfl⟩
      · rw [key_ll] at h; exact wpAny_eqBool_int h
      · rw [key_lr] at h; exact SeqAt.EqAt.int_str i t y u _ _ _ _ h
    · rcases keyIs_shape hv with ⟨j, u, rfl, rfl⟩ | ⟨y, u, rfl, rfl⟩
      · rw [key_rl] at h; exact SeqAt.EqAt.str_int x t j u _ _ _ _ h
      · rw [key_rr] at h; exact wpAny_eqBool_str h
  «strs» := fun k x t v h => by
    rcases keyIs_shape h with ⟨i, u, rfl, e⟩ | ⟨y, u, rfl, e⟩
    · exact nomatch e
    · injection e with e1 _
      subst e1
      cases v <;> rfl
theorem mixKind_int (prog : Program) (w : World) (i : Int) (t : Tok) : (mixKind prog w).is (.inl i) (.int i t) = true := keyIs_int i t
theorem mixKind_str (prog : Program) (w : World) (x : Str) (t : Tok) : (mixKind prog w).is (.inr x) (.str x t) = true := keyIs_str x t
end L2
namespace L2
open PySem PySem.Spec PyProof.Rows
inductive V where
  | non | bl (b : Bool) | int (i : Int) | str (x : Str) | byt (b : Array UInt8) | flt (b : UInt64) | ref (a : Addr) | ty (n : String)
  deriving DecidableEq
def RelV : V -> Value -> Prop
  | .non, u => u = Value.none
  | .bl b, u => u = Value.bool b
  | .int i, u => ∃ t, u = Value.int i t
  | .str x, u => ∃ t, u = Value.str x t
  | .byt b, u => ∃ t, u = Value.bytes b t
  | .flt b, u => ∃ t, u = Value.float b t
  | .ref a, u => u = Value.ref a
  | .ty n, u => u = Value.type n
abbrev Vals : List V -> List Value -> Prop := Paired RelV
theorem Vals.length {xs : List V} {us : List Value} (r : Vals xs us) : xs.length = us.length := Paired.length r
theorem Vals.get : ∀ {xs : List V} {us : List Value} {i : Nat} {x : V}, Vals xs us -> xs[i]? = some x -> ∃ u, us[i]? = some u /\ RelV x u
  | _, _, _, _, .nil, e => by simp at e
  | _, _, 0, _, .cons r _, e => by simp at e; subst e; exact ⟨_, rfl, r⟩
  | _, _, i + 1, x, .cons _ t, e => by
    obtain ⟨u, h1, h2⟩ := Vals.get (i := i) (x := x) t (by simpa using e)
    exact ⟨u, by simpa using h1, h2⟩
theorem Vals.set {x : V} {u : Value} (r : RelV x u) : ∀ {xs : List V} {us : List Value} (i : Nat), Vals xs us -> Vals (xs.set i x) (us.set i u)
  | _, _, _, .nil => .nil
  | _, _, 0, .cons _ t => .cons r t
  | _, _, i + 1, .cons q t => .cons q (Vals.set r i t)
theorem Vals.append : ∀ {xs ys : List V} {us ws : List Value}, Vals xs us -> Vals ys ws -> Vals (xs ++ ys) (us ++ ws)
  | _, _, _, _, .nil, s => s
  | _, _, _, _, .cons r t, s => .cons r (Vals.append t s)
theorem Vals.take : ∀ {xs : List V} {us : List Value} (n : Nat), Vals xs us -> Vals (xs.take n) (us.take n)
  | _, _, 0, _ => .nil
  | _, _, _ + 1, .nil => .nil
  | _, _, n + 1, .cons r t => .cons r (Vals.take n t)
theorem Vals.drop : ∀ {xs : List V} {us : List Value} (n : Nat), Vals xs us -> Vals (xs.drop n) (us.drop n)
  | _, _, 0, r => r
  | _, _, _ + 1, .nil => .nil
  | _, _, n + 1, .cons _ t => Vals.drop n t
theorem Vals.none_of : ∀ {xs : List V} {us : List Value} {i : Nat}, Vals xs us -> xs[i]? = none -> us[i]? = none := fun {xs us i} r e => by
  have h1 := r.length
  have h2 : xs.length <= i := List.getElem?_eq_none_iff.mp e
  exact List.getElem?_eq_none_iff.mpr (by omega)
def RelO : Option V -> Option Value -> Prop
  | some v, some u => RelV v u
  | none, none => True
  | _, _ => False
def KV {κ : Type} : List (κ × V) -> List (κ × Value) -> Prop := Paired fun (p : κ × V) (q : κ × Value) => p.1 = q.1 /\ RelV p.2 q.2
def kV : Key -> V
  | .inl i => .int i
  | .inr x => .str x
inductive HO where
  | lst (xs : List V)
  | tup (xs : List V)
  | dK (kvs : List (Key × V)) | dT (kvs : List (List Key × V))
  | set (S : Int -> Bool) (n : Nat)
  | ins (C dx : Addr) (fs : List (Str × V))
  | own (x : Addr)
  | xd (fs : List (Str × V))
  | met (f x : Addr)
  | rng (lo hi : Int)
  | frz (o : Obj) (u : HO)
  | tbl (ps : Array Value)
  | ext (φ : Heap -> Prop)
abbrev Hp := Addr -> Option HO
def upd (H : Hp) (a : Addr) (o : HO) : Hp := fun b => if b = a then some o else H b
theorem upd_same {H : Hp} {a : Addr} {o : HO} : upd H a o a = some o := by unfold upd; rw [if_pos rfl]
theorem upd_ne {H : Hp} {a b : Addr} {o : HO} (h : b ≠ a) : upd H a o b = H b := by unfold upd; rw [if_neg h]
theorem ne_of {H : Hp} {a b : Addr} {o u : HO} (h : H a = some o) (h' : H b = some u) (d : o ≠ u) : a ≠ b := by
  intro e; subst e; rw [h] at h'; exact d (Option.some.inj h')
theorem ne_of_none {H : Hp} {a b : Addr} {o : HO} (h : H a = some o) (h' : H b = none) : a ≠ b := by
  intro e; subst e; rw [h] at h'; cases h'
section
variable (P : Program) (w : World)
def ObjOk (H : Hp) (h : Heap) (a : Addr) : HO -> Prop
  | .lst xs => xs.length <= sizeLine /\ ∃ (its : List Value) (n : Nat), Vals xs its /\ h.get? a = some { cls := .type "list", data := .seq its.toArray n }
  | .tup xs => xs.length <= sizeLine /\ ∃ its : List Value, Vals xs its /\ IsTup h a its.toArray
  | .dK kvs => kvs.length <= sizeLine /\ (a == sysModules) = false /\ ∃ vs, KV kvs vs /\ h.DictOf (mixKind P w) a vs
  | .dT kvs => kvs.length <= sizeLine /\ (a == sysModules) = false /\ ∃ xs : List (List Key × Addr × Value),
      Paired (fun (p : List Key × V) (q : List Key × Addr × Value) => p.1 = q.1 /\ H q.2.1 = some (.tup (p.1.map kV)) /\ RelV p.2 q.2.2) kvs xs ∧
      ∃ o es ep, h.get? a = some o /\ o.ExactDict /\ o.data = .dict es ep /\ es.toList = xs.map (entryOfKey (tupleKind (mixKind P w))) /\ (xs.map (·.1)).Nodup
  | .set S n => h.SetOf (intKind P w) a S n
  | .ins C dx fs => H dx = some (.own a) /\ fs.length <= 1000 /\ dx ≠ a /\ h.get? a = some (PySem.W.instObj C dx) ∧
      ∃ mA, h.Ns1 dx mA /\ (∀ f, RelO (fs.lookup f) (mA f)) /\ PySem.Within mA (fs.map (·.1))
  | .own _ => ∃ o, h.get? a = some o
  | .xd fs => ∃ mA, h.Ns1 a mA /\ ∀ f, RelO (fs.lookup f) (mA f)
  | .rng lo hi => ∃ t u v, h.get? a = some { cls := .type "range", data := .fields #[.int lo t, .int hi u, .int 1 v] }
  | .frz o u => h.get? a = some o /\ ObjOk H h a u
  | .tbl ps => h.get? a = some { cls := .none, data := .fields ps }
  | .met f x => h.get? a = some (PySem.W.methodObj (.ref f) (.ref x))
  | .ext φ => φ h /\ (∃ o, h.get? a = some o) /\ ∀ h1 h2 : Heap, φ h1 -> (∀ o, h1.get? a = some o -> h2.get? a = some o) -> φ h2
def HOk (H : Hp) (h : Heap) : Prop := ∀ a o, H a = some o -> ObjOk P w H h a o
end
section
variable {P : Program} {w : World} {H H' : Hp} {h h' : Heap} {a : Addr} {o : HO}
theorem ObjOk.lt (x : ObjOk P w H h a o) : a < h.objs.size := by
  cases o with
  | lst xs => obtain ⟨_, _, _, _, e⟩ := x; exact Heap.lt_size e
  | tup xs => obtain ⟨_, _, _, p⟩ := x; exact p.lt
  | dK kvs => obtain ⟨_, _, _, _, o, _, _, e, _⟩ := x; exact Heap.lt_size e
  | dT kvs => obtain ⟨_, _, _, _, o, _, _, e, _⟩ := x; exact Heap.lt_size e
  | set S n => obtain ⟨o, _, _, _, e, _⟩ := x; exact Heap.lt_size e
  | ins C dx fs => obtain ⟨_, _, _, e, _⟩ := x; exact Heap.lt_size e
  | own y => obtain ⟨_, e⟩ := x; exact Heap.lt_size e
  | xd fs => obtain ⟨_, ⟨_, _, _, e, _⟩, _⟩ := x; exact Heap.lt_size e
  | rng lo hi => obtain ⟨_, _, _, e⟩ := x; exact Heap.lt_size e
  | frz ob u => obtain ⟨e, _⟩ := x; exact Heap.lt_size e
  | tbl ps => exact Heap.lt_size (show h.get? a = some _ from x)
  | met f y => exact Heap.lt_size (show h.get? a = some _ from x)
  | ext φ => obtain ⟨_, ⟨_, e⟩, _⟩ := x; exact Heap.lt_size e
theorem Paired.mapP {α β : Type} {F G : α -> β -> Prop} : ∀ {l₁ : List α} {l₂ : List β}, Paired F l₁ l₂ -> (∀ a b, F a b -> G a b) -> Paired G l₁ l₂
  | _, _, .nil, _ => .nil
  | _, _, .cons r t, f => .cons (f _ _ r) (Paired.mapP t f)
theorem ObjOk.stay (x : ObjOk P w H h a o) (k : ∀ b u, (b = a ∨ H b = some (.own a)) -> h.get? b = some u -> h'.get? b = some u)
    (ho : ∀ b, H b = some (.own a) -> H' b = some (.own a)) (ht : ∀ b xs, H b = some (.tup xs) -> H' b = some (.tup xs)) : ObjOk P w H' h' a o := by
  induction o with
  | lst xs => obtain ⟨z, its, n, r, e⟩ := x; exact ⟨z, its, n, r, k _ _ (.inl rfl) e⟩
  | tup xs => obtain ⟨z, its, r, ob, e, c⟩ := x; exact ⟨z, its, r, ob, k _ _ (.inl rfl) e, c⟩
  | dK kvs => obtain ⟨z, y, vs, r, ob, es, ep, e, c⟩ := x; exact ⟨z, y, vs, r, ob, es, ep, k _ _ (.inl rfl) e, c⟩
  | dT kvs =>
    obtain ⟨z, y, xs, r, ob, es, ep, e, c⟩ := x
    exact ⟨z, y, xs, Paired.mapP r fun p q z => ⟨z.1, ht _ _ z.2.1, z.2.2⟩, ob, es, ep, k _ _ (.inl rfl) e, c⟩
  | set S n => obtain ⟨ob, es, ep, t, e, c⟩ := x; exact ⟨ob, es, ep, t, k _ _ (.inl rfl) e, c⟩
  | ins C dx fs =>
    obtain ⟨d, z, ne, e, mA, ⟨od, es, ep, e2, c⟩, r⟩ := x
    exact ⟨ho _ d, z, ne, k _ _ (.inl rfl) e, mA, ⟨od, es, ep, k _ _ (.inr d) e2, c⟩, r⟩
  | own y => obtain ⟨ob, e⟩ := x; exact ⟨ob, k _ _ (.inl rfl) e⟩
  | xd fs => obtain ⟨mA, ⟨od, es, ep, e, c⟩, r⟩ := x; exact ⟨mA, ⟨od, es, ep, k _ _ (.inl rfl) e, c⟩, r⟩
  | rng lo hi => obtain ⟨t, u, v, e⟩ := x; exact ⟨t, u, v, k _ _ (.inl rfl) e⟩
  | frz ob u ih => obtain ⟨e, q⟩ := x; exact ⟨k _ _ (.inl rfl) e, ih q⟩
  | tbl ps =>
    have e : h.get? a = some { cls := .none, data := .fields ps } := x
    show h'.get? a = some { cls := .none, data := .fields ps }
    exact k a _ (.inl rfl) e
  | met f y =>
    have e : h.get? a = some (PySem.W.methodObj (.ref f) (.ref y)) := x
    show h'.get? a = some (PySem.W.methodObj (.ref f) (.ref y))
    exact k a _ (.inl rfl) e
  | ext φ => obtain ⟨p, ⟨o, e⟩, st⟩ := x; exact ⟨st _ _ p fun o q => k _ _ (.inl rfl) q, ⟨o, k _ _ (.inl rfl) e⟩, st⟩
theorem HOk.lt (x : HOk P w H h) (e : H a = some o) : a < h.objs.size := (x a o e).lt
theorem HOk.fresh (x : HOk P w H h) (e : h.objs.size <= a) : H a = none := by
  cases q : H a with
  | none => rfl
  | some u => exact absurd (Nat.lt_of_lt_of_le (x.lt q) e) (Nat.lt_irrefl _)
theorem HOk.kept (x : HOk P w H h) (k : ∀ b u, h.get? b = some u -> h'.get? b = some u) : HOk P w H h' := fun a o e =>
  (x a o e).stay (fun b u _ q => k b u q) (fun _ q => q) fun _ _ q => q
theorem HOk.laid (x : HOk P w H h) (k : ∀ b u, h.get? b = some u -> h'.get? b = some u) (hp : h.objs.size <= a) (new : ObjOk P w (upd H a o) h' a o) : HOk P w (upd H a o) h' := fun b u e => by
  have hn := x.fresh hp
  by_cases hb : b = a
  · subst hb; rw [upd_same] at e; cases e; exact new
  · rw [upd_ne hb] at e
    exact (x b u e).stay (fun c v _ q => k c v q) (fun c q => by rw [upd_ne (ne_of_none q hn)]; exact q) fun c xs q => by rw [upd_ne (ne_of_none q hn)]; exact q
end
def Rd (H : Hp) (a : Addr) (u : HO) : Prop := H a = some u ∨ ∃ o, H a = some (.frz o u)
theorem Rd.of {H : Hp} {a : Addr} {u : HO} (h : H a = some u) : Rd H a u := .inl h
theorem Rd.ok {P : Program} {w : World} {H : Hp} {h : Heap} {a : Addr} {u : HO} (r : Rd H a u) (x : HOk P w H h) : ObjOk P w H h a u := by
  rcases r with r | ⟨o, r⟩
  · exact x a u r
  · obtain ⟨_, q⟩ := x a _ r
    exact q
def Mut : Option HO -> Prop
  | some (.lst _) => True
  | some (.dK _) => True
  | some (.dT _) => True
  | some (.set _ _) => True
  | some (.ins _ _ _) => True
  | some (.ext _) => True
  | _ => False
section
variable {P : Program} {w : World} {H : Hp} {h h' : Heap} {x e : Addr} {o' : HO}
theorem HOk.write (ok : HOk P w H h) (mu : Mut (H x)) (he : e = x ∨ H e = some (.own x)) (k : ∀ b u, b ≠ e -> h.get? b = some u -> h'.get? b = some u) (heo : ∃ u, h'.get? e = some u)
    (new : ObjOk P w (upd H x o') h' x o') : HOk P w (upd H x o') h' := fun b u q => by
  have nown : ∀ c y, H c = some (.own y) -> c ≠ x := fun c y r z => by subst z; rw [r] at mu; exact mu
  have ntup : ∀ c xs, H c = some (.tup xs) -> c ≠ x := fun c xs r z => by subst z; rw [r] at mu; exact mu
  by_cases hb : b = x
  · subst hb; rw [upd_same] at q; cases q; exact new
  · rw [upd_ne hb] at q
    by_cases hbe : b = e
    · have q' : H b = some (.own x) := by
        rcases he with z | z
        · exact absurd (hbe.trans z) hb
        · rw [hbe]; exact z
      rw [q] at q'; cases q'
      obtain ⟨v, hv⟩ := heo
      exact ⟨v, by rw [hbe]; exact hv⟩
    · refine (ok b u q).stay (fun c v hc r => k c v ?_ r) (fun c r => by rw [upd_ne (nown c b r)]; exact r) fun c xs r => by rw [upd_ne (ntup c xs r)]; exact r
      rcases hc with rfl | hc
      · exact hbe
      · rintro rfl
        rcases he with z | z
        · exact nown c b hc z
        · rw [hc] at z; cases z; exact hb rfl
end
structure Un (fs ex : List Addr) (H H' : Hp) (h h' : Heap) : Prop where
  keep : ∀ b o, h.get? b = some o -> H b = none -> b ∉ fs -> b ∉ ex -> h'.get? b = some o
  slot : ∀ b o, h.get? b = some o -> H b = none -> b ∈ fs -> b ∉ ex -> ∃ sl, h'.get? b = some { o with slots := sl }
  free : ∀ b o, h.get? b = some o -> H b = none -> b ∉ ex -> H' b = none
  there : ∀ b o, h.get? b = some o -> b ∉ ex -> ∃ o', h'.get? b = some o'
  tups : ∀ b xs, H b = some (.tup xs) -> H' b = some (.tup xs)
  frzs : ∀ b o u, H b = some (.frz o u) -> H' b = some (.frz o u)
  tbls : ∀ b ps, H b = some (.tbl ps) -> ∃ more, H' b = some (.tbl (ps ++ more))
section
variable {fs fs' ex ex' : List Addr} {H H1 H2 : Hp} {h h1 h2 h' : Heap} {a x e : Addr} {o : HO}
theorem Un.any (u : Un fs ex H H1 h h1) {b : Addr} {ob : Obj} (q : h.get? b = some ob) (n : H b = none) (hx : b ∉ ex) : ∃ sl, h1.get? b = some { ob with slots := sl } := by
  by_cases hb : b ∈ fs
  · exact u.slot b ob q n hb hx
  · exact ⟨ob.slots, u.keep b ob q n hb hx⟩
theorem Un.trans (a : Un fs ex H H1 h h1) (b : Un fs ex H1 H2 h1 h2) : Un fs ex H H2 h h2 where
  keep := fun c ob q n hc hx => b.keep c ob (a.keep c ob q n hc hx) (a.free c ob q n hx) hc hx
  slot := fun c ob q n hc hx => by
    obtain ⟨sl, e1⟩ := a.slot c ob q n hc hx
    obtain ⟨sl', e2⟩ := b.slot c _ e1 (a.free c ob q n hx) hc hx
    exact ⟨sl', e2⟩
  free := fun c ob q n hx => by
    obtain ⟨o', e1⟩ := a.there c ob q hx
    exact b.free c o' e1 (a.free c ob q n hx) hx
  there := fun c ob q hx => by
    obtain ⟨o', e1⟩ := a.there c ob q hx
    exact b.there c o' e1 hx
  tups := fun c xs q => b.tups c xs (a.tups c xs q)
  frzs := fun c ob xs q => b.frzs c ob xs (a.frzs c ob xs q)
  tbls := fun c ps q => by
    obtain ⟨m1, e1⟩ := a.tbls c ps q
    obtain ⟨m2, e2⟩ := b.tbls c _ e1
    exact ⟨m1 ++ m2, by rw [e2, Array.append_assoc]⟩
theorem Un.kept (k : ∀ b u, h.get? b = some u -> h'.get? b = some u) : Un fs ex H H h h' :=
  ⟨fun b ob q _ _ _ => k b ob q, fun b ob q _ _ _ => ⟨ob.slots, k b ob q⟩, fun _ _ _ n _ => n, fun b ob q _ => ⟨ob, k b ob q⟩, fun _ _ q => q, fun _ _ _ q => q, fun _ ps q => ⟨#[], by rw [q]; simp⟩⟩
theorem Un.refl : Un fs ex H H h h := Un.kept fun _ _ q => q
theorem Un.laid (k : ∀ b u, h.get? b = some u -> h'.get? b = some u) (hp : h.objs.size <= a) (hn : H a = none) : Un fs ex H (upd H a o) h h' where
  keep := fun b u q _ _ _ => k b u q
  slot := fun b u q _ _ _ => ⟨u.slots, k b u q⟩
  free := fun b u q n _ => by rw [upd_ne (Nat.ne_of_lt (Nat.lt_of_lt_of_le (Heap.lt_size q) hp))]; exact n
  there := fun b u q _ => ⟨u, k b u q⟩
  tups := fun b xs q => by rw [upd_ne (ne_of_none q hn)]; exact q
  frzs := fun b u xs q => by rw [upd_ne (ne_of_none q hn)]; exact q
  tbls := fun b ps q => ⟨#[], by rw [upd_ne (ne_of_none q hn), q]; simp⟩
theorem Un.write (mu : Mut (H x)) (he : e = x ∨ H e = some (.own x)) (k : ∀ b u, b ≠ e -> h.get? b = some u -> h'.get? b = some u) (heo : ∃ u, h'.get? e = some u) : Un fs ex H (upd H x o) h h' := by
  have hx : ∀ b, H b = none -> b ≠ x := fun b n z => by subst z; rw [n] at mu; exact mu
  have hb : ∀ b, H b = none -> b ≠ e := fun b n z => by
    subst z
    rcases he with r | r
    · exact hx b n r
    · rw [n] at r; cases r
  have hm : ∀ b u, H b = some u -> ¬ Mut (some u) -> b ≠ x := fun b u q nm z => by subst z; rw [q] at mu; exact nm mu
  refine ⟨fun b u q n _ _ => k b u (hb b n) q, fun b u q n _ _ => ⟨u.slots, k b u (hb b n) q⟩, fun b u q n _ => by rw [upd_ne (hx b n)]; exact n, fun b u q _ => ?_,
    fun b xs q => by rw [upd_ne (hm b _ q fun z => z)]; exact q, fun b u xs q => by rw [upd_ne (hm b _ q fun z => z)]; exact q, fun b ps q => ⟨#[], by rw [upd_ne (hm b _ q fun z => z), q]; simp⟩⟩
  by_cases hbe : b = e
  · subst hbe; exact heo
  · exact ⟨u, k b u hbe q⟩
theorem Un.mono (u : Un fs ex H H1 h h1) (hs : ∀ b ∈ fs, b ∈ fs') (hx : ∀ b ∈ ex, b ∈ ex') : Un fs' ex' H H1 h h1 :=
  ⟨fun b ob q n hb he => u.keep b ob q n (fun z => hb (hs b z)) fun z => he (hx b z), fun _ _ q n _ he => u.any q n fun z => he (hx _ z), fun b ob q n he => u.free b ob q n fun z => he (hx b z), fun b ob q he => u.there b ob q fun z => he (hx b z), u.tups, u.frzs, u.tbls⟩
end
def trk (h : Heap) (H : Hp) : List Addr := (List.range h.objs.size).filter fun a => (H a).isSome
def hidT (h : Heap) (H : Hp) : Heap := PySem.W.hideAll h (trk h H)
theorem hidT_size (h : Heap) (H : Hp) : (hidT h H).objs.size = h.objs.size := PySem.W.hideAll_size _ _
theorem hidT_get {h : Heap} {H : Hp} {b : Addr} {o : Obj} (e : h.get? b = some o) (n : H b = none) : (hidT h H).get? b = some o :=
  PySem.W.hideAll_get _ e fun hm => by
    have q : (H b).isSome = true := (List.mem_filter.mp hm).2
    rw [n] at q; simp at q
theorem of_hidT {h : Heap} {H : Hp} {b : Addr} {o : Obj} (e : (hidT h H).get? b = some o) : h.get? b = some o /\ H b = none := by
  have e' : h.get? b = some o := PySem.W.of_hideAll (trk h H) e
  refine ⟨e', ?_⟩
  cases q : H b with
  | none => rfl
  | some x =>
    have hm : b ∈ trk h H := List.mem_filter.mpr ⟨List.mem_range.mpr (Heap.lt_size e'), by simp [q]⟩
    have z : (hidT h H).get? b = none := PySem.W.hideAll_none (trk h H) hm
    rw [z] at e; cases e
def allNews (g h : Heap) (L : Addr) : List (Addr × Obj) := (List.range h.objs.size).filterMap fun a => if a = L ∨ (g.get? a).isSome = true then none else (h.get? a).map fun o => (a, o)
def rest (g h : Heap) (L d : Addr) : List (Addr × Obj) := (allNews g h L).filter fun p => decide (p.1 ≠ d)
end L2
namespace L2
open PySem PySem.Spec PyProof.Rows
structure Mod (K : PySem.W.Frag) (mg : Str -> Option Value) (base : Heap) : Prop where
  kin : K.In base
  glob : base.Ns mainGlobals mg
  blt : ∃ mb, base.Ns builtinsNs mb /\ ∀ x : Str, x ≠ "__name__" -> mb x = bootBuiltins x
  nolimit : base.NoLimit
structure Cx where
  prog : Program
  w : World
  K : PySem.W.Frag
  mg : Str -> Option Value
  base : Heap
  A : Around
  N : List Str
  s₀ : Shared
  H₀ : Hp
  env : Env
  outer : List Env
  stack : List Env
  ex : List Addr
  fn : Str -> Bool
  calm : Bool
  pn : List (Addr × Obj)
  xe : Value -> Shared -> Prop
def frs (l : List Env) : List Addr := l.filterMap (·.frame)
abbrev Cx.fs (X : Cx) : List Addr := frs X.outer
def Vis (sc : Scope) (x : Str) : Prop := sc.names.lookup x = some .local ∨ sc.names.lookup x = some .cell ∨ sc.names.lookup x = some .free
def Loc (sc : Scope) (x : Str) : Prop := sc.names.lookup x = some .local ∨ sc.names.lookup x = some .cell
def Look (env : Env) (h : Heap) (m : Str -> Option Value) (x : Str) (u : Value) : Prop :=
  (env.kindOf x = some .local /\ m x = some u) ∨ ((env.kindOf x = some .cell ∨ env.kindOf x = some .free) /\ ∃ c, env.cells.lookup x = some c /\ h.IsCell c (some u))
structure Cx.Ok (X : Cx) : Prop where
  mod : Mod X.K X.mg X.base
  kind : X.env.scope.kind = .function
  glob : X.env.globals = mainGlobals
  blt : X.env.builtins = builtinsNs
  above : X.s₀.heap.objs.size <= X.env.locals
  inj : ∀ x y c, X.env.cells.lookup x = some c -> X.env.cells.lookup y = some c -> x = y
  has : ∀ x, (X.env.kindOf x = some .cell ∨ X.env.kindOf x = some .free) -> ∃ c, X.env.cells.lookup x = some c
  cab : ∀ x c, X.fn x = true -> X.env.cells.lookup x = some c -> X.s₀.heap.objs.size <= c
  hd : X.calm = true -> X.A.handled = none
  frames : X.A.frames = some X.stack
  stk : X.stack = X.outer ∨ (X.stack = X.env :: X.outer /\ X.env.frame = some X.env.locals)
  exf : ∀ b ∈ X.ex, b ≠ X.env.locals /\ ∀ x c, X.env.cells.lookup x = some c -> c ≠ b
  bs : ∀ b o, X.base.get? b = some o -> X.s₀.heap.get? b = some o /\ X.H₀ b = none
  bsz : X.base.objs.size <= X.s₀.heap.objs.size
  noex : ∀ b o, X.base.get? b = some o -> b ∉ X.ex
  exfs : ∀ b ∈ X.ex, b ∉ X.fs
  funs : X.s₀.heap.FunFrames X.base X.outer
  frf : ∀ b ∈ X.fs, X.H₀ b = none
structure Inv (X : Cx) (pins : List (Addr × Obj)) (σ : List (Option V)) (H : Hp) (s : Shared) : Prop where
  ok : X.Ok
  os : s.os = X.s₀.os
  bare : AllBare s.gens
  base : Un X.fs X.ex X.H₀ H X.s₀.heap s.heap
  loc : ∃ m, s.heap.Ns X.env.locals m /\ ∀ (i : Nat) (x : Str) (v : V), X.N[i]? = some x -> σ[i]? = some (some v) -> Vis X.env.scope x -> ∃ u, RelV v u /\ Look X.env s.heap m x u
  cell : ∀ x c, X.env.cells.lookup x = some c -> ∃ v, s.heap.IsCell c v
  free : H X.env.locals = none
  freeC : ∀ x c, X.env.cells.lookup x = some c -> H c = none
  pin : ∀ p ∈ X.pn ++ pins, s.heap.get? p.1 = some p.2 /\ H p.1 = none /\ p.1 ≠ X.env.locals /\ p.1 ∉ X.fs /\ ∀ v, p.2.data ≠ .cell v
  hok : HOk X.prog X.w H s.heap
  len : σ.length = X.N.length
section
variable {X : Cx} {pins : List (Addr × Obj)} {σ : List (Option V)} {H H' : Hp} {s : Shared} {h' : Heap}
theorem Cx.Ok.nofr (ok : X.Ok) {b : Addr} {o : Obj} (e : X.base.get? b = some o) : b ∉ X.fs := fun hb => by
  have := (ok.funs.mem hb).1
  rw [e] at this; cases this
theorem Inv.bs (I : Inv X pins σ H s) : ∀ b o, X.base.get? b = some o -> s.heap.get? b = some o /\ H b = none := fun b o e =>
  ⟨I.base.keep b o (I.ok.bs b o e).1 (I.ok.bs b o e).2 (I.ok.nofr e) (I.ok.noex b o e), I.base.free b o (I.ok.bs b o e).1 (I.ok.bs b o e).2 (I.ok.noex b o e)⟩
theorem Inv.bk (I : Inv X pins σ H s) : ∀ b o, X.base.get? b = some o -> s.heap.get? b = some o := fun b o e => (I.bs b o e).1
theorem Inv.mod (I : Inv X pins σ H s) : Mod X.K X.mg X.base := I.ok.mod
theorem Inv.kIn (I : Inv X pins σ H s) : X.K.In s.heap := I.ok.mod.kin.keeps I.bk
theorem Inv.nolimit (I : Inv X pins σ H s) : s.heap.NoLimit := I.ok.mod.nolimit.keeps I.bk
theorem Inv.fr (I : Inv X pins σ H s) : ∃ m, Fr X.base X.env.locals s.heap m :=
  let ⟨m, hn, _⟩ := I.loc
  ⟨m, hn, I.bk, Nat.le_trans I.ok.bsz I.ok.above⟩
theorem Inv.lt (I : Inv X pins σ H s) : X.env.locals < s.heap.objs.size := let ⟨_, hn, _⟩ := I.loc; hn.lt
theorem Inv.sz (I : Inv X pins σ H s) : X.s₀.heap.objs.size <= s.heap.objs.size := Nat.le_trans I.ok.above (Nat.le_of_lt I.lt)
theorem Inv.nofs (I : Inv X pins σ H s) {a : Addr} (h : s.heap.objs.size <= a) : a ∉ X.fs := fun hb => by
  obtain ⟨_, o, ho, _⟩ := I.ok.funs.mem hb
  exact absurd (Nat.lt_of_lt_of_le (Heap.lt_size ho) (Nat.le_trans I.sz h)) (Nat.lt_irrefl _)
theorem Inv.cne (I : Inv X pins σ H s) : ∀ x c, X.env.cells.lookup x = some c -> c ≠ X.env.locals := fun x c e z => by
  obtain ⟨v, o, ho, hd⟩ := I.cell x c e
  obtain ⟨m, ⟨o', es, ep, ho', hd', _⟩, _⟩ := I.loc
  rw [z, ho'] at ho; cases ho; rw [hd'] at hd; cases hd
theorem Inv.funs (I : Inv X pins σ H s) : s.heap.FunFrames X.base X.outer := by
  have all : ∀ (l : List Env), (∀ b ∈ frs l, b ∈ X.fs) -> X.s₀.heap.FunFrames X.base l -> s.heap.FunFrames X.base l := by
    intro l
    induction l with
    | nil => intro _ _; trivial
    | cons env r ih =>
      intro hs hl
      obtain ⟨hk, ⟨L, o, hf, hn, ho, hd⟩, hr⟩ := hl
      have hL : L ∈ X.fs := hs L (by unfold frs; rw [List.filterMap_cons, hf]; exact List.mem_cons_self)
      obtain ⟨sl, e⟩ := I.base.slot L o ho (I.ok.frf L hL) hL fun z => I.ok.exfs L z hL
      exact ⟨hk, ⟨L, _, hf, hn, e, hd⟩, ih (fun b hb => hs b (by unfold frs; rw [List.filterMap_cons, hf]; exact List.mem_cons_of_mem _ hb)) hr⟩
  exact all X.outer (fun _ hb => hb) I.ok.funs
theorem Inv.stack (I : Inv X pins σ H s) : s.heap.FunFrames X.base X.stack := by
  rcases I.ok.stk with e | ⟨e, hf⟩
  · rw [e]; exact I.funs
  · rw [e]
    obtain ⟨m, hn, _⟩ := I.loc
    refine .cons (by rw [I.ok.kind]; decide) hf hn ?_ I.funs
    exact Heap.get?_none_of_le (Nat.le_trans I.ok.bsz I.ok.above)
theorem Inv.stkSub (I : Inv X pins σ H s) : ∀ b ∈ frs X.stack, b ∈ X.env.locals :: X.fs := fun b hb => by
  rcases I.ok.stk with e | ⟨e, hf⟩
  · rw [e] at hb; exact List.mem_cons_of_mem _ hb
  · rw [e] at hb
    unfold frs at hb
    rw [List.filterMap_cons, hf] at hb
    exact hb
theorem Inv.stkFree (I : Inv X pins σ H s) : ∀ b ∈ frs X.stack, H b = none := fun b hb => by
  rcases List.mem_cons.mp (I.stkSub b hb) with e | hb
  · rw [e]; exact I.free
  · obtain ⟨_, o, ho, _⟩ := I.ok.funs.mem hb
    exact I.base.free b o ho (I.ok.frf b hb) fun z => I.ok.exfs b z hb
theorem Inv.step {g' : Array GenState} {t' : Nat} {d' : Drawn} {ch : List Addr} (I : Inv X pins σ H s)
    (hch : ∀ b ∈ ch, (b ∈ X.ex ∨ X.s₀.heap.objs.size <= b) /\ b ≠ X.env.locals /\ (∀ x c, X.env.cells.lookup x = some c -> c ≠ b) /\ ∀ p ∈ X.pn ++ pins, p.1 ≠ b)
    (keep : ∀ b o, b ≠ X.env.locals -> b ∉ X.fs -> b ∉ ch -> s.heap.get? b = some o -> H b = none -> h'.get? b = some o)
    (slot : ∀ b o, b ≠ X.env.locals -> b ∈ X.fs -> b ∉ ch -> s.heap.get? b = some o -> H b = none -> ∃ sl, h'.get? b = some { o with slots := sl }) (free : ∀ b o, b ∉ ch -> s.heap.get? b = some o -> H b = none -> H' b = none)
    (there : ∀ b o, b ∉ ch -> s.heap.get? b = some o -> ∃ o', h'.get? b = some o')
    (tups : ∀ b xs, H b = some (.tup xs) -> H' b = some (.tup xs)) (frzs : ∀ b o u, H b = some (.frz o u) -> H' b = some (.frz o u)) (tbls : ∀ b ps, H b = some (.tbl ps) -> ∃ more, H' b = some (.tbl (ps ++ more)))
    (ns : ∀ m, s.heap.Ns X.env.locals m -> h'.Ns X.env.locals m) (hok : HOk X.prog X.w H' h') (hg : AllBare g') :
    Inv X pins σ H' { s with heap := h', gens := g', drawn := d', toks := t' } := by
  have neL : ∀ b o, X.s₀.heap.get? b = some o -> b ≠ X.env.locals := fun b o e => Nat.ne_of_lt (Nat.lt_of_lt_of_le (Heap.lt_size e) I.ok.above)
  have neC : ∀ b o, X.s₀.heap.get? b = some o -> b ∉ X.ex -> b ∉ ch := fun b o e hx hb => by
    rcases (hch b hb).1 with z | z
    · exact hx z
    · exact absurd (Nat.lt_of_lt_of_le (Heap.lt_size e) z) (Nat.lt_irrefl _)
  have cellK : ∀ x c, X.env.cells.lookup x = some c -> ∀ v, s.heap.IsCell c v -> h'.IsCell c v := fun x c e v ⟨o, ho, hd⟩ => by
    have nch : c ∉ ch := fun z => (hch c z).2.2.1 x c e rfl
    by_cases hc : c ∈ X.fs
    · obtain ⟨sl, q⟩ := slot c o (I.cne x c e) hc nch ho (I.freeC x c e)
      exact ⟨_, q, hd⟩
    · exact ⟨o, keep c o (I.cne x c e) hc nch ho (I.freeC x c e), hd⟩
  refine ⟨I.ok, I.os, hg, ⟨fun b o e n hb hx => ?_, fun b o e n hb hx => ?_, fun b o e n hx => ?_, fun b o e hx => ?_, fun b xs e => tups b xs (I.base.tups b xs e), fun b o xs e => frzs b o xs (I.base.frzs b o xs e), fun b ps e => ?_⟩, ?_, fun x c e => ?_, ?_, fun x c e => ?_, fun p hp => ?_, hok, I.len⟩
  · exact keep b o (neL b o e) hb (neC b o e hx) (I.base.keep b o e n hb hx) (I.base.free b o e n hx)
  · obtain ⟨sl, e1⟩ := I.base.slot b o e n hb hx
    obtain ⟨sl', e2⟩ := slot b _ (neL b o e) hb (neC b o e hx) e1 (I.base.free b o e n hx)
    exact ⟨sl', e2⟩
  · obtain ⟨o', e1⟩ := I.base.there b o e hx
    exact free b o' (neC b o e hx) e1 (I.base.free b o e n hx)
  · obtain ⟨o', e1⟩ := I.base.there b o e hx
    exact there b o' (neC b o e hx) e1
  · obtain ⟨m1, e1⟩ := I.base.tbls b ps e
    obtain ⟨m2, e2⟩ := tbls b _ e1
    exact ⟨m1 ++ m2, by rw [e2, Array.append_assoc]⟩
  · obtain ⟨m, hn, hl⟩ := I.loc
    refine ⟨m, ns m hn, fun i x v e1 e2 e3 => ?_⟩
    obtain ⟨u, r, l⟩ := hl i x v e1 e2 e3
    refine ⟨u, r, ?_⟩
    rcases l with l | ⟨k, c, e, z⟩
    · exact .inl l
    · exact .inr ⟨k, c, e, cellK x c e _ z⟩
  · obtain ⟨v, z⟩ := I.cell x c e
    exact ⟨v, cellK x c e v z⟩
  · obtain ⟨m, ⟨o, _, _, ho, _⟩, _⟩ := I.loc
    exact free _ o (fun z => (hch _ z).2.1 rfl) ho I.free
  · obtain ⟨v, o, ho, hd⟩ := I.cell x c e
    exact free c o (fun z => (hch c z).2.2.1 x c e rfl) ho (I.freeC x c e)
  · obtain ⟨e, n, ne, nf, d⟩ := I.pin p hp
    have nch : p.1 ∉ ch := fun z => (hch p.1 z).2.2.2 p hp rfl
    exact ⟨keep p.1 p.2 ne nf nch e n, free p.1 p.2 nch e n, ne, nf, d⟩
theorem Inv.un {t' : Nat} (I : Inv X pins σ H s) (u : Un X.fs [] H H' s.heap h') (hok : HOk X.prog X.w H' h') : Inv X pins σ H' { s with heap := h', toks := t' } := by
  obtain ⟨m, ⟨o, es, ep, ho, r⟩, _⟩ := id I.loc
  obtain ⟨sl, hL⟩ := u.any ho I.free (by simp)
  exact I.step (g' := s.gens) (d' := s.drawn) (ch := []) (fun _ z => nomatch z) (fun b o _ hb _ e n => u.keep b o e n hb (by simp)) (fun b o _ hb _ e n => u.slot b o e n hb (by simp)) (fun b o _ e n => u.free b o e n (by simp)) (fun b o _ e => u.there b o e (by simp)) u.tups u.frzs u.tbls (fun m' hm => by
    obtain ⟨o', es', ep', ho', r'⟩ := hm
    rw [ho] at ho'; cases ho'
    exact ⟨_, es', ep', hL, r'⟩) hok I.bare
theorem Inv.call {g' : Array GenState} {t' : Nat} {d' : Drawn} {ch : List Addr} (I : Inv X pins σ H s) (u : Un (frs X.stack) ch H H' s.heap h') (hok : HOk X.prog X.w H' h') (hg : AllBare g')
    (hch : ∀ b ∈ ch, (b ∈ X.ex ∨ X.s₀.heap.objs.size <= b) /\ b ≠ X.env.locals /\ (∀ x c, X.env.cells.lookup x = some c -> c ≠ b) /\ ∀ p ∈ X.pn ++ pins, p.1 ≠ b) :
    Inv X pins σ H' { s with heap := h', gens := g', drawn := d', toks := t' } := by
  obtain ⟨m, ⟨o, es, ep, ho, r⟩, _⟩ := id I.loc
  obtain ⟨sl, hL⟩ := u.any ho I.free fun z => (hch _ z).2.1 rfl
  exact I.step (ch := ch) hch (fun b o hL hb hc e n => u.keep b o e n (fun z => (List.mem_cons.mp (I.stkSub b z)).elim hL hb) hc) (fun b o _ _ hc e n => u.any e n hc) (fun b o hc e n => u.free b o e n hc) (fun b o hc e => u.there b o e hc) u.tups u.frzs u.tbls (fun m' hm => by
    obtain ⟨o', es', ep', ho', r'⟩ := hm
    rw [ho] at ho'; cases ho'
    exact ⟨_, es', ep', hL, r'⟩) hok hg
theorem Inv.turned {t' : Nat} {it : Addr} (I : Inv X pins σ H s) (k : ∀ b o, b ≠ it -> s.heap.get? b = some o -> h'.get? b = some o) (hn : H it = none) (hL : it ≠ X.env.locals)
    (h1 : it ∈ X.ex ∨ X.s₀.heap.objs.size <= it) (h2 : ∀ x c, X.env.cells.lookup x = some c -> c ≠ it) (h3 : ∀ p ∈ X.pn ++ pins, p.1 ≠ it) : Inv X pins σ H { s with heap := h', toks := t' } := by
  have nit : ∀ b u, H b = some u -> b ≠ it := fun b u e z => by rw [z, hn] at e; cases e
  refine I.step (g' := s.gens) (d' := s.drawn) (ch := [it]) (fun b hb => ?_) (fun b o _ _ hc e _ => k b o (fun z => hc (by simp [z])) e) (fun b o _ _ hc e _ => ⟨o.slots, k b o (fun z => hc (by simp [z])) e⟩) (fun _ _ _ _ n => n)
    (fun b o hc e => ⟨o, k b o (fun z => hc (by simp [z])) e⟩) (fun _ _ e => e) (fun _ _ _ e => e) (fun b ps e => ⟨#[], by rw [e]; simp⟩) (fun m hm => ?_) (fun b u e => ?_) I.bare
  · have e : b = it := by simpa using hb
    subst e
    exact ⟨h1, hL, h2, h3⟩
  · obtain ⟨o, es, ep, ho, r⟩ := hm
    exact ⟨o, es, ep, k _ o (Ne.symm hL) ho, r⟩
  · refine (I.hok b u e).stay (fun c v hc q => k c v ?_ q) (fun _ q => q) fun _ _ q => q
    rcases hc with z | z
    · rw [z]; exact nit b u e
    · exact nit c _ z
theorem Inv.tok (I : Inv X pins σ H s) (t : Nat) : Inv X pins σ H { s with toks := t } := I.un (h' := s.heap) (t' := t) Un.refl I.hok
theorem Inv.kept {t' : Nat} (I : Inv X pins σ H s) (k : ∀ b u, s.heap.get? b = some u -> h'.get? b = some u) : Inv X pins σ H { s with heap := h', toks := t' } := I.un (Un.kept k) (I.hok.kept k)
theorem Inv.laid {a : Addr} {o : HO} {t' : Nat} (I : Inv X pins σ H s) (k : ∀ b u, s.heap.get? b = some u -> h'.get? b = some u) (hp : s.heap.objs.size <= a) (new : ObjOk X.prog X.w (upd H a o) h' a o) :
    Inv X pins σ (upd H a o) { s with heap := h', toks := t' } := I.un (Un.laid k hp (I.hok.fresh hp)) (I.hok.laid k hp new)
theorem Inv.write {x e : Addr} {o : HO} {t' : Nat} (I : Inv X pins σ H s) (mu : Mut (H x)) (he : e = x ∨ H e = some (.own x)) (k : ∀ b u, b ≠ e -> s.heap.get? b = some u -> h'.get? b = some u) (heo : ∃ u, h'.get? e = some u)
    (new : ObjOk X.prog X.w (upd H x o) h' x o) : Inv X pins σ (upd H x o) { s with heap := h', toks := t' } := I.un (Un.write mu he k heo) (I.hok.write mu he k heo new)
theorem Inv.pins_of {pins' : List (Addr × Obj)} (I : Inv X pins σ H s) (h : ∀ p ∈ pins', s.heap.get? p.1 = some p.2 /\ H p.1 = none /\ p.1 ≠ X.env.locals /\ p.1 ∉ X.fs /\ ∀ v, p.2.data ≠ .cell v) : Inv X pins' σ H s :=
  ⟨I.ok, I.os, I.bare, I.base, I.loc, I.cell, I.free, I.freeC, fun p hp => (List.mem_append.mp hp).elim (fun z => I.pin p (List.mem_append_left _ z)) (h p), I.hok, I.len⟩
theorem nodup_ix {N : List Str} (hN : N.Nodup) {i j : Nat} {x : Str} (a : N[i]? = some x) (b : N[j]? = some x) : i = j := by
  obtain ⟨h1, e1⟩ := List.getElem?_eq_some_iff.mp a
  obtain ⟨h2, e2⟩ := List.getElem?_eq_some_iff.mp b
  exact (List.getElem_inj hN).mp (e1.trans e2.symm)
theorem store_ok2 {M : Model} {A : Around} {E : Value -> Shared -> Prop} {i : Nat} {x : Str} {v : V} {u : Value} {Q : Unit -> Shared -> Prop} (I : Inv X pins σ H s) (hN : X.N.Nodup) (hi : X.N[i]? = some x) (hx : Loc X.env.scope x) (r : RelV v u)
    (h : ∀ s', Inv X pins (σ.set i (some v)) H s' -> (∃ a, Heap.SameBut a s.heap s'.heap /\ (a = X.env.locals ∨ X.env.cells.lookup x = some a)) -> Q () s') (hf : X.fn x = true ∨ X.env.scope.names.lookup x = some .local := by first | exact .inl rfl | exact .inr rfl | assumption) : wpAny M A (storeName X.env x u) Q E s := by
  obtain ⟨m, hn, hl⟩ := id I.loc
  have hcls : (X.env.scope.kind == .class || (X.env.scope.kind == .module && X.env.locals != X.env.globals)) = false := by rw [I.ok.kind]; rfl
  have hiσ : i < σ.length := by rw [I.len]; exact (List.getElem?_eq_some_iff.mp hi).1
  have cne := I.cne
  have tracked : ∀ {a : Addr} {h' : Heap}, (∃ o, s.heap.get? a = some o /\ H a = none) -> Heap.SameBut a s.heap h' -> HOk X.prog X.w H h' := fun {a h'} ha hs b ob e => by
    obtain ⟨_, _, hfree⟩ := ha
    refine (I.hok b ob e).stay (fun c w' hc q => (hs.2 c ?_).trans q) (fun _ q => q) fun _ _ q => q
    rintro rfl
    rcases hc with rfl | hc
    · rw [hfree] at e; cases e
    · rw [hfree] at hc; cases hc
  rcases hx with hk | hk
  · refine wpAny_storeName_local hk hn (fun h' hn' hs => ?_) hcls
    obtain ⟨oL, _, _, hoL, _⟩ := id hn
    refine h _ ⟨I.ok, I.os, I.bare, ⟨fun b o e n hb hx => ?_, fun b o e n hb hx => ?_, I.base.free, fun b o e hx => ?_, I.base.tups, I.base.frzs, I.base.tbls⟩, ⟨_, hn', fun j y v' e1 e2 e3 => ?_⟩, fun y c e => ?_, I.free, I.freeC, fun p hp => ?_, tracked ⟨oL, hoL, I.free⟩ hs, by simpa using I.len⟩ ⟨_, hs, .inl rfl⟩
    · exact (hs.2 b (Nat.ne_of_lt (Nat.lt_of_lt_of_le (Heap.lt_size e) I.ok.above))).trans (I.base.keep b o e n hb hx)
    · obtain ⟨sl, e1⟩ := I.base.slot b o e n hb hx
      exact ⟨sl, (hs.2 b (Nat.ne_of_lt (Nat.lt_of_lt_of_le (Heap.lt_size e) I.ok.above))).trans e1⟩
    · obtain ⟨o', e1⟩ := I.base.there b o e hx
      exact ⟨o', (hs.2 b (Nat.ne_of_lt (Nat.lt_of_lt_of_le (Heap.lt_size e) I.ok.above))).trans e1⟩
    · by_cases hj : j = i
      · subst hj
        rw [hi] at e1; cases e1
        rw [List.getElem?_set_self hiσ] at e2
        cases e2
        exact ⟨u, r, .inl ⟨hk, by simp⟩⟩
      · rw [List.getElem?_set_ne (Ne.symm hj)] at e2
        obtain ⟨u', r', q⟩ := hl j y v' e1 e2 e3
        refine ⟨u', r', ?_⟩
        rcases q with ⟨k, e⟩ | ⟨k, c, e, z⟩
        · refine .inl ⟨k, ?_⟩
          have : y ≠ x := fun e => hj (nodup_ix hN e1 (e ▸ hi))
          simp [this, e]
        · exact .inr ⟨k, c, e, z.sameBut hs (cne y c e)⟩
    · obtain ⟨w', z⟩ := I.cell y c e
      exact ⟨w', z.sameBut hs (cne y c e)⟩
    · obtain ⟨e, n, ne, nf, d⟩ := I.pin p hp
      exact ⟨(hs.2 p.1 ne).trans e, n, ne, nf, d⟩
  · have hfn : X.fn x = true := by
      rcases hf with z | z
      · exact z
      · rw [z] at hk; cases hk
    obtain ⟨c, hc⟩ := I.ok.has x (.inl hk)
    obtain ⟨w', z⟩ := I.cell x c hc
    refine wpAny_storeName_cell I.ok.kind hk hc z (fun h' hc' hs => ?_)
    obtain ⟨oc, hoc, hocd⟩ := id z
    refine h { s with heap := h' } ⟨I.ok, I.os, I.bare, ⟨fun b o e n hb hx => ?_, fun b o e n hb hx => ?_, I.base.free, fun b o e hx => ?_, I.base.tups, I.base.frzs, I.base.tbls⟩, ⟨m, hn.sameBut hs (Ne.symm (cne x c hc)), fun j y v' e1 e2 e3 => ?_⟩, fun y c' e => ?_, I.free, I.freeC, fun p hp => ?_, tracked ⟨oc, hoc, I.freeC x c hc⟩ hs, by simpa using I.len⟩ ⟨c, hs, .inr hc⟩
    · exact (hs.2 b (Nat.ne_of_lt (Nat.lt_of_lt_of_le (Heap.lt_size e) (I.ok.cab x c hfn hc)))).trans (I.base.keep b o e n hb hx)
    · obtain ⟨sl, e1⟩ := I.base.slot b o e n hb hx
      exact ⟨sl, (hs.2 b (Nat.ne_of_lt (Nat.lt_of_lt_of_le (Heap.lt_size e) (I.ok.cab x c hfn hc)))).trans e1⟩
    · obtain ⟨o', e1⟩ := I.base.there b o e hx
      exact ⟨o', (hs.2 b (Nat.ne_of_lt (Nat.lt_of_lt_of_le (Heap.lt_size e) (I.ok.cab x c hfn hc)))).trans e1⟩
    · by_cases hj : j = i
      · subst hj
        rw [hi] at e1; cases e1
        rw [List.getElem?_set_self hiσ] at e2
        cases e2
        exact ⟨u, r, .inr ⟨.inl hk, c, hc, hc'⟩⟩
      · rw [List.getElem?_set_ne (Ne.symm hj)] at e2
        obtain ⟨u', r', q⟩ := hl j y v' e1 e2 e3
        refine ⟨u', r', ?_⟩
        rcases q with q | ⟨k, c', e, z'⟩
        · exact .inl q
        · refine .inr ⟨k, c', e, z'.sameBut hs ?_⟩
          rintro rfl
          exact hj (nodup_ix hN e1 (I.ok.inj _ _ _ e hc ▸ hi))
    · by_cases hcc : c' = c
      · subst hcc; exact ⟨_, hc'⟩
      · obtain ⟨w2, z2⟩ := I.cell y c' e
        exact ⟨w2, z2.sameBut hs hcc⟩
    · obtain ⟨e, n, ne, nf, d⟩ := I.pin p hp
      refine ⟨(hs.2 p.1 ?_).trans e, n, ne, nf, d⟩
      intro q
      rw [q, hoc] at e
      have q' : oc = p.2 := Option.some.inj e
      exact d w' (by rw [<- q']; exact hocd)
theorem store_ok {M : Model} {A : Around} {E : Value -> Shared -> Prop} {i : Nat} {x : Str} {v : V} {u : Value} {Q : Unit -> Shared -> Prop} (I : Inv X pins σ H s) (hN : X.N.Nodup) (hi : X.N[i]? = some x) (hx : Loc X.env.scope x) (r : RelV v u)
    (h : ∀ s', Inv X pins (σ.set i (some v)) H s' -> Q () s') (hf : X.fn x = true ∨ X.env.scope.names.lookup x = some .local := by first | exact .inl rfl | exact .inr rfl | assumption) : wpAny M A (storeName X.env x u) Q E s :=
  store_ok2 I hN hi hx r (fun s' I' _ => h s' I') hf
theorem Inv.call' {s' : Shared} {ch : List Addr} (I : Inv X pins σ H s) (ho : s'.os = s.os) (u : Un (frs X.stack) ch H H' s.heap s'.heap) (hok : HOk X.prog X.w H' s'.heap) (hg : AllBare s'.gens)
    (hch : ∀ b ∈ ch, (b ∈ X.ex ∨ X.s₀.heap.objs.size <= b) /\ b ≠ X.env.locals /\ (∀ x c, X.env.cells.lookup x = some c -> c ≠ b) /\ ∀ p ∈ X.pn ++ pins, p.1 ≠ b) : Inv X pins σ H' s' := by
  obtain ⟨h', g', d', t', o'⟩ := s'
  have e : o' = s.os := ho
  subst e
  exact I.call (g' := g') (t' := t') (d' := d') u hok hg hch
end
abbrev XK := Value -> Option Addr -> Hp -> Prop
abbrev St := List (Option V)
abbrev VK := V -> Hp -> Prop
abbrev TE := St -> Hp -> VK -> Prop
abbrev TT := St -> Hp -> (Bool -> Hp -> Prop) -> Prop
abbrev TA := St -> Hp -> (List V -> Hp -> Prop) -> Prop
structure Ends where
  nx : St -> Hp -> Prop
  rt : VK
  bk : St -> Hp -> Prop := fun _ _ => False
  ct : St -> Hp -> Prop := fun _ _ => False
abbrev TS := Ends -> St -> Hp -> Prop
def EP (X : Cx) (pins : List (Addr × Obj)) (σ : St) (Q : VK) (u : Value) (s' : Shared) : Prop := ∃ v H', Inv X pins σ H' s' /\ RelV v u /\ Q v H'
def TP (X : Cx) (pins : List (Addr × Obj)) (σ : St) (Q : Bool -> Hp -> Prop) (b : Bool) (s' : Shared) : Prop := ∃ H', Inv X pins σ H' s' /\ Q b H'
def AP (X : Cx) (pins : List (Addr × Obj)) (σ : St) (Q : List V -> Hp -> Prop) (us : List Value) (s' : Shared) : Prop := ∃ vs H', Inv X pins σ H' s' /\ Vals vs us /\ Q vs H'
def SP (X : Cx) (pins : List (Addr × Obj)) (D : Ends) (f : Flow) (s' : Shared) : Prop :=
  match f with
  | .next => ∃ σ' H', Inv X pins σ' H' s' /\ D.nx σ' H'
  | .brk => ∃ σ' H', Inv X pins σ' H' s' /\ D.bk σ' H'
  | .cont => ∃ σ' H', Inv X pins σ' H' s' /\ D.ct σ' H'
  | .ret u => ∃ v σ' H', Inv X pins σ' H' s' /\ RelV v u /\ D.rt v H'
def PE (X : Cx) (e : Expr) (t : TE) : Prop :=
  ∀ (pins : List (Addr × Obj)) (s : Shared) (σ : St) (H : Hp) (Q : VK), Inv X pins σ H s -> t σ H Q -> wpAny (model X.prog X.w) X.A (eval e X.env) (EP X pins σ Q) X.xe s
def PT (X : Cx) (e : Expr) (t : TT) : Prop :=
  ∀ (pins : List (Addr × Obj)) (s : Shared) (σ : St) (H : Hp) (Q : Bool -> Hp -> Prop), Inv X pins σ H s -> t σ H Q -> wpAny (model X.prog X.w) X.A (isTrue e X.env (eval e X.env)) (TP X pins σ Q) X.xe s
def PW (X : Cx) (e : Expr) (t : TT) : Prop :=
  ∀ (whole : Sem Value) (pins : List (Addr × Obj)) (s : Shared) (σ : St) (H : Hp) (Q : Bool -> Hp -> Prop), Inv X pins σ H s -> t σ H Q -> wpAny (model X.prog X.w) X.A (isTrue e X.env whole) (TP X pins σ Q) X.xe s
theorem PW.pt {X : Cx} {e : Expr} {t : TT} (h : PW X e t) : PT X e t := h _
def PA (X : Cx) (es : List Expr) (t : TA) : Prop :=
  ∀ (pos : Pos) (pins : List (Addr × Obj)) (s : Shared) (σ : St) (H : Hp) (Q : List V -> Hp -> Prop), Inv X pins σ H s -> t σ H Q -> wpAny (model X.prog X.w) X.A (spliced (backTo pos (starEach es X.env))) (AP X pins σ Q) X.xe s
def PS (X : Cx) (st : Stmt) (t : TS) : Prop :=
  ∀ (pins : List (Addr × Obj)) (s : Shared) (σ : St) (H : Hp) (D : Ends), Inv X pins σ H s -> t D σ H -> wpAny (model X.prog X.w) X.A (exec st X.env) (SP X pins D) X.xe s
def PSs (X : Cx) (st : List Stmt) (t : TS) : Prop :=
  ∀ (pins : List (Addr × Obj)) (s : Shared) (σ : St) (H : Hp) (D : Ends), Inv X pins σ H s -> t D σ H -> wpAny (model X.prog X.w) X.A (execs st X.env) (SP X pins D) X.xe s
theorem thn {α : Type} {t : Sem α} {Q Q' : α -> Shared -> Prop} {M : Model} {A : Around} {E : Value -> Shared -> Prop} {s : Shared} (h : wpAny M A t Q E s) (hQ : ∀ a s, Q a s -> Q' a s) : wpAny M A t Q' E s := wpAny_mono h hQ fun _ _ x => x
end L2
namespace L2
open PySem PySem.Spec PyProof.Rows
section
variable {X : Cx}
def tVar (i : Nat) : TE := fun σ H Q => ∃ v, σ[i]? = some (some v) /\ Q v H
def tC (v : V) : TE := fun _ H Q => Q v H
theorem pe_var {i : Nat} {x : Str} {pos : Pos} (hN : X.N[i]? = some x) (hv : Vis X.env.scope x) (hd : (x == ("__debug__" : Str)) = false := by decide) (hcd : (x == ("__classdict__" : Str)) = false := by decide) : PE X (.Name x pos) (tVar i) := by
  intro pins s σ H Q I h
  obtain ⟨v, e, h⟩ := h
  obtain ⟨m, hn, hl⟩ := I.loc
  obtain ⟨u, r, l⟩ := hl i x v hN e hv
  have fin : EP X pins σ Q u s := ⟨v, H, I, r, h⟩
  rcases l with ⟨hk, hm⟩ | ⟨hk, c, hc, hcell⟩
  · exact wpAny_Name (wpAny_loadName_local I.ok.kind hk hn hm fin) hd
  · rcases hk with hk | hk
    · exact wpAny_Name (wpAny_loadName_cell I.ok.kind hk hc hcell fin) hd
    · exact wpAny_Name (wpAny_loadName_free I.ok.kind hk hc hcell fin hcd) hd
theorem pe_int {i j pos} : PE X (.Constant (.int i) j pos) (tC (.int i)) := fun _ _ _ H _ I h => wpAny_Constant_int ⟨.int i, H, I.tok _, ⟨_, rfl⟩, h⟩
theorem pe_bl {b j pos} : PE X (.Constant (.bool b) j pos) (tC (.bl b)) := fun _ _ _ H _ I h => Constant_bool ⟨.bl b, H, I, rfl, h⟩
theorem pe_non {j pos} : PE X (.Constant .none j pos) (tC .non) := fun _ _ _ H _ I h => Constant_none ⟨.non, H, I, rfl, h⟩
theorem pe_str {x j pos} : PE X (.Constant (.str x) j pos) (tC (.str x)) := fun _ _ _ H _ I h => Calls.Constant_str ⟨.str x, H, I.tok _, ⟨_, rfl⟩, h⟩
def Gl (X : Cx) (x : Str) : Prop := X.env.kindOf x = some .globalImplicit
theorem ld_glob {E : Value -> Shared -> Prop} {pins : List (Addr × Obj)} {s : Shared} {σ : St} {H : Hp} {x : Str} {u : Value} {pos : Pos} {Q : Value -> Shared -> Prop} (I : Inv X pins σ H s) (hg : Gl X x) (hm : X.mg x = some u) (h : Q u s)
    (hd : (x == ("__debug__" : Str)) = false := by decide) : wpAny (model X.prog X.w) X.A (eval (.Name x pos) X.env) Q E s :=
  Calls.Name_function_global I.ok.kind hg (Calls.loadGlobal_global (by rw [I.ok.glob]; exact I.mod.glob.keeps I.bk) hm h) hd
theorem ld_blt {E : Value -> Shared -> Prop} {pins : List (Addr × Obj)} {s : Shared} {σ : St} {H : Hp} {x : Str} {u : Value} {pos : Pos} {Q : Value -> Shared -> Prop} (I : Inv X pins σ H s) (hg : Gl X x) (hm : X.mg x = none) (hv : bootBuiltins x = some u) (h : Q u s)
    (hn : x ≠ "__name__" := by decide) (hd : (x == ("__debug__" : Str)) = false := by decide) : wpAny (model X.prog X.w) X.A (eval (.Name x pos) X.env) Q E s := by
  obtain ⟨mb, h1, h2⟩ := I.mod.blt
  exact Calls.Name_function_global I.ok.kind hg (Calls.loadGlobal_builtin (by rw [I.ok.glob]; exact I.mod.glob.keeps I.bk) hm (by rw [I.ok.blt]; exact h1.keeps I.bk) ((h2 x hn).trans hv) h) hd
theorem pe_glob {x : Str} {v : V} {u : Value} {pos : Pos} (hg : Gl X x) (hm : X.mg x = some u) (r : RelV v u) (hd : (x == ("__debug__" : Str)) = false := by decide) : PE X (.Name x pos) (tC v) :=
  fun _ _ _ H _ I h => ld_glob I hg hm ⟨v, H, I, r, h⟩ hd
theorem pe_bltn {x : Str} {v : V} {u : Value} {pos : Pos} (hg : Gl X x) (hm : X.mg x = none) (hv : bootBuiltins x = some u) (r : RelV v u) (hn : x ≠ "__name__" := by decide) (hd : (x == ("__debug__" : Str)) = false := by decide) : PE X (.Name x pos) (tC v) :=
  fun _ _ _ H _ I h => ld_blt I hg hm hv ⟨v, H, I, r, h⟩ hn hd
variable {a b : Expr} {ta tb : TE} {pos : Pos}
def tB (t : TE) : TT := fun σ H Q => t σ H fun x H1 => ∃ c, x = .bl c /\ Q c H1
theorem pt_val {e : Expr} {t : TE} (h : PE X e t) (he : ∀ whole, isTrue e X.env whole = (do let v <- whole; standAt e.pos; holding [v] (truthy v)) := by intro _; rfl) : PT X e (tB t) := by
  intro pins s σ H Q I hw
  refine isTrue_plain (thn (h pins s σ H _ I hw) fun v s1 ⟨x, H1, I1, r1, q1⟩ => ?_) (he _)
  obtain ⟨d, rfl, q⟩ := q1
  cases r1
  exact wpAny_truthy_bool ⟨H1, I1, q⟩
variable {tA tB' : TT} {rest : List Expr}
def tAnd (t u : TT) : TT := fun σ H Q => t σ H fun c H1 => if c = true then u σ H1 Q else Q false H1
def tOr (t u : TT) : TT := fun σ H Q => t σ H fun c H1 => if c = true then Q true H1 else u σ H1 Q
def tNot (t : TT) : TT := fun σ H Q => t σ H fun c H1 => Q (!c) H1
theorem pw_and1 (ha : PT X a tA) : PW X (.BoolOp .And [a] pos) tA := by
  intro wh pins s σ H Q I h
  refine isTrue_and (thn (ha pins s σ H Q I h) fun c s1 e => ?_)
  cases c with
  | true => exact isTrue_and_nil e
  | false => exact e
theorem pw_or1 (ha : PT X a tA) : PW X (.BoolOp .Or [a] pos) tA := by
  intro wh pins s σ H Q I h
  refine isTrue_or (thn (ha pins s σ H Q I h) fun c s1 e => ?_)
  cases c with
  | false => exact isTrue_or_nil e
  | true => exact e
theorem pw_and (ha : PT X a tA) (hb : PW X (.BoolOp .And (b :: rest) pos) tB') : PW X (.BoolOp .And (a :: b :: rest) pos) (tAnd tA tB') := by
  intro wh pins s σ H Q I h
  refine isTrue_and (thn (ha pins s σ H _ I h) fun c s1 ⟨H1, I1, q1⟩ => ?_)
  cases c with
  | true => exact hb wh pins s1 σ H1 Q I1 q1
  | false => exact ⟨H1, I1, q1⟩
theorem pw_or (ha : PT X a tA) (hb : PW X (.BoolOp .Or (b :: rest) pos) tB') : PW X (.BoolOp .Or (a :: b :: rest) pos) (tOr tA tB') := by
  intro wh pins s σ H Q I h
  refine isTrue_or (thn (ha pins s σ H _ I h) fun c s1 ⟨H1, I1, q1⟩ => ?_)
  cases c with
  | true => exact ⟨H1, I1, q1⟩
  | false => exact hb wh pins s1 σ H1 Q I1 q1
theorem pt_not (ha : PT X a tA) : PT X (.UnaryOp .Not a pos) (tNot tA) := by
  intro pins s σ H Q I h
  exact isTrue_not (ha pins s σ H (fun c H1 => Q (!c) H1) I h)
def tAndV (ta tb : TE) : TE := fun σ H Q => ta σ H fun x H1 => ∃ c, x = .bl c /\ if c = true then tb σ H1 Q else Q (.bl false) H1
def tOrV (ta tb : TE) : TE := fun σ H Q => ta σ H fun x H1 => ∃ c, x = .bl c /\ if c = true then Q (.bl true) H1 else tb σ H1 Q
def tNotV (ta : TE) : TE := fun σ H Q => ta σ H fun x H1 => ∃ c, x = .bl c /\ Q (.bl (!c)) H1
theorem pe_one {op} {t : TE} (h : PE X a t) : PE X (.BoolOp op [a] pos) t := fun pins s σ H Q I hw => BoolOp_one (h pins s σ H Q I hw)
theorem pe_and (ha : PE X a ta) (hb : PE X (.BoolOp .And (b :: rest) pos) tb) : PE X (.BoolOp .And (a :: b :: rest) pos) (tAndV ta tb) := by
  intro pins s σ H Q I h
  refine BoolOp_and (thn (ha pins s σ H _ I h) fun v s1 ⟨x, H1, I1, r1, q1⟩ => ?_)
  obtain ⟨c, rfl, q1⟩ := q1
  cases r1
  refine wpAny_truthy_bool ?_
  cases c with
  | true => exact hb pins s1 σ H1 Q I1 q1
  | false => exact ⟨.bl false, H1, I1, rfl, q1⟩
theorem pe_or (ha : PE X a ta) (hb : PE X (.BoolOp .Or (b :: rest) pos) tb) : PE X (.BoolOp .Or (a :: b :: rest) pos) (tOrV ta tb) := by
  intro pins s σ H Q I h
  refine BoolOp_or (thn (ha pins s σ H _ I h) fun v s1 ⟨x, H1, I1, r1, q1⟩ => ?_)
  obtain ⟨c, rfl, q1⟩ := q1
  cases r1
  refine wpAny_truthy_bool ?_
  cases c with
  | false => exact hb pins s1 σ H1 Q I1 q1
  | true => exact ⟨.bl true, H1, I1, rfl, q1⟩
theorem pe_not (ha : PE X a ta) : PE X (.UnaryOp .Not a pos) (tNotV ta) := by
  intro pins s σ H Q I h
  refine UnaryOp_ (thn (ha pins s σ H _ I h) fun v s1 ⟨x, H1, I1, r1, q1⟩ => ?_)
  obtain ⟨c, rfl, q1⟩ := q1
  cases r1
  exact not_of (wpAny_truthy_bool ⟨.bl (!c), H1, I1, rfl, q1⟩)
def tIf (t : TT) (ta tb : TE) : TE := fun σ H Q => t σ H fun c H1 => if c = true then ta σ H1 Q else tb σ H1 Q
theorem pe_ifExp {c : Expr} (hc : PT X c tA) (ha : PE X a ta) (hb : PE X b tb) : PE X (.IfExp c a b pos) (tIf tA ta tb) := by
  intro pins s σ H Q I h
  refine wpAny_IfExp (thn (hc pins s σ H _ I h) fun d s1 ⟨H1, I1, q1⟩ => ?_)
  cases d with
  | true => exact ha pins s1 σ H1 Q I1 q1
  | false => exact hb pins s1 σ H1 Q I1 q1
end
end L2
namespace L2
open PySem PySem.Spec PyProof.Rows
def SqL (K : PySem.W.Frag) (H : Hp) (a : Addr) (xs : List V) : Prop :=
  Rd H a (.lst xs) ∨
    ∃ (o : Obj) (its : Array Value) (n : Nat), K.lookup a = some o /\ o.cls = .type "list" /\ o.dict = none /\ o.data = .seq its n /\ its.size <= sizeLine /\ Vals xs its.toList
def SqT (K : PySem.W.Frag) (H : Hp) (a : Addr) (xs : List V) : Prop :=
  Rd H a (.tup xs) ∨
    ∃ (o : Obj) (its : Array Value) (n : Nat), K.lookup a = some o /\ o.cls = .type "tuple" /\ o.data = .seq its n /\ its.size <= sizeLine /\ Vals xs its.toList
def absV : Value -> Option V
  | .none => some .non
  | .bool b => some (.bl b)
  | .int i _ => some (.int i)
  | .str x _ => some (.str x)
  | .bytes b _ => some (.byt b)
  | .float b _ => some (.flt b)
  | .ref a => some (.ref a)
  | .type n => some (.ty n)
  | _ => none
theorem RelV.abs {x : V} {u : Value} (r : RelV x u) : absV u = some x := by
  cases x with
  | non => cases r; rfl
  | bl _ => cases r; rfl
  | int _ => obtain ⟨t, rfl⟩ := r; rfl
  | str _ => obtain ⟨t, rfl⟩ := r; rfl
  | byt _ => obtain ⟨t, rfl⟩ := r; rfl
  | flt _ => obtain ⟨t, rfl⟩ := r; rfl
  | ref _ => cases r; rfl
  | ty _ => cases r; rfl
theorem RelV.inj {x y : V} {u : Value} (r : RelV x u) (q : RelV y u) : x = y := Option.some.inj (r.abs.symm.trans q.abs)
theorem Vals.inj : ∀ {xs ys : List V} {us : List Value}, Vals xs us -> Vals ys us -> xs = ys
  | _, _, _, .nil, .nil => rfl
  | _, _, _, .cons r t, .cons r' t' => by rw [r.inj r', Vals.inj t t']
section
variable {X : Cx} {pins : List (Addr × Obj)} {σ : St} {H : Hp} {s : Shared} {a : Addr} {xs ys : List V}
theorem SqL.of {K : PySem.W.Frag} (h : H a = some (.lst xs)) : SqL K H a xs := .inl (.inl h)
theorem SqT.of {K : PySem.W.Frag} (h : H a = some (.tup xs)) : SqT K H a xs := .inl (.inl h)
theorem Inv.list (I : Inv X pins σ H s) (h : SqL X.K H a xs) : ∃ its : List Value, Vals xs its /\ PlainL s.heap a its.toArray /\ xs.length <= sizeLine := by
  rcases h with h | ⟨o, its, n, hk, hc, hd, hs, hz, r⟩
  · obtain ⟨z, its, n, r, e⟩ := h.ok I.hok
    exact ⟨its, r, ⟨_, n, e, rfl, rfl, rfl⟩, z⟩
  · refine ⟨its.toList, r, ⟨o, n, I.kIn a o hk, hc, hd, by simpa using hs⟩, ?_⟩
    have e := r.length
    simp only [Array.length_toList] at e
    omega
theorem Inv.tuple (I : Inv X pins σ H s) (h : SqT X.K H a xs) : ∃ its : List Value, Vals xs its /\ IsTup s.heap a its.toArray /\ xs.length <= sizeLine := by
  rcases h with h | ⟨o, its, n, hk, hc, hs, hz, r⟩
  · obtain ⟨z, its, r, p⟩ := h.ok I.hok
    exact ⟨its, r, p, z⟩
  · refine ⟨its.toList, r, ⟨o, I.kIn a o hk, hc, n, by simpa using hs⟩, ?_⟩
    have e := r.length
    simp only [Array.length_toList] at e
    omega
theorem Inv.list_inj (I : Inv X pins σ H s) (h : SqL X.K H a xs) (h' : SqL X.K H a ys) : xs = ys := by
  obtain ⟨its, r, ⟨o, n, e, _, _, d⟩, _⟩ := I.list h
  obtain ⟨its', r', ⟨o', n', e', _, _, d'⟩, _⟩ := I.list h'
  rw [e] at e'; cases e'
  rw [d] at d'
  injection d' with d1 _
  have : its = its' := by simpa using congrArg Array.toList d1
  subst this
  exact r.inj r'
theorem Inv.tuple_inj (I : Inv X pins σ H s) (h : SqT X.K H a xs) (h' : SqT X.K H a ys) : xs = ys := by
  obtain ⟨its, r, ⟨o, e, _, n, d⟩, _⟩ := I.tuple h
  obtain ⟨its', r', ⟨o', e', _, n', d'⟩, _⟩ := I.tuple h'
  rw [e] at e'; cases e'
  rw [d] at d'
  injection d' with d1 _
  have : its = its' := by simpa using congrArg Array.toList d1
  subst this
  exact r.inj r'
end
abbrev Cx.wish (X : Cx) (E : Value -> Shared -> Prop) : Cx := { X with xe := E }
abbrev Cx.nox (X : Cx) : Cx := X.wish fun _ _ => False
theorem Cx.Ok.wish {X : Cx} (ok : X.Ok) (E : Value -> Shared -> Prop) : (X.wish E).Ok :=
  ⟨ok.mod, ok.kind, ok.glob, ok.blt, ok.above, ok.inj, ok.has, ok.cab, ok.hd, ok.frames, ok.stk, ok.exf, ok.bs, ok.bsz, ok.noex, ok.exfs, ok.funs, ok.frf⟩
theorem Cx.Ok.unwish {X : Cx} {E : Value -> Shared -> Prop} (ok : (X.wish E).Ok) : X.Ok :=
  ⟨ok.mod, ok.kind, ok.glob, ok.blt, ok.above, ok.inj, ok.has, ok.cab, ok.hd, ok.frames, ok.stk, ok.exf, ok.bs, ok.bsz, ok.noex, ok.exfs, ok.funs, ok.frf⟩
section
variable {X : Cx} {pins : List (Addr × Obj)} {σ : St} {H : Hp} {s : Shared} {E : Value -> Shared -> Prop}
theorem Inv.wish (I : Inv X pins σ H s) (E : Value -> Shared -> Prop) : Inv (X.wish E) pins σ H s := ⟨I.ok.wish E, I.os, I.bare, I.base, I.loc, I.cell, I.free, I.freeC, I.pin, I.hok, I.len⟩
theorem Inv.unwish (I : Inv (X.wish E) pins σ H s) : Inv X pins σ H s := ⟨I.ok.unwish, I.os, I.bare, I.base, I.loc, I.cell, I.free, I.freeC, I.pin, I.hok, I.len⟩
theorem SP.unwish {D : Ends} {f : Flow} {s' : Shared} (h : SP (X.wish E) pins D f s') : SP X pins D f s' := by
  cases f with
  | next => obtain ⟨σ', H', I, q⟩ := h; exact ⟨σ', H', I.unwish, q⟩
  | brk => obtain ⟨σ', H', I, q⟩ := h; exact ⟨σ', H', I.unwish, q⟩
  | cont => obtain ⟨σ', H', I, q⟩ := h; exact ⟨σ', H', I.unwish, q⟩
  | ret u => obtain ⟨v, σ', H', I, r, q⟩ := h; exact ⟨v, σ', H', I.unwish, r, q⟩
theorem PE.nox {e : Expr} {t : TE} (h : PE X.nox e t) : PE X e t := fun pins s σ H Q I hw =>
  wpAny_mono (h pins s σ H Q (I.wish _) hw) (fun _ _ ⟨v, H', I', r, q⟩ => ⟨v, H', I'.unwish, r, q⟩) fun _ _ z => False.elim z
theorem PT.nox {e : Expr} {t : TT} (h : PT X.nox e t) : PT X e t := fun pins s σ H Q I hw =>
  wpAny_mono (h pins s σ H Q (I.wish _) hw) (fun _ _ ⟨H', I', q⟩ => ⟨H', I'.unwish, q⟩) fun _ _ z => False.elim z
theorem PSs.nox {st : List Stmt} {t : TS} (h : PSs X.nox st t) : PSs X st t := fun pins s σ H D I hw =>
  wpAny_mono (h pins s σ H D (I.wish _) hw) (fun _ _ q => q.unwish) fun _ _ z => False.elim z
end
section
variable {X : Cx} {st : Stmt} {rest : List Stmt} {t u : TS} {e : Expr} {te : TE} {pos : Pos}
def tNext : TS := fun D σ H => D.nx σ H
def tSeq (t u : TS) : TS := fun D σ H => t { D with nx := u D } σ H
theorem pss_nil : PSs X [] tNext := fun _ _ σ H _ I h => wpAny_execs_nil ⟨σ, H, I, h⟩
theorem pss_cons (h1 : PS X st t) (h2 : PSs X rest u) : PSs X (st :: rest) (tSeq t u) := by
  intro pins s σ H D I h
  refine wpAny_execs_cons (thn (h1 pins s σ H { D with nx := u D } I h) fun f s1 q => ?_)
  cases f with
  | next =>
    obtain ⟨σ', H', I', q⟩ := q
    exact h2 pins s1 σ' H' D I' q
  | ret v => exact q
  | brk => exact q
  | cont => exact q
theorem pss_one (h1 : PS X st t) : PSs X [st] t := by
  intro pins s σ H D I h
  refine wpAny_execs_cons (thn (h1 pins s σ H D I h) fun f s1 q => ?_)
  cases f with
  | next => exact wpAny_execs_nil q
  | ret v => exact q
  | brk => exact q
  | cont => exact q
def tBreak : TS := fun D σ H => D.bk σ H
theorem ps_break : PS X (.Break pos) tBreak := fun _ _ σ H _ I h => wpAny_Break ⟨σ, H, I, h⟩
theorem Inv.quiet {pins : List (Addr × Obj)} {σ : St} {H : Hp} {s : Shared} (I : Inv X pins σ H s) : interactive X.env = false := by simp [interactive, I.ok.kind]
def tDrop (te : TE) : TS := fun D σ H => te σ H fun _ H1 => D.nx σ H1
theorem ps_expr (he : PE X e te) (hs : swapsWith e none pos.line X.env = pure false := by rfl) : PS X (.Expr e pos) (tDrop te) := by
  intro pins s σ H D I h
  exact wpAny_Expr_any (thn (he pins s σ H _ I h) fun v s1 ⟨x, H1, I1, r1, q1⟩ => ⟨σ, H1, I1, q1⟩) I.quiet hs
def tRet (te : TE) : TS := fun D σ H => te σ H D.rt
theorem ps_ret (he : PE X e te) : PS X (.Return (some e) pos) (tRet te) := by
  intro pins s σ H D I h
  exact wpAny_Return_some (thn (he pins s σ H _ I h) fun v s1 ⟨x, H1, I1, r1, q1⟩ => ⟨x, σ, H1, I1, r1, q1⟩)
def tIfS (c : TT) (t u : TS) : TS := fun D σ H => c σ H fun b H1 => if b = true then t D σ H1 else u D σ H1
theorem ps_if {c : Expr} {a b : List Stmt} {tc : TT} (hc : PT X c tc) (ha : PSs X a t) (hb : PSs X b u) : PS X (.If c a b pos) (tIfS tc t u) := by
  intro pins s σ H D I h
  refine wpAny_If (thn (hc pins s σ H _ I h) fun d s1 ⟨H1, I1, q1⟩ => ?_)
  cases d with
  | true => exact ha pins s1 σ H1 D I1 q1
  | false => exact hb pins s1 σ H1 D I1 q1
def tNever : TS := fun _ _ _ => False
theorem ps_never : PS X st tNever := fun _ _ _ _ _ _ h => h.elim
end
abbrev TG := V -> St -> Hp -> (St -> Hp -> Prop) -> Prop
abbrev TGs := List V -> St -> Hp -> (St -> Hp -> Prop) -> Prop
def PG (X : Cx) (target : Expr) (t : TG) : Prop :=
  ∀ (pins : List (Addr × Obj)) (s : Shared) (σ : St) (H : Hp) (v : V) (u : Value) (Q : St -> Hp -> Prop), Inv X pins σ H s -> RelV v u -> t v σ H Q ->
    wpAny (model X.prog X.w) X.A (assign target X.env u) (fun _ s' => ∃ σ' H', Inv X pins σ' H' s' /\ Q σ' H') X.xe s
def PGs (X : Cx) (ts : List Expr) (t : TGs) : Prop :=
  ∀ (pins : List (Addr × Obj)) (s : Shared) (σ : St) (H : Hp) (vs : List V) (us : List Value) (Q : St -> Hp -> Prop), Inv X pins σ H s -> Vals vs us -> t vs σ H Q ->
    wpAny (model X.prog X.w) X.A (assignInOrder ((assignEach ts X.env).map (·.2)) us) (fun _ s' => ∃ σ' H', Inv X pins σ' H' s' /\ Q σ' H') X.xe s
section
variable {X : Cx} {pos : Pos}
def gName (i : Nat) : TG := fun v σ H Q => Q (σ.set i (some v)) H
theorem pg_name {i : Nat} {x : Str} (hN : X.N.Nodup) (hi : X.N[i]? = some x) (hx : Loc X.env.scope x) (hf : X.fn x = true ∨ X.env.scope.names.lookup x = some .local := by first | exact .inl rfl | exact .inr rfl | assumption) : PG X (.Name x pos) (gName i) := by
  intro pins s σ H v u Q I r h
  exact wpAny_assign_Name (store_ok I hN hi hx r (fun s' I' => ⟨_, H, I', h⟩) hf)
def gNil : TGs := fun vs σ H Q => vs = [] /\ Q σ H
def gCons (t : TG) (u : TGs) : TGs := fun vs σ H Q => ∃ v r, vs = v :: r /\ t v σ H fun σ' H' => u r σ' H' Q
theorem pgs_nil : PGs X [] gNil := by
  intro pins s σ H vs us Q I r h
  obtain ⟨e, h⟩ := h
  subst e
  cases r
  exact assignInOrder_nil ⟨σ, H, I, h⟩
theorem pgs_cons {e : Expr} {es : List Expr} {t : TG} {u : TGs} (h1 : PG X e t) (h2 : PGs X es u)
    (hs : (assignEach (e :: es) X.env).map (·.2) = assign e X.env :: (assignEach es X.env).map (·.2) := by rfl) : PGs X (e :: es) (gCons t u) := by
  intro pins s σ H vs us Q I r h
  obtain ⟨v, vr, e1, h⟩ := h
  subst e1
  cases r with
  | cons r rr =>
    rw [hs]
    refine assignInOrder_cons (thn (h1 pins s σ H _ _ _ I r h) fun _ s1 ⟨σ1, H1, I1, q1⟩ => ?_)
    exact h2 pins s1 σ1 H1 _ _ Q I1 rr q1
def gTup (K : PySem.W.Frag) (n : Nat) (t : TGs) : TG := fun v σ H Q => ∃ a xs, v = .ref a /\ SqT K H a xs /\ xs.length = n /\ t xs σ H Q
theorem pg_tup {es : List Expr} {k : Nat} {t : TGs} {n : Nat} (hc : X.calm = true) (h : PGs X es t)
    (hn : (assignEach es X.env).length = n := by rfl) (hst : (assignEach es X.env).findIdx? (·.1) = none := by rfl) : PG X (.Tuple es k pos) (gTup X.K n t) := by
  intro pins s σ H v u Q I r hw
  obtain ⟨a, xs, e1, hq, hl, hw⟩ := hw
  subst e1
  cases r
  obtain ⟨its, rv, ht, hz⟩ := I.tuple hq
  refine assign_Tuple_tuple (I.ok.hd hc) ht (by simp [hn, <- hl, rv.length]) hst fun h' hx => ?_
  have I1 : Inv X pins σ H { s with heap := h' } := I.kept (t' := s.toks) fun b o e => hx b o (Nat.ne_of_lt (Heap.lt_size e)) e
  exact h pins _ σ H xs _ Q I1 (by simpa using rv) hw
def tAsg (te : TE) (g : TG) : TS := fun D σ H => te σ H fun x H1 => g x σ H1 D.nx
theorem ps_set {i : Nat} {x : Str} {e : Expr} {te : TE} {pos' : Pos} (hN : X.N.Nodup) (hi : X.N[i]? = some x) (hx : Loc X.env.scope x) (he : PE X e te) (hs : swapsWith e (some (.Name x pos')) pos.line X.env = pure false := by rfl) (hf : X.fn x = true ∨ X.env.scope.names.lookup x = some .local := by first | exact .inl rfl | exact .inr rfl | assumption) :
    PS X (.Assign [.Name x pos'] e pos) (tAsg te (gName i)) := by
  intro pins s σ H D I h
  refine wpAny_Assign_Name (thn (he pins s σ H _ I h) fun v s1 ⟨y, H1, I1, r1, q1⟩ => ?_) hs
  exact store_ok I1 hN hi hx r1 (fun s2 I2 => ⟨_, H1, I2, q1⟩) hf
def tPar (i j : Nat) (ta : TA) : TS := fun D σ H => ta σ H fun vs H1 => ∃ v w, vs = [v, w] /\ D.nx ((σ.set i (some v)).set j (some w)) H1
theorem ps_par {i j : Nat} {x y : Str} {a b : Expr} {ta : TA} {px py pt : Pos} {kt k2 pt2} (hc : X.calm = true) (hN : X.N.Nodup) (hi : X.N[i]? = some x) (hj : X.N[j]? = some y) (hij : i ≠ j)
    (hx : X.env.scope.names.lookup x = some .local) (hy : X.env.scope.names.lookup y = some .local) (ha : PA X [a, b] ta)
    (hw : swappedStores [.Tuple [.Name x px, .Name y py] kt pt] (.Tuple [a, b] k2 pt2) X.env = pure (some [x, y]))
    (hs : swapsWithSole [.Tuple [.Name x px, .Name y py] kt pt] (.Tuple [a, b] k2 pt2) pos.line X.env = pure false := by rfl) :
    PS X (.Assign [.Tuple [.Name x px, .Name y py] kt pt] (.Tuple [a, b] k2 pt2) pos) (tPar i j ta) := by
  intro pins s σ H D I h
  rw [exec_Assign_arm]
  refine wpAny_bind (wpAny_standAt ?_)
  rw [hs]
  refine wpAny_bind (wpAny_pure ?_)
  rw [if_neg (by decide)]
  refine wpAny_bind (Tuple_ (thn (ha _ pins s σ H _ I h) fun us s1 ⟨vs, H1, I1, r1, q1⟩ => ?_))
  obtain ⟨v, w, e1, q1⟩ := q1
  subst e1
  obtain ⟨u1, u2, rfl, rv, rw'⟩ : ∃ u1 u2, us = [u1, u2] /\ RelV v u1 /\ RelV w u2 := by
    cases r1 with
    | cons p q =>
      cases q with
      | cons p' q' =>
        cases q'
        exact ⟨_, _, rfl, p, p'⟩
  refine wpAny_newObj_type ?_ (by show 2 <= sizeLine; decide)
  have I2 : Inv X pins σ H1 { s1 with heap := s1.heap.push { cls := .type "tuple", data := .seq [u1, u2].toArray } } := I1.kept (t' := s1.toks) fun b o e => Heap.get?_push_of_some _ e
  rw [hw]
  refine wpAny_bind (wpAny_pure ?_)
  show wpAny (model X.prog X.w) X.A (do rule "assign.swapped-stores"; let items <- unpackItems (.ref s1.heap.objs.size) 2 none; assignInOrder [fun v => bindName X.env y v, fun v => bindName X.env x v] items.reverse; pure Flow.next) _ _ _
  refine wpAny_bind (wpAny_rule (wpAny_bind (unpackItems_tuple (items := #[u1, u2]) (I.ok.hd hc) (IsTup.new s1.heap _) fun h' hx' => ?_)))
  have I3 := I2.kept (h' := h') (t' := s1.toks) fun b o e => hx' b o (Nat.ne_of_lt (Heap.lt_size e)) e
  show wpAny _ _ (assignInOrder [fun v => bindName X.env y v, fun v => bindName X.env x v] [u2, u1] >>= fun _ => pure Flow.next) _ _ _
  refine wpAny_bind (assignInOrder_cons (wpAny_bindName (store_ok I3 hN hj (.inl hy) rw' (fun s2 I4 => ?_) (.inr hy))))
  refine assignInOrder_cons (wpAny_bindName (store_ok I4 hN hi (.inl hx) rv (fun s3 I5 => assignInOrder_nil (wpAny_pure ?_)) (.inr hx)))
  rw [List.set_comm _ _ (Ne.symm hij)] at I5
  exact ⟨_, H1, I5, q1⟩
end
section
variable {X : Cx} {pos : Pos}
def tWhile (c : TT) (tb : TS) : TS := fun D σ H => ∃ W : Nat -> St -> Hp -> Prop, (∃ m, W m σ H) /\ ∀ m σ H, W m σ H ->
  c σ H fun b H1 => if b = true then ∃ N : St -> Hp -> Prop, (∀ σ' H', N σ' H' -> ∃ m', m' < m /\ W m' σ' H') /\ tb { D with nx := N, ct := N, bk := D.nx } σ H1 else D.nx σ H1
theorem ps_while {c : Expr} {body : List Stmt} {tc : TT} {tb : TS} (hp : PassesOwn (model X.prog X.w) X.A X.env X.xe) (hc : PT X c tc) (hb : PSs X body tb) : PS X (.While c body [] pos) (tWhile tc tb) := by
  intro pins s σ H D I h
  obtain ⟨W, ⟨m0, w0⟩, turn⟩ := h
  refine wpAny_While (codeAny_whileLoop (fun n s' => ∃ σ' H', Inv X pins σ' H' s' /\ W n σ' H') ?_ m0 ⟨σ, H, I, w0⟩)
  rintro n s1 ⟨σ1, H1, I1, w1⟩
  refine wpAny_passesOwn hp (thn (hc pins s1 σ1 H1 _ I1 (turn n σ1 H1 w1)) fun b s2 ⟨H2, I2, q2⟩ => ?_)
  cases b with
  | true =>
    obtain ⟨N, hN, q2⟩ := q2
    rw [if_pos rfl]
    refine wpAny_passesOwn hp (thn (hb pins s2 σ1 H2 _ I2 q2) fun f s3 q3 => ?_)
    cases f with
    | next =>
      obtain ⟨σ3, H3, I3, n3⟩ := q3
      obtain ⟨m', hm, w3⟩ := hN σ3 H3 n3
      exact ⟨m', hm, σ3, H3, I3, w3⟩
    | cont =>
      obtain ⟨σ3, H3, I3, n3⟩ := q3
      obtain ⟨m', hm, w3⟩ := hN σ3 H3 n3
      exact ⟨m', hm, σ3, H3, I3, w3⟩
    | brk => exact q3
    | ret v => exact q3
  | false =>
    rw [if_neg Bool.false_ne_true]
    exact wpAny_execs_nil ⟨σ1, H2, I2, q2⟩
end
structure It where
  go : Nat -> Hp -> Prop
  yld : Nat -> Hp -> V -> Hp -> Prop
  stop : Nat -> Hp -> Prop
def FpOk (X : Cx) (pins : List (Addr × Obj)) (H : Hp) (b : Addr) : Prop :=
  H b = none /\ b ≠ X.env.locals /\ b ∉ X.fs /\ (b ∈ X.ex ∨ X.s₀.heap.objs.size <= b) /\ (∀ x c, X.env.cells.lookup x = some c -> c ≠ b) /\ ∀ p ∈ X.pn ++ pins, p.1 ≠ b
theorem Inv.fpOk {X : Cx} {pins : List (Addr × Obj)} {σ : St} {H H' : Hp} {s : Shared} {b : Addr} (I : Inv X pins σ H s) (hb : s.heap.objs.size <= b) (hn : H' b = none) : FpOk X pins H' b := by
  refine ⟨hn, Nat.ne_of_gt (Nat.lt_of_lt_of_le I.lt hb), I.nofs hb, .inr (Nat.le_trans I.sz hb), fun x c e z => ?_, fun p hp z => ?_⟩
  · obtain ⟨v, q⟩ := I.cell x c e
    exact absurd (Nat.lt_of_lt_of_le q.lt (by rw [z]; exact hb)) (Nat.lt_irrefl _)
  · exact absurd (Nat.lt_of_lt_of_le (Heap.lt_size (I.pin p hp).1) (by rw [z]; exact hb)) (Nat.lt_irrefl _)
structure Turn (P : Program) (w : World) (K : PySem.W.Frag) (tg : Expr) (J : It) (fp : List Addr) (it : Addr) (tn : Nat -> Heap -> Prop) : Prop where
  mem : it ∈ fp
  obj : ∀ i h, tn i h -> ∀ b ∈ fp, ∃ o, h.get? b = some o /\ ∀ v, o.data ≠ .cell v
  keep : ∀ i h h', tn i h -> (∀ b ∈ fp, ∀ o, h.get? b = some o -> h'.get? b = some o) -> tn i h'
  item : ∀ (X : Cx), X.prog = P -> X.w = w -> X.K = K -> X.calm = true -> ∀ (i : Nat) (pins : List (Addr × Obj)) (s : Shared) (σ : St) (H : Hp) (E : Value -> Shared -> Prop), Inv X pins σ H s -> (∀ b ∈ fp, FpOk X pins H b) -> tn i s.heap -> J.go i H ->
    wpAny (model P w) X.A (pyNext (.ref it)) (fun r s1 => ∃ u, r = some u ∧
      wpAny (model P w) X.A (letOwnedTupleGo tg (.ref it) u) (fun _ s2 => ∃ x H', Inv X pins σ H' s2 /\ RelV x u /\ J.yld i H x H' /\ tn (i + 1) s2.heap /\ ∀ b ∈ fp, H' b = none) E s1) E s
  done : ∀ (X : Cx), X.prog = P -> X.w = w -> X.K = K -> X.calm = true -> ∀ (i : Nat) (pins : List (Addr × Obj)) (s : Shared) (σ : St) (H : Hp) (E : Value -> Shared -> Prop), Inv X pins σ H s -> (∀ b ∈ fp, FpOk X pins H b) -> tn i s.heap -> J.stop i H ->
    wpAny (model P w) X.A (pyNext (.ref it)) (fun r s1 => r = none /\ Inv X pins σ H s1) E s
  self : ∀ (A : Around) (i : Nat) (s : Shared) (Q : Value -> Shared -> Prop) (E : Value -> Shared -> Prop), tn i s.heap -> Q (.ref it) s -> wpAny (model P w) A (pyIter (.ref it)) Q E s
abbrev TI := St -> Hp -> (It -> Hp -> Prop) -> Prop
def PIE (X : Cx) (pins : List (Addr × Obj)) (σ : St) (tg : Expr) (R : It -> Hp -> Prop) (itv : Value) (s2 : Shared) : Prop :=
  ∃ (it : Addr) (fp : List Addr) (tn : Nat -> Heap -> Prop) (J : It) (H' : Hp), itv = .ref it /\ Inv X pins σ H' s2 /\ Turn X.prog X.w X.K tg J fp it tn /\ tn 0 s2.heap /\ (∀ b ∈ fp, FpOk X pins H' b) /\ R J H'
def PI (X : Cx) (tg iter : Expr) (wi : TI) : Prop :=
  ∀ (pins : List (Addr × Obj)) (s : Shared) (σ : St) (H : Hp) (R : It -> Hp -> Prop), Inv X pins σ H s -> wi σ H R ->
    wpAny (model X.prog X.w) X.A (eval iter X.env) (fun v s1 => wpAny (model X.prog X.w) X.A (pyIter v) (PIE X pins σ tg R) X.xe s1) X.xe s
theorem go_of {M : Model} {A : Around} {E : Value -> Shared -> Prop} {s : Shared} {tg : Expr} {it : Addr} {u : Value} {o : Obj} {n : String} {vs : Array Value} {Q : Unit -> Shared -> Prop} (ho : s.heap.get? it = some o) (hc : o.cls = .type n) (hd : o.data = .fields vs)
    (hn : ["enumerate", "zip", "dict_itemiterator", "dict_reverseitemiterator", "odict_iterator", "itertools.zip_longest", "itertools.pairwise"].contains n = false) (hQ : Q () s) : wpAny M A (letOwnedTupleGo tg (.ref it) u) Q E s := by
  unfold letOwnedTupleGo
  cases tg <;> first
    | exact wpAny_pure hQ
    | (cases u <;> first
        | exact wpAny_pure hQ
        | (refine wpAny_bind (wpAny_load ho ?_)
           rw [hc, hd]
           show wpAny M A (if (["enumerate", "zip", "dict_itemiterator", "dict_reverseitemiterator", "odict_iterator", "itertools.zip_longest", "itertools.pairwise"].contains n && vs[0]? == some (rawInt _)) = true then _ else _) Q E s
           rw [if_neg (by intro h; rw [hn, Bool.false_and] at h; cases h)]
           exact wpAny_pure hQ))
def Itl (K : PySem.W.Frag) (a : Addr) : It :=
  ⟨fun i H => ∃ xs x, SqL K H a xs /\ xs[i]? = some x, fun i H x H' => H' = H /\ ∀ xs, SqL K H a xs -> xs[i]? = some x, fun i H => ∃ xs, SqL K H a xs /\ xs.length <= i⟩
def Itt (K : PySem.W.Frag) (a : Addr) : It :=
  ⟨fun i H => ∃ xs x, SqT K H a xs /\ xs[i]? = some x, fun i H x H' => H' = H /\ ∀ xs, SqT K H a xs -> xs[i]? = some x, fun i H => ∃ xs, SqT K H a xs /\ xs.length <= i⟩
def Itr (lo : Int) (n : Nat) : It := ⟨fun i _ => i < n, fun i H x H' => H' = H /\ x = .int (lo + i), fun i _ => n <= i⟩
theorem turn_list {P : Program} {w : World} {K : PySem.W.Frag} {tg : Expr} (a it : Addr) : Turn P w K tg (Itl K a) [it] it (fun i h => h.IsListIter it a i) where
  mem := by simp
  obj := fun i h st b hb => by
    have e : b = it := by simpa using hb
    subst e
    obtain ⟨o, e, c, d⟩ := st
    exact ⟨o, e, fun v z => by rw [d] at z; cases z⟩
  keep := fun i h h' st k => st.at fun o e => k it (by simp) o e
  item := by
    intro X hP hw hK hc i pins s σ H E I hf st hg
    subst hP hw hK
    obtain ⟨xs, x, hq, hx⟩ := hg
    obtain ⟨its, rv, p, hz⟩ := I.list hq
    obtain ⟨u, hu, ru⟩ := rv.get hx
    obtain ⟨f0, f1, f2, f3, f4, f5⟩ := hf it (by simp)
    refine wpAny_pyNext_list_item st p.isList (x := u) (by simpa using hu) fun h' st' sb => ?_
    have I1 : Inv X pins σ H { s with heap := h' } := I.turned (t' := s.toks) (fun b o hb e => (sb.2 b hb).trans e) f0 f1 f3 f4 f5
    obtain ⟨o, e, c, d⟩ := id st'
    exact ⟨u, rfl, go_of (s := { s with heap := h' }) e c d (by decide) ⟨x, H, I1, ru, ⟨rfl, fun ys hy => by rw [I.list_inj hy hq]; exact hx⟩, st', fun b hb => (hf b hb).1⟩⟩
  done := by
    intro X hP hw hK hc i pins s σ H E I hf st hg
    subst hP hw hK
    obtain ⟨xs, hq, hx⟩ := hg
    obtain ⟨its, rv, p, hz⟩ := I.list hq
    obtain ⟨f0, f1, f2, f3, f4, f5⟩ := hf it (by simp)
    have hl := rv.length
    exact wpAny_pyNext_list_end (I.ok.hd hc) st p.isList (by simp; omega) fun h' eb => ⟨rfl, I.turned (t' := s.toks) (fun b o hb e => eb b o hb e) f0 f1 f3 f4 f5⟩
  self := fun _ _ _ _ _ st h => wpAny_pyIter_listiter st h
theorem turn_tuple {P : Program} {w : World} {K : PySem.W.Frag} {tg : Expr} (a it : Addr) : Turn P w K tg (Itt K a) [it] it (fun i h => h.IsTupleIter it a i) where
  mem := by simp
  obj := fun i h st b hb => by
    have e : b = it := by simpa using hb
    subst e
    obtain ⟨o, e, c, d⟩ := st
    exact ⟨o, e, fun v z => by rw [d] at z; cases z⟩
  keep := fun i h h' st k => st.at fun o e => k it (by simp) o e
  item := by
    intro X hP hw hK hc i pins s σ H E I hf st hg
    subst hP hw hK
    obtain ⟨xs, x, hq, hx⟩ := hg
    obtain ⟨its, rv, p, hz⟩ := I.tuple hq
    obtain ⟨u, hu, ru⟩ := rv.get hx
    obtain ⟨f0, f1, f2, f3, f4, f5⟩ := hf it (by simp)
    refine wpAny_pyNext_tuple_item st (show s.heap.IsTuple a its.toArray from p) (x := u) (by simpa using hu) fun h' st' sb => ?_
    have I1 : Inv X pins σ H { s with heap := h' } := I.turned (t' := s.toks) (fun b o hb e => (sb.2 b hb).trans e) f0 f1 f3 f4 f5
    obtain ⟨o, e, c, d⟩ := id st'
    exact ⟨u, rfl, go_of (s := { s with heap := h' }) e c d (by decide) ⟨x, H, I1, ru, ⟨rfl, fun ys hy => by rw [I.tuple_inj hy hq]; exact hx⟩, st', fun b hb => (hf b hb).1⟩⟩
  done := by
    intro X hP hw hK hc i pins s σ H E I hf st hg
    subst hP hw hK
    obtain ⟨xs, hq, hx⟩ := hg
    obtain ⟨its, rv, p, hz⟩ := I.tuple hq
    obtain ⟨f0, f1, f2, f3, f4, f5⟩ := hf it (by simp)
    have hl := rv.length
    exact wpAny_pyNext_tuple_end (I.ok.hd hc) st (show s.heap.IsTuple a its.toArray from p) (by simp; omega) fun h' eb => ⟨rfl, I.turned (t' := s.toks) (fun b o hb e => eb b o hb e) f0 f1 f3 f4 f5⟩
  self := fun _ _ _ _ _ st h => wpAny_pyIter_tupleiter st h
theorem turn_range {P : Program} {w : World} {K : PySem.W.Frag} {tg : Expr} (it : Addr) (lo : Int) (n : Nat) : Turn P w K tg (Itr lo n) [it] it (fun i h => IsRangeIter h it (lo + (i : Nat) * 1) ((n : Int) - (i : Nat)) 1) where
  mem := by simp
  obj := fun i h st b hb => by
    have e : b = it := by simpa using hb
    subst e
    exact ⟨_, st, fun v z => by
      have z' : Data.fields _ = Data.cell v := z
      cases z'⟩
  keep := fun i h h' st k => k it (by simp) _ st
  item := by
    intro X hP hw hK hc i pins s σ H E I hf st hg
    subst hP hw hK
    obtain ⟨f0, f1, f2, f3, f4, f5⟩ := hf it (by simp)
    have W := Walks.range (prog := X.prog) (w := X.w) (I.ok.hd hc) it lo 1 n
    refine W.item i s _ _ hg st fun v h' tk hv st' kk => ?_
    obtain ⟨t, rfl⟩ := hv
    have I1 : Inv X pins σ H { s with heap := h', toks := tk } := I.turned (fun b o hb e => kk b o (by simpa using hb) e) f0 f1 f3 f4 f5
    refine ⟨_, rfl, go_of (s := { s with heap := h', toks := tk }) (n := "range_iterator") st' rfl rfl (by decide) ⟨.int (lo + i), H, I1, ⟨t, ?_⟩, ⟨rfl, rfl⟩, st', fun b hb => (hf b hb).1⟩⟩
    rw [Int.mul_one]
  done := by
    intro X hP hw hK hc i pins s σ H E I hf st hg
    subst hP hw hK
    obtain ⟨f0, f1, f2, f3, f4, f5⟩ := hf it (by simp)
    exact wpAny_pyNext_range_end (I.ok.hd hc) st (by have : n <= i := hg; omega) fun h' eb => ⟨rfl, I.turned (t' := s.toks) (fun b o hb e => eb b o hb e) f0 f1 f3 f4 f5⟩
  self := fun _ _ _ _ _ st h => wpAny_pyIter_rangeiter st h
end L2
namespace L2
open PySem PySem.Spec PyProof.Rows
section
variable {X : Cx} {tg : Expr}
def iList (K : PySem.W.Frag) (tl : TE) : TI := fun σ H R => tl σ H fun x H1 => ∃ a, x = .ref a /\ (∃ xs, SqL K H1 a xs) /\ R (Itl K a) H1
def iTup (K : PySem.W.Frag) (tl : TE) : TI := fun σ H R => tl σ H fun x H1 => ∃ a, x = .ref a /\ (∃ xs, SqT K H1 a xs) /\ R (Itt K a) H1
theorem pi_list {l : Expr} {tl : TE} (hl : PE X l tl) : PI X tg l (iList X.K tl) := by
  intro pins s σ H R I h
  refine thn (hl pins s σ H _ I h) fun v s1 ⟨x, H1, I1, r1, q1⟩ => ?_
  obtain ⟨a, e, ⟨xs, hq⟩, q⟩ := q1
  subst e
  cases r1
  obtain ⟨its, rv, p, hz⟩ := I1.list hq
  refine wpAny_pyIter_list p.isList ?_
  refine ⟨s1.heap.objs.size, [s1.heap.objs.size], _, _, H1, rfl, I1.kept (t' := s1.toks) fun b o e => Heap.get?_push_of_some _ e, turn_list a _, ⟨_, Heap.get?_push_size _ rfl, rfl, rfl⟩, fun b hb => ?_, q⟩
  have e : b = s1.heap.objs.size := by simpa using hb
  subst e
  exact I1.fpOk (Nat.le_refl _) (I1.hok.fresh (Nat.le_refl _))
theorem pi_tup {l : Expr} {tl : TE} (hl : PE X l tl) : PI X tg l (iTup X.K tl) := by
  intro pins s σ H R I h
  refine thn (hl pins s σ H _ I h) fun v s1 ⟨x, H1, I1, r1, q1⟩ => ?_
  obtain ⟨a, e, ⟨xs, hq⟩, q⟩ := q1
  subst e
  cases r1
  obtain ⟨its, rv, p, hz⟩ := I1.tuple hq
  refine wpAny_pyIter_tuple (show s1.heap.IsTuple a its.toArray from p) ?_
  refine ⟨s1.heap.objs.size, [s1.heap.objs.size], _, _, H1, rfl, I1.kept (t' := s1.toks) fun b o e => Heap.get?_push_of_some _ e, turn_tuple a _, ⟨_, Heap.get?_push_size _ rfl, rfl, rfl⟩, fun b hb => ?_, q⟩
  have e : b = s1.heap.objs.size := by simpa using hb
  subst e
  exact I1.fpOk (Nat.le_refl _) (I1.hok.fresh (Nat.le_refl _))
theorem range_it {pins : List (Addr × Obj)} {σ : St} {H : Hp} {s : Shared} {R : It -> Hp -> Prop} {E : Value -> Shared -> Prop} {lo hi : Int} {t u v : Tok} {tk : Nat} (I : Inv X pins σ H s) (h1 : -(2 ^ 62) <= lo) (h2 : lo < 2 ^ 62) (h3 : -(2 ^ 62) <= hi) (h4 : hi < 2 ^ 62)
    (q : R (Itr lo (hi - lo).toNat) H) : wpAny (model X.prog X.w) X.A (pyIter (.ref s.heap.objs.size)) (PIE X pins σ tg R) E { s with heap := s.heap.push { cls := .type "range", data := .fields #[.int lo t, .int hi u, .int 1 v] }, toks := tk } := by
  refine wpAny_pyIter_range (IsRange.new ..) (small_one h1 h2 h3 h4) ?_
  have I1 : Inv X pins σ H { s with heap := s.heap.push { cls := .type "range", data := .fields #[.int lo t, .int hi u, .int 1 v] }, toks := tk } := I.kept fun b o e => Heap.get?_push_of_some _ e
  refine ⟨(s.heap.push { cls := .type "range", data := .fields #[.int lo t, .int hi u, .int 1 v] }).objs.size, [(s.heap.push { cls := .type "range", data := .fields #[.int lo t, .int hi u, .int 1 v] }).objs.size], _, _, H, rfl,
    I1.kept (t' := tk) fun b o e => Heap.get?_push_of_some _ e, turn_range _ lo (hi - lo).toNat, ?_, fun b hb => ?_, q⟩
  · have e1 : lo + ((0 : Nat) : Int) * 1 = lo := by simp
    have e2 : (((hi - lo).toNat : Nat) : Int) - ((0 : Nat) : Int) = Builtin.Range.rangeSize lo hi 1 := by rw [rangeSize_one]; split <;> omega
    show IsRangeIter _ _ (lo + ((0 : Nat) : Int) * 1) ((((hi - lo).toNat : Nat) : Int) - ((0 : Nat) : Int)) 1
    rw [e1, e2]
    exact Heap.get?_push_size _ rfl
  · have e : b = (s.heap.push { cls := .type "range", data := .fields #[.int lo t, .int hi u, .int 1 v] }).objs.size := by simpa using hb
    subst e
    exact I1.fpOk (Nat.le_refl _) (I1.hok.fresh (Nat.le_refl _))
def iRng1 (ta : TA) : TI := fun σ H R => ta σ H fun vs H1 => ∃ j : Int, vs = [.int j] /\ -(2 ^ 62) <= j /\ j < 2 ^ 62 /\ R (Itr 0 j.toNat) H1
theorem pi_range1 {a : Expr} {ta : TA} {p pos : Pos} (hg : Gl X "range") (hm : X.mg "range" = none) (ha : PA X [a] ta) (hs : starEach [a] X.env = [(false, eval a X.env)] := by rfl) : PI X tg (.Call (.Name "range" p) [a] [] pos) (iRng1 ta) := by
  intro pins s σ H R I h
  refine Call_ (ld_blt I hg hm boot_range (PyProof.Rows.callWith_type1 (thn (ha pos pins s σ H _ I h) fun us s1 ⟨vs, H1, I1, r1, q1⟩ => ?_) hs rfl))
  obtain ⟨j, e, q1, q2, q⟩ := q1
  subst e
  cases r1 with
  | cons r rr =>
    cases rr
    obtain ⟨t, rfl⟩ := r
    exact call_range_1 (range_it I1 (by omega) (by omega) q1 q2 (by simpa using q))
def tFor (wi : TI) (g : TG) (tb : TS) : TS := fun D σ H => wi σ H fun J H1 => ∃ W : Nat -> Nat -> St -> Hp -> Prop, (∃ m, W 0 m σ H1) /\ ∀ i m σ H, W i m σ H ->
  (J.stop i H /\ D.nx σ H) ∨ (J.go i H /\ ∃ N : St -> Hp -> Prop, (∀ σ' H', N σ' H' -> ∃ m', m' < m /\ W (i + 1) m' σ' H') /\ ∀ x H', J.yld i H x H' -> g x σ H' fun σ2 H2 => tb { D with nx := N, ct := N, bk := D.nx } σ2 H2)
def pinsAt (fp : List Addr) (h : Heap) : List (Addr × Obj) := fp.filterMap fun b => (h.get? b).map fun o => (b, o)
theorem mem_pinsAt {fp : List Addr} {h : Heap} {b : Addr} {o : Obj} (hb : b ∈ fp) (e : h.get? b = some o) : (b, o) ∈ pinsAt fp h := List.mem_filterMap.mpr ⟨b, hb, by rw [e]; rfl⟩
theorem of_pinsAt {fp : List Addr} {h : Heap} {p : Addr × Obj} (hp : p ∈ pinsAt fp h) : p.1 ∈ fp /\ h.get? p.1 = some p.2 := by
  obtain ⟨b, hb, e⟩ := List.mem_filterMap.mp hp
  cases q : h.get? b with
  | none => rw [q] at e; cases e
  | some o =>
    rw [q] at e
    have e' : (b, o) = p := Option.some.inj e
    subst e'
    exact ⟨hb, q⟩
theorem Inv.pinned {pins : List (Addr × Obj)} {σ : St} {H : Hp} {s : Shared} {fp : List Addr} (I : Inv X pins σ H s) (hf : ∀ b ∈ fp, FpOk X pins H b) (ho : ∀ b ∈ fp, ∃ o, s.heap.get? b = some o /\ ∀ v, o.data ≠ .cell v) : Inv X (pins ++ pinsAt fp s.heap) σ H s :=
  I.pins_of fun p hp => (List.mem_append.mp hp).elim (fun z => I.pin p (List.mem_append_right _ z)) fun z => by
    obtain ⟨hb, e⟩ := of_pinsAt z
    obtain ⟨f0, f1, f2, _⟩ := hf p.1 hb
    obtain ⟨o, e', d⟩ := ho p.1 hb
    rw [e] at e'; cases e'
    exact ⟨e, f0, f1, f2, d⟩
theorem Inv.unpinned {pins pl : List (Addr × Obj)} {σ : St} {H : Hp} {s : Shared} (I : Inv X (pins ++ pl) σ H s) : Inv X pins σ H s := I.pins_of fun p hp => I.pin p (List.mem_append_right _ (List.mem_append_left _ hp))
theorem ps_for {iter : Expr} {body : List Stmt} {wi : TI} {g : TG} {tb : TS} {pos : Pos} (hp : PassesOwn (model X.prog X.w) X.A X.env X.xe) (hc : X.calm = true) (hi : PI X tg iter wi) (hg : PG X tg g) (hb : PSs X body tb)
    (hs : ∀ x, foldedSetIterable iter X.env x = pure x := by intro _; rfl) : PS X (.For tg iter body [] pos) (tFor wi g tb) := by
  intro pins s σ H D I h
  refine wpAny_For (thn (hi pins s σ H _ I h) fun v s1 h1 => thn h1 fun itv s2 h2 => ?_) hs
  obtain ⟨it, fp, tn, J, H2, e, I2, T, st2, f2, W, ⟨m0, w0⟩, turn⟩ := h2
  subst e
  have stat : ∀ {H' : Hp}, (∀ b ∈ fp, H' b = none) -> ∀ b ∈ fp, FpOk X pins H' b := fun hn b hb => ⟨hn b hb, (f2 b hb).2⟩
  refine codeAny_forLoop_any (fun n s' => ∃ i σ' H', Inv X pins σ' H' s' /\ tn i s'.heap /\ (∀ b ∈ fp, H' b = none) /\ W i n σ' H') ?_ m0 ⟨0, σ, H2, I2, st2, fun b hb => (f2 b hb).1, w0⟩
  rintro n s3 ⟨i, σ3, H3, I3, st3, fr3, w3⟩
  rcases turn i n σ3 H3 w3 with ⟨stop, qn⟩ | ⟨go, N, hN, step⟩
  · refine wpAny_passesOwn hp (thn (T.done X rfl rfl rfl hc i pins s3 σ3 H3 X.xe I3 (stat fr3) st3 stop) fun r s4 ⟨hr, I4⟩ => ?_)
    subst hr
    exact wpAny_execs_nil ⟨σ3, H3, I4, qn⟩
  · refine wpAny_passesOwn hp (thn (T.item X rfl rfl rfl hc i pins s3 σ3 H3 X.xe I3 (stat fr3) st3 go) fun r s4 ⟨u, hr, h4⟩ => ?_)
    subst hr
    refine wpAny_passesOwn hp (thn h4 fun _ s5 ⟨x, H5, I5, r5, y5, st5, fr5⟩ => ?_)
    have I5' := I5.pinned (stat fr5) (T.obj _ _ st5)
    refine wpAny_passesOwn hp (thn (hg _ s5 σ3 H5 x u _ I5' r5 (step x H5 y5)) fun _ s6 ⟨σ6, H6, I6, q6⟩ => ?_)
    refine wpAny_passesOwn hp (thn (hb _ s6 σ6 H6 _ I6 q6) fun f s7 q7 => ?_)
    have again : ∀ {σ7 : St} {H7 : Hp}, Inv X (pins ++ pinsAt fp s5.heap) σ7 H7 s7 -> N σ7 H7 -> ∃ m, m < n /\ ∃ i σ' H', Inv X pins σ' H' s7 /\ tn i s7.heap /\ (∀ b ∈ fp, H' b = none) /\ W i m σ' H' := fun {σ7 H7} I7 n7 => by
      obtain ⟨m', hm, w7⟩ := hN σ7 H7 n7
      refine ⟨m', hm, i + 1, σ7, H7, I7.unpinned, T.keep _ _ _ st5 fun b hb o e => (I7.pin (b, o) (List.mem_append_right _ (List.mem_append_right _ (mem_pinsAt hb e)))).1, fun b hb => ?_, w7⟩
      obtain ⟨o, e, d⟩ := T.obj _ _ st5 b hb
      exact (I7.pin (b, o) (List.mem_append_right _ (List.mem_append_right _ (mem_pinsAt hb e)))).2.1
    cases f with
    | next => obtain ⟨σ7, H7, I7, n7⟩ := q7; exact again I7 n7
    | cont => obtain ⟨σ7, H7, I7, n7⟩ := q7; exact again I7 n7
    | brk => obtain ⟨σ7, H7, I7, q7⟩ := q7; exact ⟨σ7, H7, I7.unpinned, q7⟩
    | ret v => obtain ⟨x7, σ7, H7, I7, r7, q7⟩ := q7; exact ⟨x7, σ7, H7, I7.unpinned, r7, q7⟩
end
theorem for_list {K : PySem.W.Frag} {a : Addr} {xs : List V} {g : TG} {tb : TS} {D : Ends} {σ : St} {H : Hp} (Pv : Nat -> St -> Hp -> Prop) (h0 : Pv 0 σ H) (hl : ∀ i σ H, i <= xs.length -> Pv i σ H -> SqL K H a xs)
    (hs : ∀ i x σ H, xs[i]? = some x -> Pv i σ H -> g x σ H fun σ2 H2 => tb { D with nx := Pv (i + 1), ct := Pv (i + 1), bk := D.nx } σ2 H2) (hd : ∀ σ H, Pv xs.length σ H -> D.nx σ H) :
    ∃ W : Nat -> Nat -> St -> Hp -> Prop, (∃ m, W 0 m σ H) /\ ∀ i m σ H, W i m σ H ->
      ((Itl K a).stop i H /\ D.nx σ H) ∨ ((Itl K a).go i H /\ ∃ N : St -> Hp -> Prop, (∀ σ' H', N σ' H' -> ∃ m', m' < m /\ W (i + 1) m' σ' H') /\ ∀ x H', (Itl K a).yld i H x H' -> g x σ H' fun σ2 H2 => tb { D with nx := N, ct := N, bk := D.nx } σ2 H2) := by
  refine ⟨fun i m σ H => m = xs.length - i /\ i <= xs.length /\ Pv i σ H, ⟨xs.length, by simp, Nat.zero_le _, h0⟩, ?_⟩
  rintro i m σ H ⟨rfl, hi, p⟩
  have q := hl i σ H hi p
  by_cases hlt : i < xs.length
  · refine .inr ⟨⟨xs, xs[i], q, by simp [hlt]⟩, Pv (i + 1), fun σ' H' p' => ⟨xs.length - (i + 1), by omega, rfl, hlt, p'⟩, fun x H' y => ?_⟩
    obtain ⟨e, y⟩ := y
    subst e
    exact hs i x σ _ (y xs q) p
  · have e : i = xs.length := by omega
    subst e
    exact .inl ⟨⟨xs, q, Nat.le_refl _⟩, hd σ H p⟩
theorem for_tup {K : PySem.W.Frag} {a : Addr} {xs : List V} {g : TG} {tb : TS} {D : Ends} {σ : St} {H : Hp} (Pv : Nat -> St -> Hp -> Prop) (h0 : Pv 0 σ H) (hl : ∀ i σ H, i <= xs.length -> Pv i σ H -> SqT K H a xs)
    (hs : ∀ i x σ H, xs[i]? = some x -> Pv i σ H -> g x σ H fun σ2 H2 => tb { D with nx := Pv (i + 1), ct := Pv (i + 1), bk := D.nx } σ2 H2) (hd : ∀ σ H, Pv xs.length σ H -> D.nx σ H) :
    ∃ W : Nat -> Nat -> St -> Hp -> Prop, (∃ m, W 0 m σ H) /\ ∀ i m σ H, W i m σ H ->
      ((Itt K a).stop i H /\ D.nx σ H) ∨ ((Itt K a).go i H /\ ∃ N : St -> Hp -> Prop, (∀ σ' H', N σ' H' -> ∃ m', m' < m /\ W (i + 1) m' σ' H') /\ ∀ x H', (Itt K a).yld i H x H' -> g x σ H' fun σ2 H2 => tb { D with nx := N, ct := N, bk := D.nx } σ2 H2) := by
  refine ⟨fun i m σ H => m = xs.length - i /\ i <= xs.length /\ Pv i σ H, ⟨xs.length, by simp, Nat.zero_le _, h0⟩, ?_⟩
  rintro i m σ H ⟨rfl, hi, p⟩
  have q := hl i σ H hi p
  by_cases hlt : i < xs.length
  · refine .inr ⟨⟨xs, xs[i], q, by simp [hlt]⟩, Pv (i + 1), fun σ' H' p' => ⟨xs.length - (i + 1), by omega, rfl, hlt, p'⟩, fun x H' y => ?_⟩
    obtain ⟨e, y⟩ := y
    subst e
    exact hs i x σ _ (y xs q) p
  · have e : i = xs.length := by omega
    subst e
    exact .inl ⟨⟨xs, q, Nat.le_refl _⟩, hd σ H p⟩
theorem for_range {lo : Int} {n : Nat} {g : TG} {tb : TS} {D : Ends} {σ : St} {H : Hp} (Pv : Nat -> St -> Hp -> Prop) (h0 : Pv 0 σ H)
    (hs : ∀ i σ H, i < n -> Pv i σ H -> g (.int (lo + i)) σ H fun σ2 H2 => tb { D with nx := Pv (i + 1), ct := Pv (i + 1), bk := D.nx } σ2 H2) (hd : ∀ σ H, Pv n σ H -> D.nx σ H) :
    ∃ W : Nat -> Nat -> St -> Hp -> Prop, (∃ m, W 0 m σ H) /\ ∀ i m σ H, W i m σ H ->
      ((Itr lo n).stop i H /\ D.nx σ H) ∨ ((Itr lo n).go i H /\ ∃ N : St -> Hp -> Prop, (∀ σ' H', N σ' H' -> ∃ m', m' < m /\ W (i + 1) m' σ' H') /\ ∀ x H', (Itr lo n).yld i H x H' -> g x σ H' fun σ2 H2 => tb { D with nx := N, ct := N, bk := D.nx } σ2 H2) := by
  refine ⟨fun i m σ H => m = n - i /\ i <= n /\ Pv i σ H, ⟨n, by simp, Nat.zero_le _, h0⟩, ?_⟩
  rintro i m σ H ⟨rfl, hi, p⟩
  by_cases hlt : i < n
  · refine .inr ⟨hlt, Pv (i + 1), fun σ' H' p' => ⟨n - (i + 1), by omega, rfl, hlt, p'⟩, fun x H' y => ?_⟩
    obtain ⟨e, y⟩ := y
    subst e y
    exact hs i σ _ hlt p
  · have e : i = n := by omega
    subst e
    exact .inl ⟨Nat.le_refl _, hd σ H p⟩
theorem while_by {c : TT} {tb : TS} {D : Ends} {σ : St} {H : Hp} (Pv : St -> Hp -> Prop) (μ : St -> Hp -> Nat) (h0 : Pv σ H)
    (hs : ∀ σ H, Pv σ H -> c σ H fun b H1 => if b = true then tb { D with nx := fun σ' H' => Pv σ' H' /\ μ σ' H' < μ σ H, ct := fun σ' H' => Pv σ' H' /\ μ σ' H' < μ σ H, bk := D.nx } σ H1 else D.nx σ H1)
    (mono : ∀ σ H Q Q', (∀ b H1, Q b H1 -> Q' b H1) -> c σ H Q -> c σ H Q') : tWhile c tb D σ H := by
  refine ⟨fun m σ H => m = μ σ H /\ Pv σ H, ⟨_, rfl, h0⟩, ?_⟩
  rintro m σ H ⟨rfl, p⟩
  refine mono σ H _ _ (fun b H1 q => ?_) (hs σ H p)
  cases b with
  | true => exact ⟨_, fun σ' H' ⟨p', l⟩ => ⟨_, l, rfl, p'⟩, q⟩
  | false => exact q
end L2
namespace L2
open PySem PySem.Spec PyProof.Rows
abbrev R2 := V -> V -> Hp -> VK -> Prop
def OpR (X : Cx) (f : Value -> Value -> Sem Value) (r : R2) : Prop :=
  ∀ (pins : List (Addr × Obj)) (s : Shared) (σ : St) (H : Hp) (x y : V) (v u : Value) (Q : VK), Inv X pins σ H s -> RelV x v -> RelV y u -> r x y H Q ->
    wpAny (model X.prog X.w) X.A (f v u) (EP X pins σ Q) X.xe s
def UnR (X : Cx) (f : Value -> Sem Value) (r : V -> Hp -> VK -> Prop) : Prop :=
  ∀ (pins : List (Addr × Obj)) (s : Shared) (σ : St) (H : Hp) (x : V) (v : Value) (Q : VK), Inv X pins σ H s -> RelV x v -> r x H Q ->
    wpAny (model X.prog X.w) X.A (f v) (EP X pins σ Q) X.xe s
def CallR (X : Cx) (f : Value) (r : List V -> Hp -> VK -> Prop) : Prop :=
  ∀ (pins : List (Addr × Obj)) (s : Shared) (σ : St) (H : Hp) (xs : List V) (us : List Value) (Q : VK), Inv X pins σ H s -> Vals xs us -> r xs H Q ->
    wpAny (model X.prog X.w) X.A (call f us) (EP X pins σ Q) X.xe s
def tOp (r : R2) (ta tb : TE) : TE := fun σ H Q => ta σ H fun x H1 => tb σ H1 fun y H2 => r x y H2 Q
def tUn (r : V -> Hp -> VK -> Prop) (ta : TE) : TE := fun σ H Q => ta σ H fun x H1 => r x H1 Q
def rI (C : Int -> Int -> Prop) (g : Int -> Int -> V) : R2 := fun x y H Q => ∃ i j, x = .int i /\ y = .int j /\ C i j /\ Q (g i j) H
def rI0 (g : Int -> Int -> V) : R2 := fun x y H Q => ∃ i j, x = .int i /\ y = .int j /\ Q (g i j) H
def rU (g : Int -> V) : V -> Hp -> VK -> Prop := fun x H Q => ∃ i, x = .int i /\ Q (g i) H
section
variable {X : Cx} {a b c : Expr} {ta tb tc : TE} {pos : Pos}
theorem binT (ha : PE X a ta) (hb : PE X b tb) {pins : List (Addr × Obj)} {s : Shared} {σ : St} {H : Hp} {R : V -> V -> Hp -> Prop} (I : Inv X pins σ H s)
    (h : ta σ H fun x H1 => tb σ H1 fun y H2 => R x y H2) {Q : Value -> Shared -> Prop} {f : Value -> Value -> Sem Value}
    (hf : ∀ v u s2 x y H2, Inv X pins σ H2 s2 -> RelV x v -> RelV y u -> R x y H2 -> wpAny (model X.prog X.w) X.A (f v u) Q X.xe s2) :
    wpAny (model X.prog X.w) X.A (eval a X.env) (fun v s₁ => wpAny (model X.prog X.w) X.A (eval b X.env) (fun u s₂ => wpAny (model X.prog X.w) X.A (f v u) Q X.xe s₂) X.xe s₁) X.xe s := by
  refine thn (ha pins s σ H _ I h) fun v s1 ⟨x, H1, I1, r1, q1⟩ => ?_
  refine thn (hb pins s1 σ H1 _ I1 q1) fun u s2 ⟨y, H2, I2, r2, q2⟩ => ?_
  exact hf v u s2 x y H2 I2 r1 r2 q2
theorem pe_op {op : Operator} {r : R2} (ho : OpR X (binaryOp op) r) (ha : PE X a ta) (hb : PE X b tb) : PE X (.BinOp a op b pos) (tOp r ta tb) := by
  intro pins s σ H Q I h
  exact wpAny_BinOp (binT ha hb I h fun v u s2 x y H2 I2 rx ry q => ho pins s2 σ H2 x y v u Q I2 rx ry q)
theorem pe_un {op : UnaryOp} {r : V -> Hp -> VK -> Prop} (ho : UnR X (unaryOp op) r) (ha : PE X a ta) : PE X (.UnaryOp op a pos) (tUn r ta) := by
  intro pins s σ H Q I h
  exact UnaryOp_ (thn (ha pins s σ H _ I h) fun v s1 ⟨x, H1, I1, r1, q1⟩ => ho pins s1 σ H1 x v Q I1 r1 q1)
theorem opI {f : Value -> Value -> Sem Value} {C : Int -> Int -> Prop} {g : Int -> Int -> Int}
    (rule : ∀ (i j : Int) (t u : Tok) (s : Shared) (Q : Value -> Shared -> Prop) (E : Value -> Shared -> Prop), C i j -> Q (.int (g i j) s.toks) { s with toks := s.toks + 1 } -> wpAny (model X.prog X.w) X.A (f (.int i t) (.int j u)) Q E s) :
    OpR X f (rI C fun i j => .int (g i j)) := by
  intro pins s σ H x y v u Q I rx ry h
  obtain ⟨i, j, rfl, rfl, hc, q⟩ := h
  obtain ⟨t, rfl⟩ := rx
  obtain ⟨t', rfl⟩ := ry
  exact rule i j t t' s _ _ hc ⟨.int (g i j), H, I.tok _, ⟨_, rfl⟩, q⟩
theorem opI0 {f : Value -> Value -> Sem Value} {g : Int -> Int -> Int}
    (rule : ∀ (i j : Int) (t u : Tok) (s : Shared) (Q : Value -> Shared -> Prop) (E : Value -> Shared -> Prop), Q (.int (g i j) s.toks) { s with toks := s.toks + 1 } -> wpAny (model X.prog X.w) X.A (f (.int i t) (.int j u)) Q E s) :
    OpR X f (rI0 fun i j => .int (g i j)) := by
  intro pins s σ H x y v u Q I rx ry h
  obtain ⟨i, j, rfl, rfl, q⟩ := h
  obtain ⟨t, rfl⟩ := rx
  obtain ⟨t', rfl⟩ := ry
  exact rule i j t t' s _ _ ⟨.int (g i j), H, I.tok _, ⟨_, rfl⟩, q⟩
theorem opB0 {f : Value -> Value -> Sem Value} {g : Int -> Int -> Bool}
    (rule : ∀ (i j : Int) (t u : Tok) (s : Shared) (Q : Value -> Shared -> Prop) (E : Value -> Shared -> Prop), Q (.bool (g i j)) s -> wpAny (model X.prog X.w) X.A (f (.int i t) (.int j u)) Q E s) :
    OpR X f (rI0 fun i j => .bl (g i j)) := by
  intro pins s σ H x y v u Q I rx ry h
  obtain ⟨i, j, rfl, rfl, q⟩ := h
  obtain ⟨t, rfl⟩ := rx
  obtain ⟨t', rfl⟩ := ry
  exact rule i j t t' s _ _ ⟨.bl (g i j), H, I, rfl, q⟩
def CDiv (i j : Int) : Prop := 0 < j /\ j < 1073741824
def CMul (i j : Int) : Prop := (-(2 ^ 64) < i /\ i < 2 ^ 64) ∨ (-(2 ^ 64) < j /\ j < 2 ^ 64)
theorem CMul.ok {i j : Int} (h : CMul i j) : IntMulOk i j := by
  rcases h with ⟨h1, h2⟩ | ⟨h1, h2⟩
  · exact .of_left (intBits_le_64 h1 h2)
  · exact .of_right (intBits_le_64 h1 h2)
theorem op_add : OpR X (binaryOp .Add) (rI0 fun i j => .int (i + j)) := opI0 fun _ _ _ _ _ _ _ q => add_int q
theorem op_sub : OpR X (binaryOp .Sub) (rI0 fun i j => .int (i - j)) := opI0 fun _ _ _ _ _ _ _ q => sub_int q
theorem op_mul : OpR X (binaryOp .Mult) (rI CMul fun i j => .int (i * j)) := opI fun _ _ _ _ _ _ _ hc q => mul_int q hc.ok
theorem op_fdiv : OpR X (binaryOp .FloorDiv) (rI CDiv fun i j => .int (i / j)) := opI fun i j _ _ _ _ _ hc q => by
  have h1 : (0 : Int) < j := hc.1
  have h2 : j < 1073741824 := hc.2
  exact floordiv_int (by omega) (by rw [Int.fdiv_eq_ediv_of_nonneg i (by omega)]; exact q) (.inl (PyProof.noPylong_small (by omega)))
theorem op_mod : OpR X (binaryOp .Mod) (rI (fun _ j => 0 < j) fun i j => .int (i % j)) := opI fun i j _ _ _ _ _ hc q => by
  have h1 : (0 : Int) < j := hc
  exact mod_int' (by omega) (by rw [Int.fmod_eq_emod_of_nonneg i (by omega)]; exact q)
theorem op_modN : OpR X (binaryOp .Mod) (rI (fun _ j => j ≠ 0) fun i j => .int (i.fmod j)) := opI fun _ _ _ _ _ _ _ hc q => mod_int' hc q
theorem unI {f : Value -> Sem Value} {g : Int -> Int}
    (rule : ∀ (i : Int) (t : Tok) (s : Shared) (Q : Value -> Shared -> Prop) (E : Value -> Shared -> Prop), Q (.int (g i) s.toks) { s with toks := s.toks + 1 } -> wpAny (model X.prog X.w) X.A (f (.int i t)) Q E s) :
    UnR X f (rU fun i => .int (g i)) := by
  intro pins s σ H x v Q I rx h
  obtain ⟨i, rfl, q⟩ := h
  obtain ⟨t, rfl⟩ := rx
  exact rule i t s _ _ ⟨.int (g i), H, I.tok _, ⟨_, rfl⟩, q⟩
theorem un_neg : UnR X (unaryOp .USub) (rU fun i => .int (-i)) := unI fun _ _ _ _ _ q => neg_int q
end
def scal : V -> V -> Bool
  | .non, .non => true | .non, .int _ => true | .int _, .non => true | .non, .bl _ => true | .bl _, .non => true | .non, .str _ => true | .str _, .non => true
  | .int _, .int _ => true | .bl _, .bl _ => true | .str _, .str _ => true | .byt _, .byt _ => true
  | .int _, .str _ => true | .str _, .int _ => true | .bl _, .str _ => true | .str _, .bl _ => true
  | _, _ => false
def rEq : R2 := fun x y H Q => scal x y = true /\ Q (.bl (decide (x = y))) H
def rNe : R2 := fun x y H Q => scal x y = true /\ Q (.bl (!decide (x = y))) H
theorem dec_int {i j : Int} : decide (V.int i = V.int j) = (i == j) := by
  rw [Bool.eq_iff_iff]
  simp
theorem dec_bl {i j : Bool} : decide (V.bl i = V.bl j) = (i == j) := by
  rw [Bool.eq_iff_iff]
  simp
theorem dec_str {i j : Str} : decide (V.str i = V.str j) = (i == j) := by
  rw [Bool.eq_iff_iff]
  simp
theorem dec_byt {i j : Array UInt8} : decide (V.byt i = V.byt j) = (i.toList == j.toList) := by
  rw [Bool.eq_iff_iff]
  cases i
  cases j
  simp
section
variable {X : Cx} {a b c : Expr} {ta tb tc : TE} {pos : Pos}
theorem fin_bl {pins : List (Addr × Obj)} {σ : St} {H : Hp} {s : Shared} {Q : VK} {k k' : Bool} (I : Inv X pins σ H s) (q : Q (.bl k) H) (e : k = k') : EP X pins σ Q (.bool k') s := by
  subst e
  exact ⟨.bl k, H, I, rfl, q⟩
theorem op_eq : OpR X (compareOp .Eq) rEq := by
  intro pins s σ H x y v u Q I rx ry h
  obtain ⟨hs, q⟩ := h
  cases x with
  | non =>
    cases rx
    cases y with
    | non => cases ry; exact PySem.EqNone.eq_none_none (fin_bl I q (by simp))
    | bl j => cases ry; exact PySem.EqNone.eq_none_bool (fin_bl I q (by simp))
    | int j => obtain ⟨t', rfl⟩ := ry; exact PySem.EqNone.eq_none_int (fin_bl I q (by simp))
    | str j => obtain ⟨t', rfl⟩ := ry; exact PySem.EqNone.eq_none_str (fin_bl I q (by simp))
    | _ => exact absurd (show false = true from hs) Bool.false_ne_true
  | bl i =>
    cases rx
    cases y with
    | non => cases ry; exact PySem.EqNone.eq_bool_none (fin_bl I q (by simp))
    | bl j => cases ry; exact eq_bool (fin_bl I q dec_bl)
    | str j => obtain ⟨t', rfl⟩ := ry; exact PySem.EqMixed.eq_bool_str (fin_bl I q (by simp))
    | _ => exact absurd (show false = true from hs) Bool.false_ne_true
  | int i =>
    obtain ⟨t, rfl⟩ := rx
    cases y with
    | non => cases ry; exact PySem.EqNone.eq_int_none (fin_bl I q (by simp))
    | int j => obtain ⟨t', rfl⟩ := ry; exact eq_int (fin_bl I q dec_int)
    | str j => obtain ⟨t', rfl⟩ := ry; exact PySem.EqMixed.eq_int_str (fin_bl I q (by simp))
    | _ => exact absurd (show false = true from hs) Bool.false_ne_true
  | str i =>
    obtain ⟨t, rfl⟩ := rx
    cases y with
    | non => cases ry; exact PySem.EqNone.eq_str_none (fin_bl I q (by simp))
    | bl j => cases ry; exact PySem.EqMixed.eq_str_bool (fin_bl I q (by simp))
    | int j => obtain ⟨t', rfl⟩ := ry; exact PySem.EqMixed.eq_str_int (fin_bl I q (by simp))
    | str j => obtain ⟨t', rfl⟩ := ry; exact eq_str (fin_bl I q dec_str)
    | _ => exact absurd (show false = true from hs) Bool.false_ne_true
  | byt i =>
    obtain ⟨t, rfl⟩ := rx
    cases y with
    | byt j => obtain ⟨t', rfl⟩ := ry; exact PySem.W.eq_bytes (fin_bl I q dec_byt)
    | _ => exact absurd (show false = true from hs) Bool.false_ne_true
  | _ => cases y <;> exact absurd (show false = true from hs) Bool.false_ne_true
theorem op_ne : OpR X (compareOp .NotEq) rNe := by
  intro pins s σ H x y v u Q I rx ry h
  obtain ⟨hs, q⟩ := h
  cases x with
  | non =>
    cases rx
    cases y with
    | non => cases ry; exact PySem.EqNone.ne_none_none (fin_bl I q (by simp))
    | bl j => cases ry; exact PySem.EqNone.ne_none_bool (fin_bl I q (by simp))
    | int j => obtain ⟨t', rfl⟩ := ry; exact PySem.EqNone.ne_none_int (fin_bl I q (by simp))
    | str j => obtain ⟨t', rfl⟩ := ry; exact PySem.EqNone.ne_none_str (fin_bl I q (by simp))
    | _ => exact absurd (show false = true from hs) Bool.false_ne_true
  | bl i =>
    cases rx
    cases y with
    | non => cases ry; exact PySem.EqNone.ne_bool_none (fin_bl I q (by simp))
    | bl j => cases ry; exact ne_bool (fin_bl I q (congrArg not dec_bl))
    | str j => obtain ⟨t', rfl⟩ := ry; exact PySem.EqMixed.ne_bool_str (fin_bl I q (by simp))
    | _ => exact absurd (show false = true from hs) Bool.false_ne_true
  | int i =>
    obtain ⟨t, rfl⟩ := rx
    cases y with
    | non => cases ry; exact PySem.EqNone.ne_int_none (fin_bl I q (by simp))
    | int j => obtain ⟨t', rfl⟩ := ry; exact ne_int (fin_bl I q (congrArg not dec_int))
    | str j => obtain ⟨t', rfl⟩ := ry; exact PySem.EqMixed.ne_int_str (fin_bl I q (by simp))
    | _ => exact absurd (show false = true from hs) Bool.false_ne_true
  | str i =>
    obtain ⟨t, rfl⟩ := rx
    cases y with
    | non => cases ry; exact PySem.EqNone.ne_str_none (fin_bl I q (by simp))
    | bl j => cases ry; exact PySem.EqMixed.ne_str_bool (fin_bl I q (by simp))
    | int j => obtain ⟨t', rfl⟩ := ry; exact PySem.EqMixed.ne_str_int (fin_bl I q (by simp))
    | str j => obtain ⟨t', rfl⟩ := ry; exact ne_str (fin_bl I q (congrArg not dec_str))
    | _ => exact absurd (show false = true from hs) Bool.false_ne_true
  | byt i =>
    obtain ⟨t, rfl⟩ := rx
    cases y with
    | byt j => obtain ⟨t', rfl⟩ := ry; exact PySem.W.ne_bytes (fin_bl I q (congrArg not dec_byt))
    | _ => exact absurd (show false = true from hs) Bool.false_ne_true
  | _ => cases y <;> exact absurd (show false = true from hs) Bool.false_ne_true
theorem op_lt : OpR X (compareOp .Lt) (rI0 fun i j => .bl (decide (i < j))) := opB0 fun _ _ _ _ _ _ _ q => lt_int q
theorem op_le : OpR X (compareOp .LtE) (rI0 fun i j => .bl (decide (i <= j))) := opB0 fun _ _ _ _ _ _ _ q => le_int q
theorem op_gt : OpR X (compareOp .Gt) (rI0 fun i j => .bl (decide (j < i))) := opB0 fun _ _ _ _ _ _ _ q => gt_int q
theorem op_isN : OpR X (compareOp .Is) (fun x y H Q => y = .non /\ Q (.bl (decide (x = .non))) H) := by
  intro pins s σ H x y v u Q I rx ry h
  obtain ⟨rfl, q⟩ := h
  cases ry
  refine is_none_gen (fin_bl I q ?_)
  cases x <;> first
    | (cases rx; rfl)
    | (obtain ⟨t, rfl⟩ := rx; rfl)
theorem nomark (b : Expr) {op : CmpOp} (h : op ≠ .In := by decide) (h2 : op ≠ .NotIn := by decide) : behindInMarks op b = false := by
  have e1 : (op == CmpOp.In) = false := by cases op <;> first | rfl | exact absurd rfl h
  have e2 : (op == CmpOp.NotIn) = false := by cases op <;> first | rfl | exact absurd rfl h2
  cases b <;> simp [behindInMarks, e1, e2]
theorem pe_cmpR {op : CmpOp} {r : R2} (ho : OpR X (compareOp op) r) (ha : PE X a ta) (hb : PE X b tb) (hm : behindInMarks op b = false) : PE X (.Compare a [op] [b] pos) (tOp r ta tb) := by
  intro pins s σ H Q I h
  exact wpAny_Compare1 (binT ha hb I h fun v u s2 x y H2 I2 rx ry q => ho pins s2 σ H2 x y v u Q I2 rx ry q) hm
def tTest (t : TE) : TT := fun σ H Q => t σ H fun x H' => ∃ k, x = .bl k /\ Q k H'
theorem pt_cmpR {op : CmpOp} {r : R2} (ho : OpR X (compareOp op) r) (ha : PE X a ta) (hb : PE X b tb) (hm : behindInMarks op b = false) : PT X (.Compare a [op] [b] pos) (tTest (tOp r ta tb)) := by
  intro pins s σ H Q I h
  refine wpAny_isTrue_Compare1 (thn (ha pins s σ H _ I h) fun v s1 ⟨x, H1, I1, r1, q1⟩ => thn (hb pins s1 σ H1 _ I1 q1) fun u s2 ⟨y, H2, I2, r2, q2⟩ =>
    thn (ho pins s2 σ H2 x y v u _ I2 r1 r2 q2) fun c s3 ⟨z, H3, I3, r3, k, e, q3⟩ => ?_) hm
  subst e
  cases r3
  exact wpAny_truthy_bool ⟨H3, I3, q3⟩
def tChain (r r' : R2) (ta tb tc : TE) : TE := fun σ H Q => ta σ H fun x H1 => tb σ H1 fun y H2 => r x y H2 fun z H3 => ∃ k, z = .bl k ∧
  (if k = true then tc σ H3 fun w' H4 => r' y w' H4 Q else Q (.bl false) H3)
theorem pe_chain {op op' : CmpOp} {r r' : R2} (ho : OpR X (compareOp op) r) (ho' : OpR X (compareOp op') r') (ha : PE X a ta) (hb : PE X b tb) (hc : PE X c tc)
    (hm : lastMarks [op, op'] [b, c] = false := by with_unfolding_all rfl) : PE X (.Compare a [op, op'] [b, c] pos) (tChain r r' ta tb tc) := by
  intro pins s σ H Q I h
  refine Compare_chain (thn (ha pins s σ H _ I h) fun v s1 ⟨x, H1, I1, r1, q1⟩ => chain_link (thn (hb pins s1 σ H1 _ I1 q1) fun u s2 ⟨y, H2, I2, r2, q2⟩ =>
    thn (ho pins s2 σ H2 x y v u _ I2 r1 r2 q2) fun d s3 ⟨z, H3, I3, r3, k, e, q3⟩ => ?_)) hm
  subst e
  cases r3
  refine wpAny_truthy_bool ?_
  cases k with
  | false => exact ite_ff ⟨.bl false, H3, I3, rfl, q3⟩
  | true => exact ite_tt (chain_last (thn (hc pins s3 σ H3 _ I3 q3) fun w' s4 ⟨z', H4, I4, r4, q4⟩ => ho' pins s4 σ H4 y z' u w' Q I4 r2 r4 q4))
theorem pt_chain {op op' : CmpOp} {r r' : R2} (ho : OpR X (compareOp op) r) (ho' : OpR X (compareOp op') r') (ha : PE X a ta) (hb : PE X b tb) (hc : PE X c tc)
    (hm : lastMarks [op, op'] [b, c] = false := by with_unfolding_all rfl) : PT X (.Compare a [op, op'] [b, c] pos) (tTest (tChain r r' ta tb tc)) := by
  intro pins s σ H Q I h
  refine isTrue_chain (thn (ha pins s σ H _ I h) fun v s1 ⟨x, H1, I1, r1, q1⟩ => test_link (thn (hb pins s1 σ H1 _ I1 q1) fun u s2 ⟨y, H2, I2, r2, q2⟩ =>
    thn (ho pins s2 σ H2 x y v u _ I2 r1 r2 q2) fun d s3 ⟨z, H3, I3, r3, k, e, q3⟩ => ?_)) hm
  subst e
  cases r3
  refine wpAny_truthy_bool ?_
  cases k with
  | false =>
    obtain ⟨k', e', q'⟩ := q3
    cases e'
    exact ite_ff ⟨H3, I3, q'⟩
  | true =>
    refine ite_tt (test_last (thn (hc pins s3 σ H3 _ I3 q3) fun w' s4 ⟨z', H4, I4, r4, q4⟩ => thn (ho' pins s4 σ H4 y z' u w' _ I4 r2 r4 q4) fun d' s5 ⟨z2, H5, I5, r5, k2, e2, q5⟩ => ?_))
    subst e2
    cases r5
    exact wpAny_truthy_bool ⟨H5, I5, q5⟩
theorem line63 : (sizeLine : Nat) < 2 ^ 63 := by rw [sizeLine_eq]; decide
theorem vals1 {x : V} {us : List Value} (r : Vals [x] us) : ∃ u, us = [u] /\ RelV x u := by
  cases r with
  | cons r1 r2 => cases r2; exact ⟨_, rfl, r1⟩
theorem vals2 {x y : V} {us : List Value} (r : Vals [x, y] us) : ∃ u w', us = [u, w'] /\ RelV x u /\ RelV y w' := by
  cases r with
  | cons r1 r2 =>
    cases r2 with
    | cons r3 r4 => cases r4; exact ⟨_, _, rfl, r1, r3⟩
theorem call_abs : CallR X (.builtin "abs") (fun xs H Q => ∃ i, xs = [.int i] /\ Q (.int (if i < 0 then -i else i)) H) := by
  intro pins s σ H xs us Q I r h
  obtain ⟨i, rfl, q⟩ := h
  obtain ⟨u, rfl, t, rfl⟩ := vals1 r
  exact call_abs_int fun u tk => ⟨.int (if i < 0 then -i else i), H, I.tok _, ⟨_, rfl⟩, q⟩
theorem call_max2 (hc : X.calm = true) : CallR X (.builtin "max") (fun xs H Q => ∃ i j, xs = [.int i, .int j] /\ Q (.int (if j > i then j else i)) H) := by
  intro pins s σ H xs us Q I r h
  obtain ⟨i, j, rfl, q⟩ := h
  obtain ⟨u, w', rfl, ⟨t, rfl⟩, ⟨t', rfl⟩⟩ := vals2 r
  refine max_two_ints (I.ok.hd hc) fun h' tk k => ⟨_, H, I.kept k, ?_, q⟩
  by_cases hj : j > i
  · rw [if_pos hj, if_pos hj]; exact ⟨_, rfl⟩
  · rw [if_neg hj, if_neg hj]; exact ⟨_, rfl⟩
theorem call_min2 (hc : X.calm = true) : CallR X (.builtin "min") (fun xs H Q => ∃ i j, xs = [.int i, .int j] /\ Q (.int (if j < i then j else i)) H) := by
  intro pins s σ H xs us Q I r h
  obtain ⟨i, j, rfl, q⟩ := h
  obtain ⟨u, w', rfl, ⟨t, rfl⟩, ⟨t', rfl⟩⟩ := vals2 r
  refine min_two_ints (I.ok.hd hc) fun h' tk k => ⟨_, H, I.kept k, ?_, q⟩
  by_cases hj : j < i
  · rw [if_pos hj, if_pos hj]; exact ⟨_, rfl⟩
  · rw [if_neg hj, if_neg hj]; exact ⟨_, rfl⟩
end
end L2
namespace L2
open PySem PySem.Spec PyProof.Rows
structure ObjM (h : Heap) (x dx C : Addr) (mA : Str -> Option Value) : Prop where
  obj : h.get? x = some (PySem.W.instObj C dx)
  ns : h.Ns1 dx mA
  ne : dx ≠ x
theorem lookIn_ns {h : Heap} {dx : Addr} {mA : Str -> Option Value} (n : h.Ns1 dx mA) : ∃ od, h.get? dx = some od /\ ∀ name, PySem.W.lookIn name od = some (mA name) := by
  obtain ⟨o, es, ep, ho, hd, hk, _, hm⟩ := n
  refine ⟨o, ho, fun name => ?_⟩
  have e := hm name
  unfold nsFind findBy at e
  rw [<- Array.find?_toList] at e
  unfold PySem.W.lookIn
  rw [hd]
  dsimp only
  split
  · rename_i y q
    rw [q] at e
    exact congrArg some e
  · rename_i q
    rw [q] at e
    have a : es.toList.any (·.refKey) = false := by
      rw [List.any_eq_false]
      intro y hy
      obtain ⟨z, t, hkey⟩ := hk y (Array.mem_toList_iff.mp hy)
      simp [DictEntry.refKey, hkey]
    have a' : ¬ es.toList.any (·.refKey) = true := by rw [a]; exact Bool.false_ne_true
    rw [if_neg a']
    exact congrArg some e
theorem ObjM.look {h : Heap} {x dx C : Addr} {mA : Str -> Option Value} (I : ObjM h x dx C mA) : ∃ od, PySem.W.InstAt h x (PySem.W.instObj C dx) C (some od) /\ ∀ name, PySem.W.lookIn name od = some (mA name) :=
  let ⟨od, ho, hl⟩ := lookIn_ns I.ns
  ⟨od, ⟨I.obj, rfl, rfl, ho⟩, hl⟩
section
variable {prog : Program} {w : World} {A : Around} {E : Value -> Shared -> Prop} {s : Shared} {K : PySem.W.Frag} {x dx C f : Addr} {mA : Str -> Option Value} {name : Str} {v : Value}
theorem get_map {expr : Bool} {Q : Value -> Shared -> Prop} (X : K.In s.heap) (I : ObjM s.heap x dx C mA) (hg : PySem.W.plainGet K C name = true) (hh : PySem.W.hasDictIn K C = true)
    (ha : PySem.W.findIn K (.ref C) name = some none) (hv : mA name = some v) (hv' : PySem.W.handedIn v = true) (h : Q v { s with toks := s.toks + 1 }) :
    wpAny (model prog w) A (getAttr (.ref x) name expr) Q E s := by
  obtain ⟨od, J, hl⟩ := I.look
  exact PySem.W.get_value X J (PySem.W.plainGet_of hg).1 (PySem.W.findObj_own hh ha rfl (by rw [hl, hv])) hv' h
theorem get_meth {pl : Sem Bool} {Q : Value × List Value -> Shared -> Prop} (X : K.In s.heap) (I : ObjM s.heap x dx C mA) (hg : PySem.W.plainGet K C name = true)
    (hf : PySem.W.findIn K (.ref C) name = some (some (.ref f))) (ht : PySem.W.isFn K (.ref f) = true) (hv : mA name = none) (h : Q (.ref f, [.ref x]) s) :
    wpAny (model prog w) A (getMethod (.ref x) name pl) Q E s := by
  obtain ⟨od, J, hl⟩ := I.look
  exact PySem.W.method_fn X J (PySem.W.plainGet_of hg).1 (PySem.W.plainGet_of hg).2 hf (beq_iff_eq.mp ht) (by show (PySem.W.lookIn name od).map (·.isSome) = some false; rw [hl, hv]; rfl) h
theorem set_map {ns : List Str} {Q : Unit -> Shared -> Prop} (X : K.In s.heap) (I : ObjM s.heap x dx C mA)
    (hs : PySem.W.findIn K (.ref C) "__setattr__" = some (some (.builtin "object.__setattr__"))) (hp : PySem.W.plainOver K C = true) (ht : PySem.W.takerIn K C name = some none) (hh : PySem.W.hasDictIn K C = true)
    (hw : PySem.Within mA ns) (hsz : ns.length <= sizeLine)
    (h : ∀ h', ObjM h' x dx C (fun y => if y = name then some v else mA y) -> Heap.SameBut dx s.heap h' -> Q () { s with heap := h', toks := s.toks + 2 }) :
    wpAny (model prog w) A (setAttr (.ref x) name v) Q E s := by
  obtain ⟨od, J, hl⟩ := I.look
  refine PySem.W.set_plain X J hs (PySem.W.osa_open (s := { s with toks := s.toks + 1 }) (r := none) X J hp ht fun b => ?_)
  obtain ⟨cd, hc, hd'⟩ := PySem.W.any_some hh
  have hx : s.heap.get? x = some ⟨.ref C, some dx, .plain, #[]⟩ := I.obj
  refine wpAny_bind (wpAny_pure (wpAny_bind (wpAny_bind (wpAny_loadPart hx (wpAny_bind (PySem.W.Looks.here (s := { s with toks := s.toks + 1 }) (PySem.W.looks_clsIn X hc) ?_))))))
  rw [hd']
  refine wpAny_pure (a := some dx) (wpAny_bind (wpAny_pure (wpAny_bind ?_)))
  refine wpAny_nsSet1 (s := { s with toks := s.toks + 1 }) I.ns fun h' hn2 hs2 => ?_
  obtain ⟨oD, esD, epD, hoD, hdD, hcD⟩ := hn2.count (PySem.Within.cons name v hw)
  refine wpAny_bind (wpAny_lookBehind hoD (by rw [hdD]; exact pastItsLine_dict (Nat.le_trans hcD (by rw [List.length_cons]; omega))) ?_)
  exact wpAny_pure (h _ ⟨(hs2.2 _ (Ne.symm I.ne)).trans I.obj, hn2, I.ne⟩ hs2)
theorem make_map {R : Result -> Shared -> Prop} {vs : List Value} {kw : List (Str × Value)} (X : K.In s.heap) (hm : PySem.W.makesIn K C = true)
    (hi : PySem.W.findIn K (.ref C) "__init__" = some (some (.ref f))) (hf : PySem.W.typeIn K (.ref f) = some (.type "function"))
    (h : codeAny (model prog w) (A.under (.builtin "type.__call__" ⟨.ref C :: vs, kw⟩)) (.call (.ref f) ⟨.ref (s.heap.objs.size + 1) :: vs, kw⟩) (PySem.W.InitBack (s.heap.objs.size + 1) R)
      { s with heap := (s.heap.push PySem.W.emptyDict).push (PySem.W.instObj C s.heap.objs.size) }) :
    codeAny (model prog w) A (.call (.ref C) ⟨vs, kw⟩) R s := by
  obtain ⟨hh, g, d, t, os⟩ := s
  exact PySem.W.make_core (PySem.W.makes_of X hm) (PySem.W.looks_findIn X hi) (fun self => PySem.W.bind_fn X self hf) (.inl rfl) h
end
def putF (f : Str) (v : V) : List (Str × V) -> List (Str × V)
  | [] => [(f, v)]
  | (g, x) :: r => if g = f then (g, v) :: r else (g, x) :: putF f v r
theorem lookup_putF (f g : Str) (v : V) : ∀ fs : List (Str × V), (putF f v fs).lookup g = if g = f then some v else fs.lookup g
  | [] => by
    show List.lookup g [(f, v)] = _
    by_cases h : g = f
    · have hb : (g == f) = true := beq_iff_eq.mpr h
      simp only [List.lookup, hb, if_pos h]
    · have hb : (g == f) = false := beq_eq_false_iff_ne.mpr h
      simp only [List.lookup, hb, if_neg h]
  | (k, x) :: r => by
    have ih := lookup_putF f g v r
    rw [show putF f v ((k, x) :: r) = (if k = f then (k, v) :: r else (k, x) :: putF f v r) from rfl]
    by_cases hk : k = f
    · rw [if_pos hk]
      by_cases h : g = k
      · have hb : (g == k) = true := beq_iff_eq.mpr h
        simp only [List.lookup, hb, if_pos (h.trans hk)]
      · have hb : (g == k) = false := beq_eq_false_iff_ne.mpr h
        simp only [List.lookup, hb, if_neg (fun e : g = f => h (e.trans hk.symm))]
    · rw [if_neg hk]
      by_cases h : g = k
      · have hb : (g == k) = true := beq_iff_eq.mpr h
        simp only [List.lookup, hb, if_neg (fun e : g = f => hk (h.symm.trans e))]
      · have hb : (g == k) = false := beq_eq_false_iff_ne.mpr h
        simp only [List.lookup, hb]
        exact ih
theorem keys_putF (f : Str) (v : V) : ∀ fs : List (Str × V), f ∈ (putF f v fs).map (·.1) /\ ∀ g, g ∈ fs.map (·.1) -> g ∈ (putF f v fs).map (·.1)
  | [] => ⟨by simp [putF], fun g h => by simp at h⟩
  | (k, x) :: r => by
    obtain ⟨i1, i2⟩ := keys_putF f v r
    rw [show putF f v ((k, x) :: r) = (if k = f then (k, v) :: r else (k, x) :: putF f v r) from rfl]
    by_cases hk : k = f
    · rw [if_pos hk]
      subst hk
      exact ⟨by simp, fun g h => by simpa using h⟩
    · rw [if_neg hk]
      refine ⟨?_, fun g h => ?_⟩
      · rw [List.map_cons]
        exact List.mem_cons_of_mem _ i1
      · rw [List.map_cons] at h ⊢
        rcases List.mem_cons.mp h with e | e
        · exact List.mem_cons.mpr (.inl e)
        · exact List.mem_cons_of_mem _ (i2 g e)
theorem length_putF (f : Str) (v : V) : ∀ fs : List (Str × V), (putF f v fs).length <= fs.length + 1
  | [] => by simp [putF]
  | (k, x) :: r => by
    have ih := length_putF f v r
    rw [show putF f v ((k, x) :: r) = (if k = f then (k, v) :: r else (k, x) :: putF f v r) from rfl]
    by_cases hk : k = f
    · rw [if_pos hk, List.length_cons, List.length_cons]; omega
    · rw [if_neg hk, List.length_cons, List.length_cons]; omega
theorem RelO.some_of {v : V} {o : Option Value} (r : RelO (some v) o) : ∃ u, o = some u /\ RelV v u := by
  cases o with
  | none => exact (show False from r).elim
  | some u => exact ⟨u, rfl, r⟩
theorem RelO.none_of {o : Option Value} (r : RelO none o) : o = none := by
  cases o with
  | none => rfl
  | some u => exact (show False from r).elim
theorem handed_of {v : V} {u : Value} (r : RelV v u) : PySem.W.handedIn u = true := by
  cases v with
  | non => cases (show u = Value.none from r); rfl
  | bl b => cases (show u = Value.bool b from r); rfl
  | int i => obtain ⟨t, e⟩ := (show ∃ t, u = Value.int i t from r); cases e; rfl
  | str x => obtain ⟨t, e⟩ := (show ∃ t, u = Value.str x t from r); cases e; rfl
  | byt b => obtain ⟨t, e⟩ := (show ∃ t, u = Value.bytes b t from r); cases e; rfl
  | flt b => obtain ⟨t, e⟩ := (show ∃ t, u = Value.float b t from r); cases e; rfl
  | ref a => cases (show u = Value.ref a from r); rfl
  | ty n => cases (show u = Value.type n from r); rfl
section
variable {P : Program} {w : World} {H H' : Hp} {h h' : Heap} {a C dx : Addr} {fs fs' : List (Str × V)}
theorem ins_get (hok : HOk P w H h) (e : H a = some (.ins C dx fs)) : ∃ mA, ObjM h a dx C mA /\ (∀ f, RelO (fs.lookup f) (mA f)) /\ PySem.Within mA (fs.map (·.1)) /\ fs.length <= 1000 /\ H dx = some (.own a) := by
  obtain ⟨d, z, ne, ob, mA, n, r, q⟩ := (show ObjOk P w H h a (.ins C dx fs) from hok a _ e)
  exact ⟨mA, ⟨ob, n, ne⟩, r, q, z, d⟩
end
structure Cls (K : PySem.W.Frag) (C : Addr) : Prop where
  pg : PySem.W.plainGet K C Str.empty = true
  hd : PySem.W.hasDictIn K C = true
  po : PySem.W.plainOver K C = true
  sa : PySem.W.findIn K (.ref C) "__setattr__" = some (some (.builtin "object.__setattr__"))
theorem Cls.get {K : PySem.W.Frag} {C : Addr} (c : Cls K C) (f : Str) : PySem.W.plainGet K C f = true := c.pg
def NoAttr (K : PySem.W.Frag) (C : Addr) (f : Str) : Prop := PySem.W.findIn K (.ref C) f = some none
theorem NoAttr.taker {K : PySem.W.Frag} {C : Addr} {f : Str} (n : NoAttr K C f) : PySem.W.takerIn K C f = some none := by
  unfold PySem.W.takerIn
  rw [show PySem.W.findIn K (.ref C) f = some none from n]
  rfl
structure Con (K : PySem.W.Frag) (C : Addr) (f : Str) (v : V) (u : Value) : Prop where
  at_ : PySem.W.findIn K (.ref C) f = some (some u)
  rel : RelV v u
  get : PySem.W.specialIn K u "__get__" = some none
  cp : PySem.W.copiedNames.contains f = false
structure Meth (K : PySem.W.Frag) (C : Addr) (m : Str) (f : Addr) : Prop where
  at_ : PySem.W.findIn K (.ref C) m = some (some (.ref f))
  fn : PySem.W.isFn K (.ref f) = true
  kp : PySem.W.keepIn K (.ref f) = true
section
variable {X : Cx} {pins : List (Addr × Obj)} {σ : St} {H : Hp} {s : Shared} {a C dx : Addr} {fs : List (Str × V)} {f : Str} {v : V} {A : Around} {E : Value -> Shared -> Prop}
theorem getattr_ok {b : Bool} {Q : Value -> Shared -> Prop} (I : Inv X pins σ H s) (e : H a = some (.ins C dx fs)) (c : Cls X.K C) (n : NoAttr X.K C f) (l : fs.lookup f = some v)
    (h : ∀ u s', Inv X pins σ H s' -> RelV v u -> Q u s') : wpAny (model X.prog X.w) A (getAttr (.ref a) f b) Q E s := by
  obtain ⟨mA, O, r, _, _, _⟩ := ins_get I.hok e
  obtain ⟨u, hu, ru⟩ := RelO.some_of (v := v) (o := mA f) (by rw [<- l]; exact r f)
  exact get_map I.kIn O (c.get f) c.hd n hu (handed_of ru) (h u _ (I.tok _) ru)
theorem getmeth_ok {m : Str} {g : Addr} {pl : Sem Bool} {Q : Value × List Value -> Shared -> Prop} (I : Inv X pins σ H s) (e : H a = some (.ins C dx fs)) (c : Cls X.K C) (k : Meth X.K C m g) (l : fs.lookup m = none)
    (h : Q (.ref g, [.ref a]) s) : wpAny (model X.prog X.w) A (getMethod (.ref a) m pl) Q E s := by
  obtain ⟨mA, O, r, _, _, _⟩ := ins_get I.hok e
  have hn : mA m = none := RelO.none_of (by rw [<- l]; exact r m)
  exact get_meth I.kIn O (c.get m) k.at_ k.fn hn h
theorem setattr_ok {y : V} {u : Value} {Q : Unit -> Shared -> Prop} (I : Inv X pins σ H s) (e : H a = some (.ins C dx fs)) (c : Cls X.K C) (n : NoAttr X.K C f) (hl : fs.length < 1000) (ry : RelV y u)
    (h : ∀ s', Inv X pins σ (upd H a (.ins C dx (putF f y fs))) s' -> Q () s') : wpAny (model X.prog X.w) A (setAttr (.ref a) f u) Q E s := by
  obtain ⟨mA, O, r, wi, _, ho⟩ := ins_get I.hok e
  have hz : (fs.map (·.1)).length <= sizeLine := by rw [List.length_map, sizeLine_eq]; omega
  refine set_map I.kIn O c.sa c.po n.taker c.hd wi hz fun h' O' sb => h _ ?_
  have hd : ∃ o, h'.get? dx = some o := let ⟨o, _, _, e', _⟩ := O'.ns; ⟨o, e'⟩
  refine I.write (x := a) (e := dx) (by rw [e]; exact True.intro) (.inr ho) (fun b q hb z => (sb.2 b hb).trans z) hd ?_
  refine ⟨by rw [upd_ne O.ne]; exact ho, ?_, O.ne, O'.obj, _, O'.ns, fun g => ?_, fun g hg => ?_⟩
  · have := length_putF f y fs; omega
  · show RelO ((putF f y fs).lookup g) (if g = f then some u else mA g)
    rw [lookup_putF]
    by_cases q : g = f
    · rw [if_pos q, if_pos q]; exact ry
    · rw [if_neg q, if_neg q]; exact r g
  · by_cases q : g = f
    · rw [q]; exact (keys_putF f y fs).1
    · refine (keys_putF f y fs).2 g (wi g fun z => hg ?_)
      show (if g = f then some u else mA g) = none
      rw [if_neg q]; exact z
theorem Inv.made (I : Inv X pins σ H s) : Inv X pins σ (upd (upd H s.heap.objs.size (.own (s.heap.objs.size + 1))) (s.heap.objs.size + 1) (.ins C s.heap.objs.size []))
    { s with heap := (s.heap.push PySem.W.emptyDict).push (PySem.W.instObj C s.heap.objs.size) } := by
  have e1 : (s.heap.push PySem.W.emptyDict).get? s.heap.objs.size = some PySem.W.emptyDict := Heap.get?_push_size s.heap rfl
  have e2 : ((s.heap.push PySem.W.emptyDict).push (PySem.W.instObj C s.heap.objs.size)).get? (s.heap.objs.size + 1) = some (PySem.W.instObj C s.heap.objs.size) := by
    have := Heap.get?_push_size (s.heap.push PySem.W.emptyDict) (o := PySem.W.instObj C s.heap.objs.size) rfl
    rwa [Heap.size_push] at this
  have e3 : (s.heap.push PySem.W.emptyDict).Ns s.heap.objs.size (fun _ => none) := ⟨PySem.W.emptyDict, #[], _, e1, rfl, (fun e he => absurd he (by simp)), fun _ => rfl⟩
  have I1 := I.laid (a := s.heap.objs.size) (o := .own (s.heap.objs.size + 1)) (h' := s.heap.push PySem.W.emptyDict) (t' := s.toks) (fun b u q => Heap.get?_push_of_some _ q) (Nat.le_refl _) ⟨_, e1⟩
  refine I1.laid (a := s.heap.objs.size + 1) (o := .ins C s.heap.objs.size []) (t' := s.toks) (fun b u q => Heap.get?_push_of_some _ q) (Nat.le_of_eq (Heap.size_push _ _)) ?_
  have ne : s.heap.objs.size ≠ s.heap.objs.size + 1 := Nat.ne_of_lt (Nat.lt_succ_self _)
  refine ⟨by rw [upd_ne ne, upd_same], Nat.zero_le _, ne, e2, fun _ => none, (Heap.Ns1.of_empty e3).at fun o q => Heap.get?_push_of_some _ q, fun _ => True.intro, fun y hy => absurd rfl hy⟩
theorem attr_of {prog : Program} {w : World} {env : Env} {e : Expr} {f : Str} {pos : Pos} {s : Shared} {Q : Value -> Shared -> Prop} (hb : attributeBase e f env (eval e env) = eval e env)
    (h : wpAny (model prog w) A (eval e env) (fun o s₁ => wpAny (model prog w) A (getAttr o f true) Q E s₁) E s) : wpAny (model prog w) A (eval (.Attribute e f pos) env) Q E s :=
  Attribute_any_ h (by rw [arm_eval_Attribute, hb])
end
def tFld (K : PySem.W.Frag) (ta : TE) (f : Str) : TE := fun σ H Q => ta σ H fun x H1 => ∃ a C dx fs v, x = .ref a /\ H1 a = some (.ins C dx fs) /\ Cls K C /\ NoAttr K C f /\ fs.lookup f = some v /\ Q v H1
def sFld (K : PySem.W.Frag) (ta tv : TE) (f : Str) : TS := fun D σ H => tv σ H fun y H1 => ta σ H1 fun x H2 => ∃ a C dx fs, x = .ref a /\ H2 a = some (.ins C dx fs) /\ Cls K C /\ NoAttr K C f /\ fs.length < 1000 ∧
  D.nx σ (upd H2 a (.ins C dx (putF f y fs)))
section
variable {X : Cx} {o e value : Expr} {f : Str} {pos pos' tpos : Pos} {ta tv : TE}
theorem pe_fld (he : PE X e ta) (hb : attributeBase e f X.env (eval e X.env) = eval e X.env) : PE X (.Attribute e f pos) (tFld X.K ta f) := by
  intro pins s σ H Q I h
  refine attr_of hb (thn (he pins s σ H _ I h) fun u s1 ⟨x, H1, I1, rx, a, C, dx, fs, v, ex, ea, c, n, l, q⟩ => ?_)
  subst ex
  obtain rfl : u = Value.ref a := rx
  exact getattr_ok I1 ea c n l fun u' s2 I2 ru => ⟨v, H1, I2, ru, q⟩
theorem ps_fld (ha : PE X o ta) (hv : PE X value tv) (hs : swapsWith value (some (.Attribute o f pos')) pos.line X.env = pure false) : PS X (.Assign [.Attribute o f pos'] value pos) (sFld X.K ta tv f) := by
  intro pins s σ H D I h
  refine plainObj_wpAny_Assign_Attribute (thn (hv pins s σ H _ I h) fun u s1 ⟨y, H1, I1, ry, q⟩ => thn (ha pins s1 σ H1 _ I1 q) fun ov s2 ⟨x, H2, I2, rx, a, C, dx, fs, ex, ea, c, n, l, q2⟩ => ?_) hs
  subst ex
  obtain rfl : ov = Value.ref a := rx
  exact setattr_ok I2 ea c n l ry fun s3 I3 => ⟨σ, _, I3, q2⟩
end
section
variable {X : Cx} {pins : List (Addr × Obj)} {σ : St} {H : Hp} {s : Shared} {A : Around} {E : Value -> Shared -> Prop} {Q : Value -> Shared -> Prop} {c : Value} {b : Bool}
inductive TyOf (K : PySem.W.Frag) (H : Hp) : V -> Value -> Prop where
  | non : TyOf K H .non (.type "NoneType")
  | bl (x : Bool) : TyOf K H (.bl x) (.type "bool")
  | int (i : Int) : TyOf K H (.int i) (.type "int")
  | str (x : Str) : TyOf K H (.str x) (.type "str")
  | flt (x : UInt64) : TyOf K H (.flt x) (.type "float")
  | lst {a : Addr} {xs : List V} (e : H a = some (.lst xs)) : TyOf K H (.ref a) (.type "list")
  | frz {a : Addr} {o : Obj} {xs : List V} (e : H a = some (.frz o (.lst xs))) : TyOf K H (.ref a) (.type "list")
  | tup {a : Addr} {xs : List V} (e : H a = some (.tup xs)) : TyOf K H (.ref a) (.type "tuple")
  | dK {a : Addr} {kvs : List (Key × V)} (e : H a = some (.dK kvs)) : TyOf K H (.ref a) (.type "dict")
  | dT {a : Addr} {kvs : List (List Key × V)} (e : H a = some (.dT kvs)) : TyOf K H (.ref a) (.type "dict")
  | ins {a C dx : Addr} {fs : List (Str × V)} (e : H a = some (.ins C dx fs)) (cl : Cls K C) (ha : PySem.W.findIn K (.ref C) "__class__" = some (some (.builtin "object.__class__")))
      (hn : PySem.W.specialIn K (.builtin "object.__class__") "__get__" = some (some (.builtin "getset_descriptor.__get__"))) (htk : PySem.W.takesIn K (.builtin "object.__class__") = some true)
      (hm : PySem.W.mroIn K C (.type "object") = some true) : TyOf K H (.ref a) (.ref C)
theorem isinst_ok {x : V} {u t : Value} (I : Inv X pins σ H s) (rx : RelV x u) (ty : TyOf X.K H x t) (e : PySem.W.kitOne X.K t c = some b) (h : ∀ tk, Q (.bool b) { s with toks := tk }) :
    wpAny (model X.prog X.w) A (call (.builtin "isinstance") [u, c]) Q E s := by
  cases ty with
  | non => cases (show u = Value.none from rx); exact PySem.W.kia_one PySem.W.kitx_none I.kIn True.intro e (fun z => nomatch z) h
  | bl y => cases (show u = Value.bool y from rx); exact PySem.W.kia_one PySem.W.kitx_bool I.kIn True.intro e (fun z => nomatch z) h
  | int i => obtain ⟨t, q⟩ := (show ∃ t, u = Value.int i t from rx); cases q; exact PySem.W.kia_one PySem.W.kitx_int I.kIn True.intro e (fun z => nomatch z) h
  | str y => obtain ⟨t, q⟩ := (show ∃ t, u = Value.str y t from rx); cases q; exact PySem.W.kia_one PySem.W.kitx_str I.kIn True.intro e (fun z => nomatch z) h
  | flt y => obtain ⟨t, q⟩ := (show ∃ t, u = Value.float y t from rx); cases q; exact PySem.W.kia_one PySem.W.kitx_float I.kIn True.intro e (fun z => nomatch z) h
  | @lst a xs ea =>
    cases (show u = Value.ref a from rx)
    obtain ⟨_, _, n, _, h1⟩ := (show ObjOk X.prog X.w H s.heap a (.lst xs) from I.hok a _ ea)
    exact PySem.W.kia_one PySem.W.kitx_list I.kIn ⟨_, h1, rfl⟩ e (fun z => nomatch z) h
  | @frz a ob xs ea =>
    cases (show u = Value.ref a from rx)
    obtain ⟨_, _, _, n, _, h1⟩ := (show ObjOk X.prog X.w H s.heap a (.frz ob (.lst xs)) from I.hok a _ ea)
    exact PySem.W.kia_one PySem.W.kitx_list I.kIn ⟨_, h1, rfl⟩ e (fun z => nomatch z) h
  | @tup a xs ea =>
    cases (show u = Value.ref a from rx)
    obtain ⟨_, _, _, p⟩ := (show ObjOk X.prog X.w H s.heap a (.tup xs) from I.hok a _ ea)
    obtain ⟨o, h1, h2, _⟩ := p
    exact PySem.W.kia_one PySem.W.kitx_tuple I.kIn ⟨o, h1, h2⟩ e (fun z => nomatch z) h
  | @dK a kvs ea =>
    cases (show u = Value.ref a from rx)
    obtain ⟨_, _, vs, _, p⟩ := (show ObjOk X.prog X.w H s.heap a (.dK kvs) from I.hok a _ ea)
    obtain ⟨o, es, ep, h1, h2, _⟩ := p
    exact PySem.W.kia_one PySem.W.kitx_dict I.kIn ⟨o, h1, h2.1⟩ e (fun z => nomatch z) h
  | @dT a kvs ea =>
    cases (show u = Value.ref a from rx)
    obtain ⟨_, _, xs, _, o, es, ep, h1, h2, _⟩ := (show ObjOk X.prog X.w H s.heap a (.dT kvs) from I.hok a _ ea)
    exact PySem.W.kia_one PySem.W.kitx_dict I.kIn ⟨o, h1, h2.1⟩ e (fun z => nomatch z) h
  | @ins a C dx fs ea cl ha hn htk hm =>
    cases (show u = Value.ref a from rx)
    obtain ⟨mA, O, _⟩ := ins_get I.hok ea
    obtain ⟨od, J, _⟩ := O.look
    exact PySem.W.kia_one (PySem.W.kitx_own (cl.get _) cl.hd ha hn htk hm) I.kIn J e (fun z => nomatch z) h
end
end L2
namespace L2
open PySem PySem.Spec PyProof.Rows
structure Room (k : Nat) (A : Around) : Prop where
  hd : A.handled = none
  dp : A.depth + 3 * k + 5 < recursionLimit
  un : A.units + 16 * k + 200 < cLine
theorem Room.mono {j k : Nat} {A : Around} (r : Room k A) (h : j <= k) : Room j A := ⟨r.hd, by have := r.dp; omega, by have := r.un; omega⟩
theorem Room.deeper {k : Nat} {A : Around} (r : Room (k + 1) A) (env : Env) : Room k (A.deeper env) :=
  ⟨r.hd, by have := r.dp; show A.depth + 1 + 3 * k + 5 < _; omega, by have := r.un; show A.units + 3 + 16 * k + 200 < _; omega⟩
theorem Room.in1 {k : Nat} {A : Around} (r : Room (k + 1) A) : Room k A.in1 :=
  ⟨r.hd, by have := r.dp; show A.depth + 3 * k + 5 < _; omega, by have := r.un; show A.units + 1 + 16 * k + 200 < _; omega⟩
theorem make_depth {A : Around} {C : Addr} {us : List Value} {kw : List (Str × Value)} : (A.under (.builtin "type.__call__" ⟨.ref C :: us, kw⟩)).depth = A.depth + 1 := by
  first | rfl | simp [Around.under, Code.weight, Code.isCreation, Code.isGuard, Code.isCaller, Code.frames, Code.isFrame, guardIds]
theorem make_units {A : Around} {C : Addr} {us : List Value} {kw : List (Str × Value)} : (A.under (.builtin "type.__call__" ⟨.ref C :: us, kw⟩)).units = A.units + 1 := by
  first | rfl | simp [Around.under, Code.cUnits, Code.frames, Code.isFrame]
theorem Room.make {k : Nat} {A : Around} (r : Room (k + 1) A) (C : Addr) (us : List Value) (kw : List (Str × Value)) : Room k (A.under (.builtin "type.__call__" ⟨.ref C :: us, kw⟩)) :=
  ⟨r.hd, by have := r.dp; rw [make_depth]; omega, by have := r.un; rw [make_units]; omega⟩
theorem Room.depth {k : Nat} {A : Around} (r : Room k A) : A.depth < recursionLimit := by have := r.dp; omega
theorem Room.units {k : Nat} {A : Around} (r : Room k A) : A.units + 64 < cLine := by have := r.un; omega
def tNil : TA := fun _ H Q => Q [] H
def tCons (ta : TE) (tr : TA) : TA := fun σ H Q => ta σ H fun x H1 => tr σ H1 fun xs H2 => Q (x :: xs) H2
section
variable {X : Cx} {e : Expr} {es : List Expr} {te : TE} {t : TA} {pos : Pos}
theorem pa_nil : PA X [] tNil := fun _ _ _ _ H Q I h => Calls.spliced_nil ⟨[], H, I, .nil, h⟩
theorem pa_cons (ha : PE X e te) (hr : PA X es t) (hs : starEach (e :: es) X.env = (false, eval e X.env) :: starEach es X.env := by rfl) : PA X (e :: es) (tCons te t) := by
  intro pos pins s σ H Q I h
  rw [hs]
  show wpAny _ _ (spliced ((false, eval e X.env) :: backTo pos (starEach es X.env))) _ _ s
  refine Calls.spliced_cons (thn (ha pins s σ H _ I h) fun u s1 ⟨x, H1, I1, r1, q1⟩ => ?_)
  exact thn (hr pos pins s1 σ H1 _ I1 q1) fun us s2 ⟨xs, H2, I2, r2, q2⟩ => ⟨x :: xs, H2, I2, .cons r1 r2, q2⟩
def tTup (t : TA) : TE := fun σ H Q => t σ H fun xs H1 => xs.length <= sizeLine /\ ∀ p, H1 p = none -> Q (.ref p) (upd H1 p (.tup xs))
def tLst (t : TA) : TE := fun σ H Q => t σ H fun xs H1 => xs.length <= sizeLine /\ ∀ p, H1 p = none -> Q (.ref p) (upd H1 p (.lst xs))
theorem pe_tup {x1} (h : PA X es t) : PE X (.Tuple es x1 pos) (tTup t) := by
  intro pins s σ H Q I hq
  refine wpAny_Tuple_spliced (thn (h pos pins s σ H _ I hq) fun us s1 ⟨xs, H1, I1, r, z, q⟩ => ⟨by rw [<- r.length]; exact z, ?_⟩)
  have hf : H1 s1.heap.objs.size = none := I1.hok.fresh (Nat.le_refl _)
  refine ⟨.ref s1.heap.objs.size, upd H1 s1.heap.objs.size (.tup xs), I1.laid (t' := s1.toks) (fun b u e => Heap.get?_push_of_some _ e) (Nat.le_refl _) ?_, rfl, q _ hf⟩
  exact ⟨z, us, r, ⟨_, Heap.get?_push_size _ rfl, rfl, _, rfl⟩⟩
theorem pe_lst (h : PA X es t) : PE X (.List es pos) (tLst t) := by
  intro pins s σ H Q I hq
  refine wpAny_List_spliced (thn (h pos pins s σ H _ I hq) fun us s1 ⟨xs, H1, I1, r, z, q⟩ => ⟨by rw [<- r.length]; exact z, ?_⟩)
  have hf : H1 s1.heap.objs.size = none := I1.hok.fresh (Nat.le_refl _)
  refine ⟨.ref s1.heap.objs.size, upd H1 s1.heap.objs.size (.lst xs), I1.laid (t' := s1.toks) (fun b u e => Heap.get?_push_of_some _ e) (Nat.le_refl _) ?_, rfl, q _ hf⟩
  exact ⟨z, us, 0, r, Heap.get?_push_size _ rfl⟩
end
abbrev Sp := List V -> Hp -> VK -> XK -> Prop
abbrev CXT := List Env -> Hp -> Shared -> XK -> Value -> Shared -> Prop
structure Env0 (P : Program) (w : World) (K : PySem.W.Frag) (mg : Str -> Option Value) (base : Heap) (A : Around) (outer : List Env) (s : Shared) (H : Hp) : Prop where
  frames : A.frames = some outer
  mod : Mod K mg base
  bs : ∀ b o, base.get? b = some o -> s.heap.get? b = some o /\ H b = none
  bsz : base.objs.size <= s.heap.objs.size
  funs : s.heap.FunFrames base outer
  frf : ∀ b ∈ frs outer, H b = none
  hok : HOk P w H s.heap
  bare : AllBare s.gens
def CE (outer : List Env) (P : Program) (w : World) (H : Hp) (s : Shared) (Q : VK) (u : Value) (s' : Shared) : Prop :=
  ∃ v H', s'.os = s.os /\ AllBare s'.gens /\ Un (frs outer) [] H H' s.heap s'.heap /\ HOk P w H' s'.heap /\ RelV v u /\ Q v H'
def CR (CX : CXT) (outer : List Env) (P : Program) (w : World) (H : Hp) (s : Shared) (Q : VK) (E : XK) (r : Result) (s' : Shared) : Prop :=
  match r with
  | .ok (.ret u) => CE outer P w H s Q u s'
  | .ok _ => False
  | .error e => CX outer H s E e s'
structure FnOk (P : Program) (w : World) (K : PySem.W.Frag) (mg : Str -> Option Value) (base : Heap) (CX : CXT) (k : Nat) (f : Addr) (fd : FuncData) (ps : List Str) (sp : Sp) : Prop where
  len : ∀ vs H Q E, sp vs H Q E -> vs.length = ps.length
  run : ∀ (A : Around) (outer : List Env) (s : Shared) (H : Hp) (args : Args) (us : List Value) (vs : List V) (Q : VK) (E : XK), Room k A -> Env0 P w K mg base A outer s H -> BindsTo s fd args (ps.zip us) -> Vals vs us -> sp vs H Q E ->
    codeAny (model P w) A (.call (.ref f) args) (CR CX outer P w H s Q E) s
theorem FnOk.mono {P : Program} {w : World} {K : PySem.W.Frag} {mg : Str -> Option Value} {base : Heap} {CX : CXT} {j k : Nat} {f : Addr} {fd : FuncData} {ps : List Str} {sp : Sp} (F : FnOk P w K mg base CX j f fd ps sp) (h : j <= k) :
    FnOk P w K mg base CX k f fd ps sp := ⟨F.len, fun A outer s H args us vs Q E hr => F.run A outer s H args us vs Q E (hr.mono h)⟩
theorem FnOk.imp {P : Program} {w : World} {K : PySem.W.Frag} {mg : Str -> Option Value} {base : Heap} {CX : CXT} {k : Nat} {f : Addr} {fd : FuncData} {ps : List Str} {sp sp' : Sp} (F : FnOk P w K mg base CX k f fd ps sp)
    (h : ∀ vs H Q E, sp' vs H Q E -> sp vs H Q E) : FnOk P w K mg base CX k f fd ps sp' :=
  ⟨fun vs H Q E q => F.len vs H Q E (h _ _ _ _ q), fun A outer s H args us vs Q E hr he hb hv hs => F.run A outer s H args us vs Q E hr he hb hv (h _ _ _ _ hs)⟩
theorem Env0.make {P : Program} {w : World} {K : PySem.W.Frag} {mg : Str -> Option Value} {base : Heap} {A : Around} {outer : List Env} {s : Shared} {H : Hp} (e : Env0 P w K mg base A outer s H) (C : Addr) (us : List Value) (kw : List (Str × Value)) :
    Env0 P w K mg base (A.under (.builtin "type.__call__" ⟨.ref C :: us, kw⟩)) outer s H := ⟨by first | exact e.frames | (simpa [Around.under, Code.envs, Code.isFrame, pushEnvs] using e.frames), e.mod, e.bs, e.bsz, e.funs, e.frf, e.hok, e.bare⟩
theorem Env0.in1 {P : Program} {w : World} {K : PySem.W.Frag} {mg : Str -> Option Value} {base : Heap} {A : Around} {outer : List Env} {s : Shared} {H : Hp} (e : Env0 P w K mg base A outer s H) :
    Env0 P w K mg base A.in1 outer s H := ⟨e.frames, e.mod, e.bs, e.bsz, e.funs, e.frf, e.hok, e.bare⟩
section
variable {X : Cx} {pins : List (Addr × Obj)} {σ : St} {H : Hp} {s s' : Shared}
theorem Inv.env0 (I : Inv X pins σ H s) : Env0 X.prog X.w X.K X.mg X.base X.A X.stack s H :=
  ⟨I.ok.frames, I.ok.mod, I.bs, Nat.le_trans I.ok.bsz I.sz, I.stack, I.stkFree, I.hok, I.bare⟩
theorem Inv.after {Q : VK} {u : Value} (I : Inv X pins σ H s) (h : CE X.stack X.prog X.w H s Q u s') : EP X pins σ Q u s' := by
  obtain ⟨v, H', os, bare, un, hok, r, q⟩ := h
  obtain ⟨hh, g, d, t, os'⟩ := s'
  obtain rfl : os' = s.os := os
  exact ⟨v, H', I.call (h' := hh) (g' := g) (d' := d) (t' := t) (ch := []) un hok bare (fun b z => absurd z (by simp)), r, q⟩
end
def tCall (sp : Sp) (dvs : List V) (E : XK) (t : TA) : TE := fun σ H Q => t σ H fun vs H1 => sp (vs ++ dvs) H1 Q E
def tMeth (C : Addr) (m : Str) (sp : Sp) (dvs : List V) (E : XK) (ta : TE) (t : TA) : TE := fun σ H Q => ta σ H fun x H1 => ∃ a dx fs, x = .ref a /\ H1 a = some (.ins C dx fs) /\ fs.lookup m = none ∧
  t σ H1 fun vs H2 => sp (x :: (vs ++ dvs)) H2 Q E
def tMake (C : Addr) (sp : Sp) (dvs : List V) (E : XK) (t : TA) : TE := fun σ H Q => t σ H fun vs H1 => ∀ x dx, H1 x = none -> H1 dx = none -> dx ≠ x ->
  sp (.ref x :: (vs ++ dvs)) (upd (upd H1 dx (.own x)) x (.ins C dx [])) (fun v H2 => v = .non /\ Q (.ref x) H2) E
def Binds (K : PySem.W.Frag) (fd : FuncData) (ps : List Str) (ds : List Value) : Prop :=
  ∀ (s : Shared) (us : List Value), K.In s.heap -> (us ++ ds).length = ps.length -> BindsTo s fd ⟨us, []⟩ (ps.zip (us ++ ds))
theorem Binds.all {K : PySem.W.Frag} {fd : FuncData} {ps : List Str} (h : ∀ us : List Value, us.length = ps.length -> bindArgs fd ⟨us, []⟩ = pure (ps.zip us)) : Binds K fd ps [] := fun s us _ hl => by
  rw [List.append_nil] at hl ⊢
  exact .of_eq (h us hl)
def Passes (CX : CXT) (X : Cx) (E : XK) : Prop := ∀ (pins : List (Addr × Obj)) (σ : St) (H : Hp) (s : Shared) (e : Value) (s' : Shared), Inv X pins σ H s -> CX X.stack H s E e s' -> X.xe e s'
section
variable {X : Cx} {CX : CXT} {k : Nat} {f C : Addr} {fd : FuncData} {ps : List Str} {sp : Sp} {dvs : List V} {ds : List Value} {E : XK} {x m : Str} {p pos apos : Pos} {e o : Expr} {es : List Expr} {ta : TE} {t : TA}
theorem run_fn {pins : List (Addr × Obj)} {σ : St} {H : Hp} {s : Shared} {Q : VK} {us : List Value} {vs : List V} (F : FnOk X.prog X.w X.K X.mg X.base CX k f fd ps sp) (hr : Room k X.A) (hb : Binds X.K fd ps ds) (hd : Vals dvs ds) (hx : Passes CX X E)
    (I : Inv X pins σ H s) (r : Vals vs us) (h : sp (vs ++ dvs) H Q E) : wpAny (model X.prog X.w) X.A (call (.ref f) us) (EP X pins σ Q) X.xe s := by
  have r2 : Vals (vs ++ dvs) (us ++ ds) := r.append hd
  have hl : (us ++ ds).length = ps.length := by rw [<- r2.length]; exact F.len _ _ _ _ h
  refine wpAny_call (codeAny_mono (F.run X.A X.stack s H ⟨us, []⟩ (us ++ ds) (vs ++ dvs) Q E hr I.env0 (hb s us I.kIn hl) r2 h) fun r s' hq => ?_)
  cases r with
  | error e => exact hx pins σ H s e s' I hq
  | ok fl =>
    cases fl with
    | ret u => exact I.after hq
    | next => exact False.elim hq
    | brk => exact False.elim hq
    | cont => exact False.elim hq
theorem pe_call (F : FnOk X.prog X.w X.K X.mg X.base CX k f fd ps sp) (hr : Room k X.A) (hg : Gl X x) (hm : X.mg x = some (.ref f)) (hk : PySem.W.keepIn X.K (.ref f) = true) (hb : Binds X.K fd ps ds) (hd : Vals dvs ds) (hx : Passes CX X E)
    (ha : PA X (e :: es) t) (hdb : (x == ("__debug__" : Str)) = false := by decide) (he : starEach (e :: es) X.env = (false, eval e X.env) :: starEach es X.env := by rfl) (hpl : (backTo pos (starEach es X.env)).any (·.1) = false := by rfl) :
    PE X (.Call (.Name x p) (e :: es) [] pos) (tCall sp dvs E t) := by
  intro pins s σ H Q I h
  refine wpAny_Call_Name_kw (ld_glob I hg hm ?_ hdb)
  refine PySem.W.callWith_K (h₀ := X.base) I.ok.mod.kin hk (thn (ha pos pins s σ H _ I h) fun us s1 ⟨vs, H1, I1, r, q⟩ => ⟨I1.kIn, ?_⟩) he hpl
  exact run_fn F hr hb hd hx I1 r q
theorem pe_meth {pl : Sem Bool} (he : PE X o ta) (c : Cls X.K C) (hm : Meth X.K C m f) (F : FnOk X.prog X.w X.K X.mg X.base CX k f fd ps sp) (hr : Room k X.A) (hb : Binds X.K fd ps ds) (hd : Vals dvs ds) (hx : Passes CX X E) (ha : PA X (e :: es) t)
    (hst : starEach (e :: es) X.env = (false, eval e X.env) :: starEach es X.env := by rfl) (hpl : (backTo pos (starEach es X.env)).any (·.1) = false := by rfl)
    (ht : eval (.Call (.Attribute o m apos) (e :: es) [] pos) X.env = (do
      let ov <- eval o X.env
      standAt apos.atName
      let (f, first) <- holding [ov] (getMethod ov m pl)
      callWith pos f first (backTo pos (starEach (e :: es) X.env)) (backToKw pos (keywordEach [] X.env))) := by rfl) :
    PE X (.Call (.Attribute o m apos) (e :: es) [] pos) (tMeth C m sp dvs E ta t) := by
  intro pins s σ H Q I h
  refine PySem.W.methodCall_KW (pl := pl) (thn (he pins s σ H _ I h) fun u s1 ⟨x, H1, I1, rx, a, dx, fs, ex, ea, l, q⟩ => ?_) ht
  subst ex
  obtain rfl : u = Value.ref a := rx
  refine getmeth_ok I1 ea c hm l ?_
  refine PySem.W.callWith_K (first := [.ref a]) (h₀ := X.base) I.ok.mod.kin hm.kp (thn (ha pos pins s1 σ H1 _ I1 q) fun us s2 ⟨vs, H2, I2, r, q2⟩ => ⟨I2.kIn, ?_⟩) hst hpl
  exact run_fn (us := .ref a :: us) (vs := .ref a :: vs) F hr hb hd hx I2 (.cons rfl r) q2
theorem pe_meth0 {pl : Sem Bool} (he : PE X o ta) (c : Cls X.K C) (hm : Meth X.K C m f) (F : FnOk X.prog X.w X.K X.mg X.base CX k f fd ps sp) (hr : Room k X.A) (hb : Binds X.K fd ps ds) (hd : Vals dvs ds) (hx : Passes CX X E)
    (ht : eval (.Call (.Attribute o m apos) [] [] pos) X.env = (do
      let ov <- eval o X.env
      standAt apos.atName
      let (f, first) <- holding [ov] (getMethod ov m pl)
      callWith pos f first (backTo pos (starEach [] X.env)) (backToKw pos (keywordEach [] X.env))) := by rfl) :
    PE X (.Call (.Attribute o m apos) [] [] pos) (tMeth C m sp dvs E ta tNil) := by
  intro pins s σ H Q I h
  refine PySem.W.methodCall_KW (pl := pl) (thn (he pins s σ H _ I h) fun u s1 ⟨x, H1, I1, rx, a, dx, fs, ex, ea, l, q⟩ => ?_) ht
  subst ex
  obtain rfl : u = Value.ref a := rx
  refine getmeth_ok I1 ea c hm l ?_
  exact PySem.W.callWith_K0 (first := [.ref a]) I1.kIn hm.kp (run_fn (us := [.ref a]) (vs := [.ref a]) F hr hb hd hx I1 (.cons rfl .nil) q)
structure Mk (K : PySem.W.Frag) (C f : Addr) : Prop where
  makes : PySem.W.makesIn K C = true
  init : PySem.W.findIn K (.ref C) "__init__" = some (some (.ref f))
  fn : PySem.W.isFn K (.ref f) = true
  kp : PySem.W.keepIn K (.ref C) = true
theorem run_make {pins : List (Addr × Obj)} {σ : St} {H : Hp} {s : Shared} {Q : VK} {us : List Value} {vs : List V} (M : Mk X.K C f) (F : FnOk X.prog X.w X.K X.mg X.base CX k f fd ps sp) (hr : Room (k + 1) X.A) (hb : Binds X.K fd ps ds) (hd : Vals dvs ds)
    (hx : Passes CX X E) (I : Inv X pins σ H s) (r : Vals vs us)
    (h : ∀ x dx, H x = none -> H dx = none -> dx ≠ x -> sp (.ref x :: (vs ++ dvs)) (upd (upd H dx (.own x)) x (.ins C dx [])) (fun v H2 => v = .non /\ Q (.ref x) H2) E) :
    wpAny (model X.prog X.w) X.A (call (.ref C) us) (EP X pins σ Q) X.xe s := by
  have hq := h (s.heap.objs.size + 1) s.heap.objs.size (I.hok.fresh (Nat.le_succ _)) (I.hok.fresh (Nat.le_refl _)) (Nat.ne_of_lt (Nat.lt_succ_self _))
  have I2 := Inv.made (C := C) I
  have r2 : Vals (V.ref (s.heap.objs.size + 1) :: (vs ++ dvs)) (Value.ref (s.heap.objs.size + 1) :: (us ++ ds)) := .cons rfl (r.append hd)
  have hl : (Value.ref (s.heap.objs.size + 1) :: us ++ ds).length = ps.length := by
    have e := r2.length
    rw [F.len _ _ _ _ hq] at e
    exact e.symm
  refine wpAny_call (make_map (f := f) I.kIn M.makes M.init (beq_iff_eq.mp M.fn) (codeAny_mono (F.run _ X.stack _ _ ⟨Value.ref (s.heap.objs.size + 1) :: us, []⟩ (Value.ref (s.heap.objs.size + 1) :: (us ++ ds)) _ _ E (hr.make C us [])
    (I2.env0.make C us []) (hb _ (Value.ref (s.heap.objs.size + 1) :: us) I2.kIn hl) r2 hq) fun r s' hq' => ?_))
  cases r with
  | error e => exact hx pins σ _ _ e s' I2 hq'
  | ok fl =>
    cases fl with
    | ret u =>
      obtain ⟨v, H', I3, rv, ev, q3⟩ := I2.after hq'
      subst ev
      exact ⟨rv, ⟨V.ref (s.heap.objs.size + 1), H', I3, rfl, q3⟩⟩
    | next => exact False.elim hq'
    | brk => exact False.elim hq'
    | cont => exact False.elim hq'
theorem pe_make (M : Mk X.K C f) (F : FnOk X.prog X.w X.K X.mg X.base CX k f fd ps sp) (hr : Room (k + 1) X.A) (hg : Gl X x) (hm : X.mg x = some (.ref C)) (hb : Binds X.K fd ps ds) (hd : Vals dvs ds) (hx : Passes CX X E)
    (ha : PA X (e :: es) t) (hdb : (x == ("__debug__" : Str)) = false := by decide) (he : starEach (e :: es) X.env = (false, eval e X.env) :: starEach es X.env := by rfl) (hpl : (backTo pos (starEach es X.env)).any (·.1) = false := by rfl) :
    PE X (.Call (.Name x p) (e :: es) [] pos) (tMake C sp dvs E t) := by
  intro pins s σ H Q I h
  refine wpAny_Call_Name_kw (ld_glob I hg hm ?_ hdb)
  refine PySem.W.callWith_K (h₀ := X.base) I.ok.mod.kin M.kp (thn (ha pos pins s σ H _ I h) fun us s1 ⟨vs, H1, I1, r, q⟩ => ⟨I1.kIn, ?_⟩) he hpl
  exact run_make M F hr hb hd hx I1 r q
end
section
variable {X : Cx} {CX : CXT} {k : Nat} {f C : Addr} {fd : FuncData} {ps ks : List Str} {sp : Sp} {E : XK} {x m : Str} {p pos apos kpos : Pos} {e o : Expr} {es : List Expr} {kws : List Keyword} {te ta : TE} {t tk : TA} {nm : Option Str}
structure KBinds (K : PySem.W.Frag) (fd : FuncData) (ps ks : List Str) (g : List Value -> List Value -> List Value) (gV : List V -> List V -> List V) : Prop where
  to : ∀ (s : Shared) (us ws : List Value), K.In s.heap -> (g us ws).length = ps.length -> BindsTo s fd ⟨us, ks.zip ws⟩ (ps.zip (g us ws))
  rel : ∀ {vs : List V} {us : List Value} {zs : List V} {ws : List Value}, Vals vs us -> Vals zs ws -> Vals (gV vs zs) (g us ws)
variable {g : List Value -> List Value -> List Value} {gV : List V -> List V -> List V}
end
structure FnScope (N P : List Str) (sc : Scope) : Prop where
  kind : sc.kind = .function
  co : sc.isCoroutine = false
  gen : sc.isGenerator = false
  nd : N.Nodup
  pre : N.take P.length = P
  par : ∀ x ∈ P, sc.names.lookup x = some .local ∨ sc.names.lookup x = some .cell
  nofree : ∀ y ∈ sc.names, y.2 ≠ .free
theorem bindL_out {kindOf : Str -> Option NameKind} {x : Str} : ∀ {binds : List (Str × Value)} {m : Str -> Option Value}, (∀ v, (x, v) ∉ binds) -> bindL kindOf binds m x = m x
  | [], _, _ => rfl
  | (n, v) :: r, m, h => by
    unfold bindL
    rw [bindL_out fun w hw => h w (List.mem_cons_of_mem _ hw)]
    split
    · have : x ≠ n := by rintro rfl; exact h v List.mem_cons_self
      simp [this]
    · rfl
theorem bindC_out {kindOf : Str -> Option NameKind} {x : Str} : ∀ {binds : List (Str × Value)} {m : Str -> Option Value}, (∀ v, (x, v) ∉ binds) -> bindC kindOf binds m x = m x
  | [], _, _ => rfl
  | (n, v) :: r, m, h => by
    unfold bindC
    rw [bindC_out fun w hw => h w (List.mem_cons_of_mem _ hw)]
    split
    · rfl
    · have : x ≠ n := by rintro rfl; exact h v List.mem_cons_self
      simp [this]
theorem bindL_get {kindOf : Str -> Option NameKind} {x : Str} {v : Value} : ∀ {P : List Str} {vs : List Value} {i : Nat} {m : Str -> Option Value}, P.Nodup -> P[i]? = some x -> vs[i]? = some v -> kindOf x = some .local ->
    bindL kindOf (P.zip vs) m x = some v
  | [], _, _, _, _, h, _, _ => by simp at h
  | _ :: _, [], _, _, _, _, h, _ => by simp at h
  | p :: P, w :: vs, 0, m, nd, h1, h2, hk => by
    simp at h1 h2; subst h1; subst h2
    show bindL kindOf ((p, w) :: P.zip vs) m p = _
    unfold bindL
    rw [bindL_out fun v hv => (List.nodup_cons.mp nd).1 (List.of_mem_zip hv).1, if_pos hk]
    simp
  | p :: P, w :: vs, i + 1, m, nd, h1, h2, hk => by
    show bindL kindOf ((p, w) :: P.zip vs) m x = _
    unfold bindL
    exact bindL_get (i := i) (List.nodup_cons.mp nd).2 (by simpa using h1) (by simpa using h2) hk
theorem bindC_get {kindOf : Str -> Option NameKind} {x : Str} {v : Value} : ∀ {P : List Str} {vs : List Value} {i : Nat} {m : Str -> Option Value}, P.Nodup -> P[i]? = some x -> vs[i]? = some v -> kindOf x ≠ some .local ->
    bindC kindOf (P.zip vs) m x = some v
  | [], _, _, _, _, h, _, _ => by simp at h
  | _ :: _, [], _, _, _, _, h, _ => by simp at h
  | p :: P, w :: vs, 0, m, nd, h1, h2, hk => by
    simp at h1 h2; subst h1; subst h2
    show bindC kindOf ((p, w) :: P.zip vs) m p = _
    unfold bindC
    rw [bindC_out fun v hv => (List.nodup_cons.mp nd).1 (List.of_mem_zip hv).1, if_neg hk]
    simp
  | p :: P, w :: vs, i + 1, m, nd, h1, h2, hk => by
    show bindC kindOf ((p, w) :: P.zip vs) m x = _
    unfold bindC
    exact bindC_get (i := i) (List.nodup_cons.mp nd).2 (by simpa using h1) (by simpa using h2) hk
def start (N : List Str) (vs : List V) : St := vs.map some ++ List.replicate (N.length - vs.length) none
def cxOf (CX : CXT) (P : Program) (w : World) (K : PySem.W.Frag) (mg : Str -> Option Value) (base : Heap) (N : List Str) (qual : Str) (scope : Scope) (f : Addr) (cd : Value) (A : Around) (outer : List Env) (s : Shared) (H : Hp) (E : XK) : Cx where
  prog := P
  w := w
  K := K
  mg := mg
  base := base
  A := A.deeper (envOfC qual scope s.heap.objs.size f cd)
  N := N
  s₀ := s
  H₀ := H
  env := envOfC qual scope s.heap.objs.size f cd
  outer := outer
  stack := envOfC qual scope s.heap.objs.size f cd :: outer
  ex := []
  calm := true
  fn := fun _ => true
  pn := []
  xe := fun e s' => wpAny (model P w) (A.deeper (envOfC qual scope s.heap.objs.size f cd)) (leaving (envOfC qual scope s.heap.objs.size f cd) e) (fun _ s'' => CX outer H s E e s'') (fun e' s'' => CX outer H s E e' s'') s'
theorem cell_has {sc : Scope} {n : Nat} {x : Str} (h : sc.names.lookup x = some .cell) : ∃ c, (cellsFrom n sc.names []).lookup x = some c := by
  have q := PySem.W.cellsFrom_some sc.names n [] (.inl h)
  exact Option.isSome_iff_exists.mp q
theorem inv_start {CX : CXT} {P : Program} {w : World} {K : PySem.W.Frag} {mg : Str -> Option Value} {base : Heap} {N ps : List Str} {qual : Str} {scope : Scope} {f : Addr} {cd : Value} {A : Around} {outer : List Env} {s s1 : Shared} {H : Hp} {E : XK} {us : List Value} {vs : List V}
    (S : FnScope N ps scope) (hd : A.handled = none) (e0 : Env0 P w K mg base A outer s H) (hl : vs.length = ps.length) (r : Vals vs us)
    (x : InCallC s s.heap.objs.size (bindL (envOfC qual scope s.heap.objs.size f cd).kindOf (ps.zip us) fun _ => none) (cellsFrom (s.heap.objs.size + 1) scope.names []) (bindC (envOfC qual scope s.heap.objs.size f cd).kindOf (ps.zip us) fun _ => none) s1) :
    Inv (cxOf CX P w K mg base N qual scope f cd A outer s H E) [] (start N vs) H s1 := by
  have hpl : ps.length <= N.length := by have := congrArg List.length S.pre; rw [List.length_take] at this; omega
  obtain ⟨h1, tk, rfl, hk⟩ := x.done
  have noA : ∀ b : Addr, b ∉ (cxOf CX P w K mg base N qual scope f cd A outer s H E).ex := fun b z => absurd (show b ∈ ([] : List Addr) from z) (by simp)
  refine ⟨⟨e0.mod, S.kind, rfl, rfl, Nat.le_refl _, fun y z c h1 h2 => ?_, fun y hy => ?_, fun y c _ h => ?_, fun _ => hd, Around.frames_deeper e0.frames, .inr ⟨rfl, rfl⟩, fun b z => absurd z (noA b), e0.bs, e0.bsz, fun b _ _ => noA b, fun b z => absurd z (noA b), e0.funs, e0.frf⟩,
    rfl, e0.bare, Un.kept hk, ⟨_, x.toInCall.ns, fun i y v h1 h2 h3 => ?_⟩, fun y c h => ⟨_, x.cell y c h⟩, e0.hok.fresh (Nat.le_refl _), fun y c h => ?_, fun p hp => absurd (show p ∈ ([] : List (Addr × Obj)) from hp) (by simp), e0.hok.kept hk, ?_⟩
  · exact name_of_addr x.apart (PySem.mem_of_lookup h1) (PySem.mem_of_lookup h2)
  · have hy : scope.names.lookup y = some .cell ∨ scope.names.lookup y = some .free := hy
    rcases hy with hy | hy
    · exact cell_has hy
    · exact absurd rfl (S.nofree _ (PySem.mem_of_lookup hy))
  · exact Nat.le_of_lt (x.above y c (PySem.mem_of_lookup h))
  · have hi : i < vs.length := by
      unfold start at h2
      by_cases hi : i < vs.length
      · exact hi
      · rw [List.getElem?_append_right (by simpa using hi)] at h2
        rw [List.getElem?_replicate] at h2
        split at h2 <;> cases h2
    have ha : vs[i]? = some v := by
      unfold start at h2
      rw [List.getElem?_append_left (by simpa using hi), List.getElem?_map] at h2
      cases e : vs[i]? with
      | none => rw [e] at h2; cases h2
      | some a => rw [e] at h2; cases h2; rfl
    obtain ⟨u, hu, rv⟩ := r.get ha
    have hp : ps[i]? = some y := by
      rw [<- S.pre, List.getElem?_take_of_lt (by omega)]; exact h1
    have ndP : ps.Nodup := by rw [<- S.pre]; exact S.nd.sublist (List.take_sublist _ _)
    refine ⟨u, rv, ?_⟩
    rcases S.par y (List.mem_of_getElem? hp) with k | k
    · exact .inl ⟨k, bindL_get ndP hp hu k⟩
    · obtain ⟨c, e⟩ := cell_has (n := s.heap.objs.size + 1) k
      refine .inr ⟨.inl k, c, e, ?_⟩
      have q := x.cell y c e
      rw [bindC_get ndP hp hu (by show scope.names.lookup y ≠ _; rw [k]; decide)] at q
      exact q
  · exact e0.hok.fresh (Nat.le_of_lt (x.above y c (PySem.mem_of_lookup h)))
  · unfold start
    show _ = N.length
    rw [List.length_append, List.length_map, List.length_replicate]
    omega
theorem fn_of {CX : CXT} {P : Program} {w : World} {K : PySem.W.Frag} {mg : Str -> Option Value} {base : Heap} {k : Nat} {f : Addr} {name qual : Str} {params : Arguments} {body : List Stmt} {scope : Scope} {dV kV doc pm cdv ct oc : Value} {an od : Option Addr}
    {osl : Array (Option Value)} {N ps : List Str} {sp : Sp} (lk : K.lookup f = some ⟨oc, od, .func (PySem.W.fnOf name qual params body scope dV kV doc pm an cdv ct), osl⟩) (hcd : PySem.W.codeIn K cdv qual = true) (S : FnScope N ps scope)
    (len : ∀ vs H Q E, sp vs H Q E -> vs.length = ps.length)
    (hbody : ∀ (A : Around) (outer : List Env) (s : Shared) (H : Hp) (vs : List V) (Q : VK) (E : XK), Room k (A.deeper (envOfC qual scope s.heap.objs.size f cdv)) -> sp vs H Q E ->
      ∃ t, PSs (cxOf CX P w K mg base N qual scope f cdv A outer s H E) body t /\ t { nx := fun _ H' => Q .non H', rt := Q } (start N vs) H) :
    FnOk P w K mg base CX (k + 1) f (PySem.W.fnOf name qual params body scope dV kV doc pm an cdv ct) ps sp := by
  refine ⟨len, fun A outer s H args us vs Q E hr e0 hb r hsp => ?_⟩
  have hl := len _ _ _ _ hsp
  have KX : K.In s.heap := e0.mod.kin.keeps fun b o e => (e0.bs b o e).1
  have lim : s.heap.NoLimit := e0.mod.nolimit.keeps fun b o e => (e0.bs b o e).1
  have hkind : ∀ y ∈ ps.zip us, scope.names.lookup y.1 = some .local ∨ (scope.names.lookup y.1 = some .cell /\ ((cellsFrom (s.heap.objs.size + 1) scope.names []).lookup y.1).isSome = true) := fun ⟨n, v⟩ hy => by
    rcases S.par n (List.of_mem_zip hy).1 with q | q
    · exact .inl q
    · exact .inr ⟨q, PySem.W.cellsFrom_some _ _ _ (.inl q)⟩
  refine codeAny_call_function hr.depth (KX _ _ lk) rfl S.co S.gen rfl (PySem.W.codeRec_of KX hcd) (hb _ _ _ _ ?_)
  refine wpAny_newFunctionEnv_cells S.kind hkind fun env he s1 x => ?_
  subst he
  refine ⟨lim.keeps x.toInCall.keep, codeAny_func ?_⟩
  obtain ⟨t, ht, hq⟩ := hbody A outer s H vs Q E (hr.deeper _) hsp
  have I : Inv (cxOf CX P w K mg base N qual scope f cdv A outer s H E) [] (start N vs) H s1 := inv_start S hr.hd e0 hl r x
  refine wpAny_mono (ht [] s1 (start N vs) H _ I hq) (fun fl s' hs => ?_) fun e s' hs => hs
  have fin : ∀ {σ' : St} {H' : Hp} {v : V} {u : Value}, Inv (cxOf CX P w K mg base N qual scope f cdv A outer s H E) [] σ' H' s' -> RelV v u -> Q v H' -> CE outer P w H s Q u s' :=
    fun {σ' H' v u} J rv q => ⟨v, H', J.os, J.bare, J.base, J.hok, rv, q⟩
  cases fl with
  | ret u =>
    obtain ⟨v, σ', H', J, rv, q⟩ := hs
    exact fin J rv q
  | next =>
    obtain ⟨σ', H', J, q⟩ := hs
    exact fin (v := V.non) (u := Value.none) J rfl q
  | brk =>
    obtain ⟨_, _, _, q⟩ := hs
    exact False.elim q
  | cont =>
    obtain ⟨_, _, _, q⟩ := hs
    exact False.elim q
end L2
namespace L2
open PySem PySem.Spec PyProof.Rows
section
variable {X : Cx} {x : Str} {p pos : Pos} {e : Expr} {es : List Expr} {t : TA} {id T : String} {r : List V -> Hp -> VK -> Prop}
def tCB (r : List V -> Hp -> VK -> Prop) (t : TA) : TE := fun σ H Q => t σ H fun vs H1 => r vs H1 Q
theorem pe_callB (hc : CallR X (.builtin id) r) (hg : Gl X x) (hm : X.mg x = none) (hv : bootBuiltins x = some (.builtin id)) (ha : PA X (e :: es) t) (hn : x ≠ "__name__" := by decide) (hdb : (x == ("__debug__" : Str)) = false := by decide)
    (he : starEach (e :: es) X.env = (false, eval e X.env) :: starEach es X.env := by rfl) (hpl : (backTo pos (starEach es X.env)).any (·.1) = false := by rfl) : PE X (.Call (.Name x p) (e :: es) [] pos) (tCB r t) := by
  intro pins s σ H Q I h
  refine wpAny_Call_Name_kw (ld_blt I hg hm hv ?_ hn hdb)
  exact PyProof.Rows.callWith_builtin1 (thn (ha pos pins s σ H _ I h) fun us s1 ⟨vs, H1, I1, r1, q1⟩ => hc pins s1 σ H1 vs us Q I1 r1 q1) he hpl
theorem pe_callTy (hc : CallR X (.type T) r) (hg : Gl X x) (hm : X.mg x = none) (hv : bootBuiltins x = some (.type T)) (ha : PA X (e :: es) t) (hn : x ≠ "__name__" := by decide) (hdb : (x == ("__debug__" : Str)) = false := by decide)
    (he : starEach (e :: es) X.env = (false, eval e X.env) :: starEach es X.env := by rfl) (hpl : (backTo pos (starEach es X.env)).any (·.1) = false := by rfl) : PE X (.Call (.Name x p) (e :: es) [] pos) (tCB r t) := by
  intro pins s σ H Q I h
  refine wpAny_Call_Name_kw (ld_blt I hg hm hv ?_ hn hdb)
  exact PyProof.Rows.callWith_type1 (thn (ha pos pins s σ H _ I h) fun us s1 ⟨vs, H1, I1, r1, q1⟩ => hc pins s1 σ H1 vs us Q I1 r1 q1) he hpl
end
end L2
namespace HT
open PySem PyProof.Rows
section
open PySem.SeqAt
open PySem.AutoSeq1 (wpAny_loadPart')
open PySem.MeetsSeq PySem.MeetsSeq2 PySem.MeetsSeq3
end
section
variable {prog : Program} {w : World} {A : Around} {E : Value -> Shared -> Prop} {s : Shared}
theorem cat_tup {t b : Addr} {vs ws : List Value} {Q : Value -> Shared -> Prop} (ht : IsTup s.heap t vs.toArray) (hb : IsTup s.heap b ws.toArray) (hv : vs ≠ [])
    (h1 : ws = [] -> Q (.ref t) s) (h2 : ws ≠ [] -> Q (.ref s.heap.objs.size) { s with heap := s.heap.push { cls := .type "tuple", data := .seq (vs ++ ws).toArray } })
    (hsz : vs.length + ws.length <= sizeLine) : wpAny (model prog w) A (binaryOp .Add (.ref t) (.ref b)) Q E s := by
  obtain ⟨⟨cls, dd, data, sl⟩, ho, hc, n, hd⟩ := id ht
  obtain ⟨⟨cls2, dd2, data2, sl2⟩, ho2, hc2, n2, hd2⟩ := id hb
  simp only at hc hd hc2 hd2
  subst hc hd hc2 hd2
  have e : vs.toArray ++ ws.toArray = (vs ++ ws).toArray := by simp
  by_cases hw : ws = []
  · exact concat_meets ⟨_, ho, rfl⟩ ⟨_, ho2, rfl⟩ noFill_tuple_add seq_tuple_add PySem.F.slot_tuple_add PySem.F.entry_tuple_add (PySem.F.args_tuple_add_2 _ _)
      (tuple_addW1 t b vs.toArray ws.toArray n n2 dd dd2 sl sl2 (by simpa using hv) (by simp [hw])) ⟨ho, ho2, h1 hw⟩
  · refine concat_meets ⟨_, ho, rfl⟩ ⟨_, ho2, rfl⟩ noFill_tuple_add seq_tuple_add PySem.F.slot_tuple_add PySem.F.entry_tuple_add (PySem.F.args_tuple_add_2 _ _)
      (tuple_addW2 t b vs.toArray ws.toArray n n2 dd dd2 sl sl2 (by simpa using hv) (by simpa using hw) (by rw [List.size_toArray, List.size_toArray]; exact hsz)) ⟨ho, ho2, ?_⟩
    rw [e]
    exact h2 hw
end
end HT
namespace L2
open PySem PySem.Spec PyProof.Rows
abbrev TO := St -> Hp -> (Option Int -> Hp -> Prop) -> Prop
theorem intsAre_of {ns : List Int} : ∀ {us : List Value}, Vals (ns.map V.int) us -> IntsAre us ns := by
  induction ns with
  | nil => intro us r; rw [List.map_nil] at r; cases r; exact .nil
  | cons n ns ih =>
    intro us r
    rw [List.map_cons] at r
    cases r with
    | cons r1 r2 =>
      obtain ⟨t, e⟩ := r1
      subst e
      exact .cons n t (ih r2)
section
variable {X : Cx} {e : Expr} {te : TE} {lo hi : Option Expr} {tl th : TO} {pos p2 : Pos}
def rCatT (K : PySem.W.Frag) : R2 := fun x y H Q => ∃ a b xs ys, x = .ref a /\ y = .ref b /\ SqT K H a xs /\ SqT K H b ys /\ xs ≠ [] /\ xs.length + ys.length <= sizeLine ∧
  (ys = [] -> Q (.ref a) H) /\ (ys ≠ [] -> ∀ p, H p = none -> Q (.ref p) (upd H p (.tup (xs ++ ys))))
theorem Vals.nil_iff {xs : List V} {us : List Value} (r : Vals xs us) : us = [] ↔ xs = [] := by
  cases r with
  | nil => simp
  | cons _ _ => simp
theorem op_catT : OpR X (binaryOp .Add) (rCatT X.K) := by
  intro pins s σ H x y v u Q I rx ry h
  obtain ⟨a, b, xs, ys, rfl, rfl, ha, hb, hx, hz, q1, q2⟩ := h
  cases rx
  cases ry
  obtain ⟨its, r1, p1, _⟩ := I.tuple ha
  obtain ⟨its2, r2, p2, _⟩ := I.tuple hb
  refine HT.cat_tup p1 p2 (fun z => hx (r1.nil_iff.mp z)) (fun z => ⟨.ref a, H, I, rfl, q1 (r2.nil_iff.mp z)⟩) (fun z => ?_) (by rw [<- r1.length, <- r2.length]; exact hz)
  refine ⟨.ref s.heap.objs.size, _, I.laid (t' := s.toks) (o := .tup (xs ++ ys)) (fun b ob q => Heap.get?_push_of_some _ q) (Nat.le_refl _) ?_, rfl, q2 (fun w => z (r2.nil_iff.mpr w)) _ (I.hok.fresh (Nat.le_refl _))⟩
  exact ⟨by rw [List.length_append]; exact hz, _, r1.append r2, IsTup.new _ _⟩
end
end L2
namespace L2
open PySem PySem.Spec PyProof.Rows
def ixN (n : Nat) (i : Int) : Option Nat := if 0 <= i then (if i < n then some i.toNat else none) else if -(n : Int) <= i then some (i + n).toNat else none
def atI {α : Type} (xs : List α) (i : Int) : Option α := (ixN xs.length i).bind fun j => xs[j]?
theorem ixN_seq {n : Nat} {i : Int} {j : Nat} (h : ixN n i = some j) : seqIndex? i n = some j /\ j < n /\ -(n : Int) <= i /\ i < n := by
  unfold ixN at h
  by_cases h0 : 0 <= i
  · rw [if_pos h0] at h
    by_cases h1 : i < n
    · rw [if_pos h1] at h
      have e : i.toNat = j := Option.some.inj h
      exact ⟨by rw [seqIndex_of h0 h1, e], by omega, by omega, h1⟩
    · rw [if_neg h1] at h; cases h
  · rw [if_neg h0] at h
    by_cases h1 : -(n : Int) <= i
    · rw [if_pos h1] at h
      have e : (i + n).toNat = j := Option.some.inj h
      exact ⟨by rw [seqIndex_neg (by omega) h1, e], by omega, h1, by omega⟩
    · rw [if_neg h1] at h; cases h
theorem atI_get {α : Type} {xs : List α} {i : Int} {v : α} (h : atI xs i = some v) : ∃ j, seqIndex? i xs.length = some j /\ xs[j]? = some v /\ j < xs.length /\ -(xs.length : Int) <= i /\ i < xs.length := by
  unfold atI at h
  cases e : ixN xs.length i with
  | none => rw [e] at h; cases h
  | some j =>
    rw [e] at h
    obtain ⟨h1, h2, h3, h4⟩ := ixN_seq e
    exact ⟨j, h1, h, h2, h3, h4⟩
theorem atI_nat {α : Type} {xs : List α} {j : Nat} {v : α} (h : xs[j]? = some v) : atI xs (j : Int) = some v := by
  have hj : j < xs.length := (List.getElem?_eq_some_iff.mp h).1
  have e : ixN xs.length (j : Int) = some j := by
    unfold ixN
    rw [if_pos (by omega), if_pos (by omega)]; simp
  unfold atI; rw [e]; exact h
def PlainIx (b : Expr) : Prop := ∀ o i, subscripted b false o i = operate [o, i] (getItem o i)
def IxR (X : Cx) (r : R2) : Prop :=
  ∀ (value slice : Expr) (pins : List (Addr × Obj)) (s : Shared) (σ : St) (H : Hp) (x y : V) (v u : Value) (Q : VK), Inv X pins σ H s -> RelV x v -> RelV y u -> r x y H Q ->
    subscripted slice false v u = operate [v, u] (getItem v u) -> wpAny (model X.prog X.w) X.A (subscriptTail value slice v u) (EP X pins σ Q) X.xe s
def MtR (X : Cx) (id : String) (r : V -> List V -> Hp -> VK -> Prop) : Prop :=
  ∀ (pins : List (Addr × Obj)) (s : Shared) (σ : St) (H : Hp) (x : V) (xs : List V) (v : Value) (us : List Value) (Q : VK), Inv X pins σ H s -> RelV x v -> Vals xs us -> r x xs H Q ->
    wpAny (model X.prog X.w) X.A (call (.builtin id) (v :: us)) (EP X pins σ Q) X.xe s
section
variable {X : Cx} {a b : Expr} {ta tb : TE} {pos : Pos}
theorem pe_ix {r : R2} (hr : IxR X r) (ha : PE X a ta) (hb : PE X b tb) (hs : PlainIx b) : PE X (.Subscript a b pos) (tOp r ta tb) := by
  intro pins s σ H Q I h
  exact Subscript_ (binT ha hb I h fun v u s2 x y H2 I2 rx ry q => hr a b pins s2 σ H2 x y v u Q I2 rx ry q (hs _ _))
def rIxL (K : PySem.W.Frag) : R2 := fun x y H Q => ∃ p xs i v, x = .ref p /\ y = .int i /\ SqL K H p xs /\ atI xs i = some v /\ Q v H
def rIxT (K : PySem.W.Frag) : R2 := fun x y H Q => ∃ p xs i v, x = .ref p /\ y = .int i /\ SqT K H p xs /\ atI xs i = some v /\ Q v H
theorem ix_list : IxR X (rIxL X.K) := by
  intro value slice pins s σ H x y v u Q I rx ry h hs
  obtain ⟨p, xs, i, z, rfl, rfl, hq, he, q⟩ := h
  cases rx
  obtain ⟨t, rfl⟩ := ry
  obtain ⟨its, r, pl, hz⟩ := I.list hq
  obtain ⟨j, h1, h2, h3, h4, h5⟩ := atI_get he
  obtain ⟨w, ew, rw'⟩ := r.get h2
  have hl := r.length
  have hn := line63
  have fin : EP X pins σ Q w s := ⟨z, H, I, rw', q⟩
  by_cases h0 : 0 <= i
  · have hj : i.toNat = j := by
      rw [seqIndex_of h0 h5] at h1
      exact Option.some.inj h1
    exact item_listR pl.isList h0 (by omega) (by rw [hj]; simpa using ew) fin hs
  · have hj : (i + (its.toArray.size : Int)).toNat = j := by
      rw [seqIndex_neg (by omega) h4] at h1
      rw [List.size_toArray, <- hl]
      exact Option.some.inj h1
    exact subscriptTail_builtinR (x := w) pl.isList.typeIs slot_list_getitem.lookup
      (wpAny_getItem_list_neg (Q := fun r s' => r = w /\ EP X pins σ Q r s') pl.isList (by omega) (by rw [List.size_toArray] <;> omega) (by omega) (by rw [hj]; simpa using ew) ⟨rfl, fin⟩) hs
theorem ix_tup : IxR X (rIxT X.K) := by
  intro value slice pins s σ H x y v u Q I rx ry h hs
  obtain ⟨p, xs, i, z, rfl, rfl, hq, he, q⟩ := h
  cases rx
  obtain ⟨t, rfl⟩ := ry
  obtain ⟨its, r, pl, hz⟩ := I.tuple hq
  obtain ⟨j, h1, h2, h3, h4, h5⟩ := atI_get he
  obtain ⟨w, ew, rw'⟩ := r.get h2
  have hl := r.length
  have hn := line63
  have fin : EP X pins σ Q w s := ⟨z, H, I, rw', q⟩
  exact subscriptTail_builtinR (x := w) pl.typeIs slot_tuple_getitem.lookup
    (getItem_tuple (j := j) (Q := fun r s' => r = w /\ EP X pins σ Q r s') pl (by omega) (by omega) (by rw [List.size_toArray, <- hl]; exact h1) (by simpa using ew) ⟨rfl, fin⟩) hs
theorem Inv.lst {pins : List (Addr × Obj)} {σ : St} {H : Hp} {s : Shared} {p : Addr} {xs : List V} (I : Inv X pins σ H s) (h : H p = some (.lst xs)) :
    ∃ (its : List Value) (n : Nat), Vals xs its /\ s.heap.get? p = some { cls := .type "list", data := .seq its.toArray n } /\ xs.length <= sizeLine := by
  obtain ⟨z, its, n, r, e⟩ := I.hok p _ h
  exact ⟨its, n, r, e, z⟩
theorem call_len_seq : CallR X (.builtin "len") (fun xs H Q => ∃ p ys, xs = [.ref p] /\ (SqL X.K H p ys ∨ SqT X.K H p ys) /\ Q (.int ys.length) H) := by
  intro pins s σ H xs us Q I r h
  obtain ⟨p, ys, rfl, hq, q⟩ := h
  obtain ⟨u, rfl, rx⟩ := vals1 r
  cases rx
  have hn := line63
  rcases hq with hq | hq
  · obtain ⟨its, r', pl, hz⟩ := I.list hq
    have hlen := r'.length
    exact Calls.call_len_list pl.isList (by simp only [List.size_toArray] <;> omega) ⟨.int ys.length, H, I.tok _, ⟨s.toks + 1, by rw [List.size_toArray, hlen]⟩, q⟩
  · obtain ⟨its, r', pl, hz⟩ := I.tuple hq
    have hlen := r'.length
    exact len_tuple pl (by simp only [List.size_toArray] <;> omega) ⟨.int ys.length, H, I.tok _, ⟨s.toks + 1, by rw [List.size_toArray, hlen]⟩, q⟩
theorem call_list_of : CallR X (.type "list") (fun xs H Q => ∃ p ys, xs = [.ref p] /\ (SqL X.K H p ys ∨ SqT X.K H p ys) /\ ∀ l, H l = none -> Q (.ref l) (upd H l (.lst ys))) := by
  intro pins s σ H xs us Q I r h
  obtain ⟨p, ys, rfl, hq, q⟩ := h
  obtain ⟨u, rfl, rx⟩ := vals1 r
  cases rx
  have fin : ∀ (its : List Value), Vals ys its -> ys.length <= sizeLine -> ∀ (h' : Heap) (c' : Nat), (∀ b o', s.heap.get? b = some o' -> h'.get? b = some o') ->
      h'.get? s.heap.objs.size = some { cls := .type "list", dict := none, data := .seq its.toArray c', slots := #[] } -> EP X pins σ Q (.ref s.heap.objs.size) { s with heap := h' } := fun its r' hz h' c' kp e =>
    ⟨.ref s.heap.objs.size, _, I.laid (t' := s.toks) kp (Nat.le_refl _) (show ObjOk X.prog X.w _ h' _ (.lst ys) from ⟨hz, its, c', r', e⟩), rfl, q _ (I.hok.fresh (Nat.le_refl _))⟩
  rcases hq with hq | hq
  · obtain ⟨its, r', pl, hz⟩ := I.list hq
    have hlen := r'.length
    obtain ⟨o, ho, hc, n, hd⟩ := pl.isList
    exact call_list_seq p (.inl rfl) ho hc hd (fun h' c' kp e => fin its r' hz h' c' kp e) (by simp only [List.size_toArray] <;> omega)
  · obtain ⟨its, r', pl, hz⟩ := I.tuple hq
    have hlen := r'.length
    obtain ⟨o, ho, hc, n, hd⟩ := pl
    exact call_list_seq p (.inr rfl) ho hc hd (fun h' c' kp e => fin its r' hz h' c' kp e) (by simp only [List.size_toArray] <;> omega)
theorem call_tuple_of : CallR X (.type "tuple") (fun xs H Q => ∃ p ys, xs = [.ref p] /\ ((SqL X.K H p ys /\ ∀ l, H l = none -> Q (.ref l) (upd H l (.tup ys))) ∨ (SqT X.K H p ys /\ Q (.ref p) H))) := by
  intro pins s σ H xs us Q I r h
  obtain ⟨p, ys, rfl, h⟩ := h
  obtain ⟨u, rfl, rx⟩ := vals1 r
  cases rx
  rcases h with ⟨hq, q⟩ | ⟨hq, q⟩
  · obtain ⟨its, r', pl, hz⟩ := I.list hq
    have hlen := r'.length
    refine call_tuple_list pl.isList (fun h' kp => ?_) (by simp only [List.size_toArray] <;> omega)
    have I1 : Inv X pins σ H { s with heap := h' } := I.kept (t' := s.toks) kp
    have I2 : Inv X pins σ (upd H h'.objs.size (.tup ys)) { s with heap := h'.push { cls := .type "tuple", data := .seq its.toArray } } :=
      I1.laid (t' := s.toks) (fun b o e => Heap.get?_push_of_some _ e) (Nat.le_refl _) (show ObjOk X.prog X.w _ _ _ (.tup ys) from ⟨hz, its, r', IsTup.new _ _⟩)
    exact ⟨.ref h'.objs.size, _, I2, rfl, q _ (I1.hok.fresh (Nat.le_refl _))⟩
  · obtain ⟨its, r', pl, hz⟩ := I.tuple hq
    exact call_tuple_same pl ⟨.ref p, H, I, rfl, q⟩
def tyV (K : PySem.W.Frag) (T : String) (x : V) (H : Hp) : Prop := match x with
  | .str _ => T = "str"
  | .int _ => T = "int"
  | .ref p => (T = "list" /\ ∃ xs, SqL K H p xs) ∨ (T = "tuple" /\ ∃ o, K.lookup p = some o /\ o.cls = .type "tuple" /\ o.dict = none) ∨
      (T = "dict" /\ ((∃ kvs, H p = some (.dK kvs)) ∨ ∃ kvs, H p = some (.dT kvs))) ∨ (T = "set" /\ ∃ S n, H p = some (.set S n))
  | _ => False
theorem tyV_is {pins : List (Addr × Obj)} {σ : St} {H : Hp} {s : Shared} {T : String} {x : V} {v : Value} (I : Inv X pins σ H s) (r : RelV x v) (ty : tyV X.K T x H) :
    s.TypeIs v T /\ ∀ a, v = .ref a -> ∃ ob, s.heap.get? a = some ob /\ ob.dict = none := by
  cases x with
  | str z =>
    obtain ⟨t, rfl⟩ := r
    cases (show T = "str" from ty)
    exact ⟨typeIs_str s z t, fun _ e => nomatch e⟩
  | int i =>
    obtain ⟨t, rfl⟩ := r
    cases (show T = "int" from ty)
    exact ⟨typeIs_int s i t, fun _ e => nomatch e⟩
  | ref p =>
    cases r
    rcases ty with ⟨rfl, xs, hq⟩ | ⟨rfl, o, hk, hc, hd⟩ | ⟨rfl, hk⟩ | ⟨rfl, S, n, hk⟩
    · obtain ⟨its, _, pl, _⟩ := I.list hq
      refine ⟨pl.isList.typeIs, fun a e => ?_⟩
      cases e
      obtain ⟨o, n, e, c, hd, _⟩ := pl
      exact ⟨o, e, hd⟩
    · refine ⟨⟨o, I.kIn p o hk, hc⟩, fun a e => ?_⟩
      cases e
      exact ⟨o, I.kIn _ o hk, hd⟩
    · have z : ∃ o, s.heap.get? p = some o /\ o.ExactDict := by
        rcases hk with ⟨kvs, hk⟩ | ⟨kvs, hk⟩
        · obtain ⟨_, _, _, _, o, _, _, e, ex, _⟩ := I.hok p _ hk
          exact ⟨o, e, ex⟩
        · obtain ⟨_, _, _, _, o, _, _, e, ex, _⟩ := I.hok p _ hk
          exact ⟨o, e, ex⟩
      obtain ⟨o, e, ex⟩ := z
      refine ⟨⟨o, e, ex.1⟩, fun a e2 => ?_⟩
      cases e2
      exact ⟨o, e, ex.2.1⟩
    · obtain ⟨o, _, _, _, e, ex, _⟩ := I.hok p _ hk
      refine ⟨⟨o, e, ex.1⟩, fun a e2 => ?_⟩
      cases e2
      exact ⟨o, e, ex.2.1⟩
  | _ => exact False.elim ty
def tBM (K : PySem.W.Frag) (T : String) (r : V -> List V -> Hp -> VK -> Prop) (to : TE) (t : TA) : TE := fun σ H Q => to σ H fun x H1 => tyV K T x H1 /\ t σ H1 fun xs H2 => r x xs H2 Q
variable {o e : Expr} {es : List Expr} {to : TE} {t : TA} {name : Str} {apos cpos : Pos} {T id : String} {r : V -> List V -> Hp -> VK -> Prop}
theorem pe_bm (pa : PlainAttrs T) (slot : Slot T name id) (hty : typeOf (.builtin id) = pure (.type "method_descriptor")) (hm : MtR X id r) (ho : PE X o to) (ha : PA X (e :: es) t)
    (hbase : attributeBase o name X.env (eval o X.env) = eval o X.env := by rfl)
    (hfew : ((backTo cpos (starEach (e :: es) X.env)).all (fun x => !x.1) && (backToKw cpos (keywordEach [] X.env)).all (fun x => x.1.isSome)
      && decide ((e :: es).length + ([] : List Keyword).length + (if ([] : List Keyword).isEmpty then 0 else 1) < 30)) = true := by rfl)
    (hline : (apos.endLine == cpos.line) = true := by rfl) (hs : starEach (e :: es) X.env = (false, eval e X.env) :: starEach es X.env := by rfl) (hplain : (backTo cpos (starEach es X.env)).any (·.1) = false := by rfl) :
    PE X (.Call (.Attribute o name apos) (e :: es) [] cpos) (tBM X.K T r to t) := by
  intro pins s σ H Q I h
  refine wpAny_Call_method_late hbase hfew hline rfl (thn (ho pins s σ H _ I h) fun v s1 ⟨x, H1, I1, r1, ty, q1⟩ => ?_)
  obtain ⟨h1, h2⟩ := tyV_is I1 r1 ty
  refine ⟨T, id, pa, slot, hty, h1, h2, ?_⟩
  have hA := ha cpos pins s1 σ H1 _ I1 q1
  rw [hs] at hA ⊢
  refine Calls.callWith_builtin (by show (false || (backTo cpos (starEach es X.env)).any (·.1)) = false; rw [hplain] <;> rfl) (Calls.evalArgs_plain ?_)
  exact thn hA fun us s2 ⟨vs, H2, I2, r2, q2⟩ => hm pins s2 σ H2 x vs v us Q I2 r1 r2 q2
end
end L2
namespace L2
open PySem PySem.Spec PyProof.Rows
def MtM (X : Cx) (id : String) (r : V -> List V -> Hp -> VK -> Prop) : Prop :=
  ∀ (pins : List (Addr × Obj)) (s : Shared) (σ : St) (H : Hp) (x : V) (xs : List V) (v : Value) (us : List Value) (Q : VK), Inv X pins σ H s -> RelV x v -> Vals xs us -> r x xs H Q ->
    wpAny (model X.prog X.w) X.A (call (.builtin id) (v :: us)) (EP X pins σ Q) X.xe s
theorem Vals.one : ∀ {x : V} {us : List Value}, Vals [x] us -> ∃ u, us = [u] /\ RelV x u
  | _, _, .cons r .nil => ⟨_, rfl, r⟩
theorem Vals.two : ∀ {x y : V} {us : List Value}, Vals [x, y] us -> ∃ u v, us = [u, v] /\ RelV x u /\ RelV y v
  | _, _, _, .cons r (.cons q .nil) => ⟨_, _, rfl, r, q⟩
theorem Vals.zero : ∀ {us : List Value}, Vals [] us -> us = []
  | _, .nil => rfl
theorem Vals.eraseIdx : ∀ {xs : List V} {us : List Value} (i : Nat), Vals xs us -> Vals (xs.eraseIdx i) (us.eraseIdx i)
  | _, _, _, .nil => .nil
  | _, _, 0, .cons _ t => t
  | _, _, i + 1, .cons r t => .cons r (Vals.eraseIdx i t)
theorem Vals.reverse {xs : List V} {us : List Value} (h : Vals xs us) : Vals xs.reverse us.reverse := by
  induction h with
  | nil => exact .nil
  | cons r t ih => rw [List.reverse_cons, List.reverse_cons]; exact Vals.append ih (.cons r .nil)
theorem len_erase {α : Type} : ∀ (l : List α) (i : Nat), (l.eraseIdx i).length <= l.length
  | [], _ => Nat.le_refl _
  | _ :: _, 0 => Nat.le_succ _
  | _ :: r, i + 1 => Nat.succ_le_succ (len_erase r i)
section
variable {X : Cx} {pins : List (Addr × Obj)} {σ : St} {H : Hp} {s : Shared} {l b : Addr} {xs ys zs : List V}
theorem Inv.lset {its its' : List Value} {n : Nat} {f : Array Value -> Array Value} {t' : Nat} (I : Inv X pins σ H s) (hH : H l = some (.lst xs))
    (e : s.heap.get? l = some { cls := .type "list", data := .seq its.toArray n }) (hf : f its.toArray = its'.toArray) (hv : Vals ys its') (hz : ys.length <= sizeLine) :
    Inv X pins σ (upd H l (.lst ys)) { s with heap := s.heap.update l (Obj.mapSeq f), toks := t' } := by
  have q := PySem.IsL.update e f
  rw [hf] at q
  refine I.write (x := l) (e := l) (by rw [hH]; exact trivial) (.inl rfl) (fun b' u hb hu => (Heap.get?_update_other s.heap (Obj.mapSeq f) (Ne.symm hb)).trans hu) ⟨_, q⟩ ?_
  exact ⟨hz, its', _, hv, q⟩
theorem Inv.fresh (I : Inv X pins σ H s) : H s.heap.objs.size = none := I.hok.fresh (Nat.le_refl _)
theorem Inv.lstM (I : Inv X pins σ H s) (hH : H l = some (.lst xs)) : xs.length <= sizeLine /\ ∃ (its : List Value) (n : Nat), Vals xs its /\ xs.length = its.length /\ s.heap.get? l = some { cls := .type "list", data := .seq its.toArray n } := by
  obtain ⟨z, its, n, r, e⟩ := I.hok l _ hH
  exact ⟨z, its, n, r, r.length, e⟩
theorem notLongL {n : Nat} (h : n <= sizeLine) : Builtin.List.listTooLong n = false := by
  unfold Builtin.List.listTooLong
  exact decide_eq_false (by omega)
end
section
variable {X : Cx}
def rAppend : V -> List V -> Hp -> VK -> Prop := fun x vs H Q => ∃ l xs y, x = .ref l /\ vs = [y] /\ H l = some (.lst xs) /\ xs.length < sizeLine /\ Q .non (upd H l (.lst (xs ++ [y])))
theorem mt_append : MtM X "list.append" rAppend := by
  intro pins s σ H x vs v us Q I rx rv h
  obtain ⟨l, xs, y, rfl, rfl, hH, hz, q⟩ := h
  cases rx
  obtain ⟨u, rfl, ru⟩ := rv.one
  obtain ⟨z, its, n, r, hl, e⟩ := I.lstM hH
  refine call_meets F.slot_list_append ⟨_, e, rfl⟩ F.entry_list_append (F.args_list_append_2 _ _) (PySem.list_append l its.toArray n u (by rw [List.size_toArray]; omega)) ⟨e, ?_⟩
  refine ⟨.non, _, I.lset (its' := its ++ [u]) hH e (by simp) (r.append (.cons ru .nil)) ?_, rfl, q⟩
  rw [List.length_append, List.length_singleton]
  omega
def rExtend : V -> List V -> Hp -> VK -> Prop := fun x vs H Q => ∃ l b xs zs, x = .ref l /\ vs = [.ref b] /\ H l = some (.lst xs) /\ H b = some (.lst zs) /\ xs.length + zs.length <= sizeLine /\ Q .non (upd H l (.lst (xs ++ zs)))
theorem mt_extend : MtM X "list.extend" rExtend := by
  intro pins s σ H x vs v us Q I rx rv h
  obtain ⟨l, b, xs, zs, rfl, rfl, hH, hB, hz, q⟩ := h
  cases rx
  obtain ⟨u, rfl, ru⟩ := rv.one
  cases ru
  obtain ⟨z, its, n, r, hl, e⟩ := I.lstM hH
  obtain ⟨z2, its2, n2, r2, hl2, e2⟩ := I.lstM hB
  have hsz : its.toArray.size + its2.toArray.size <= sizeLine := by rw [List.size_toArray, List.size_toArray]; omega
  have hlong : ¬ (!its.toArray.isEmpty && Builtin.List.listTooLong (its.toArray.size + its2.toArray.size)) = true := by
    rw [notLongL hsz, Bool.and_false]
    exact Bool.false_ne_true
  refine call_meets F.slot_list_extend ⟨_, e, rfl⟩ F.entry_list_extend (F.args_list_extend_2 _ _)
    (AutoSeq1.list_extend_list_list_0 l its.toArray n b its2.toArray n2 hlong (by rw [List.size_toArray]; omega) (by omega)) ⟨e, e2, ?_⟩
  refine ⟨.non, _, I.lset (its' := its ++ its2) hH e (by simp) (r.append r2) ?_, rfl, q⟩
  rw [List.length_append]
  omega
def rPopAt : V -> List V -> Hp -> VK -> Prop := fun x vs H Q => ∃ l xs i k y, x = .ref l /\ vs = [.int i] /\ H l = some (.lst xs) /\ -(2 ^ 63) <= i /\ i < 2 ^ 63 /\ seqIndex? i xs.length = some k /\ xs[k]? = some y /\ Q y (upd H l (.lst (xs.eraseIdx k)))
theorem mt_popAt : MtM X "list.pop" rPopAt := by
  intro pins s σ H x vs v us Q I rx rv h
  obtain ⟨l, xs, i, k, y, rfl, rfl, hH, h1, h2, hk, hy, q⟩ := h
  cases rx
  obtain ⟨u, rfl, ru⟩ := rv.one
  obtain ⟨t, rfl⟩ := ru
  obtain ⟨z, its, n, r, hl, e⟩ := I.lstM hH
  obtain ⟨w, hw, rw'⟩ := r.get hy
  refine call_meets F.slot_list_pop ⟨_, e, rfl⟩ F.entry_list_pop (F.args_list_pop_2 _ _)
    (MeetsSeq.list_pop_at l its.toArray n i t k w (fitsIndex_both h1 h2) (by rw [List.size_toArray, <- hl]; exact hk) (by rw [<- Array.getElem?_toList]; exact hw) (by rw [List.size_toArray]; omega)) ⟨e, ?_⟩
  refine ⟨y, _, I.lset (its' := its.eraseIdx k) hH e ?_ (r.eraseIdx k) ?_, rw', q⟩
  · show its.toArray.eraseIdxIfInBounds k = (its.eraseIdx k).toArray
    rw [List.eraseIdxIfInBounds_toArray]
  · have := len_erase xs k
    omega
end
section
variable {prog : Program} {w : World} {A : Around} {E : Value -> Shared -> Prop} {s : Shared}
end
section
variable {X : Cx}
end
end L2
namespace Att
open PySem PySem.W PySem.Calls PyProof.Rows
theorem ints_of_wellAll {P : Params} {h : Heap} : ∀ (ns : List Int) (vs : List Value), WellAll P h vs (ns.map WData.int) -> IntsAre vs ns := by
  intro ns
  induction ns with
  | nil =>
    intro vs w
    rw [List.map_nil] at w
    cases w
    exact .nil
  | cons n ns ih =>
    intro vs w
    rw [List.map_cons] at w
    cases w with
    | cons a b =>
      cases a
      exact .cons _ _ (ih _ b)
theorem script_of {l : OpenLaw} {n : Nat} (hn : l.most = some n) {P : Params} {h : Heap} {args : List WData} {vals : List Value}
    (hpre : l.row.toRowW.claim.pre args = true) (hwl : WellAll P h vals args) :
    ∃ a vs ns, vals = [Value.ref a] /\ args = [WData.list (ns.map WData.int)] /\ h.get? a = some { cls := .type "list", data := .seq vs.toArray } /\ IntsAre vs ns /\ ns.length <= n := by
  have hsh : WShape.hasAll [] args [.list .int] = true := (pre_splitW hpre).1
  have hc : l.pre.holds [] { args := args } = true := (pre_splitW hpre).2
  obtain ⟨d, r, rfl, h1, h2⟩ := hasAllW_cons hsh
  obtain rfl := hasAllW_nil h2
  obtain ⟨xs, rfl, h3⟩ := hasW_list h1
  obtain ⟨ns, rfl⟩ := items_int h3
  have hlen : ns.length <= n := by
    unfold OpenLaw.pre at hc
    have h4 : (WTm.not (.lt (.lit (.int (n : Int))) (.len (.arg 0)))).holds [] { args := [.list (ns.map .int)] } = true := by
      have h4 := (holds_andW hc).1
      rw [hn] at h4
      exact h4
    have h5 := condW_of h4 (w_not (w_lt w_lit (w_len_list (w_arg rfl))))
    rw [List.length_map] at h5
    refine Nat.le_of_not_lt fun q => ?_
    have q' : (n : Int) < ((ns.length : Nat) : Int) := by omega
    first
      | (rw [decide_eq_true q'] at h5; exact absurd h5 (by decide))
      | (simp at h5; omega)
  cases hwl with
  | cons w1 w2 =>
    cases w2
    cases w1 with
    | list ho hall => exact ⟨_, _, ns, rfl, rfl, ho, ints_of_wellAll ns _ hall, hlen⟩
theorem post_true (l : OpenLaw) (args : List WData) : l.row.toRowW.claim.post args (.bool true) args = true :=
  postW_of (r := l.row.toRowW) (X := (true == true))
    (show WShape.has [] (.bool true) .bool = true by first | rfl | decide | simp [WShape.has, WShape.arms, WShape.armsAll])
    (show (WTm.eq .res (.lit (.bool true))).value [] { args := args, res := some (.bool true), after := args } = some (.bool (true == true)) from w_eq_bool (w_res rfl) w_lit) rfl
theorem attach_call {l : OpenLaw} {n : Nat} {q : Program} {loose : List Str} {XP : (Str -> Option Value) -> Heap -> Prop} {YP : World -> Heap -> Prop} {d : DefRec}
    (hn : l.most = some n) (hdf : d.params.defaults = [])
    (call : ∀ (w : World) (s₀ s₁ : Shared) (mg mb : Str -> Option Value) (fa : Addr) (o : Obj) (pm cd doc : Value) (a : Addr) (vs : List Value) (ns : List Int),
      Ground q loose [] XP w s₀ mg mb s₁.heap -> YP w s₁.heap ->
      s₁.heap.get? fa = some o -> o.data = .func (docDef d.name d.params d.body d.scope pm cd doc) -> s₁.heap.CodeRec cd d.name -> mg d.name = some (.ref fa) ->
      s₁.heap.get? a = some { cls := .type "list", data := .seq vs.toArray } -> IntsAre vs ns -> ns.length <= n -> s₁.gens = #[] ->
      codeAny (model l.prog w) callerA (.call (.ref fa) ⟨[.ref a], []⟩) (fun r s' => r = .ok (.ret (.bool true)) /\ OldK s₁.heap s'.heap /\ s'.os = s₁.os /\ AllBare s'.gens) s₁) :
    WalkO q loose XP YP l.row.toRowW d [] (fun f vs => PySem.call f vs) := by
  intro w s₀ s₁ mg mb G Y fa o pm cd doc dV kV ho hd hcd hD hmg hg args vals as hpre hlay hrd hwl hlo
  obtain rfl : dV = .none := Dflts.none hD hdf
  obtain rfl : kV = .none := Dflts.noKw hD
  obtain ⟨a, vs, ns, rfl, rfl, hobj, hints, hlen⟩ := script_of hn hpre hwl
  refine enter_call (codeAny_mono (call w s₀ s₁ mg mb fa o pm cd doc a vs ns G Y ho (fd_plain hd) hcd hmg hobj hints hlen hg) fun r s' hq => ?_)
  obtain ⟨rfl, h2, h3, h4⟩ := hq
  exact ⟨.inl ⟨.bool true, .bool true, [], rfl, fun _ => rfl, .bool true, post_true l _, fun _ => ⟨List.Pairwise.nil, fun _ hm => (nomatch hm)⟩⟩, h2, h3, h4⟩
section
variable {prog : Program} {w : World} {A : Around} {E : Value -> Shared -> Prop} {s : Shared} {K : Frag}
end
end Att
namespace L2
open PySem PySem.Spec PyProof.Rows
theorem vals_ints : ∀ {vs : List Value} {ns : List Int}, IntsAre vs ns -> Vals (ns.map V.int) vs
  | _, _, .nil => .nil
  | _, _, .cons n t h => .cons ⟨t, rfl⟩ (vals_ints h)
end L2
namespace L2
open PySem PySem.Spec PyProof.Rows
end L2
namespace L2
open PySem PySem.Spec PyProof.Rows
def inClass (s : Stmt) (j : Nat) : Stmt := match s with
  | .ClassDef _ _ _ body _ _ _ _ _ _ _ => body.getD j (.Pass ⟨0, 0, 0, 0⟩)
  | _ => .Pass ⟨0, 0, 0, 0⟩
def defArgs (s : Stmt) : Arguments := match s with
  | .FunctionDef _ a _ _ _ _ _ _ _ _ => a
  | _ => { posonlyargs := [], args := [], vararg := none, kwonlyargs := [], kw_defaults := [], kwarg := none, defaults := [] }
def defBody (s : Stmt) : List Stmt := match s with
  | .FunctionDef _ _ b _ _ _ _ _ _ _ => b
  | _ => []
def defScope (s : Stmt) : Scope := match s with
  | .FunctionDef _ _ _ _ _ _ sc _ _ _ => sc
  | _ => { kind := .function, names := [], isGenerator := false, isCoroutine := false }
abbrev CX0 : CXT := fun _ _ _ _ _ _ => False
abbrev E0 : XK := fun _ _ _ => False
theorem pass0 {X : Cx} : Passes CX0 X E0 := fun _ _ _ _ _ _ _ h => h.elim
structure Fun (K : PySem.W.Frag) (x qual : Str) (st : Stmt) (f : Addr) (fd : FuncData) : Prop where
  ex : ∃ (oc : Value) (od : Option Addr) (kV doc pm : Value) (an : Option Addr) (cdv ct : Value) (osl : Array (Option Value)),
    fd = PySem.W.fnOf x qual (defArgs st) (defBody st) (defScope st) .none kV doc pm an cdv ct /\ K.lookup f = some ⟨oc, od, .func fd, osl⟩ /\ PySem.W.codeIn K cdv qual = true
  kp : PySem.W.keepIn K (.ref f) = true
section
variable {P : Program} {w : World} {K : PySem.W.Frag} {mg : Str -> Option Value} {base : Heap}
theorem Fun.ok {x qual : Str} {st : Stmt} {f : Addr} {fd : FuncData} {N ps : List Str} {k : Nat} {sp : Sp} (F : Fun K x qual st f fd) (S : FnScope N ps (defScope st)) (len : ∀ vs H Q E, sp vs H Q E -> vs.length = ps.length)
    (hbody : ∀ (cdv : Value) (A : Around) (outer : List Env) (s : Shared) (H : Hp) (vs : List V) (Q : VK) (E : XK), Room k (A.deeper (envOfC qual (defScope st) s.heap.objs.size f cdv)) -> sp vs H Q E ->
      ∃ t, PSs (cxOf CX0 P w K mg base N qual (defScope st) f cdv A outer s H E).nox (defBody st) t /\ t { nx := fun _ H' => Q .non H', rt := Q } (start N vs) H) : FnOk P w K mg base CX0 (k + 1) f fd ps sp := by
  obtain ⟨oc, od, kV, doc, pm, an, cdv, ct, osl, rfl, lk, hcd⟩ := F.ex
  refine fn_of lk hcd S len fun A outer s H vs Q E hr hsp => ?_
  obtain ⟨t, h, q⟩ := hbody cdv A outer s H vs Q E hr hsp
  exact ⟨t, h.nox, q⟩
theorem Fun.binds {x qual : Str} {st : Stmt} {f : Addr} {fd : FuncData} {ps : List Str} (F : Fun K x qual st f fd)
    (h : ∀ (kV doc pm : Value) (an : Option Addr) (cdv ct : Value) (us : List Value), us.length = ps.length -> bindArgs (PySem.W.fnOf x qual (defArgs st) (defBody st) (defScope st) .none kV doc pm an cdv ct) ⟨us, []⟩ = pure (ps.zip us)) : Binds K fd ps [] := by
  obtain ⟨oc, od, kV, doc, pm, an, cdv, ct, osl, rfl, lk, hcd⟩ := F.ex
  exact .all (h kV doc pm an cdv ct)
theorem fun_mk {x qual : Str} {st : Stmt} {f : Addr} {oc : Value} {od an : Option Addr} {osl : Array (Option Value)} {kV doc pm cdv ct : Value} (l : K.lookup f = some ⟨oc, od, .func (PySem.W.fnOf x qual (defArgs st) (defBody st) (defScope st) .none kV doc pm an cdv ct), osl⟩)
    (c : PySem.W.codeIn K cdv qual = true) (k : PySem.W.keepIn K (.ref f) = true) : Fun K x qual st f (PySem.W.fnOf x qual (defArgs st) (defBody st) (defScope st) .none kV doc pm an cdv ct) := ⟨⟨oc, od, kV, doc, pm, an, cdv, ct, osl, rfl, l, c⟩, k⟩
end
theorem hu_of {A : Around} {k : Nat} (hr : Room k A) : A.units + 1 < cLine := Nat.lt_of_le_of_lt (Nat.add_le_add_left (by decide : 1 <= 64) _) hr.units
theorem small1000 {n : Nat} (h : n <= 1000) : n < sizeLine := Nat.lt_of_le_of_lt h (by decide)
section
variable {X : Cx}
theorem pv (i : Nat) {x : Str} {pos : Pos} (hN : X.N[i]? = some x := by rfl) (hv : Vis X.env.scope x := by first | exact Or.inl rfl | exact Or.inr (Or.inl rfl) | exact Or.inr (Or.inr rfl)) (hd : (x == ("__debug__" : Str)) = false := by decide)
    (hcd : (x == ("__classdict__" : Str)) = false := by decide) : PE X (.Name x pos) (tVar i) := pe_var hN hv hd hcd
end
theorem iteF {A B : Prop} (h : B) : if false = true then A else B := by
  rw [if_neg Bool.false_ne_true]
  exact h
theorem iteT {A B : Prop} (h : A) : if true = true then A else B := by
  rw [if_pos rfl]
  exact h
theorem ite2 {c A B : Prop} [Decidable c] (h1 : c -> A) (h2 : ¬ c -> B) : if c then A else B := by
  by_cases h : c
  · rw [if_pos h]
    exact h1 h
  · rw [if_neg h]
    exact h2 h
def Same (H H' : Hp) : Prop := ∀ b o, H b = some o -> H' b = some o
theorem Same.refl (H : Hp) : Same H H := fun _ _ h => h
theorem Same.trans {H H1 H2 : Hp} (a : Same H H1) (b : Same H1 H2) : Same H H2 := fun c o h => b c o (a c o h)
theorem Same.free {H H' : Hp} (e : Same H H') {l : Addr} (h : H' l = Option.none) : H l = Option.none := by
  cases q : H l with
  | none => rfl
  | some o =>
    rw [e l o q] at h
    cases h
theorem Same.seq {K : PySem.W.Frag} {H H' : Hp} {a : Addr} {xs : List V} (e : Same H H') (h : SqL K H a xs) : SqL K H' a xs := by
  rcases h with (h | ⟨o, h⟩) | h
  · exact .inl (.inl (e _ _ h))
  · exact .inl (.inr ⟨o, e _ _ h⟩)
  · exact .inr h
end L2
namespace L2
open PySem PySem.Spec PyProof.Rows
section
variable {κ : Type} [DecidableEq κ]
def valV (kvs : List (κ × V)) (k : κ) : Option V := (kvs.find? fun kv => decide (kv.1 = k)).map (·.2)
def putK (kvs : List (κ × V)) (k : κ) (v : V) : List (κ × V) :=
  if (kvs.any fun kv => decide (kv.1 = k)) = true then kvs.map (fun kv => if kv.1 = k then (kv.1, v) else kv) else kvs ++ [(k, v)]
def dropK (kvs : List (κ × V)) (k : κ) : List (κ × V) := kvs.filter fun kv => decide (kv.1 ≠ k)
theorem valV_pos {p : κ × V} {r : List (κ × V)} {k : κ} (e : p.1 = k) : valV (p :: r) k = some p.2 := by simp [valV, List.find?_cons, e]
theorem valV_neg {p : κ × V} {r : List (κ × V)} {k : κ} (e : ¬ p.1 = k) : valV (p :: r) k = valV r k := by simp [valV, List.find?_cons, e]
theorem valV_any (k : κ) : ∀ kvs : List (κ × V), (kvs.any fun kv => decide (kv.1 = k)) = (valV kvs k).isSome
  | [] => rfl
  | p :: r => by
    rw [List.any_cons]
    by_cases e : p.1 = k
    · simp only [valV_pos e, decide_eq_true e, Bool.true_or, Option.isSome_some]
    · rw [valV_neg e, decide_eq_false e, Bool.false_or]; exact valV_any k r
theorem length_putK (kvs : List (κ × V)) (k : κ) (v : V) : (putK kvs k v).length <= kvs.length + 1 := by
  unfold putK
  split
  · rw [List.length_map]; omega
  · rw [List.length_append, List.length_cons, List.length_nil]; omega
theorem RelO.isSome_eq {o : Option V} {u : Option Value} (r : RelO o u) : o.isSome = u.isSome := by
  cases o with
  | none => cases u with
    | none => rfl
    | some _ => exact (show False from r).elim
  | some _ => cases u with
    | none => exact (show False from r).elim
    | some _ => rfl
theorem RelO.getD {o : Option V} {u : Option Value} {d : V} {d' : Value} (r : RelO o u) (rd : RelV d d') : RelV (o.getD d) (u.getD d') := by
  cases o with
  | none => cases u with
    | none => exact rd
    | some _ => exact (show False from r).elim
  | some _ => cases u with
    | none => exact (show False from r).elim
    | some _ => exact r
theorem KV.val {kvs : List (κ × V)} {vs : List (κ × Value)} (r : KV kvs vs) (k : κ) : RelO (valV kvs k) (valueAt vs k) := by
  unfold KV at r
  induction r with
  | nil => exact True.intro
  | @cons p q ps qs h t ih =>
    obtain ⟨h1, h2⟩ := h
    by_cases e : p.1 = k
    · have e' : q.1 = k := h1.symm.trans e
      have b : valueAt (q :: qs) k = some q.2 := by simp [valueAt, List.find?_cons, e']
      rw [valV_pos e, b]; exact h2
    · have e' : ¬ q.1 = k := fun z => e (h1.trans z)
      have b : valueAt (q :: qs) k = valueAt qs k := by simp [valueAt, List.find?_cons, e']
      rw [valV_neg e, b]; exact ih
theorem KV.any {kvs : List (κ × V)} {vs : List (κ × Value)} (r : KV kvs vs) (k : κ) : (kvs.any fun kv => decide (kv.1 = k)) = vs.any fun kv => decide (kv.1 = k) := by
  unfold KV at r
  induction r with
  | nil => rfl
  | cons h t ih => rw [List.any_cons, List.any_cons, ih, h.1]
theorem KV.repl {kvs : List (κ × V)} {vs : List (κ × Value)} (r : KV kvs vs) (k : κ) {y : V} {u : Value} (ry : RelV y u) :
    KV (kvs.map fun kv => if kv.1 = k then (kv.1, y) else kv) (vs.map fun kv => if kv.1 = k then (kv.1, u) else kv) := by
  unfold KV at r ⊢
  induction r with
  | nil => exact .nil
  | @cons p q ps qs h t ih =>
    rw [List.map_cons, List.map_cons]
    refine .cons ?_ ih
    obtain ⟨h1, h2⟩ := h
    by_cases e : p.1 = k
    · rw [if_pos e, if_pos (h1.symm.trans e)]; exact ⟨h1, ry⟩
    · rw [if_neg e, if_neg (fun z => e (h1.trans z))]; exact ⟨h1, h2⟩
theorem KV.put {kvs : List (κ × V)} {vs : List (κ × Value)} (r : KV kvs vs) (k : κ) {y : V} {u : Value} (ry : RelV y u) : KV (putK kvs k y) (stored vs k u) := by
  unfold putK stored
  rw [r.any k]
  by_cases e : (vs.any fun kv => decide (kv.1 = k)) = true
  · rw [if_pos e, if_pos e]; exact r.repl k ry
  · rw [if_neg e, if_neg e]; exact Paired.snoc r ⟨rfl, ry⟩
theorem KV.drop {kvs : List (κ × V)} {vs : List (κ × Value)} (r : KV kvs vs) (k : κ) : KV (dropK kvs k) (without vs k) := by
  unfold KV at r ⊢
  unfold dropK without
  induction r with
  | nil => exact .nil
  | @cons p q ps qs h t ih =>
    obtain ⟨h1, h2⟩ := h
    rw [List.filter_cons, List.filter_cons]
    by_cases e : p.1 = k
    · have a : ¬ decide (p.1 ≠ k) = true := by simp [e]
      have b : ¬ decide (q.1 ≠ k) = true := by simp [h1.symm.trans e]
      rw [if_neg a, if_neg b]; exact ih
    · have e' : ¬ q.1 = k := fun z => e (h1.trans z)
      have a : decide (p.1 ≠ k) = true := by simp [e]
      have b : decide (q.1 ≠ k) = true := by simp [e']
      rw [if_pos a, if_pos b]; exact .cons ⟨h1, h2⟩ ih
theorem KV.keys {kvs : List (κ × V)} {vs : List (κ × Value)} (r : KV kvs vs) : kvs.map (·.1) = vs.map (·.1) := by
  unfold KV at r
  induction r with
  | nil => rfl
  | cons h t ih => rw [List.map_cons, List.map_cons, ih, h.1]
theorem KV.length {kvs : List (κ × V)} {vs : List (κ × Value)} (r : KV kvs vs) : kvs.length = vs.length := Paired.length r
end
theorem kV_is {P : Program} {w : World} {k : Key} {u : Value} (r : RelV (kV k) u) : (mixKind P w).is k u = true := by
  cases k with
  | inl i => obtain ⟨t, e⟩ := (show ∃ t, u = Value.int i t from r); subst e; exact mixKind_int P w i t
  | inr x => obtain ⟨t, e⟩ := (show ∃ t, u = Value.str x t from r); subst e; exact mixKind_str P w x t
theorem items_are {P : Program} {w : World} : ∀ {ks : List Key} {us : List Value}, Vals (ks.map kV) us -> ItemsAre (mixKind P w) ks us
  | [], _, r => by rw [List.map_nil] at r; cases r; exact .nil
  | k :: ks, _, r => by
    rw [List.map_cons] at r
    cases r with
    | cons h t => exact .cons (kV_is h) (items_are t)
abbrev KT (H : Hp) : List (List Key × V) -> List (List Key × Addr × Value) -> Prop := Paired fun p q => p.1 = q.1 /\ H q.2.1 = some (.tup (p.1.map kV)) /\ RelV p.2 q.2.2
theorem KT.val {H : Hp} {kvs : List (List Key × V)} {xs : List (List Key × Addr × Value)} (r : KT H kvs xs) (k : List Key) : RelO (valV kvs k) ((atKey xs k).map (·.2)) := by
  induction r with
  | nil => exact True.intro
  | @cons p q ps qs h t ih =>
    obtain ⟨h1, _, h2⟩ := h
    by_cases e : p.1 = k
    · have e' : q.1 = k := h1.symm.trans e
      have b : atKey (q :: qs) k = some q.2 := by simp [atKey, List.find?_cons, e']
      rw [valV_pos e, b]; exact h2
    · have e' : ¬ q.1 = k := fun z => e (h1.trans z)
      have b : atKey (q :: qs) k = atKey qs k := by simp [atKey, List.find?_cons, e']
      rw [valV_neg e, b]; exact ih
theorem KT.repl {H : Hp} {kvs : List (List Key × V)} {xs : List (List Key × Addr × Value)} (r : KT H kvs xs) (k : List Key) {y : V} {u : Value} (ry : RelV y u) :
    KT H (kvs.map fun kv => if kv.1 = k then (kv.1, y) else kv) (xs.map (putAt k u)) := by
  induction r with
  | nil => exact .nil
  | @cons p q ps qs h t ih =>
    rw [List.map_cons, List.map_cons]
    refine .cons ?_ ih
    obtain ⟨h1, h2, h3⟩ := h
    unfold putAt
    by_cases e : p.1 = k
    · rw [if_pos e, if_pos (h1.symm.trans e)]; exact ⟨h1, h2, ry⟩
    · rw [if_neg e, if_neg (fun z => e (h1.trans z))]; exact ⟨h1, h2, h3⟩
theorem KT.put {H : Hp} {kvs : List (List Key × V)} {xs : List (List Key × Addr × Value)} (r : KT H kvs xs) (k : List Key) {b : Addr} {y : V} {u : Value} (hb : H b = some (.tup (k.map kV))) (ry : RelV y u) :
    KT H (putK kvs k y) (storedH xs k b u) := by
  have e : (kvs.any fun kv => decide (kv.1 = k)) = (atKey xs k).isSome := by
    rw [valV_any, (r.val k).isSome_eq, Option.isSome_map]
  unfold putK storedH
  rw [e]
  by_cases q : (atKey xs k).isSome = true
  · rw [if_pos q, if_pos q]; exact r.repl k ry
  · rw [if_neg q, if_neg q]; exact Paired.snoc r ⟨rfl, hb, ry⟩
theorem KT.keeps {H H' : Hp} {kvs : List (List Key × V)} {xs : List (List Key × Addr × Value)} (r : KT H kvs xs) (ht : ∀ b ys, H b = some (.tup ys) -> H' b = some (.tup ys)) : KT H' kvs xs :=
  Paired.mapP r fun _ _ z => ⟨z.1, ht _ _ z.2.1, z.2.2⟩
section
variable {P : Program} {w : World} {H : Hp} {h : Heap} {a : Addr}
theorem rd_of {u : HO} (ok : HOk P w H h) (e : Rd H a u) : ObjOk P w H h a u := e.ok ok
theorem dk_rd {kvs : List (Key × V)} (ok : HOk P w H h) (e : Rd H a (.dK kvs)) : kvs.length <= sizeLine /\ (a == sysModules) = false /\ ∃ vs, KV kvs vs /\ h.DictOf (mixKind P w) a vs :=
  show ObjOk P w H h a (.dK kvs) from rd_of ok e
theorem dk_of {kvs : List (Key × V)} (ok : HOk P w H h) (e : H a = some (.dK kvs)) : kvs.length <= sizeLine /\ (a == sysModules) = false /\ ∃ vs, KV kvs vs /\ h.DictOf (mixKind P w) a vs := dk_rd ok (.inl e)
theorem key_of {ks : List Key} (ok : HOk P w H h) (e : H a = some (.tup (ks.map kV))) : (tupleKind (mixKind P w)).is h ks a := by
  obtain ⟨_, its, r, o, h1, h2, n, h3⟩ := (show ObjOk P w H h a (.tup (ks.map kV)) from ok a _ e)
  exact ⟨o, its.toArray, n, h1, h2, h3, by simpa using items_are r⟩
theorem dt_rd {kvs : List (List Key × V)} (ok : HOk P w H h) (e : Rd H a (.dT kvs)) : kvs.length <= sizeLine /\ (a == sysModules) = false ∧
    ∃ xs, KT H kvs xs /\ h.DictOfH (tupleKind (mixKind P w)) a xs := by
  obtain ⟨z, y, xs, r, o, es, ep, h1, h2, h3, h4, h5⟩ := (show ObjOk P w H h a (.dT kvs) from rd_of ok e)
  refine ⟨z, y, xs, r, o, es, ep, h1, h2, h3, h4, fun x hx => ?_, h5⟩
  have all : ∀ {l : List (List Key × V)} {m : List (List Key × Addr × Value)}, KT H l m -> ∀ x ∈ m, (tupleKind (mixKind P w)).is h x.1 x.2.1 := by
    intro l m q
    induction q with
    | nil => intro x hx; exact nomatch hx
    | @cons p q ps qs hq t ih =>
      intro x hx
      rcases List.mem_cons.mp hx with e | hx
      · subst e
        exact key_of ok (by rw [<- hq.1]; exact hq.2.1)
      · exact ih x hx
  exact all r x hx
theorem dt_of {kvs : List (List Key × V)} (ok : HOk P w H h) (e : H a = some (.dT kvs)) : kvs.length <= sizeLine /\ (a == sysModules) = false ∧
    ∃ xs, KT H kvs xs /\ h.DictOfH (tupleKind (mixKind P w)) a xs := dt_rd ok (.inl e)
end
def DGet (H : Hp) (a : Addr) (y : V) (r : Option V) : Prop :=
  (∃ kvs k, Rd H a (.dK kvs) /\ y = kV k /\ r = valV kvs k) ∨ ∃ kvs k b, Rd H a (.dT kvs) /\ y = .ref b /\ H b = some (.tup (k.map kV)) /\ r = valV kvs k
def DPut (H : Hp) (a : Addr) (y v : V) (H' : Hp) : Prop :=
  (∃ kvs k, H a = some (.dK kvs) /\ y = kV k /\ kvs.length < sizeLine /\ H' = upd H a (.dK (putK kvs k v))) ∨
  ∃ kvs k b, H a = some (.dT kvs) /\ y = .ref b /\ H b = some (.tup (k.map kV)) /\ kvs.length < sizeLine /\ H' = upd H a (.dT (putK kvs k v))
theorem DGet.k {H : Hp} {a : Addr} {kvs : List (Key × V)} {k : Key} (e : H a = some (.dK kvs)) : DGet H a (kV k) (valV kvs k) := .inl ⟨kvs, k, .inl e, rfl, rfl⟩
theorem DGet.t {H : Hp} {a b : Addr} {kvs : List (List Key × V)} {k : List Key} (e : H a = some (.dT kvs)) (eb : H b = some (.tup (k.map kV))) : DGet H a (.ref b) (valV kvs k) := .inr ⟨kvs, k, b, .inl e, rfl, eb, rfl⟩
theorem DPut.k {H : Hp} {a : Addr} {kvs : List (Key × V)} {k : Key} {v : V} (e : H a = some (.dK kvs)) (hl : kvs.length < sizeLine) : DPut H a (kV k) v (upd H a (.dK (putK kvs k v))) := .inl ⟨kvs, k, e, rfl, hl, rfl⟩
theorem DPut.t {H : Hp} {a b : Addr} {kvs : List (List Key × V)} {k : List Key} {v : V} (e : H a = some (.dT kvs)) (eb : H b = some (.tup (k.map kV))) (hl : kvs.length < sizeLine) :
    DPut H a (.ref b) v (upd H a (.dT (putK kvs k v))) := .inr ⟨kvs, k, b, e, rfl, eb, hl, rfl⟩
section
variable {X : Cx} {pins : List (Addr × Obj)} {σ : St} {H : Hp} {s : Shared} {a : Addr} {y v : V} {u r : Value} {o : Option V} {A : Around} {E : Value -> Shared -> Prop}
theorem Inv.big (I : Inv X pins σ H s) : sysModules < s.heap.objs.size := by
  have h : mainGlobals < s.heap.objs.size := (I.mod.glob.keeps I.bk).lt
  exact Nat.lt_trans (by decide) h
theorem d_getItem {Q : Value -> Shared -> Prop} (hu : A.units + 1 < cLine) (I : Inv X pins σ H s) (g : DGet H a y (some v)) (ry : RelV y u) (h : ∀ w' s', Inv X pins σ H s' -> RelV v w' -> Q w' s') :
    wpAny (model X.prog X.w) A (getItem (.ref a) u) Q E s := by
  rcases g with ⟨kvs, k, e, ey, l⟩ | ⟨kvs, k, b, e, ey, eb, l⟩
  · subst ey
    obtain ⟨z, hd, vs, rel, dd⟩ := dk_rd I.hok e
    obtain ⟨w', hw, rw'⟩ := RelO.some_of (v := v) (o := valueAt vs k) (by rw [l]; exact rel.val k)
    exact wpAny_getItem_of (kV_is ry) dd.mapOf hw (h w' _ (I.tok _) rw')
  · subst ey
    cases (show u = Value.ref b from ry)
    obtain ⟨z, hd, xs, rel, dd⟩ := dt_rd I.hok e
    obtain ⟨w', hw, rw'⟩ := RelO.some_of (v := v) (o := (atKey xs k).map (·.2)) (by rw [l]; exact rel.val k)
    obtain ⟨p, hp, hp2⟩ := Option.map_eq_some_iff.mp hw
    refine wpAny_getItem_heap (tupleKind_room_in1 hu) (key_of I.hok eb) dd hp ?_
    rw [hp2]
    exact h w' _ (I.tok _) rw'
theorem d_write {h' : Heap} {t' : Nat} {ob : HO} (I : Inv X pins σ H s) (mu : Mut (H a)) (hs : Heap.SameBut a s.heap h') (he : ∃ q, h'.get? a = some q) (new : ObjOk X.prog X.w (upd H a ob) h' a ob) :
    Inv X pins σ (upd H a ob) { s with heap := h', toks := t' } :=
  I.write (x := a) (e := a) mu (.inl rfl) (fun b q hb z => (hs.2 b hb).trans z) he new
theorem dk_new {P : Program} {w : World} {H' : Hp} {h' : Heap} {kvs : List (Key × V)} {vs : List (Key × Value)} (z : kvs.length <= sizeLine) (hd : (a == sysModules) = false) (rel : KV kvs vs) (dd : h'.DictOf (mixKind P w) a vs) :
    ObjOk P w H' h' a (.dK kvs) := ⟨z, hd, vs, rel, dd⟩
theorem d_setItem {H' : Hp} {Q : Unit -> Shared -> Prop} (hu : A.units + 1 < cLine) (I : Inv X pins σ H s) (g : DPut H a y v H') (ry : RelV y u) (rv : RelV v r) (h : ∀ s', Inv X pins σ H' s' -> Q () s') :
    wpAny (model X.prog X.w) A (setItem (.ref a) u r) Q E s := by
  rcases g with ⟨kvs, k, e, ey, l, eH⟩ | ⟨kvs, k, b, e, ey, eb, l, eH⟩
  · subst ey eH
    obtain ⟨z, hd, vs, rel, dd⟩ := dk_of I.hok e
    have hz : vs.length <= sizeLine := by rw [<- rel.length]; exact z
    have hl : (putK kvs k v).length <= sizeLine := by have := length_putK kvs k v; omega
    refine wpAny_setItem_pairs (hsz := hz) (kV_is ry) dd fun h' dd' hs => h _ ?_
    have he : ∃ q, h'.get? a = some q := let ⟨q, _, _, hq, _⟩ := dd'; ⟨q, hq⟩
    exact d_write I (by rw [e]; exact True.intro) hs he (dk_new hl hd (rel.put k rv) dd')
  · subst ey eH
    cases (show u = Value.ref b from ry)
    obtain ⟨z, hd, xs, rel, dd⟩ := dt_of I.hok e
    have hz : xs.length <= sizeLine := by rw [<- Paired.length rel]; exact z
    have hl : (putK kvs k v).length <= sizeLine := by have := length_putK kvs k v; omega
    refine wpAny_setItem_heap (hsz := hz) (tupleKind_room_in1 hu) (key_of I.hok eb) dd fun h' dd' hs => h _ ?_
    obtain ⟨q, es, ep, hq, h2, h3, h4, _, h5⟩ := dd'
    refine d_write I (by rw [e]; exact True.intro) hs ⟨q, hq⟩ ⟨hl, hd, _, (rel.put k eb rv).keeps fun c ys ec => ?_, q, es, ep, hq, h2, h3, h4, h5⟩
    rw [upd_ne (ne_of ec e (fun z => nomatch z))]
    exact ec
end
section
variable {X : Cx} {pins : List (Addr × Obj)} {σ : St} {H : Hp} {s : Shared} {a : Addr} {kvs : List (Key × V)} {k : Key} {u : Value} {A : Around} {E : Value -> Shared -> Prop}
end
def NoSl (i : Expr) : Prop := ∀ ov iv, subscripted i false ov iv = operate [ov, iv] (getItem ov iv)
theorem subD_of {prog : Program} {w : World} {A : Around} {E : Value -> Shared -> Prop} {s : Shared} {env : Env} {value slice : Expr} {pos : Pos} {T id : String} {Q : Value -> Shared -> Prop}
    (hl : typeLookup (.type T) "__getitem__" = pure (some (.builtin id))) (hs : NoSl slice)
    (h : wpAny (model prog w) A (eval value env) (fun o s₁ => wpAny (model prog w) A (eval slice env) (fun i s₂ => s₂.TypeIs o T /\ wpAny (model prog w) A (getItem o i) Q E s₂) E s₁) E s) :
    wpAny (model prog w) A (eval (.Subscript value slice pos) env) Q E s := by
  refine Subscript_ (wpAny_mono h (fun o s₁ h₁ => wpAny_mono h₁ (fun i s₂ h₂ => ?_) fun _ _ x => x) fun _ _ x => x)
  obtain ⟨hT, h₂⟩ := h₂
  unfold subscriptTail
  refine wpAny_bind ?_
  rw [getitemInPython_of_ne hT.not_modules]
  refine wpAny_bind (wpAny_specialOf hT hl ?_)
  have fin : wpAny (model prog w) A (subscripted slice false o i) (fun r s₃ => wpAny (model prog w) A (letTemporaryGo value o r >>= fun _ => pure r) Q E s₃) E s₂ := by
    rw [hs o i]
    exact wpAny_operating (wpAny_mono h₂ (fun r s₃ h₃ => wpAny_bind (wpAny_letTemporaryGo (wpAny_pure h₃))) fun _ _ x => x)
  first
    | exact wpAny_pure (wpAny_bind fin)
    | exact wpAny_bind (wpAny_pure (wpAny_bind fin))
    | exact wpAny_bind fin
theorem dict_typeIs {X : Cx} {pins : List (Addr × Obj)} {σ : St} {H : Hp} {s : Shared} {a : Addr} {y : V} {o : Option V} (I : Inv X pins σ H s) (g : DGet H a y o) : s.TypeIs (.ref a) "dict" := by
  rcases g with ⟨kvs, k, e, _, _⟩ | ⟨kvs, k, b, e, _, _, _⟩
  · obtain ⟨_, _, vs, _, dd⟩ := dk_rd I.hok e
    exact dd.typeIs
  · obtain ⟨_, _, xs, _, dd⟩ := dt_rd I.hok e
    exact dd.typeIs
def tDGet (td ty : TE) : TE := fun σ H Q => td σ H fun x H1 => ty σ H1 fun y H2 => ∃ a v, x = .ref a /\ DGet H2 a y (some v) /\ Q v H2
def sDPut (td ty tv : TE) : TS := fun D σ H => tv σ H fun v H1 => td σ H1 fun x H2 => ty σ H2 fun y H3 => ∃ a H4, x = .ref a /\ DPut H3 a y v H4 /\ D.nx σ H4
section
variable {X : Cx} {o i e value : Expr} {pos pos' tpos : Pos} {td ty tv : TE}
theorem pe_dget (hu : X.A.units + 1 < cLine) (ho : PE X o td) (hi : PE X i ty) (hs : NoSl i) : PE X (.Subscript o i pos) (tDGet td ty) := by
  intro pins s σ H Q I h
  refine subD_of PySem.F.slot_dict_getitem.lookup hs (thn (ho pins s σ H _ I h) fun u s1 ⟨x, H1, I1, rx, q1⟩ => thn (hi pins s1 σ H1 _ I1 q1) fun iv s2 ⟨y, H2, I2, ry, a, v, ex, g, q2⟩ => ?_)
  subst ex
  obtain rfl : u = Value.ref a := rx
  exact ⟨dict_typeIs I2 g, d_getItem hu I2 g ry fun w' s3 I3 rw' => ⟨v, H2, I3, rw', q2⟩⟩
theorem ps_dput (hu : X.A.units + 1 < cLine) (ho : PE X o td) (hi : PE X i ty) (hv : PE X value tv) (hs : swapsWith value (some (.Subscript o i pos')) pos.line X.env = pure false) :
    PS X (.Assign [.Subscript o i pos'] value pos) (sDPut td ty tv) := by
  intro pins s σ H D I h
  refine wpAny_Assign_Subscript (thn (hv pins s σ H _ I h) fun r s1 ⟨v, H1, I1, rv, q1⟩ => thn (ho pins s1 σ H1 _ I1 q1) fun u s2 ⟨x, H2, I2, rx, q2⟩ => thn (hi pins s2 σ H2 _ I2 q2) fun iv s3 ⟨y, H3, I3, ry, a, H4, ex, g, q3⟩ => ?_) hs
  subst ex
  obtain rfl : u = Value.ref a := rx
  exact d_setItem hu I3 g ry rv fun s4 I4 => ⟨σ, H4, I4, q3⟩
end
theorem dt_empty {P : Program} {w : World} {H : Hp} (h : Heap) (hb : sysModules < h.objs.size) : ObjOk P w H (h.push { cls := .type "dict", data := .dict #[] }) h.objs.size (.dT []) :=
  ⟨Nat.zero_le _, beq_eq_false_iff_ne.mpr (Ne.symm (Nat.ne_of_lt hb)), [], .nil, _, #[], 0, Heap.get?_push_size _ rfl, ⟨rfl, rfl, rfl⟩, rfl, rfl, List.nodup_nil⟩
def tDNewT : TE := fun _ H Q => ∀ p, H p = none -> Q (.ref p) (upd H p (.dT []))
section
variable {X : Cx} {pos : Pos}
theorem pe_dnewT : PE X (.Dict [] [] pos) tDNewT := fun pins s σ H Q I h =>
  wpAny_Dict_empty ⟨.ref s.heap.objs.size, _, I.laid (a := s.heap.objs.size) (o := .dT []) (t' := s.toks) (fun _ _ q => Heap.get?_push_of_some _ q) (Nat.le_refl _) (dt_empty s.heap I.big), rfl, h _ (I.hok.fresh (Nat.le_refl _))⟩
end
structure M1 (X : Cx) (o : Expr) (m : Str) (apos : Pos) (e : Expr) (cpos : Pos) : Prop where
  base : attributeBase o m X.env (eval o X.env) = eval o X.env
  few : ((backTo cpos (starEach [e] X.env)).all (fun x => !x.1) && (backToKw cpos (keywordEach [] X.env)).all (fun x => x.1.isSome)
    && decide (([e] : List Expr).length + ([] : List Keyword).length + (if ([] : List Keyword).isEmpty then 0 else 1) < 30)) = true
  line : (apos.endLine == cpos.line) = true
  trees : backTo cpos (starEach [e] X.env) = [(false, eval e X.env)]
structure M2 (X : Cx) (o : Expr) (m : Str) (apos : Pos) (e f : Expr) (cpos : Pos) : Prop where
  base : attributeBase o m X.env (eval o X.env) = eval o X.env
  few : ((backTo cpos (starEach [e, f] X.env)).all (fun x => !x.1) && (backToKw cpos (keywordEach [] X.env)).all (fun x => x.1.isSome)
    && decide (([e, f] : List Expr).length + ([] : List Keyword).length + (if ([] : List Keyword).isEmpty then 0 else 1) < 30)) = true
  line : (apos.endLine == cpos.line) = true
  trees : backTo cpos (starEach [e, f] X.env) = [(false, eval e X.env), (false, eval f X.env)]
def IsD (H : Hp) (a : Addr) : Prop := (∃ kvs, Rd H a (.dK kvs)) ∨ ∃ kvs, Rd H a (.dT kvs)
theorem isD_at {X : Cx} {pins : List (Addr × Obj)} {σ : St} {H : Hp} {s : Shared} {a : Addr} (I : Inv X pins σ H s) (d : IsD H a) :
    s.TypeIs (.ref a) "dict" /\ (∀ b, Value.ref a = .ref b -> ∃ ob, s.heap.get? b = some ob /\ ob.dict = none) /\ (a == sysModules) = false := by
  rcases d with ⟨kvs, e⟩ | ⟨kvs, e⟩
  · obtain ⟨_, hd, vs, _, dd⟩ := dk_rd I.hok e
    refine ⟨dd.typeIs, fun b q => ?_, hd⟩
    cases q
    obtain ⟨ob, _, _, h1, h2, _⟩ := dd
    exact ⟨ob, h1, h2.2.1⟩
  · obtain ⟨_, hd, xs, _, dd⟩ := dt_rd I.hok e
    refine ⟨dd.typeIs, fun b q => ?_, hd⟩
    cases q
    obtain ⟨ob, _, _, h1, h2, _⟩ := dd
    exact ⟨ob, h1, h2.2.1⟩
section
variable {X : Cx} {pins : List (Addr × Obj)} {σ : St} {H : Hp} {s : Shared} {a : Addr} {y d : V} {u r : Value} {o : Option V} {A : Around} {E : Value -> Shared -> Prop}
theorem d_get2 {Q : Value -> Shared -> Prop} (hu : A.units + 1 < cLine) (I : Inv X pins σ H s) (g : DGet H a y o) (ry : RelV y u) (rd : RelV d r) (h : ∀ w' s', Inv X pins σ H s' -> RelV (o.getD d) w' -> Q w' s') :
    wpAny (model X.prog X.w) A (call (.builtin "dict.get") [.ref a, u, r]) Q E s := by
  rcases g with ⟨kvs, k, e, ey, l⟩ | ⟨kvs, k, b, e, ey, eb, l⟩
  · subst ey
    obtain ⟨z, hd, vs, rel, dd⟩ := dk_rd I.hok e
    refine call_meetsIn PySem.F.slot_dict_get dd.typeIs PySem.F.entry_dict_get (PySem.F.args_dict_get_3 _ _ _) (meets_dict_get_default (mixKind X.prog X.w) a (kV_is ry) hd r) ⟨_, dd.mapOf, h _ _ (I.tok _) ?_⟩
    rw [l]
    exact (rel.val k).getD rd
  · subst ey
    cases (show u = Value.ref b from ry)
    obtain ⟨z, hd, xs, rel, dd⟩ := dt_rd I.hok e
    refine call_meetsIn PySem.F.slot_dict_get dd.typeIs PySem.F.entry_dict_get (PySem.F.args_dict_get_3 _ _ _) (meetsH_dict_get_default (tupleKind (mixKind X.prog X.w)) a b hd r) ⟨tupleKind_room_in1 hu, k, xs, key_of I.hok eb, dd, h _ _ (I.tok _) ?_⟩
    rw [l]
    exact (rel.val k).getD rd
end
def tDGet2 (td ty tx : TE) : TE := fun σ H Q => td σ H fun x H1 => ∃ a, x = .ref a /\ IsD H1 a /\ ty σ H1 fun y H2 => tx σ H2 fun z H3 => ∃ o, DGet H3 a y o /\ Q (o.getD z) H3
section
variable {X : Cx} {o e f : Expr} {apos cpos : Pos} {td ty tx : TE}
theorem pe_dget2 (hu : X.A.units + 1 < cLine) (ho : PE X o td) (he : PE X e ty) (hf : PE X f tx) (m : M2 X o "get" apos e f cpos) : PE X (.Call (.Attribute o "get" apos) [e, f] [] cpos) (tDGet2 td ty tx) := by
  intro pins s σ H Q I h
  refine wpAny_Call_method m.base m.few m.line PySem.F.plainAttrs_dict PySem.F.slot_dict_get PySem.F.type_dict_get (thn (ho pins s σ H _ I h) fun u s1 ⟨x, H1, I1, rx, a, ex, d, q1⟩ => ?_)
  subst ex
  obtain rfl : u = Value.ref a := rx
  obtain ⟨t1, t2, _⟩ := isD_at I1 d
  refine ⟨t1, t2, ?_⟩
  rw [m.trees]
  refine Calls.callWith_builtin rfl (Calls.evalArgs_plain (Calls.spliced_cons (thn (he pins s1 σ H1 _ I1 q1) fun iv s2 ⟨y, H2, I2, ry, q2⟩ =>
    Calls.spliced_cons (thn (hf pins s2 σ H2 _ I2 q2) fun fv s3 ⟨z, H3, I3, rz, ov, g, q3⟩ => Calls.spliced_nil ?_))))
  exact d_get2 hu I3 g ry rz fun w' s4 I4 rw' => ⟨_, H3, I4, rw', q3⟩
end
section
variable {X : Cx} {pins : List (Addr × Obj)} {σ : St} {H : Hp} {s : Shared} {a : Addr} {kvs : List (Key × V)} {A : Around} {E : Value -> Shared -> Prop}
end
section
variable {X : Cx} {pins : List (Addr × Obj)} {σ : St} {H : Hp} {s : Shared} {a : Addr} {y : V} {u : Value} {A : Around} {E : Value -> Shared -> Prop}
end
end L2
namespace L2
open PySem PySem.Spec PyProof.Rows
section
variable {X : Cx}
end
section
variable {κ : Type} [DecidableEq κ]
theorem valV_not {kvs : List (κ × V)} {k : κ} (h : valV kvs k = none) : ¬ k ∈ kvs.map (·.1) := by
  intro m
  obtain ⟨p, hp, e⟩ := List.mem_map.mp m
  have q : (kvs.any fun kv => decide (kv.1 = k)) = true := List.any_eq_true.mpr ⟨p, hp, decide_eq_true e⟩
  rw [valV_any, h] at q
  exact absurd q (by simp)
end
end L2
namespace PySem
section
variable {prog : Program} {w : World} {A : Around} {E : Value -> Shared -> Prop} {R : Result -> Shared -> Prop} {s : Shared}
theorem compLoop_any {elt target iter : Expr} {ifs : List Expr} {scope : Scope} {pos : Pos} {it acc : Value} {env : Env} (I : Nat -> Shared -> Prop)
    (turn : ∀ n s, I n s -> ∀ E' : Value -> Shared -> Prop, wpAny (model prog w) A (pyNext it) (fun r s₁ => match r with
      | none => R (.ok .next) s₁
      | some v => wpAny (model prog w) A (letOwnedTupleGo target it v) (fun _ s₁' => wpAny (model prog w) A (assign target env v) (fun _ s₂ =>
          wpAny (model prog w) A (forIn ifs true fun c r => if r = true then do let ok <- isTrue c env (eval c env); pure (ForInStep.yield ok) else pure (ForInStep.yield r)) (fun ok s₃ =>
            if ok = true then wpAny (model prog w) A (eval elt env) (fun x s₄ =>
              wpAny (model prog w) A (call (.builtin "list.append") [acc, x]) (fun _ s₅ => ∃ m, m < n /\ I m s₅) E' s₄) E' s₃
            else ∃ m, m < n /\ I m s₃) E' s₂) E' s₁') E' s₁) E' s)
    (n : Nat) (h : I n s) :
    codeAny (model prog w) A (.compLoop (.ListComp elt [⟨target, iter, ifs, 0⟩] scope pos) 0 it acc env) R s := by
  refine codeAny_loop rfl I (fun n s hI => ?_) n h
  show wpAny _ A ((compTurn (.ListComp elt [⟨target, iter, ifs, 0⟩] scope pos) 0 it acc env).onRaise (fun x => do noteFrame x env; theTreesLotGoes x)) _ _ s
  refine wpAny_noted ?_
  rw [compTurn_list]
  refine wpAny_bind (wpAny_standAt (wpAny_bind (wpAny_mono (turn n s hI _) (fun r s₁ h₁ => ?_) fun _ _ h' => h')))
  cases r with
  | none => exact wpAny_pure h₁
  | some v =>
    refine wpAny_bind (wpAny_mono h₁ (fun _ s₁' h₁' => ?_) fun _ _ h' => h')
    refine wpAny_bind (wpAny_mono h₁' (fun _ s₂ h₂ => wpAny_bind (wpAny_mono h₂ (fun ok s₃ h₃ => ?_) fun _ _ h' => h')) fun _ _ h' => h')
    cases ok with
    | false => exact wpAny_pure ⟨rfl, h₃⟩
    | true =>
      exact wpAny_bind (wpAny_bind (wpAny_mono h₃ (fun x s₄ h₄ => wpAny_bind (wpAny_mono h₄ (fun _ s₅ h₅ => wpAny_pure (wpAny_pure ⟨rfl, h₅⟩)) fun _ _ h' => h')) fun _ _ h' => h'))
end
end PySem
namespace PySem
def closL (env : Env) : List (Str × NameKind) -> List (Str × Addr) -> List (Str × Addr)
  | [], cs => cs
  | (n, k) :: r, cs => closL env r (if k == .free then (match env.cells.lookup n with | some a => (n, a) :: cs | none => cs) else cs)
theorem closureFor_closL {scope : Scope} {env : Env} (h : ∀ y ∈ scope.names, y.2 = .free -> ∃ c, env.cells.lookup y.1 = some c) : closureFor scope env = pure (closL env scope.names []) := by
  unfold closureFor
  have key : ∀ (l : List (Str × NameKind)) (cs : List (Str × Addr)), (∀ y ∈ l, y.2 = .free -> ∃ c, env.cells.lookup y.1 = some c) ->
      (forIn l cs fun x r => (match x with
        | (name, kind) => if (kind == NameKind.free) = true then (do let a <- cellOf env name; pure (ForInStep.yield ((name, a) :: r))) else pure (ForInStep.yield r) : Sem (ForInStep (List (Str × Addr))))) = (pure (closL env l cs) : Sem _) := by
    intro l
    induction l with
    | nil => intro cs _; rfl
    | cons y r ih =>
      intro cs hy
      obtain ⟨n, k⟩ := y
      rw [List.forIn_cons]
      by_cases hk : (k == NameKind.free) = true
      · obtain ⟨c, hc⟩ := hy (n, k) List.mem_cons_self (by simpa using hk)
        have e : cellOf env n = pure c := by unfold cellOf; rw [hc]
        simp only [hk, if_true, e, pure_bind]
        rw [ih _ fun z hz => hy z (List.mem_cons_of_mem _ hz)]
        show _ = pure (closL env r (if (k == NameKind.free) = true then (match env.cells.lookup n with | some a => (n, a) :: cs | none => cs) else cs))
        rw [if_pos hk, hc]
      · have hk2 : (k == NameKind.free) = false := by simpa using hk
        simp only [hk2, Bool.false_eq_true, if_false, pure_bind]
        rw [ih _ fun z hz => hy z (List.mem_cons_of_mem _ hz)]
        show _ = pure (closL env r (if (k == NameKind.free) = true then (match env.cells.lookup n with | some a => (n, a) :: cs | none => cs) else cs))
        rw [if_neg hk]
  have k2 := key scope.names [] h
  simp only [bind_pure]
  first
    | exact k2
    | (rw [<- k2]; rfl)
theorem closL_mem {env : Env} : ∀ (l : List (Str × NameKind)) (cs : List (Str × Addr)) (p : Str × Addr), p ∈ closL env l cs -> p ∈ cs ∨ env.cells.lookup p.1 = some p.2
  | [], _, _, h => .inl h
  | (n, k) :: r, cs, p, h => by
    rcases closL_mem r _ p h with q | q
    · by_cases hk : (k == NameKind.free) = true
      · rw [if_pos hk] at q
        cases e : env.cells.lookup n with
        | none => rw [e] at q; exact .inl q
        | some a =>
          rw [e] at q
          rcases List.mem_cons.mp q with z | z
          · subst z; exact .inr e
          · exact .inl z
      · rw [if_neg hk] at q; exact .inl q
    · exact .inr q
theorem closL_sub {env : Env} : ∀ (l : List (Str × NameKind)) (cs : List (Str × Addr)) (p : Str × Addr), p ∈ cs -> p ∈ closL env l cs
  | [], _, _, h => h
  | (n, k) :: r, cs, p, h => by
    refine closL_sub r _ p ?_
    by_cases hk : (k == NameKind.free) = true
    · rw [if_pos hk]
      cases e : env.cells.lookup n with
      | none => exact h
      | some a => exact List.mem_cons_of_mem _ h
    · rw [if_neg hk]; exact h
theorem closL_has {env : Env} {n : Str} {c : Addr} (e : env.cells.lookup n = some c) : ∀ (l : List (Str × NameKind)) (cs : List (Str × Addr)), (n, NameKind.free) ∈ l -> (n, c) ∈ closL env l cs
  | [], _, h => nomatch h
  | (m, k) :: r, cs, h => by
    rcases List.mem_cons.mp h with z | z
    · cases z
      refine closL_sub r _ _ ?_
      rw [if_pos (by rfl), e]
      exact List.mem_cons_self
    · exact closL_has e r _ z
theorem lookup_of_mem {β : Type} {n : Str} {c : β} : ∀ {l : List (Str × β)}, (n, c) ∈ l -> ∃ d, l.lookup n = some d
  | [], h => nomatch h
  | (m, d) :: r, h => by
    cases q : n == m with
    | true => exact ⟨d, by simp only [List.lookup_cons, q]⟩
    | false =>
      rcases List.mem_cons.mp h with z | z
      · cases z
        simp at q
      · obtain ⟨d', e⟩ := lookup_of_mem z
        exact ⟨d', by simp only [List.lookup_cons, q, e]⟩
theorem relabel_inv {env : Env} : ∀ {names : List (Str × NameKind)} {x : Str} {k : NameKind},
    (names.map fun (n, k) => if (k == NameKind.free && env.scope.kind == .function && env.kindOf n == some .cell) then (n, NameKind.cell) else (n, k)).lookup x = some k ->
    ∃ k', names.lookup x = some k' /\ (k' = k ∨ (k' = .free /\ k = .cell))
  | [], _, _, h => by simp at h
  | (n, j) :: r, x, k, h => by
    cases hx : x == n with
    | true =>
      refine ⟨j, by simp only [List.lookup_cons, hx], ?_⟩
      by_cases hc : (j == NameKind.free && env.scope.kind == .function && env.kindOf n == some .cell) = true
      · simp only [List.map_cons, if_pos hc, List.lookup_cons, hx] at h
        cases h
        refine .inr ⟨?_, rfl⟩
        simp only [Bool.and_eq_true, beq_iff_eq] at hc
        exact hc.1.1
      · simp only [List.map_cons, if_neg hc, List.lookup_cons, hx] at h
        cases h
        exact .inl rfl
    | false =>
      by_cases hc : (j == NameKind.free && env.scope.kind == .function && env.kindOf n == some .cell) = true
      · simp only [List.map_cons, if_pos hc, List.lookup_cons, hx] at h
        obtain ⟨k', e1, e2⟩ := relabel_inv h
        exact ⟨k', by simp only [List.lookup_cons, hx, e1], e2⟩
      · simp only [List.map_cons, if_neg hc, List.lookup_cons, hx] at h
        obtain ⟨k', e1, e2⟩ := relabel_inv h
        exact ⟨k', by simp only [List.lookup_cons, hx, e1], e2⟩
end PySem
namespace L2
open PySem PySem.Spec PyProof.Rows
open Builtin.Int (intBits)
section
variable {X : Cx}
def CMulB (i j : Int) : Prop := intBits i + intBits j <= 134217728
def CDivB (i j : Int) : Prop := j ≠ 0 /\ intBits j <= 9000
theorem op_mulB : OpR X (binaryOp .Mult) (rI CMulB fun i j => .int (i * j)) := opI fun _ _ _ _ _ _ _ hc q => mul_int q (IntMulOk.of_le (Nat.le_refl _) (Nat.le_refl _) hc)
theorem log2_of_bits {j : Int} (h0 : j ≠ 0) (h : intBits j <= 9000) : j.natAbs.log2 < 9000 := by
  unfold Builtin.Int.intBits at h
  have e : (j == 0) = false := by simpa using h0
  rw [e] at h
  simp only [Bool.false_eq_true, if_false] at h
  omega
theorem op_fdivB : OpR X (binaryOp .FloorDiv) (rI CDivB fun i j => .int (i.fdiv j)) := opI fun _ _ _ _ _ _ _ hc q => floordiv_int hc.1 q (.inl (PyProof.noPylong_of_log2 (log2_of_bits hc.1 hc.2)))
theorem call_isinst {T : String} : CallR X (.builtin "isinstance") (fun xs H Q => ∃ x t b, xs = [x, .ty T] /\ TyOf X.K H x t /\ PySem.W.kitOne X.K t (.type T) = some b /\ Q (.bl b) H) := by
  intro pins s σ H xs us Q I r h
  obtain ⟨x, t, b, rfl, ty, e, q⟩ := h
  obtain ⟨u, w', rfl, rx, rt⟩ := vals2 r
  cases (show w' = Value.type T from rt)
  exact isinst_ok I rx ty e fun tk => ⟨.bl b, H, I.tok _, rfl, q⟩
theorem getD_at {α : Type} {l : List α} {d : α} {i : Nat} (h : i < l.length) : l.getD i d = l[i] := by simp [h]
end
structure CompOk (sc scope : Scope) : Prop where
  kind : scope.kind = .function
  nocell : ∀ y ∈ scope.names, y.2 ≠ .cell
  loc : ∀ y ∈ scope.names, y.2 = .local -> scope.names.lookup y.1 = some .local
  free : ∀ y ∈ scope.names, y.2 = .free -> sc.names.lookup y.1 = some .cell ∨ sc.names.lookup y.1 = some .free
def compOkB (sc scope : Scope) : Bool := (scope.kind == .function) && scope.names.all fun y => (y.2 != .cell) && ((y.2 != .local) || (scope.names.lookup y.1 == some .local)) && ((y.2 != .free) || (sc.names.lookup y.1 == some .cell) || (sc.names.lookup y.1 == some .free))
theorem CompOk.of {sc scope : Scope} (h : compOkB sc scope = true) : CompOk sc scope := by
  unfold compOkB at h
  rw [Bool.and_eq_true, List.all_eq_true] at h
  obtain ⟨hk, h⟩ := h
  refine ⟨eq_of_beq hk, fun y hy => ?_, fun y hy e => ?_, fun y hy e => ?_⟩
  · have q := h y hy
    simp only [Bool.and_eq_true, bne_iff_ne] at q
    exact q.1.1
  · have q := h y hy
    simp only [Bool.and_eq_true, Bool.or_eq_true, bne_iff_ne, beq_iff_eq] at q
    exact q.1.2.resolve_left fun z => z e
  · have q := h y hy
    simp only [Bool.and_eq_true, Bool.or_eq_true, bne_iff_ne, beq_iff_eq] at q
    rcases q.2 with (z | z) | z
    · exact absurd e z
    · exact .inl z
    · exact .inr z
structure NL (N M : List Str) (scope : Scope) : Prop where
  len : M.length = N.length
  loc : ∀ (j : Nat) x, M[j]? = some x -> scope.names.lookup x ≠ some .local
  free : ∀ (j : Nat) x, M[j]? = some x -> scope.names.lookup x = some .free -> N[j]? = some x
def nlB (scope : Scope) : List Str -> List Str -> Bool
  | [], [] => true
  | x :: M, y :: N => (scope.names.lookup x != some .local) && ((scope.names.lookup x != some .free) || x == y) && nlB scope M N
  | _, _ => false
theorem NL.of {scope : Scope} : ∀ {N M : List Str}, nlB scope M N = true -> NL N M scope
  | [], [], _ => ⟨rfl, fun j x h => by simp at h, fun j x h => by simp at h⟩
  | [], _ :: _, h => by cases h
  | _ :: _, [], h => by cases h
  | y :: N, x :: M, h => by
    have h' : ((scope.names.lookup x != some .local) && ((scope.names.lookup x != some .free) || x == y) && nlB scope M N) = true := h
    simp only [Bool.and_eq_true, Bool.or_eq_true, bne_iff_ne, beq_iff_eq] at h'
    obtain ⟨⟨h1, h2⟩, h3⟩ := h'
    have q := NL.of h3
    refine ⟨by simp [q.len], fun j z e => ?_, fun j z e f => ?_⟩
    · cases j with
      | zero => simp at e; subst e; exact h1
      | succ j => exact q.loc j z (by simpa using e)
    · cases j with
      | zero =>
        simp at e; subst e
        rcases h2 with w | w
        · exact absurd f w
        · simp [w]
      | succ j => simpa using q.free j z (by simpa using e) f
def cxComp (X : Cx) (ls M : List Str) (scope : Scope) (C : Addr) (fp : List Addr) (s : Shared) (H : Hp) : Cx where
  prog := X.prog
  w := X.w
  K := X.K
  mg := X.mg
  base := X.base
  A := X.A
  N := ls ++ M
  s₀ := s
  H₀ := H
  env := compEnvC scope (closL X.env scope.names []) C X.env
  outer := X.stack
  stack := X.stack
  ex := fp
  fn := fun _ => false
  calm := X.calm
  pn := []
  xe := fun _ _ => False
def PTs (Y : Cx) (ifs : List Expr) (c : TT) : Prop :=
  ∀ (pins : List (Addr × Obj)) (s : Shared) (σ : St) (H : Hp) (Q : Bool -> Hp -> Prop), Inv Y pins σ H s -> c σ H Q ->
    wpAny (model Y.prog Y.w) Y.A (forIn ifs true fun c r => if r = true then do let ok <- isTrue c Y.env (eval c Y.env); pure (ForInStep.yield ok) else pure (ForInStep.yield r)) (TP Y pins σ Q) Y.xe s
def tYes : TT := fun _ H Q => Q true H
theorem pts_nil {Y : Cx} : PTs Y [] tYes := fun _ _ _ H _ I h => wpAny_tests_nil ⟨H, I, h⟩
def CompW (k : Nat) (J : It) (g : TG) (c : TT) (te : TE) (σ : St) (H1 : Hp) (D : Addr) (Q : VK) : Prop :=
  ∃ W : Nat -> Nat -> St -> Hp -> Prop, (∃ m, W 0 m (List.replicate k none ++ σ) (upd H1 D (.lst []))) /\ ∀ i m τ H, W i m τ H ->
    (J.stop i H /\ Q (.ref D) H) ∨ (J.go i H /\ ∀ x H', J.yld i H x H' -> g x τ H' fun τ2 H2 => c τ2 H2 fun b H3 => if b = true then te τ2 H3 fun y H4 => ∃ ys m', m' < m /\ H4 D = some (.lst ys) /\ ys.length < sizeLine /\ W (i + 1) m' τ2 (upd H4 D (.lst (ys ++ [y]))) else ∃ m', m' < m /\ W (i + 1) m' τ2 H3)
def tComp (k : Nat) (wi : TI) (g : TG) (c : TT) (te : TE) : TE := fun σ H Q => wi σ H fun J H1 => ∀ D, H1 D = none -> CompW k J g c te σ H1 D Q
structure COff (X : Cx) (pins : List (Addr × Obj)) (H : Hp) (C : Addr) (s : Shared) : Prop where
  ns : ∃ m, s.heap.Ns C m
  none : H C = none
  ne : C ≠ X.env.locals
  young : X.s₀.heap.objs.size <= C
  cells : ∀ x c, X.env.cells.lookup x = some c -> c ≠ C
  pins : ∀ p ∈ X.pn ++ pins, p.1 ≠ C
theorem Inv.gone {X : Cx} {pins : List (Addr × Obj)} {σ : St} {H : Hp} {C : Addr} {s : Shared} {h' : Heap} (I : Inv X pins σ H s) (o : COff X pins H C s) (hs : Heap.SameBut C s.heap h') : Inv X pins σ H { s with heap := h' } :=
  I.turned (t' := s.toks) (it := C) (fun b ob hb e => (hs.2 b hb).trans e) o.none o.ne (.inr o.young) o.cells o.pins
section
variable {X : Cx} {elt tg iter : Expr} {ifs : List Expr} {scope : Scope} {pos : Pos} {ls M : List Str} {g : TG} {c : TT} {te : TE}
theorem comp_core {J : It} {fp : List Addr} {tn : Nat -> Heap -> Prop} {it : Addr} {pins : List (Addr × Obj)} {σ : St} {H2 : Hp} {s2 : Shared} {Qe : VK} {RR : Value -> Addr -> Result -> Shared -> Prop} {E : Value -> Shared -> Prop}
    (hc : X.calm = true) (S : CompOk X.env.scope scope) (nl : NL X.N M scope)
    (hb : ∀ C fp s H, PG (cxComp X ls M scope C fp s H) tg g /\ PTs (cxComp X ls M scope C fp s H) ifs c /\ PE (cxComp X ls M scope C fp s H) elt te)
    (I2 : Inv X pins σ H2 s2) (T : Turn X.prog X.w X.K tg J fp it tn) (st2 : tn 0 s2.heap) (f2 : ∀ b ∈ fp, FpOk X pins H2 b)
    (hW : ∀ D, H2 D = none -> CompW ls.length J g c te σ H2 D Qe)
    (hRR : ∀ D C H' s', Inv X pins σ H' s' -> COff X pins H' C s' -> Qe (.ref D) H' -> RR (.ref D) C (.ok .next) s') :
    wpAny (model X.prog X.w) X.A (newList []) (fun acc s₃ => wpAny (model X.prog X.w) X.A (newFunctionEnv scope X.env.globals (closL X.env scope.names []) [] X.env.qual none .none (some X.env)) (fun cenv s₄ =>
      codeAny (model X.prog X.w) X.A (.compStart (.ListComp elt [⟨tg, iter, ifs, 0⟩] scope pos) 0 (.ref it) acc { cenv with scope := relabel scope X.env }) (RR acc cenv.locals) s₄) E s₃) E s2 := by
  refine wpAny_newObj_type (wpAny_newFunctionEnv S.nocell (by intro y hy; simp at hy) (fun h₁ hns₁ hsb₁ => ?_) S.kind)
  dsimp only at hns₁ hsb₁ ⊢
  have I3 : Inv X pins σ (upd H2 s2.heap.objs.size (.lst [])) { s2 with heap := s2.heap.push { cls := .type "list", dict := none, data := .seq ([] : List Value).toArray }, toks := s2.toks } :=
    I2.laid (fun _ _ q => Heap.get?_push_of_some _ q) (Nat.le_refl _) ⟨Nat.zero_le _, [], 0, .nil, Heap.get?_push_size _ rfl⟩
  have hfreshD : H2 s2.heap.objs.size = none := I2.hok.fresh (Nat.le_refl _)
  generalize hHH : s2.heap.push { cls := .type "list", dict := none, data := .seq ([] : List Value).toArray } = HH at hns₁ hsb₁ I3 ⊢
  have up : ∀ b o, s2.heap.get? b = some o -> HH.get? b = some o := fun b o e => by rw [<- hHH]; exact Heap.get?_push_of_some _ e
  have old : ∀ b o, HH.get? b = some o -> h₁.get? b = some o := fun b o e => hsb₁.extBut b o (Nat.ne_of_lt (Heap.lt_size e)) (Heap.get?_push_of_some _ e)
  generalize hH3 : upd H2 s2.heap.objs.size (.lst []) = H3 at I3
  have f3 : ∀ b ∈ fp, FpOk X pins H3 b := fun b hb => by
    obtain ⟨f0, fr⟩ := f2 b hb
    refine ⟨?_, fr⟩
    obtain ⟨o, e, _⟩ := T.obj 0 _ st2 b hb
    rw [<- hH3, upd_ne (Nat.ne_of_lt (Heap.lt_size e))]
    exact f0
  have fplt : ∀ b ∈ fp, b < HH.objs.size := fun b hb => by
    obtain ⟨o, e, _⟩ := T.obj 0 _ st2 b hb
    exact Heap.lt_size (up b o e)
  have sub : ∀ x a, (closL X.env scope.names []).lookup x = some a -> X.env.cells.lookup x = some a := fun x a e => by
    rcases closL_mem _ _ _ (PySem.mem_of_lookup e) with z | z
    · exact absurd z (by simp)
    · exact z
  have kin : ∀ x, scope.names.lookup x = some .free -> X.env.kindOf x = some .cell ∨ X.env.kindOf x = some .free := fun x e => S.free (x, .free) (PySem.mem_of_lookup e) rfl
  have has : ∀ x a, scope.names.lookup x = some .free -> X.env.cells.lookup x = some a -> (closL X.env scope.names []).lookup x = some a := fun x a e ec => by
    obtain ⟨d, hd⟩ := lookup_of_mem (closL_has ec scope.names [] (PySem.mem_of_lookup e))
    have := sub x d hd
    rw [ec] at this
    cases this
    exact hd
  have rel : ∀ x k, (relabel scope X.env).names.lookup x = some k -> (k = .cell ∨ k = .free) -> scope.names.lookup x = some .free := fun x k e hk => by
    obtain ⟨k', e1, e2⟩ := relabel_inv (show (scope.names.map fun (n, k) => if (k == NameKind.free && X.env.scope.kind == .function && X.env.kindOf n == some .cell) then (n, NameKind.cell) else (n, k)).lookup x = some k from e)
    rcases e2 with e2 | ⟨e2, _⟩
    · subst e2
      rcases hk with hk | hk
      · subst hk; exact absurd rfl (S.nocell _ (PySem.mem_of_lookup e1))
      · subst hk; exact e1
    · subst e2; exact e1
  have okY : (cxComp X ls M scope HH.objs.size fp { s2 with heap := HH, toks := s2.toks } H3).Ok := by
    refine ⟨I3.ok.mod, S.kind, I3.ok.glob, I3.ok.blt, Nat.le_refl _, fun x y a h1 h2 => I3.ok.inj x y a (sub x a h1) (sub y a h2), fun x hx => ?_, (fun x a h => nomatch h), I3.ok.hd, I3.ok.frames, .inl rfl, fun b hb' => ⟨Nat.ne_of_lt (fplt b hb'), fun x a e => (f3 b hb').2.2.2.2.1 x a (sub x a e)⟩,
      I3.bs, Nat.le_trans I3.ok.bsz I3.sz, fun b o e hb' => ?_, fun b hb' hs => ?_, I3.stack, I3.stkFree⟩
    · have hf : scope.names.lookup x = some .free := by
        rcases hx with hx | hx
        · exact rel x _ hx (.inl rfl)
        · exact rel x _ hx (.inr rfl)
      obtain ⟨a, ea⟩ := I3.ok.has x (kin x hf)
      exact ⟨a, has x a hf ea⟩
    · rcases (f3 b hb').2.2.2.1 with z | z
      · exact I3.ok.noex b o e z
      · exact absurd (Nat.lt_of_lt_of_le (Heap.lt_size e) (Nat.le_trans I3.ok.bsz z)) (Nat.lt_irrefl _)
    · rcases List.mem_cons.mp (I3.stkSub b hs) with z | z
      · exact (f3 b hb').2.1 z
      · exact (f3 b hb').2.2.1 z
  have IY : Inv (cxComp X ls M scope HH.objs.size fp { s2 with heap := HH, toks := s2.toks } H3) [] (List.replicate ls.length none ++ σ) H3 { s2 with heap := h₁, toks := s2.toks + ([] : List (Str × Value)).length } := by
    refine ⟨okY, rfl, I2.bare, Un.kept old, ⟨_, hns₁, fun i x v e1 e2 e3 => ?_⟩, fun x a e => ?_, I3.hok.fresh (Nat.le_refl _), fun x a e => I3.freeC x a (sub x a e), fun p hp => absurd (show p ∈ ([] : List (Addr × Obj)) from hp) (by simp), I3.hok.kept old, ?_⟩
    · have hi : ls.length <= i := by
        by_cases hi : ls.length <= i
        · exact hi
        · rw [List.getElem?_append_left (by simp; omega), List.getElem?_replicate] at e2
          split at e2 <;> cases e2
      rw [List.getElem?_append_right (by simpa using hi), List.length_replicate] at e2
      have e0 : M[i - ls.length]? = some x := by
        have z : (ls ++ M)[i]? = some x := e1
        rw [List.getElem?_append_right hi] at z
        exact z
      have hnl := nl.loc _ x e0
      have hf : scope.names.lookup x = some .free := by
        rcases e3 with e3 | e3 | e3
        · obtain ⟨k', q1, q2⟩ := relabel_inv (show (scope.names.map fun (n, k) => if (k == NameKind.free && X.env.scope.kind == .function && X.env.kindOf n == some .cell) then (n, NameKind.cell) else (n, k)).lookup x = some .local from e3)
          rcases q2 with q2 | ⟨_, q2⟩
          · subst q2; exact absurd q1 hnl
          · cases q2
        · exact rel x _ e3 (.inl rfl)
        · exact rel x _ e3 (.inr rfl)
      have e1' := nl.free _ x e0 hf
      have hk := kin x hf
      obtain ⟨m, hn, hl⟩ := I3.loc
      obtain ⟨u, ru, lk⟩ := hl (i - ls.length) x v e1' e2 (hk.elim (fun z => .inr (.inl z)) fun z => .inr (.inr z))
      refine ⟨u, ru, ?_⟩
      rcases lk with ⟨z, _⟩ | ⟨_, a, ea, hcell⟩
      · rcases hk with hk | hk <;> (rw [hk] at z; cases z)
      · obtain ⟨o, eo, hd⟩ := hcell
        refine .inr ⟨?_, a, has x a hf ea, ⟨o, old a o eo, hd⟩⟩
        rcases e3 with e3 | e3 | e3
        · obtain ⟨k', q1, q2⟩ := relabel_inv (show (scope.names.map fun (n, k) => if (k == NameKind.free && X.env.scope.kind == .function && X.env.kindOf n == some .cell) then (n, NameKind.cell) else (n, k)).lookup x = some .local from e3)
          rcases q2 with q2 | ⟨_, q2⟩
          · subst q2; exact absurd q1 hnl
          · cases q2
        · exact .inl e3
        · exact .inr e3
    · obtain ⟨v, o, eo, hd⟩ := I3.cell x a (sub x a e)
      exact ⟨v, o, old a o eo, hd⟩
    · show (List.replicate ls.length none ++ σ).length = (ls ++ M).length
      rw [List.length_append, List.length_append, List.length_replicate, I3.len, nl.len]
  have st1 : tn 0 h₁ := T.keep 0 _ _ st2 fun b _ o e => old b o (up b o e)
  obtain ⟨hPG, hPT, hPE⟩ := hb HH.objs.size fp { s2 with heap := HH, toks := s2.toks } H3
  obtain ⟨W, ⟨m0, w0⟩, turn⟩ := hW s2.heap.objs.size hfreshD
  rw [hH3] at w0
  have back : ∀ {τ : St} {H' : Hp} {s' : Shared}, Inv (cxComp X ls M scope HH.objs.size fp { s2 with heap := HH, toks := s2.toks } H3) [] τ H' s' -> Inv X pins σ H' s' /\ COff X pins H' HH.objs.size s' := fun {τ H' s'} J => by
    refine ⟨I3.call' (ch := fp) J.os J.base J.hok J.bare fun b hb' => ?_, ?_⟩
    · obtain ⟨_, g1, g2, g3, g4, g5⟩ := f3 b hb'
      exact ⟨g3, g1, g4, g5⟩
    · obtain ⟨m, hn, _⟩ := J.loc
      refine ⟨⟨m, hn⟩, J.free, Ne.symm (Nat.ne_of_lt I3.lt), I3.sz, fun x a e => ?_, fun p hp => Nat.ne_of_lt (Heap.lt_size (I3.pin p hp).1)⟩
      obtain ⟨v, q⟩ := I3.cell x a e
      exact Nat.ne_of_lt q.lt
  have stat : ∀ {H' : Hp}, (∀ b ∈ fp, H' b = none) -> ∀ b ∈ fp, FpOk (cxComp X ls M scope HH.objs.size fp { s2 with heap := HH, toks := s2.toks } H3) [] H' b := fun {H'} hn b hb' => by
    obtain ⟨_, g1, g2, g3, g4, g5⟩ := f3 b hb'
    refine ⟨hn b hb', Nat.ne_of_lt (fplt b hb'), fun hs => ?_, .inl hb', fun x a e => g4 x a (sub x a e), fun p hp => absurd (show p ∈ ([] : List (Addr × Obj)) from hp) (by simp)⟩
    rcases List.mem_cons.mp (I3.stkSub b hs) with z | z
    · exact g1 z
    · exact g2 z
  have loop : ∀ s₃ : Shared, s₃ = { s2 with heap := h₁, toks := s2.toks + ([] : List (Str × Value)).length } ->
      codeAny (model X.prog X.w) X.A (.compLoop (.ListComp elt [⟨tg, iter, ifs, 0⟩] scope pos) 0 (.ref it) (.ref s2.heap.objs.size) (compEnvC scope (closL X.env scope.names []) HH.objs.size X.env)) (RR (.ref s2.heap.objs.size) HH.objs.size) s₃ := by
    rintro s₃ rfl
    refine compLoop_any (fun n s' => ∃ i τ H', Inv (cxComp X ls M scope HH.objs.size fp { s2 with heap := HH, toks := s2.toks } H3) [] τ H' s' /\ tn i s'.heap /\ (∀ b ∈ fp, H' b = none) /\ W i n τ H') ?_ m0 ⟨0, _, H3, IY, st1, fun b hb' => (f3 b hb').1, w0⟩
    rintro n s3 ⟨i, τ, H', I4, st4, fr4, w4⟩ E'
    rcases turn i n τ H' w4 with ⟨stop, qn⟩ | ⟨go, step⟩
    · refine thn (T.done (cxComp X ls M scope HH.objs.size fp { s2 with heap := HH, toks := s2.toks } H3) rfl rfl rfl hc i [] s3 τ H' E' I4 (stat fr4) st4 stop) fun r s4 ⟨hr, I5⟩ => ?_
      subst hr
      obtain ⟨b1, b2⟩ := back I5
      exact hRR _ _ H' s4 b1 b2 qn
    · refine thn (T.item (cxComp X ls M scope HH.objs.size fp { s2 with heap := HH, toks := s2.toks } H3) rfl rfl rfl hc i [] s3 τ H' E' I4 (stat fr4) st4 go) fun r s4 ⟨u, hr, h4⟩ => ?_
      subst hr
      refine thn h4 fun _ s5 ⟨x, H5, I5, r5, y5, st5, fr5⟩ => ?_
      have I5' := I5.pinned (stat fr5) (T.obj _ _ st5)
      refine wpAny_mono (hPG _ s5 τ H5 x u _ I5' r5 (step x H5 y5)) (fun _ s6 ⟨σ6, H6, I6, q6⟩ => ?_) fun _ _ z => z.elim
      refine wpAny_mono (hPT _ s6 σ6 H6 _ I6 q6) (fun ok s7 ⟨H7, I7, q7⟩ => ?_) fun _ _ z => z.elim
      have again : ∀ {σ8 : St} {H8 : Hp} {s8 : Shared} {m' : Nat}, Inv (cxComp X ls M scope HH.objs.size fp { s2 with heap := HH, toks := s2.toks } H3) ([] ++ pinsAt fp s5.heap) σ8 H8 s8 -> m' < n -> W (i + 1) m' σ8 H8 ->
          ∃ m, m < n /\ ∃ i τ H', Inv (cxComp X ls M scope HH.objs.size fp { s2 with heap := HH, toks := s2.toks } H3) [] τ H' s8 /\ tn i s8.heap /\ (∀ b ∈ fp, H' b = none) /\ W i m τ H' := fun {σ8 H8 s8 m'} I8 hm w8 => by
        refine ⟨m', hm, i + 1, σ8, H8, I8.unpinned, T.keep _ _ _ st5 fun b hb' o e => (I8.pin (b, o) (List.mem_append_right _ (List.mem_append_right _ (mem_pinsAt hb' e)))).1, fun b hb' => ?_, w8⟩
        obtain ⟨o, e, d⟩ := T.obj _ _ st5 b hb'
        exact (I8.pin (b, o) (List.mem_append_right _ (List.mem_append_right _ (mem_pinsAt hb' e)))).2.1
      cases ok with
      | false =>
        rw [if_neg Bool.false_ne_true] at q7 ⊢
        obtain ⟨m', hm, w7⟩ := q7
        exact again I7 hm w7
      | true =>
        rw [if_pos rfl] at q7 ⊢
        refine wpAny_mono (hPE _ s7 σ6 H7 _ I7 q7) (fun yv s8 ⟨y, H8, I8, r8, ys, m', hm, hD, hz, w8⟩ => ?_) fun _ _ z => z.elim
        refine wpAny_mono (mt_append (X := (cxComp X ls M scope HH.objs.size fp { s2 with heap := HH, toks := s2.toks } H3)) _ s8 σ6 H8 (.ref s2.heap.objs.size) [y] (.ref s2.heap.objs.size) [yv] (fun _ H9 => W (i + 1) m' σ6 H9) I8 rfl (.cons r8 .nil) ⟨_, ys, y, rfl, rfl, hD, hz, w8⟩) (fun _ s9 ⟨_, H9, I9, _, w9⟩ => ?_) fun _ _ z => z.elim
        exact again I9 hm w9
  exact codeAny_compStart_list (loop _ rfl) (T.self _ 0 _ _ _ st1 (loop _ rfl))
theorem closOk (S : CompOk X.env.scope scope) (ok : X.Ok) : closureFor scope X.env = pure (closL X.env scope.names []) :=
  closureFor_closL fun y hy e => ok.has y.1 (S.free y hy e)
theorem pe_comp {wi : TI} (hc : X.calm = true) (S : CompOk X.env.scope scope) (nl : NL X.N M scope) (hi : PI X tg iter wi)
    (hb : ∀ C fp s H, PG (cxComp X ls M scope C fp s H) tg g /\ PTs (cxComp X ls M scope C fp s H) ifs c /\ PE (cxComp X ls M scope C fp s H) elt te)
    (hs : ∀ x, foldedSetIterable iter X.env x = pure x := by intro _; rfl) : PE X (.ListComp elt [⟨tg, iter, ifs, 0⟩] scope pos) (tComp ls.length wi g c te) := by
  intro pins s σ H Q I h
  rw [eval_ListComp]
  refine wpAny_comprehension_free (use := none) rfl hs (closOk S I.ok) S.kind S.loc (thn (hi pins s σ H _ I h) fun xv s1 h1 => thn h1 fun itv s2 h2 => ?_)
  obtain ⟨it, fp, tn, J, H2, e, I2, T, st2, f2, hW⟩ := h2
  subst e
  refine comp_core (RR := fun acc C => compPost (model X.prog X.w) X.A X.xe none (EP X pins σ Q) acc C) (Qe := Q) hc S nl hb I2 T st2 f2 hW fun D C H' s' I' o q => ?_
  exact ⟨o.ns.choose, o.ns.choose_spec, fun h' hs' => ⟨.ref D, H', I'.gone o hs', rfl, q⟩⟩
end
def CW (n : Nat) (Pv : Nat -> St -> Hp -> Prop) (i m : Nat) (τ : St) (H : Hp) : Prop := m = n - i /\ i <= n /\ Pv i τ H
theorem comp_next {n i m : Nat} {Pv : Nat -> St -> Hp -> Prop} {τ : St} {H4 : Hp} {D : Addr} {ys : List V} {y : V} (hm : m = n - i) (hi : i < n) (e1 : H4 D = some (.lst ys)) (e2 : ys.length < sizeLine) (p : Pv (i + 1) τ (upd H4 D (.lst (ys ++ [y])))) :
    ∃ ys m', m' < m /\ H4 D = some (.lst ys) /\ ys.length < sizeLine /\ CW n Pv (i + 1) m' τ (upd H4 D (.lst (ys ++ [y]))) := ⟨ys, n - (i + 1), by omega, e1, e2, rfl, hi, p⟩
theorem comp_list {K : PySem.W.Frag} {a : Addr} {xs : List V} {k : Nat} {g : TG} {c : TT} {te : TE} {σ : St} {H1 : Hp} {D : Addr} {Q : VK} (Pv : Nat -> St -> Hp -> Prop) (h0 : Pv 0 (List.replicate k none ++ σ) (upd H1 D (.lst [])))
    (hl : ∀ i τ H, i <= xs.length -> Pv i τ H -> SqL K H a xs)
    (hs : ∀ i m x τ H, m = xs.length - i -> i < xs.length -> xs[i]? = some x -> Pv i τ H -> g x τ H fun τ2 H2 => c τ2 H2 fun b H3 => if b = true then te τ2 H3 fun y H4 => ∃ ys m', m' < m /\ H4 D = some (.lst ys) /\ ys.length < sizeLine /\ CW xs.length Pv (i + 1) m' τ2 (upd H4 D (.lst (ys ++ [y]))) else ∃ m', m' < m /\ CW xs.length Pv (i + 1) m' τ2 H3)
    (hd : ∀ τ H, Pv xs.length τ H -> Q (.ref D) H) : CompW k (Itl K a) g c te σ H1 D Q := by
  refine ⟨CW xs.length Pv, ⟨xs.length, rfl, Nat.zero_le _, h0⟩, ?_⟩
  rintro i m τ H ⟨hm, hi, p⟩
  have q := hl i τ H hi p
  by_cases hlt : i < xs.length
  · refine .inr ⟨⟨xs, xs[i], q, by simp [hlt]⟩, fun x H' y => ?_⟩
    obtain ⟨e, y⟩ := y
    subst e
    exact hs i m x τ _ hm hlt (y xs q) p
  · have e : i = xs.length := by omega
    subst e
    exact .inl ⟨⟨xs, q, Nat.le_refl _⟩, hd τ H p⟩
theorem tyes_if {τ : St} {H : Hp} {A B : Hp -> Prop} (h : A H) : tYes τ H (fun b H3 => if b = true then A H3 else B H3) := by
  show (if true = true then A H else B H)
  rw [if_pos rfl]
  exact h
theorem ifT {c : Bool} {A B : Prop} (h : c = true) (a : A) : if c = true then A else B := by
  rw [if_pos h]
  exact a
theorem ifF {c : Bool} {A B : Prop} (h : c = false) (b : B) : if c = true then A else B := by
  rw [if_neg (by rw [h]; exact Bool.false_ne_true)]
  exact b
theorem bt_int : bootBuiltins "int" = some (.type "int") := by decide +kernel
theorem bt_bool : bootBuiltins "bool" = some (.type "bool") := by decide +kernel
theorem bt_str : bootBuiltins "str" = some (.type "str") := by decide +kernel
theorem bt_list : bootBuiltins "list" = some (.type "list") := by decide +kernel
theorem bt_tuple : bootBuiltins "tuple" = some (.type "tuple") := by decide +kernel
theorem bt_len : bootBuiltins "len" = some (.builtin "len") := by decide +kernel
theorem bt_abs : bootBuiltins "abs" = some (.builtin "abs") := by decide +kernel
theorem bt_isinstance : bootBuiltins "isinstance" = some (.builtin "isinstance") := by decide +kernel
theorem bt_sum : bootBuiltins "sum" = some (.builtin "sum") := by decide +kernel
theorem bt_max : bootBuiltins "max" = some (.builtin "max") := by decide +kernel
theorem bt_min : bootBuiltins "min" = some (.builtin "min") := by decide +kernel
theorem bt_sorted : bootBuiltins "sorted" = some (.builtin "sorted") := by decide +kernel
theorem bt_all : bootBuiltins "all" = some (.builtin "all") := by decide +kernel
def nodupB : List Str -> Bool
  | [] => true
  | x :: r => (r.all fun y => x != y) && nodupB r
theorem nd_of : ∀ {l : List Str}, nodupB l = true -> l.Nodup
  | [], _ => .nil
  | x :: r, h => by
    have h' : ((r.all fun y => x != y) && nodupB r) = true := h
    rw [Bool.and_eq_true, List.all_eq_true] at h'
    refine List.nodup_cons.mpr ⟨fun z => ?_, nd_of h'.2⟩
    have := h'.1 x z
    simp at this
structure Cal (P : Program) (w : World) (K : PySem.W.Frag) (mg : Str -> Option Value) (base : Heap) (n : Nat) (x : Str) (ps : List Str) (sp : Sp) (g : Addr) (gd : FuncData) : Prop where
  ok : FnOk P w K mg base CX0 n g gd ps sp
  bi : Binds K gd ps []
  kp : PySem.W.keepIn K (.ref g) = true
  at_ : mg x = some (.ref g)
theorem Cal.up {P : Program} {w : World} {K : PySem.W.Frag} {mg : Str -> Option Value} {base : Heap} {n m : Nat} {x : Str} {ps : List Str} {sp : Sp} {g : Addr} {gd : FuncData} (c : Cal P w K mg base n x ps sp g gd) (h : n <= m) : Cal P w K mg base m x ps sp g gd := ⟨c.ok.mono h, c.bi, c.kp, c.at_⟩
theorem pe_callC {X : Cx} {n : Nat} {x : Str} {ps : List Str} {sp : Sp} {g : Addr} {gd : FuncData} {p pos : Pos} {e : Expr} {es : List Expr} {t : TA} (c : Cal X.prog X.w X.K X.mg X.base n x ps sp g gd) (hr : Room n X.A) (ha : PA X (e :: es) t) (hg : Gl X x := by rfl)
    (hd : (x == ("__debug__" : Str)) = false := by decide) (he : starEach (e :: es) X.env = (false, eval e X.env) :: starEach es X.env := by rfl) (hpl : (backTo pos (starEach es X.env)).any (·.1) = false := by rfl) :
    PE X (.Call (.Name x p) (e :: es) [] pos) (tCall sp [] E0 t) := pe_call c.ok hr hg c.at_ c.kp c.bi .nil pass0 ha hd he hpl
theorem Same.tup {K : PySem.W.Frag} {H H' : Hp} {a : Addr} {xs : List V} (e : Same H H') (h : SqT K H a xs) : SqT K H' a xs := by
  rcases h with (h | ⟨o, h⟩) | h
  · exact .inl (.inl (e _ _ h))
  · exact .inl (.inr ⟨o, e _ _ h⟩)
  · exact .inr h
theorem same_new {H : Hp} {p : Addr} (h : H p = none) (o : HO) : Same H (upd H p o) := fun b u q => by rw [upd_ne (ne_of_none q h)]; exact q
theorem Same.upd_new {H H' : Hp} {p : Addr} (s : Same H H') (h : H p = none) (o : HO) : Same H (upd H' p o) := fun b u q => by rw [upd_ne (ne_of_none q h)]; exact s b u q
theorem atI_ints {L : List Int} {i : Int} (h0 : 0 <= i) (h1 : i < (L.length : Int)) : atI (L.map V.int) i = some (.int (L.getD i.toNat 0)) := by
  have hi : i.toNat < L.length := by omega
  have e : i = ((i.toNat : Nat) : Int) := by omega
  have q : atI (L.map V.int) ((i.toNat : Nat) : Int) = some (.int (L.getD i.toNat 0)) := atI_nat (by rw [List.getElem?_map, List.getElem?_eq_getElem hi, getD_at hi] <;> rfl)
  rw [<- e] at q
  exact q
end L2
namespace L2
open PySem PySem.Spec PyProof.Rows
section
variable {X : Cx} {pins : List (Addr × Obj)} {σ : St} {H : Hp} {s : Shared}
theorem Inv.track {a : Addr} {o : HO} (I : Inv X pins σ H s) (f : FpOk X pins H a) (hy : X.s₀.heap.objs.size <= a) (new : ObjOk X.prog X.w (upd H a o) s.heap a o) : Inv X pins σ (upd H a o) s := by
  obtain ⟨f0, f1, f2, f3, f4, f5⟩ := f
  have ne : ∀ b u, H b = some u -> b ≠ a := fun b u e => ne_of_none e f0
  refine ⟨I.ok, I.os, I.bare, ⟨I.base.keep, I.base.slot, fun b ob e n hx => ?_, I.base.there, fun b xs e => ?_, fun b ob u e => ?_, fun b ps e => ?_⟩, I.loc, I.cell, ?_, fun x c e => ?_, fun p hp => ?_, fun b u e => ?_, I.len⟩
  · rw [upd_ne (Nat.ne_of_lt (Nat.lt_of_lt_of_le (Heap.lt_size e) hy))]
    exact I.base.free b ob e n hx
  · have q := I.base.tups b xs e
    rw [upd_ne (ne _ _ q)]; exact q
  · have q := I.base.frzs b ob u e
    rw [upd_ne (ne _ _ q)]; exact q
  · obtain ⟨m, q⟩ := I.base.tbls b ps e
    exact ⟨m, by rw [upd_ne (ne _ _ q)]; exact q⟩
  · rw [upd_ne (Ne.symm f1)]; exact I.free
  · rw [upd_ne (f4 x c e)]; exact I.freeC x c e
  · obtain ⟨g1, g2, g3, g4, g5⟩ := I.pin p hp
    exact ⟨g1, by rw [upd_ne (f5 p hp)]; exact g2, g3, g4, g5⟩
  · by_cases hb : b = a
    · subst hb; rw [upd_same] at e; cases e; exact new
    · rw [upd_ne hb] at e
      exact (I.hok b u e).stay (fun _ _ _ q => q) (fun c q => by rw [upd_ne (ne _ _ q)]; exact q) fun c xs q => by rw [upd_ne (ne _ _ q)]; exact q
theorem FpOk.pin {b : Addr} {o : Obj} (f : FpOk X pins H b) (e : s.heap.get? b = some o) (d : ∀ v, o.data ≠ .cell v) : s.heap.get? b = some o /\ H b = none /\ b ≠ X.env.locals /\ b ∉ X.fs /\ ∀ v, o.data ≠ .cell v := ⟨e, f.1, f.2.1, f.2.2.1, d⟩
def KeyT (X : Cx) (pins : List (Addr × Obj)) (σ : St) (H : Hp) (A : Around) (f v : Value) (k : Int) : Prop :=
  ∀ (more : List (Addr × Obj)) (s : Shared), Inv X (pins ++ more) σ H s -> wpAny (model X.prog X.w) A (call f [v]) (fun r s' => (∃ t, r = Value.int k t) /\ Inv X (pins ++ more) σ H s') (fun _ _ => False) s
variable {A : Around} {E : Value -> Shared -> Prop} {P : PySem.Fin -> Shared -> Prop} {a kS : Addr} {b : Bool} {vs : List Value} {kz : List Int} {keys : Array Value} {e e1 : Nat} {f : Value}
theorem srt_tail {st : SortSt} (I : Inv X pins σ H s) (fk : FpOk X pins H kS) (fa : FpOk X pins H a) (hka : kS ≠ a) (ek : s.heap.get? kS = some (seqObj "list" keys e)) (ea : s.heap.get? a = some (seqObj "list" #[] e1))
    (hk : IntsAre keys.toList kz) (hlen : kz.length = vs.length) (h64 : vs.length < 64) (hp : (arrOf st).Perm (keys.zip vs.toArray)) (hs : SortedTo (arrOf st) (arrOf st).size) (hfl : failedOf st = none)
    (done : ∀ s' out c, Inv X pins σ H s' -> s'.heap.get? a = some (seqObj "list" out c) -> KskOut b kz vs out.toList -> P (.done (.ret .none)) s') :
    wpAny (model X.prog X.w) A (ksk_tail a b e1 (.ref kS) st) P E s := by
  have hsz : keys.size = vs.length := by
    have h1 := hk.length
    rw [Array.length_toList] at h1
    omega
  have hsz2 : (arrOf st).size = vs.length := by
    have z : (arrOf st).size = (keys.zip vs.toArray).size := hp.size_eq
    have z2 : (keys.zip vs.toArray).size = vs.length := by rw [Array.size_zip, hsz]; simp
    exact z.trans z2
  have ko := ksk_out (b := b) hk hp hs
  have hout : (if b = true then ((arrOf st).map (·.2)).reverse else (arrOf st).map (·.2)).size = vs.length := by
    cases b <;> simp [hsz2]
  generalize hO : (if b = true then ((arrOf st).map (·.2)).reverse else (arrOf st).map (·.2)) = out at ko hout
  have I1 : Inv X pins σ H { s with heap := s.heap.update kS (Obj.mapSeq fun _ => (#[] : Array Value)) } :=
    I.turned (t' := s.toks) (fun b o hb q => ((Heap.SameBut.update s.heap kS _).2 b hb).trans q) fk.1 fk.2.1 fk.2.2.2.1 fk.2.2.2.2.1 fk.2.2.2.2.2
  have ea1 : (s.heap.update kS (Obj.mapSeq fun _ => (#[] : Array Value))).get? a = some (seqObj "list" #[] e1) := ((Heap.SameBut.update s.heap kS _).2 a (Ne.symm hka)).trans ea
  have I2 : Inv X pins σ H { s with heap := (s.heap.update kS (Obj.mapSeq fun _ => (#[] : Array Value))).update a (Obj.mapSeq fun _ => out) } :=
    I1.turned (t' := s.toks) (fun b o hb q => ((Heap.SameBut.update _ a _).2 b hb).trans q) fa.1 fa.2.1 fa.2.2.2.1 fa.2.2.2.2.1 fa.2.2.2.2.2
  unfold ksk_tail
  dsimp only
  refine wpAny_bind (listUpdate_at ek rfl ?_ (by rw [hsz]; exact Nat.le_trans (Nat.le_of_lt h64) (by decide)) (Nat.zero_le _))
  refine wpAny_bind (wpAny_letGo ?_)
  refine wpAny_bind (seqEpoch_at ea1 rfl ?_)
  rw [hO]
  refine wpAny_bind (listUpdate_at ea1 rfl ?_ (Nat.zero_le _) (by rw [hout]; exact Nat.le_trans (Nat.le_of_lt h64) (by decide)))
  rw [hfl]
  simp only [bne_self_eq_false, Bool.false_eq_true, if_false]
  exact wpAny_pure (done _ out _ I2 (get?_update_seq ea1 fun _ => out) ko)
theorem srt_end (I : Inv X pins σ H s) (fk : FpOk X pins H kS) (fa : FpOk X pins H a) (hka : kS ≠ a) (ek : s.heap.get? kS = some (seqObj "list" keys e)) (ea : s.heap.get? a = some (seqObj "list" #[] e1))
    (hk : IntsAre keys.toList kz) (hlen : kz.length = vs.length) (h64 : vs.length < 64)
    (done : ∀ s' out c, Inv X pins σ H s' -> s'.heap.get? a = some (seqObj "list" out c) -> KskOut false kz vs out.toList -> P (.done (.ret .none)) s') :
    wpAny (model X.prog X.w) A (ksk_end a false vs.toArray e1 (.ref kS) keys) P E s := by
  have hsz : keys.size = vs.length := by
    have h1 := hk.length
    rw [Array.length_toList] at h1
    omega
  have hzs : (keys.zip vs.toArray).size = vs.length := by rw [Array.size_zip, hsz, List.size_toArray]; omega
  unfold ksk_end
  dsimp only
  simp only [Bool.false_eq_true, if_false]
  by_cases h2 : vs.toArray.size < 2
  · rw [if_pos h2, if_pos h2]
    refine wpAny_bind (wpAny_pure ?_)
    rw [StateT.run_pure]
    refine wpAny_bind (wpAny_pure ?_)
    refine srt_tail (st := SortSt.mk' general' (keys.zip vs.toArray) #[] 7 none) I fk fa hka ek ea hk hlen h64 (Array.Perm.refl _) (fun i j hij hj => ?_) rfl done
    have hj' : j < (keys.zip vs.toArray).size := hj
    rw [hzs] at hj'
    rw [List.size_toArray] at h2
    have z : i = j := by omega
    rw [z]
    exact Int.le_refl _
  · rw [if_neg h2, if_neg h2]
    rw [List.size_toArray] at h2
    rw [ksk_kind hk (by omega)]
    refine wpAny_bind (wpAny_pure ?_)
    refine wpAny_bind (wpAny_mono (wpS_sortRuns (a₀ := keys.zip vs.toArray) (st := SortSt.mk' oneType' (keys.zip vs.toArray) #[] 7 none)
      (Q := fun _ t => (arrOf t).Perm (keys.zip vs.toArray) /\ failedOf t = none /\ SortedTo (arrOf t) (keys.zip vs.toArray).size)
      (ksk_intKeys hk) ⟨Array.Perm.refl _, rfl, rfl, rfl⟩ (by omega) (by omega) fun t z1 z2 z3 => ⟨z1, z2, z3⟩) ?_ fun _ _ z => z)
    rintro ⟨⟨⟩, t⟩ s2 ⟨rfl, p1, p2, p3⟩
    exact srt_tail I fk fa hka ek ea hk hlen h64 p1 (by rw [p1.size_eq]; exact p3) p2 done
theorem srt_rest (I : Inv X pins σ H s) (fk : FpOk X pins H kS) (fa : FpOk X pins H a) (hka : kS ≠ a) (ek : s.heap.get? kS = some (seqObj "list" #[] 0)) (ea : s.heap.get? a = some (seqObj "list" #[] e1))
    (hlen : kz.length = vs.length) (h64 : vs.length < 64) (turn : ∀ (i : Nat) v k, vs[i]? = some v -> kz[i]? = some k -> KeyT X pins σ H A f v k)
    (done : ∀ s' out c, Inv X pins σ H s' -> s'.heap.get? a = some (seqObj "list" out c) -> KskOut false kz vs out.toList -> P (.done (.ret .none)) s') :
    wpAny (model X.prog X.w) A (ksk_rest a f false vs.toArray e1 (.ref kS)) P E s := by
  unfold ksk_rest
  refine wpAny_bind (wpAny_rule ?_)
  rw [List.forIn_toArray]
  refine wpAny_bind (ksk_fold (fun i s' => Inv X pins σ H s' /\ s'.heap.get? a = some (seqObj "list" #[] e1) /\ ∃ kA e, s'.heap.get? kS = some (seqObj "list" kA e) /\ IntsAre kA.toList (kz.take i)) vs 0 s ⟨I, ea, #[], 0, ek, by simpa using IntsAre.nil⟩ ?step ?fin)
  case step =>
    rintro j x s1 hx ⟨I1, ea1, kA, e, ek1, hk⟩
    rw [Nat.zero_add] at hk ⊢
    have hj : j < vs.length := (List.getElem?_eq_some_iff.mp hx).1
    have hkj : kz[j]? = some kz[j] := List.getElem?_eq_getElem (by omega)
    have hz : kA.size <= vs.length := by
      have h1 := hk.length
      rw [Array.length_toList, List.length_take] at h1
      omega
    have I2 : Inv X (pins ++ [(kS, seqObj "list" kA e), (a, seqObj "list" #[] e1)]) σ H s1 := I1.pins_of fun p hp => by
      rcases List.mem_append.mp hp with z | z
      · exact I1.pin p (List.mem_append_right _ z)
      · rcases List.mem_cons.mp z with z | z
        · subst z; exact fk.pin ek1 fun v q => nomatch q
        · rw [List.mem_singleton.mp z]; exact fa.pin ea1 fun v q => nomatch q
    refine wpAny_bind (wpAny_attempt (wpAny_mono (turn j x _ hx hkj _ s1 I2) (fun v s2 h2 => ?_) fun _ _ z => z.elim))
    obtain ⟨⟨t, rfl⟩, I3⟩ := h2
    have ek2 := (I3.pin (kS, seqObj "list" kA e) (List.mem_append_right _ (List.mem_append_right _ (.head _)))).1
    have ea2 := (I3.pin (a, seqObj "list" #[] e1) (List.mem_append_right _ (List.mem_append_right _ (.tail _ (.head _))))).1
    have I4 := I3.unpinned
    refine wpAny_bind (listUpdate_at ek2 rfl ?_ (Nat.le_trans hz (Nat.le_trans (Nat.le_of_lt h64) (by decide))) (Nat.le_trans (Nat.le_of_eq (Array.size_push ..)) (Nat.succ_le_succ (Nat.le_trans hz (Nat.le_trans (Nat.le_of_lt h64) (by decide))))))
    refine wpAny_pure ⟨rfl, I4.turned (t' := s2.toks) (fun b o hb q => ((Heap.SameBut.update s2.heap kS _).2 b hb).trans q) fk.1 fk.2.1 fk.2.2.2.1 fk.2.2.2.2.1 fk.2.2.2.2.2, ((Heap.SameBut.update s2.heap kS _).2 a (Ne.symm hka)).trans ea2, kA.push (.int kz[j] t), _, get?_update_seq ek2 (·.push (.int kz[j] t)), ?_⟩
    have q1 : kz.take (j + 1) = kz.take j ++ [kz[j]] := by rw [List.take_add_one, hkj]; rfl
    rw [q1, Array.toList_push]
    exact ksk_snoc hk
  case fin =>
    rintro s1 ⟨I1, ea1, kA, e, ek1, hk⟩
    have hk' : IntsAre kA.toList kz := by
      rw [Nat.zero_add, <- hlen, List.take_length] at hk
      exact hk
    exact wpAny_bind (listItems_at ek1 rfl (srt_end I1 fk fa hka ek1 ea1 hk' hlen h64 done))
end
end L2
namespace L2
open PySem PySem.Spec PyProof.Rows
section
variable {X : Cx} {pins : List (Addr × Obj)} {σ : St} {H : Hp} {s : Shared} {A : Around} {E : Value -> Shared -> Prop} {P : PySem.Fin -> Shared -> Prop} {a : Addr} {vs : List Value} {kz : List Int} {n : Nat} {f : Value}
theorem srt_tree (I : Inv X pins σ H s) (fa : FpOk X pins H a) (ea : s.heap.get? a = some (seqObj "list" vs.toArray n)) (hlen : kz.length = vs.length) (h64 : vs.length < 64)
    (turn : ∀ (i : Nat) v k, vs[i]? = some v -> kz[i]? = some k -> KeyT X pins σ H A f v k)
    (done : ∀ s' out c, Inv X pins σ H s' -> s'.heap.get? a = some (seqObj "list" out c) -> KskOut false kz vs out.toList -> P (.done (.ret .none)) s') :
    wpAny (model X.prog X.w) A (ksk_tree a f false) P E s := by
  have I1 : Inv X pins σ H { s with heap := s.heap.update a (Obj.mapSeq fun _ => (#[] : Array Value)) } :=
    I.turned (t' := s.toks) (fun b o hb q => ((Heap.SameBut.update s.heap a _).2 b hb).trans q) fa.1 fa.2.1 fa.2.2.2.1 fa.2.2.2.2.1 fa.2.2.2.2.2
  have ea1 := get?_update_seq ea fun _ => (#[] : Array Value)
  generalize hh : s.heap.update a (Obj.mapSeq fun _ => (#[] : Array Value)) = h1 at I1 ea1
  have I2 : Inv X pins σ H { s with heap := (h1.push (seqObj "tuple" vs.toArray 0)).push (seqObj "list" #[] 0) } :=
    I1.kept (t' := s.toks) fun b o q => Heap.get?_push_of_some _ (Heap.get?_push_of_some _ q)
  have hlt : a < h1.objs.size := Heap.lt_size ea1
  have hsz : (h1.push (seqObj "tuple" vs.toArray 0)).objs.size = h1.objs.size + 1 := size_push' _ _
  have h64' : vs.length <= sizeLine := Nat.le_trans (Nat.le_of_lt h64) (by decide)
  unfold ksk_tree
  refine wpAny_bind (listItems_at ea rfl ?_)
  refine wpAny_bind (listUpdate_at ea rfl ?_ (by rw [List.size_toArray]; exact h64') (Nat.zero_le _))
  rw [hh]
  refine wpAny_bind (seqEpoch_at (s := { s with heap := h1 }) ea1 rfl ?_)
  refine wpAny_bind (wpAny_newTuple ?_ (by simpa using h64'))
  refine wpAny_bind (wpAny_newList ?_ (Nat.zero_le _))
  refine wpAny_holding ?_
  refine srt_rest (s := { s with heap := (h1.push (seqObj "tuple" vs.toArray 0)).push (seqObj "list" #[] 0) }) (kS := (h1.push (seqObj "tuple" vs.toArray 0)).objs.size) I2 ?_ fa ?_ (Heap.get?_push_size _ rfl) (Heap.get?_push_of_some _ (Heap.get?_push_of_some _ ea1)) hlen h64 turn done
  · exact I1.fpOk (by rw [hsz]; exact Nat.le_succ _) (I1.hok.fresh (by rw [hsz]; exact Nat.le_succ _))
  · rw [hsz]
    exact Nat.ne_of_gt (Nat.lt_succ_of_lt hlt)
def adr : Value -> Addr
  | .ref a => a
  | _ => 0
theorem vals_refs : ∀ {qs : List Addr} {vs : List Value}, Vals (qs.map V.ref) vs -> vs = qs.map Value.ref
  | [], _, h => by cases h; rfl
  | q :: qs, _, h => by
    cases h with
    | cons r t => rw [vals_refs t, show _ = Value.ref q from r]; rfl
theorem refs_vals : ∀ (qs : List Addr), Vals (qs.map V.ref) (qs.map Value.ref)
  | [] => .nil
  | q :: qs => .cons rfl (refs_vals qs)
theorem kout_refs {kz : List Int} {qs : List Addr} {out : List Value} (h : KskOut false kz (qs.map Value.ref) out) : ∃ ps : List (Int × Addr), ps.Perm (kz.zip qs) /\ out = ps.map (fun p => Value.ref p.2) /\ ps.Pairwise (fun p q => p.1 <= q.1) := by
  obtain ⟨ps, hp, ho, hs⟩ := h
  have e0 : kz.zip (qs.map Value.ref) = (kz.zip qs).map fun p => (p.1, Value.ref p.2) := by rw [List.zip_map_right]; exact List.map_congr_left fun ⟨x, y⟩ _ => rfl
  rw [e0] at hp
  have mem : ∀ p ∈ ps, p.2 = Value.ref (adr p.2) := fun p hm => by
    obtain ⟨q, _, rfl⟩ := List.mem_map.mp (hp.mem_iff.mp hm)
    rfl
  refine ⟨ps.map fun p => (p.1, adr p.2), ?_, ?_, ?_⟩
  · have z := hp.map fun p => (p.1, adr p.2)
    rw [List.map_map] at z
    have e1 : (kz.zip qs).map ((fun p => (p.1, adr p.2)) ∘ fun p => (p.1, Value.ref p.2)) = kz.zip qs := by
      conv => rhs; rw [<- List.map_id (kz.zip qs)]
      exact List.map_congr_left fun ⟨x, y⟩ _ => rfl
    rw [e1] at z
    exact z
  · rw [ho, List.map_map]
    exact List.map_congr_left fun p hm => mem p hm
  · rw [List.pairwise_map]
    exact hs
theorem srt_call {l fa : Addr} {qs : List Addr} {Q : VK} (I : Inv X pins σ H s) (hS : SqL X.K H l (qs.map V.ref)) (hlen : kz.length = qs.length) (h64 : qs.length < 64)
    (turn : ∀ (i : Nat) q k, qs[i]? = some q -> kz[i]? = some k -> KeyT X pins σ H X.A.in1.in1 (.ref fa) (.ref q) k)
    (done : ∀ D (ps : List (Int × Addr)), H D = none -> ps.Perm (kz.zip qs) -> ps.Pairwise (fun p q => p.1 <= q.1) -> Q (.ref D) (upd H D (.lst (ps.map fun p => V.ref p.2)))) :
    wpAny (model X.prog X.w) X.A (call (.builtin "sorted") [.ref l] [(Str.ofString "key", .ref fa)]) (EP X pins σ Q) E s := by
  obtain ⟨its, rv, pl, hz⟩ := I.list hS
  have ei := vals_refs rv
  subst ei
  have hl64 : (qs.map Value.ref).length < 64 := by rw [List.length_map]; exact h64
  have h64' : (qs.map Value.ref).length <= sizeLine := Nat.le_trans (Nat.le_of_lt hl64) (by decide)
  refine call_function_entry_kw kind_sorted plain_sorted entry_sorted (ksk_s1 _ _) ?_
  unfold Builtin.«sorted»
  refine wpAny_bind (m := checkCount "sorted" 1 1 _) (wpAny_pure ?_)
  refine wpAny_bind (collect_list pl.isList ?_ h64')
  refine wpAny_bind (wpAny_newList ?_ h64')
  have up : ∀ b o, s.heap.get? b = some o -> ((s.heap.push (seqObj "list" #[] 0)).update s.heap.objs.size (Obj.mapSeq (· ++ (qs.map Value.ref).toArray))).get? b = some o := fun b o q =>
    ((Heap.SameBut.update (s.heap.push (seqObj "list" #[] 0)) s.heap.objs.size _).2 b (Nat.ne_of_lt (Heap.lt_size q))).trans (Heap.get?_push_of_some _ q)
  have hsz : ((s.heap.push (seqObj "list" #[] 0)).update s.heap.objs.size (Obj.mapSeq (· ++ (qs.map Value.ref).toArray))).objs.size = s.heap.objs.size + 1 := by rw [Heap.size_update, size_push']
  generalize (s.heap.push (seqObj "list" #[] 0)).update s.heap.objs.size (Obj.mapSeq (· ++ (qs.map Value.ref).toArray)) = h1 at up hsz
  have I1 : Inv X pins σ H { s with heap := h1.push (seqObj "list" (qs.map Value.ref).toArray 0) } := I.kept (t' := s.toks) fun b o q => Heap.get?_push_of_some _ (up b o q)
  have fr : H h1.objs.size = none := I.hok.fresh (by rw [hsz]; exact Nat.le_succ _)
  have fp : FpOk X pins H h1.objs.size := I.fpOk (by rw [hsz]; exact Nat.le_succ _) fr
  have yo : X.s₀.heap.objs.size <= h1.objs.size := Nat.le_trans I.sz (by rw [hsz]; exact Nat.le_succ _)
  have ea : (h1.push (seqObj "list" (qs.map Value.ref).toArray 0)).get? h1.objs.size = some (seqObj "list" (qs.map Value.ref).toArray 0) := Heap.get?_push_size _ rfl
  refine wpAny_bind (wpAny_holding (wpAny_call_entry_kw PyProof.Rows.slot_list_sort ⟨_, ea, rfl⟩ PyProof.Rows.entry_list_sort ?body (ksk_l1 _ _)))
  case body =>
    show wpAny (model X.prog X.w) X.A.in1.in1 (Builtin.«list.sort» ⟨[.ref h1.objs.size], [(Str.ofString "key", .ref fa)]⟩) _ _ _
    rw [ksk_t1]
    refine srt_tree (kz := kz) (s := { s with heap := h1.push (seqObj "list" (qs.map Value.ref).toArray 0) }) I1 fp ea (by rw [List.length_map]; exact hlen) hl64 (fun i v k hv hk => ?_) fun s2 out c I2 e2 ko => ⟨_, rfl, ?_⟩
    · rw [List.getElem?_map] at hv
      cases eq : qs[i]? with
      | none => rw [eq] at hv; cases hv
      | some q =>
        rw [eq] at hv
        cases hv
        exact turn i q k eq hk
    · obtain ⟨ps, hp, ho, hs⟩ := kout_refs ko
      have hpl : ps.length = qs.length := by
        rw [hp.length_eq, List.length_zip, hlen, Nat.min_self]
      refine wpAny_pure ⟨_, rfl, .ref h1.objs.size, _, I2.track (o := .lst (ps.map fun p => V.ref p.2)) fp yo ⟨?_, out.toList, c, ?_, ?_⟩, rfl, done _ ps fr hp hs⟩
      · rw [List.length_map, hpl]
        exact Nat.le_trans (Nat.le_of_lt h64) (by decide)
      · rw [ho]
        have z := refs_vals (ps.map Prod.snd)
        rw [List.map_map, List.map_map] at z
        exact z
      · rw [Array.toArray_toList]
        exact e2
end
end L2
namespace L2
open PySem PySem.Spec PyProof.Rows
def cxLam (X : Cx) (A : Around) (p : Str) (M : List Str) (scope : Scope) (qual : Str) (f c' : Addr) (s : Shared) (H : Hp) : Cx where
  prog := X.prog
  w := X.w
  K := X.K
  mg := X.mg
  base := X.base
  A := A.deeper (PySem.W.envX qual scope s.heap.objs.size f (.ref c') (closL X.env scope.names []))
  N := p :: M
  s₀ := s
  H₀ := H
  env := PySem.W.envX qual scope s.heap.objs.size f (.ref c') (closL X.env scope.names [])
  outer := X.stack
  stack := PySem.W.envX qual scope s.heap.objs.size f (.ref c') (closL X.env scope.names []) :: X.stack
  ex := []
  fn := fun _ => false
  calm := true
  pn := []
  xe := fun _ _ => False
abbrev CodeO (c' : Addr) (qual : Str) : HO := .ext fun h => h.CodeRec (.ref c') qual
section
variable {X : Cx} {pins : List (Addr × Obj)} {σ : St} {H : Hp} {A : Around} {p qual : Str} {M : List Str} {scope : Scope} {params : Arguments} {body : Expr} {pm ctv : Value} {c' f : Addr} {te : TE}
theorem lam_key (hA : A.frames = some X.stack) (hd : A.handled = none) (hdep : A.depth < recursionLimit) (S : CompOk X.env.scope scope) (nl : NL X.N M scope) (hp : scope.names.lookup p = some .local)
    (hco : scope.isCoroutine = false) (hgen : scope.isGenerator = false) (hbind : ∀ (cl : List (Str × Addr)) (pm cdv ctv u : Value), bindArgs (PySem.W.kla_fn "<lambda>" qual params body scope cl pm cdv ctv) ⟨[u], []⟩ = pure [(p, u)])
    (hb : ∀ f c' s H, PE (cxLam X A p M scope qual f c' s H) body te) {x : V} {u : Value} {k : Int} (rx : RelV x u) (hf : (f, PySem.W.kla_obj "<lambda>" qual params body scope (closL X.env scope.names []) pm c' ctv) ∈ pins)
    (hcr : H c' = some (CodeO c' qual)) (h : te (some x :: σ) H fun r H' => r = .int k /\ H' = H) : KeyT X pins σ H A (.ref f) u k := by
  intro more s I
  have hcd : s.heap.CodeRec (.ref c') qual := (I.hok c' _ hcr).1
  have ho := (I.pin _ (List.mem_append_right _ (List.mem_append_left _ hf))).1
  have sub : ∀ x a, (closL X.env scope.names []).lookup x = some a -> X.env.cells.lookup x = some a := fun x a e => by
    rcases closL_mem _ _ _ (PySem.mem_of_lookup e) with z | z
    · exact absurd z (by simp)
    · exact z
  have kin : ∀ x, scope.names.lookup x = some .free -> X.env.kindOf x = some .cell ∨ X.env.kindOf x = some .free := fun x e => S.free (x, .free) (PySem.mem_of_lookup e) rfl
  have has : ∀ x a, scope.names.lookup x = some .free -> X.env.cells.lookup x = some a -> (closL X.env scope.names []).lookup x = some a := fun x a e ec => by
    obtain ⟨d, hd⟩ := lookup_of_mem (closL_has ec scope.names [] (PySem.mem_of_lookup e))
    have := sub x d hd
    rw [ec] at this
    cases this
    exact hd
  have nocell : ∀ x, scope.names.lookup x ≠ some .cell := fun x e => S.nocell _ (PySem.mem_of_lookup e) rfl
  refine wpAny_call (PySem.W.kla_callFunE hdep ho rfl hco hgen rfl hcd ?_)
  rw [hbind]
  refine wpAny_pure (wpAny_newFunctionEnv S.nocell (fun y hy => ?_) (fun h₁ hns hsb => ⟨?_, ?_⟩) S.kind)
  · rw [List.mem_singleton.mp hy]; exact hp
  · exact I.nolimit.keeps fun b o e => hsb.extBut b o (Nat.ne_of_lt (Heap.lt_size e)) (Heap.get?_push_of_some _ e)
  have old : ∀ b o, s.heap.get? b = some o -> h₁.get? b = some o := fun b o e => hsb.extBut b o (Nat.ne_of_lt (Heap.lt_size e)) (Heap.get?_push_of_some _ e)
  have okY : (cxLam X A p M scope qual f c' s H).Ok := by
    refine ⟨I.ok.mod, S.kind, rfl, rfl, Nat.le_refl _, fun x y a h1 h2 => I.ok.inj x y a (sub x a h1) (sub y a h2), fun x hx => ?_, (fun x a h => nomatch h), fun _ => hd, Around.frames_deeper hA, .inr ⟨rfl, rfl⟩, (fun b hb' => nomatch hb'),
      I.bs, Nat.le_trans I.ok.bsz I.sz, (fun b o e hb' => nomatch hb'), (fun b hb' => nomatch hb'), I.stack, I.stkFree⟩
    have hf : scope.names.lookup x = some .free := by
      rcases hx with hx | hx
      · exact absurd hx (nocell x)
      · exact hx
    obtain ⟨a, ea⟩ := I.ok.has x (kin x hf)
    exact ⟨a, has x a hf ea⟩
  have IY : Inv (cxLam X A p M scope qual f c' s H) [] (some x :: σ) H { s with heap := h₁, toks := s.toks + [(p, u)].length } := by
    refine ⟨okY, rfl, I.bare, Un.kept old, ⟨_, hns, fun i y v e1 e2 e3 => ?_⟩, fun y a e => ?_, I.hok.fresh (Nat.le_refl _), fun y a e => I.freeC y a (sub y a e), (fun q hq => nomatch hq), I.hok.kept old, ?_⟩
    · cases i with
      | zero =>
        have e1' : some p = some y := e1
        have e2' : some (some x) = some (some v) := e2
        cases e1'
        cases e2'
        refine ⟨u, rx, .inl ⟨hp, ?_⟩⟩
        show List.lookup p [(p, u)] = some u
        simp
      | succ i =>
        have e0 : M[i]? = some y := e1
        have e2' : σ[i]? = some (some v) := e2
        have hf : scope.names.lookup y = some .free := by
          rcases e3 with e3 | e3 | e3
          · exact absurd e3 (nl.loc _ y e0)
          · exact absurd e3 (nocell y)
          · exact e3
        have hk := kin y hf
        obtain ⟨m, hn, hl⟩ := I.loc
        obtain ⟨z, rz, lk⟩ := hl i y v (nl.free _ y e0 hf) e2' (hk.elim (fun z => .inr (.inl z)) fun z => .inr (.inr z))
        refine ⟨z, rz, .inr ⟨.inr hf, ?_⟩⟩
        rcases lk with ⟨q, _⟩ | ⟨_, a, ea, o, eo, hdd⟩
        · rcases hk with hk | hk <;> (rw [hk] at q; cases q)
        · exact ⟨a, has y a hf ea, o, old a o eo, hdd⟩
    · obtain ⟨v, o, eo, hdd⟩ := I.cell y a (sub y a e)
      exact ⟨v, o, old a o eo, hdd⟩
    · show σ.length + 1 = M.length + 1
      rw [I.len, nl.len]
  refine PySem.W.kla_codeExpr (wpAny_mono (hb f c' s H [] _ (some x :: σ) H _ IY h) (fun r s2 h2 => ?_) fun _ _ z => z.elim)
  obtain ⟨v, H2, J, rv, hv, hH⟩ := h2
  subst hv hH
  exact ⟨rv, I.call' (ch := []) J.os J.base J.hok J.bare (fun b hb' => nomatch hb')⟩
end
end L2
namespace L2
open PySem PySem.Spec PyProof.Rows
def tbN (pos : Pos) (c' : Addr) : Array Value := #[rawInt pos.line, rawInt pos.col, .ref c']
def Hit (P : Addr) (pos : Pos) (qual : Str) (c' : Addr) (H : Hp) : Prop := H P = some (.tbl (tbN pos c')) /\ H c' = some (CodeO c' qual)
def TbOk (P : Addr) (pos : Pos) (qual : Str) (H : Hp) : Prop := H P = some (.tbl #[]) ∨ ∃ c', Hit P pos qual c' H
def SameT (P : Addr) (H H' : Hp) : Prop := ∀ b o, b ≠ P -> H b = some o -> H' b = some o
theorem SameT.refl {P : Addr} (H : Hp) : SameT P H H := fun _ _ _ e => e
theorem SameT.trans {P : Addr} {H H1 H2 : Hp} (a : SameT P H H1) (b : SameT P H1 H2) : SameT P H H2 := fun c o n e => b c o n (a c o n e)
theorem Same.toT {P : Addr} {H H' : Hp} (a : Same H H') : SameT P H H' := fun b o _ e => a b o e
theorem SameT.free {P : Addr} {H H' : Hp} (a : SameT P H H') {l : Addr} (h : H' l = none) (hP : ∃ ps, H' P = some (.tbl ps)) : H l = none := by
  cases q : H l with
  | none => rfl
  | some o =>
    by_cases e : l = P
    · obtain ⟨ps, z⟩ := hP
      rw [e, z] at h; cases h
    · rw [a l o e q] at h; cases h
theorem SameT.upd_new {P : Addr} {H H' : Hp} {p : Addr} (s : SameT P H H') (h : H p = none) (o : HO) : SameT P H (upd H' p o) := fun b u n q => by rw [upd_ne (ne_of_none q h)]; exact s b u n q
theorem TbOk.at_ {P : Addr} {pos : Pos} {qual : Str} {H : Hp} (t : TbOk P pos qual H) : ∃ ps, H P = some (.tbl ps) := by
  rcases t with t | ⟨c, t, _⟩
  · exact ⟨_, t⟩
  · exact ⟨_, t⟩
theorem SameT.get {P : Addr} {pos : Pos} {qual : Str} {H H' : Hp} (a : SameT P H H') (t : TbOk P pos qual H) {b : Addr} {o : HO} (e : H b = some o) (n : ∀ ps, o ≠ .tbl ps) : H' b = some o := by
  obtain ⟨ps, z⟩ := t.at_
  exact a b o (ne_of e z (n ps)) e
theorem TbOk.same {P : Addr} {pos : Pos} {qual : Str} {H H' : Hp} (t : TbOk P pos qual H) (s : Same H H') : TbOk P pos qual H' := by
  rcases t with t | ⟨c, t, u⟩
  · exact .inl (s _ _ t)
  · exact .inr ⟨c, s _ _ t, s _ _ u⟩
theorem SameT.lst {K : PySem.W.Frag} {P : Addr} {pos : Pos} {qual : Str} {H H' : Hp} (a : SameT P H H') (t : TbOk P pos qual H) {b : Addr} {xs : List V} (h : SqL K H b xs) : SqL K H' b xs := by
  rcases h with (h | ⟨o, h⟩) | h
  · exact .inl (.inl (a.get t h fun _ z => nomatch z))
  · exact .inl (.inr ⟨o, a.get t h fun _ z => nomatch z⟩)
  · exact .inr h
theorem bat_keeps {h h' : Heap} {mg : Str -> Option Value} {P : Addr} (b : h.BuiltinsAt mg P) (k : ∀ a o, h.get? a = some o -> h'.get? a = some o) : h'.BuiltinsAt mg P := by
  obtain ⟨bm, o, b1, b2, b3, b4, b5, b6⟩ := b
  exact ⟨bm, o, b1, b2, b3, b4, k _ _ b5, b6⟩
theorem codeO_stable {c' : Addr} {qual : Str} : ∀ h1 h2 : Heap, h1.CodeRec (.ref c') qual -> (∀ o, h1.get? c' = some o -> h2.get? c' = some o) -> h2.CodeRec (.ref c') qual := fun h1 h2 ⟨c, oc, vs, t, e, g, r⟩ k => by
  cases e
  exact ⟨_, oc, vs, t, rfl, k _ g, r⟩
section
variable {X : Cx} {pins : List (Addr × Obj)} {σ : St} {H : Hp} {s : Shared} {E : Value -> Shared -> Prop} {c P : Addr} {pos : Pos} {params : Arguments} {body : Expr} {scope : Scope} {Q : Value -> Shared -> Prop}
theorem lam_made (I : Inv X pins σ H s) (hcode : X.env.code = .ref c) (C : PySem.W.CodeHd X.base c P) (B : X.base.BuiltinsAt X.mg P) (T : TbOk P pos (X.env.qual ++ "<lambda>") H) (S : CompOk X.env.scope scope) (hdef : defaultsOf params X.env = ([], []))
    (q : ∀ f c' pm ctv H' s', SameT P H H' -> Hit P pos (X.env.qual ++ "<lambda>") c' H' -> Inv X (pins ++ [(f, PySem.W.kla_obj "<lambda>" (X.env.qual ++ "<lambda>") params body scope (closL X.env scope.names []) pm c' ctv)]) σ H' s' -> Q (.ref f) s') :
    wpAny (model X.prog X.w) X.A (eval (.Lambda params body scope pos) X.env) Q E s := by
  have hcl := closOk S I.ok
  have hg := I.ok.mod.glob.keeps I.bk
  have hB := bat_keeps B I.bk
  obtain ⟨ps0, hP0⟩ := T.at_
  have hgP : mainGlobals ≠ P := fun z => by
    obtain ⟨o, es, ep, e, _⟩ := I.ok.mod.glob
    have := (I.bs _ o e).2
    rw [z, hP0] at this
    cases this
  refine PySem.W.kla_eval hdef ?_
  rcases T with T | ⟨c', T, U⟩
  · have hP : s.heap.get? P = some (PySem.W.tabObj #[]) := I.hok P _ T
    refine PySem.W.kla_makeFunction (mg := X.mg) hcl I.ok.glob hg hcode (C.keeps I.bk) hP trivial rfl hgP hB fun c' ctv h' tk hx hge hlt hrec htb => ?_
    have cn : H c' = none := I.hok.fresh hge
    have cP : c' ≠ P := Ne.symm (ne_of_none T cn)
    have new1 : ∀ b o, b ≠ P -> s.heap.get? b = some o -> (h'.push (PySem.W.kla_obj "<lambda>" (X.env.qual ++ "<lambda>") params body scope (closL X.env scope.names []) ((X.mg "__name__").getD .none) c' ctv)).get? b = some o := fun b o hb e => Heap.get?_push_of_some _ (hx b o hb e)
    have nP : ∀ b, H b = none -> b ≠ P := fun b n z => by rw [z, T] at n; cases n
    have ups : ∀ b u, H b = some u -> (∀ ps, u ≠ .tbl ps) -> upd (upd H P (.tbl (tbN pos c'))) c' (CodeO c' (X.env.qual ++ "<lambda>")) b = some u := fun b u e nt => by
      rw [upd_ne (ne_of_none e cn), upd_ne (ne_of e T (nt _))]; exact e
    have hfresh : H h'.objs.size = none := I.hok.fresh (Nat.le_trans hge (Nat.le_of_lt hlt))
    have I1 : Inv X pins σ (upd (upd H P (.tbl (tbN pos c'))) c' (CodeO c' (X.env.qual ++ "<lambda>"))) { s with heap := h'.push (PySem.W.kla_obj "<lambda>" (X.env.qual ++ "<lambda>") params body scope (closL X.env scope.names []) ((X.mg "__name__").getD .none) c' ctv), toks := tk } := by
      refine I.un (t' := tk) ⟨fun b o e n _ _ => new1 b o (nP b n) e, fun b o e n _ _ => ⟨o.slots, new1 b o (nP b n) e⟩, fun b o e n _ => ?_, fun b o e _ => ?_, fun b xs e => ups b _ e (fun _ z => nomatch z), fun b o u e => ups b _ e (fun _ z => nomatch z), fun b ps e => ?_⟩ fun b u e => ?_
      · rw [upd_ne (Nat.ne_of_lt (Nat.lt_of_lt_of_le (Heap.lt_size e) hge)), upd_ne (nP b n)]; exact n
      · by_cases z : b = P
        · rw [z]; exact ⟨_, Heap.get?_push_of_some _ htb⟩
        · exact ⟨o, new1 b o z e⟩
      · by_cases z : b = P
        · rw [z, T] at e
          cases e
          refine ⟨tbN pos c', ?_⟩
          rw [z, upd_ne (Ne.symm cP), upd_same]
          simp
        · exact ⟨#[], by rw [upd_ne (ne_of_none e cn), upd_ne z, e]; simp⟩
      · by_cases z : b = c'
        · subst z
          rw [upd_same] at e
          cases e
          obtain ⟨c2, oc, vs, t, e2, g2, r2⟩ := hrec
          cases e2
          exact ⟨⟨_, oc, vs, t, rfl, Heap.get?_push_of_some _ g2, r2⟩, ⟨oc, Heap.get?_push_of_some _ g2⟩, codeO_stable⟩
        · rw [upd_ne z] at e
          by_cases z2 : b = P
          · subst z2
            rw [upd_same] at e
            cases e
            have q2 := Heap.get?_push_of_some (PySem.W.kla_obj "<lambda>" (X.env.qual ++ "<lambda>") params body scope (closL X.env scope.names []) ((X.mg "__name__").getD .none) c' ctv) htb
            rw [Array.empty_append] at q2
            exact q2
          · rw [upd_ne z2] at e
            refine (I.hok b u e).stay (fun d v hd r => new1 d v ?_ r) (fun d r => ups d _ r fun _ z => nomatch z) fun d xs r => ups d _ r fun _ z => nomatch z
            rcases hd with z3 | z3
            · rw [z3]; exact z2
            · exact ne_of z3 T fun z => nomatch z
    refine q _ c' ((X.mg "__name__").getD .none) ctv _ _ (fun b o n e => ?_) ⟨?_, upd_same⟩ (I1.pins_of fun p hp => ?_)
    · rw [upd_ne (ne_of_none e cn), upd_ne n]; exact e
    · rw [upd_ne (Ne.symm cP), upd_same]
    · rcases List.mem_append.mp hp with z | z
      · exact I1.pin p (List.mem_append_right _ z)
      · rw [List.mem_singleton.mp z]
        have fp := I.fpOk (H' := upd (upd H P (.tbl (tbN pos c'))) c' (CodeO c' (X.env.qual ++ "<lambda>"))) (b := h'.objs.size) (Nat.le_trans hge (Nat.le_of_lt hlt)) (by rw [upd_ne (Nat.ne_of_gt hlt), upd_ne (nP _ hfresh)]; exact hfresh)
        exact ⟨Heap.get?_push_size _ rfl, fp.1, fp.2.1, fp.2.2.1, fun v z => nomatch z⟩
  · have hP : s.heap.get? P = some (PySem.W.tabObj (tbN pos c')) := I.hok P _ T
    have am : codeAmong pos (tbN pos c').toList = some (.ref c') := by
      show codeAmong pos [rawInt pos.line, rawInt pos.col, .ref c'] = some (.ref c')
      simp [codeAmong, rawInt]
    refine PySem.W.kla_makeFunctionHit (mg := X.mg) hcl I.ok.glob hg hcode (C.keeps I.bk) hP trivial am hB fun ctv h' tk hk hsz => ?_
    have I1 : Inv X pins σ H { s with heap := h'.push (PySem.W.kla_obj "<lambda>" (X.env.qual ++ "<lambda>") params body scope (closL X.env scope.names []) ((X.mg "__name__").getD .none) c' ctv), toks := tk } := I.kept (t' := tk) fun b o e => Heap.get?_push_of_some _ (hk b o e)
    refine q _ c' ((X.mg "__name__").getD .none) ctv H _ (SameT.refl H) ⟨T, U⟩ (I1.pins_of fun p hp => ?_)
    rcases List.mem_append.mp hp with z | z
    · exact I1.pin p (List.mem_append_right _ z)
    · rw [List.mem_singleton.mp z]
      have fp := I.fpOk (H' := H) (b := h'.objs.size) hsz (I.hok.fresh hsz)
      exact ⟨Heap.get?_push_size _ rfl, fp.1, fp.2.1, fp.2.2.1, fun v z => nomatch z⟩
end
end L2
namespace L2
open PySem PySem.Spec PyProof.Rows
def tSortK (K : PySem.W.Frag) (P : Addr) (pos : Pos) (qual : Str) (tl tb : TE) : TE := fun σ H Q => tl σ H fun x H1 => ∃ (l : Addr) (qs : List Addr) (kz : List Int), x = .ref l /\ SqL K H1 l (qs.map V.ref) /\ kz.length = qs.length /\ qs.length < 64 /\ TbOk P pos qual H1 ∧
  ∀ H2 c', SameT P H1 H2 -> Hit P pos qual c' H2 -> (∀ (i : Nat) q k, qs[i]? = some q -> kz[i]? = some k -> tb (some (.ref q) :: σ) H2 fun r H' => r = .int k /\ H' = H2) ∧
    ∀ D (ps : List (Int × Addr)), H2 D = none -> ps.Perm (kz.zip qs) -> ps.Pairwise (fun p q => p.1 <= q.1) -> Q (.ref D) (upd H2 D (.lst (ps.map fun p => V.ref p.2)))
theorem pe_sortK {X : Cx} {c P : Addr} {k : Nat} {p : Str} {M : List Str} {scope : Scope} {params : Arguments} {body e : Expr} {p0 pos lpos kpos : Pos} {tl tb : TE} (hr : Room k X.A) (hc : X.calm = true) (hg : Gl X "sorted") (hm : X.mg "sorted" = none)
    (hcode : X.env.code = .ref c) (C : PySem.W.CodeHd X.base c P) (B : X.base.BuiltinsAt X.mg P) (S : CompOk X.env.scope scope) (nl : NL X.N M scope) (hp : scope.names.lookup p = some .local) (hco : scope.isCoroutine = false) (hgen : scope.isGenerator = false)
    (he : PE X e tl) (hb : ∀ A f c' s H, PE (cxLam X A p M scope (X.env.qual ++ "<lambda>") f c' s H) body tb)
    (hdef : defaultsOf params X.env = ([], []) := by rfl)
    (hbind : ∀ (cl : List (Str × Addr)) (pm cdv ctv u : Value), bindArgs (PySem.W.kla_fn "<lambda>" (X.env.qual ++ "<lambda>") params body scope cl pm cdv ctv) ⟨[u], []⟩ = pure [(p, u)] := by intro _ _ _ _ _; rfl)
    (hs : starEach [e] X.env = [(false, eval e X.env)] := by rfl) :
    PE X (.Call (.Name "sorted" p0) [e] [⟨some "key", .Lambda params body scope lpos, kpos⟩] pos) (tSortK X.K P lpos (X.env.qual ++ "<lambda>") tl tb) := by
  intro pins s σ H Q I h
  refine wpAny_Call_Name_kw (ld_blt I hg hm bt_sorted ?_ (by decide) (by decide))
  refine callWith_kw (thn (pa_cons he pa_nil hs pos pins s σ H (fun vs H1 => ∃ x, vs = [x] /\ ∃ (l : Addr) (qs : List Addr) (kz : List Int), x = .ref l /\ SqL X.K H1 l (qs.map V.ref) /\ kz.length = qs.length /\ qs.length < 64 /\ TbOk P lpos (X.env.qual ++ "<lambda>") H1 ∧
    ∀ H2 c', SameT P H1 H2 -> Hit P lpos (X.env.qual ++ "<lambda>") c' H2 -> (∀ (i : Nat) q k, qs[i]? = some q -> kz[i]? = some k -> tb (some (.ref q) :: σ) H2 fun r H' => r = .int k /\ H' = H2) ∧
      ∀ D (ps : List (Int × Addr)), H2 D = none -> ps.Perm (kz.zip qs) -> ps.Pairwise (fun p q => p.1 <= q.1) -> Q (.ref D) (upd H2 D (.lst (ps.map fun p => V.ref p.2)))) I ?_) fun us s1 ⟨vs, H1, I1, r1, x, ev, l, qs, kz, ex, hS, hlen, h64, hT, q1⟩ => ?_) ?_ ?_ rfl rfl
  · show tl σ H fun x H1 => _
    have mono := h
    exact (show tl σ H fun x H1 => ∃ x', [x] = [x'] /\ _ from by
      have e1 : (fun (x : V) (H1 : Hp) => ∃ x', [x] = [x'] /\ ∃ (l : Addr) (qs : List Addr) (kz : List Int), x' = .ref l /\ SqL X.K H1 l (qs.map V.ref) /\ kz.length = qs.length /\ qs.length < 64 /\ TbOk P lpos (X.env.qual ++ "<lambda>") H1 ∧
    ∀ H2 c', SameT P H1 H2 -> Hit P lpos (X.env.qual ++ "<lambda>") c' H2 -> (∀ (i : Nat) q k, qs[i]? = some q -> kz[i]? = some k -> tb (some (.ref q) :: σ) H2 fun r H' => r = .int k /\ H' = H2) ∧
      ∀ D (ps : List (Int × Addr)), H2 D = none -> ps.Perm (kz.zip qs) -> ps.Pairwise (fun p q => p.1 <= q.1) -> Q (.ref D) (upd H2 D (.lst (ps.map fun p => V.ref p.2)))) = fun x H1 => ∃ (l : Addr) (qs : List Addr) (kz : List Int), x = .ref l /\ SqL X.K H1 l (qs.map V.ref) /\ kz.length = qs.length /\ qs.length < 64 /\ TbOk P lpos (X.env.qual ++ "<lambda>") H1 ∧
    ∀ H2 c', SameT P H1 H2 -> Hit P lpos (X.env.qual ++ "<lambda>") c' H2 -> (∀ (i : Nat) q k, qs[i]? = some q -> kz[i]? = some k -> tb (some (.ref q) :: σ) H2 fun r H' => r = .int k /\ H' = H2) ∧
      ∀ D (ps : List (Int × Addr)), H2 D = none -> ps.Perm (kz.zip qs) -> ps.Pairwise (fun p q => p.1 <= q.1) -> Q (.ref D) (upd H2 D (.lst (ps.map fun p => V.ref p.2))) := by
        funext x H1
        refine propext ⟨?_, ?_⟩
        · rintro ⟨x', z, r⟩
          injection z with z
          subst z
          exact r
        · intro r
          exact ⟨x, rfl, r⟩
      rw [e1]
      exact mono)
  · subst ev ex
    obtain ⟨u, rfl, ru⟩ := vals1 r1
    cases (show u = Value.ref l from ru)
    show wpAny _ _ (evalAll [do let v <- eval (.Lambda params body scope lpos) X.env; standAt pos; pure v]) _ _ s1
    refine wpAny_evalAll_cons (wpAny_bind (lam_made I1 hcode C B hT S hdef fun f c' pm ctv H2 s2 st hit I2 => wpAny_bind (wpAny_standAt (wpAny_pure (wpAny_evalAll_nil ?_)))))
    obtain ⟨q2, q3⟩ := q1 H2 c' st hit
    have fin := srt_call (E := X.xe) (Q := Q) (fa := f) (kz := kz) I2 (SameT.lst st hT hS) hlen h64 (fun i q k eq ek => lam_key (A := X.A.in1.in1) I2.ok.frames (I2.ok.hd hc) hr.depth S nl hp hco hgen hbind (hb X.A.in1.in1) (x := .ref q) rfl (List.mem_append_right _ (.head _)) hit.2 (q2 i q k eq ek)) fun D ps hD hp hs => q3 D ps hD hp hs
    exact thn fin fun r s3 ⟨v, H3, I3, rv, qv⟩ => ⟨v, H3, I3.unpinned, rv, qv⟩
  · show backTo pos (starEach [e] X.env) = (false, eval e X.env) :: _
    rw [hs]
    rfl
  · rw [hs]
    rfl
theorem Fun.okc {P : Program} {w : World} {K : PySem.W.Frag} {mg : Str -> Option Value} {base : Heap} {x qual : Str} {st : Stmt} {f c : Addr} {fd : FuncData} {N ps : List Str} {k : Nat} {sp : Sp} (F : Fun K x qual st f fd) (hc : fd.code = .ref c) (S : FnScope N ps (defScope st)) (len : ∀ vs H Q E, sp vs H Q E -> vs.length = ps.length)
    (hbody : ∀ (A : Around) (outer : List Env) (s : Shared) (H : Hp) (vs : List V) (Q : VK) (E : XK), Room k (A.deeper (envOfC qual (defScope st) s.heap.objs.size f (.ref c))) -> sp vs H Q E ->
      ∃ t, PSs (cxOf CX0 P w K mg base N qual (defScope st) f (.ref c) A outer s H E).nox (defBody st) t /\ t { nx := fun _ H' => Q .non H', rt := Q } (start N vs) H) : FnOk P w K mg base CX0 (k + 1) f fd ps sp := by
  obtain ⟨oc, od, kV, doc, pm, an, cdv, ct, osl, rfl, lk, hcd⟩ := F.ex
  cases (show cdv = Value.ref c from hc)
  refine fn_of lk hcd S len fun A outer s H vs Q E hr hsp => ?_
  obtain ⟨t, h, q⟩ := hbody A outer s H vs Q E hr hsp
  exact ⟨t, h.nox, q⟩
end L2
namespace L2
open PySem PySem.W
noncomputable def stT (T : BT) (n k : Nat) (os : OsState) : SharedT := ⟨T, n, {}, Array.mk [], boot_drawn, k, os⟩
theorem run_app {tb : String -> Option Builtin} {p : Program} {w : World} {m0 : Nat} {ann : Option Value} {env : Env} {q : Pos} {n N : Nat} {s s' : SharedT} {r : Shared} {l rest : List Stmt} {c : Code} {pos p' : Pos}
    (h : segRunT tb p w m0 ann 1 n s (piecesOf l env c pos [topFrame q]) = some (.next, s', c, p')) (k : topRun tb p w m0 ann N s'.abs (restOf rest env c p' [topFrame q]) = some r) : topRun tb p w m0 ann (n + N) s.abs (restOf (l ++ rest) env c pos [topFrame q]) = some r :=
  piece_app (segRun_of h) k
theorem left_run {p q : Program} {loose : List Str} {Xt : Shared -> Bool} {α : Type} {Yf : Shared -> α} {Ya : World -> α} {N : Nat} {Tb Tf : Params -> BT} {nb nf ka kf : Nat} {env : Env} {C : Code} {gs : List Stmt} {posA posB qp : Pos} {m0 : Nat} {ann : Option Value} {a b c : Nat}
    (e1 : opening p = plainProg p.main.scope.names) (h6 : Nat.ble 600 N = true) (e2 : ∀ s, fenceModules? p s = some s)
    (size : ∀ w : World, ((boot_heap w.params).isNs mainGlobals && (Array.mk [] : Array GenState).size == 0, (boot_heap w.params).objs.size, (boot_heap w.params).nsMap mainGlobals "__annotations__") = (true, m0, ann))
    (pre : ∀ (w : World) (os : OsState), topGo treeTable p w m0 ann a ⟨boot_heap w.params, Array.mk [], boot_drawn, boot_toks, os⟩ (topStub p) = some ((stT (Tb w.params) nb ka os).abs, ⟨denote treeTable (.body gs env), C, posA, [topFrame qp]⟩))
    (blk : ∀ (w : World) (os : OsState), segRun treeTable p w m0 ann 1 b (stT (Tb w.params) nb ka os).abs (blockOf gs env C posA [topFrame qp]) = some (.next, (stT (Tb w.params) nb ka os).abs, C, posB))
    (run : ∀ (w : World) (os : OsState), topRun treeTable p w m0 ann c (stT (Tb w.params) nb ka os).abs (restOf gs env C posB [topFrame qp]) = some (stT (Tf w.params) nf kf os).abs)
    (le : Nat.ble (a + (b + c)) N = true)
    (looks : ∀ w : World, (fun os => ((staticsOk (importedModules p.main.body) (boot_heap w.params) (absHeap (Tf w.params) nf {}) && namesBound p (absHeap (Tf w.params) nf {}) && gensDone ⟨absHeap (Tf w.params) nf {}, Array.mk [], boot_drawn, kf, os⟩ && laidKept (boot_heap w.params) (absHeap (Tf w.params) nf {})),
        openSeen q loose (importedModules p.main.body) Xt true ⟨absHeap (Tf w.params) nf {}, Array.mk [], boot_drawn, kf, os⟩, Yf ⟨absHeap (Tf w.params) nf {}, Array.mk [], boot_drawn, kf, os⟩)) = fun _ => (true, openGood q loose, Ya w)) : LeftO p q loose Xt Yf Ya N :=
  LeftO.of_pieces (H₁ := fun P => absHeap (Tf P) nf {}) (boot_open e1 h6 e2) size (fun w os => go_top (pre w os) (piece_block (blk w os) (run w os))) le looks
end L2
namespace L2
open PySem PySem.Spec PyProof.Rows
inductive DE (K : PySem.W.Frag) (H : Hp) : Nat -> V -> V -> Bool -> Prop
  | int (n : Nat) (i j : Int) : DE K H n (.int i) (.int j) (i == j)
  | bl (n : Nat) (i j : Bool) : DE K H n (.bl i) (.bl j) (i == j)
  | str (n : Nat) (i j : Str) : DE K H n (.str i) (.str j) (i == j)
  | tup {n : Nat} {a b : Addr} {xs ys : List V} (e : Nat -> Bool) (ha : SqT K H a xs) (hb : SqT K H b ys) (h : ∀ (j : Nat) x y, xs[j]? = some x -> ys[j]? = some y -> DE K H n x y (e j)) :
      DE K H (n + 1) (.ref a) (.ref b) ((List.range (min xs.length ys.length)).all e && xs.length == ys.length)
  | lst {n : Nat} {a b : Addr} {xs ys : List V} (e : Nat -> Bool) (ha : SqL K H a xs) (hb : SqL K H b ys) (hl : xs.length = ys.length) (h : ∀ (j : Nat) x y, xs[j]? = some x -> ys[j]? = some y -> DE K H n x y (e j)) :
      DE K H (n + 1) (.ref a) (.ref b) ((List.range xs.length).all e)
  | lstN {n : Nat} {a b : Addr} {xs ys : List V} (ha : SqL K H a xs) (hb : SqL K H b ys) (hl : xs.length ≠ ys.length) : DE K H (n + 1) (.ref a) (.ref b) false
section
variable {X : Cx} {pins : List (Addr × Obj)} {σ : St} {H : Hp} {s : Shared}
theorem DE.self (I : Inv X pins σ H s) {n : Nat} {x y : V} {k : Bool} (d : DE X.K H n x y k) : x = y -> k = true := by
  induction d with
  | int n i j => intro e; cases e; simp
  | bl n i j => intro e; cases e; simp
  | str n i j => intro e; cases e; simp
  | @tup n a b xs ys e ha hb h ih =>
    intro z
    cases z
    have q := I.tuple_inj ha hb
    subst q
    rw [Bool.and_eq_true]
    refine ⟨List.all_eq_true.mpr fun j hj => ?_, by simp⟩
    rw [List.mem_range, Nat.min_self] at hj
    exact ih j _ _ (List.getElem?_eq_getElem hj) (List.getElem?_eq_getElem hj) rfl
  | @lst n a b xs ys e ha hb hl h ih =>
    intro z
    cases z
    have q := I.list_inj ha hb
    subst q
    refine List.all_eq_true.mpr fun j hj => ?_
    rw [List.mem_range] at hj
    exact ih j _ _ (List.getElem?_eq_getElem hj) (List.getElem?_eq_getElem hj) rfl
  | @lstN n a b xs ys ha hb hl =>
    intro z
    cases z
    exact absurd (congrArg List.length (I.list_inj ha hb)) hl
theorem vals_at {xs : List V} {its : List Value} (r : Vals xs its) {j : Nat} (hj : j < its.length) : ∃ x, xs[j]? = some x /\ RelV x its[j] := by
  have hl := r.length
  obtain ⟨u, hu, ru⟩ := r.get (List.getElem?_eq_getElem (l := xs) (i := j) (by omega))
  rw [List.getElem?_eq_getElem hj] at hu
  cases hu
  exact ⟨_, List.getElem?_eq_getElem (by omega), ru⟩
theorem in1_units (A : Around) : A.in1.units = A.units + 1 := rfl
theorem DE.eqAt (I : Inv X pins σ H s) {n : Nat} {x y : V} {k : Bool} (d : DE X.K H n x y k) : ∀ (A : Around) (u v : Value), A.units + n < cLine -> RelV x u -> RelV y v -> PySem.SeqAt.EqAt A s u v k := by
  induction d with
  | int n i j =>
    intro A u v _ ru rv
    obtain ⟨t, rfl⟩ := ru
    obtain ⟨t', rfl⟩ := rv
    exact PySem.SeqAt.EqAt.int_int _ _ _ _
  | bl n i j =>
    intro A u v _ ru rv
    cases (show u = Value.bool i from ru)
    cases (show v = Value.bool j from rv)
    exact PySem.SeqAt.EqAt.bool_bool _ _
  | str n i j =>
    intro A u v _ ru rv
    obtain ⟨t, rfl⟩ := ru
    obtain ⟨t', rfl⟩ := rv
    exact PySem.SeqAt.EqAt.str_str _ _ _ _
  | @tup n a b xs ys e ha hb h ih =>
    intro A u v hu ru rv
    cases (show u = Value.ref a from ru)
    cases (show v = Value.ref b from rv)
    by_cases hab : a = b
    · have q := (DE.tup e ha hb h).self I (by rw [hab])
      rw [q]
      subst hab
      exact PySem.SeqAt.EqAt.same _
    · obtain ⟨its, r1, p1, _⟩ := I.tuple ha
      obtain ⟨its2, r2, p2, _⟩ := I.tuple hb
      refine PySem.SeqAt.EqAt.of_refs hab ?_
      have q := PySem.SeqAt.RcAt.tuples (A := A) (e := e) (show s.heap.IsTuple a its.toArray from p1) (show s.heap.IsTuple b its2.toArray from p2) (by omega) (fun j h1 h2 => by
        obtain ⟨x, ex, rx⟩ := vals_at r1 (j := j) (by simpa using h1)
        obtain ⟨y, ey, ry⟩ := vals_at r2 (j := j) (by simpa using h2)
        rw [List.getElem_toArray, List.getElem_toArray]
        exact ih j x y ex ey A.in1 _ _ (by rw [in1_units]; omega) rx ry)
      rw [List.size_toArray, List.size_toArray, <- r1.length, <- r2.length] at q
      exact q
  | @lst n a b xs ys e ha hb hl h ih =>
    intro A u v hu ru rv
    cases (show u = Value.ref a from ru)
    cases (show v = Value.ref b from rv)
    by_cases hab : a = b
    · have q := (DE.lst e ha hb hl h).self I (by rw [hab])
      rw [q]
      subst hab
      exact PySem.SeqAt.EqAt.same _
    · obtain ⟨its, r1, p1, _⟩ := I.list ha
      obtain ⟨its2, r2, p2, _⟩ := I.list hb
      refine PySem.SeqAt.EqAt.of_refs hab ?_
      have q := PySem.SeqAt.RcAt.lists (A := A) (e := e) p1.isList p2.isList (by rw [List.size_toArray, List.size_toArray, <- r1.length, <- r2.length]; exact hl) (by omega) (fun j h1 h2 => by
        obtain ⟨x, ex, rx⟩ := vals_at r1 (j := j) (by simpa using h1)
        obtain ⟨y, ey, ry⟩ := vals_at r2 (j := j) (by simpa using h2)
        rw [List.getElem_toArray, List.getElem_toArray]
        exact ih j x y ex ey A.in1 _ _ (by rw [in1_units]; omega) rx ry)
      rw [List.size_toArray, <- r1.length] at q
      exact q
  | @lstN n a b xs ys ha hb hl =>
    intro A u v hu ru rv
    cases (show u = Value.ref a from ru)
    cases (show v = Value.ref b from rv)
    have hab : a ≠ b := fun z => by subst z; exact hl (congrArg List.length (I.list_inj ha hb))
    obtain ⟨its, r1, p1, _⟩ := I.list ha
    obtain ⟨its2, r2, p2, _⟩ := I.list hb
    refine PySem.SeqAt.EqAt.of_refs hab (PySem.SeqAt.RcAt.lists_lengths p1.isList p2.isList ?_ (by omega))
    rw [List.size_toArray, List.size_toArray, <- r1.length, <- r2.length]
    simpa using hl
def rEqD (K : PySem.W.Frag) (n : Nat) : R2 := fun x y H Q => ∃ a b k, x = .ref a /\ y = .ref b /\ DE K H (n + 1) x y k /\ Q (.bl k) H
theorem op_eqD {n : Nat} (hu : X.A.units + n + 1 < cLine) : OpR X (compareOp .Eq) (rEqD X.K n) := by
  intro pins s σ H x y v u Q I rx ry h
  obtain ⟨a, b, k, rfl, rfl, d, q⟩ := h
  cases (show v = Value.ref a from rx)
  cases (show u = Value.ref b from ry)
  cases d with
  | @tup n a b xs ys e ha hb h =>
    obtain ⟨its, r1, p1, _⟩ := I.tuple ha
    obtain ⟨its2, r2, p2, _⟩ := I.tuple hb
    refine PySem.SeqAt.eq_tupleAt (e := e) (show s.heap.IsTuple a its.toArray from p1) (show s.heap.IsTuple b its2.toArray from p2) (by omega) (fun j h1 h2 => by
        obtain ⟨x, ex, rx⟩ := vals_at r1 (j := j) (by simpa using h1)
        obtain ⟨y, ey, ry⟩ := vals_at r2 (j := j) (by simpa using h2)
        rw [List.getElem_toArray, List.getElem_toArray]
        exact (h j x y ex ey).eqAt I X.A.in1 _ _ (by rw [in1_units]; omega) rx ry) ?_
    rw [List.size_toArray, List.size_toArray, <- r1.length, <- r2.length]
    exact ⟨.bl _, H, I, rfl, q⟩
  | @lst n a b xs ys e ha hb hl h =>
    obtain ⟨its, r1, p1, _⟩ := I.list ha
    obtain ⟨its2, r2, p2, _⟩ := I.list hb
    refine PySem.SeqAt.eq_listAt (e := e) p1.isList p2.isList (by rw [List.size_toArray, List.size_toArray, <- r1.length, <- r2.length]; exact hl) (by omega) (fun j h1 h2 => by
        obtain ⟨x, ex, rx⟩ := vals_at r1 (j := j) (by simpa using h1)
        obtain ⟨y, ey, ry⟩ := vals_at r2 (j := j) (by simpa using h2)
        rw [List.getElem_toArray, List.getElem_toArray]
        exact (h j x y ex ey).eqAt I X.A.in1 _ _ (by rw [in1_units]; omega) rx ry) ?_
    rw [List.size_toArray, <- r1.length]
    exact ⟨.bl _, H, I, rfl, q⟩
  | @lstN n a b xs ys ha hb hl =>
    obtain ⟨its, r1, p1, _⟩ := I.list ha
    obtain ⟨its2, r2, p2, _⟩ := I.list hb
    exact PySem.SeqAt.eq_list_lengthsAt p1.isList p2.isList (by rw [List.size_toArray, List.size_toArray, <- r1.length, <- r2.length]; simpa using hl) (by omega) ⟨.bl _, H, I, rfl, q⟩
end
end L2
namespace L2
open PySem PySem.Spec PyProof.Rows
section
variable {X : Cx}
theorem call_sum (hc : X.calm = true) : CallR X (.builtin "sum") (fun xs H Q => ∃ (a : Addr) (ns : List Int), xs = [.ref a] /\ SqL X.K H a (ns.map V.int) /\ Q (.int ns.sum) H) := by
  intro pins s σ H xs us Q I r h
  obtain ⟨a, ns, rfl, hS, q⟩ := h
  obtain ⟨u, rfl, ru⟩ := vals1 r
  cases (show u = Value.ref a from ru)
  obtain ⟨its, rv, p, hz⟩ := I.list hS
  have hi := intsAre_of rv
  obtain ⟨zs, e⟩ := (IntsAre.allInts hi).items
  have hl := p.isList
  rw [e] at hl
  refine sum_intListG (I.ok.hd hc) hl fun h' tk t' hk => ⟨.int ns.sum, H, I.kept hk, ⟨t', ?_⟩, q⟩
  have n1 := nums_intItems (xs := zs)
  rw [<- e, show its.toArray.toList = its from rfl, IntsAre.numsOf hi] at n1
  rw [preSum_eq, List.take_of_length_le (by simp), <- n1]
section
variable {prog : Program} {w : World} {A : Around} {E : Value -> Shared -> Prop} {s : Shared} {d it : Addr} {od : Obj} {es : Array DictEntry} {ep i : Nat}
theorem ents_iter {Q : Value -> Shared -> Prop} (hd : (d == sysModules) = false) (ho : s.heap.get? d = some od) (hx : od.ExactDict) (hdat : od.data = .dict es ep)
    (hQ : Q (.ref s.heap.objs.size) { s with heap := s.heap.push { cls := .type "dict_keyiterator", data := .fields #[.ref d, .int 0 0, .int es.size 0, .int ep 0] } }) :
    wpAny (model prog w) A (pyIter (.ref d)) Q E s := by
  have ty : s.TypeIs (.ref d) "dict" := ⟨od, ho, hx.1⟩
  apply wpAny_pyIter_slot ty F.slot_dict_iter
  refine wpAny_call_entry F.slot_dict_iter ty F.entry_dict_iter ?body (F.args_dict_iter_1 _)
  case body =>
    unfold Builtin.«dict.__iter__»
    apply wpAny_bind
    unfold Builtin.Dict.dictSlotNone
    refine wpAny_bind (wpAny_notOrdered_dict ty (wpAny_pure (a := Value.ref d) ?_))
    show wpAny _ _ (Builtin.Dict.showsAll d >>= fun _ => _) _ _ s
    unfold Builtin.Dict.showsAll
    rw [hd, if_neg Bool.false_ne_true]
    refine wpAny_bind (wpAny_pure (wpAny_bind (wpAny_dictEntries ho hdat (wpAny_bind (wpAny_dictEpoch ho hdat ?_)))))
    refine wpAny_bind (wpAny_newObj_type (wpAny_pure ⟨_, rfl, "dict_keyiterator", _, ⟨_, Heap.get?_push_size _ rfl, rfl⟩, F.slot_dict_keyiterator_next.lookup, ?_⟩))
    simpa only [rawInt] using hQ
theorem ents_next {e : DictEntry} {Q : Option Value -> Shared -> Prop} (hit : s.heap.IsKeyIter it d i es.size ep) (ho : s.heap.get? d = some od) (hdat : od.data = .dict es ep) (hx : es[i]? = some e)
    (hQ : ∀ h', h'.IsKeyIter it d (i + 1) es.size ep -> Heap.SameBut it s.heap h' -> Q (some e.key) { s with heap := h' }) : wpAny (model prog w) A (pyNext (.ref it)) Q E s := by
  obtain ⟨oi, hoi, hci, hdi⟩ := id hit
  have ty := hit.typeIs
  have own : Builtin.Dict_items.ownsTuple "dict_keyiterator" = false := by decide
  unfold pyNext
  apply wpAny_bind
  apply wpAny_attempt
  refine wpAny_callSpecial?_slot (name := Str.ofString "__next__") ty F.slot_dict_keyiterator_next ?call
  case call =>
    refine wpAny_call_entry F.slot_dict_keyiterator_next ty F.entry_dict_keyiterator_next ?body (F.args_dict_keyiterator_next_1 _)
    case body =>
      refine wpAny_bind (wpAny_pure (wpAny_bind (wpAny_bind ?_)))
      refine wpAny_bind (wpAny_typeNameOfWhole_keyiter ty (wpAny_pure (wpAny_bind (wpAny_fieldsOf hoi hdi ?_))))
      simp only [own, Bool.false_eq_true, if_false]
      show wpAny _ _ (if (Value.ref d == Value.none) = true then _ else _) _ _ s
      rw [if_neg (fun z : (Value.ref d == Value.none) = true => Bool.false_ne_true z)]
      refine wpAny_bind (wpAny_pure (wpAny_bind (wpAny_dictEntries ho hdat ?_)))
      rw [if_neg (by simp)]
      refine wpAny_bind (wpAny_pure (wpAny_bind (wpAny_dictEpoch ho hdat ?_)))
      rw [if_neg (by simp)]
      apply wpAny_pure
      have neg : ¬ ((i : Int) < 0) := by omega
      simp only [neg, if_false, Int.toNat_natCast, hx]
      refine wpAny_bind (wpAny_bind (wpAny_typeNameOfWhole_keyiter ty (wpAny_pure (wpAny_bind (wpAny_isOneOf_keyiter ty ?_)))))
      show wpAny _ _ (setField (.ref it) 1 (rawInt ((i : Int) + 1)) >>= fun _ => _) _ _ s
      refine wpAny_bind (wpAny_setField hoi hdi (by simp) ?_)
      have nx : (s.heap.update it (Obj.mapFields (·.setIfInBounds 1 (rawInt ((i : Int) + 1))))).IsKeyIter it d (i + 1) es.size ep :=
        ⟨_, Heap.get?_update_self _ hoi (Obj.isFreed_of_fields (Obj.data_mapFields hdi _)), (Obj.cls_mapFields ..).trans hci, by rw [Obj.data_mapFields hdi]; simp [rawInt]⟩
      refine wpAny_bind (wpAny_holding (wpAny_bind (wpAny_isOneOf_keyiter (s := { s with heap := s.heap.update it (Obj.mapFields (·.setIfInBounds 1 (rawInt ((i : Int) + 1)))) }) nx.typeIs ?_)))
      show wpAny _ _ (pure e.key) _ _ _
      exact wpAny_pure (wpAny_pure ⟨_, rfl, wpAny_pure (hQ _ nx (Heap.SameBut.update ..))⟩)
theorem ents_end {Q : Option Value -> Shared -> Prop} (hh : A.handled = none) (hit : s.heap.IsKeyIter it d i es.size ep) (ho : s.heap.get? d = some od) (hdat : od.data = .dict es ep) (hx : es.size <= i)
    (hQ : ∀ h', Heap.ExtBut it s.heap h' -> Q none { s with heap := h' }) : wpAny (model prog w) A (pyNext (.ref it)) Q E s := by
  obtain ⟨oi, hoi, hci, hdi⟩ := id hit
  have ty := hit.typeIs
  have own : Builtin.Dict_items.ownsTuple "dict_keyiterator" = false := by decide
  unfold pyNext
  apply wpAny_bind
  apply wpAny_attempt
  refine wpAny_callSpecial?_slot (name := Str.ofString "__next__") ty F.slot_dict_keyiterator_next ?call
  case call =>
    refine wpAny_call_entry F.slot_dict_keyiterator_next ty F.entry_dict_keyiterator_next ?body (F.args_dict_keyiterator_next_1 _)
    case body =>
      refine wpAny_bind (wpAny_pure (wpAny_bind (wpAny_bind ?_)))
      refine wpAny_bind (wpAny_typeNameOfWhole_keyiter ty (wpAny_pure (wpAny_bind (wpAny_fieldsOf hoi hdi ?_))))
      simp only [own, Bool.false_eq_true, if_false]
      show wpAny _ _ (if (Value.ref d == Value.none) = true then _ else _) _ _ s
      rw [if_neg (fun z : (Value.ref d == Value.none) = true => Bool.false_ne_true z)]
      refine wpAny_bind (wpAny_pure (wpAny_bind (wpAny_dictEntries ho hdat ?_)))
      rw [if_neg (by simp)]
      refine wpAny_bind (wpAny_pure (wpAny_bind (wpAny_dictEpoch ho hdat ?_)))
      rw [if_neg (by simp)]
      apply wpAny_pure
      have neg : ¬ ((i : Int) < 0) := by omega
      simp only [neg, if_false, Int.toNat_natCast, Array.getElem?_eq_none hx]
      refine wpAny_bind (wpAny_bind (wpAny_typeNameOfWhole_keyiter ty (wpAny_pure ?_)))
      show wpAny _ _ (setField (.ref it) 0 .none >>= fun _ => _) _ _ s
      refine wpAny_bind (wpAny_setField hoi hdi (by simp) ?_)
      show wpAny _ _ (newExc (.type "StopIteration") [] >>= fun _ => _) _ _ _
      apply wpAny_bind
      simp only [newExc, newTuple]
      refine wpAny_bind (wpAny_newObj_type (wpAny_bind (m := firstArgMember _ _) (wpAny_of_eq (a := Value.none) (by first | rfl | (simp only [firstArgMember]; rfl)) (wpAny_newObj_type ?_ (by size_fits)))) (by size_fits))
      simp only [raiseNew]
      refine wpAny_bind (wpAny_handled ?_)
      rw [show A.in1.handled = Option.none from hh]
      refine wpAny_bind (wpAny_pure (wpAny_throw ?thr))
      apply wpAny_bind
      refine wpAny_isInstance (T := "StopIteration") (b := true) ⟨_, Heap.get?_push_size _ rfl, rfl⟩ isSubtype_stop ?ends
      exact wpAny_pure (hQ _ (((Heap.SameBut.update ..).extBut.push _).push _))
end
def Itk (a : Addr) (o : Obj) (kvs : List (List Key × V)) : It :=
  ⟨fun i H => H a = some (.frz o (.dT kvs)) /\ i < kvs.length, fun i H x H' => H' = H /\ ∃ k v q, kvs[i]? = some (k, v) /\ x = .ref q /\ H q = some (.tup (k.map kV)), fun i H => H a = some (.frz o (.dT kvs)) /\ kvs.length <= i⟩
theorem frz_dT {P : Program} {w : World} {H : Hp} {h : Heap} {a : Addr} {o : Obj} {kvs : List (List Key × V)} (ok : HOk P w H h) (e : H a = some (.frz o (.dT kvs))) :
    h.get? a = some o /\ o.ExactDict /\ ∃ es ep, o.data = .dict es ep /\ es.size = kvs.length /\ ∀ (i : Nat) k v, kvs[i]? = some (k, v) -> ∃ q ent, es[i]? = some ent /\ ent.key = .ref q /\ H q = some (.tup (k.map kV)) := by
  obtain ⟨e1, z, y, xs, r, ob, es, ep, e2, ex, hd, he, nd⟩ := ok a _ e
  rw [e1] at e2
  cases e2
  have hl : kvs.length = xs.length := Paired.length r
  refine ⟨e1, ex, es, ep, hd, ?_, fun i k v hk => ?_⟩
  · rw [<- Array.length_toList, he, List.length_map, hl]
  · have get : ∀ {l1 : List (List Key × V)} {l2 : List (List Key × Addr × Value)} {i : Nat} {k : List Key} {v : V}, Paired (fun (p : List Key × V) (q : List Key × Addr × Value) => p.1 = q.1 /\ H q.2.1 = some (.tup (p.1.map kV)) /\ RelV p.2 q.2.2) l1 l2 -> l1[i]? = some (k, v) ->
        ∃ q : List Key × Addr × Value, l2[i]? = some q /\ H q.2.1 = some (.tup (k.map kV)) := by
      intro l1 l2 i k v r
      induction r generalizing i with
      | nil => intro z; simp at z
      | cons h t ih =>
        intro z
        cases i with
        | zero => simp at z; subst z; exact ⟨_, rfl, h.2.1⟩
        | succ j => exact ih (by simpa using z)
    obtain ⟨q, hq, ht⟩ := get r hk
    refine ⟨q.2.1, entryOfKey (tupleKind (mixKind P w)) q, ?_, rfl, ht⟩
    rw [<- Array.getElem?_toList, he, List.getElem?_map, hq]
    rfl
theorem turn_keys {P : Program} {w : World} {K : PySem.W.Frag} {tg : Expr} (a it : Addr) (o : Obj) (kvs : List (List Key × V)) (es : Array DictEntry) (ep : Nat) (hd : o.data = .dict es ep) :
    Turn P w K tg (Itk a o kvs) [it] it (fun i h => h.IsKeyIter it a i es.size ep) where
  mem := by simp
  obj := fun i h st b hb => by
    have e : b = it := by simpa using hb
    subst e
    obtain ⟨o, e, c, d⟩ := st
    exact ⟨o, e, fun v z => by rw [d] at z; cases z⟩
  keep := fun i h h' st k => st.at fun o e => k it (by simp) o e
  item := by
    intro X hP hw hK hc i pins s σ H E I hf st hg
    subst hP hw hK
    obtain ⟨hH, hi⟩ := hg
    obtain ⟨e1, ex, es', ep', hd', hsz, get⟩ := frz_dT I.hok hH
    rw [hd] at hd'
    cases hd'
    obtain ⟨q, ent, hent, hkey, ht⟩ := get i _ _ (List.getElem?_eq_getElem hi)
    obtain ⟨f0, f1, f2, f3, f4, f5⟩ := hf it (by simp)
    refine ents_next st e1 hd hent fun h' st' sb => ?_
    have I1 : Inv X pins σ H { s with heap := h' } := I.turned (t' := s.toks) (fun b o hb e => (sb.2 b hb).trans e) f0 f1 f3 f4 f5
    obtain ⟨oo, e, c, d⟩ := id st'
    exact ⟨_, rfl, go_of (s := { s with heap := h' }) e c d (by decide) ⟨.ref q, H, I1, hkey, ⟨rfl, _, _, q, List.getElem?_eq_getElem hi, rfl, ht⟩, st', fun b hb => (hf b hb).1⟩⟩
  done := by
    intro X hP hw hK hc i pins s σ H E I hf st hg
    subst hP hw hK
    obtain ⟨hH, hi⟩ := hg
    obtain ⟨e1, ex, es', ep', hd', hsz, get⟩ := frz_dT I.hok hH
    rw [hd] at hd'
    cases hd'
    obtain ⟨f0, f1, f2, f3, f4, f5⟩ := hf it (by simp)
    exact ents_end (I.ok.hd hc) st e1 hd (by omega) fun h' eb => ⟨rfl, I.turned (t' := s.toks) (fun b o hb e => eb b o hb e) f0 f1 f3 f4 f5⟩
  self := fun _ _ _ _ _ st h => wpAny_pyIter_keyiter st h
theorem Inv.freeze {pins : List (Addr × Obj)} {σ : St} {H : Hp} {s : Shared} {a : Addr} {kvs : List (List Key × V)} (I : Inv X pins σ H s) (e : H a = some (.dT kvs)) : ∃ o, s.heap.get? a = some o /\ Inv X pins σ (upd H a (.frz o (.dT kvs))) s := by
  have ok := I.hok a _ e
  obtain ⟨z, y, xs, r, ob, es, ep, e2, c⟩ := id ok
  refine ⟨ob, e2, ?_⟩
  refine I.write (x := a) (e := a) (h' := s.heap) (t' := s.toks) (by rw [e]; exact trivial) (.inl rfl) (fun _ _ _ q => q) ⟨_, e2⟩ ⟨e2, ?_⟩
  refine ok.stay (fun _ _ _ q => q) (fun b q => ?_) fun b ys q => ?_
  · rw [upd_ne (fun w => by rw [w, e] at q; cases q)]; exact q
  · rw [upd_ne (fun w => by rw [w, e] at q; cases q)]; exact q
def iKeys (tl : TE) : TI := fun σ H R => tl σ H fun x H1 => ∃ a kvs, x = .ref a /\ ((H1 a = some (.dT kvs) /\ ∀ o, R (Itk a o kvs) (upd H1 a (.frz o (.dT kvs)))) ∨ ∃ o, H1 a = some (.frz o (.dT kvs)) /\ R (Itk a o kvs) H1)
theorem keys_it {pins : List (Addr × Obj)} {σ : St} {H : Hp} {s : Shared} {tg : Expr} {a : Addr} {o : Obj} {kvs : List (List Key × V)} {R : It -> Hp -> Prop} (I : Inv X pins σ H s) (e : H a = some (.frz o (.dT kvs))) (q : R (Itk a o kvs) H) :
    wpAny (model X.prog X.w) X.A (pyIter (.ref a)) (PIE X pins σ tg R) X.xe s := by
  obtain ⟨e1, ex, es, ep, hd, hsz, get⟩ := frz_dT I.hok e
  obtain ⟨_, _, y, _⟩ := I.hok a _ e
  refine ents_iter y e1 ex hd ?_
  refine ⟨s.heap.objs.size, [s.heap.objs.size], _, _, H, rfl, I.kept (t' := s.toks) fun b o e => Heap.get?_push_of_some _ e, turn_keys a _ o kvs es ep hd, ⟨_, Heap.get?_push_size _ rfl, rfl, rfl⟩, fun b hb => ?_, q⟩
  have e : b = s.heap.objs.size := by simpa using hb
  subst e
  exact I.fpOk (Nat.le_refl _) (I.hok.fresh (Nat.le_refl _))
theorem pi_keys {tg l : Expr} {tl : TE} (hl : PE X l tl) : PI X tg l (iKeys tl) := by
  intro pins s σ H R I h
  refine thn (hl pins s σ H _ I h) fun v s1 ⟨x, H1, I1, r1, q1⟩ => ?_
  obtain ⟨a, kvs, rfl, q1⟩ := q1
  cases (show v = Value.ref a from r1)
  rcases q1 with ⟨e, q⟩ | ⟨o, e, q⟩
  · obtain ⟨o, _, I2⟩ := I1.freeze e
    exact keys_it I2 upd_same (q o)
  · exact keys_it I1 e q
def ItR (K : PySem.W.Frag) (a : Addr) (xs : List V) : It :=
  ⟨fun i H => i < xs.length /\ SqL K H a xs, fun i H x H' => H' = H /\ xs[xs.length - 1 - i]? = some x, fun i H => xs.length <= i⟩
theorem turn_rev {P : Program} {w : World} {K : PySem.W.Frag} {tg : Expr} (a it : Addr) (xs : List V) : Turn P w K tg (ItR K a xs) [it] it (fun i h => i <= xs.length /\ h.IsRevIter it a ((xs.length : Int) - 1 - (i : Int))) where
  mem := by simp
  obj := fun i h st b hb => by
    have e : b = it := by simpa using hb
    subst e
    obtain ⟨_, o, e, c, d⟩ := st
    exact ⟨o, e, fun v z => by rw [d] at z; cases z⟩
  keep := fun i h h' st k => ⟨st.1, st.2.at fun o e => k it (by simp) o e⟩
  item := by
    intro X hP hw hK hc i pins s σ H E I hf st hg
    subst hP hw hK
    obtain ⟨hi, hS⟩ := hg
    obtain ⟨_, st⟩ := st
    obtain ⟨its, rv, p, hz⟩ := I.list hS
    have hix : xs.length - 1 - i < xs.length := by omega
    obtain ⟨u, hu, ru⟩ := rv.get (List.getElem?_eq_getElem hix)
    have ei : (xs.length : Int) - 1 - (i : Int) = ((xs.length - 1 - i : Nat) : Int) := by omega
    rw [ei] at st
    obtain ⟨f0, f1, f2, f3, f4, f5⟩ := hf it (by simp)
    refine wpAny_pyNext_rev_item st p.isList (x := u) (by simpa using hu) fun h' st' sb => ?_
    have I1 : Inv X pins σ H { s with heap := h' } := I.turned (t' := s.toks) (fun b o hb e => (sb.2 b hb).trans e) f0 f1 f3 f4 f5
    obtain ⟨o, e, c, d⟩ := id st'
    refine ⟨u, rfl, go_of (s := { s with heap := h' }) e c d (by decide) ⟨_, H, I1, ru, ⟨rfl, List.getElem?_eq_getElem hix⟩, ⟨hi, ?_⟩, fun b hb => (hf b hb).1⟩⟩
    have ej : (xs.length : Int) - 1 - ((i + 1 : Nat) : Int) = ((xs.length - 1 - i : Nat) : Int) - 1 := by omega
    rw [ej]
    exact st'
  done := by
    intro X hP hw hK hc i pins s σ H E I hf st hg
    subst hP hw hK
    obtain ⟨hi, st⟩ := st
    have hg : xs.length <= i := hg
    have ei : (xs.length : Int) - 1 - (i : Int) = -1 := by omega
    rw [ei] at st
    obtain ⟨f0, f1, f2, f3, f4, f5⟩ := hf it (by simp)
    exact wpAny_pyNext_rev_end (I.ok.hd hc) st fun h' eb => ⟨rfl, I.turned (t' := s.toks) (fun b o hb e => eb b o hb e) f0 f1 f3 f4 f5⟩
  self := fun _ _ _ _ _ st h => wpAny_pyIter_revIter st.2 h
def iRev (K : PySem.W.Frag) (ta : TA) : TI := fun σ H R => ta σ H fun vs H1 => ∃ a xs, vs = [.ref a] /\ SqL K H1 a xs /\ R (ItR K a xs) H1
theorem bt_reversed : bootBuiltins "reversed" = some (.type "reversed") := by decide +kernel
theorem pi_rev {tg a : Expr} {ta : TA} {p pos : Pos} (hg : Gl X "reversed") (hm : X.mg "reversed" = none) (ha : PA X [a] ta) (hs : starEach [a] X.env = [(false, eval a X.env)] := by rfl) : PI X tg (.Call (.Name "reversed" p) [a] [] pos) (iRev X.K ta) := by
  intro pins s σ H R I h
  refine Call_ (ld_blt I hg hm bt_reversed (PyProof.Rows.callWith_type1 (thn (ha pos pins s σ H _ I h) fun us s1 ⟨vs, H1, I1, r1, q1⟩ => ?_) hs rfl))
  obtain ⟨b, xs, e, hS, q⟩ := q1
  subst e
  obtain ⟨u, rfl, ru⟩ := vals1 r1
  cases (show u = Value.ref b from ru)
  obtain ⟨its, rv, pl, hz⟩ := I1.list hS
  refine call_reversed_list pl.isList ?_
  have hsz : its.toArray.size = xs.length := by rw [List.size_toArray]; exact rv.length.symm
  rw [hsz]
  have st : Heap.IsRevIter (s1.heap.push (revObj b ((xs.length : Int) - 1))) s1.heap.objs.size b ((xs.length : Int) - 1 - ((0 : Nat) : Int)) := by
    rw [show (xs.length : Int) - 1 - ((0 : Nat) : Int) = (xs.length : Int) - 1 by omega]
    exact ⟨_, Heap.get?_push_size _ rfl, rfl, rfl⟩
  have I2 : Inv X pins σ H1 { s1 with heap := s1.heap.push (revObj b ((xs.length : Int) - 1)) } := I1.kept (t' := s1.toks) fun b o e => Heap.get?_push_of_some _ e
  refine wpAny_pyIter_revIter (s := { s1 with heap := s1.heap.push (revObj b ((xs.length : Int) - 1)) }) st ?_
  refine ⟨s1.heap.objs.size, [s1.heap.objs.size], _, _, H1, rfl, I2, turn_rev b _ xs, ⟨Nat.zero_le _, st⟩, fun c hc => ?_, q⟩
  have e : c = s1.heap.objs.size := by simpa using hc
  subst e
  exact I1.fpOk (Nat.le_refl _) (I1.hok.fresh (Nat.le_refl _))
end
theorem ix_tupK {X : Cx} {K : PySem.W.Frag} (h : X.K = K) : IxR X (rIxT K) := by subst h; exact ix_tup
theorem pg_tupK {X : Cx} {K : PySem.W.Frag} (hK : X.K = K) {pos : Pos} {es : List Expr} {k : Nat} {t : TGs} {n : Nat} (hc : X.calm = true) (h : PGs X es t)
    (hn : (assignEach es X.env).length = n := by rfl) (hst : (assignEach es X.env).findIdx? (·.1) = none := by rfl) : PG X (.Tuple es k pos) (gTup K n t) := by
  subst hK
  exact pg_tup hc h hn hst
theorem for_keys {a : Addr} {o : Obj} {kvs : List (List Key × V)} {g : TG} {tb : TS} {D : Ends} {σ : St} {H : Hp} (Pv : Nat -> St -> Hp -> Prop) (h0 : Pv 0 σ H) (hl : ∀ i σ H, i <= kvs.length -> Pv i σ H -> H a = some (.frz o (.dT kvs)))
    (hs : ∀ i k v q σ H, kvs[i]? = some (k, v) -> H q = some (.tup (k.map kV)) -> Pv i σ H -> g (.ref q) σ H fun σ2 H2 => tb { D with nx := Pv (i + 1), ct := Pv (i + 1), bk := D.nx } σ2 H2) (hd : ∀ σ H, Pv kvs.length σ H -> D.nx σ H) :
    ∃ W : Nat -> Nat -> St -> Hp -> Prop, (∃ m, W 0 m σ H) /\ ∀ i m σ H, W i m σ H ->
      ((Itk a o kvs).stop i H /\ D.nx σ H) ∨ ((Itk a o kvs).go i H /\ ∃ N : St -> Hp -> Prop, (∀ σ' H', N σ' H' -> ∃ m', m' < m /\ W (i + 1) m' σ' H') /\ ∀ x H', (Itk a o kvs).yld i H x H' -> g x σ H' fun σ2 H2 => tb { D with nx := N, ct := N, bk := D.nx } σ2 H2) := by
  refine ⟨fun i m σ H => m = kvs.length - i /\ i <= kvs.length /\ Pv i σ H, ⟨kvs.length, by simp, Nat.zero_le _, h0⟩, ?_⟩
  rintro i m σ H ⟨rfl, hi, p⟩
  have q := hl i σ H hi p
  by_cases hlt : i < kvs.length
  · refine .inr ⟨⟨q, hlt⟩, Pv (i + 1), fun σ' H' p' => ⟨kvs.length - (i + 1), by omega, rfl, hlt, p'⟩, fun x H' y => ?_⟩
    obtain ⟨e, k, v, z, hk, ex, ht⟩ := y
    subst e ex
    exact hs i k v z σ _ hk ht p
  · have e : i = kvs.length := by omega
    subst e
    exact .inl ⟨⟨q, Nat.le_refl _⟩, hd σ H p⟩
end L2
namespace L2
open PySem PySem.Spec PyProof.Rows
theorem law_callT {Pg : Program} {w : World} {K : PySem.W.Frag} {mg mb : Str -> Option Value} {CX : CXT} {k : Nat} {fa a P c : Addr} {fd : FuncData} {x : Str} {sp : Sp} {s₁ : Shared} {vs : List Value} {ns : List Int}
    (KX : K.In s₁.heap) (hns : s₁.heap.Ns mainGlobals mg) (hb : s₁.heap.Ns builtinsNs mb) (hbb : ∀ x : Str, x ≠ "__name__" -> mb x = bootBuiltins x) (hlim : s₁.heap.NoLimit) (hg : s₁.gens = #[])
    (ha : s₁.heap.get? a = some { cls := .type "list", data := .seq vs.toArray }) (hi : IntsAre vs ns) (hl : ns.length <= sizeLine) (hr : Room k callerA)
    (hP : s₁.heap.get? P = some (PySem.W.tabObj #[])) (hC : PySem.W.CodeHd s₁.heap c P) (hB : ∃ bm ob, mg "__builtins__" = some (.ref bm) /\ bm ≠ builtinsNs /\ s₁.heap.get? bm = some ob /\ ob.cls = .type "module" /\ ob.dict = some builtinsNs /\ ob.data = .plain)
    (hKP : K.lookup P = none) (hCK : ∀ h, K.In h -> PySem.W.CodeHd h c P)
    (F : ∀ base : Heap, K.In base -> base.Ns mainGlobals mg -> PySem.W.CodeHd base c P -> base.BuiltinsAt mg P -> FnOk Pg w K mg base CX k fa fd [x] sp) (hbind : ∀ (s : Shared) (u : Value), BindsTo s fd ⟨[u], []⟩ [(x, u)])
    (hsp : ∀ H : Hp, H P = some (.tbl #[]) -> SqL K H a (ns.map V.int) -> sp [.ref a] H (fun v _ => v = .bl true) fun _ _ _ => False)
    (hCX : ∀ H e s', CX [] H s₁ (fun _ _ _ => False) e s' -> False) :
    codeAny (model Pg w) callerA (.call (.ref fa) ⟨[.ref a], []⟩) (fun r s' => r = .ok (.ret (.bool true)) /\ OldK s₁.heap s'.heap /\ s'.os = s₁.os /\ AllBare s'.gens) s₁ := by
  have rv := vals_ints hi
  have lenV := hi.length
  have haP : a ≠ P := fun z => by rw [z, hP] at ha; cases ha
  have core : ∀ H : Hp, H P = some (.tbl #[]) -> (∀ b, b ≠ P -> H b = none ∨ ∃ xs, b = a /\ H b = some (.frz { cls := .type "list", data := .seq vs.toArray } (.lst xs))) -> SqL K H a (ns.map V.int) -> HOk Pg w H s₁.heap -> (H a ≠ none -> K.lookup a = none) ->
      codeAny (model Pg w) callerA (.call (.ref fa) ⟨[.ref a], []⟩) (fun r s' => r = .ok (.ret (.bool true)) /\ OldK s₁.heap s'.heap /\ s'.os = s₁.os /\ AllBare s'.gens) s₁ := by
    intro H hHP hO hS hok hK
    have base_of : ∀ {b : Addr} {o : Obj}, s₁.heap.get? b = some o -> H b = none -> (hidT s₁.heap H).get? b = some o := fun e n => hidT_get e n
    have free : ∀ {b : Addr} {o : Obj}, s₁.heap.get? b = some o -> (∀ xs n, o.data ≠ .seq xs n) -> b ≠ P -> H b = none := fun {b o} e d nP => by
      rcases hO b nP with z | ⟨xs, z, _⟩
      · exact z
      · rw [z, ha] at e
        cases e
        exact absurd rfl (d _ _)
    have ndP : ∀ {b : Addr} {o : Obj} {es : Array DictEntry} {ep : Nat}, s₁.heap.get? b = some o -> o.data = .dict es ep -> b ≠ P := fun {b o es ep} e d z => by
      rw [z, hP] at e
      cases e
      have d' : Data.fields #[] = Data.dict es ep := d
      cases d'
    have nsK : ∀ {b : Addr} {m : Str -> Option Value}, s₁.heap.Ns b m -> (hidT s₁.heap H).Ns b m := fun {b m} ⟨o, es, ep, e, d, r⟩ => ⟨o, es, ep, base_of e (free e (fun xs n z => by rw [d] at z; cases z) (ndP e d)), d, r⟩
    have hKb : K.In (hidT s₁.heap H) := fun b o e => base_of (KX b o e) (by
      by_cases z : b = P
      · rw [z, hKP] at e; cases e
      · rcases hO b z with q | ⟨xs, q, r⟩
        · exact q
        · subst q
          rw [hK (by rw [r]; simp)] at e; cases e)
    have hM : Mod K mg (hidT s₁.heap H) := ⟨hKb, nsK hns, ⟨mb, nsK hb, hbb⟩, let ⟨mc, h1, h2⟩ := hlim; ⟨mc, nsK h1, h2⟩⟩
    have e0 : Env0 Pg w K mg (hidT s₁.heap H) callerA [] s₁ H := ⟨rfl, hM, fun b o e => of_hidT e, Nat.le_of_eq (hidT_size _ _), trivial, fun b hb => absurd (show b ∈ ([] : List Addr) from hb) (by simp), hok, .of_eq hg⟩
    have hBA : (hidT s₁.heap H).BuiltinsAt mg P := by
      obtain ⟨bm, ob, b1, b2, b3, b4, b5, b6⟩ := hB
      have nP : bm ≠ P := fun z => by rw [z, hP] at b3; cases b3; cases b4
      have nG : bm ≠ mainGlobals := fun z => by
        obtain ⟨o, es, ep, e, d, _⟩ := hns
        rw [z, e] at b3
        cases b3
        rw [d] at b6
        cases b6
      exact ⟨bm, ob, b1, b2, nG, nP, base_of b3 (free b3 (fun xs n z => by rw [b6] at z; cases z) nP), b4, b5, b6⟩
    refine codeAny_mono ((F _ hKb (nsK hns) (hCK _ hKb) hBA).run callerA [] s₁ H ⟨[.ref a], []⟩ [.ref a] [.ref a] _ _ hr e0 (hbind s₁ (.ref a)) (.cons rfl .nil) (hsp H hHP hS)) fun r s' h => ?_
    cases r with
    | error e => exact (hCX H e s' h).elim
    | ok fl =>
      cases fl with
      | next => exact False.elim h
      | brk => exact False.elim h
      | cont => exact False.elim h
      | ret u =>
        obtain ⟨v, H', os, bare, un, hok', r', q⟩ := h
        have q' : v = .bl true := q
        subst q'
        obtain rfl : u = Value.bool true := r'
        have keep : ∀ b o, b ≠ P -> s₁.heap.get? b = some o -> s'.heap.get? b = some o := fun b o nP e => by
          rcases hO b nP with z | ⟨xs, z1, z⟩
          · exact un.keep b o e z (by intro z; exact absurd (show b ∈ ([] : List Addr) from z) (by simp)) (by simp)
          · obtain ⟨e1, _⟩ := hok b _ z
            obtain ⟨e2, _⟩ := hok' b _ (un.frzs b _ _ z)
            rw [e] at e1; cases e1
            exact e2
        obtain ⟨more, hm⟩ := un.tbls P #[] hHP
        have hP' : s'.heap.get? P = some { cls := .none, data := .fields (#[] ++ more) } := hok' P _ hm
        refine ⟨rfl, ⟨fun b o e => ?_, fun b o e => ?_⟩, os, bare⟩
        · by_cases z : b = P
          · subst z
            rw [hP] at e
            cases e
            exact .inr (.inl ⟨(hC.tab hP).isCodeTable, rfl, #[], more, rfl, hP'⟩)
          · exact .inl (keep b o z e)
        · by_cases z : b = P
          · subst z; exact ⟨_, hP'⟩
          · exact ⟨o, keep b o z e⟩
  cases hk : K.lookup a with
  | some o =>
    have e := KX a o hk
    rw [ha] at e
    cases e
    refine core (fun b => if b = P then some (.tbl #[]) else none) (if_pos rfl) (fun b z => .inl (if_neg z)) (.inr ⟨_, vs.toArray, _, hk, rfl, rfl, rfl, by rw [List.size_toArray, lenV]; exact hl, by simpa using rv⟩) (fun b u z => ?_) fun z => absurd (if_neg haP) z
    by_cases hb : b = P
    · have z' := (if_pos hb).symm.trans z
      cases z'
      subst hb
      exact hP
    · have z' := (if_neg hb).symm.trans z
      cases z'
  | none =>
    refine core (fun b => if b = P then some (.tbl #[]) else if b = a then some (.frz { cls := .type "list", data := .seq vs.toArray } (.lst (ns.map V.int))) else none) (if_pos rfl) (fun b z => ?_) (.inl (.inr ⟨{ cls := .type "list", data := .seq vs.toArray }, (if_neg haP).trans (if_pos rfl)⟩)) (fun b u z => ?_) fun _ => hk
    · by_cases hb : b = a
      · exact .inr ⟨_, hb, (if_neg z).trans (if_pos hb)⟩
      · exact .inl ((if_neg z).trans (if_neg hb))
    · by_cases hb : b = P
      · have z' := (if_pos hb).symm.trans z
        cases z'
        subst hb
        exact hP
      · have z1 := (if_neg hb).symm.trans z
        by_cases hb2 : b = a
        · have z' := (if_pos hb2).symm.trans z1
          cases z'
          subst hb2
          exact ⟨ha, by rw [List.length_map]; exact hl, vs, _, rv, ha⟩
        · have z' := (if_neg hb2).symm.trans z1
          cases z'
theorem walk_ofT {l : PySem.W.OpenLaw} {n k : Nat} {q : Program} {loose : List Str} {XP : (Str -> Option Value) -> Heap -> Prop} {YP : World -> Heap -> Prop} {d d0 : DefRec} {K : Params -> PySem.W.Frag} {CX : World -> CXT} {sp : World -> Addr -> Sp} {x x0 : Str}
    (hn : l.most = some n) (hn2 : n <= sizeLine) (hdf : d.params.defaults = []) (hr : Room k callerA)
    (h0 : (recsOf q).find? (fun e => e.name == x0) = some d0)
    (hY : ∀ (w : World) (h : Heap), YP w h -> (K w.params).In h)
    (F : ∀ (w : World) (mg : Str -> Option Value) (fa : Addr) (h : Heap), (K w.params).In h -> h.Ns mainGlobals mg -> mg d.name = some (.ref fa) ->
      ∃ (fd : FuncData) (c P : Addr), (∀ (s : Shared) (u : Value), BindsTo s fd ⟨[u], []⟩ [(x, u)]) /\ PySem.W.tabIn (K w.params) x0 = some (c, P) /\ PySem.W.codeHdIn (K w.params) c P = true /\ (K w.params).lookup P = none ∧
        ∀ base : Heap, (K w.params).In base -> base.Ns mainGlobals mg -> PySem.W.CodeHd base c P -> base.BuiltinsAt mg P -> FnOk l.prog w (K w.params) mg base (CX w) k fa fd [x] (sp w P))
    (hsp : ∀ (w : World) (H : Hp) (a P : Addr) (ns : List Int), ns.length <= n -> H P = some (.tbl #[]) -> SqL (K w.params) H a (ns.map V.int) -> sp w P [.ref a] H (fun v _ => v = .bl true) fun _ _ _ => False)
    (hCX : ∀ (w : World) (H : Hp) (s : Shared) (e : Value) (s' : Shared), CX w [] H s (fun _ _ _ => False) e s' -> False) :
    PySem.W.WalkO q loose XP YP l.row.toRowW d [] (fun f vs => PySem.call f vs) := by
  refine Att.attach_call hn hdf fun w s₀ s₁ mg mb fa o pm cd doc a vs ns G Y ho hd hcd hmg hobj hints hlen hg => ?_
  have KX := hY w _ Y
  obtain ⟨fd, c, P, hb, ht, hcd, hkp, hF⟩ := F w mg fa _ KX G.T.g hmg
  obtain ⟨hC, hP⟩ := PySem.W.tab_of G.T KX h0 ht
  exact law_callT KX G.T.g G.T.b G.T.builtins G.T.nolimit hg hobj hints (Nat.le_trans hlen hn2) hr hP hC G.T.bmain hkp (fun h X => PySem.W.codeHd_of_K X hcd) hF hb (fun H hO hS => hsp w H a P ns hlen hO hS) fun H e s' => hCX w H s₁ e s'
end L2
namespace L2
open PySem PySem.Spec PyProof.Rows
theorem call_maxL {X : Cx} (hc : X.calm = true) : CallR X (.builtin "max") (fun xs H Q => ∃ (a : Addr) (ns : List Int), xs = [.ref a] /\ SqL X.K H a (ns.map V.int) /\ ns ≠ [] /\ ∀ M, M ∈ ns -> (∀ n ∈ ns, n <= M) -> Q (.int M) H) := by
  intro pins s σ H xs us Q I r h
  obtain ⟨a, ns, rfl, hS, hne, q⟩ := h
  obtain ⟨u, rfl, ru⟩ := vals1 r
  cases (show u = Value.ref a from ru)
  obtain ⟨its, rv, p, hz⟩ := I.list hS
  have hi := intsAre_of rv
  obtain ⟨zs, e⟩ := (IntsAre.allInts hi).items
  have hl := p.isList
  rw [e] at hl
  have hns : ns = zs.toList.map (·.1) := by
    have n1 := nums_intItems (xs := zs)
    rw [<- e, show its.toArray.toList = its from rfl, IntsAre.numsOf hi] at n1
    exact n1
  have hsz : 0 < zs.size := by
    rcases Nat.eq_zero_or_pos zs.size with z | z
    · exfalso
      apply hne
      rw [hns]
      have : zs = #[] := Array.eq_empty_of_size_eq_zero z
      rw [this]
      rfl
    · exact z
  refine max_intList (I.ok.hd hc) hl hsz fun v h' tk hv hk => ?_
  obtain ⟨t, rfl⟩ := intItems_at hv
  obtain ⟨h1, h2⟩ := argBest_gt (numAt zs) (zs.size - 1)
  refine ⟨.int _, H, I.kept hk, ⟨t, rfl⟩, q _ ?_ fun n hn => ?_⟩
  · rw [hns, numAt_eq]; exact getD_mem (by rw [List.length_map, Array.length_toList]; omega)
  · rw [hns] at hn
    obtain ⟨j, hj, rfl⟩ := mem_getD hn
    rw [List.length_map, Array.length_toList] at hj
    rw [<- numAt_eq]; exact h2 j (by omega)
theorem dT_get {P : Program} {w : World} {H : Hp} {h : Heap} {a : Addr} {kvs : List (List Key × V)} (ok : ObjOk P w H h a (.dT kvs)) :
    (a == sysModules) = false /\ ∃ o, h.get? a = some o /\ o.ExactDict /\ ∃ es ep, o.data = .dict es ep /\ es.size = kvs.length /\ ∀ (i : Nat) k v, kvs[i]? = some (k, v) -> ∃ q ent, es[i]? = some ent /\ ent.key = .ref q /\ H q = some (.tup (k.map kV)) := by
  obtain ⟨z, y, xs, r, ob, es, ep, e2, ex, hd, he, nd⟩ := ok
  have hl : kvs.length = xs.length := Paired.length r
  refine ⟨y, ob, e2, ex, es, ep, hd, ?_, fun i k v hk => ?_⟩
  · rw [<- Array.length_toList, he, List.length_map, hl]
  · have get : ∀ {l1 : List (List Key × V)} {l2 : List (List Key × Addr × Value)} {i : Nat} {k : List Key} {v : V}, Paired (fun (p : List Key × V) (q : List Key × Addr × Value) => p.1 = q.1 /\ H q.2.1 = some (.tup (p.1.map kV)) /\ RelV p.2 q.2.2) l1 l2 -> l1[i]? = some (k, v) ->
        ∃ q : List Key × Addr × Value, l2[i]? = some q /\ H q.2.1 = some (.tup (k.map kV)) := by
      intro l1 l2 i k v r
      induction r generalizing i with
      | nil => intro z; simp at z
      | cons h t ih =>
        intro z
        cases i with
        | zero => simp at z; subst z; exact ⟨_, rfl, h.2.1⟩
        | succ j => exact ih (by simpa using z)
    obtain ⟨q, hq, ht⟩ := get r hk
    refine ⟨q.2.1, entryOfKey (tupleKind (mixKind P w)) q, ?_, rfl, ht⟩
    rw [<- Array.getElem?_toList, he, List.getElem?_map, hq]
    rfl
theorem keys_walk {P : Program} {w : World} {A : Around} (hh : A.handled = none) (it d : Addr) (hne : it ≠ d) (o : Obj) (es : Array DictEntry) (ep : Nat) (hd : o.data = .dict es ep) :
    Walks P w A it [it, d] [it] es.size (fun i v => ∃ ent, es[i]? = some ent /\ ent.key = v) (fun i h => h.IsKeyIter it d i es.size ep /\ h.get? d = some o) where
  sub := fun b hb => by rw [List.mem_singleton.mp hb]; exact .head _
  frame := fun i h h' st k => ⟨st.1.at fun o e => k it (.head _) o e, k d (.tail _ (.head _)) _ st.2⟩
  item := fun i s Q E hi st hQ => by
    refine ents_next st.1 st.2 hd (Array.getElem?_eq_getElem hi) fun h' st' sb => ?_
    exact hQ _ h' s.toks ⟨_, Array.getElem?_eq_getElem hi, rfl⟩ ⟨st', (sb.2 d (Ne.symm hne)).trans st.2⟩ fun b o hb e => (sb.2 b (fun z => hb (by rw [z]; exact .head _))).trans e
  done := fun s Q E st hQ => by
    refine ents_end hh st.1 st.2 hd (Nat.le_refl _) fun h' eb => ?_
    exact hQ h' s.toks fun b o hb e => eb b o (fun z => hb (by rw [z]; exact .head _)) e
  self := fun i s Q E st hQ => wpAny_pyIter_keyiter st.1 hQ
theorem keys_src {P : Program} {w : World} (d : Addr) (lo : (d == sysModules) = false) (o : Obj) (ex : o.ExactDict) (es : Array DictEntry) (ep : Nat) (hd : o.data = .dict es ep) :
    PySem.W.KdlSrc P w "dict" d d es.size (fun i v => ∃ ent, es[i]? = some ent /\ ent.key = v) (fun h => h.get? d = some o) where
  type := fun s e => ⟨o, e, ex.1⟩
  there := fun h e => ⟨Heap.lt_size e, Heap.lt_size e⟩
  keep := fun h h' e k => k d (.inl rfl) o e
  notList := by decide
  notTuple := by decide
  hint := fun A E s Q e hq => PySem.W.kdl_hint_dict ⟨o, e, ex.1⟩ hq
  iter := fun A s hh e => ⟨_, _, (fun E Q hq => ents_iter lo e ex hd hq), keys_walk hh _ d (Nat.ne_of_gt (Heap.lt_size e)) o es ep hd, ⟨⟨_, Heap.get?_push_size _ rfl, rfl, rfl⟩, Heap.get?_push_of_some _ e⟩⟩
theorem call_listK {X : Cx} (hc : X.calm = true) : CallR X (.type "list") (fun xs H Q => ∃ (d : Addr) (kvs : List (List Key × V)), xs = [.ref d] /\ (H d = some (.dT kvs) ∨ ∃ o, H d = some (.frz o (.dT kvs))) ∧
    ∀ (l : Addr) (qs : List Addr), H l = none -> qs.length = kvs.length -> (∀ (i : Nat) k v, kvs[i]? = some (k, v) -> ∃ q, qs[i]? = some q /\ H q = some (.tup (k.map kV))) -> Q (.ref l) (upd H l (.lst (qs.map V.ref)))) := by
  intro pins s σ H xs us Q I r h
  obtain ⟨d, kvs, rfl, hD, q⟩ := h
  obtain ⟨u, rfl, ru⟩ := vals1 r
  cases (show u = Value.ref d from ru)
  have ok : ObjOk X.prog X.w H s.heap d (.dT kvs) := by
    rcases hD with e | ⟨o, e⟩
    · exact I.hok d _ e
    · exact (I.hok d _ e).2
  have hz : kvs.length <= sizeLine := ok.1
  obtain ⟨lo, o, e, ex, es, ep, hd, hsz, get⟩ := dT_get ok
  refine PySem.W.kdl_call (keys_src d lo o ex es ep hd) (I.ok.hd hc) e (by rw [hsz]; exact hz) fun h' tk acc c hk hl hacc => ?_
  have key : ∀ (i : Nat), i < kvs.length -> ∃ q, acc.toList[i]? = some (Value.ref q) /\ ∀ k v, kvs[i]? = some (k, v) -> H q = some (.tup (k.map kV)) := fun i hi => by
    have hia : i < acc.size := by rw [hacc.1, hsz]; exact hi
    obtain ⟨ent, e1, e2⟩ := hacc.2 i _ (Array.getElem?_eq_getElem hia)
    obtain ⟨q, ent', e3, e4, e5⟩ := get i _ _ (List.getElem?_eq_getElem hi)
    rw [e1] at e3
    cases e3
    refine ⟨q, ?_, fun k v ek => ?_⟩
    · rw [Array.getElem?_toList, Array.getElem?_eq_getElem hia, <- e2, e4]
    · rw [List.getElem?_eq_getElem hi] at ek
      have ek := Option.some.inj ek
      have : kvs[i].1 = k := by rw [ek]
      rw [<- this]
      exact e5
  have hla : acc.toList.length = kvs.length := by rw [Array.length_toList, hacc.1, hsz]
  have eacc : acc.toList = (acc.toList.map adr).map Value.ref := by
    refine List.ext_getElem? fun i => ?_
    rw [List.getElem?_map, List.getElem?_map]
    by_cases hi : i < kvs.length
    · obtain ⟨q, e1, _⟩ := key i hi
      rw [e1]
      rfl
    · rw [List.getElem?_eq_none (by omega)]
      rfl
  refine ⟨.ref s.heap.objs.size, _, I.laid (t' := tk) hk (Nat.le_refl _) (show ObjOk X.prog X.w _ h' _ (.lst ((acc.toList.map adr).map V.ref)) from ⟨?_, acc.toList, c, ?_, ?_⟩), rfl, q _ (acc.toList.map adr) (I.hok.fresh (Nat.le_refl _)) (by rw [List.length_map, hla]) fun i k v ek => ?_⟩
  · rw [List.length_map, List.length_map, hla]; exact hz
  · have z := refs_vals (acc.toList.map adr)
    rw [<- eacc] at z
    exact z
  · rw [Array.toArray_toList]; exact hl
  · have hi := (List.getElem?_eq_some_iff.mp ek).1
    obtain ⟨q2, e1, e2⟩ := key i hi
    exact ⟨q2, by rw [List.getElem?_map, e1]; rfl, e2 k v ek⟩
end L2
namespace Fr
theorem gcd_turn (a b : Int) : Int.gcd b (a.fmod b) = Int.gcd a b := by
  rw [Int.fmod_def, Int.gcd_sub_mul_left_right, Int.gcd_comm]
theorem fmod_less {a b : Int} (hb : b ≠ 0) : (a.fmod b).natAbs < b.natAbs := by
  rcases Int.lt_or_gt_of_ne hb with h | h
  · have e : a.fmod b = -((-a).fmod (-b)) := by
      rw [Int.fmod_def, Int.fmod_def, Int.neg_fdiv_neg, Int.neg_mul]
      omega
    have h1 := Int.fmod_nonneg_of_pos (-a) (show (0 : Int) < -b by omega)
    have h2 := Int.fmod_lt_of_pos (-a) (show (0 : Int) < -b by omega)
    omega
  · have h1 := Int.fmod_nonneg_of_pos a h
    have h2 := Int.fmod_lt_of_pos a h
    omega
def dv (t b : Int) : Int := if b < 0 then -(Int.gcd t b : Int) else (Int.gcd t b : Int)
def sh (t b : Int) : Int × Int := (t.fdiv (dv t b), b.fdiv (dv t b))
structure IsFr (t b : Int) : Prop where
  pos : 0 < b
  red : Int.gcd t b = 1
theorem dv_natAbs (t b : Int) : (dv t b).natAbs = Int.gcd t b := by unfold dv; split <;> omega
theorem dv_ne {t b : Int} (hb : b ≠ 0) : dv t b ≠ 0 := by
  have := Int.gcd_pos_of_ne_zero_right t hb
  have e := dv_natAbs t b
  omega
theorem dv_dvd_left (t b : Int) : dv t b ∣ t := by
  have h := Int.gcd_dvd_left t b
  unfold dv
  split
  · exact Int.neg_dvd.mpr h
  · exact h
theorem dv_dvd_right (t b : Int) : dv t b ∣ b := by
  have h := Int.gcd_dvd_right t b
  unfold dv
  split
  · exact Int.neg_dvd.mpr h
  · exact h
theorem sh_fst (t b : Int) : (sh t b).1 * dv t b = t := Int.fdiv_mul_cancel (dv_dvd_left t b)
theorem sh_snd (t b : Int) : (sh t b).2 * dv t b = b := Int.fdiv_mul_cancel (dv_dvd_right t b)
theorem sh_cross (t b : Int) : (sh t b).1 * b = t * (sh t b).2 := by
  have h1 := sh_fst t b
  have h2 := sh_snd t b
  generalize (sh t b).1 = x at *
  generalize (sh t b).2 = y at *
  generalize dv t b = d at *
  rw [<- h1, <- h2]
  rw [Int.mul_assoc x d y, Int.mul_comm d y]
theorem sh_pos {t b : Int} (hb : b ≠ 0) : 0 < (sh t b).2 := by
  have h2 := sh_snd t b
  have g := Int.gcd_pos_of_ne_zero_right t hb
  rcases Int.lt_or_gt_of_ne hb with h | h
  · have e : dv t b < 0 := by unfold dv; rw [if_pos h]; omega
    rcases (by omega : 0 < (sh t b).2 ∨ (sh t b).2 <= 0) with q | q
    · exact q
    · have := Int.mul_nonneg_of_nonpos_of_nonpos q (Int.le_of_lt e)
      omega
  · have e : 0 < dv t b := by unfold dv; rw [if_neg (by omega)]; omega
    rcases (by omega : 0 < (sh t b).2 ∨ (sh t b).2 <= 0) with q | q
    · exact q
    · have := Int.mul_nonpos_of_nonpos_of_nonneg q (Int.le_of_lt e)
      omega
theorem sh_red {t b : Int} (hb : b ≠ 0) : Int.gcd (sh t b).1 (sh t b).2 = 1 := by
  have h := Int.gcd_mul_right (sh t b).1 (dv t b) (sh t b).2
  rw [sh_fst, sh_snd, dv_natAbs] at h
  have g := Int.gcd_pos_of_ne_zero_right t hb
  have : 1 * Int.gcd t b = Int.gcd (sh t b).1 (sh t b).2 * Int.gcd t b := by omega
  exact (Nat.eq_of_mul_eq_mul_right g this).symm
theorem sh_ok {t b : Int} (hb : b ≠ 0) : IsFr (sh t b).1 (sh t b).2 := ⟨sh_pos hb, sh_red hb⟩
theorem cop {a b d : Int} (g : Int.gcd a b = 1) (h : b ∣ a * d) : b ∣ d := by
  have h1 := Int.natAbs_dvd_natAbs.mpr h
  rw [Int.natAbs_mul] at h1
  have h2 : Nat.Coprime b.natAbs a.natAbs := by
    show Nat.gcd b.natAbs a.natAbs = 1
    rw [Nat.gcd_comm]
    exact g
  exact Int.natAbs_dvd_natAbs.mp (h2.dvd_of_dvd_mul_left h1)
theorem unique {a b c d : Int} (p : IsFr a b) (q : IsFr c d) (e : a * d = c * b) : a = c /\ b = d := by
  have pp := p.pos
  have qp := q.pos
  have h1 : b ∣ d := by
    have : b ∣ a * d := ⟨c, by rw [e, Int.mul_comm]⟩
    exact cop p.red this
  have h2 : d ∣ b := by
    have : d ∣ c * b := ⟨a, by rw [<- e, Int.mul_comm]⟩
    exact cop q.red this
  have hbd : b = d := Int.dvd_antisymm (Int.le_of_lt pp) (Int.le_of_lt qp) h1 h2
  subst hbd
  exact ⟨Int.eq_of_mul_eq_mul_right (by omega) e, rfl⟩
end Fr
namespace Tb
structure Rw where
  t : Int
  b : Int
  w : Int
def T (B : Int) (r : Rw) : Int := r.t * (B / r.b)
def mx (x : Int) : Int := if 0 < x then x else 0
def S (B l0 l1 : Int) (rs : List Rw) : Int := (rs.map fun r => r.w * mx (T B r * l1 - l0 * B)).sum
def WT (B : Int) (rs : List Rw) : Int := (rs.map fun r => r.w * T B r).sum
def W (rs : List Rw) : Int := (rs.map (·.w)).sum
structure CM (B : Int) (rs : List Rw) : Prop where
  pos : 0 < B
  dv : ∀ r ∈ rs, 0 < r.b /\ r.b ∣ B
theorem W_cons (r : Rw) (rs : List Rw) : W (r :: rs) = r.w + W rs := by simp [W]
theorem WT_cons (B : Int) (r : Rw) (rs : List Rw) : WT B (r :: rs) = r.w * T B r + WT B rs := by simp [WT]
theorem S_cons (B l0 l1 : Int) (r : Rw) (rs : List Rw) : S B l0 l1 (r :: rs) = r.w * mx (T B r * l1 - l0 * B) + S B l0 l1 rs := by simp [S]
theorem S_append (B l0 l1 : Int) (xs ys : List Rw) : S B l0 l1 (xs ++ ys) = S B l0 l1 xs + S B l0 l1 ys := by simp [S]
theorem W_append (xs ys : List Rw) : W (xs ++ ys) = W xs + W ys := by simp [W]
theorem cof {B b : Int} (hb : 0 < b) (hB : 0 < B) (h : b ∣ B) : ∃ c, 0 < c /\ B = b * c /\ B / b = c := by
  obtain ⟨c, e⟩ := h
  have hc : 0 < c := by
    rcases (by omega : 0 < c ∨ c <= 0) with z | z
    · exact z
    · have := Int.mul_nonpos_of_nonneg_of_nonpos (Int.le_of_lt hb) z
      omega
  refine ⟨c, hc, e, ?_⟩
  rw [e, Int.mul_comm, Int.mul_ediv_cancel _ (by omega)]
theorem T_mul {B : Int} {r : Rw} (hb : 0 < r.b) (hB : 0 < B) (h : r.b ∣ B) : T B r * r.b = r.t * B := by
  obtain ⟨c, hc, e, q⟩ := cof hb hB h
  unfold T
  rw [q, e]
  grind
theorem mul_pos_iff {c x : Int} (hc : 0 < c) : 0 < c * x ↔ 0 < x := by
  constructor
  · intro h
    rcases (by omega : 0 < x ∨ x <= 0) with z | z
    · exact z
    · have := Int.mul_nonpos_of_nonneg_of_nonpos (Int.le_of_lt hc) z
      omega
  · intro h
    exact Int.mul_pos hc h
theorem above_iff {B l0 l1 : Int} {r : Rw} (hb : 0 < r.b) (hB : 0 < B) (h : r.b ∣ B) : 0 < T B r * l1 - l0 * B ↔ l0 * r.b < r.t * l1 := by
  obtain ⟨c, hc, e, q⟩ := cof hb hB h
  have e2 : T B r * l1 - l0 * B = c * (r.t * l1 - l0 * r.b) := by
    unfold T
    rw [q, e]
    grind
  rw [e2, mul_pos_iff hc]
  omega
theorem mx_nn (x : Int) : 0 <= mx x := by unfold mx; split <;> omega
theorem mx_ge (x : Int) : x <= mx x := by unfold mx; split <;> omega
theorem S_hi {B l0 l1 ws tops : Int} (hw : 0 < ws) (hl : 0 < l1) (hc : l0 * (ws * B) = tops * l1) : ∀ {hi : List Rw}, (∀ r ∈ hi, tops <= T B r * ws) -> ws * S B l0 l1 hi = l1 * (ws * WT B hi - tops * W hi)
  | [], _ => by simp [S, WT, W]
  | r :: hi, h => by
    have ih := S_hi hw hl hc (fun x hx => h x (List.mem_cons_of_mem _ hx))
    have hr := h r List.mem_cons_self
    have e : ws * (T B r * l1 - l0 * B) = l1 * (T B r * ws - tops) := by grind
    have m : mx (T B r * l1 - l0 * B) = T B r * l1 - l0 * B := by
      unfold mx
      split
      · rfl
      · rename_i n
        have h1 : 0 <= l1 * (T B r * ws - tops) := Int.mul_nonneg (Int.le_of_lt hl) (by omega)
        rw [<- e] at h1
        rcases (by omega : T B r * l1 - l0 * B = 0 ∨ T B r * l1 - l0 * B < 0) with z | z
        · omega
        · have := Int.mul_neg_of_pos_of_neg hw z
          omega
    rw [S_cons, WT_cons, W_cons, m]
    have a1 : ws * (r.w * (T B r * l1 - l0 * B) + S B l0 l1 hi) = r.w * (ws * (T B r * l1 - l0 * B)) + ws * S B l0 l1 hi := by grind
    rw [a1, e, ih]
    grind
theorem S_lo {B l0 l1 ws tops : Int} (hw : 0 < ws) (hl : 0 < l1) (hc : l0 * (ws * B) = tops * l1) : ∀ {lo : List Rw}, (∀ r ∈ lo, T B r * ws <= tops) -> S B l0 l1 lo = 0
  | [], _ => by simp [S]
  | r :: lo, h => by
    have ih := S_lo hw hl hc (fun x hx => h x (List.mem_cons_of_mem _ hx))
    have hr := h r List.mem_cons_self
    have e : ws * (T B r * l1 - l0 * B) = l1 * (T B r * ws - tops) := by grind
    have m : mx (T B r * l1 - l0 * B) = 0 := by
      unfold mx
      split
      · rename_i n
        have h1 := Int.mul_pos hw n
        have h2 : l1 * (T B r * ws - tops) <= 0 := Int.mul_nonpos_of_nonneg_of_nonpos (Int.le_of_lt hl) (by omega)
        omega
      · rfl
    rw [S_cons, m, ih]
    simp
theorem level_has {B l0 l1 ws tops P : Int} {lo hi : List Rw} (hw : 0 < ws) (hl : 0 < l1) (hc : l0 * (ws * B) = tops * l1) (ew : ws = W hi) (et : tops = WT B hi - P) (h1 : ∀ r ∈ hi, tops <= T B r * ws) (h2 : ∀ r ∈ lo, T B r * ws <= tops) :
    S B l0 l1 (lo ++ hi) = P * l1 := by
  have a := S_hi hw hl hc h1
  have b := S_lo hw hl hc h2
  rw [S_append, b, Int.zero_add]
  have : ws * S B l0 l1 hi = ws * (P * l1) := by rw [a, <- ew]; grind
  exact Int.eq_of_mul_eq_mul_left (by omega) this
theorem S_ge (B m0 m1 : Int) : ∀ {hi : List Rw}, (∀ r ∈ hi, 0 <= r.w) -> m1 * WT B hi - m0 * B * W hi <= S B m0 m1 hi
  | [], _ => by simp [S, WT, W]
  | r :: hi, h => by
    have ih := S_ge B m0 m1 (fun x hx => h x (List.mem_cons_of_mem _ hx))
    have hr := h r List.mem_cons_self
    have g := Int.mul_le_mul_of_nonneg_left (mx_ge (T B r * m1 - m0 * B)) hr
    rw [S_cons, WT_cons, W_cons]
    have e : m1 * (r.w * T B r + WT B hi) - m0 * B * (r.w + W hi) = r.w * (T B r * m1 - m0 * B) + (m1 * WT B hi - m0 * B * W hi) := by grind
    rw [e]
    omega
theorem S_nn (B m0 m1 : Int) : ∀ {lo : List Rw}, (∀ r ∈ lo, 0 <= r.w) -> 0 <= S B m0 m1 lo
  | [], _ => by simp [S]
  | r :: lo, h => by
    have ih := S_nn B m0 m1 (fun x hx => h x (List.mem_cons_of_mem _ hx))
    have g := Int.mul_nonneg (h r List.mem_cons_self) (mx_nn (T B r * m1 - m0 * B))
    rw [S_cons]
    omega
theorem lower_more {B l0 l1 m0 m1 ws tops P : Int} {lo hi : List Rw} (hB : 0 < B) (hw : 0 < ws) (hl : 0 < l1) (hc : l0 * (ws * B) = tops * l1) (ew : ws = W hi) (et : tops = WT B hi - P)
    (hp : ∀ r ∈ lo ++ hi, 0 <= r.w) (lt : m0 * l1 < l0 * m1) : P * m1 < S B m0 m1 (lo ++ hi) := by
  have a := S_ge B m0 m1 (hi := hi) (fun r hr => hp r (List.mem_append_right _ hr))
  have b := S_nn B m0 m1 (lo := lo) (fun r hr => hp r (List.mem_append_left _ hr))
  rw [S_append]
  have q := Int.mul_lt_mul_of_pos_left lt (Int.mul_pos hw hB)
  have e1 : ws * B * (m0 * l1) = l1 * (m0 * B * ws) := by grind
  have e2 : ws * B * (l0 * m1) = l1 * (m1 * tops) := by grind
  rw [e1, e2] at q
  have q2 : m0 * B * ws < m1 * tops := Int.lt_of_mul_lt_mul_left q (Int.le_of_lt hl)
  have e3 : m1 * WT B hi - m0 * B * W hi = m1 * tops + P * m1 - m0 * B * ws := by rw [<- ew]; grind
  omega
def Le (x y : Rw) : Prop := x.t * y.b <= y.t * x.b
theorem T_mono {B : Int} {x y : Rw} (hB : 0 < B) (hx : 0 < x.b) (hy : 0 < y.b) (dx : x.b ∣ B) (dy : y.b ∣ B) (h : Le x y) : T B x <= T B y := by
  have e1 := T_mul hx hB dx
  have e2 := T_mul hy hB dy
  have g := Int.mul_le_mul_of_nonneg_left h (Int.le_of_lt hB)
  have k : (x.b * y.b) * T B x <= (x.b * y.b) * T B y := by
    have a1 : (x.b * y.b) * T B x = B * (x.t * y.b) := by grind
    have a2 : (x.b * y.b) * T B y = B * (y.t * x.b) := by grind
    rw [a1, a2]
    exact g
  exact Int.le_of_mul_le_mul_left k (Int.mul_pos hx hy)
structure Lp (B P : Int) (rs : List Rw) (i : Nat) (tops ws : Int) : Prop where
  le : i <= rs.length
  ew : ws = W (rs.drop (rs.length - i))
  et : tops = WT B (rs.drop (rs.length - i)) - P
  hi : 0 < i -> ∀ r ∈ rs.drop (rs.length - i), tops <= T B r * ws
  z : P = 0 -> i <= 1
theorem Lp.start {B P : Int} {rs : List Rw} (e : 0 <= P) : Lp B P rs 0 (-P) 0 := by
  refine ⟨Nat.zero_le _, ?_, ?_, fun h => absurd h (by omega), fun _ => by omega⟩
  · simp [W]
  · simp [WT]
structure Tab (B : Int) (rs : List Rw) : Prop where
  cm : CM B rs
  w : ∀ r ∈ rs, 1 <= r.w
  so : rs.Pairwise Le
theorem W_pos : ∀ {rs : List Rw}, (∀ r ∈ rs, 1 <= r.w) -> rs ≠ [] -> 0 < W rs
  | [], _, h => absurd rfl h
  | [r], h, _ => by
    have := h r List.mem_cons_self
    simp [W]
    omega
  | r :: s :: rs, h, _ => by
    have := h r List.mem_cons_self
    have q := W_pos (rs := s :: rs) (fun x hx => h x (List.mem_cons_of_mem _ hx)) (by simp)
    rw [W_cons]
    omega
theorem drop_next {rs : List Rw} {i : Nat} (h : i < rs.length) : ∃ r, rs[rs.length - 1 - i]? = some r /\ rs.drop (rs.length - (i + 1)) = r :: rs.drop (rs.length - i) /\ r ∈ rs := by
  have hk : rs.length - 1 - i < rs.length := by omega
  refine ⟨rs[rs.length - 1 - i], List.getElem?_eq_getElem hk, ?_, List.getElem_mem hk⟩
  have e1 : rs.length - (i + 1) = rs.length - 1 - i := by omega
  have e2 : rs.length - i = rs.length - 1 - i + 1 := by omega
  rw [e1, e2]
  exact List.drop_eq_getElem_cons hk
theorem Tab.mono {B : Int} {rs : List Rw} (tb : Tab B rs) {x y : Rw} (hx : x ∈ rs) (hy : y ∈ rs) (h : Le x y) : T B x <= T B y :=
  T_mono tb.cm.pos (tb.cm.dv x hx).1 (tb.cm.dv y hy).1 (tb.cm.dv x hx).2 (tb.cm.dv y hy).2 h
theorem Lp.ws_pos {B P tops ws : Int} {rs : List Rw} {i : Nat} (tb : Tab B rs) (l : Lp B P rs i tops ws) (h : 0 < i) : 0 < ws := by
  rw [l.ew]
  have := l.le
  refine W_pos (fun r hr => tb.w r (List.mem_of_mem_drop hr)) ?_
  intro e
  have := congrArg List.length e
  simp at this
  omega
theorem Lp.next {B P tops ws : Int} {rs : List Rw} {i : Nat} {r : Rw} (tb : Tab B rs) (hP : 0 <= P) (l : Lp B P rs i tops ws) (hi : i < rs.length) (hr : rs[rs.length - 1 - i]? = some r) (go : ¬ (0 < ws /\ T B r * ws <= tops)) :
    Lp B P rs (i + 1) (tops + r.w * T B r) (ws + r.w) := by
  obtain ⟨r', e1, e2, hm⟩ := drop_next hi
  rw [hr] at e1
  cases e1
  have hw := tb.w r hm
  have last : tops <= T B r * ws := by
    by_cases h0 : 0 < i
    · have := l.ws_pos tb h0
      omega
    · have z : i = 0 := by omega
      subst z
      have a := l.ew
      have b := l.et
      simp [W] at a
      simp [WT] at b
      rw [a, b]
      omega
  have mine : tops + r.w * T B r <= T B r * (ws + r.w) := by
    have : T B r * (ws + r.w) = T B r * ws + r.w * T B r := by grind
    omega
  have wp : 0 < ws + r.w := by
    by_cases h0 : 0 < i
    · have := l.ws_pos tb h0
      omega
    · have z : i = 0 := by omega
      subst z
      have a := l.ew
      simp [W] at a
      omega
  refine ⟨hi, ?_, ?_, fun _ x hx => ?_, fun p0 => ?_⟩
  · rw [e2, W_cons, <- l.ew]; omega
  · rw [e2, WT_cons, l.et]; omega
  · rw [e2] at hx
    rcases List.mem_cons.mp hx with z | z
    · subst z; exact mine
    · have pw : (r :: rs.drop (rs.length - i)).Pairwise Le := by
        rw [<- e2]
        exact tb.so.sublist (List.drop_sublist _ _)
      have le := (List.pairwise_cons.mp pw).1 x z
      have tm := tb.mono hm (List.mem_of_mem_drop z) le
      have := Int.mul_le_mul_of_nonneg_right tm (Int.le_of_lt wp)
      omega
  · have k := l.z p0
    rcases (by omega : i = 0 ∨ i = 1) with z | z
    · omega
    · exfalso
      subst z
      apply go
      have wp1 := l.ws_pos tb (by decide)
      refine ⟨wp1, ?_⟩
      obtain ⟨r2, f1, f2, fm⟩ := drop_next (rs := rs) (i := 0) (by omega)
      have f3 : rs.drop (rs.length - 1) = [r2] := by
        have : rs.drop (rs.length - 0) = [] := by simp
        rw [f2, this]
      have a := l.ew
      have b := l.et
      rw [f3] at a b
      simp [W] at a
      simp [WT] at b
      have pw : (r :: rs.drop (rs.length - 1)).Pairwise Le := by
        rw [<- e2]
        exact tb.so.sublist (List.drop_sublist _ _)
      have le := (List.pairwise_cons.mp pw).1 r2 (by rw [f3]; exact List.mem_cons_self)
      have tm := tb.mono hm fm le
      have := Int.mul_le_mul_of_nonneg_right tm (Int.le_of_lt wp1)
      rw [b, a] at *
      have e : T B r2 * r2.w = r2.w * T B r2 := Int.mul_comm _ _
      omega
structure Lv (B P l0 l1 : Int) (rs : List Rw) : Prop where
  pos : 0 < l1
  has : S B l0 l1 rs = P * l1
  more : ∀ m0 m1 : Int, m0 * l1 < l0 * m1 -> P * m1 < S B m0 m1 rs
theorem Lp.ends {B P tops ws l0 l1 : Int} {rs : List Rw} {i : Nat} (tb : Tab B rs) (l : Lp B P rs i tops ws) (h0 : 0 < i) (stop : i = rs.length ∨ ∃ r, rs[rs.length - 1 - i]? = some r /\ i < rs.length /\ T B r * ws <= tops)
    (hl : 0 < l1) (hc : l0 * (ws * B) = tops * l1) : Lv B P l0 l1 rs := by
  have wp := l.ws_pos tb h0
  have e : rs = rs.take (rs.length - i) ++ rs.drop (rs.length - i) := (List.take_append_drop _ _).symm
  have lo : ∀ r ∈ rs.take (rs.length - i), T B r * ws <= tops := by
    rcases stop with z | ⟨r, hr, hi, ht⟩
    · subst z
      simp
    · intro x hx
      obtain ⟨j, hj, ex⟩ := List.mem_iff_getElem.mp hx
      rw [List.length_take] at hj
      rw [List.getElem_take] at ex
      have hk : rs.length - 1 - i < rs.length := by omega
      rw [List.getElem?_eq_getElem hk] at hr
      have er := Option.some.inj hr
      have tm : T B x <= T B r := by
        by_cases ej : j = rs.length - 1 - i
        · subst ej
          rw [<- ex, <- er]
          exact Int.le_refl _
        · have le := List.pairwise_iff_getElem.mp tb.so j (rs.length - 1 - i) (by omega) hk (by omega)
          rw [ex, er] at le
          exact tb.mono (by rw [<- ex]; exact List.getElem_mem _) (by rw [<- er]; exact List.getElem_mem _) le
      have := Int.mul_le_mul_of_nonneg_right tm (Int.le_of_lt wp)
      omega
  refine ⟨hl, ?_, fun m0 m1 lt => ?_⟩
  · rw [e]
    exact level_has wp hl hc l.ew l.et (l.hi h0) lo
  · rw [e]
    exact lower_more tb.cm.pos wp hl hc l.ew l.et (fun r hr => by rw [<- e] at hr; have := tb.w r hr; omega) lt
theorem Lp.zero {B tops ws : Int} {rs : List Rw} {i : Nat} (tb : Tab B rs) (fr : ∀ r ∈ rs, Fr.IsFr r.t r.b) (l : Lp B 0 rs i tops ws) (h0 : 0 < i) : ∃ r, rs[rs.length - 1]? = some r /\ (Fr.sh tops (ws * B)) = (r.t, r.b) := by
  have k := l.z rfl
  have z : i = 1 := by omega
  subst z
  have hle := l.le
  obtain ⟨r2, f1, f2, fm⟩ := drop_next (rs := rs) (i := 0) (by omega)
  have f3 : rs.drop (rs.length - 1) = [r2] := by
    have : rs.drop (rs.length - 0) = [] := by simp
    rw [f2, this]
  have a := l.ew
  have b := l.et
  rw [f3] at a b
  simp [W] at a
  simp [WT] at b
  have hw := tb.w r2 fm
  have hB := tb.cm.pos
  have hb := (tb.cm.dv r2 fm).1
  refine ⟨r2, by simpa using f1, ?_⟩
  have ne : ws * B ≠ 0 := Int.ne_of_gt (Int.mul_pos (by omega) hB)
  have cr := Fr.sh_cross tops (ws * B)
  have tm := T_mul hb hB (tb.cm.dv r2 fm).2
  have ok := Fr.sh_ok (t := tops) ne
  have q : (Fr.sh tops (ws * B)).1 * r2.b = r2.t * (Fr.sh tops (ws * B)).2 := by
    generalize (Fr.sh tops (ws * B)).1 = x at *
    generalize (Fr.sh tops (ws * B)).2 = y at *
    rw [a, b] at cr
    have : (r2.w * B) * (x * r2.b) = (r2.w * B) * (r2.t * y) := by grind
    exact Int.eq_of_mul_eq_mul_left (Int.ne_of_gt (Int.mul_pos (by omega) hB)) this
  obtain ⟨u1, u2⟩ := Fr.unique ok (fr r2 fm) q
  exact Prod.ext u1 u2
end Tb
namespace Tb
def Wt (ps : List Rw) (t b : Int) : Int := (ps.map fun r => if r.t = t /\ r.b = b then r.w else 0).sum
def Has (ps : List Rw) (t b : Int) : Prop := ∃ p ∈ ps, p.t = t /\ p.b = b
def Lt (x y : Rw) : Prop := x.t * y.b < y.t * x.b
structure IsTab (ps ys : List Rw) : Prop where
  lt : ys.Pairwise Lt
  fr : ∀ y ∈ ys, Fr.IsFr y.t y.b
  has : ∀ t b, Has ys t b ↔ Has ps t b
  d : ∃ d, 0 < d /\ ∀ y ∈ ys, Wt ps y.t y.b = y.w * d
  one : ∀ e : Int, (∀ y ∈ ys, e ∣ y.w) -> e ∣ 1
theorem Wt_nil (t b : Int) : Wt [] t b = 0 := rfl
theorem Wt_cons (r : Rw) (ps : List Rw) (t b : Int) : Wt (r :: ps) t b = (if r.t = t /\ r.b = b then r.w else 0) + Wt ps t b := by simp [Wt]
theorem Wt_append (ps qs : List Rw) (t b : Int) : Wt (ps ++ qs) t b = Wt ps t b + Wt qs t b := by simp [Wt]
theorem Has_append {ps qs : List Rw} {t b : Int} : Has (ps ++ qs) t b ↔ Has ps t b ∨ Has qs t b := by
  constructor
  · rintro ⟨p, hp, e⟩
    rcases List.mem_append.mp hp with z | z
    · exact .inl ⟨p, z, e⟩
    · exact .inr ⟨p, z, e⟩
  · rintro (⟨p, hp, e⟩ | ⟨p, hp, e⟩)
    · exact ⟨p, List.mem_append_left _ hp, e⟩
    · exact ⟨p, List.mem_append_right _ hp, e⟩
theorem Has_cons {r : Rw} {ps : List Rw} {t b : Int} : Has (r :: ps) t b ↔ (r.t = t /\ r.b = b) ∨ Has ps t b := by
  constructor
  · rintro ⟨p, hp, e⟩
    rcases List.mem_cons.mp hp with z | z
    · subst z; exact .inl e
    · exact .inr ⟨p, z, e⟩
  · rintro (e | ⟨p, hp, e⟩)
    · exact ⟨r, List.mem_cons_self, e⟩
    · exact ⟨p, List.mem_cons_of_mem _ hp, e⟩
theorem Has_nil {t b : Int} : ¬ Has [] t b := by rintro ⟨p, hp, _⟩; cases hp
theorem Wt_zero : ∀ {ps : List Rw} {t b : Int}, ¬ Has ps t b -> Wt ps t b = 0
  | [], _, _, _ => rfl
  | r :: ps, t, b, h => by
    rw [Wt_cons, if_neg fun e => h (Has_cons.mpr (.inl e)), Wt_zero fun e => h (Has_cons.mpr (.inr e))]
    rfl
theorem Wt_nn : ∀ {ps : List Rw} (t b : Int), (∀ r ∈ ps, 1 <= r.w) -> 0 <= Wt ps t b
  | [], _, _, _ => Int.le_refl 0
  | r :: ps, t, b, h => by
    have := Wt_nn t b fun x hx => h x (List.mem_cons_of_mem _ hx)
    have hr := h r List.mem_cons_self
    rw [Wt_cons]
    split <;> omega
theorem Wt_pos : ∀ {ps : List Rw} {t b : Int}, (∀ r ∈ ps, 1 <= r.w) -> Has ps t b -> 1 <= Wt ps t b
  | [], _, _, _, h => absurd h Has_nil
  | r :: ps, t, b, h, q => by
    have hr := h r List.mem_cons_self
    have hn := Wt_nn t b fun x hx => h x (List.mem_cons_of_mem _ hx)
    rw [Wt_cons]
    split
    · omega
    · rename_i ne
      rcases Has_cons.mp q with z | z
      · exact absurd z ne
      · have := Wt_pos (fun x hx => h x (List.mem_cons_of_mem _ hx)) z
        omega
theorem Wt_le : ∀ {ps : List Rw} (t b : Int), (∀ r ∈ ps, 1 <= r.w) -> Wt ps t b <= W ps
  | [], _, _, _ => Int.le_refl 0
  | r :: ps, t, b, h => by
    have hr := h r List.mem_cons_self
    have := Wt_le t b fun x hx => h x (List.mem_cons_of_mem _ hx)
    rw [Wt_cons, W_cons]
    split <;> omega
theorem Lt_irr {x y : Rw} (h : Lt x y) (e1 : x.t = y.t) (e2 : x.b = y.b) : False := by
  unfold Lt at h
  rw [e1, e2] at h
  omega
theorem key_mono {t b u c m : Int} (hb : 0 < b) (hc : 0 < c) (bm : b <= m) (cm : c <= m) (lt : t * c < u * b) : (t * (m * m)).fdiv b < (u * (m * m)).fdiv c := by
  have hm : 0 < m := by omega
  rw [Int.fdiv_eq_ediv_of_nonneg _ (Int.le_of_lt hb), Int.fdiv_eq_ediv_of_nonneg _ (Int.le_of_lt hc)]
  have k1 : (t * (m * m)) / b * b <= t * (m * m) := Int.ediv_mul_le _ (Int.ne_of_gt hb)
  have hbc : b * c <= m * m := Int.mul_le_mul bm cm (Int.le_of_lt hc) (Int.le_of_lt hm)
  have h1 : (t * c + 1) * (m * m) <= u * b * (m * m) := Int.mul_le_mul_of_nonneg_right (by omega) (Int.le_of_lt (Int.mul_pos hm hm))
  suffices h : (t * (m * m)) / b + 1 <= (u * (m * m)) / c by omega
  refine (Int.le_ediv_iff_mul_le hc).mpr ?_
  have h2 : b * (((t * (m * m)) / b + 1) * c) <= b * (u * (m * m)) := by
    have e1 : b * (((t * (m * m)) / b + 1) * c) = c * ((t * (m * m)) / b * b) + b * c := by grind
    have e2 : b * (u * (m * m)) = u * b * (m * m) := by grind
    have e3 : (t * c + 1) * (m * m) = c * (t * (m * m)) + m * m := by grind
    have h3 := Int.mul_le_mul_of_nonneg_left k1 (Int.le_of_lt hc)
    omega
  exact Int.le_of_mul_le_mul_left h2 hb
def gcdL (ns : List Int) : Int := ns.foldl (fun d n => ((Int.gcd d n : Nat) : Int)) 0
theorem gcdL_snoc (ns : List Int) (n : Int) : gcdL (ns ++ [n]) = ((Int.gcd (gcdL ns) n : Nat) : Int) := by unfold gcdL; rw [List.foldl_append]; rfl
theorem gcd_fold : ∀ (ns : List Int) (d : Int), (ns.foldl (fun d n => ((Int.gcd d n : Nat) : Int)) d ∣ d) /\ (∀ n ∈ ns, ns.foldl (fun d n => ((Int.gcd d n : Nat) : Int)) d ∣ n) /\ ∀ e : Int, e ∣ d -> (∀ n ∈ ns, e ∣ n) -> e ∣ ns.foldl (fun d n => ((Int.gcd d n : Nat) : Int)) d
  | [], d => ⟨Int.dvd_refl d, (fun _ h => nomatch h), fun e h _ => h⟩
  | n :: ns, d => by
    obtain ⟨a, b, c⟩ := gcd_fold ns ((Int.gcd d n : Nat) : Int)
    refine ⟨Int.dvd_trans a (Int.gcd_dvd_left d n), fun k hk => ?_, fun e he hn => c e (Int.dvd_coe_gcd he (hn n List.mem_cons_self)) fun k hk => hn k (List.mem_cons_of_mem _ hk)⟩
    rcases List.mem_cons.mp hk with z | z
    · subst z; exact Int.dvd_trans a (Int.gcd_dvd_right d k)
    · exact b k z
theorem gcdL_dvd {ns : List Int} {n : Int} (h : n ∈ ns) : gcdL ns ∣ n := (gcd_fold ns 0).2.1 n h
theorem gcdL_great {ns : List Int} {e : Int} (h : ∀ n ∈ ns, e ∣ n) : e ∣ gcdL ns := (gcd_fold ns 0).2.2 e (Int.dvd_zero e) h
theorem gcdL_nn : ∀ (ns : List Int) (d : Int), 0 <= d -> 0 <= ns.foldl (fun d n => ((Int.gcd d n : Nat) : Int)) d
  | [], _, h => h
  | n :: ns, d, _ => gcdL_nn ns _ (Int.natCast_nonneg _)
theorem gcdL_pos {ns : List Int} {n : Int} (h : n ∈ ns) (hn : 1 <= n) : 0 < gcdL ns := by
  have h0 : 0 <= gcdL ns := gcdL_nn ns 0 (Int.le_refl 0)
  rcases (by omega : 0 < gcdL ns ∨ gcdL ns = 0) with z | z
  · exact z
  · have := gcdL_dvd h
    rw [z] at this
    have := Int.zero_dvd.mp this
    omega
end Tb
set_option maxHeartbeats 4000000
namespace TD
open PySem L2
open Builtin.Int (intBits)
structure Row where
  p : Addr
  q : Addr
  t : Int
  b : Int
  w : Int
def Row.r (x : Row) : Tb.Rw := ⟨x.t, x.b, x.w⟩
def RowAt (H : Hp) (x : Row) : Prop := H x.p = some (.tup [.ref x.q, .int x.w]) /\ H x.q = some (.tup [.int x.t, .int x.b])
def refs (xs : List Row) : List V := xs.map fun x => V.ref x.p
structure TabAt (H : Hp) (a : Addr) (xs : List Row) : Prop where
  lst : H a = some (.lst (refs xs))
  rows : ∀ x ∈ xs, RowAt H x
def rws (xs : List Row) : List Tb.Rw := xs.map Row.r
theorem RowAt.same {H H' : Hp} {x : Row} (s : Same H H') (h : RowAt H x) : RowAt H' x := ⟨s _ _ h.1, s _ _ h.2⟩
theorem TabAt.same {H H' : Hp} {a : Addr} {xs : List Row} (s : Same H H') (h : TabAt H a xs) : TabAt H' a xs := ⟨s _ _ h.lst, fun x hx => (h.rows x hx).same s⟩
theorem refs_length (xs : List Row) : (refs xs).length = xs.length := List.length_map _
theorem rws_length (xs : List Row) : (rws xs).length = xs.length := List.length_map _
theorem refs_at {xs : List Row} {i : Nat} {v : V} (h : (refs xs)[i]? = some v) : ∃ x, xs[i]? = some x /\ v = .ref x.p := by
  unfold refs at h
  rw [List.getElem?_map] at h
  cases e : xs[i]? with
  | none => rw [e] at h; cases h
  | some x => rw [e] at h; cases h; exact ⟨x, rfl, rfl⟩
theorem refs_snoc (xs : List Row) (y : Row) : refs (xs ++ [y]) = refs xs ++ [V.ref y.p] := by unfold refs; rw [List.map_append]; rfl
theorem rws_snoc (xs : List Row) (y : Row) : rws (xs ++ [y]) = rws xs ++ [y.r] := by unfold rws; rw [List.map_append]; rfl
theorem rws_append (xs ys : List Row) : rws (xs ++ ys) = rws xs ++ rws ys := by unfold rws; rw [List.map_append]
theorem take_snoc {α : Type} {xs : List α} {i : Nat} {x : α} (h : xs[i]? = some x) : xs.take (i + 1) = xs.take i ++ [x] := by
  rw [List.take_add_one, h]
  rfl
theorem RowAt.over {H : Hp} {a : Addr} {xs zs : List V} {x : Row} (h : RowAt H x) (e : H a = some (.lst xs)) : RowAt (upd H a (.lst zs)) x :=
  ⟨by rw [upd_ne (ne_of h.1 e fun z => nomatch z)]; exact h.1, by rw [upd_ne (ne_of h.2 e fun z => nomatch z)]; exact h.2⟩
theorem sz1 : 1 <= sizeLine := Nat.le_of_lt (small1000 (by decide))
theorem sz2 : 2 <= sizeLine := Nat.le_of_lt (small1000 (by decide))
theorem sz3 : 3 <= sizeLine := Nat.le_of_lt (small1000 (by decide))
theorem mulOk {m n : Nat} {x y : Int} (hx : intBits x <= m) (hy : intBits y <= n) (h : m + n <= 134217728) : CMulB x y := Nat.le_trans (Nat.add_le_add hx hy) h
theorem kit_same {K : PySem.W.Frag} (T : String) : PySem.W.kitOne K (.type T) (.type T) = some true := by
  unfold PySem.W.kitOne
  rw [if_pos (beq_self_eq_true _)]
theorem kit_int_bool {K : PySem.W.Frag} : PySem.W.kitOne K (.type "int") (.type "bool") = some false := by rfl
structure Rs where
  q : Addr
  t : Int
  b : Int
def rrefs (rs : List Rs) : List V := rs.map fun r => V.ref r.q
def LtR (x y : Rs) : Prop := x.t * y.b < y.t * x.b
def LeR (x y : Rs) : Prop := x.t * y.b <= y.t * x.b
def keyR (r : Rs) : List Key := [.inl r.t, .inl r.b]
def RsAt (H : Hp) (r : Rs) : Prop := H r.q = some (.tup [.int r.t, .int r.b])
theorem rrefs_length (rs : List Rs) : (rrefs rs).length = rs.length := List.length_map _
theorem rrefs_q (rs : List Rs) : rrefs rs = (rs.map (·.q)).map V.ref := by unfold rrefs; rw [List.map_map]; rfl
theorem rrefs_at {rs : List Rs} {i : Nat} {v : V} (h : (rrefs rs)[i]? = some v) : ∃ x, rs[i]? = some x /\ v = .ref x.q := by
  unfold rrefs at h
  rw [List.getElem?_map] at h
  cases e : rs[i]? with
  | none => rw [e] at h; cases h
  | some x => rw [e] at h; cases h; exact ⟨x, rfl, rfl⟩
theorem keyR_eq {x : Rs} {t b : Int} : keyR x = [.inl t, .inl b] ↔ x.t = t /\ x.b = b := by
  unfold keyR
  constructor
  · intro h
    injection h with h1 h2
    injection h2 with h2 _
    injection h1 with h1
    injection h2 with h2
    exact ⟨h1, h2⟩
  · rintro ⟨rfl, rfl⟩; rfl
theorem le_lt {x y : Rs} (fx : Fr.IsFr x.t x.b) (fy : Fr.IsFr y.t y.b) (h : LeR x y) (ne : keyR x ≠ keyR y) : LtR x y := by
  unfold LeR at h
  unfold LtR
  rcases (by omega : x.t * y.b < y.t * x.b ∨ x.t * y.b = y.t * x.b) with z | z
  · exact z
  · obtain ⟨e1, e2⟩ := Fr.unique fx fy z
    exact absurd (keyR_eq.mpr ⟨e1, e2⟩) ne
structure Dk (ps : List Tb.Rw) (kvs : List (List Key × V)) : Prop where
  nd : (kvs.map (·.1)).Nodup
  en : ∀ kv ∈ kvs, ∃ t b, kv = ([.inl t, .inl b], .int (Tb.Wt ps t b)) /\ Tb.Has ps t b
  all : ∀ t b, Tb.Has ps t b -> ([Sum.inl t, Sum.inl b] : List Key) ∈ kvs.map (·.1)
theorem Dk.nil : Dk [] [] := ⟨List.nodup_nil, (fun _ h => nomatch h), fun t b h => absurd h Tb.Has_nil⟩
theorem valV_mem {kvs : List (List Key × V)} {k : List Key} {v : V} (h : valV kvs k = some v) : (k, v) ∈ kvs := by
  unfold valV at h
  cases e : kvs.find? fun kv => decide (kv.1 = k) with
  | none => rw [e] at h; cases h
  | some kv =>
    rw [e] at h
    have h1 : kv.2 = v := Option.some.inj h
    have h2 := List.find?_some e
    have h3 : kv.1 = k := of_decide_eq_true h2
    rw [<- h1, <- h3]
    exact List.mem_of_find?_eq_some e
theorem key_inj {t b t' b' : Int} (h : ([Sum.inl t, Sum.inl b] : List Key) = [.inl t', .inl b']) : t = t' /\ b = b' := by
  injection h with h1 h2
  injection h2 with h2 _
  injection h1 with h1
  injection h2 with h2
  exact ⟨h1, h2⟩
theorem Dk.val {ps : List Tb.Rw} {kvs : List (List Key × V)} (d : Dk ps kvs) {t b : Int} (h : Tb.Has ps t b) : valV kvs [.inl t, .inl b] = some (.int (Tb.Wt ps t b)) := by
  cases e : valV kvs [.inl t, .inl b] with
  | none => exact absurd (d.all t b h) (valV_not e)
  | some v =>
    obtain ⟨t', b', e2, _⟩ := d.en _ (valV_mem e)
    injection e2 with e3 e4
    obtain ⟨rfl, rfl⟩ := key_inj e3
    rw [e4]
theorem Dk.get {ps : List Tb.Rw} {kvs : List (List Key × V)} (d : Dk ps kvs) (t b : Int) : (valV kvs [.inl t, .inl b]).getD (.int 0) = .int (Tb.Wt ps t b) := by
  by_cases h : Tb.Has ps t b
  · rw [d.val h]; rfl
  · cases e : valV kvs [.inl t, .inl b] with
    | none => rw [Tb.Wt_zero h]; rfl
    | some v =>
      obtain ⟨t', b', e2, h2⟩ := d.en _ (valV_mem e)
      injection e2 with e3 e4
      obtain ⟨rfl, rfl⟩ := key_inj e3
      exact absurd h2 h
theorem putK_mem {kvs : List (List Key × V)} {k : List Key} {v : V} {kv : List Key × V} (h : kv ∈ putK kvs k v) : kv = (k, v) ∨ (kv ∈ kvs /\ kv.1 ≠ k) := by
  unfold putK at h
  split at h
  · obtain ⟨x, hx, e⟩ := List.mem_map.mp h
    split at e
    · rename_i ek
      left
      rw [<- e, ek]
    · rename_i ek
      right
      rw [<- e]
      exact ⟨hx, ek⟩
  · rename_i na
    rcases List.mem_append.mp h with z | z
    · right
      refine ⟨z, fun ek => na ?_⟩
      exact List.any_eq_true.mpr ⟨kv, z, decide_eq_true ek⟩
    · exact .inl (by simpa using z)
theorem putK_keys {kvs : List (List Key × V)} {k : List Key} {v : V} : (putK kvs k v).map (·.1) = if (kvs.any fun kv => decide (kv.1 = k)) = true then kvs.map (·.1) else kvs.map (·.1) ++ [k] := by
  unfold putK
  split
  · rw [List.map_map]
    refine List.map_congr_left fun x _ => ?_
    show (if x.1 = k then (x.1, v) else x).1 = x.1
    split <;> rfl
  · rw [List.map_append]; rfl
theorem Dk.put {ps : List Tb.Rw} {kvs : List (List Key × V)} (d : Dk ps kvs) (x : Tb.Rw) : Dk (ps ++ [x]) (putK kvs [.inl x.t, .inl x.b] (.int (Tb.Wt ps x.t x.b + x.w))) := by
  have hx : ∀ t b, Tb.Wt [x] t b = if x.t = t /\ x.b = b then x.w else 0 := fun t b => by rw [Tb.Wt_cons, Tb.Wt_nil, Int.add_zero]
  refine ⟨?_, fun kv hkv => ?_, fun t b h => ?_⟩
  · rw [putK_keys]
    split
    · exact d.nd
    · rename_i na
      refine List.nodup_append.mpr ⟨d.nd, List.nodup_cons.mpr ⟨List.not_mem_nil, List.nodup_nil⟩, fun y hy z hz => ?_⟩
      rw [List.mem_singleton.mp hz]
      rintro rfl
      obtain ⟨kv, hkv, e⟩ := List.mem_map.mp hy
      exact na (List.any_eq_true.mpr ⟨kv, hkv, decide_eq_true e⟩)
  · rcases putK_mem hkv with z | ⟨z, ne⟩
    · refine ⟨x.t, x.b, ?_, Tb.Has_append.mpr (.inr ⟨x, List.mem_cons_self, rfl, rfl⟩)⟩
      rw [z, Tb.Wt_append, hx, if_pos ⟨rfl, rfl⟩]
    · obtain ⟨t, b, e, h⟩ := d.en kv z
      refine ⟨t, b, ?_, Tb.Has_append.mpr (.inl h)⟩
      rw [Tb.Wt_append, hx, if_neg ?_, Int.add_zero]
      · exact e
      · rintro ⟨rfl, rfl⟩
        exact ne (by rw [e])
  · rw [putK_keys]
    have key : ([Sum.inl t, Sum.inl b] : List Key) ∈ kvs.map (·.1) ∨ ([Sum.inl t, Sum.inl b] : List Key) = [.inl x.t, .inl x.b] := by
      rcases Tb.Has_append.mp h with z | ⟨p, hp, e1, e2⟩
      · exact .inl (d.all t b z)
      · right
        rw [List.mem_singleton.mp hp] at e1 e2
        rw [e1, e2]
    split
    · rename_i ya
      rcases key with z | z
      · exact z
      · obtain ⟨kv, hkv, e⟩ := List.any_eq_true.mp ya
        rw [z, <- of_decide_eq_true e]
        exact List.mem_map.mpr ⟨kv, hkv, rfl⟩
    · rcases key with z | z
      · exact List.mem_append_left _ z
      · rw [z]; exact List.mem_append_right _ (.head _)
def wOf (kv : List Key × V) : Int := match kv.2 with | .int w => w | _ => 0
def divOf (kvs : List (List Key × V)) : Int := Tb.gcdL (kvs.map wOf)
theorem Dk.wOf {ps : List Tb.Rw} {kvs : List (List Key × V)} (d : Dk ps kvs) {t b : Int} (h : Tb.Has ps t b) : Tb.Wt ps t b ∈ kvs.map TD.wOf := by
  have m := valV_mem (d.val h)
  exact List.mem_map.mpr ⟨_, m, rfl⟩
theorem Dk.ne {ps : List Tb.Rw} {kvs : List (List Key × V)} (d : Dk ps kvs) (h : ps ≠ []) : kvs ≠ [] := by
  cases ps with
  | nil => exact absurd rfl h
  | cons p ps =>
    intro e
    have := d.all p.t p.b (Tb.Has_cons.mpr (.inl ⟨rfl, rfl⟩))
    rw [e] at this
    cases this
theorem Dk.div_pos {ps : List Tb.Rw} {kvs : List (List Key × V)} (d : Dk ps kvs) (h : ps ≠ []) (hw : ∀ p ∈ ps, 1 <= p.w) : 0 < divOf kvs := by
  cases ps with
  | nil => exact absurd rfl h
  | cons p ps =>
    have hp : Tb.Has (p :: ps) p.t p.b := Tb.Has_cons.mpr (.inl ⟨rfl, rfl⟩)
    exact Tb.gcdL_pos (d.wOf hp) (Tb.Wt_pos hw hp)
theorem part_by {w d : Int} (hd : 0 < d) (hw : 1 <= w) (h : d ∣ w) : w = w.fdiv d * d /\ 1 <= w.fdiv d /\ w.fdiv d <= w := by
  obtain ⟨c, e⟩ := h
  have ec : w.fdiv d = c := by
    have h := Int.mul_fdiv_cancel_left (a := d) c (Int.ne_of_gt hd)
    rw [<- e] at h
    exact h
  rw [ec]
  have cp : 0 < c := by
    rcases (by omega : 0 < c ∨ c <= 0) with z | z
    · exact z
    · have := Int.mul_nonpos_of_nonneg_of_nonpos (Int.le_of_lt hd) z
      omega
  have := Int.mul_le_mul_of_nonneg_right (show (1 : Int) <= d by omega) (Int.le_of_lt cp)
  refine ⟨by rw [e, Int.mul_comm], by omega, by omega⟩
theorem mk_tab {ps : List Tb.Rw} {kvs : List (List Key × V)} {rs : List Rs} {ys : List Row} (d : Dk ps kvs) (hw : ∀ p ∈ ps, 1 <= p.w) (hf : ∀ p ∈ ps, Fr.IsFr p.t p.b) (hne : ps ≠ []) (pr : (rs.map keyR).Perm (kvs.map (·.1))) (so : rs.Pairwise LtR)
    (ey : ys.map (fun y => Rs.mk y.q y.t y.b) = rs) (yw : ∀ y ∈ ys, y.w = (Tb.Wt ps y.t y.b).fdiv (divOf kvs)) : Tb.IsTab ps (rws ys) /\ ∀ y ∈ ys, 1 <= y.w /\ y.w <= Tb.Wt ps y.t y.b := by
  have dp := d.div_pos hne hw
  have yk : ∀ y ∈ ys, Tb.Has ps y.t y.b := fun y hy => by
    have h1 : keyR (Rs.mk y.q y.t y.b) ∈ rs.map keyR := by
      rw [<- ey]
      exact List.mem_map.mpr ⟨_, List.mem_map.mpr ⟨y, hy, rfl⟩, rfl⟩
    obtain ⟨kv, hkv, e⟩ := List.mem_map.mp (pr.mem_iff.mp h1)
    obtain ⟨t, b, e2, h⟩ := d.en kv hkv
    rw [e2] at e
    obtain ⟨e3, e4⟩ := keyR_eq.mp e.symm
    have e3 : y.t = t := e3
    have e4 : y.b = b := e4
    rw [e3, e4]
    exact h
  have pb : ∀ y ∈ ys, Tb.Wt ps y.t y.b = y.w * divOf kvs /\ 1 <= y.w /\ y.w <= Tb.Wt ps y.t y.b := fun y hy => by
    rw [yw y hy]
    exact part_by dp (Tb.Wt_pos hw (yk y hy)) (Tb.gcdL_dvd (d.wOf (yk y hy)))
  have back : ∀ t b, Tb.Has ps t b -> ∃ y ∈ ys, y.t = t /\ y.b = b := fun t b h => by
    obtain ⟨r, hr, e⟩ := List.mem_map.mp (pr.mem_iff.mpr (d.all t b h))
    rw [<- ey] at hr
    obtain ⟨y, hy, rfl⟩ := List.mem_map.mp hr
    exact ⟨y, hy, keyR_eq.mp e⟩
  refine ⟨⟨?_, fun y hy => ?_, fun t b => ?_, ⟨divOf kvs, dp, fun y hy => ?_⟩, fun e he => ?_⟩, fun y hy => (pb y hy).2⟩
  · have h : (ys.map fun y => Rs.mk y.q y.t y.b).Pairwise LtR := by rw [ey]; exact so
    unfold rws
    rw [List.pairwise_map] at h ⊢
    exact h
  · obtain ⟨z, hz, rfl⟩ := List.mem_map.mp hy
    obtain ⟨p, hp, e1, e2⟩ := yk z hz
    have := hf p hp
    rw [e1, e2] at this
    exact this
  · constructor
    · rintro ⟨y, hy, rfl, rfl⟩
      obtain ⟨z, hz, rfl⟩ := List.mem_map.mp hy
      exact yk z hz
    · intro h
      obtain ⟨y, hy, e1, e2⟩ := back t b h
      exact ⟨y.r, List.mem_map.mpr ⟨y, hy, rfl⟩, e1, e2⟩
  · obtain ⟨z, hz, rfl⟩ := List.mem_map.mp hy
    exact (pb z hz).1
  · have g : e * divOf kvs ∣ divOf kvs := by
      refine Tb.gcdL_great fun n hn => ?_
      obtain ⟨kv, hkv, rfl⟩ := List.mem_map.mp hn
      obtain ⟨t, b, e2, h⟩ := d.en kv hkv
      obtain ⟨y, hy, rfl, rfl⟩ := back t b h
      have q := (pb y hy).1
      have q2 := he y.r (List.mem_map.mpr ⟨y, hy, rfl⟩)
      rw [e2]
      show e * divOf kvs ∣ Tb.Wt ps y.t y.b
      rw [q]
      exact Int.mul_dvd_mul_right _ q2
    have g2 : e * divOf kvs ∣ 1 * divOf kvs := by rw [Int.one_mul]; exact g
    exact Int.dvd_of_mul_dvd_mul_right (Int.ne_of_gt dp) g2
theorem perm_lift {α β : Type} {f : α -> β} : ∀ {x m : List β}, x.Perm m -> ∀ l : List α, x = l.map f -> ∃ l' : List α, l'.Perm l /\ m = l'.map f := by
  intro x m h
  induction h with
  | nil => intro l e; exact ⟨l, .refl _, e⟩
  | cons a p ih =>
    intro l e
    cases l with
    | nil => cases e
    | cons b l =>
      injection e with e1 e2
      obtain ⟨l', p', e'⟩ := ih l e2
      exact ⟨b :: l', p'.cons b, by rw [List.map_cons, <- e1, <- e']⟩
  | swap a b t =>
    intro l e
    match l, e with
    | c :: d :: l, e =>
      injection e with e1 e2
      injection e2 with e2 e3
      exact ⟨d :: c :: l, .swap .., by rw [List.map_cons, List.map_cons, <- e1, <- e2, <- e3]⟩
  | trans p q ih1 ih2 =>
    intro l e
    obtain ⟨l1, p1, e1⟩ := ih1 l e
    obtain ⟨l2, p2, e2⟩ := ih2 l1 e1
    exact ⟨l2, p2.trans p1, e2⟩
def keyN (m : Int) (r : Rs) : Int := (r.t * (m * m)).fdiv r.b
theorem zip_keys {β : Type} (f : Rs -> β) (g : Rs -> Addr) : ∀ rs : List Rs, (rs.map f).zip (rs.map g) = rs.map fun r => (f r, g r)
  | [] => rfl
  | r :: rs => by simp [zip_keys f g rs]
theorem rise_of {m : Int} {rs : List Rs} {ps : List (Int × Addr)} (hp : ps.Perm ((rs.map (keyN m)).zip (rs.map (·.q)))) (hs : ps.Pairwise fun p q => p.1 <= q.1) (nd : (rs.map keyR).Nodup) (fr : ∀ r ∈ rs, Fr.IsFr r.t r.b) (hm : ∀ r ∈ rs, r.b <= m) :
    ∃ rs' : List Rs, rs'.Perm rs /\ ps.map (fun p => V.ref p.2) = rrefs rs' /\ rs'.Pairwise LtR := by
  rw [zip_keys] at hp
  obtain ⟨rs', p', e⟩ := perm_lift hp.symm rs rfl
  refine ⟨rs', p', ?_, ?_⟩
  · rw [e, List.map_map]; rfl
  · have nd' : (rs'.map keyR).Nodup := (p'.map keyR).nodup_iff.mpr nd
    rw [e, List.pairwise_map] at hs
    have nd2 : rs'.Pairwise fun x y => keyR x ≠ keyR y := List.pairwise_map.mp nd'
    refine (hs.and nd2).imp_of_mem fun {x y} hx hy h => ?_
    have fx := fr x (p'.mem_iff.mp hx)
    have fy := fr y (p'.mem_iff.mp hy)
    refine le_lt fx fy ?_ h.2
    unfold LeR
    rcases (by omega : x.t * y.b <= y.t * x.b ∨ y.t * x.b < x.t * y.b) with z | z
    · exact z
    · have := Tb.key_mono fy.pos fx.pos (hm y (p'.mem_iff.mp hy)) (hm x (p'.mem_iff.mp hx)) z
      have h1 : keyN m x <= keyN m y := h.1
      unfold keyN at h1
      omega
end TD
namespace L2
open PySem PySem.Spec PyProof.Rows
end L2
namespace TD
open PySem L2
open Builtin.Int (intBits)
def lcmStep (m n : Int) : Int := m * (n.fdiv ((Int.gcd m n : Nat) : Int))
def lcmL (ns : List Int) : Int := ns.foldl lcmStep 1
theorem lcmStep_ok {m n : Int} (hm : 0 < m) (hn : 0 < n) : 0 < lcmStep m n /\ m ∣ lcmStep m n /\ n ∣ lcmStep m n := by
  have hg : 0 < ((Int.gcd m n : Nat) : Int) := by have := Int.gcd_pos_of_ne_zero_right m (Int.ne_of_gt hn); omega
  obtain ⟨c, hc⟩ := Int.gcd_dvd_right m n
  obtain ⟨d, hd⟩ := Int.gcd_dvd_left m n
  have e : n.fdiv ((Int.gcd m n : Nat) : Int) = c := by
    have h := Int.mul_fdiv_cancel_left (a := ((Int.gcd m n : Nat) : Int)) c (by omega)
    rw [<- hc] at h
    exact h
  have cp : 0 < c := by
    rcases (by omega : 0 < c ∨ c <= 0) with z | z
    · exact z
    · have := Int.mul_nonpos_of_nonneg_of_nonpos (Int.le_of_lt hg) z
      omega
  unfold lcmStep
  rw [e]
  refine ⟨Int.mul_pos hm cp, ⟨c, rfl⟩, ⟨d, ?_⟩⟩
  generalize ((Int.gcd m n : Nat) : Int) = g at *
  rw [hc, hd]
  grind
theorem lcm_fold : ∀ (ns : List Int) (m : Int), 0 < m -> (∀ n ∈ ns, 0 < n) -> 0 < ns.foldl lcmStep m /\ m ∣ ns.foldl lcmStep m /\ ∀ n ∈ ns, n ∣ ns.foldl lcmStep m
  | [], m, hm, _ => ⟨hm, Int.dvd_refl m, fun _ h => nomatch h⟩
  | n :: ns, m, hm, h => by
    obtain ⟨a, b, c⟩ := lcmStep_ok hm (h n List.mem_cons_self)
    obtain ⟨x, y, z⟩ := lcm_fold ns (lcmStep m n) a fun k hk => h k (List.mem_cons_of_mem _ hk)
    refine ⟨x, Int.dvd_trans b y, fun k hk => ?_⟩
    rcases List.mem_cons.mp hk with e | e
    · subst e; exact Int.dvd_trans c y
    · exact z k e
theorem lcmL_ok {ns : List Int} (h : ∀ n ∈ ns, 0 < n) : 0 < lcmL ns /\ ∀ n ∈ ns, n ∣ lcmL ns := by
  obtain ⟨a, _, c⟩ := lcm_fold ns 1 (by decide) h
  exact ⟨a, c⟩
theorem lcm_bits : ∀ (ns : List Int) (m : Int) (k : Nat), intBits m <= k -> intBits (ns.foldl lcmStep m) <= k + (ns.map intBits).sum
  | [], m, k, h => by simpa using h
  | n :: ns, m, k, h => by
    have h1 : intBits (lcmStep m n) <= k + intBits n := PySem.intBits_mul_le h (PySem.intBits_fdiv_le (Nat.le_refl _))
    have := lcm_bits ns (lcmStep m n) _ h1
    simp only [List.map_cons, List.sum_cons]
    show intBits (ns.foldl lcmStep (lcmStep m n)) <= _
    omega
theorem lcmL_bits (ns : List Int) : intBits (lcmL ns) <= 1 + (ns.map intBits).sum := lcm_bits ns 1 1 (by decide)
theorem lcmL_snoc (ns : List Int) (n : Int) : lcmL (ns ++ [n]) = lcmStep (lcmL ns) n := by unfold lcmL; rw [List.foldl_append]; rfl
theorem sum_take_le (ns : List Int) (i : Nat) : ((ns.take i).map intBits).sum <= (ns.map intBits).sum := by
  have e : ns.map intBits = (ns.take i).map intBits ++ (ns.drop i).map intBits := by rw [<- List.map_append, List.take_append_drop]
  rw [e, List.sum_append]
  omega
theorem sum_nat_le {k : Nat} : ∀ {l : List Nat}, (∀ n ∈ l, n <= k) -> l.sum <= k * l.length
  | [], _ => by simp
  | n :: l, h => by
    have a := sum_nat_le (l := l) fun m hm => h m (List.mem_cons_of_mem _ hm)
    have b := h n List.mem_cons_self
    simp only [List.sum_cons, List.length_cons]
    rw [Nat.mul_add, Nat.mul_one]
    omega
def spCd : Sp := fun vs H Q _ => ∃ a b : Int, vs = [.int a, .int b] /\ Q (.int ((Int.gcd a b : Nat) : Int)) H
def spShare : Sp := fun vs H Q _ => ∃ t b : Int, vs = [.int t, .int b] /\ b ≠ 0 /\ intBits b <= 9000 /\ ∀ p H', Same H H' -> H' p = some (.tup [.int (Fr.sh t b).1, .int (Fr.sh t b).2]) -> Q (.ref p) H'
def spLow : Sp := fun vs H Q _ => ∃ t b : Int, vs = [.int t, .int b] /\ 0 < b /\ intBits b <= 9000 /\ ∀ p H', Same H H' -> H' p = some (.tup [.int (Fr.sh t b).1, .int (Fr.sh t b).2]) -> Q (.ref p) H'
structure Sz (a b c d : Int) : Prop where
  a : intBits a <= 10000
  b : intBits b <= 10000
  c : intBits c <= 10000
  d : intBits d <= 10000
def spBelow (K : PySem.W.Frag) : Sp := fun vs H Q _ => ∃ p q a b c d, vs = [.ref p, .ref q] /\ SqT K H p [.int a, .int b] /\ SqT K H q [.int c, .int d] /\ Sz a b c d /\ Q (.bl (decide (a * d < c * b))) H
def spCM (K : PySem.W.Frag) : Sp := fun vs H Q _ => ∃ (a : Addr) (ns : List Int), vs = [.ref a] /\ SqL K H a (ns.map V.int) /\ (∀ n ∈ ns, 0 < n) /\ (∀ n ∈ ns, intBits n <= 9000) /\ (ns.map intBits).sum <= 200000 /\ Q (.int (lcmL ns)) H
def wsum (xs : List Row) : Int := (xs.map Row.w).sum
def spAW : Sp := fun vs H Q _ => ∃ (a : Addr) (xs : List Row), vs = [.ref a] /\ TabAt H a xs /\ xs.length <= 1000 /\ ∀ H', Same H H' -> Q (.int (wsum xs)) H'
def lamQ : Str := ("rising" : Str) ++ ".<locals>." ++ "<lambda>"
def spRise (K : PySem.W.Frag) (P : Addr) (lp : Pos) : Sp := fun vs H Q _ => ∃ (a : Addr) (rs : List Rs), vs = [.ref a] /\ SqL K H a (rrefs rs) /\ rs ≠ [] /\ rs.length < 64 /\ (∀ r ∈ rs, RsAt H r /\ Fr.IsFr r.t r.b /\ intBits r.t <= 4000 /\ intBits r.b <= 4000) /\ (rs.map keyR).Nodup /\ TbOk P lp lamQ H ∧
  ∀ (D : Addr) (H' : Hp) (rs' : List Rs), SameT P H H' -> TbOk P lp lamQ H' -> H' D = some (.lst (rrefs rs')) -> rs'.Perm rs -> rs'.Pairwise LtR -> Q (.ref D) H'
def m300 : Int := 2 ^ 4000
def PB (xs : List Row) : Prop := ∀ x ∈ xs, Fr.IsFr x.t x.b /\ intBits x.t <= 4000 /\ intBits x.b <= 4000 /\ 1 <= x.w /\ x.w <= m300
structure Out (ps : List Tb.Rw) (ys : List Row) : Prop where
  tab : Tb.IsTab ps (rws ys)
  w : ∀ y ∈ ys, 1 <= y.w /\ y.w <= Tb.Wt ps y.t y.b
def spForm (P : Addr) (lp : Pos) : Sp := fun vs H Q _ => ∃ (a : Addr) (xs : List Row), vs = [.ref a] /\ TabAt H a xs /\ xs ≠ [] /\ xs.length < 64 /\ PB xs /\ TbOk P lp lamQ H ∧
  ∀ (r : Addr) (H' : Hp) (ys : List Row), SameT P H H' -> TbOk P lp lamQ H' -> H r = none -> TabAt H' r ys -> Out (rws xs) ys -> ys.length <= xs.length -> Q (.ref r) H'
theorem PB.ps {xs : List Row} (h : PB xs) : (∀ p ∈ rws xs, 1 <= p.w) /\ ∀ p ∈ rws xs, Fr.IsFr p.t p.b := by
  refine ⟨fun p hp => ?_, fun p hp => ?_⟩ <;>
  · obtain ⟨x, hx, rfl⟩ := List.mem_map.mp hp
    first | exact (h x hx).2.2.2.1 | exact (h x hx).1
theorem wsum_W (xs : List Row) : wsum xs = Tb.W (rws xs) := by
  unfold wsum Tb.W rws
  rw [List.map_map]
  rfl
theorem W_le {m : Int} (hm : 0 <= m) : ∀ {ps : List Tb.Rw}, (∀ p ∈ ps, 1 <= p.w /\ p.w <= m) -> 0 <= Tb.W ps /\ Tb.W ps <= m * (ps.length : Int)
  | [], _ => by simp [Tb.W]
  | p :: ps, h => by
    obtain ⟨a, b⟩ := W_le hm (ps := ps) fun y hy => h y (List.mem_cons_of_mem _ hy)
    obtain ⟨c, d⟩ := h p List.mem_cons_self
    have f : m * ((p :: ps).length : Int) = m + m * (ps.length : Int) := by rw [List.length_cons]; grind
    rw [Tb.W_cons]
    omega
theorem Out.key {ps : List Tb.Rw} {ys : List Row} (o : Out ps ys) {y : Row} (hy : y ∈ ys) : ∃ p ∈ ps, p.t = y.t /\ p.b = y.b := (o.tab.has y.t y.b).mp ⟨y.r, List.mem_map.mpr ⟨y, hy, rfl⟩, rfl, rfl⟩
theorem Out.ne {ps : List Tb.Rw} {ys : List Row} (o : Out ps ys) (h : ps ≠ []) : ys ≠ [] := by
  rintro rfl
  cases ps with
  | nil => exact h rfl
  | cons p ps => exact Tb.Has_nil ((o.tab.has p.t p.b).mpr (Tb.Has_cons.mpr (.inl ⟨rfl, rfl⟩)))
theorem div_bits {ps : List Tb.Rw} {kvs : List (List Key × V)} (d : Dk ps kvs) (hne : ps ≠ []) (hw : ∀ p ∈ ps, 1 <= p.w /\ p.w <= m300) (hl : ps.length <= 1000) : intBits (divOf kvs) <= 9000 := by
  have dp := d.div_pos hne fun p hp => (hw p hp).1
  cases ps with
  | nil => exact absurd rfl hne
  | cons p ps =>
    have hp : Tb.Has (p :: ps) p.t p.b := Tb.Has_cons.mpr (.inl ⟨rfl, rfl⟩)
    have w1 := Tb.Wt_pos (fun p hp => (hw p hp).1) hp
    have w2 := Tb.Wt_le p.t p.b (ps := p :: ps) fun p hp => (hw p hp).1
    have w3 := (W_le (by decide) hw).2
    have dv := Int.le_of_dvd (by omega) (Tb.gcdL_dvd (d.wOf hp))
    have dv : divOf kvs <= Tb.Wt (p :: ps) p.t p.b := dv
    refine PySem.intBits_le_iff.mpr ?_
    have e : m300 * (((p :: ps).length : Nat) : Int) <= m300 * 1000 := Int.mul_le_mul_of_nonneg_left (by omega) (by decide)
    have e2 : m300 * 1000 < ((2 ^ 9000 : Nat) : Int) := by decide +kernel
    omega
end TD
namespace Sd
structure Fq (t b N k : Int) : Prop where
  fr : Fr.IsFr t b
  dv : b ∣ N
  lo : -(k * b) <= t
  hi : t <= k * b
theorem mul_le_r {a b c : Int} (h : a <= b) (hc : 0 <= c) : a * c <= b * c := Int.mul_le_mul_of_nonneg_right h hc
theorem Fq.mono {t b N k N' k' : Int} (f : Fq t b N k) (h : N ∣ N') (hk : k <= k') : Fq t b N' k' := by
  have p := Int.le_of_lt f.fr.pos
  have e := mul_le_r hk p
  exact ⟨f.fr, Int.dvd_trans f.dv h, by have := f.lo; omega, by have := f.hi; omega⟩
theorem sh_dvd {t b u N : Int} (hb : 0 < b) (e : t * N = u * b) : (Fr.sh t b).2 ∣ N := by
  have hn : b ≠ 0 := Int.ne_of_gt hb
  have cr := Fr.sh_cross t b
  refine Fr.cop (a := (Fr.sh t b).1) (Fr.sh_red hn) ⟨u, ?_⟩
  have h : (Fr.sh t b).1 * N * b = (Fr.sh t b).2 * u * b := by
    have h1 : (Fr.sh t b).1 * N * b = ((Fr.sh t b).1 * b) * N := by grind
    have h2 : (Fr.sh t b).2 * u * b = (Fr.sh t b).2 * (u * b) := by grind
    rw [h1, h2, cr, <- e]
    grind
  exact Int.eq_of_mul_eq_mul_right hn h
theorem sh_fq {t b u N k : Int} (hb : 0 < b) (e : t * N = u * b) (lo : -(k * b) <= t) (hi : t <= k * b) : Fq (Fr.sh t b).1 (Fr.sh t b).2 N k := by
  have hn : b ≠ 0 := Int.ne_of_gt hb
  have cr := Fr.sh_cross t b
  have yp := Int.le_of_lt (Fr.sh_pos (t := t) hn)
  refine ⟨Fr.sh_ok hn, sh_dvd hb e, ?_, ?_⟩
  · have h := mul_le_r lo yp
    rw [<- cr] at h
    refine Int.le_of_mul_le_mul_right (a := b) ?_ hb
    have : -(k * (Fr.sh t b).2) * b = -(k * b) * (Fr.sh t b).2 := by grind
    rw [this]
    exact h
  · have h := mul_le_r hi yp
    rw [<- cr] at h
    refine Int.le_of_mul_le_mul_right (a := b) ?_ hb
    have : k * (Fr.sh t b).2 * b = k * b * (Fr.sh t b).2 := by grind
    rw [this]
    exact h
def tms (x y : Int × Int) : Int × Int := Fr.sh (x.1 * y.1) (x.2 * y.2)
abbrev FQ (x : Int × Int) (N k : Int) : Prop := Fq x.1 x.2 N k
theorem FQ.tms {x y : Int × Int} {M N k : Int} (f : FQ x M 1) (h0 : 0 <= x.1) (g : FQ y N k) (hk : 0 <= k) : FQ (tms x y) (M * N) k := by
  obtain ⟨n1, e1⟩ := f.dv
  obtain ⟨n2, e2⟩ := g.dv
  have xp := f.fr.pos
  have yp := g.fr.pos
  have x1 := f.hi
  have kp : 0 <= k * y.2 := Int.mul_nonneg hk (Int.le_of_lt yp)
  refine sh_fq (u := x.1 * n1 * (y.1 * n2)) (Int.mul_pos xp yp) ?_ ?_ ?_
  · rw [e1, e2]
    grind
  · have a := Int.mul_le_mul_of_nonneg_left g.lo h0
    have b := mul_le_r x1 kp
    have c : x.1 * -(k * y.2) = -(x.1 * (k * y.2)) := by grind
    have d : k * (x.2 * y.2) = 1 * x.2 * (k * y.2) := by grind
    rw [d]
    rw [c] at a
    omega
  · have a := Int.mul_le_mul_of_nonneg_left g.hi h0
    have b := mul_le_r x1 kp
    have d : k * (x.2 * y.2) = 1 * x.2 * (k * y.2) := by grind
    rw [d]
    omega
inductive Sd where
  | en (v : Int)
  | st (p : Int) (rs : List (Int × Sd))
inductive Ok : Sd -> Nat -> Nat -> Prop
  | en {v : Int} {d m : Nat} (h0 : 0 <= v) (h9 : v <= 1000000000) (hm : 1 <= m) : Ok (.en v) d m
  | st {p : Int} {rs : List (Int × Sd)} {d m : Nat} {f : Int × Sd -> Nat} (h0 : 0 <= p) (h9 : p <= 1000000000) (ne : rs ≠ []) (l4 : rs.length <= 4) (w : ∀ r ∈ rs, 1 <= r.1 /\ r.1 <= 1000) (sub : ∀ r ∈ rs, Ok r.2 d (f r)) (hk : (rs.map f).sum <= m) : Ok (.st p rs) (d + 1) m
def wtot (rs : List (Int × Sd)) : Int := (rs.map (·.1)).sum
def prodL : List Int -> Int
  | [] => 1
  | n :: ns => n * prodL ns
theorem prodL_pos : ∀ {l : List Int}, (∀ n ∈ l, 0 < n) -> 0 < prodL l
  | [], _ => by decide
  | n :: l, h => Int.mul_pos (h n List.mem_cons_self) (prodL_pos fun m hm => h m (List.mem_cons_of_mem _ hm))
theorem prodL_dvd : ∀ {l : List Int} {n : Int}, n ∈ l -> n ∣ prodL l
  | m :: l, n, h => by
    rcases List.mem_cons.mp h with e | e
    · subst e; exact ⟨_, rfl⟩
    · exact Int.dvd_trans (prodL_dvd e) ⟨m, by show m * prodL l = prodL l * m; grind⟩
theorem pow_pos2 (n : Nat) : (0 : Int) < 2 ^ n := Int.pow_pos (by decide)
theorem prodL_le {e : Nat} : ∀ {l : List Int}, (∀ n ∈ l, 0 < n /\ n <= 2 ^ e) -> prodL l <= 2 ^ (l.length * e)
  | [], _ => by simp [prodL]
  | n :: l, h => by
    have ih := prodL_le (l := l) fun m hm => h m (List.mem_cons_of_mem _ hm)
    have hn := h n List.mem_cons_self
    have pp := prodL_pos (l := l) fun m hm => (h m (List.mem_cons_of_mem _ hm)).1
    show n * prodL l <= _
    rw [List.length_cons, Nat.succ_mul, Nat.add_comm, Int.pow_add]
    exact Int.le_trans (Int.mul_le_mul_of_nonneg_right hn.2 (Int.le_of_lt pp)) (Int.mul_le_mul_of_nonneg_left ih (Int.le_of_lt (pow_pos2 e)))
theorem sum_w : ∀ {rs : List (Int × Sd)}, (∀ r ∈ rs, 1 <= r.1 /\ r.1 <= 1000) -> (rs.length : Int) <= wtot rs /\ wtot rs <= 1000 * (rs.length : Int)
  | [], _ => by decide
  | r :: rs, h => by
    have ih := sum_w (rs := rs) fun x hx => h x (List.mem_cons_of_mem _ hx)
    have hr := h r List.mem_cons_self
    have e : wtot (r :: rs) = r.1 + wtot rs := by unfold wtot; rw [List.map_cons, List.sum_cons]
    rw [e, List.length_cons]
    push_cast
    omega
theorem pow_le2 {a b : Nat} (h : a <= b) : (2 : Int) ^ a <= 2 ^ b := by
  obtain ⟨c, rfl⟩ := Nat.exists_eq_add_of_le h
  rw [Int.pow_add]
  have h1 : (1 : Int) <= 2 ^ c := by have := pow_pos2 c; omega
  have := Int.mul_le_mul_of_nonneg_left h1 (Int.le_of_lt (pow_pos2 a))
  omega
theorem wt_pos {rs : List (Int × Sd)} (ne : rs ≠ []) (w : ∀ r ∈ rs, 1 <= r.1 /\ r.1 <= 1000) (l4 : rs.length <= 4) : 1 <= wtot rs /\ wtot rs <= 4000 := by
  have := sum_w w
  have : 0 < rs.length := List.length_pos_iff.mpr ne
  omega
theorem Ok.m1 {s : Sd} {d m : Nat} (ok : Ok s d m) : 1 <= m := by
  induction ok with
  | en _ _ h => exact h
  | @st p rs d m k h0 h9 ne l4 w sub hk ih =>
    cases rs with
    | nil => exact absurd rfl ne
    | cons r rs =>
      have h1 := ih r List.mem_cons_self
      rw [List.map_cons, List.sum_cons] at hk
      omega
theorem f_le {α : Type} {f : α -> Nat} {m : Nat} : ∀ {l : List α}, (l.map f).sum <= m -> ∀ x ∈ l, f x <= m
  | y :: l, h, x, hx => by
    rw [List.map_cons, List.sum_cons] at h
    rcases List.mem_cons.mp hx with e | e
    · subst e; omega
    · exact f_le (l := l) (by omega) x e
def kB : Nat -> Int
  | 0 => 2147483648
  | d + 1 => 1000000000 + 4 * kB d
structure Lv (l : Int × Int) : Prop where
  fr : Fr.IsFr l.1 l.2
  b : l.2 <= 2 ^ 10
  lo : -(2147483648 * l.2) <= l.1
  hi : l.1 <= 2147483648 * l.2
theorem Lv.fq {l : Int × Int} (h : Lv l) : FQ l l.2 2147483648 := ⟨h.fr, Int.dvd_refl _, h.lo, h.hi⟩
theorem fr1 (v : Int) : Fr.IsFr v 1 := ⟨by decide, by simp⟩
theorem sh_w {w W : Int} (h0 : 1 <= w) (h1 : w <= W) : FQ (Fr.sh w W) W 1 /\ 0 <= (Fr.sh w W).1 := by
  have Wp : 0 < W := by omega
  refine ⟨sh_fq (u := w) Wp rfl (by omega) (by omega), ?_⟩
  have cr := Fr.sh_cross w W
  have yp := Fr.sh_pos (t := w) (Int.ne_of_gt Wp)
  rcases Int.lt_or_le (Fr.sh w W).1 0 with z | z
  · exfalso
    have a : (Fr.sh w W).1 * W < 0 := Int.mul_neg_of_neg_of_pos z Wp
    have b : 0 < w * (Fr.sh w W).2 := Int.mul_pos (by omega) yp
    omega
  · exact z
theorem mem_wt : ∀ {rs : List (Int × Sd)} {r : Int × Sd}, (∀ r ∈ rs, 1 <= r.1 /\ r.1 <= 1000) -> r ∈ rs -> r.1 <= wtot rs
  | x :: rs, r, h, hr => by
    have e : wtot (x :: rs) = x.1 + wtot rs := by unfold wtot; rw [List.map_cons, List.sum_cons]
    have w0 := sum_w (rs := rs) fun x hx => h x (List.mem_cons_of_mem _ hx)
    have hx := h x List.mem_cons_self
    rcases List.mem_cons.mp hr with z | z
    · subst z; omega
    · have := mem_wt (fun x hx => h x (List.mem_cons_of_mem _ hx)) z
      omega
end Sd
namespace L2
open PySem PySem.Spec PyProof.Rows
theorem range_all (bs : List Bool) : (List.range bs.length).all (fun i => bs.getD i false) = bs.all id := by
  rw [Bool.eq_iff_iff]
  simp only [List.all_eq_true, List.mem_range]
  constructor
  · intro h b hb
    obtain ⟨i, hi, e⟩ := List.mem_iff_getElem.mp hb
    have q := h i hi
    rw [getD_at hi, e] at q
    exact q
  · intro h i hi
    rw [getD_at hi]
    exact h _ (List.getElem_mem hi)
section
variable {X : Cx} {K : PySem.W.Frag}
theorem bls_at {us : List Value} {bs : List Bool} (h : Vals (bs.map V.bl) us) {i : Nat} {v : Value} (e : us[i]? = some v) : v = .bool (bs.getD i false) := by
  have hl := h.length
  rw [List.length_map] at hl
  have hi : i < us.length := (List.getElem?_eq_some_iff.mp e).1
  have e2 : (bs.map V.bl)[i]? = some (.bl (bs.getD i false)) := by
    rw [List.getElem?_map, List.getElem?_eq_getElem (by omega), getD_at (by omega)]
    rfl
  obtain ⟨u, hu, r⟩ := h.get e2
  rw [e] at hu
  cases hu
  exact r
theorem call_allL (hK : X.K = K) (hc : X.calm = true) : CallR X (.builtin "all") (fun xs H Q => ∃ (a : Addr) (bs : List Bool), xs = [.ref a] /\ SqL K H a (bs.map V.bl) /\ Q (.bl (bs.all id)) H) := by
  subst hK
  intro pins s σ H xs us Q I r h
  obtain ⟨a, bs, rfl, hS, q⟩ := h
  obtain ⟨u, rfl, ru⟩ := vals1 r
  cases (show u = Value.ref a from ru)
  obtain ⟨its, rv, pl, hz⟩ := I.list hS
  have lt : a < s.heap.objs.size := by obtain ⟨o, e, _⟩ := pl.isList; exact Heap.lt_size e
  have hl := rv.length
  rw [List.length_map] at hl
  refine call_all_walk (wpAny_pyIter_list pl.isList ⟨s.heap.objs.size, _, _, _, _, _, fun i => bs.getD i false, rfl, Walks.list (A := X.A.in1) (I.ok.hd hc) s.heap.objs.size a (Nat.ne_of_lt lt) its.toArray, ⟨⟨_, Heap.get?_push_size _ rfl, rfl, rfl⟩, pl.isList.push _⟩, ?_, fun h' tk hk => ?_⟩)
  · intro i v s' Q' E' hv hQ
    have e := bls_at rv (i := i) (v := v) (by simpa using hv)
    rw [e]
    exact wpAny_truthy_bool hQ
  · refine ⟨.bl (bs.all id), H, I.kept (t' := tk) fun b o e => hk b o (fun z => ?_) (Heap.get?_push_of_some _ e), ?_, q⟩
    · rw [List.mem_singleton.mp z] at e
      exact absurd (Heap.lt_size e) (Nat.lt_irrefl _)
    · show Value.bool _ = Value.bool _
      rw [List.size_toArray, <- hl, range_all]
end
end L2
namespace L2
open PySem PySem.Spec PyProof.Rows
structure ClsM (K : PySem.W.Frag) (C : Addr) (m : Str) (f : Addr) : Prop where
  ga : PySem.W.specialIn K (.ref C) "__getattribute__" = some (some (.builtin "type.__getattribute__"))
  rd : PySem.W.readsIn K C (.type "type") = true
  at_ : PySem.W.findCls K (.ref C) (.type "type") m = some (.val (.ref f))
  hd : PySem.W.handedIn (.ref f) = true
  kp : PySem.W.keepIn K (.ref f) = true
section
variable {X : Cx} {CX : CXT} {C f : Addr} {fd : FuncData} {k : Nat} {x m : Str} {ps : List Str} {ds : List Value} {dvs : List V} {sp : Sp} {E : XK} {e : Expr} {es : List Expr} {t : TA} {p apos pos : Pos}
theorem pe_clsm {pl : Sem Bool} (hg : Gl X x) (hm : X.mg x = some (.ref C)) (c : ClsM X.K C m f) (F : FnOk X.prog X.w X.K X.mg X.base CX k f fd ps sp) (hr : Room k X.A) (hb : Binds X.K fd ps ds) (hd : Vals dvs ds) (hx : Passes CX X E) (ha : PA X (e :: es) t)
    (hdb : (x == ("__debug__" : Str)) = false := by decide)
    (hst : starEach (e :: es) X.env = (false, eval e X.env) :: starEach es X.env := by rfl) (hpl : (backTo pos (starEach es X.env)).any (·.1) = false := by rfl)
    (ht : eval (.Call (.Attribute (.Name x p) m apos) (e :: es) [] pos) X.env = (do
      let ov <- eval (.Name x p) X.env
      standAt apos.atName
      let (f, first) <- holding [ov] (getMethod ov m pl)
      callWith pos f first (backTo pos (starEach (e :: es) X.env)) (backToKw pos (keywordEach [] X.env))) := by rfl) :
    PE X (.Call (.Attribute (.Name x p) m apos) (e :: es) [] pos) (tCall sp dvs E t) := by
  intro pins s σ H Q I h
  refine PySem.W.methodCall_KW (pl := pl) (ld_glob I hg hm ?_ hdb) ht
  refine PySem.W.method_cls I.kIn c.ga (PySem.W.cls_value I.kIn c.rd c.at_ c.hd ?_)
  have I2 := I.tok (s.toks + 1)
  refine PySem.W.callWith_K (first := []) (h₀ := X.base) I.ok.mod.kin c.kp (thn (ha pos pins _ σ H _ I2 h) fun us s1 ⟨vs, H1, I1, r, q⟩ => ⟨I1.kIn, ?_⟩) hst hpl
  exact run_fn F hr hb hd hx I1 r q
theorem pe_either {e : Expr} {t u : TE} (h1 : PE X e t) (h2 : PE X e u) : PE X e (fun σ H Q => t σ H Q ∨ u σ H Q) := fun pins s σ H Q I h => h.elim (h1 pins s σ H Q I) (h2 pins s σ H Q I)
theorem call_isinstC {K : PySem.W.Frag} (hK : X.K = K) : CallR X (.builtin "isinstance") (fun xs H Q => ∃ (x : V) (C : Addr) (t : Value) (b : Bool), xs = [x, .ref C] /\ TyOf K H x t /\ PySem.W.kitOne K t (.ref C) = some b /\ Q (.bl b) H) := by
  subst hK
  intro pins s σ H xs us Q I r h
  obtain ⟨x, C, t, b, rfl, ty, e, q⟩ := h
  obtain ⟨u, w', rfl, rx, rt⟩ := vals2 r
  cases (show w' = Value.ref C from rt)
  exact isinst_ok I rx ty e fun tk => ⟨.bl b, H, I.tok _, rfl, q⟩
end
end L2
namespace L2
open PySem PySem.Spec PyProof.Rows
section
variable {P : Program} {w : World} {H H' : Hp} {B h0 h1 h2 : Heap} {fs : List Addr}
end
structure XCls (K : PySem.W.Frag) (C : Addr) : Prop where
  isx : PySem.W.excIn K C ([.type "ValueError", .type "Exception", .type "BaseException", .type "object"]) "ValueError.__new__" = true
section
variable {X : Cx}
end
section
variable {P : Program} {w : World} {K : PySem.W.Frag} {mg : Str -> Option Value} {base : Heap} {N : List Str} {qual : Str} {scope : Scope} {f : Addr} {cd : Value} {A : Around} {outer : List Env} {s : Shared} {H : Hp} {E : XK}
end
end L2
namespace L2
open PySem PySem.Spec PySem.Calls PyProof.Rows PySem.W Builtin Builtin.ObjectAttr Builtin.Getset_descriptor
def IsX (a : Addr) (cls : Value) (h : Heap) : Prop := ∃ o, h.get? a = some o /\ o.cls = cls
theorem IsX.ty {a : Addr} {cls : Value} {h : Heap} {M : Model} (x : IsX a cls h) : Looks M h (typeOf (.ref a)) cls := by
  obtain ⟨o, e, rfl⟩ := x
  exact (Looks.ld e).andThen .now
structure XTy (K : Frag) (D : Addr) : Prop where
  ga : findIn K (.ref D) "__getattribute__" = some (some (.builtin "BaseException.__getattribute__"))
  gt : findIn K (.ref D) "__getattr__" = some none
  mb : mroIn K D (.type "BaseException") = some true
  cl : (clsIn K D).isSome = true
  fi : findIn K (.ref D) "__class__" = some (some (.builtin "object.__class__"))
  sp : specialIn K (.builtin "object.__class__") "__get__" = some (some (.builtin "getset_descriptor.__get__"))
  tk : takesIn K (.builtin "object.__class__") = some true
  mr : mroIn K D (.type "object") = some true
section
variable {prog : Program} {w : World} {A : Around} {E : Value -> Shared -> Prop} {s : Shared} {K : Frag} {a D : Addr}
end
section
variable {X : Cx}
end
end L2
namespace L2
open PySem PySem.Spec PySem.W PyProof.Rows
section
variable {X : Cx}
theorem tys_of : ∀ (cs : List String) (its : List Value), Vals (cs.map V.ty) its -> its = cs.map Value.type := by
  intro cs
  induction cs with
  | nil => intro its r; cases r; rfl
  | cons c cs ih => intro its r; cases r with | cons r1 r2 => rw [ih _ r2]; cases r1; rfl
theorem call_isinstT {K : Frag} (hK : X.K = K) : CallR X (.builtin "isinstance") (fun xs H Q => ∃ (x : V) (p : Addr) (t : Value) (cs : List String) (b : Bool), xs = [x, .ref p] /\ TyOf K H x t /\ H p = some (.tup (cs.map V.ty)) /\ kitAny K t (cs.map Value.type) = some b /\ Q (.bl b) H) := by
  subst hK
  rintro pins s σ H vs us Q I r ⟨x, p, t, cs, b, rfl, ty, ht, e, q⟩
  obtain ⟨u, u2, rfl, rx, r2⟩ := vals2 r
  obtain rfl : u2 = Value.ref p := r2
  obtain ⟨_, its, rv, o, ho, hc, n, hd⟩ := (show ObjOk X.prog X.w H s.heap p (.tup (cs.map V.ty)) from I.hok p _ ht)
  obtain rfl := tys_of cs its rv
  obtain ⟨oc, od, oda, osl⟩ := o
  dsimp only at hc hd
  subst hc
  subst hd
  have fin : ∀ tk, EP X pins σ Q (.bool b) { s with toks := tk } := fun tk => ⟨.bl b, H, I.tok _, rfl, q⟩
  cases ty with
  | non => cases (show u = Value.none from rx); exact kia_tup kitx_none I.kIn True.intro ho e (fun z => nomatch z) fin
  | bl y => cases (show u = Value.bool y from rx); exact kia_tup kitx_bool I.kIn True.intro ho e (fun z => nomatch z) fin
  | int i => obtain ⟨t, z⟩ := (show ∃ t, u = Value.int i t from rx); cases z; exact kia_tup kitx_int I.kIn True.intro ho e (fun z => nomatch z) fin
  | str y => obtain ⟨t, z⟩ := (show ∃ t, u = Value.str y t from rx); cases z; exact kia_tup kitx_str I.kIn True.intro ho e (fun z => nomatch z) fin
  | flt y => obtain ⟨t, z⟩ := (show ∃ t, u = Value.float y t from rx); cases z; exact kia_tup kitx_float I.kIn True.intro ho e (fun z => nomatch z) fin
  | @lst a xs ea =>
    cases (show u = Value.ref a from rx)
    obtain ⟨_, _, n, _, h1⟩ := (show ObjOk X.prog X.w H s.heap a (.lst xs) from I.hok a _ ea)
    exact kia_tup kitx_list I.kIn ⟨_, h1, rfl⟩ ho e (fun z => nomatch z) fin
  | @frz a ob xs ea =>
    cases (show u = Value.ref a from rx)
    obtain ⟨_, _, _, n, _, h1⟩ := (show ObjOk X.prog X.w H s.heap a (.frz ob (.lst xs)) from I.hok a _ ea)
    exact kia_tup kitx_list I.kIn ⟨_, h1, rfl⟩ ho e (fun z => nomatch z) fin
  | @tup a xs ea =>
    cases (show u = Value.ref a from rx)
    obtain ⟨_, _, _, pp⟩ := (show ObjOk X.prog X.w H s.heap a (.tup xs) from I.hok a _ ea)
    obtain ⟨o, h1, h2, _⟩ := pp
    exact kia_tup kitx_tuple I.kIn ⟨o, h1, h2⟩ ho e (fun z => nomatch z) fin
  | @dK a kvs ea =>
    cases (show u = Value.ref a from rx)
    obtain ⟨_, _, vs, _, pp⟩ := (show ObjOk X.prog X.w H s.heap a (.dK kvs) from I.hok a _ ea)
    obtain ⟨o, es, ep, h1, h2, _⟩ := pp
    exact kia_tup kitx_dict I.kIn ⟨o, h1, h2.1⟩ ho e (fun z => nomatch z) fin
  | @dT a kvs ea =>
    cases (show u = Value.ref a from rx)
    obtain ⟨_, _, xs, _, o, es, ep, h1, h2, _⟩ := (show ObjOk X.prog X.w H s.heap a (.dT kvs) from I.hok a _ ea)
    exact kia_tup kitx_dict I.kIn ⟨o, h1, h2.1⟩ ho e (fun z => nomatch z) fin
  | @ins a C dx fs ea cl ha hn htk hm =>
    cases (show u = Value.ref a from rx)
    obtain ⟨mA, O, _⟩ := ins_get I.hok ea
    obtain ⟨od, J, _⟩ := O.look
    exact kia_tup (kitx_own (cl.get _) cl.hd ha hn htk hm) I.kIn J ho e (fun z => nomatch z) fin
end
end L2
namespace L2
open PySem PySem.Spec PyProof.Rows
section
variable {X : Cx}
theorem Inv.turnedLaid {pins : List (Addr × Obj)} {σ : St} {H : Hp} {s : Shared} {h' : Heap} {t' : Nat} {ch : List Addr} {a : Addr} {o : HO} (I : Inv X pins σ H s) (hf : ∀ b ∈ ch, FpOk X pins H b)
    (k : ∀ b u, b ∉ ch -> s.heap.get? b = some u -> h'.get? b = some u) (hp : s.heap.objs.size <= a) (new : ObjOk X.prog X.w (upd H a o) h' a o) : Inv X pins σ (upd H a o) { s with heap := h', toks := t' } := by
  have hn := I.hok.fresh hp
  have nit : ∀ b u, H b = some u -> b ∉ ch := fun b u e z => by rw [(hf b z).1] at e; cases e
  refine I.step (g' := s.gens) (d' := s.drawn) (ch := ch) (fun b hb => ?_) (fun b o _ _ hc e _ => k b o hc e) (fun b o _ _ hc e _ => ⟨o.slots, k b o hc e⟩) (fun b u hc e n => ?_) (fun b o hc e => ⟨o, k b o hc e⟩)
    (fun b xs e => by rw [upd_ne (ne_of_none e hn)]; exact e) (fun b o u e => by rw [upd_ne (ne_of_none e hn)]; exact e) (fun b ps e => ⟨#[], by rw [upd_ne (ne_of_none e hn), e]; simp⟩) (fun m hm => ?_) (fun b u e => ?_) I.bare
  · obtain ⟨_, f1, f2, f3, f4, f5⟩ := hf b hb
    exact ⟨f3, f1, f4, f5⟩
  · rw [upd_ne (Nat.ne_of_lt (Nat.lt_of_lt_of_le (Heap.lt_size e) hp))]
    exact n
  · obtain ⟨o, es, ep, ho, r⟩ := hm
    exact ⟨o, es, ep, k _ o (fun z => (hf _ z).2.1 rfl) ho, r⟩
  · by_cases hb : b = a
    · subst hb
      rw [upd_same] at e
      cases e
      exact new
    · rw [upd_ne hb] at e
      refine (I.hok b u e).stay (fun c v hc q => k c v ?_ q) (fun c q => by rw [upd_ne (ne_of_none q hn)]; exact q) fun c xs q => by rw [upd_ne (ne_of_none q hn)]; exact q
      rcases hc with z | z
      · rw [z]; exact nit b u e
      · exact nit c _ z
theorem Inv.turnedN {pins : List (Addr × Obj)} {σ : St} {H : Hp} {s : Shared} {h' : Heap} {t' : Nat} {ch : List Addr} (I : Inv X pins σ H s) (hf : ∀ b ∈ ch, FpOk X pins H b)
    (k : ∀ b u, b ∉ ch -> s.heap.get? b = some u -> h'.get? b = some u) : Inv X pins σ H { s with heap := h', toks := t' } := by
  have nit : ∀ b u, H b = some u -> b ∉ ch := fun b u e z => by rw [(hf b z).1] at e; cases e
  refine I.step (g' := s.gens) (d' := s.drawn) (ch := ch) (fun b hb => ?_) (fun b o _ _ hc e _ => k b o hc e) (fun b o _ _ hc e _ => ⟨o.slots, k b o hc e⟩) (fun _ _ _ _ n => n) (fun b o hc e => ⟨o, k b o hc e⟩)
    (fun _ _ e => e) (fun _ _ _ e => e) (fun b ps e => ⟨#[], by rw [e]; simp⟩) (fun m hm => ?_) (fun b u e => ?_) I.bare
  · obtain ⟨_, f1, f2, f3, f4, f5⟩ := hf b hb
    exact ⟨f3, f1, f4, f5⟩
  · obtain ⟨o, es, ep, ho, r⟩ := hm
    exact ⟨o, es, ep, k _ o (fun z => (hf _ z).2.1 rfl) ho, r⟩
  · refine (I.hok b u e).stay (fun c v hc q => k c v ?_ q) (fun _ q => q) fun _ _ q => q
    rcases hc with z | z
    · rw [z]; exact nit b u e
    · exact nit c _ z
end
end L2
namespace L2
open PySem PySem.Spec PyProof.Rows
section
variable {X : Cx} {tg : Expr}
end
end L2
namespace PySem
namespace F
end F
end PySem
namespace L2
open PySem PySem.Spec PyProof.Rows
section
variable {X : Cx}
end
end L2
namespace L2
open PySem PySem.Spec PyProof.Rows
theorem comp_tup {K : PySem.W.Frag} {a : Addr} {xs : List V} {k : Nat} {g : TG} {c : TT} {te : TE} {σ : St} {H1 : Hp} {D : Addr} {Q : VK} (Pv : Nat -> St -> Hp -> Prop) (h0 : Pv 0 (List.replicate k none ++ σ) (upd H1 D (.lst [])))
    (hl : ∀ i τ H, i <= xs.length -> Pv i τ H -> SqT K H a xs)
    (hs : ∀ i m x τ H, m = xs.length - i -> i < xs.length -> xs[i]? = some x -> Pv i τ H -> g x τ H fun τ2 H2 => c τ2 H2 fun b H3 => if b = true then te τ2 H3 fun y H4 => ∃ ys m', m' < m /\ H4 D = some (.lst ys) /\ ys.length < sizeLine /\ CW xs.length Pv (i + 1) m' τ2 (upd H4 D (.lst (ys ++ [y]))) else ∃ m', m' < m /\ CW xs.length Pv (i + 1) m' τ2 H3)
    (hd : ∀ τ H, Pv xs.length τ H -> Q (.ref D) H) : CompW k (Itt K a) g c te σ H1 D Q := by
  refine ⟨CW xs.length Pv, ⟨xs.length, rfl, Nat.zero_le _, h0⟩, ?_⟩
  rintro i m τ H ⟨hm, hi, p⟩
  have q := hl i τ H hi p
  by_cases hlt : i < xs.length
  · refine .inr ⟨⟨xs, xs[i], q, by simp [hlt]⟩, fun x H' y => ?_⟩
    obtain ⟨e, y⟩ := y
    subst e
    exact hs i m x τ _ hm hlt (y xs q) p
  · have e : i = xs.length := by omega
    subst e
    exact .inl ⟨⟨xs, q, Nat.le_refl _⟩, hd τ H p⟩
theorem gyes {i : Nat} {v : V} {τ : St} {H : Hp} {A B : St -> Hp -> Prop} (h : A (τ.set i (some v)) H) : gName i v τ H (fun τ2 H2 => tYes τ2 H2 (fun b H3 => if b = true then A τ2 H3 else B τ2 H3)) := tyes_if (τ := τ.set i (some v)) (A := A (τ.set i (some v))) (B := B (τ.set i (some v))) h
theorem for_rev {K : PySem.W.Frag} {a : Addr} {xs : List V} {g : TG} {tb : TS} {D : Ends} {σ : St} {H : Hp} (Pv : Nat -> St -> Hp -> Prop) (h0 : Pv 0 σ H) (hl : ∀ i σ H, i <= xs.length -> Pv i σ H -> SqL K H a xs)
    (hs : ∀ i x σ H, i < xs.length -> xs[xs.length - 1 - i]? = some x -> Pv i σ H -> g x σ H fun σ2 H2 => tb { D with nx := Pv (i + 1), ct := Pv (i + 1), bk := D.nx } σ2 H2) (hd : ∀ σ H, Pv xs.length σ H -> D.nx σ H) :
    ∃ W : Nat -> Nat -> St -> Hp -> Prop, (∃ m, W 0 m σ H) /\ ∀ i m σ H, W i m σ H ->
      ((ItR K a xs).stop i H /\ D.nx σ H) ∨ ((ItR K a xs).go i H /\ ∃ N : St -> Hp -> Prop, (∀ σ' H', N σ' H' -> ∃ m', m' < m /\ W (i + 1) m' σ' H') /\ ∀ x H', (ItR K a xs).yld i H x H' -> g x σ H' fun σ2 H2 => tb { D with nx := N, ct := N, bk := D.nx } σ2 H2) := by
  refine ⟨fun i m σ H => m = xs.length - i /\ i <= xs.length /\ Pv i σ H, ⟨xs.length, by simp, Nat.zero_le _, h0⟩, ?_⟩
  rintro i m σ H ⟨rfl, hi, p⟩
  have q := hl i σ H hi p
  by_cases hlt : i < xs.length
  · refine .inr ⟨⟨hlt, q⟩, Pv (i + 1), fun σ' H' p' => ⟨xs.length - (i + 1), by omega, rfl, hlt, p'⟩, fun x H' y => ?_⟩
    obtain ⟨e, y⟩ := y
    subst e
    exact hs i x σ _ hlt y p
  · have e : i = xs.length := by omega
    subst e
    exact .inl ⟨Nat.le_refl _, hd σ H p⟩
end L2
namespace TD
open PySem L2
open Builtin.Int (intBits)
abbrev Tq (H : Hp) (p : Addr) (x : Int × Int) : Prop := H p = some (.tup [.int x.1, .int x.2])
structure Z4 (x : Int × Int) : Prop where
  t : intBits x.1 <= 4400
  b : intBits x.2 <= 4400
  p : 0 < x.2
abbrev Is (ns : List Int) : List V := ns.map V.int
theorem is_length (ns : List Int) : (Is ns).length = ns.length := List.length_map _
theorem is_snoc (xs : List Int) (y : Int) : Is (xs ++ [y]) = Is xs ++ [V.int y] := by show (xs ++ [y]).map V.int = _; rw [List.map_append]; rfl
theorem is_at {ns : List Int} {i : Nat} {v : V} (h : (Is ns)[i]? = some v) : ∃ n, ns[i]? = some n /\ v = .int n := by
  rw [List.getElem?_map] at h
  cases e : ns[i]? with
  | none => rw [e] at h; cases h
  | some n => rw [e] at h; cases h; exact ⟨n, rfl, rfl⟩
def spIsW : Sp := fun vs H Q _ => ∃ i lo hi : Int, vs = [.int i, .int lo, .int hi] /\ lo <= i /\ i <= hi /\ Q (.bl true) H
def spWh : Sp := fun vs H Q _ => ∃ i : Int, vs = [.int i] /\ ∀ p H', Same H H' -> Tq H' p (i, 1) -> Q (.ref p) H'
def spTm : Sp := fun vs H Q _ => ∃ (p q : Addr) (x y : Int × Int), vs = [.ref p, .ref q] /\ Tq H p x /\ Tq H q y /\ Z4 x /\ Z4 y /\ ∀ r H', Same H H' -> Tq H' r (Sd.tms x y) -> Q (.ref r) H'
def spLs (K : PySem.W.Frag) : Sp := fun vs H Q _ => ∃ p q a b c d, vs = [.ref p, .ref q] /\ SqT K H p [.int a, .int b] /\ SqT K H q [.int c, .int d] /\ Sz a b c d /\ (c * b < a * d -> Q (.ref q) H) /\ (¬ c * b < a * d -> Q (.ref p) H)
def spLess : Sp := fun vs H Q _ => ∃ (p q : Addr) (x y : Int × Int), vs = [.ref p, .ref q] /\ Tq H p x /\ Tq H q y /\ Z4 x /\ Z4 y /\ Q (.bl (decide (x.1 * y.2 < y.1 * x.2))) H
theorem bits_of {x : Int} {k : Nat} (h0 : -(2 ^ k) < x) (h1 : x < 2 ^ k) : intBits x <= k := by
  refine PySem.intBits_le_iff.mpr ?_
  have e : ((2 ^ k : Nat) : Int) = 2 ^ k := by push_cast; rfl
  omega
theorem fq_bits {t b N k : Int} {n j : Nat} (f : Sd.Fq t b N k) (hN : 0 < N) (hn : N <= 2 ^ n) (k0 : 0 <= k) (hj : k <= 2 ^ j) : intBits b <= n + 1 /\ intBits t <= n + j + 1 := by
  have bp := f.fr.pos
  have bl := Int.le_of_dvd hN f.dv
  have e1 : b <= 2 ^ n := Int.le_trans bl hn
  have e2 : k * b <= 2 ^ j * 2 ^ n := Int.le_trans (Int.mul_le_mul_of_nonneg_right hj (Int.le_of_lt bp)) (Int.mul_le_mul_of_nonneg_left e1 (Int.le_of_lt (Sd.pow_pos2 j)))
  rw [<- Int.pow_add, Nat.add_comm] at e2
  have p1 : (2 : Int) ^ (n + 1) = 2 * 2 ^ n := by rw [Int.pow_succ]; omega
  have p2 : (2 : Int) ^ (n + j + 1) = 2 * 2 ^ (n + j) := by rw [Int.pow_succ]; omega
  have q1 := Sd.pow_pos2 n
  have q2 := Sd.pow_pos2 (n + j)
  have l := f.lo
  have h := f.hi
  exact ⟨bits_of (by omega) (by omega), bits_of (by omega) (by omega)⟩
structure GT (xs : List Row) (n : Nat) (W M k : Int) : Prop where
  ne : xs ≠ []
  len : xs.length <= n
  w1 : ∀ x ∈ xs, 1 <= x.w
  ws : wsum xs <= W
  mp : 0 < M
  fq : ∀ x ∈ xs, Sd.Fq x.t x.b M k
structure Cp (n : Nat) (W M k : Int) : Prop where
  n : n <= 12
  w : W <= 2 ^ 600
  m : M <= 2 ^ 1600
  k0 : 0 <= k
  k : k <= 2 ^ 1600
theorem wsum_pos {xs : List Row} (w1 : ∀ x ∈ xs, 1 <= x.w) : ∀ {x : Row}, x ∈ xs -> x.w <= wsum xs := by
  induction xs with
  | nil => intro x h; cases h
  | cons y ys ih =>
    intro x hx
    have e : wsum (y :: ys) = y.w + wsum ys := by unfold wsum; rw [List.map_cons, List.sum_cons]
    have y1 := w1 y List.mem_cons_self
    have n0 : 0 <= wsum ys := by
      clear ih hx
      induction ys with
      | nil => exact Int.le_refl _
      | cons z zs ih =>
        have e : wsum (z :: zs) = z.w + wsum zs := by unfold wsum; rw [List.map_cons, List.sum_cons]
        have z1 := w1 z (List.mem_cons_of_mem _ List.mem_cons_self)
        have := ih (fun x hx => by
          rcases List.mem_cons.mp hx with h | h
          · subst h; exact y1
          · exact w1 x (List.mem_cons_of_mem _ (List.mem_cons_of_mem _ h))) (by unfold wsum; rw [List.map_cons, List.sum_cons])
        omega
    rcases List.mem_cons.mp hx with h | h
    · subst h; omega
    · have := ih (fun x hx => w1 x (List.mem_cons_of_mem _ hx)) h
      omega
theorem GT.bits {xs : List Row} {n : Nat} {W M k : Int} (g : GT xs n W M k) (c : Cp n W M k) {x : Row} (hx : x ∈ xs) : intBits x.b <= 1601 /\ intBits x.t <= 3201 := by
  have := fq_bits (g.fq x hx) g.mp c.m c.k0 c.k
  omega
theorem GT.pb {xs : List Row} {n : Nat} {W M k : Int} (g : GT xs n W M k) (c : Cp n W M k) : PB xs := fun x hx => by
  have b := g.bits c hx
  have w := wsum_pos g.w1 hx
  have w2 := g.ws
  have w3 := c.w
  have e : (2 : Int) ^ 600 <= m300 := by decide +kernel
  exact ⟨(g.fq x hx).fr, by omega, by omega, g.w1 x hx, by omega⟩
theorem GT.tot {xs : List Row} {n : Nat} {W M k : Int} (g : GT xs n W M k) : 1 <= wsum xs := by
  cases xs with
  | nil => exact absurd rfl g.ne
  | cons x xs =>
    have := wsum_pos g.w1 (x := x) List.mem_cons_self
    have := g.w1 x List.mem_cons_self
    omega
def TpAt (H : Hp) (a : Addr) (xs : List Row) : Prop := H a = some (.tup (refs xs)) /\ ∀ x ∈ xs, RowAt H x
theorem TpAt.same {H H' : Hp} {a : Addr} {xs : List Row} (s : Same H H') (h : TpAt H a xs) : TpAt H' a xs := ⟨s _ _ h.1, fun x hx => (h.2 x hx).same s⟩
def be : Nat -> Nat
  | 0 => 1
  | d + 1 => be d + (12 * (d + 1) + 1)
def ka : Nat -> Nat
  | 0 => 30
  | d + 1 => ka d + (12 * (d + 1) + 1) * 12 + 1
def wB (d m : Nat) : Int := 2 ^ ((12 * d + 1) * m)
def kK (d : Nat) : Int := 2 ^ ka d
theorem cp_of {d m : Nat} {M : Int} (hd : d <= 4) (hm : m <= 12) (hM : M <= 2 ^ (be d * m)) : Cp m (wB d m) M (kK d) := by
  have b : be d <= 125 := by
    rcases (by omega : d = 0 ∨ d = 1 ∨ d = 2 ∨ d = 3 ∨ d = 4) with z | z | z | z | z <;> subst z <;> decide
  have a : ka d <= 1600 := by
    rcases (by omega : d = 0 ∨ d = 1 ∨ d = 2 ∨ d = 3 ∨ d = 4) with z | z | z | z | z <;> subst z <;> decide
  refine ⟨hm, Sd.pow_le2 ?_, Int.le_trans hM (Sd.pow_le2 ?_), Int.le_of_lt (Sd.pow_pos2 _), Sd.pow_le2 a⟩
  · calc (12 * d + 1) * m <= 49 * m := Nat.mul_le_mul_right _ (by omega)
      _ <= 49 * 12 := Nat.mul_le_mul_left _ hm
      _ <= 600 := by decide
  · calc be d * m <= 125 * m := Nat.mul_le_mul_right _ b
      _ <= 125 * 12 := Nat.mul_le_mul_left _ hm
      _ <= 1600 := by decide
end TD
namespace Fr
theorem sh_is {x y t b : Int} (f : IsFr x y) (hb : b ≠ 0) (e : x * b = t * y) : (x, y) = sh t b := by
  have q := sh_ok (t := t) hb
  have c2 := sh_cross t b
  generalize (sh t b) = z at *
  obtain ⟨z1, z2⟩ := z
  have k : b * (x * z2) = b * (z1 * y) := by
    have k1 : b * (x * z2) = (x * b) * z2 := by grind
    have k2 : b * (z1 * y) = (z1 * b) * y := by grind
    rw [k1, k2, c2, e]
    grind
  obtain ⟨a, c⟩ := unique f q (Int.eq_of_mul_eq_mul_left hb k)
  rw [a, c]
end Fr
namespace Tb
def PS (B : Int) (ps : List (Int × Int)) : Int := (ps.map fun p => p.1 * (B / p.2)).sum
structure IsQ (ps : List (Int × Int)) (t b : Int) : Prop where
  pos : 0 < b
  eq : ∀ B, 0 < B -> (∀ p ∈ ps, 0 < p.2 /\ p.2 ∣ B) -> t * B = b * PS B ps
theorem PS_cons (B : Int) (p : Int × Int) (ps : List (Int × Int)) : PS B (p :: ps) = p.1 * (B / p.2) + PS B ps := by simp [PS]
theorem PS_append (B : Int) (ps qs : List (Int × Int)) : PS B (ps ++ qs) = PS B ps + PS B qs := by simp [PS]
theorem IsQ.nil : IsQ [] 0 1 := ⟨by decide, fun B _ _ => by simp [PS]⟩
theorem IsQ.snoc {ps : List (Int × Int)} {t b n d : Int} (h : IsQ ps t b) (hd : 0 < d) : IsQ (ps ++ [(n, d)]) (t * d + n * b) (b * d) := by
  refine ⟨Int.mul_pos h.pos hd, fun B hB q => ?_⟩
  have e := h.eq B hB fun p hp => q p (List.mem_append_left _ hp)
  obtain ⟨c, _, e1, e2⟩ := cof hd hB (q (n, d) (by simp)).2
  rw [PS_append, PS_cons]
  show _ = b * d * (PS B ps + (n * (B / d) + PS B []))
  rw [e2]
  have z : PS B [] = 0 := rfl
  rw [z]
  have k : (t * d + n * b) * B = (t * B) * d + n * b * B := by grind
  rw [k, e]
  conv => lhs; rw [e1]
  grind
def capR (l0 l1 : Int) (r : Rw) : Rw := if l0 * r.b < r.t * l1 then ⟨l0, l1, r.w⟩ else r
end Tb
namespace TD
open PySem L2
open Builtin.Int (intBits)
structure Ent where
  p : Addr
  w : Int
  a : Addr
  ys : List Row
def EntAt (H : Hp) (e : Ent) : Prop := H e.p = some (.tup [.int e.w, .ref e.a]) /\ TabAt H e.a e.ys
def erefs (es : List Ent) : List V := es.map fun e => V.ref e.p
structure EntsAt (H : Hp) (a : Addr) (es : List Ent) : Prop where
  lst : H a = some (.lst (erefs es))
  ents : ∀ e ∈ es, EntAt H e
theorem EntAt.same {H H' : Hp} {e : Ent} (s : Same H H') (h : EntAt H e) : EntAt H' e := ⟨s _ _ h.1, h.2.same s⟩
theorem EntsAt.same {H H' : Hp} {a : Addr} {es : List Ent} (s : Same H H') (h : EntsAt H a es) : EntsAt H' a es := ⟨s _ _ h.lst, fun e he => (h.ents e he).same s⟩
theorem erefs_length (es : List Ent) : (erefs es).length = es.length := List.length_map _
theorem erefs_at {es : List Ent} {i : Nat} {v : V} (h : (erefs es)[i]? = some v) : ∃ x, es[i]? = some x /\ v = .ref x.p := by
  unfold erefs at h
  rw [List.getElem?_map] at h
  cases e : es[i]? with
  | none => rw [e] at h; cases h
  | some x => rw [e] at h; cases h; exact ⟨x, rfl, rfl⟩
theorem erefs_snoc (xs : List Ent) (y : Ent) : erefs (xs ++ [y]) = erefs xs ++ [V.ref y.p] := by unfold erefs; rw [List.map_append]; rfl
def fac (S : Int) (e : Ent) : Int := e.w * S.fdiv (wsum e.ys)
def partsOf (S : Int) (es : List Ent) : List Tb.Rw := es.flatMap fun e => e.ys.map fun y => ⟨y.t, y.b, fac S e * y.w⟩
def tots (es : List Ent) : List Int := es.map fun e => wsum e.ys
theorem partsOf_snoc (S : Int) (es : List Ent) (e : Ent) : partsOf S (es ++ [e]) = partsOf S es ++ e.ys.map fun y => ⟨y.t, y.b, fac S e * y.w⟩ := by
  unfold partsOf
  rw [List.flatMap_append]
  simp
def lcmB (xs : List Row) : Int := lcmL (xs.map Row.b)
theorem lcmStep_sh {m n : Int} (hn : 0 < n) : lcmStep m n = m * (Fr.sh m n).2 := by
  unfold lcmStep Fr.sh Fr.dv
  rw [if_neg (by omega)]
theorem lcmStep_dvd {m n M : Int} (hn : 0 < n) (h1 : m ∣ M) (h2 : n ∣ M) : lcmStep m n ∣ M := by
  rw [lcmStep_sh hn]
  obtain ⟨a, ea⟩ := h1
  obtain ⟨b, eb⟩ := h2
  have d1 := Fr.sh_fst m n
  have d2 := Fr.sh_snd m n
  have dn := Fr.dv_ne (t := m) (Int.ne_of_gt hn)
  have h : (Fr.sh m n).2 ∣ (Fr.sh m n).1 * a := by
    refine ⟨b, Int.eq_of_mul_eq_mul_right dn ?_⟩
    have e1 : (Fr.sh m n).1 * a * Fr.dv m n = ((Fr.sh m n).1 * Fr.dv m n) * a := by grind
    have e2 : (Fr.sh m n).2 * b * Fr.dv m n = ((Fr.sh m n).2 * Fr.dv m n) * b := by grind
    rw [e1, e2, d1, d2, <- ea, <- eb]
  obtain ⟨c, hc⟩ := Fr.cop (Fr.sh_red (t := m) (Int.ne_of_gt hn)) h
  exact ⟨c, by rw [ea, hc]; grind⟩
theorem lcm_fold_dvd : ∀ (ns : List Int) (m M : Int), (∀ n ∈ ns, 0 < n) -> m ∣ M -> (∀ n ∈ ns, n ∣ M) -> ns.foldl lcmStep m ∣ M
  | [], _, _, _, h, _ => h
  | n :: ns, m, M, hp, h, hd => lcm_fold_dvd ns _ M (fun k hk => hp k (List.mem_cons_of_mem _ hk)) (lcmStep_dvd (hp n List.mem_cons_self) h (hd n List.mem_cons_self)) fun k hk => hd k (List.mem_cons_of_mem _ hk)
theorem lcmL_dvd {ns : List Int} {M : Int} (hp : ∀ n ∈ ns, 0 < n) (hd : ∀ n ∈ ns, n ∣ M) : lcmL ns ∣ M := lcm_fold_dvd ns 1 M hp ⟨M, (Int.one_mul _).symm⟩ hd
theorem lcmL_le {ns : List Int} (hp : ∀ n ∈ ns, 0 < n) : lcmL ns <= Sd.prodL ns := Int.le_of_dvd (Sd.prodL_pos hp) (lcmL_dvd hp fun n hn => Sd.prodL_dvd hn)
theorem GT.bp {xs : List Row} {n : Nat} {W M k : Int} (g : GT xs n W M k) : ∀ b ∈ xs.map Row.b, 0 < b := fun b hb => by
  obtain ⟨x, hx, rfl⟩ := List.mem_map.mp hb
  exact (g.fq x hx).fr.pos
theorem GT.lcm {xs : List Row} {n : Nat} {W M k : Int} (g : GT xs n W M k) : 0 < lcmB xs /\ lcmB xs ∣ M /\ ∀ x ∈ xs, x.b ∣ lcmB xs := by
  obtain ⟨a, b⟩ := lcmL_ok g.bp
  exact ⟨a, lcmL_dvd g.bp fun b hb => by obtain ⟨x, hx, rfl⟩ := List.mem_map.mp hb; exact (g.fq x hx).dv, fun x hx => b _ (List.mem_map.mpr ⟨x, hx, rfl⟩)⟩
theorem GT.own {xs : List Row} {n : Nat} {W M k : Int} (g : GT xs n W M k) : GT xs n W (lcmB xs) k /\ lcmB xs <= M := by
  obtain ⟨a, b, c⟩ := g.lcm
  exact ⟨⟨g.ne, g.len, g.w1, g.ws, a, fun x hx => ⟨(g.fq x hx).fr, c x hx, (g.fq x hx).lo, (g.fq x hx).hi⟩⟩, Int.le_of_dvd g.mp b⟩
theorem one_key {r : Tb.Rw} (hr : 1 <= r.w) : ∀ {ys : List Tb.Rw}, ys.Pairwise Tb.Lt -> (ys.map fun y => if r.t = y.t /\ r.b = y.b then r.w else 0).sum <= r.w
  | [], _ => by show (0 : Int) <= r.w; omega
  | y :: ys, h => by
    obtain ⟨h1, h2⟩ := List.pairwise_cons.mp h
    rw [List.map_cons, List.sum_cons]
    by_cases e : r.t = y.t /\ r.b = y.b
    · rw [if_pos e]
      have z : (ys.map fun y => if r.t = y.t /\ r.b = y.b then r.w else 0).sum = 0 := by
        have : ∀ zs : List Tb.Rw, (∀ z ∈ zs, Tb.Lt y z) -> (zs.map fun y => if r.t = y.t /\ r.b = y.b then r.w else 0).sum = 0 := by
          intro zs
          induction zs with
          | nil => intro _; rfl
          | cons z zs ih =>
            intro hz
            rw [List.map_cons, List.sum_cons, ih fun x hx => hz x (List.mem_cons_of_mem _ hx), if_neg fun q => Tb.Lt_irr (hz z List.mem_cons_self) (e.1.symm.trans q.1) (e.2.symm.trans q.2)]
            rfl
        exact this ys h1
      omega
    · rw [if_neg e]
      have := one_key hr h2
      omega
theorem sum_Wt {ys : List Tb.Rw} (so : ys.Pairwise Tb.Lt) : ∀ {ps : List Tb.Rw}, (∀ r ∈ ps, 1 <= r.w) -> (ys.map fun y => Tb.Wt ps y.t y.b).sum <= Tb.W ps
  | [], _ => by
    have : ∀ zs : List Tb.Rw, (zs.map fun y => Tb.Wt [] y.t y.b).sum = 0 := by
      intro zs
      induction zs with
      | nil => rfl
      | cons z zs ih => rw [List.map_cons, List.sum_cons, ih]; rfl
    rw [this]
    exact Int.le_refl _
  | r :: ps, h => by
    have ih := sum_Wt so (ps := ps) fun x hx => h x (List.mem_cons_of_mem _ hx)
    have k := one_key (h r List.mem_cons_self) so
    have e : ∀ zs : List Tb.Rw, (zs.map fun y => Tb.Wt (r :: ps) y.t y.b).sum = (zs.map fun y => if r.t = y.t /\ r.b = y.b then r.w else 0).sum + (zs.map fun y => Tb.Wt ps y.t y.b).sum := by
      intro zs
      induction zs with
      | nil => rfl
      | cons z zs ih =>
        rw [List.map_cons, List.sum_cons, List.map_cons, List.sum_cons, List.map_cons, List.sum_cons, ih, Tb.Wt_cons]
        omega
    rw [e, Tb.W_cons]
    omega
theorem Out.sum {ps : List Tb.Rw} {ys : List Row} (o : Out ps ys) (h : ∀ r ∈ ps, 1 <= r.w) : wsum ys <= Tb.W ps := by
  have s := sum_Wt o.tab.lt h
  have le : ∀ zs : List Row, (∀ y ∈ zs, y.w <= Tb.Wt ps y.t y.b) -> wsum zs <= ((rws zs).map fun y => Tb.Wt ps y.t y.b).sum := by
    intro zs
    induction zs with
    | nil => intro _; exact Int.le_refl _
    | cons z zs ih =>
      intro hz
      have e : wsum (z :: zs) = z.w + wsum zs := by unfold wsum; rw [List.map_cons, List.sum_cons]
      have e2 : rws (z :: zs) = z.r :: rws zs := rfl
      rw [e, e2, List.map_cons, List.sum_cons]
      have h1 := hz z List.mem_cons_self
      have h2 := ih fun y hy => hz y (List.mem_cons_of_mem _ hy)
      have h3 : Tb.Wt ps z.r.t z.r.b = Tb.Wt ps z.t z.b := rfl
      omega
  exact Int.le_trans (le ys fun y hy => (o.w y hy).2) s
structure GM (es : List Ent) (k0 : Nat) (W0 kk : Int) : Prop where
  ne : es ≠ []
  len : es.length <= 4
  k : k0 <= 12
  n : es.length * k0 <= 48
  w : ∀ e ∈ es, 1 <= e.w /\ e.w <= 1000
  g : ∀ e ∈ es, GT e.ys k0 W0 (lcmB e.ys) kk
  c : ∀ e ∈ es, Cp k0 W0 (lcmB e.ys) kk
theorem GM.tp {es : List Ent} {k0 : Nat} {W0 kk : Int} (g : GM es k0 W0 kk) : ∀ n ∈ tots es, 0 < n /\ n <= 2 ^ 600 := fun n hn => by
  obtain ⟨e, he, rfl⟩ := List.mem_map.mp hn
  have := (g.g e he).tot
  have := (g.g e he).ws
  have := (g.c e he).w
  omega
theorem GM.tb {es : List Ent} {k0 : Nat} {W0 kk : Int} (g : GM es k0 W0 kk) : (∀ n ∈ tots es, intBits n <= 601) /\ ((tots es).map intBits).sum <= 2404 := by
  have e1 : ∀ n ∈ tots es, intBits n <= 601 := fun n hn => by
    have := g.tp n hn
    have p1 : (2 : Int) ^ 601 = 2 * 2 ^ 600 := by rw [Int.pow_succ]; omega
    have q1 := Sd.pow_pos2 600
    exact bits_of (by omega) (by omega)
  have h := sum_nat_le (k := 601) (l := (tots es).map intBits) fun n hn => by
    obtain ⟨z, hz, rfl⟩ := List.mem_map.mp hn
    exact e1 z hz
  have l := g.len
  have e : ((tots es).map intBits).length = es.length := by rw [List.length_map]; unfold tots; rw [List.length_map]
  rw [e] at h
  exact ⟨e1, by omega⟩
theorem GM.S {es : List Ent} {k0 : Nat} {W0 kk : Int} (g : GM es k0 W0 kk) : 0 < lcmL (tots es) /\ lcmL (tots es) <= 2 ^ 2400 /\ intBits (lcmL (tots es)) <= 2405 /\ ∀ e ∈ es, wsum e.ys ∣ lcmL (tots es) := by
  have tp : ∀ n ∈ tots es, 0 < n := fun n hn => (g.tp n hn).1
  obtain ⟨a, b⟩ := lcmL_ok tp
  have l := g.len
  have pl := Sd.prodL_le (e := 600) g.tp
  have e : (tots es).length = es.length := by unfold tots; rw [List.length_map]
  rw [e] at pl
  have hb := lcmL_bits (tots es)
  have := g.tb.2
  exact ⟨a, Int.le_trans (Int.le_trans (lcmL_le tp) pl) (Sd.pow_le2 (by omega)), by omega, fun e he => b _ (List.mem_map.mpr ⟨e, he, rfl⟩)⟩
theorem fac_ws {S : Int} {e : Ent} (hp : 1 <= wsum e.ys) (d : wsum e.ys ∣ S) : fac S e * wsum e.ys = e.w * S := by
  unfold fac
  obtain ⟨s, es⟩ := d
  have q1 : S.fdiv (wsum e.ys) = s := by rw [es]; exact Int.mul_fdiv_cancel_left _ (by omega)
  rw [q1, es]
  grind
theorem fac_pos {S : Int} {e : Ent} (hw : 1 <= e.w) (hp : 1 <= wsum e.ys) (hS : 0 < S) (d : wsum e.ys ∣ S) : 1 <= fac S e := by
  have h := fac_ws hp d
  have p : 0 < e.w * S := Int.mul_pos (by omega) hS
  rcases Int.lt_or_le 0 (fac S e) with z | z
  · omega
  · have := Int.mul_nonpos_of_nonpos_of_nonneg z (show (0 : Int) <= wsum e.ys by omega)
    omega
theorem GM.part {es : List Ent} {k0 : Nat} {W0 kk : Int} (g : GM es k0 W0 kk) {e : Ent} (he : e ∈ es) {y : Row} (hy : y ∈ e.ys) : 1 <= fac (lcmL (tots es)) e * y.w /\ fac (lcmL (tots es)) e * y.w <= 1000 * lcmL (tots es) := by
  obtain ⟨Sp, _, _, Sd'⟩ := g.S
  have ge := g.g e he
  have w := g.w e he
  have f1 := fac_pos w.1 ge.tot Sp (Sd' e he)
  have y1 := ge.w1 y hy
  have y2 := wsum_pos ge.w1 hy
  have a := fac_ws ge.tot (Sd' e he)
  have b := Int.mul_le_mul_of_nonneg_left y2 (show 0 <= fac (lcmL (tots es)) e by omega)
  have c := Int.mul_le_mul_of_nonneg_right w.2 (Int.le_of_lt Sp)
  have d : 1 * 1 <= fac (lcmL (tots es)) e * y.w := Int.mul_le_mul f1 y1 (by decide) (by omega)
  omega
theorem GM.pb {es : List Ent} {k0 : Nat} {W0 kk : Int} (g : GM es k0 W0 kk) {e : Ent} (he : e ∈ es) {y : Row} (hy : y ∈ e.ys) : Fr.IsFr y.t y.b /\ intBits y.t <= 4000 /\ intBits y.b <= 4000 /\ 1 <= fac (lcmL (tots es)) e * y.w /\ fac (lcmL (tots es)) e * y.w <= m300 := by
  have b := (g.g e he).bits (g.c e he) hy
  have p := g.part he hy
  have s := g.S.2.1
  have m : (1000 : Int) * 2 ^ 2400 <= m300 := by decide +kernel
  exact ⟨((g.g e he).fq y hy).fr, by omega, by omega, p.1, by omega⟩
theorem W_parts {S : Int} : ∀ {es : List Ent}, (∀ e ∈ es, 1 <= wsum e.ys /\ wsum e.ys ∣ S /\ e.w <= 1000) -> 0 <= S -> Tb.W (partsOf S es) <= 1000 * (es.length : Int) * S
  | [], _, _ => by show (0 : Int) <= _; simp
  | e :: es, h, hS => by
    have ih := W_parts (es := es) (fun x hx => h x (List.mem_cons_of_mem _ hx)) hS
    obtain ⟨h1, h2, h3⟩ := h e List.mem_cons_self
    have e1 : partsOf S (e :: es) = (e.ys.map fun y => ⟨y.t, y.b, fac S e * y.w⟩) ++ partsOf S es := rfl
    have e2 : ∀ zs : List Row, Tb.W (zs.map fun y => (⟨y.t, y.b, fac S e * y.w⟩ : Tb.Rw)) = fac S e * wsum zs := by
      intro zs
      induction zs with
      | nil => show (0 : Int) = _ * 0; simp
      | cons z zs ih =>
        have e : wsum (z :: zs) = z.w + wsum zs := by unfold wsum; rw [List.map_cons, List.sum_cons]
        rw [List.map_cons, Tb.W_cons, ih, e, Int.mul_add]
    rw [e1, Tb.W_append, e2, fac_ws h1 h2, List.length_cons]
    have := Int.mul_le_mul_of_nonneg_right h3 hS
    push_cast
    have e3 : 1000 * ((es.length : Int) + 1) * S = 1000 * (es.length : Int) * S + 1000 * S := by grind
    rw [e3]
    omega
theorem parts_key {S : Int} {es : List Ent} {t b : Int} (h : Tb.Has (partsOf S es) t b) : ∃ e ∈ es, ∃ y ∈ e.ys, y.t = t /\ y.b = b := by
  obtain ⟨p, hp, e1, e2⟩ := h
  obtain ⟨e, he, hq⟩ := List.mem_flatMap.mp hp
  obtain ⟨y, hy, rfl⟩ := List.mem_map.mp hq
  exact ⟨e, he, y, hy, e1, e2⟩
theorem GM.out {es : List Ent} {k0 : Nat} {W0 kk : Int} {ys : List Row} (g : GM es k0 W0 kk) (o : Out (partsOf (lcmL (tots es)) es) ys) (hl : ys.length <= es.length * k0) :
    GT ys (es.length * k0) (4000 * Sd.prodL (tots es)) (Sd.prodL (es.map fun e => lcmB e.ys)) kk := by
  obtain ⟨Sp, _, _, Sd'⟩ := g.S
  have tp : ∀ n ∈ tots es, 0 < n := fun n hn => (g.tp n hn).1
  have pw : ∀ r ∈ partsOf (lcmL (tots es)) es, 1 <= r.w := fun r hr => by
    obtain ⟨e, he, hq⟩ := List.mem_flatMap.mp hr
    obtain ⟨y, hy, rfl⟩ := List.mem_map.mp hq
    exact (g.part he hy).1
  have pne : partsOf (lcmL (tots es)) es ≠ [] := by
    cases es with
    | nil => exact absurd rfl g.ne
    | cons e es =>
      intro z
      have h1 := (List.append_eq_nil_iff.mp (show (e.ys.map fun y => (⟨y.t, y.b, fac _ e * y.w⟩ : Tb.Rw)) ++ partsOf _ es = [] from z)).1
      exact (g.g e List.mem_cons_self).ne (List.map_eq_nil_iff.mp h1)
  have wp := W_parts (S := lcmL (tots es)) (es := es) (fun e he => ⟨(g.g e he).tot, Sd' e he, (g.w e he).2⟩) (Int.le_of_lt Sp)
  have sl := lcmL_le tp
  have l := g.len
  have mpos : ∀ n ∈ es.map (fun e => lcmB e.ys), 0 < n := fun n hn => by
    obtain ⟨e, he, rfl⟩ := List.mem_map.mp hn
    exact (g.g e he).mp
  refine ⟨o.ne pne, hl, fun y hy => (o.w y hy).1, ?_, Sd.prodL_pos mpos, fun y hy => ?_⟩
  · have a := o.sum pw
    have b : 1000 * (es.length : Int) * lcmL (tots es) <= 4000 * lcmL (tots es) := Int.mul_le_mul_of_nonneg_right (by omega) (Int.le_of_lt Sp)
    omega
  · obtain ⟨p, hp, e1, e2⟩ := o.key hy
    obtain ⟨e, he, z, hz, e3, e4⟩ := parts_key ⟨p, hp, e1, e2⟩
    have f := (g.g e he).fq z hz
    rw [e3, e4] at f
    exact Sd.Fq.mono f (Sd.prodL_dvd (List.mem_map.mpr ⟨e, he, rfl⟩)) (Int.le_refl _)
theorem GT.cm {xs : List Row} {n : Nat} {W M k : Int} (g : GT xs n W M k) : Tb.CM (lcmB xs) (rws xs) := by
  obtain ⟨a, b, c⟩ := g.lcm
  refine ⟨a, fun r hr => ?_⟩
  obtain ⟨x, hx, rfl⟩ := List.mem_map.mp hr
  exact ⟨(g.fq x hx).fr.pos, c x hx⟩
theorem GT.tab {xs : List Row} {n : Nat} {W M k : Int} (g : GT xs n W M k) (so : (rws xs).Pairwise Tb.Lt) : Tb.Tab (lcmB xs) (rws xs) :=
  ⟨g.cm, fun r hr => by obtain ⟨x, hx, rfl⟩ := List.mem_map.mp hr; exact g.w1 x hx, so.imp fun h => Int.le_of_lt h⟩
theorem T_le {B k : Int} {r : Tb.Rw} (hb : 0 < r.b) (hB : 0 < B) (d : r.b ∣ B) (lo : -(k * r.b) <= r.t) (hi : r.t <= k * r.b) : -(k * B) <= Tb.T B r /\ Tb.T B r <= k * B := by
  obtain ⟨c, hc, e, q⟩ := Tb.cof hb hB d
  unfold Tb.T
  rw [q, e]
  have h1 := Int.mul_le_mul_of_nonneg_right lo (Int.le_of_lt hc)
  have h2 := Int.mul_le_mul_of_nonneg_right hi (Int.le_of_lt hc)
  have e1 : -(k * r.b) * c = -(k * (r.b * c)) := by grind
  have e2 : k * r.b * c = k * (r.b * c) := by grind
  rw [e1] at h1
  rw [e2] at h2
  exact ⟨h1, h2⟩
theorem WT_le {B k : Int} (kB : 0 <= k * B) : ∀ {rs : List Tb.Rw}, (∀ r ∈ rs, 1 <= r.w /\ -(k * B) <= Tb.T B r /\ Tb.T B r <= k * B) -> -(k * B * Tb.W rs) <= Tb.WT B rs /\ Tb.WT B rs <= k * B * Tb.W rs
  | [], _ => by simp [Tb.W, Tb.WT]
  | r :: rs, h => by
    obtain ⟨a, b⟩ := WT_le kB (rs := rs) fun x hx => h x (List.mem_cons_of_mem _ hx)
    obtain ⟨w1, l, u⟩ := h r List.mem_cons_self
    rw [Tb.WT_cons, Tb.W_cons]
    have h1 := Int.mul_le_mul_of_nonneg_left l (show 0 <= r.w by omega)
    have h2 := Int.mul_le_mul_of_nonneg_left u (show 0 <= r.w by omega)
    have e1 : r.w * -(k * B) = -(k * B * r.w) := by grind
    have e2 : r.w * (k * B) = k * B * r.w := by grind
    have e3 : k * B * (r.w + Tb.W rs) = k * B * r.w + k * B * Tb.W rs := by grind
    rw [e1] at h1
    rw [e2] at h2
    rw [e3]
    omega
theorem W_drop {rs : List Tb.Rw} (h : ∀ r ∈ rs, 1 <= r.w) (j : Nat) : 0 <= Tb.W (rs.drop j) /\ Tb.W (rs.drop j) <= Tb.W rs := by
  have nn : ∀ zs : List Tb.Rw, (∀ r ∈ zs, 1 <= r.w) -> 0 <= Tb.W zs := by
    intro zs
    induction zs with
    | nil => intro _; exact Int.le_refl _
    | cons z zs ih =>
      intro hz
      rw [Tb.W_cons]
      have := hz z List.mem_cons_self
      have := ih fun x hx => hz x (List.mem_cons_of_mem _ hx)
      omega
  have e : Tb.W rs = Tb.W (rs.take j) + Tb.W (rs.drop j) := by rw [<- Tb.W_append, List.take_append_drop]
  have a := nn (rs.take j) fun r hr => h r (List.mem_of_mem_take hr)
  have b := nn (rs.drop j) fun r hr => h r (List.mem_of_mem_drop hr)
  omega
theorem GT.lp {xs : List Row} {n : Nat} {W M k p tops ws : Int} {i : Nat} (g : GT xs n W M k) (k0 : 0 <= k) (p0 : 0 <= p) (l : Tb.Lp (lcmB xs) (p * Tb.W (rws xs) * lcmB xs) (rws xs) i tops ws) :
    0 <= ws /\ ws <= wsum xs /\ -((p + k) * wsum xs * lcmB xs) <= tops /\ tops <= (p + k) * wsum xs * lcmB xs := by
  have cm := g.cm
  have Bp := cm.pos
  have w1 : ∀ r ∈ rws xs, 1 <= r.w := fun r hr => by obtain ⟨x, hx, rfl⟩ := List.mem_map.mp hr; exact g.w1 x hx
  have wd := W_drop w1 ((rws xs).length - i)
  have kB : 0 <= k * lcmB xs := Int.mul_nonneg k0 (Int.le_of_lt Bp)
  have wt := WT_le kB (rs := (rws xs).drop ((rws xs).length - i)) fun r hr => by
    obtain ⟨x, hx, rfl⟩ := List.mem_map.mp (List.mem_of_mem_drop hr)
    have f := g.fq x hx
    exact ⟨g.w1 x hx, T_le (r := x.r) f.fr.pos Bp (g.lcm.2.2 x hx) f.lo f.hi⟩
  have ew := l.ew
  have et := l.et
  rw [<- ew] at wd wt
  have m := Int.mul_le_mul_of_nonneg_left wd.2 kB
  have P0 : 0 <= p * Tb.W (rws xs) * lcmB xs := Int.mul_nonneg (Int.mul_nonneg p0 (by omega)) (Int.le_of_lt Bp)
  have e : (p + k) * wsum xs * lcmB xs = p * Tb.W (rws xs) * lcmB xs + k * lcmB xs * Tb.W (rws xs) := by rw [wsum_W]; grind
  rw [e, wsum_W]
  exact ⟨wd.1, wd.2, by omega, by omega⟩
theorem lev_fq {tops ws B k : Int} (hw : 1 <= ws) (hB : 0 < B) (k0 : 0 <= k) (lo : -(k * B) <= tops) (hi : tops <= k * B) : Sd.FQ (Fr.sh tops (ws * B)) (ws * B) k := by
  have p : 0 < ws * B := Int.mul_pos (by omega) hB
  have kb : 0 <= k * B := Int.mul_nonneg k0 (Int.le_of_lt hB)
  have e : k * (ws * B) = k * B * ws := by grind
  have h : k * B * 1 <= k * B * ws := Int.mul_le_mul_of_nonneg_left hw kb
  exact Sd.sh_fq (u := tops) p rfl (by rw [e]; omega) (by rw [e]; omega)
def spLF2 : Sp := fun vs H Q _ => ∃ (a : Addr) (xs : List Row) (p : Int) (n : Nat) (W k : Int), vs = [.ref a, .int p] /\ TabAt H a xs /\ GT xs n W (lcmB xs) k /\ Cp n W (lcmB xs) k /\ (rws xs).Pairwise Tb.Lt /\ 0 <= p /\ p <= 1000000000 ∧
  ∀ (r : Addr) (H' : Hp) (l : Int × Int) (u : Int), Same H H' -> Tq H' r l -> 1 <= u -> u <= wsum xs -> Sd.FQ l (u * lcmB xs) ((p + k) * wsum xs) -> Tb.Lv (lcmB xs) (p * Tb.W (rws xs) * lcmB xs) l.1 l.2 (rws xs) -> Q (.ref r) H'
theorem cap_gt {xs ys : List Row} {n : Nat} {W M k l0 l1 : Int} (g : GT xs n W M k) (f : Sd.Fq l0 l1 M k) (o : Out ((rws xs).map (Tb.capR l0 l1)) ys) (hl : ys.length <= xs.length) : GT ys n W M k := by
  have cw : ∀ r : Tb.Rw, (Tb.capR l0 l1 r).w = r.w := fun r => by unfold Tb.capR; split <;> rfl
  have pw : ∀ r ∈ (rws xs).map (Tb.capR l0 l1), 1 <= r.w := fun r hr => by
    obtain ⟨p, hp, rfl⟩ := List.mem_map.mp hr
    obtain ⟨x, hx, rfl⟩ := List.mem_map.mp hp
    rw [cw]
    exact g.w1 x hx
  have eW : ∀ rs : List Tb.Rw, Tb.W (rs.map (Tb.capR l0 l1)) = Tb.W rs := by
    intro rs
    induction rs with
    | nil => rfl
    | cons r rs ih => rw [List.map_cons, Tb.W_cons, Tb.W_cons, ih, cw]
  have s := o.sum pw
  rw [eW, <- wsum_W] at s
  refine ⟨o.ne fun z => g.ne (List.map_eq_nil_iff.mp (List.map_eq_nil_iff.mp z)), Nat.le_trans hl g.len, fun y hy => (o.w y hy).1, Int.le_trans s g.ws, g.mp, fun y hy => ?_⟩
  obtain ⟨p, hp, e1, e2⟩ := o.key hy
  obtain ⟨q, hq, rfl⟩ := List.mem_map.mp hp
  obtain ⟨x, hx, rfl⟩ := List.mem_map.mp hq
  rw [<- e1, <- e2]
  unfold Tb.capR
  split
  · exact f
  · exact g.fq x hx
theorem cap_pb {xs ys : List Row} {n : Nat} {W M k l0 l1 : Int} (g : GT xs n W M k) (c : Cp n W M k) (f : Sd.Fq l0 l1 M k) (e : rws ys = (rws xs).map (Tb.capR l0 l1)) : PB ys := fun y hy => by
  have m : y.r ∈ (rws xs).map (Tb.capR l0 l1) := by rw [<- e]; exact List.mem_map.mpr ⟨y, hy, rfl⟩
  obtain ⟨p, hp, ep⟩ := List.mem_map.mp m
  obtain ⟨x, hx, rfl⟩ := List.mem_map.mp hp
  have pb := g.pb c x hx
  have lb := fq_bits f g.mp c.m c.k0 c.k
  unfold Tb.capR at ep
  by_cases cc : l0 * x.r.b < x.r.t * l1
  · rw [if_pos cc] at ep
    have e1 : l0 = y.t := congrArg Tb.Rw.t ep
    have e2 : l1 = y.b := congrArg Tb.Rw.b ep
    have e3 : x.w = y.w := congrArg Tb.Rw.w ep
    rw [<- e1, <- e2, <- e3]
    exact ⟨f.fr, by omega, by omega, pb.2.2.2.1, pb.2.2.2.2⟩
  · rw [if_neg cc] at ep
    have e1 : x.t = y.t := congrArg Tb.Rw.t ep
    have e2 : x.b = y.b := congrArg Tb.Rw.b ep
    have e3 : x.w = y.w := congrArg Tb.Rw.w ep
    rw [<- e1, <- e2, <- e3]
    exact pb
def spCap2 (Pt : Addr) (lp : Pos) : Sp := fun vs H Q _ => ∃ (a l : Addr) (xs : List Row) (x : Int × Int) (n : Nat) (W M k : Int), vs = [.ref a, .ref l] /\ TabAt H a xs /\ GT xs n W M k /\ Cp n W M k /\ Tq H l x /\ Sd.FQ x M k /\ TbOk Pt lp lamQ H ∧
  ∀ (r : Addr) (H' : Hp) (ys : List Row), SameT Pt H H' -> TbOk Pt lp lamQ H' -> H r = none -> TabAt H' r ys -> GT ys n W M k -> Out ((rws xs).map (Tb.capR x.1 x.2)) ys -> Q (.ref r) H'
def spMix2 (Pt : Addr) (lp : Pos) : Sp := fun vs H Q _ => ∃ (a : Addr) (es : List Ent) (k0 : Nat) (W0 kk : Int), vs = [.ref a] /\ EntsAt H a es /\ GM es k0 W0 kk /\ TbOk Pt lp lamQ H ∧
  ∀ (r : Addr) (H' : Hp) (ys : List Row), SameT Pt H H' -> TbOk Pt lp lamQ H' -> H r = none -> TabAt H' r ys -> GT ys (es.length * k0) (4000 * Sd.prodL (tots es)) (Sd.prodL (es.map fun e => lcmB e.ys)) kk -> Out (partsOf (lcmL (tots es)) es) ys -> ys.length <= (partsOf (lcmL (tots es)) es).length -> Q (.ref r) H'
def GS2 (xs : List Row) (d m : Nat) : Prop := GT xs m (wB d m) (lcmB xs) (kK d) /\ lcmB xs <= 2 ^ (be d * m)
theorem GS2.up {xs : List Row} {d k : Nat} (h : GS2 xs d k) (hk : k <= 12) : GS2 xs d 12 := by
  obtain ⟨g, l⟩ := h
  have a : wB d k <= wB d 12 := Sd.pow_le2 (Nat.mul_le_mul_left _ hk)
  exact ⟨⟨g.ne, Nat.le_trans g.len hk, g.w1, Int.le_trans g.ws a, g.mp, g.fq⟩, Int.le_trans l (Sd.pow_le2 (Nat.mul_le_mul_left _ hk))⟩
inductive Ae (d : Nat) (f : Int × Sd.Sd -> Nat) : List Ent -> List (Int × Sd.Sd) -> Prop
  | nil : Ae d f [] []
  | cons {e : Ent} {t : Int × Sd.Sd} {es : List Ent} {rs : List (Int × Sd.Sd)} (g : GS2 e.ys d (f t)) (h : Ae d f es rs) : Ae d f (e :: es) (t :: rs)
theorem Ae.snoc {d : Nat} {f : Int × Sd.Sd -> Nat} {es : List Ent} {rs : List (Int × Sd.Sd)} (h : Ae d f es rs) {e : Ent} {t : Int × Sd.Sd} (g : GS2 e.ys d (f t)) : Ae d f (es ++ [e]) (rs ++ [t]) := by
  induction h with
  | nil => exact .cons g .nil
  | cons g' _ ih => exact .cons g' ih
structure AeB (d n : Nat) (es : List Ent) : Prop where
  t0 : 0 < Sd.prodL (tots es)
  t : Sd.prodL (tots es) <= 2 ^ ((12 * d + 1) * n)
  l : Sd.prodL (es.map fun e => lcmB e.ys) <= 2 ^ (be d * n)
  p : ∀ S, (partsOf S es).length <= n
theorem Ae.b {d : Nat} {f : Int × Sd.Sd -> Nat} {es : List Ent} {rs : List (Int × Sd.Sd)} (h : Ae d f es rs) : AeB d (rs.map f).sum es := by
  induction h with
  | nil => exact ⟨by decide, by show (1 : Int) <= _; simp, by show (1 : Int) <= _; simp, fun _ => Nat.zero_le _⟩
  | @cons e t es rs g _ ih =>
    have a := g.1.tot
    have b := g.1.ws
    unfold wB at b
    have c := g.1.mp
    have e1 : tots (e :: es) = wsum e.ys :: tots es := rfl
    have lp : 0 < Sd.prodL (es.map fun e => lcmB e.ys) ∨ True := .inr trivial
    rw [List.map_cons, List.sum_cons]
    refine ⟨?_, ?_, ?_, fun S => ?_⟩
    · rw [e1]; exact Int.mul_pos (by omega) ih.t0
    · rw [e1, Nat.mul_add, Int.pow_add]
      exact Int.le_trans (Int.mul_le_mul_of_nonneg_right b (Int.le_of_lt ih.t0)) (Int.mul_le_mul_of_nonneg_left ih.t (Int.le_of_lt (Sd.pow_pos2 _)))
    · rw [List.map_cons, Nat.mul_add, Int.pow_add]
      exact Int.le_trans (Int.mul_le_mul_of_nonneg_left ih.l (Int.le_of_lt c)) (Int.mul_le_mul_of_nonneg_right g.2 (Int.le_of_lt (Sd.pow_pos2 _)))
    · have e2 : partsOf S (e :: es) = (e.ys.map fun y => ⟨y.t, y.b, fac S e * y.w⟩) ++ partsOf S es := rfl
      rw [e2, List.length_append, List.length_map]
      have := g.1.len
      have := ih.p S
      omega
theorem Ae.all {d : Nat} {f : Int × Sd.Sd -> Nat} {es : List Ent} {rs : List (Int × Sd.Sd)} (h : Ae d f es rs) (hf : ∀ t ∈ rs, f t <= 12) : ∀ e ∈ es, GS2 e.ys d 12 := by
  induction h with
  | nil => intro e he; cases he
  | @cons e t es rs g _ ih =>
    intro x hx
    rcases List.mem_cons.mp hx with z | z
    · subst z; exact g.up (hf t List.mem_cons_self)
    · exact ih (fun u hu => hf u (List.mem_cons_of_mem _ hu)) x z
theorem gm_of {es : List Ent} {d : Nat} (hd : d <= 4) (ne : es ≠ []) (l4 : es.length <= 4) (w : ∀ e ∈ es, 1 <= e.w /\ e.w <= 1000) (g : ∀ e ∈ es, GS2 e.ys d 12) : GM es 12 (wB d 12) (kK d) :=
  ⟨ne, l4, by decide, by omega, w, fun e he => (g e he).1, fun e he => cp_of hd (by decide) (g e he).2⟩
structure Mx (es : List Ent) (ys : List Row) (d m : Nat) : Prop where
  g : GT ys m (wB (d + 1) m) (lcmB ys) (kK d)
  l : lcmB ys <= 2 ^ (be d * m)
theorem mx_of {es : List Ent} {ys : List Row} {d m n n0 : Nat} (ab : AeB d n es) (hn : n <= m) (hm1 : 1 <= m) (o : ys.length <= n) (h : GT ys n0 (4000 * Sd.prodL (tots es)) (Sd.prodL (es.map fun e => lcmB e.ys)) (kK d)) : Mx es ys d m := by
  have x2 : (12 * d + 1) * n <= (12 * d + 1) * m := Nat.mul_le_mul_left _ hn
  have x3 : 12 + (12 * d + 1) * m <= (12 * (d + 1) + 1) * m := by
    have : (12 * (d + 1) + 1) * m = 12 * m + (12 * d + 1) * m := by rw [show 12 * (d + 1) + 1 = 12 + (12 * d + 1) by omega, Nat.add_mul]
    omega
  have y2 : be d * n <= be d * m := Nat.mul_le_mul_left _ hn
  have W1 : 4000 * Sd.prodL (tots es) <= wB (d + 1) m := by
    have a : 4000 * Sd.prodL (tots es) <= 2 ^ 12 * Sd.prodL (tots es) := Int.mul_le_mul_of_nonneg_right (by decide) (Int.le_of_lt ab.t0)
    have b : (2 : Int) ^ 12 * Sd.prodL (tots es) <= 2 ^ 12 * 2 ^ ((12 * d + 1) * n) := Int.mul_le_mul_of_nonneg_left ab.t (by decide)
    rw [<- Int.pow_add] at b
    have c : (2 : Int) ^ (12 + (12 * d + 1) * n) <= wB (d + 1) m := Sd.pow_le2 (by omega)
    omega
  obtain ⟨o1, o2⟩ := h.own
  have M1 : lcmB ys <= 2 ^ (be d * m) := Int.le_trans (Int.le_trans o2 ab.l) (Sd.pow_le2 (by omega))
  exact ⟨⟨o1.ne, Nat.le_trans o hn, o1.w1, Int.le_trans o1.ws W1, o1.mp, o1.fq⟩, M1⟩
theorem Mx.cp {es : List Ent} {ys : List Row} {d m : Nat} (x : Mx es ys d m) (hd : d + 1 <= 4) (hm : m <= 12) : Cp m (wB (d + 1) m) (lcmB ys) (kK d) := by
  have a := cp_of (d := d) (by omega) hm x.l
  have b := cp_of (d := d + 1) (m := m) (M := 1) hd hm (by have := Sd.pow_pos2 (be (d + 1) * m); omega)
  exact ⟨hm, b.w, a.m, a.k0, a.k⟩
theorem k30 (d : Nat) : (1000000000 : Int) <= kK d := by
  have h : 30 <= ka d := by
    induction d with
    | zero => exact Nat.le_refl _
    | succ d ih => show 30 <= ka d + (12 * (d + 1) + 1) * 12 + 1; omega
  have := Sd.pow_le2 h
  have e : (2 : Int) ^ 30 = 1073741824 := by decide
  unfold kK
  omega
structure Lx (ys : List Row) (l : Int × Int) (M k : Int) (d m : Nat) : Prop where
  g : GT ys m (wB (d + 1) m) M k
  c : Cp m (wB (d + 1) m) M k
  f : Sd.FQ l M k
  m : M <= 2 ^ (be (d + 1) * m)
  k : k <= kK (d + 1)
theorem lx_of {es : List Ent} {ys : List Row} {d m : Nat} {p u : Int} {l : Int × Int} (x : Mx es ys d m) (hd : d + 1 <= 4) (hm : m <= 12) (p0 : 0 <= p) (p9 : p <= 1000000000) (u1 : 1 <= u) (u2 : u <= wsum ys) (f : Sd.FQ l (u * lcmB ys) ((p + kK d) * wsum ys)) :
    Lx ys l (u * lcmB ys) ((p + kK d) * wsum ys) d m := by
  have kp := Sd.pow_pos2 (ka d)
  have kp : 0 < kK d := kp
  have k9 := k30 d
  have ws := x.g.ws
  have w1 := x.g.tot
  have mp := x.g.mp
  have wp : (0 : Int) < wB (d + 1) m := Sd.pow_pos2 _
  have kk : kK d <= (p + kK d) * wsum ys := by
    have a : (p + kK d) * 1 <= (p + kK d) * wsum ys := Int.mul_le_mul_of_nonneg_left w1 (by omega)
    omega
  have M1 : u * lcmB ys <= 2 ^ (be (d + 1) * m) := by
    have a : u * lcmB ys <= wB (d + 1) m * 2 ^ (be d * m) := Int.le_trans (Int.mul_le_mul_of_nonneg_right (Int.le_trans u2 ws) (Int.le_of_lt mp)) (Int.mul_le_mul_of_nonneg_left x.l (Int.le_of_lt wp))
    unfold wB at a
    rw [<- Int.pow_add] at a
    refine Int.le_trans a (Sd.pow_le2 ?_)
    have e : be (d + 1) * m = be d * m + (12 * (d + 1) + 1) * m := by rw [<- Nat.add_mul]; rfl
    omega
  have K1 : (p + kK d) * wsum ys <= kK (d + 1) := by
    have a : (p + kK d) * wsum ys <= (2 * kK d) * wB (d + 1) m := Int.le_trans (Int.mul_le_mul_of_nonneg_right (by omega) (by omega)) (Int.mul_le_mul_of_nonneg_left ws (by omega))
    have e : (2 * kK d) * wB (d + 1) m = 2 ^ (ka d + 1 + (12 * (d + 1) + 1) * m) := by
      unfold kK wB
      rw [Int.pow_add, Int.pow_succ]
      grind
    rw [e] at a
    refine Int.le_trans a (Sd.pow_le2 ?_)
    show _ <= ka d + (12 * (d + 1) + 1) * 12 + 1
    have := Nat.mul_le_mul_left (12 * (d + 1) + 1) hm
    omega
  have c1 := cp_of (d := d + 1) hd hm M1
  refine ⟨⟨x.g.ne, x.g.len, x.g.w1, x.g.ws, Int.mul_pos (by omega) mp, fun y hy => Sd.Fq.mono (x.g.fq y hy) ⟨u, by grind⟩ kk⟩, ⟨hm, c1.w, c1.m, by omega, Int.le_trans K1 c1.k⟩, f, M1, K1⟩
theorem gs_of {ys zs : List Row} {l : Int × Int} {M k : Int} {d m : Nat} (x : Lx ys l M k d m) (g : GT zs m (wB (d + 1) m) M k) : GS2 zs (d + 1) m := by
  obtain ⟨a, b⟩ := g.own
  exact ⟨⟨a.ne, a.len, a.w1, a.ws, a.mp, fun y hy => Sd.Fq.mono (a.fq y hy) (Int.dvd_refl _) x.k⟩, Int.le_trans b x.m⟩
end TD
namespace Sd
def V (x : Int × Int) : Rat := (x.1 : Rat) / (x.2 : Rat)
def mxr (a b : Rat) : Rat := if a < b then b else a
def rb (l : Rat) : Nat -> Sd -> Rat
  | 0, _ => 0
  | _ + 1, .en v => mxr l (v : Rat)
  | n + 1, .st p rs => mxr l (rs.foldl (fun a r => a + (r.1 : Rat) / (wtot rs : Rat) * rb l n r.2) (-(p : Rat)))
def opr (l : Rat) : Nat -> Sd -> Rat
  | 0, _ => 0
  | _ + 1, .en v => (v : Rat)
  | n + 1, .st p rs => rs.foldl (fun a r => a + (r.1 : Rat) / (wtot rs : Rat) * rb l n r.2) (-(p : Rat))
theorem rb_opr (l : Rat) (n : Nat) (s : Sd) : rb l (n + 1) s = mxr l (opr l (n + 1) s) := by cases s <;> rfl
theorem castpos {b : Int} (h : 0 < b) : (0 : Rat) < (b : Rat) := by exact_mod_cast h
theorem castne {b : Int} (h : 0 < b) : (b : Rat) ≠ 0 := by have := castpos h; grind
theorem V_lt {x y : Int × Int} (hx : 0 < x.2) (hy : 0 < y.2) : x.1 * y.2 < y.1 * x.2 ↔ V x < V y := by
  have p1 := castpos hx
  have p2 := castpos hy
  have n1 := castne hx
  have n2 := castne hy
  have e1 : V x * (x.2 : Rat) = (x.1 : Rat) := by unfold V; grind
  have e2 : V y * (y.2 : Rat) = (y.1 : Rat) := by unfold V; grind
  have pp : (0 : Rat) < (x.2 : Rat) * (y.2 : Rat) := Rat.mul_pos p1 p2
  have c : x.1 * y.2 < y.1 * x.2 ↔ (x.1 : Rat) * (y.2 : Rat) < (y.1 : Rat) * (x.2 : Rat) := by
    constructor
    · intro h; exact_mod_cast h
    · intro h; exact_mod_cast h
  rw [c, <- e1, <- e2]
  constructor
  · intro h
    by_cases z : V x < V y
    · exact z
    · have := Rat.mul_le_mul_of_nonneg_right (Rat.not_lt.mp z) (c := (x.2 : Rat) * (y.2 : Rat)) (by grind)
      grind
  · intro h
    have := Rat.mul_lt_mul_of_pos_right h pp
    grind
theorem V_inj {x y : Int × Int} (fx : Fr.IsFr x.1 x.2) (fy : Fr.IsFr y.1 y.2) (h : V x = V y) : x = y := by
  have n1 := castne fx.pos
  have n2 := castne fy.pos
  have c : (x.1 : Rat) * (y.2 : Rat) = (y.1 : Rat) * (x.2 : Rat) := by unfold V at h; grind
  have c' : x.1 * y.2 = y.1 * x.2 := by exact_mod_cast c
  have e := Fr.sh_is fx (Int.ne_of_gt fy.pos) c'
  have e2 := Fr.sh_is fy (Int.ne_of_gt fy.pos) (rfl : y.1 * y.2 = y.1 * y.2)
  exact e.trans e2.symm
def cv (r : Tb.Rw) : Rat := (r.t : Rat) / (r.b : Rat)
def up (l : Rat) (ys : List Tb.Rw) : Rat := (ys.map fun r => (r.w : Rat) * (mxr l (cv r) - l)).sum
def totr (ys : List Tb.Rw) : Rat := (ys.map fun r => (r.w : Rat)).sum
theorem up_nil (l : Rat) : up l [] = 0 := rfl
theorem up_cons (l : Rat) (r : Tb.Rw) (ys : List Tb.Rw) : up l (r :: ys) = (r.w : Rat) * (mxr l (cv r) - l) + up l ys := by unfold up; rw [List.map_cons, List.sum_cons]
theorem totr_cons (r : Tb.Rw) (ys : List Tb.Rw) : totr (r :: ys) = (r.w : Rat) + totr ys := by unfold totr; rw [List.map_cons, List.sum_cons]
theorem up_append (l : Rat) (xs ys : List Tb.Rw) : up l (xs ++ ys) = up l xs + up l ys := by unfold up; rw [List.map_append, List.sum_append]
theorem totr_append (xs ys : List Tb.Rw) : totr (xs ++ ys) = totr xs + totr ys := by unfold totr; rw [List.map_append, List.sum_append]
theorem totr_W : ∀ ys : List Tb.Rw, totr ys = ((Tb.W ys : Int) : Rat)
  | [] => rfl
  | r :: ys => by rw [totr_cons, Tb.W_cons, totr_W ys]; push_cast; rfl
theorem one_sum {f : Int -> Int -> Rat} {r : Tb.Rw} : ∀ {ys : List Tb.Rw}, ys.Pairwise Tb.Lt -> ((ys.map fun y => (((if r.t = y.t /\ r.b = y.b then r.w else 0 : Int)) : Rat) * f y.t y.b).sum = if (∃ y ∈ ys, y.t = r.t /\ y.b = r.b) then (r.w : Rat) * f r.t r.b else 0)
  | [], _ => by simp
  | y :: ys, so => by
    obtain ⟨h1, h2⟩ := List.pairwise_cons.mp so
    rw [List.map_cons, List.sum_cons, one_sum (f := f) (r := r) h2]
    by_cases e : r.t = y.t /\ r.b = y.b
    · have no : ¬ ∃ z ∈ ys, z.t = r.t /\ z.b = r.b := by
        rintro ⟨z, hz, e1, e2⟩
        exact Tb.Lt_irr (h1 z hz) (by omega) (by omega)
      rw [if_pos e, if_neg no, if_pos ⟨y, List.mem_cons_self, e.1.symm, e.2.symm⟩, <- e.1, <- e.2]
      grind
    · rw [if_neg e]
      by_cases h : ∃ z ∈ ys, z.t = r.t /\ z.b = r.b
      · obtain ⟨z, hz, ez⟩ := h
        rw [if_pos ⟨z, hz, ez⟩, if_pos ⟨z, List.mem_cons_of_mem _ hz, ez⟩]
        push_cast
        grind
      · rw [if_neg h, if_neg]
        · push_cast
          grind
        · rintro ⟨z, hz, ez⟩
          rcases List.mem_cons.mp hz with w | w
          · subst w; exact e ⟨ez.1.symm, ez.2.symm⟩
          · exact h ⟨z, w, ez⟩
theorem sum_add {α : Type} {f g : α -> Rat} : ∀ l : List α, (l.map fun x => f x + g x).sum = (l.map f).sum + (l.map g).sum
  | [] => by show (0 : Rat) = 0 + 0; grind
  | x :: l => by rw [List.map_cons, List.sum_cons, sum_add l, List.map_cons, List.sum_cons, List.map_cons, List.sum_cons]; grind
theorem sum_mul {α : Type} {f : α -> Rat} (d : Rat) : ∀ l : List α, (l.map fun x => d * f x).sum = d * (l.map f).sum
  | [] => by simp
  | x :: l => by rw [List.map_cons, List.sum_cons, sum_mul d l, List.map_cons, List.sum_cons]; grind
theorem prop_sum {ys : List Tb.Rw} (so : ys.Pairwise Tb.Lt) (f : Int -> Int -> Rat) : ∀ {ps : List Tb.Rw}, (∀ r ∈ ps, Tb.Has ys r.t r.b) -> (ps.map fun r => (r.w : Rat) * f r.t r.b).sum = (ys.map fun y => ((Tb.Wt ps y.t y.b : Int) : Rat) * f y.t y.b).sum
  | [], _ => by
    have e : (ys.map fun y => ((Tb.Wt [] y.t y.b : Int) : Rat) * f y.t y.b) = ys.map fun y => (0 : Rat) * f y.t y.b := List.map_congr_left fun y _ => rfl
    rw [e, sum_mul]
    simp
  | r :: ps, h => by
    rw [List.map_cons, List.sum_cons, prop_sum so f fun x hx => h x (List.mem_cons_of_mem _ hx)]
    have e : (ys.map fun y => ((Tb.Wt (r :: ps) y.t y.b : Int) : Rat) * f y.t y.b) = ys.map fun y => (((if r.t = y.t /\ r.b = y.b then r.w else 0 : Int)) : Rat) * f y.t y.b + ((Tb.Wt ps y.t y.b : Int) : Rat) * f y.t y.b := List.map_congr_left fun y _ => by
      rw [Tb.Wt_cons]
      push_cast
      grind
    rw [e, sum_add, one_sum so, if_pos]
    obtain ⟨y, hy, e1, e2⟩ := h r List.mem_cons_self
    exact ⟨y, hy, e1, e2⟩
theorem tab_prop {ps ys : List Tb.Rw} (h : Tb.IsTab ps ys) : ∃ d : Rat, 0 < d /\ (∀ l, up l ps = d * up l ys) /\ totr ps = d * totr ys := by
  obtain ⟨d, d0, hd⟩ := h.d
  have hh : ∀ r ∈ ps, Tb.Has ys r.t r.b := fun r hr => (h.has r.t r.b).mpr ⟨r, hr, rfl, rfl⟩
  have key : ∀ f : Int -> Int -> Rat, (ps.map fun r => (r.w : Rat) * f r.t r.b).sum = (d : Rat) * (ys.map fun y => (y.w : Rat) * f y.t y.b).sum := fun f => by
    rw [prop_sum h.lt f hh, <- sum_mul]
    congr 1
    refine List.map_congr_left fun y hy => ?_
    rw [hd y hy]
    push_cast
    grind
  refine ⟨(d : Rat), castpos d0, fun l => key fun t b => mxr l ((t : Rat) / (b : Rat)) - l, ?_⟩
  have k1 := key fun _ _ => 1
  unfold totr
  have e : ∀ l : List Tb.Rw, (l.map fun r => (r.w : Rat) * 1) = l.map fun r => (r.w : Rat) := fun l => List.map_congr_left fun r _ => by grind
  rw [e, e] at k1
  exact k1
theorem up_anti {l l' : Rat} (h : l <= l') : ∀ {ys : List Tb.Rw}, (∀ r ∈ ys, 1 <= r.w) -> up l' ys <= up l ys
  | [], _ => by rw [up_nil, up_nil]; grind
  | r :: ys, hw => by
    have a := up_anti h (ys := ys) fun x hx => hw x (List.mem_cons_of_mem _ hx)
    have w := castpos (show 0 < r.w by have := hw r List.mem_cons_self; omega)
    have m : mxr l' (cv r) - l' <= mxr l (cv r) - l := by unfold mxr; split <;> split <;> grind
    have b := Rat.mul_le_mul_of_nonneg_left m (c := (r.w : Rat)) (by grind)
    rw [up_cons, up_cons]
    grind
theorem totr_pos {ys : List Tb.Rw} (ne : ys ≠ []) (h : ∀ r ∈ ys, 1 <= r.w) : 0 < totr ys := by
  rw [totr_W]
  exact castpos (Tb.W_pos h ne)
theorem cv_cap {l0 l1 : Int} (hl : 0 < l1) {r : Tb.Rw} (hb : 0 < r.b) : cv (Tb.capR l0 l1 r) = (if V (l0, l1) < cv r then V (l0, l1) else cv r) /\ (Tb.capR l0 l1 r).w = r.w := by
  have e := V_lt (x := (l0, l1)) (y := (r.t, r.b)) hl hb
  have e : l0 * r.b < r.t * l1 ↔ V (l0, l1) < cv r := e
  unfold Tb.capR
  by_cases h : l0 * r.b < r.t * l1
  · rw [if_pos h, if_pos (e.mp h)]
    exact ⟨rfl, rfl⟩
  · rw [if_neg h, if_neg (fun z => h (e.mpr z))]
    exact ⟨rfl, rfl⟩
theorem up_cap {l0 l1 : Int} (hl : 0 < l1) {l : Rat} : ∀ {ys : List Tb.Rw}, (∀ r ∈ ys, 0 < r.b) -> up l (ys.map (Tb.capR l0 l1)) = (if l < V (l0, l1) then up l ys - up (V (l0, l1)) ys else 0) /\ totr (ys.map (Tb.capR l0 l1)) = totr ys
  | [], _ => by
    constructor
    · simp only [List.map_nil, up_nil]; split <;> grind
    · rfl
  | r :: ys, h => by
    obtain ⟨a, b⟩ := up_cap (l0 := l0) hl (l := l) (ys := ys) fun x hx => h x (List.mem_cons_of_mem _ hx)
    obtain ⟨c, d⟩ := cv_cap (l0 := l0) hl (h r List.mem_cons_self)
    rw [List.map_cons, up_cons, totr_cons, a, b, c, d, totr_cons, up_cons, up_cons]
    refine ⟨?_, rfl⟩
    unfold mxr
    by_cases h1 : l < V (l0, l1)
    · rw [if_pos h1, if_pos h1]
      by_cases h2 : V (l0, l1) < cv r
      · simp only [if_pos h2]
        rw [if_pos h1, if_pos (show l < cv r by grind)]
        grind
      · simp only [if_neg h2]
        by_cases h3 : l < cv r
        · rw [if_pos h3]; grind
        · rw [if_neg h3]; grind
    · rw [if_neg h1, if_neg h1]
      have : ¬ l < (if V (l0, l1) < cv r then V (l0, l1) else cv r) := by split <;> grind
      rw [if_neg this]
      grind
theorem S_up {B l0 l1 : Int} (hB : 0 < B) (hl : 0 < l1) : ∀ {ys : List Tb.Rw}, (∀ r ∈ ys, 0 < r.b /\ r.b ∣ B) -> ((Tb.S B l0 l1 ys : Int) : Rat) = (B : Rat) * (l1 : Rat) * up (V (l0, l1)) ys
  | [], _ => by rw [up_nil]; show ((0 : Int) : Rat) = _; push_cast; grind
  | r :: ys, h => by
    have a := S_up (l0 := l0) hB hl (ys := ys) fun x hx => h x (List.mem_cons_of_mem _ hx)
    obtain ⟨hb, dv⟩ := h r List.mem_cons_self
    have tm := Tb.T_mul hb hB dv
    have ai := Tb.above_iff (l0 := l0) (l1 := l1) hb hB dv
    have e := V_lt (x := (l0, l1)) (y := (r.t, r.b)) hl hb
    have e : l0 * r.b < r.t * l1 ↔ V (l0, l1) < cv r := e
    have n1 := castne hB
    have n2 := castne hl
    have n3 := castne hb
    have tm' : ((Tb.T B r : Int) : Rat) * (r.b : Rat) = (r.t : Rat) * (B : Rat) := by exact_mod_cast tm
    rw [Tb.S_cons, up_cons]
    push_cast
    rw [a]
    unfold Tb.mx mxr
    by_cases c : V (l0, l1) < cv r
    · rw [if_pos (ai.mpr (e.mpr c)), if_pos c]
      push_cast
      unfold V cv
      have t2 : ((Tb.T B r : Int) : Rat) = (r.t : Rat) * (B : Rat) / (r.b : Rat) := by grind
      rw [t2]
      grind
    · rw [if_neg (fun z => c (e.mp (ai.mp z))), if_neg c]
      push_cast
      grind
structure LvR (p : Int) (L : Rat) (ys : List Tb.Rw) : Prop where
  has : up L ys = (p : Rat) * totr ys
  more : ∀ m : Rat, m < L -> (p : Rat) * totr ys < up m ys
theorem V_rat (m : Rat) : V (m.num, (m.den : Int)) = m := by
  unfold V
  show (m.num : Rat) / ((m.den : Int) : Rat) = m
  rw [<- Rat.divInt_eq_div, Rat.num_divInt_den]
theorem lv_rat {B p l0 l1 : Int} {ys : List Tb.Rw} (hB : 0 < B) (h : ∀ r ∈ ys, 0 < r.b /\ r.b ∣ B) (L : Tb.Lv B (p * Tb.W ys * B) l0 l1 ys) : LvR p (V (l0, l1)) ys := by
  have n1 := castne hB
  have n2 := castne L.pos
  have q1 := castpos hB
  constructor
  · have a := S_up (l0 := l0) hB L.pos h
    rw [L.has] at a
    push_cast at a
    rw [totr_W]
    grind
  · intro m hm
    have mp : (0 : Int) < (m.den : Int) := by exact_mod_cast m.den_pos
    have lt := (V_lt (x := (m.num, (m.den : Int))) (y := (l0, l1)) mp L.pos).mpr (by rw [V_rat]; exact hm)
    have b := L.more m.num m.den lt
    have a := S_up (l0 := m.num) hB mp h
    rw [V_rat] at a
    have b' : ((p * Tb.W ys * B * (m.den : Int) : Int) : Rat) < ((Tb.S B m.num m.den ys : Int) : Rat) := by exact_mod_cast b
    rw [a] at b'
    push_cast at b'
    have q2 := castpos mp
    push_cast at q2
    have q3 : (0 : Rat) < (B : Rat) * (m.den : Rat) := Rat.mul_pos q1 q2
    rw [totr_W]
    by_cases z : (p : Rat) * ((Tb.W ys : Int) : Rat) < up m ys
    · exact z
    · have := Rat.mul_le_mul_of_nonneg_right (Rat.not_lt.mp z) (c := (B : Rat) * (m.den : Rat)) (by grind)
      grind
open TD
structure Mt (s : Sd) (d : Nat) (lv : Int × Int) (ys : List Tb.Rw) : Prop where
  a : ∀ n, d < n -> ∀ l : Rat, (rb l n s - l) * totr ys = up l ys
  b : ∀ l : Rat, 0 < up l ys ↔ l < V lv
  c : ∀ n, d < n -> opr (V lv) n s = V lv
  t : 0 < totr ys
inductive Al (d : Nat) : List Ent -> List (Int × Sd) -> Prop
  | nil : Al d [] []
  | cons {e : Ent} {t : Int × Sd} {es : List Ent} {rs : List (Int × Sd)} (w : e.w = t.1) (m : ∃ lv, Mt t.2 d lv (rws e.ys)) (h : Al d es rs) : Al d (e :: es) (t :: rs)
theorem Al.snoc {d : Nat} {es : List Ent} {rs : List (Int × Sd)} (h : Al d es rs) {e : Ent} {t : Int × Sd} (w : e.w = t.1) (m : ∃ lv, Mt t.2 d lv (rws e.ys)) : Al d (es ++ [e]) (rs ++ [t]) := by
  induction h with
  | nil => exact .cons w m .nil
  | cons w' m' _ ih => exact .cons w' m' ih
theorem up_scale (l : Rat) (k : Int) : ∀ ys : List Row, up l (ys.map fun y => ⟨y.t, y.b, k * y.w⟩) = (k : Rat) * up l (rws ys) /\ totr (ys.map fun y => (⟨y.t, y.b, k * y.w⟩ : Tb.Rw)) = (k : Rat) * totr (rws ys)
  | [] => by
    constructor
    · show (0 : Rat) = (k : Rat) * 0; grind
    · show (0 : Rat) = (k : Rat) * 0; grind
  | y :: ys => by
    obtain ⟨a, b⟩ := up_scale l k ys
    have e : rws (y :: ys) = y.r :: rws ys := rfl
    rw [List.map_cons, up_cons, totr_cons, a, b, e, up_cons, totr_cons]
    have e2 : cv y.r = cv ⟨y.t, y.b, k * y.w⟩ := rfl
    have e3 : y.r.w = y.w := rfl
    rw [e2, e3]
    push_cast
    constructor <;> grind
theorem parts_up {S : Int} {d n : Nat} (hn : d < n) (l : Rat) {es : List Ent} {rs : List (Int × Sd)} (al : Al d es rs) : (∀ e ∈ es, 1 <= wsum e.ys /\ wsum e.ys ∣ S) ->
    up l (partsOf S es) = (S : Rat) * (rs.map fun t => (t.1 : Rat) * (rb l n t.2 - l)).sum /\ totr (partsOf S es) = (S : Rat) * ((wtot rs : Int) : Rat) := by
  induction al with
  | nil =>
    intro _
    constructor
    · show (0 : Rat) = (S : Rat) * 0; grind
    · show (0 : Rat) = (S : Rat) * ((0 : Int) : Rat); push_cast; grind
  | @cons e t es rs w m _ ih =>
    intro h
    obtain ⟨a, b⟩ := ih fun x hx => h x (List.mem_cons_of_mem _ hx)
    obtain ⟨h1, h2⟩ := h e List.mem_cons_self
    obtain ⟨lv, mt⟩ := m
    have ef := fac_ws h1 h2
    have ew : totr (rws e.ys) = ((wsum e.ys : Int) : Rat) := by rw [totr_W, wsum_W]
    have ef' : ((fac S e : Int) : Rat) * totr (rws e.ys) = (t.1 : Rat) * (S : Rat) := by
      rw [ew, <- w]
      exact_mod_cast ef
    have ma := mt.a n hn l
    have pe : partsOf S (e :: es) = (e.ys.map fun y => (⟨y.t, y.b, fac S e * y.w⟩ : Tb.Rw)) ++ partsOf S es := rfl
    obtain ⟨u1, u2⟩ := up_scale l (fac S e) e.ys
    have wt : wtot (t :: rs) = t.1 + wtot rs := by unfold wtot; rw [List.map_cons, List.sum_cons]
    rw [pe, up_append, totr_append, u1, u2, a, b, List.map_cons, List.sum_cons, wt, <- ma, ef']
    push_cast
    constructor
    · have : ((fac S e : Int) : Rat) * ((rb l n t.2 - l) * totr (rws e.ys)) = (rb l n t.2 - l) * (((fac S e : Int) : Rat) * totr (rws e.ys)) := by grind
      rw [this, ef']
      grind
    · grind
theorem fold_sum (W l : Rat) (n : Nat) : ∀ (rs : List (Int × Sd)) (z : Rat), rs.foldl (fun a r => a + (r.1 : Rat) / W * rb l n r.2) z = z + (rs.map fun r => (r.1 : Rat) / W * rb l n r.2).sum
  | [], z => by show z = z + 0; grind
  | r :: rs, z => by rw [List.foldl_cons, fold_sum W l n rs, List.map_cons, List.sum_cons]; grind
theorem share_sum {W : Rat} (hW : W ≠ 0) (l : Rat) (n : Nat) : ∀ rs : List (Int × Sd), (rs.map fun r => (r.1 : Rat) / W * rb l n r.2).sum = (rs.map fun t => (t.1 : Rat) * (rb l n t.2 - l)).sum / W + l * ((wtot rs : Int) : Rat) / W
  | [] => by show (0 : Rat) = 0 / W + l * ((0 : Int) : Rat) / W; push_cast; grind
  | r :: rs => by
    have wt : wtot (r :: rs) = r.1 + wtot rs := by unfold wtot; rw [List.map_cons, List.sum_cons]
    rw [List.map_cons, List.sum_cons, share_sum hW l n rs, List.map_cons, List.sum_cons, wt]
    push_cast
    grind
theorem opr_st {p : Int} {rs : List (Int × Sd)} (hW : 0 < wtot rs) (l : Rat) (n : Nat) : opr l (n + 1) (.st p rs) = l - (p : Rat) + (rs.map fun t => (t.1 : Rat) * (rb l n t.2 - l)).sum / ((wtot rs : Int) : Rat) := by
  have ne := castne hW
  show rs.foldl (fun a r => a + (r.1 : Rat) / (wtot rs : Rat) * rb l n r.2) (-(p : Rat)) = _
  rw [fold_sum, share_sum ne]
  grind
theorem mt_en (v : Int) (d : Nat) : Mt (.en v) d (v, 1) [⟨v, 1, 1⟩] := by
  have e1 : V (v, 1) = (v : Rat) := by unfold V; push_cast; grind
  have e2 : cv ⟨v, 1, 1⟩ = (v : Rat) := e1
  have e3 : totr [⟨v, 1, 1⟩] = 1 := by rw [totr_cons]; show ((1 : Int) : Rat) + 0 = 1; push_cast; grind
  have e4 : ∀ l : Rat, up l [⟨v, 1, 1⟩] = mxr l (v : Rat) - l := fun l => by rw [up_cons, e2, up_nil]; push_cast; grind
  refine ⟨fun n hn l => ?_, fun l => ?_, fun n hn => ?_, by rw [e3]; grind⟩
  · obtain ⟨n, rfl⟩ : ∃ k, n = k + 1 := ⟨n - 1, by omega⟩
    rw [e3, e4]
    show (mxr l (v : Rat) - l) * 1 = _
    grind
  · rw [e4, e1]
    unfold mxr
    split <;> grind
  · obtain ⟨n, rfl⟩ : ∃ k, n = k + 1 := ⟨n - 1, by omega⟩
    rw [e1]
    rfl
theorem mt_st {d : Nat} {es : List Ent} {rs : List (Int × Sd)} {S p : Int} {lv : Int × Int} {ys zs : List Tb.Rw} (al : Al d es rs) (hS : 0 < S) (hd : ∀ e ∈ es, 1 <= wsum e.ys /\ wsum e.ys ∣ S) (hW : 0 < wtot rs) (o : Tb.IsTab (partsOf S es) ys) (ne : ys ≠ []) (hw : ∀ r ∈ ys, 1 <= r.w) (hb : ∀ r ∈ ys, 0 < r.b)
    (lp : 0 < lv.2) (L : LvR p (V lv) ys) (o2 : Tb.IsTab (ys.map (Tb.capR lv.1 lv.2)) zs) : Mt (.st p rs) (d + 1) lv zs := by
  obtain ⟨k1, k1p, u1, t1⟩ := tab_prop o
  obtain ⟨k2, k2p, u2, t2⟩ := tab_prop o2
  have Tp := totr_pos ne hw
  have Wp := castpos hW
  have Sp := castpos hS
  obtain ⟨_, tc⟩ := up_cap (l0 := lv.1) lp (l := 0) hb
  have t2' : totr ys = k2 * totr zs := by rw [<- tc, t2]
  have op : ∀ n, d < n -> ∀ l : Rat, opr l (n + 1) (.st p rs) = l - (p : Rat) + up l ys / totr ys := fun n hn l => by
    obtain ⟨a, b⟩ := parts_up hn l al hd
    rw [opr_st hW]
    rw [u1] at a
    rw [t1] at b
    have n1 : ((wtot rs : Int) : Rat) ≠ 0 := by grind
    have n2 : totr ys ≠ 0 := by grind
    have n3 : (S : Rat) ≠ 0 := by grind
    have n4 : k1 ≠ 0 := by grind
    have c : (rs.map fun t => (t.1 : Rat) * (rb l n t.2 - l)).sum * totr ys = up l ys * ((wtot rs : Int) : Rat) := by
      have e1 : (S : Rat) * ((rs.map fun t => (t.1 : Rat) * (rb l n t.2 - l)).sum * totr ys) * k1 = (S : Rat) * (up l ys * ((wtot rs : Int) : Rat)) * k1 := by grind
      grind
    grind
  have cap : ∀ l : Rat, k2 * up l zs = if l < V lv then up l ys - (p : Rat) * totr ys else 0 := fun l => by
    rw [<- u2, (up_cap (l0 := lv.1) lp (l := l) hb).1]
    show (if l < V lv then up l ys - up (V lv) ys else 0) = _
    rw [L.has]
  have key : ∀ l : Rat, (mxr l (l - (p : Rat) + up l ys / totr ys) - l) * totr ys = if l < V lv then up l ys - (p : Rat) * totr ys else 0 := fun l => by
    have n2 : totr ys ≠ 0 := by grind
    have q : up l ys / totr ys * totr ys = up l ys := by grind
    by_cases h : l < V lv
    · have m := L.more l h
      have g : (p : Rat) < up l ys / totr ys := by
        by_cases z : (p : Rat) < up l ys / totr ys
        · exact z
        · have := Rat.mul_le_mul_of_nonneg_right (Rat.not_lt.mp z) (c := totr ys) (by grind)
          grind
      unfold mxr
      rw [if_pos h, if_pos (by grind)]
      grind
    · have m := up_anti (l := V lv) (l' := l) (by grind) hw
      rw [L.has] at m
      have g : ¬ (p : Rat) < up l ys / totr ys := fun z => by
        have := Rat.mul_lt_mul_of_pos_right z Tp
        grind
      unfold mxr
      rw [if_neg h, if_neg (by grind)]
      grind
  have tz : 0 < totr zs := by
    by_cases z : 0 < totr zs
    · exact z
    · have := Rat.mul_le_mul_of_nonneg_left (Rat.not_lt.mp z) (c := k2) (by grind)
      grind
  refine ⟨fun n hn l => ?_, fun l => ?_, fun n hn => ?_, tz⟩
  · obtain ⟨n, rfl⟩ : ∃ k, n = k + 1 := ⟨n - 1, by omega⟩
    rw [rb_opr, op n (by omega) l]
    have a := key l
    rw [<- cap l, t2'] at a
    have n4 : k2 ≠ 0 := by grind
    rw [t2']
    grind
  · have c := cap l
    have n4 : k2 ≠ 0 := by grind
    by_cases h : l < V lv
    · have m := L.more l h
      rw [if_pos h] at c
      refine ⟨fun _ => h, fun _ => ?_⟩
      by_cases z : 0 < up l zs
      · exact z
      · have := Rat.mul_le_mul_of_nonneg_left (Rat.not_lt.mp z) (c := k2) (by grind)
        grind
    · rw [if_neg h] at c
      refine ⟨fun z => ?_, fun z => absurd z h⟩
      have := Rat.mul_lt_mul_of_pos_left z k2p
      grind
  · obtain ⟨n, rfl⟩ : ∃ k, n = k + 1 := ⟨n - 1, by omega⟩
    rw [op n (by omega), L.has]
    have n2 : totr ys ≠ 0 := by grind
    grind
def Rv (s : Sd) (d : Nat) (lv : Int × Int) : Prop := ∃ ys, Mt s d lv ys
theorem Rv.iff {s : Sd} {d : Nat} {lv : Int × Int} (h : Rv s d lv) {n : Nat} (hn : d < n) (l : Rat) : l < V lv ↔ l < rb l n s := by
  obtain ⟨ys, m⟩ := h
  rw [<- m.b l, <- m.a n hn l]
  have t := m.t
  constructor
  · intro z
    by_cases y : l < rb l n s
    · exact y
    · have := Rat.mul_le_mul_of_nonneg_right (a := rb l n s - l) (b := 0) (c := totr ys) (by grind) (by grind)
      grind
  · intro z
    exact Rat.mul_pos (by grind) t
theorem rat_ext {a b : Rat} (h : ∀ l : Rat, l < a ↔ l < b) : a = b := by
  have h1 := h a
  have h2 := h b
  grind
theorem Rv.one {s : Sd} {d : Nat} {lv lw : Int × Int} (h : Rv s d lv) (h' : Rv s d lw) (f : Fr.IsFr lv.1 lv.2) (f' : Fr.IsFr lw.1 lw.2) : lv = lw :=
  V_inj f f' (rat_ext fun l => (h.iff (Nat.lt_succ_self d) l).trans (h'.iff (Nat.lt_succ_self d) l).symm)
structure Lw (l : Int × Int) : Prop where
  fr : Fr.IsFr l.1 l.2
  b : l.2 <= 2 ^ 1500
  lo : -(2 ^ 1530 * l.2) <= l.1
  hi : l.1 <= 2 ^ 1530 * l.2
theorem p30 : (1000000000 : Int) <= 2 ^ 1530 := by decide +kernel
theorem Lw.fq {l : Int × Int} (h : Lw l) : FQ l l.2 (2 ^ 1530) := ⟨h.fr, Int.dvd_refl _, h.lo, h.hi⟩
theorem Lv.lw {l : Int × Int} (h : Lv l) : Lw l := by
  have p := h.fr.pos
  have e : (2147483648 : Int) <= 2 ^ 1530 := by decide +kernel
  have f := mul_le_r e (Int.le_of_lt p)
  have := h.lo
  have := h.hi
  exact ⟨h.fr, Int.le_trans h.b (pow_le2 (by decide)), by omega, by omega⟩
end Sd
namespace TD
open PySem L2
open Builtin.Int (intBits)
theorem fq_z5 {x : Int × Int} {N k : Int} (f : Sd.FQ x N k) (hN : 0 < N) (hn : N <= 2 ^ 2200) (k0 : 0 <= k) (hk : k <= 2 ^ 1600) : Z4 x := by
  have h := fq_bits f hN hn k0 hk
  exact ⟨by omega, by omega, f.fr.pos⟩
theorem lw_z4 {l : Int × Int} (h : Sd.Lw l) : Z4 l := fq_z5 h.fq h.fr.pos (Int.le_trans h.b (Sd.pow_le2 (by decide))) (Int.le_of_lt (Sd.pow_pos2 _)) (Sd.pow_le2 (by decide))
end TD
namespace Sd
open TD
def nE : Nat -> Sd -> Int
  | 0, _ => 0
  | _ + 1, .en _ => 1
  | n + 1, .st _ rs => (rs.map fun r => nE n r.2).sum
def mxL (l : List Int) : Int := l.foldl max 0
def nS : Nat -> Sd -> Int
  | 0, _ => 0
  | _ + 1, .en _ => 0
  | n + 1, .st _ rs => 1 + mxL (rs.map fun r => nS n r.2)
theorem mxL_fold : ∀ (l : List Int) (a : Int), a <= l.foldl max a /\ (∀ x ∈ l, x <= l.foldl max a) /\ (l.foldl max a = a ∨ l.foldl max a ∈ l)
  | [], a => ⟨Int.le_refl _, (fun _ h => nomatch h), .inl rfl⟩
  | y :: l, a => by
    obtain ⟨h1, h2, h3⟩ := mxL_fold l (max a y)
    rw [List.foldl_cons]
    refine ⟨by omega, fun x hx => ?_, ?_⟩
    · rcases List.mem_cons.mp hx with e | e
      · subst e; omega
      · exact h2 x e
    · rcases h3 with e | e
      · rw [e]
        by_cases z : a <= y
        · right; rw [show max a y = y by omega]; exact List.mem_cons_self
        · left; omega
      · exact .inr (List.mem_cons_of_mem _ e)
theorem mxL_of {l : List Int} {M : Int} (h0 : ∀ x ∈ l, 0 <= x) (hm : M ∈ l) (hx : ∀ x ∈ l, x <= M) : M = mxL l := by
  obtain ⟨h1, h2, h3⟩ := mxL_fold l 0
  have a := h2 M hm
  unfold mxL
  rcases h3 with e | e
  · have := h0 M hm
    omega
  · have := hx _ e
    omega
theorem nE_fuel {s : Sd} {d m : Nat} (ok : Ok s d m) : ∀ n, d < n -> nE n s = nE (d + 1) s := by
  induction ok with
  | en _ _ _ => intro n hn; obtain ⟨n, rfl⟩ : ∃ k, n = k + 1 := ⟨n - 1, by omega⟩; rfl
  | @st p rs d m k h0 h9 ne l4 w sub hk ih =>
    intro n hn
    obtain ⟨n, rfl⟩ : ∃ k, n = k + 1 := ⟨n - 1, by omega⟩
    show (rs.map fun r => nE n r.2).sum = (rs.map fun r => nE (d + 1) r.2).sum
    congr 1
    exact List.map_congr_left fun r hr => ih r hr n (by omega)
theorem nS_fuel {s : Sd} {d m : Nat} (ok : Ok s d m) : ∀ n, d < n -> nS n s = nS (d + 1) s := by
  induction ok with
  | en _ _ _ => intro n hn; obtain ⟨n, rfl⟩ : ∃ k, n = k + 1 := ⟨n - 1, by omega⟩; rfl
  | @st p rs d m k h0 h9 ne l4 w sub hk ih =>
    intro n hn
    obtain ⟨n, rfl⟩ : ∃ k, n = k + 1 := ⟨n - 1, by omega⟩
    show 1 + mxL (rs.map fun r => nS n r.2) = 1 + mxL (rs.map fun r => nS (d + 1) r.2)
    congr 2
    exact List.map_congr_left fun r hr => ih r hr n (by omega)
theorem nS_nn : ∀ (n : Nat) (s : Sd), 0 <= nS n s
  | 0, _ => Int.le_refl _
  | _ + 1, .en _ => Int.le_refl _
  | n + 1, .st _ rs => by
    have := (mxL_fold (rs.map fun r => nS n r.2) 0).1
    show 0 <= 1 + mxL _
    unfold mxL
    omega
theorem Ok.nE {s : Sd} {d m : Nat} (ok : Ok s d m) : ∀ n, d < n -> nE n s <= (m : Int) := by
  induction ok with
  | en _ _ hm => intro n hn; obtain ⟨n, rfl⟩ : ∃ k, n = k + 1 := ⟨n - 1, by omega⟩; show (1 : Int) <= _; omega
  | @st p rs d m k h0 h9 ne l4 w sub hk ih =>
    intro n hn
    obtain ⟨n, rfl⟩ : ∃ k, n = k + 1 := ⟨n - 1, by omega⟩
    show (rs.map fun r => Sd.nE n r.2).sum <= _
    have key : ∀ l : List (Int × Sd), (∀ r ∈ l, r ∈ rs) -> (l.map fun r => Sd.nE n r.2).sum <= (((l.map k).sum : Nat) : Int) := by
      intro l
      induction l with
      | nil => intro _; exact Int.le_refl _
      | cons r l ih2 =>
        intro h
        have a := ih2 fun x hx => h x (List.mem_cons_of_mem _ hx)
        have b := ih r (h r List.mem_cons_self) n (by omega)
        rw [List.map_cons, List.sum_cons, List.map_cons, List.sum_cons]
        push_cast
        omega
    have a := key rs fun r hr => hr
    omega
end Sd
namespace TD
open PySem L2
open Builtin.Int (intBits)
structure Cs where
  e : Addr
  s : Addr
def fB (n k : Int) (l cp : Addr) : List (Str × V) := [("end_count", .int n), ("stage_count", .int k), ("level", .ref l), ("cap_rows", .ref cp)]
def fE (n k : Int) (l cp : Addr) (v : Int) : List (Str × V) := [("end_count", .int n), ("stage_count", .int k), ("level", .ref l), ("cap_rows", .ref cp), ("worth", .int v)]
def fS (n k : Int) (l cp : Addr) (p : Int) (r : Addr) : List (Str × V) := [("end_count", .int n), ("stage_count", .int k), ("level", .ref l), ("cap_rows", .ref cp), ("price", .int p), ("rows", .ref r)]
structure SdV (H : Hp) (l cp : Addr) (s : Sd.Sd) (lq : Int × Int) (xs : List Row) (n k : Int) (d m : Nat) : Prop where
  lv : Tq H l lq
  caps : TpAt H cp xs
  gs : GS2 xs d m
  so : (rws xs).Pairwise Tb.Lt
  n1 : 1 <= n
  nm : n <= (m : Int)
  k0 : 0 <= k
  kd : k <= (d : Int)
  mt : Sd.Mt s d lq (rws xs)
  lw : Sd.Lw lq
  nx : n = Sd.nE (d + 1) s
  kx : k = Sd.nS (d + 1) s
inductive StAt (c : Cs) (H : Hp) : Addr -> Sd.Sd -> Nat -> Nat -> Prop
  | en {x dx l cp : Addr} {v n k : Int} {d m : Nat} {xs : List Row} (h : H x = some (.ins c.e dx (fE n k l cp v))) (vv : SdV H l cp (.en v) (v, 1) xs n k d m) (ok : Sd.Ok (.en v) d m) : StAt c H x (.en v) d m
  | st {x dx l cp r : Addr} {p n k : Int} {lv : Int × Int} {d m : Nat} {j : Int × Sd.Sd -> Nat} {xs : List Row} {rs : List (Int × Sd.Sd)} {ps ys : List Addr} (h : H x = some (.ins c.s dx (fS n k l cp p r))) (vv : SdV H l cp (.st p rs) lv xs n k (d + 1) m) (g : H r = some (.tup (ps.map V.ref)))
      (lp : ps.length = rs.length) (ly : ys.length = rs.length) (row : ∀ (i : Nat) q y t, ps[i]? = some q -> ys[i]? = some y -> rs[i]? = some t -> H q = some (.tup [.int t.1, .ref y])) (sub : ∀ (i : Nat) y t, ys[i]? = some y -> rs[i]? = some t -> StAt c H y t.2 d (j t))
      (p0 : 0 <= p) (p9 : p <= 1000000000) (ne : rs ≠ []) (l4 : rs.length <= 4) (w : ∀ r ∈ rs, 1 <= r.1 /\ r.1 <= 1000) (hk : (rs.map j).sum <= m) : StAt c H x (.st p rs) (d + 1) m
def Kp (H H' : Hp) : Prop := ∀ b o, H b = some o -> (∀ ps, o ≠ .tbl ps) -> (∀ C dx, o ≠ .ins C dx []) -> H' b = some o
theorem Same.kp {H H' : Hp} (s : Same H H') : Kp H H' := fun b o h _ _ => s b o h
theorem SameT.kp {P : Addr} {pos : Pos} {qual : Str} {H H' : Hp} (s : SameT P H H') (t : TbOk P pos qual H) : Kp H H' := fun b o h n _ => s.get t h n
theorem Kp.trans {H H1 H2 : Hp} (a : Kp H H1) (b : Kp H1 H2) : Kp H H2 := fun c o h n m => b c o (a c o h n m) n m
theorem Kp.tup {H H' : Hp} (k : Kp H H') {b : Addr} {xs : List V} (h : H b = some (.tup xs)) : H' b = some (.tup xs) := k _ _ h (fun _ z => nomatch z) (fun _ _ z => nomatch z)
theorem Kp.ins {H H' : Hp} (k : Kp H H') {b C dx : Addr} {f : Str × V} {fs : List (Str × V)} (h : H b = some (.ins C dx (f :: fs))) : H' b = some (.ins C dx (f :: fs)) := k _ _ h (fun _ z => nomatch z) (fun _ _ z => by injection z with _ _ z; exact nomatch z)
theorem Kp.lst {H H' : Hp} (k : Kp H H') {b : Addr} {xs : List V} (h : H b = some (.lst xs)) : H' b = some (.lst xs) := k _ _ h (fun _ z => nomatch z) (fun _ _ z => nomatch z)
theorem RowAt.kp {H H' : Hp} {x : Row} (s : Kp H H') (h : RowAt H x) : RowAt H' x := ⟨s.tup h.1, s.tup h.2⟩
theorem TpAt.kp {H H' : Hp} {a : Addr} {xs : List Row} (s : Kp H H') (h : TpAt H a xs) : TpAt H' a xs := ⟨s.tup h.1, fun x hx => (h.2 x hx).kp s⟩
theorem TabAt.kp {H H' : Hp} {a : Addr} {xs : List Row} (s : Kp H H') (h : TabAt H a xs) : TabAt H' a xs := ⟨s.lst h.lst, fun x hx => (h.rows x hx).kp s⟩
theorem SdV.kp {H H' : Hp} {l cp : Addr} {sd : Sd.Sd} {lv : Int × Int} {xs : List Row} {n k : Int} {d m : Nat} (s : Kp H H') (h : SdV H l cp sd lv xs n k d m) : SdV H' l cp sd lv xs n k d m := ⟨s.tup h.lv, h.caps.kp s, h.gs, h.so, h.n1, h.nm, h.k0, h.kd, h.mt, h.lw, h.nx, h.kx⟩
theorem StAt.kp {c : Cs} {H H' : Hp} {x : Addr} {s : Sd.Sd} {d m : Nat} (h : StAt c H x s d m) (k : Kp H H') : StAt c H' x s d m := by
  induction h with
  | en h vv ok => exact .en (k.ins h) (vv.kp k) ok
  | st h vv g lp ly row sub p0 p9 ne l4 w hk ih => exact .st (k.ins h) (vv.kp k) (k.tup g) lp ly (fun i q y t a b c => k.tup (row i q y t a b c)) ih p0 p9 ne l4 w hk
theorem StAt.same {c : Cs} {H H' : Hp} {x : Addr} {s : Sd.Sd} {d m : Nat} (k : Same H H') (h : StAt c H x s d m) : StAt c H' x s d m := h.kp (Same.kp k)
theorem at_len {α β : Type} {ys : List α} {rs : List β} (l : ys.length = rs.length) {r : β} (h : r ∈ rs) : ∃ (i : Nat) (y : α), ys[i]? = some y /\ rs[i]? = some r := by
  obtain ⟨i, hi, e⟩ := List.getElem_of_mem h
  exact ⟨i, ys[i]'(by omega), List.getElem?_eq_getElem _, by rw [List.getElem?_eq_getElem hi, e]⟩
theorem StAt.ok {c : Cs} {H : Hp} {x : Addr} {s : Sd.Sd} {d m : Nat} (h : StAt c H x s d m) : Sd.Ok s d m := by
  induction h with
  | en _ _ ok => exact ok
  | st h vv g lp ly row sub p0 p9 ne l4 w hk ih => exact .st p0 p9 ne l4 w (fun r hr => by obtain ⟨i, y, a, b⟩ := at_len ly hr; exact ih i y r a b) hk
inductive ToAt (H : Hp) : Addr -> Sd.Sd -> Prop
  | en {a : Addr} {v : Int} (h : H a = some (.tup [.str "end", .int v])) : ToAt H a (.en v)
  | st {a r : Addr} {p : Int} {rs : List (Int × Sd.Sd)} {ps ys : List Addr} (h : H a = some (.tup [.str "stage", .int p, .ref r])) (g : H r = some (.tup (ps.map V.ref))) (lp : ps.length = rs.length) (ly : ys.length = rs.length)
      (row : ∀ (i : Nat) q y t, ps[i]? = some q -> ys[i]? = some y -> rs[i]? = some t -> H q = some (.tup [.int t.1, .ref y])) (sub : ∀ (i : Nat) y t, ys[i]? = some y -> rs[i]? = some t -> ToAt H y t.2) : ToAt H a (.st p rs)
theorem ToAt.keep {H H' : Hp} {a : Addr} {s : Sd.Sd} (h : ToAt H a s) (k : ∀ b xs, H b = some (.tup xs) -> H' b = some (.tup xs)) : ToAt H' a s := by
  induction h with
  | en h => exact .en (k _ _ h)
  | st h g lp ly row sub ih => exact .st (k _ _ h) (k _ _ g) lp ly (fun i q y t a b c => k _ _ (row i q y t a b c)) ih
theorem ToAt.kp {H H' : Hp} {a : Addr} {s : Sd.Sd} (h : ToAt H a s) (k : Kp H H') : ToAt H' a s := h.keep fun b xs e => k.tup e
theorem ToAt.same {H H' : Hp} {a : Addr} {s : Sd.Sd} (k : Same H H') (h : ToAt H a s) : ToAt H' a s := h.keep fun b xs e => k _ _ e
structure CK (K : PySem.W.Frag) (c : Cs) : Prop where
  ce : Cls K c.e
  cs : Cls K c.s
  e1 : NoAttr K c.e "end_count"
  e2 : NoAttr K c.e "stage_count"
  e3 : NoAttr K c.e "level"
  e4 : NoAttr K c.e "cap_rows"
  e5 : NoAttr K c.e "worth"
  s1 : NoAttr K c.s "end_count"
  s2 : NoAttr K c.s "stage_count"
  s3 : NoAttr K c.s "level"
  s4 : NoAttr K c.s "cap_rows"
  s5 : NoAttr K c.s "price"
  s6 : NoAttr K c.s "rows"
structure CT (K : PySem.W.Frag) (c : Cs) : Prop where
  hn : PySem.W.specialIn K (.builtin "object.__class__") "__get__" = some (some (.builtin "getset_descriptor.__get__"))
  htk : PySem.W.takesIn K (.builtin "object.__class__") = some true
  ea : PySem.W.findIn K (.ref c.e) "__class__" = some (some (.builtin "object.__class__"))
  em : PySem.W.mroIn K c.e (.type "object") = some true
  sa : PySem.W.findIn K (.ref c.s) "__class__" = some (some (.builtin "object.__class__"))
  sm : PySem.W.mroIn K c.s (.type "object") = some true
  ee : PySem.W.kitOne K (.ref c.e) (.ref c.e) = some true
  se : PySem.W.kitOne K (.ref c.s) (.ref c.e) = some false
  ss : PySem.W.kitOne K (.ref c.s) (.ref c.s) = some true
def spEnds (c : Cs) : Sp := fun vs H Q _ => ∃ (x : Addr) (s : Sd.Sd) (d m : Nat), vs = [.ref x] /\ StAt c H x s d m /\ ∀ n : Int, 1 <= n -> n <= (m : Int) -> n = Sd.nE (d + 1) s -> Q (.int n) H
def spStgs (c : Cs) : Sp := fun vs H Q _ => ∃ (x : Addr) (s : Sd.Sd) (d m : Nat), vs = [.ref x] /\ StAt c H x s d m /\ ∀ k : Int, 0 <= k -> k <= (d : Int) -> k = Sd.nS (d + 1) s -> Q (.int k) H
def spCaps (c : Cs) : Sp := fun vs H Q _ => ∃ (x : Addr) (s : Sd.Sd) (d m : Nat), vs = [.ref x] /\ StAt c H x s d m /\ ∀ (r : Addr) (H' : Hp) (xs : List Row), Same H H' -> H r = none -> TabAt H' r xs -> GS2 xs d m -> (rws xs).Pairwise Tb.Lt -> (∃ lv, Sd.Mt s d lv (rws xs) /\ Sd.Lw lv) -> Q (.ref r) H'
def spRes (c : Cs) : Sp := fun vs H Q _ => ∃ (x : Addr) (s : Sd.Sd) (d m : Nat), vs = [.ref x] /\ StAt c H x s d m /\ ∀ l lv, Tq H l lv -> Sd.Lw lv -> Sd.Rv s d lv -> Q (.ref l) H
def spStI (c : Cs) : Sp := fun vs H Q _ => ∃ (x dx C l a : Addr) (n k : Int) (xs : List Row), vs = [.ref x, .int n, .int k, .ref l, .ref a] /\ (C = c.e ∨ C = c.s) /\ H x = some (.ins C dx []) /\ TabAt H a xs ∧
  ∀ (cp : Addr) (H' : Hp), H cp = none -> (∀ b o, b ≠ x -> H b = some o -> H' b = some o) -> H' x = some (.ins C dx (fB n k l cp)) -> H' cp = some (.tup (refs xs)) -> Q .non H'
def spEI (c : Cs) : Sp := fun vs H Q _ => ∃ (x dx : Addr) (v : Int), vs = [.ref x, .int v] /\ H x = some (.ins c.e dx []) /\ 0 <= v /\ v <= 1000000000 ∧
  ∀ H' : Hp, (∀ b o, b ≠ x -> H b = some o -> H' b = some o) -> (∀ d m : Nat, 1 <= m -> StAt c H' x (.en v) d m) -> Q .non H'
structure RwAt (c : Cs) (H : Hp) (ps ys : List Addr) (rs : List (Int × Sd.Sd)) (d : Nat) (j : Int × Sd.Sd -> Nat) : Prop where
  lp : ps.length = rs.length
  ly : ys.length = rs.length
  row : ∀ (i : Nat) q y t, ps[i]? = some q -> ys[i]? = some y -> rs[i]? = some t -> H q = some (.tup [.int t.1, .ref y])
  sub : ∀ (i : Nat) y t, ys[i]? = some y -> rs[i]? = some t -> StAt c H y t.2 d (j t)
theorem RwAt.kp {c : Cs} {H H' : Hp} {ps ys : List Addr} {rs : List (Int × Sd.Sd)} {d : Nat} {j : Int × Sd.Sd -> Nat} (h : RwAt c H ps ys rs d j) (k : Kp H H') : RwAt c H' ps ys rs d j := ⟨h.lp, h.ly, fun i q y t a b e => k.tup (h.row i q y t a b e), fun i y t a b => (h.sub i y t a b).kp k⟩
theorem RwAt.at_ {c : Cs} {H : Hp} {ps ys : List Addr} {rs : List (Int × Sd.Sd)} {d i : Nat} {j : Int × Sd.Sd -> Nat} {v : V} (h : RwAt c H ps ys rs d j) (hv : (ps.map V.ref)[i]? = some v) : ∃ q y t, ps[i]? = some q /\ ys[i]? = some y /\ rs[i]? = some t /\ v = .ref q /\ H q = some (.tup [.int t.1, .ref y]) /\ StAt c H y t.2 d (j t) /\ t ∈ rs := by
  rw [List.getElem?_map] at hv
  cases e : ps[i]? with
  | none => rw [e] at hv; cases hv
  | some q =>
    rw [e] at hv
    cases hv
    have hi := (List.getElem?_eq_some_iff.mp e).1
    have l1 := h.lp
    have l2 := h.ly
    have ey : ys[i]? = some (ys[i]'(by omega)) := List.getElem?_eq_getElem _
    have er : rs[i]? = some (rs[i]'(by omega)) := List.getElem?_eq_getElem _
    exact ⟨q, _, _, rfl, ey, er, rfl, h.row i q _ _ e ey er, h.sub i _ _ ey er, List.mem_of_getElem? er⟩
def spSI (c : Cs) (Pt : Addr) (lp : Pos) : Sp := fun vs H Q _ => ∃ (x dx a : Addr) (p : Int) (ps ys : List Addr) (rs : List (Int × Sd.Sd)) (d m : Nat) (j : Int × Sd.Sd -> Nat), vs = [.ref x, .int p, .ref a] /\ H x = some (.ins c.s dx []) /\ H a = some (.lst (ps.map V.ref)) /\ RwAt c H ps ys rs d j ∧
  0 <= p /\ p <= 1000000000 /\ rs ≠ [] /\ rs.length <= 4 /\ (∀ r ∈ rs, 1 <= r.1 /\ r.1 <= 1000) /\ (rs.map j).sum <= m /\ m <= 12 /\ d + 1 <= 4 /\ TbOk Pt lp lamQ H ∧
  ∀ H' : Hp, (∀ b o, b ≠ x -> b ≠ Pt -> H b = some o -> H' b = some o) -> TbOk Pt lp lamQ H' -> StAt c H' x (.st p rs) (d + 1) m -> Q .non H'
def spIsSt (c : Cs) : Sp := fun vs H Q _ => ∃ (x : Addr) (s : Sd.Sd) (d m : Nat), vs = [.ref x] /\ StAt c H x s d m /\ Q (.bl true) H
def spIsRow (c : Cs) : Sp := fun vs H Q _ => ∃ (q y : Addr) (w : Int) (s : Sd.Sd) (d m : Nat), vs = [.ref q] /\ H q = some (.tup [.int w, .ref y]) /\ 1 <= w /\ w <= 1000 /\ StAt c H y s d m /\ Q (.bl true) H
def spIsRows (c : Cs) : Sp := fun vs H Q _ => ∃ (a : Addr) (ps ys : List Addr) (rs : List (Int × Sd.Sd)) (d : Nat) (j : Int × Sd.Sd -> Nat), vs = [.ref a] /\ H a = some (.lst (ps.map V.ref)) /\ RwAt c H ps ys rs d j /\ rs ≠ [] /\ rs.length <= 4 /\ (∀ r ∈ rs, 1 <= r.1 /\ r.1 <= 1000) /\ ∀ H', Same H H' -> Q (.bl true) H'
def spRS (c : Cs) : Sp := fun vs H Q _ => ∃ (x : Addr) (p : Int) (rs : List (Int × Sd.Sd)) (d m i : Nat) (t : Int × Sd.Sd), vs = [.ref x, .int (i : Int)] /\ StAt c H x (.st p rs) d m /\ rs[i]? = some t /\ ∀ r H', Same H H' -> Tq H' r (Fr.sh t.1 (Sd.wtot rs)) -> Q (.ref r) H'
def spAf (c : Cs) : Sp := fun vs H Q _ => ∃ (x : Addr) (p : Int) (rs : List (Int × Sd.Sd)) (d m i : Nat) (t : Int × Sd.Sd), vs = [.ref x, .int (i : Int)] /\ StAt c H x (.st p rs) (d + 1) m /\ rs[i]? = some t /\ ∀ (y : Addr) (j : Nat), j <= m -> StAt c H y t.2 d j -> Q (.ref y) H
theorem gs_end {p q : Addr} {v : Int} {d m : Nat} (h0 : 0 <= v) (h9 : v <= 1000000000) (hm : 1 <= m) : GS2 [⟨p, q, v, 1, 1⟩] d m := by
  have e : lcmB [⟨p, q, v, 1, 1⟩] = 1 := by show lcmL [1] = 1; decide
  have w1 : wsum [(⟨p, q, v, 1, 1⟩ : Row)] = 1 := rfl
  have wp := Sd.pow_pos2 ((12 * d + 1) * m)
  have bp := Sd.pow_pos2 (be d * m)
  have k9 := k30 d
  unfold GS2
  rw [e]
  refine ⟨⟨by simp, by show 1 <= m; exact hm, fun x hx => ?_, by rw [w1]; unfold wB; omega, by decide, fun x hx => ?_⟩, by omega⟩
  · rw [List.mem_singleton.mp hx]; exact Int.le_refl _
  · rw [List.mem_singleton.mp hx]
    exact ⟨Sd.fr1 v, Int.dvd_refl _, by show -(kK d * 1) <= v; omega, by show v <= kK d * 1; omega⟩
def SameX (x : Addr) (H H' : Hp) : Prop := ∀ b o, b ≠ x -> H b = some o -> H' b = some o
theorem SameX.kp {x C dx : Addr} {H H' : Hp} (s : SameX x H H') (hx : H x = some (.ins C dx [])) : Kp H H' := fun b o h _ n => s b o (fun e => by rw [e, hx] at h; cases h; exact n C dx rfl) h
theorem TbOk.sameX {P x C dx : Addr} {pos : Pos} {qual : Str} {fs : List (Str × V)} {H H' : Hp} (t : TbOk P pos qual H) (s : SameX x H H') (hx : H x = some (.ins C dx fs)) : TbOk P pos qual H' := by
  rcases t with t | ⟨c, t, u⟩
  · exact .inl (s _ _ (ne_of t hx fun z => nomatch z) t)
  · exact .inr ⟨c, s _ _ (ne_of t hx fun z => nomatch z) t, s _ _ (ne_of u hx fun z => by unfold CodeO at z; exact nomatch z) u⟩
theorem meth2 {c : Cs} {H H0 : Hp} {y : Addr} {s : Sd.Sd} {d m : Nat} {σ : St} {ta : TE} {nm : Str} {sp : Sp} {Q : VK} (st : StAt c H y s d m) (le : ∀ n k l cp v, (fE n k l cp v).lookup nm = none) (ls : ∀ n k l cp p r, (fS n k l cp p r).lookup nm = none) (hv : ∀ R : VK, R (.ref y) H -> ta σ H0 R) (q : sp [.ref y] H Q E0) :
    tMeth c.e nm sp [] E0 ta tNil σ H0 Q ∨ tMeth c.s nm sp [] E0 ta tNil σ H0 Q := by
  cases st with
  | en h vv ok => exact .inl (hv _ ⟨y, _, _, rfl, h, le _ _ _ _ _, q⟩)
  | st h vv g lp ly row sub p0 p9 ne l4 w hk => exact .inr (hv _ ⟨y, _, _, rfl, h, ls _ _ _ _ _ _, q⟩)
def spCA1 (K : PySem.W.Frag) : Sp := fun vs H Q _ => ∃ (a : Addr) (ns : List Int) (k : Int), vs = [.ref a, .int k] /\ SqL K H a (ns.map V.int) /\ 0 <= k /\ ∀ j, Q (.int j) H
def spMx1 : Sp := fun vs H Q _ => ∃ c k : Int, vs = [.int c, .int k] /\ 0 <= k /\ k <= 100000 /\ ∀ j, 0 <= j -> j < 2147483587 -> Q (.int j) H
def spRow1 : Sp := fun vs H Q _ => ∃ (c b n : Int), vs = [.int c, .int b, .int n] /\ n = 151 /\ ∀ r H' ns, Same H H' -> H r = none -> H' r = some (.lst (Is ns)) -> ns.length = 151 -> Q (.ref r) H'
def pp : Nat -> Nat -> Nat
  | 0, _ => 2
  | d + 1, m => ((List.range 4).map fun i => if i + 1 <= m then 2 + (i + 1) * (1 + pp d (m / (i + 1))) else 2).foldl max 2
theorem foldl_max_ge : ∀ (l : List Nat) (a : Nat), a <= l.foldl max a /\ ∀ x ∈ l, x <= l.foldl max a
  | [], a => ⟨Nat.le_refl _, fun _ h => nomatch h⟩
  | y :: l, a => by
    obtain ⟨h1, h2⟩ := foldl_max_ge l (max a y)
    refine ⟨Nat.le_trans (Nat.le_max_left _ _) h1, fun x hx => ?_⟩
    rcases List.mem_cons.mp hx with e | e
    · subst e; exact Nat.le_trans (Nat.le_max_right _ _) h1
    · exact h2 x e
theorem pp_2 (d m : Nat) : 2 <= pp d m := by
  cases d with
  | zero => exact Nat.le_refl _
  | succ d => exact (foldl_max_ge _ 2).1
theorem pp_n {d m n : Nat} (h1 : 1 <= n) (h4 : n <= 4) (hm : n <= m) : 2 + n * (1 + pp d (m / n)) <= pp (d + 1) m := by
  refine (foldl_max_ge _ 2).2 _ (List.mem_map.mpr ⟨n - 1, List.mem_range.mpr (by omega), ?_⟩)
  rw [show n - 1 + 1 = n by omega, if_pos hm]
theorem pp_all : pp 4 12 <= 150 := by decide +kernel
def spBox (n : Nat) : Sp := fun vs H Q _ => ∃ (L : Addr) (ns : List Int) (d m : Nat) (sc : Int), vs = [.ref L, .int (d : Int), .int (m : Int), .int sc] /\ H L = some (.lst (Is ns)) /\ d < n /\ d <= 4 /\ 1 <= m /\ m <= 12 /\ 1 <= sc /\ sc <= 1000000001 /\ pp d m <= ns.length /\ ns.length <= 1000 ∧
  ∀ (r : Addr) (H' : Hp) (s : Sd.Sd) (ns' : List Int), (∀ b o, b ≠ L -> H b = some o -> H' b = some o) -> H' L = some (.lst (Is ns')) -> ns.length <= ns'.length + pp d m -> ns'.length <= ns.length -> ToAt H' r s -> Sd.Ok s d m -> Q (.ref r) H'
def spLS (c : Cs) (Pt : Addr) (lp : Pos) (n : Nat) : Sp := fun vs H Q _ => ∃ (a : Addr) (s : Sd.Sd) (d m : Nat), vs = [.ref a] /\ ToAt H a s /\ Sd.Ok s d m /\ d < n /\ d <= 4 /\ m <= 12 /\ TbOk Pt lp lamQ H /\ ∀ (x : Addr) (H' : Hp), SameT Pt H H' -> TbOk Pt lp lamQ H' -> StAt c H' x s d m -> Q (.ref x) H'
def spLaw12 (K : PySem.W.Frag) (Pt : Addr) (lp : Pos) : Sp := fun vs H Q _ => ∃ (a : Addr) (ns : List Int), vs = [.ref a] /\ SqL K H a (ns.map V.int) /\ ns.length <= 63 /\ H Pt = some (.tbl #[]) /\ ∀ H', Q (.bl true) H'
theorem lw_end {v : Int} (h0 : 0 <= v) (h9 : v <= 1000000000) : Sd.Lw (v, 1) := by
  have := Sd.p30
  exact ⟨Sd.fr1 v, Sd.pow_pos2 1500, by show -(2 ^ 1530 * 1) <= v; omega, by show v <= 2 ^ 1530 * 1; omega⟩
theorem be4 : ∀ d, d + 1 <= 4 -> be (d + 1) <= 125 /\ ka (d + 1) <= 1530
  | 0, _ => by decide
  | 1, _ => by decide
  | 2, _ => by decide
  | 3, _ => by decide
  | d + 4, h => by omega
theorem lw_of {ys : List Row} {l : Int × Int} {M k : Int} {d m : Nat} (x : Lx ys l M k d m) (hd : d + 1 <= 4) (hm : m <= 12) : Sd.Lw l := by
  obtain ⟨b1, b2⟩ := be4 d hd
  have a := Int.le_of_dvd x.g.mp x.f.dv
  have e : (2 : Int) ^ (be (d + 1) * m) <= 2 ^ 1500 := Sd.pow_le2 (Nat.le_trans (Nat.mul_le_mul b1 hm) (by decide))
  have g : k <= 2 ^ 1530 := Int.le_trans x.k (Sd.pow_le2 b2)
  have h := Sd.mul_le_r g (Int.le_of_lt x.f.fr.pos)
  have := x.f.lo
  have := x.f.hi
  exact ⟨x.f.fr, Int.le_trans a (Int.le_trans x.m e), by omega, by omega⟩
theorem al_mt {d : Nat} {es : List Ent} {rs : List (Int × Sd.Sd)} {p : Int} {lv : Int × Int} {ys zs : List Row} {n : Nat} {W k W0 kk : Int} {k0 : Nat} (al : Sd.Al d es rs) (gm : GM es k0 W0 kk) (hW : 0 < Sd.wtot rs) (o : Out (partsOf (lcmL (tots es)) es) ys) (g : GT ys n W (lcmB ys) k)
    (lp : 0 < lv.2) (L : Tb.Lv (lcmB ys) (p * Tb.W (rws ys) * lcmB ys) lv.1 lv.2 (rws ys)) (o2 : Out ((rws ys).map (Tb.capR lv.1 lv.2)) zs) : Sd.Mt (.st p rs) (d + 1) lv (rws zs) := by
  obtain ⟨S1, _, _, S2⟩ := gm.S
  have fr : ∀ r ∈ rws ys, 0 < r.b /\ r.b ∣ lcmB ys := fun r hr => by
    obtain ⟨y, hy, rfl⟩ := List.mem_map.mp hr
    exact ⟨(g.fq y hy).fr.pos, (g.fq y hy).dv⟩
  refine Sd.mt_st al S1 (fun e he => ⟨(gm.g e he).tot, S2 e he⟩) hW o.tab (fun e => g.ne (List.map_eq_nil_iff.mp e)) (fun r hr => ?_) (fun r hr => (fr r hr).1) lp (Sd.lv_rat g.mp fr L) o2.tab
  obtain ⟨y, hy, rfl⟩ := List.mem_map.mp hr
  exact g.w1 y hy
inductive Eqp (H : Hp) : Nat -> V -> V -> Prop
  | int (n : Nat) (i : Int) : Eqp H n (.int i) (.int i)
  | str (n : Nat) (x : Str) : Eqp H n (.str x) (.str x)
  | tup {n : Nat} {a b : Addr} {xs ys : List V} (ha : H a = some (.tup xs)) (hb : H b = some (.tup ys)) (l : xs.length = ys.length) (h : ∀ (j : Nat) x y, xs[j]? = some x -> ys[j]? = some y -> Eqp H n x y) : Eqp H (n + 1) (.ref a) (.ref b)
  | lst {n : Nat} {a b : Addr} {xs ys : List V} (ha : H a = some (.lst xs)) (hb : H b = some (.lst ys)) (l : xs.length = ys.length) (h : ∀ (j : Nat) x y, xs[j]? = some x -> ys[j]? = some y -> Eqp H n x y) : Eqp H (n + 1) (.ref a) (.ref b)
theorem Eqp.same {H H' : Hp} (s : Same H H') {n : Nat} {x y : V} (h : Eqp H n x y) : Eqp H' n x y := by
  induction h with
  | int n i => exact .int n i
  | str n x => exact .str n x
  | tup ha hb l _ ih => exact .tup (s _ _ ha) (s _ _ hb) l ih
  | lst ha hb l _ ih => exact .lst (s _ _ ha) (s _ _ hb) l ih
theorem Eqp.mono {H : Hp} {n : Nat} {x y : V} (h : Eqp H n x y) : ∀ {m : Nat}, n <= m -> Eqp H m x y := by
  induction h with
  | int n i => intro m _; exact .int m i
  | str n x => intro m _; exact .str m x
  | tup ha hb l _ ih => intro m hm; obtain ⟨m, rfl⟩ : ∃ k, m = k + 1 := ⟨m - 1, by omega⟩; exact .tup ha hb l fun j x y a b => ih j x y a b (by omega)
  | lst ha hb l _ ih => intro m hm; obtain ⟨m, rfl⟩ : ∃ k, m = k + 1 := ⟨m - 1, by omega⟩; exact .lst ha hb l fun j x y a b => ih j x y a b (by omega)
theorem Eqp.de {K : PySem.W.Frag} {H : Hp} {n : Nat} {x y : V} (h : Eqp H n x y) : DE K H n x y true := by
  induction h with
  | int n i => have d := DE.int (K := K) (H := H) n i i; rwa [beq_self_eq_true] at d
  | str n x => have d := DE.str (K := K) (H := H) n x x; rwa [beq_self_eq_true] at d
  | @tup n a b xs ys ha hb l _ ih =>
    have d := DE.tup (K := K) (n := n) (fun _ => true) (SqT.of ha) (SqT.of hb) ih
    have e : ((List.range (min xs.length ys.length)).all (fun _ => true) && xs.length == ys.length) = true := by rw [l]; simp
    rwa [e] at d
  | @lst n a b xs ys ha hb l _ ih =>
    have d := DE.lst (K := K) (n := n) (fun _ => true) (SqL.of ha) (SqL.of hb) l ih
    have e : (List.range xs.length).all (fun _ => true) = true := by simp
    rwa [e] at d
theorem Eqp.pair {H : Hp} {a b : Addr} {x : Int × Int} (ha : Tq H a x) (hb : Tq H b x) (n : Nat) : Eqp H (n + 1) (.ref a) (.ref b) :=
  .tup ha hb rfl fun j u v hu hv => by
    match j, hu, hv with
    | 0, hu, hv => cases hu; cases hv; exact .int _ _
    | 1, hu, hv => cases hu; cases hv; exact .int _ _
    | j + 2, hu, hv => simp at hu
theorem to_eq {H : Hp} {s : Sd.Sd} {d m : Nat} (ok : Sd.Ok s d m) : ∀ {a b : Addr}, ToAt H a s -> ToAt H b s -> Eqp H (3 * d + 1) (.ref a) (.ref b) := by
  induction ok with
  | @en v d m h0 h9 hm =>
    intro a b h1 h2
    cases h1 with
    | en h1 =>
      cases h2 with
      | en h2 =>
        refine .tup h1 h2 rfl fun j u v hu hv => ?_
        match j, hu, hv with
        | 0, hu, hv => cases hu; cases hv; exact .str _ _
        | 1, hu, hv => cases hu; cases hv; exact .int _ _
        | j + 2, hu, hv => simp at hu
  | @st p rs d m k h0 h9 ne l4 w sub hk ih =>
    intro a b h1 h2
    cases h1 with
    | @st _ r1 _ _ ps1 ys1 h1 g1 lp1 ly1 row1 sub1 =>
      cases h2 with
      | @st _ r2 _ _ ps2 ys2 h2 g2 lp2 ly2 row2 sub2 =>
        show Eqp H (3 * d + 3 + 1) _ _
        refine .tup h1 h2 rfl fun j u v hu hv => ?_
        match j, hu, hv with
        | 0, hu, hv => cases hu; cases hv; exact .str _ _
        | 1, hu, hv => cases hu; cases hv; exact .int _ _
        | 2, hu, hv =>
          cases hu; cases hv
          refine .tup g1 g2 (by rw [List.length_map, List.length_map, lp1, lp2]) fun i u v hu hv => ?_
          rw [List.getElem?_map] at hu hv
          obtain ⟨q1, e1, rfl⟩ := Option.map_eq_some_iff.mp hu
          obtain ⟨q2, e2, rfl⟩ := Option.map_eq_some_iff.mp hv
          have hi := (List.getElem?_eq_some_iff.mp e1).1
          have ey1 : ys1[i]? = some (ys1[i]'(by omega)) := List.getElem?_eq_getElem _
          have ey2 : ys2[i]? = some (ys2[i]'(by omega)) := List.getElem?_eq_getElem _
          have er : rs[i]? = some (rs[i]'(by omega)) := List.getElem?_eq_getElem _
          refine .tup (n := 3 * d + 1) (row1 i q1 _ _ e1 ey1 er) (row2 i q2 _ _ e2 ey2 er) rfl fun j u v hu hv => ?_
          match j, hu, hv with
          | 0, hu, hv => cases hu; cases hv; exact .int _ _
          | 1, hu, hv => cases hu; cases hv; exact ih _ (List.mem_of_getElem? er) (sub1 i _ _ ey1 er) (sub2 i _ _ ey2 er)
          | j + 2, hu, hv => simp at hu
        | j + 3, hu, hv => simp at hu
structure Wv where
  w : List Int
  p : Int × Int
  c : Int × Int
  v : Int
structure Wy where
  a : Addr
  q : Addr
  b : Addr
  e : Addr
  z : Wv
def WyAt (H : Hp) (y : Wy) : Prop := H y.a = some (.tup [.ref y.q, .ref y.b, .ref y.e, .int y.z.v]) /\ H y.q = some (.tup (Is y.z.w)) /\ Tq H y.b y.z.p /\ Tq H y.e y.z.c
def wrefs (ys : List Wy) : List V := ys.map fun y => V.ref y.a
structure WysAt (H : Hp) (a : Addr) (ys : List Wy) : Prop where
  lst : H a = some (.lst (wrefs ys))
  each : ∀ y ∈ ys, WyAt H y
theorem WyAt.same {H H' : Hp} (s : Same H H') {y : Wy} (h : WyAt H y) : WyAt H' y := ⟨s _ _ h.1, s _ _ h.2.1, s _ _ h.2.2.1, s _ _ h.2.2.2⟩
theorem WysAt.same {H H' : Hp} (s : Same H H') {a : Addr} {ys : List Wy} (h : WysAt H a ys) : WysAt H' a ys := ⟨s _ _ h.lst, fun y hy => (h.each y hy).same s⟩
theorem wrefs_length (ys : List Wy) : (wrefs ys).length = ys.length := List.length_map _
theorem wrefs_at {ys : List Wy} {i : Nat} {v : V} (h : (wrefs ys)[i]? = some v) : ∃ y, ys[i]? = some y /\ v = .ref y.a := by
  unfold wrefs at h
  rw [List.getElem?_map] at h
  obtain ⟨y, e, rfl⟩ := Option.map_eq_some_iff.mp h
  exact ⟨y, e, rfl⟩
theorem wrefs_snoc (ys : List Wy) (y : Wy) : wrefs (ys ++ [y]) = wrefs ys ++ [V.ref y.a] := by unfold wrefs; rw [List.map_append]; rfl
theorem WysAt.push {H : Hp} {a : Addr} {ys : List Wy} {y : Wy} (h : WysAt H a ys) (hy : WyAt H y) : WysAt (upd H a (.lst (wrefs ys ++ [.ref y.a]))) a (ys ++ [y]) := by
  have k : ∀ z, WyAt H z -> WyAt (upd H a (.lst (wrefs ys ++ [.ref y.a]))) z := fun z hz =>
    ⟨by rw [upd_ne (ne_of hz.1 h.lst fun w => nomatch w)]; exact hz.1, by rw [upd_ne (ne_of hz.2.1 h.lst fun w => nomatch w)]; exact hz.2.1, by unfold Tq; rw [upd_ne (ne_of hz.2.2.1 h.lst fun w => nomatch w)]; exact hz.2.2.1, by unfold Tq; rw [upd_ne (ne_of hz.2.2.2 h.lst fun w => nomatch w)]; exact hz.2.2.2⟩
  refine ⟨by rw [upd_same, wrefs_snoc], fun z hz => ?_⟩
  rcases List.mem_append.mp hz with w | w
  · exact k z (h.each z w)
  · rw [List.mem_singleton.mp w]
    exact k y hy
theorem wys_eq {H : Hp} {a b : Addr} {ys zs : List Wy} (h1 : WysAt H a ys) (h2 : WysAt H b zs) (e : ys.map Wy.z = zs.map Wy.z) : Eqp H 3 (.ref a) (.ref b) := by
  have l : ys.length = zs.length := by have := congrArg List.length e; rwa [List.length_map, List.length_map] at this
  refine .lst h1.lst h2.lst (by rw [wrefs_length, wrefs_length, l]) fun i u v hu hv => ?_
  obtain ⟨y, ey, rfl⟩ := wrefs_at hu
  obtain ⟨z, ez, rfl⟩ := wrefs_at hv
  have ev : y.z = z.z := by
    have a1 : (ys.map Wy.z)[i]? = some y.z := by rw [List.getElem?_map, ey]; rfl
    have a2 : (zs.map Wy.z)[i]? = some z.z := by rw [List.getElem?_map, ez]; rfl
    rw [e, a2] at a1
    exact (Option.some.inj a1).symm
  have g1 := h1.each y (List.mem_of_getElem? ey)
  have g2 := h2.each z (List.mem_of_getElem? ez)
  unfold WyAt at g1
  rw [ev] at g1
  refine .tup (n := 1) g1.1 g2.1 rfl fun j u v hu hv => ?_
  match j, hu, hv with
  | 0, hu, hv =>
    cases hu; cases hv
    refine .tup (n := 0) g1.2.1 g2.2.1 rfl fun i u v hu hv => ?_
    rw [hu] at hv
    cases hv
    obtain ⟨n, _, rfl⟩ := is_at hu
    exact .int _ _
  | 1, hu, hv => cases hu; cases hv; exact .pair g1.2.2.1 g2.2.2.1 0
  | 2, hu, hv => cases hu; cases hv; exact .pair g1.2.2.2 g2.2.2.2 0
  | 3, hu, hv => cases hu; cases hv; exact .int _ _
  | j + 4, hu, hv => simp at hu
end TD
namespace Sd
open TD
def lss (L c : Int × Int) : Int × Int := if c.1 * L.2 < L.1 * c.2 then c else L
def wstep (L : Int × Int) (j : Nat) (sh : Int × Int) (y : Wv) : Wv := ⟨(j : Int) :: y.w, tms sh y.p, lss L y.c, y.v⟩
def wblk (L : Int × Int) (rs : List (Int × Sd)) (wss : List (List Wv)) (j : Nat) : List Wv := match rs[j]?, wss[j]? with
  | some t, some ws => ws.map (wstep L j (Fr.sh t.1 (wtot rs)))
  | _, _ => []
def wall (L : Int × Int) (rs : List (Int × Sd)) (wss : List (List Wv)) (i : Nat) : List Wv := (List.range i).flatMap (wblk L rs wss)
inductive WR : Nat -> Sd -> List Wv -> Prop
  | en (v : Int) (d : Nat) : WR d (.en v) [⟨[], (1, 1), (v, 1), v⟩]
  | st {p : Int} {rs : List (Int × Sd)} {d : Nat} {L : Int × Int} {wss : List (List Wv)} (rv : Rv (.st p rs) (d + 1) L) (lw : Lw L) (l : wss.length = rs.length) (h : ∀ (i : Nat) t ws, rs[i]? = some t -> wss[i]? = some ws -> WR d t.2 ws) : WR (d + 1) (.st p rs) (wall L rs wss rs.length)
theorem WR.one {d : Nat} {s : Sd} {ws : List Wv} (h : WR d s ws) : ∀ {ws' : List Wv}, WR d s ws' -> ws = ws' := by
  induction h with
  | en v d => intro ws' h'; cases h'; rfl
  | @st p rs d L wss rv lw l h ih =>
    intro ws' h'
    cases h' with
    | @st _ _ _ L' wss' rv' lw' l' h' =>
      have e := rv.one rv' lw.fr lw'.fr
      subst e
      have e2 : wss = wss' := by
        refine List.ext_getElem? fun i => ?_
        by_cases hi : i < rs.length
        · have a : wss[i]? = some (wss[i]'(by omega)) := List.getElem?_eq_getElem _
          have b : wss'[i]? = some (wss'[i]'(by omega)) := List.getElem?_eq_getElem _
          have r : rs[i]? = some (rs[i]'hi) := List.getElem?_eq_getElem _
          rw [a, b, ih i _ _ r a (h' i _ _ r b)]
        · rw [List.getElem?_eq_none (by omega), List.getElem?_eq_none (by omega)]
      rw [e2]
theorem wall_succ {L : Int × Int} {rs : List (Int × Sd)} {wss : List (List Wv)} {i : Nat} {t : Int × Sd} {ws : List Wv} (ht : rs[i]? = some t) (hw : wss[i]? = some ws) : wall L rs wss (i + 1) = wall L rs wss i ++ ws.map (wstep L i (Fr.sh t.1 (wtot rs))) := by
  unfold wall
  rw [List.range_succ, List.flatMap_append]
  congr 1
  show [i].flatMap (wblk L rs wss) = _
  rw [List.flatMap_cons, List.flatMap_nil, List.append_nil]
  unfold wblk
  rw [ht, hw]
theorem wall_take {L : Int × Int} {rs : List (Int × Sd)} {wss : List (List Wv)} {ws : List Wv} {i : Nat} (hi : i <= wss.length) : wall L rs (wss ++ [ws]) i = wall L rs wss i := by
  unfold wall
  rw [List.flatMap_def, List.flatMap_def]
  congr 1
  refine List.map_congr_left fun j hj => ?_
  have := List.mem_range.mp hj
  unfold wblk
  rw [List.getElem?_append_left (by omega)]
structure WB (d : Nat) (y : Wv) : Prop where
  p : ∃ N : Int, 0 < N /\ N <= 2 ^ (12 * d) /\ FQ y.p N 1
  c : Lw y.c
  l : y.w.length <= d
theorem lss_lw {L c : Int × Int} (a : Lw L) (b : Lw c) : Lw (lss L c) := by unfold lss; split <;> assumption
theorem wb_step {d : Nat} {y : Wv} {L sh : Int × Int} {W : Int} {j : Nat} (h : WB d y) (lw : Lw L) (W0 : 0 < W) (W9 : W <= 4000) (f : FQ sh W 1) (f0 : 0 <= sh.1) : WB (d + 1) (wstep L j sh y) := by
  obtain ⟨N, n0, n1, g⟩ := h.p
  refine ⟨⟨W * N, Int.mul_pos W0 n0, ?_, FQ.tms f f0 g (by decide)⟩, lss_lw lw h.c, by show y.w.length + 1 <= d + 1; have := h.l; omega⟩
  have a : W * N <= 2 ^ 12 * N := mul_le_r (by omega) (Int.le_of_lt n0)
  have b : (2 ^ 12 : Int) * N <= 2 ^ 12 * 2 ^ (12 * d) := Int.mul_le_mul_of_nonneg_left n1 (by decide)
  rw [<- Int.pow_add] at b
  rw [show 12 * (d + 1) = 12 + 12 * d by omega]
  exact Int.le_trans a b
theorem WR.wb {d : Nat} {s : Sd} {ws : List Wv} (h : WR d s ws) : ∀ {m : Nat}, Ok s d m -> d <= 4 -> ∀ y ∈ ws, WB d y := by
  induction h with
  | en v d =>
    intro m ok d4 y hy
    rw [List.mem_singleton.mp hy]
    cases ok with
    | en h0 h9 hm => exact ⟨⟨1, by decide, pow_pos2 _, ⟨fr1 1, Int.dvd_refl _, (by show -(1 * (1 : Int)) <= 1; decide), (by show (1 : Int) <= 1 * 1; decide)⟩⟩, lw_end h0 h9, Nat.zero_le _⟩
  | @st p rs d L wss rv lw l h ih =>
    intro m ok d4 y hy
    cases ok with
    | st h0 h9 ne l4 w sub hk =>
      have W := wt_pos ne w l4
      obtain ⟨j, hj, hy⟩ := List.mem_flatMap.mp hy
      have hj := List.mem_range.mp hj
      have er : rs[j]? = some (rs[j]'hj) := List.getElem?_eq_getElem _
      have ew : wss[j]? = some (wss[j]'(by omega)) := List.getElem?_eq_getElem _
      unfold wblk at hy
      rw [er, ew] at hy
      obtain ⟨z, hz, rfl⟩ := List.mem_map.mp hy
      have mem := List.mem_of_getElem? er
      have s1 := sh_w (w _ mem).1 (mem_wt w mem)
      exact wb_step (ih j _ _ er ew (sub _ mem) (by omega) z hz) lw (by omega) W.2 s1.1 s1.2
theorem WR.len {d : Nat} {s : Sd} {ws : List Wv} (h : WR d s ws) : (ws.length : Int) = nE (d + 1) s := by
  induction h with
  | en v d => rfl
  | @st p rs d L wss rv lw l h ih =>
    have key : ∀ i, i <= rs.length -> ((wall L rs wss i).length : Int) = ((rs.take i).map fun r => nE (d + 1) r.2).sum := by
      intro i
      induction i with
      | zero => intro _; rfl
      | succ i ih2 =>
        intro hi
        have er : rs[i]? = some (rs[i]'(by omega)) := List.getElem?_eq_getElem _
        have ew : wss[i]? = some (wss[i]'(by omega)) := List.getElem?_eq_getElem _
        rw [wall_succ er ew, List.length_append, List.length_map, List.take_add_one, er]
        show _ = (List.map _ (List.take i rs ++ [rs[i]'(by omega)])).sum
        rw [List.map_append, List.sum_append, <- ih2 (by omega)]
        show _ = _ + (nE (d + 1) (rs[i]'(by omega)).2 + 0)
        rw [<- ih i _ _ er ew]
        push_cast
        omega
    rw [key _ (Nat.le_refl _), List.take_length]
    rfl
theorem WR.l12 {d : Nat} {s : Sd} {ws : List Wv} (h : WR d s ws) {m : Nat} (ok : Ok s d m) (m12 : m <= 12) : ws.length <= 12 := by
  have a := h.len
  have b := ok.nE (d + 1) (Nat.lt_succ_self _)
  omega
theorem V_le {x y : Int × Int} (hx : 0 < x.2) (hy : 0 < y.2) (h1 : ¬ x.1 * y.2 < y.1 * x.2) (h2 : ¬ y.1 * x.2 < x.1 * y.2) : V x = V y := by
  have a := fun z => h1 ((V_lt hx hy).mpr z)
  have b := fun z => h2 ((V_lt hy hx).mpr z)
  grind
theorem lss_law {L c : Int × Int} (a : Lw L) (b : Lw c) : lss L c = if L.1 * c.2 < c.1 * L.2 then L else c := by
  unfold lss
  by_cases h : c.1 * L.2 < L.1 * c.2
  · rw [if_pos h, if_neg (by omega)]
  · rw [if_neg h]
    by_cases g : L.1 * c.2 < c.1 * L.2
    · rw [if_pos g]
    · rw [if_neg g]
      exact V_inj a.fr b.fr (V_le a.fr.pos b.fr.pos g h)
end Sd
namespace TD
open PySem L2
theorem wb_z {d : Nat} {y : Wv} (h : Sd.WB d y) (d4 : d <= 4) : Z4 y.p := by
  obtain ⟨N, n0, n1, f⟩ := h.p
  exact fq_z5 f n0 (Int.le_trans n1 (Sd.pow_le2 (by omega))) (by decide) (Sd.pow_pos2 _)
def spIsE (c : Cs) (b : Bool) : Sp := fun vs H Q _ => ∃ (x : Addr), vs = [.ref x] /\ Q (.bl b) H
def spTo (c : Cs) (n : Nat) : Sp := fun vs H Q _ => ∃ (x : Addr) (p : Int) (rs : List (Int × Sd.Sd)) (d m : Nat), vs = [.ref x] /\ StAt c H x (.st p rs) d m /\ d < n /\ ∀ r H', Same H H' -> ToAt H' r (.st p rs) -> Q (.ref r) H'
def spWys (c : Cs) (n : Nat) : Sp := fun vs H Q _ => ∃ (x : Addr) (p : Int) (rs : List (Int × Sd.Sd)) (d m : Nat), vs = [.ref x] /\ StAt c H x (.st p rs) d m /\ d < n /\ d <= 4 /\ m <= 12 /\ ∀ r H' ys, Same H H' -> H r = none -> WysAt H' r ys -> Sd.WR d (.st p rs) (ys.map Wy.z) -> Q (.ref r) H'
def spLWy (c : Cs) (n : Nat) : Sp := fun vs H Q _ => ∃ (a x : Addr) (s : Sd.Sd) (d m : Nat), vs = [.ref a, .ref x] /\ ToAt H a s /\ StAt c H x s d m /\ d < n /\ d <= 4 /\ m <= 12 /\ ∀ r H' ys, Same H H' -> H r = none -> WysAt H' r ys -> Sd.WR d s (ys.map Wy.z) -> Q (.ref r) H'
def spDp (n : Nat) : Sp := fun vs H Q _ => ∃ (a : Addr) (s : Sd.Sd) (d m : Nat), vs = [.ref a] /\ ToAt H a s /\ Sd.Ok s d m /\ d < n /\ ∀ H', Same H H' -> Q (.int (Sd.nS (d + 1) s)) H'
def spPn (n : Nat) : Sp := fun vs H Q _ => ∃ (v u : V), vs = [v] /\ Eqp H n v u /\ ∀ H', Same H H' -> Q (.bl true) H'
def spSame : Sp := fun vs H Q _ => ∃ (v u : V), vs = [v, u] /\ Eqp H 14 v u /\ ∀ H', Same H H' -> Q (.bl true) H'
def spIt (c : Cs) (n : Nat) : Sp := fun vs H Q _ => ∃ (x a : Addr) (s : Sd.Sd) (d m : Nat), vs = [.ref x, .ref a] /\ StAt c H x s d m /\ ToAt H a s /\ d < n /\ d <= 4 /\ m <= 12 /\ ∀ H', Same H H' -> Q (.bl true) H'
def spGood (c : Cs) : Sp := fun vs H Q _ => ∃ (x a : Addr) (s : Sd.Sd) (d m : Nat), vs = [.ref x, .ref a] /\ StAt c H x s d m /\ ToAt H a s /\ d <= 4 /\ m <= 12 /\ ∀ H', Same H H' -> Q (.bl true) H'
def spToE (c : Cs) : Sp := fun vs H Q _ => ∃ (x : Addr) (v : Int) (d m : Nat), vs = [.ref x] /\ StAt c H x (.en v) d m /\ ∀ r H', Same H H' -> ToAt H' r (.en v) -> Q (.ref r) H'
def spWysE (c : Cs) : Sp := fun vs H Q _ => ∃ (x : Addr) (v : Int) (d m : Nat), vs = [.ref x] /\ StAt c H x (.en v) d m /\ ∀ r H' ys, Same H H' -> H r = none -> WysAt H' r ys -> Sd.WR d (.en v) (ys.map Wy.z) -> Q (.ref r) H'
theorem told2 {c : Cs} {H H0 : Hp} {y : Addr} {s : Sd.Sd} {d m n : Nat} {σ : St} {ta : TE} {Q : VK} (st : StAt c H y s d m) (hn : d < n) (hv : ∀ R : VK, R (.ref y) H -> ta σ H0 R) (q : ∀ r H', Same H H' -> ToAt H' r s -> Q (.ref r) H') :
    tMeth c.e "told" (spToE c) [] E0 ta tNil σ H0 Q ∨ tMeth c.s "told" (spTo c n) [] E0 ta tNil σ H0 Q := by
  have st2 := st
  cases st with
  | en h vv ok => exact .inl (hv _ ⟨y, _, _, rfl, h, rfl, y, _, _, _, rfl, st2, q⟩)
  | st h vv g lp ly row sub p0 p9 ne l4 w hk => exact .inr (hv _ ⟨y, _, _, rfl, h, rfl, y, _, _, _, _, rfl, st2, hn, q⟩)
theorem ways2 {c : Cs} {H : Hp} {s : Sd.Sd} {d m n : Nat} {σ : St} {ta : TE} {Q : VK} (hn : d < n) (d4 : d <= 4) (m12 : m <= 12) (ha : ∀ R : VK, (∀ y j, j <= m -> StAt c H y s d j -> R (.ref y) H) -> ta σ H R) (q : ∀ r H' ys, Same H H' -> H r = none -> WysAt H' r ys -> Sd.WR d s (ys.map Wy.z) -> Q (.ref r) H') :
    tMeth c.e "ways" (spWysE c) [] E0 ta tNil σ H Q ∨ tMeth c.s "ways" (spWys c n) [] E0 ta tNil σ H Q := by
  cases s with
  | en v =>
    refine .inl (ha _ fun y j _ sty => ?_)
    have st2 := sty
    cases sty with
    | en h vv ok => exact ⟨y, _, _, rfl, h, rfl, y, _, d, j, rfl, st2, q⟩
  | st p2 rs2 =>
    refine .inr (ha _ fun y j jm sty => ?_)
    have st2 := sty
    cases sty with
    | st h vv g lp ly row sub p0 p9 ne l4 w hk => exact ⟨y, _, _, rfl, h, rfl, y, _, _, _, j, rfl, st2, hn, d4, by omega, q⟩
end TD
namespace Sd
theorem mxL_ge {l : List Int} {x : Int} (h : x ∈ l) : x <= mxL l := (mxL_fold l 0).2.1 x h
theorem nE_nn : ∀ (n : Nat) (s : Sd), 0 <= nE n s
  | 0, _ => Int.le_refl _
  | _ + 1, .en _ => by show (0 : Int) <= 1; decide
  | n + 1, .st _ rs => by
    show 0 <= (rs.map fun r => nE n r.2).sum
    have key : ∀ l : List (Int × Sd), 0 <= (l.map fun r => nE n r.2).sum := by
      intro l
      induction l with
      | nil => exact Int.le_refl _
      | cons r l ih => rw [List.map_cons, List.sum_cons]; have := nE_nn n r.2; omega
    exact key rs
theorem ok_of {s : Sd} {d m : Nat} (ok : Ok s d m) : ∀ {d' m' : Nat}, nE (d + 1) s <= (m' : Int) -> nS (d + 1) s <= (d' : Int) -> Ok s d' m' := by
  induction ok with
  | @en v d m h0 h9 hm =>
    intro d' m' h1 h2
    have h1 : (1 : Int) <= (m' : Int) := h1
    exact .en h0 h9 (by omega)
  | @st p rs d m f h0 h9 ne l4 w sub hk ih =>
    intro d' m' h1 h2
    have h1 : (rs.map fun r => nE (d + 1) r.2).sum <= (m' : Int) := h1
    have h2 : 1 + mxL (rs.map fun r => nS (d + 1) r.2) <= (d' : Int) := h2
    have mp := (mxL_fold (rs.map fun r => nS (d + 1) r.2) 0).1
    obtain ⟨e, rfl⟩ : ∃ e, d' = e + 1 := ⟨d' - 1, by unfold mxL at h2; omega⟩
    refine .st (f := fun r => (nE (d + 1) r.2).toNat) h0 h9 ne l4 w (fun r hr => ih r hr ?_ ?_) ?_
    · have := nE_nn (d + 1) r.2; omega
    · have := mxL_ge (List.mem_map.mpr ⟨r, hr, rfl⟩ : nS (d + 1) r.2 ∈ rs.map fun r => nS (d + 1) r.2)
      push_cast at h2
      omega
    · have key : ∀ l : List (Int × Sd), (((l.map fun r => (nE (d + 1) r.2).toNat).sum : Nat) : Int) = (l.map fun r => nE (d + 1) r.2).sum := by
        intro l
        induction l with
        | nil => rfl
        | cons r l ih2 =>
          rw [List.map_cons, List.sum_cons, List.map_cons, List.sum_cons]
          push_cast
          rw [ih2]
          have := nE_nn (d + 1) r.2
          omega
      have := key rs
      omega
theorem nS_le {s : Sd} {d m : Nat} (ok : Ok s d m) : nS (d + 1) s <= (d : Int) := by
  induction ok with
  | @en v d m _ _ _ => show (0 : Int) <= _; omega
  | @st p rs d m f h0 h9 ne l4 w sub hk ih =>
    show 1 + mxL (rs.map fun r => nS (d + 1) r.2) <= _
    have h := (mxL_fold (rs.map fun r => nS (d + 1) r.2) 0).2.2
    have : mxL (rs.map fun r => nS (d + 1) r.2) <= (d : Int) := by
      rcases h with e | e
      · unfold mxL; omega
      · obtain ⟨r, hr, e2⟩ := List.mem_map.mp e
        have := ih r hr
        unfold mxL
        omega
    push_cast
    omega
end Sd
namespace L2
open PySem PySem.Spec PyProof.Rows
section
variable {X : Cx}
theorem op_isB : OpR X (compareOp .Is) (fun x y H Q => ∃ a b : Bool, x = .bl a /\ y = .bl b /\ Q (.bl (a == b)) H) := by
  intro pins s σ H x y v u Q I rx ry h
  obtain ⟨a, b, rfl, rfl, q⟩ := h
  cases rx
  cases ry
  refine wpAny_is_plain rfl (fin_bl I q ?_)
  cases a <;> cases b <;> rfl
theorem op_notB : OpR X (compareOp .IsNot) (fun x y H Q => ∃ a b : Bool, x = .bl a /\ y = .bl b /\ Q (.bl (!(a == b))) H) := by
  intro pins s σ H x y v u Q I rx ry h
  obtain ⟨a, b, rfl, rfl, q⟩ := h
  cases rx
  cases ry
  refine wpAny_isNot_plain rfl (fin_bl I q ?_)
  cases a <;> cases b <;> rfl
theorem ps_either {st : Stmt} {t u : TS} (h1 : PS X st t) (h2 : PS X st u) : PS X st (fun D σ H => t D σ H ∨ u D σ H) := fun pins s σ H D I h => h.elim (h1 pins s σ H D I) (h2 pins s σ H D I)
end
end L2
namespace K11
open PySem L2 TD
def top (i : Nat) : Stmt := PySem.Challenge.pw_lidprice_k11_stands_told.main.body.getD i (.Pass ⟨0, 0, 0, 0⟩)
def lamP : Pos := ⟨42, 30, 42, 72⟩
theorem sc_is_whole : FnScope ["thing", "least", "most"] ["thing", "least", "most"] (defScope (top 5)) := ⟨rfl, rfl, rfl, by decide +kernel, rfl, by decide +kernel, by decide +kernel⟩
theorem sc_common_divisor : FnScope ["one", "other", "rest"] ["one", "other"] (defScope (top 6)) := ⟨rfl, rfl, rfl, by decide +kernel, rfl, by decide +kernel, by decide +kernel⟩
theorem sc_common_multiple : FnScope ["numbers", "multiple", "number"] ["numbers"] (defScope (top 7)) := ⟨rfl, rfl, rfl, by decide +kernel, rfl, by decide +kernel, by decide +kernel⟩
theorem sc_share : FnScope ["top", "bottom", "divisor"] ["top", "bottom"] (defScope (top 8)) := ⟨rfl, rfl, rfl, by decide +kernel, rfl, by decide +kernel, by decide +kernel⟩
theorem sc_whole : FnScope ["number"] ["number"] (defScope (top 9)) := ⟨rfl, rfl, rfl, by decide +kernel, rfl, by decide +kernel, by decide +kernel⟩
theorem sc_times : FnScope ["one", "other"] ["one", "other"] (defScope (top 10)) := ⟨rfl, rfl, rfl, by decide +kernel, rfl, by decide +kernel, by decide +kernel⟩
theorem sc_below : FnScope ["one", "other"] ["one", "other"] (defScope (top 11)) := ⟨rfl, rfl, rfl, by decide +kernel, rfl, by decide +kernel, by decide +kernel⟩
theorem sc_lesser : FnScope ["one", "other"] ["one", "other"] (defScope (top 12)) := ⟨rfl, rfl, rfl, by decide +kernel, rfl, by decide +kernel, by decide +kernel⟩
theorem sc_rising : FnScope ["worths", "most", "scale"] ["worths"] (defScope (top 16)) := ⟨rfl, rfl, rfl, by decide +kernel, rfl, by decide +kernel, by decide +kernel⟩
theorem sc_in_form : FnScope ["rows", "weights", "worth", "weight", "divisor"] ["rows"] (defScope (top 17)) := ⟨rfl, rfl, rfl, by decide +kernel, rfl, by decide +kernel, by decide +kernel⟩
theorem sc_all_weights : FnScope ["table"] ["table"] (defScope (top 18)) := ⟨rfl, rfl, rfl, by decide +kernel, rfl, by decide +kernel, by decide +kernel⟩
theorem sc_capped : FnScope ["table", "level"] ["table", "level"] (defScope (top 19)) := ⟨rfl, rfl, rfl, by decide +kernel, rfl, by decide +kernel, by decide +kernel⟩
theorem sc_mixed : FnScope ["rows", "scale", "parts", "weight", "table", "factor"] ["rows"] (defScope (top 20)) := ⟨rfl, rfl, rfl, by decide +kernel, rfl, by decide +kernel, by decide +kernel⟩
theorem sc_level_for : FnScope ["table", "price", "bottom", "tops", "weights", "worth", "weight", "top"] ["table", "price"] (defScope (top 21)) := ⟨rfl, rfl, rfl, by decide +kernel, rfl, by decide +kernel, by decide +kernel⟩
theorem sc_is_stand : FnScope ["thing"] ["thing"] (defScope (top 30)) := ⟨rfl, rfl, rfl, by decide +kernel, rfl, by decide +kernel, by decide +kernel⟩
theorem sc_is_stage_row : FnScope ["row"] ["row"] (defScope (top 31)) := ⟨rfl, rfl, rfl, by decide +kernel, rfl, by decide +kernel, by decide +kernel⟩
theorem sc_is_stage_rows : FnScope ["rows"] ["rows"] (defScope (top 32)) := ⟨rfl, rfl, rfl, by decide +kernel, rfl, by decide +kernel, by decide +kernel⟩
theorem sc__law_cell_at : FnScope ["_law_script", "_law_k"] ["_law_script", "_law_k"] (defScope (top 34)) := ⟨rfl, rfl, rfl, by decide +kernel, rfl, by decide +kernel, by decide +kernel⟩
theorem sc__law_mixed : FnScope ["_law_cell", "_law_k", "_law_number"] ["_law_cell", "_law_k"] (defScope (top 35)) := ⟨rfl, rfl, rfl, by decide +kernel, rfl, by decide +kernel, by decide +kernel⟩
theorem sc__law_plain : FnScope ["_law_thing", "_law_part"] ["_law_thing"] (defScope (top 36)) := ⟨rfl, rfl, rfl, by decide +kernel, rfl, by decide +kernel, by decide +kernel⟩
theorem sc__law_same : FnScope ["_law_found", "_law_due"] ["_law_found", "_law_due"] (defScope (top 37)) := ⟨rfl, rfl, rfl, by decide +kernel, rfl, by decide +kernel, by decide +kernel⟩
theorem sc__law_low : FnScope ["_law_top", "_law_bottom", "_law_one", "_law_other"] ["_law_top", "_law_bottom"] (defScope (top 38)) := ⟨rfl, rfl, rfl, by decide +kernel, rfl, by decide +kernel, by decide +kernel⟩
theorem sc__law_times : FnScope ["_law_one", "_law_other"] ["_law_one", "_law_other"] (defScope (top 40)) := ⟨rfl, rfl, rfl, by decide +kernel, rfl, by decide +kernel, by decide +kernel⟩
theorem sc__law_less : FnScope ["_law_one", "_law_other"] ["_law_one", "_law_other"] (defScope (top 41)) := ⟨rfl, rfl, rfl, by decide +kernel, rfl, by decide +kernel, by decide +kernel⟩
theorem sc__law_row : FnScope ["_law_cell", "_law_bit", "_law_many", "_law_row_here", "_law_k"] ["_law_cell", "_law_bit", "_law_many"] (defScope (top 42)) := ⟨rfl, rfl, rfl, by decide +kernel, rfl, by decide +kernel, by decide +kernel⟩
theorem sc__law_box : FnScope ["_law_row_here", "_law_deep_here", "_law_most", "_law_scale", "_law_number", "_law_many", "_law_cost", "_law_rows", "_law_j", "_law_weight"] ["_law_row_here", "_law_deep_here", "_law_most", "_law_scale"] (defScope (top 43)) := ⟨rfl, rfl, rfl, by decide +kernel, rfl, by decide +kernel, by decide +kernel⟩
theorem sc__law_stand : FnScope ["_law_told"] ["_law_told"] (defScope (top 44)) := ⟨rfl, rfl, rfl, by decide +kernel, rfl, by decide +kernel, by decide +kernel⟩
theorem sc__law_ways : FnScope ["_law_told", "_law_stand_here", "_law_here", "_law_every", "_law_found", "_law_j", "_law_row_here", "_law_way", "_law_part", "_law_cap", "_law_value"] ["_law_told", "_law_stand_here"] (defScope (top 45)) := ⟨rfl, rfl, rfl, by decide +kernel, rfl, by decide +kernel, by decide +kernel⟩
theorem sc__law_deep : FnScope ["_law_told"] ["_law_told"] (defScope (top 46)) := ⟨rfl, rfl, rfl, by decide +kernel, rfl, by decide +kernel, by decide +kernel⟩
theorem sc__law_is_it : FnScope ["_law_stand_here", "_law_told", "_law_every", "_law_j", "_law_row_here"] ["_law_stand_here", "_law_told"] (defScope (top 47)) := ⟨rfl, rfl, rfl, by decide +kernel, rfl, by decide +kernel, by decide +kernel⟩
theorem sc__law_good : FnScope ["_law_stand_here", "_law_told", "_law_due", "_law_found"] ["_law_stand_here", "_law_told"] (defScope (top 48)) := ⟨rfl, rfl, rfl, by decide +kernel, rfl, by decide +kernel, by decide +kernel⟩
theorem sc_law : FnScope ["_law_script", "_law_k", "_law_cell", "_law_row_here", "_law_scale", "_law_told", "_law_stand_here", "_law_rows", "_law_twice"] ["_law_script"] (defScope (top 49)) := ⟨rfl, rfl, rfl, by decide +kernel, rfl, by decide +kernel, by decide +kernel⟩
theorem sc_Stand___init__ : FnScope ["self", "end_count", "stage_count", "level", "cap_rows"] ["self", "end_count", "stage_count", "level", "cap_rows"] (defScope (inClass (top 27) 0)) := ⟨rfl, rfl, rfl, by decide +kernel, rfl, by decide +kernel, by decide +kernel⟩
theorem sc_Stand_ends : FnScope ["self"] ["self"] (defScope (inClass (top 27) 1)) := ⟨rfl, rfl, rfl, by decide +kernel, rfl, by decide +kernel, by decide +kernel⟩
theorem sc_Stand_stages : FnScope ["self"] ["self"] (defScope (inClass (top 27) 2)) := ⟨rfl, rfl, rfl, by decide +kernel, rfl, by decide +kernel, by decide +kernel⟩
theorem sc_Stand_reserve : FnScope ["self"] ["self"] (defScope (inClass (top 27) 3)) := ⟨rfl, rfl, rfl, by decide +kernel, rfl, by decide +kernel, by decide +kernel⟩
theorem sc_Stand_caps : FnScope ["self"] ["self"] (defScope (inClass (top 27) 4)) := ⟨rfl, rfl, rfl, by decide +kernel, rfl, by decide +kernel, by decide +kernel⟩
theorem sc_End___init__ : FnScope ["self", "worth"] ["self", "worth"] (defScope (inClass (top 28) 0)) := ⟨rfl, rfl, rfl, by decide +kernel, rfl, by decide +kernel, by decide +kernel⟩
theorem sc_End_is_end : FnScope ["self"] ["self"] (defScope (inClass (top 28) 1)) := ⟨rfl, rfl, rfl, by decide +kernel, rfl, by decide +kernel, by decide +kernel⟩
theorem sc_End_ways : FnScope ["self"] ["self"] (defScope (inClass (top 28) 2)) := ⟨rfl, rfl, rfl, by decide +kernel, rfl, by decide +kernel, by decide +kernel⟩
theorem sc_End_told : FnScope ["self"] ["self"] (defScope (inClass (top 28) 4)) := ⟨rfl, rfl, rfl, by decide +kernel, rfl, by decide +kernel, by decide +kernel⟩
theorem sc_Stage___init__ : FnScope ["self", "price", "rows", "end_count", "stage_count", "behind", "level"] ["self", "price", "rows"] (defScope (inClass (top 29) 0)) := ⟨rfl, rfl, rfl, by decide +kernel, rfl, by decide +kernel, by decide +kernel⟩
theorem sc_Stage_is_end : FnScope ["self"] ["self"] (defScope (inClass (top 29) 1)) := ⟨rfl, rfl, rfl, by decide +kernel, rfl, by decide +kernel, by decide +kernel⟩
theorem sc_Stage_row_share : FnScope ["self", "row"] ["self", "row"] (defScope (inClass (top 29) 2)) := ⟨rfl, rfl, rfl, by decide +kernel, rfl, by decide +kernel, by decide +kernel⟩
theorem sc_Stage_after : FnScope ["self", "row"] ["self", "row"] (defScope (inClass (top 29) 3)) := ⟨rfl, rfl, rfl, by decide +kernel, rfl, by decide +kernel, by decide +kernel⟩
theorem sc_Stage_ways : FnScope ["self", "found", "row", "first", "way", "part", "cap", "worth"] ["self"] (defScope (inClass (top 29) 4)) := ⟨rfl, rfl, rfl, by decide +kernel, rfl, by decide +kernel, by decide +kernel⟩
theorem sc_Stage_told : FnScope ["self"] ["self"] (defScope (inClass (top 29) 6)) := ⟨rfl, rfl, rfl, by decide +kernel, rfl, by decide +kernel, by decide +kernel⟩
end K11
namespace K11
open PySem L2 TD
open Builtin.Int (intBits)
section
variable {P : Program} {w : World} {K : PySem.W.Frag} {mg : Str -> Option Value} {base : Heap} {Pt : Addr}
theorem ok_common_divisor {n : Nat} {f : Addr} {fd : FuncData} (F : Fun K "common_divisor" "common_divisor" (top 6) f fd) (z_abs : mg "abs" = none) : FnOk P w K mg base CX0 (n + 1) f fd ["one", "other"] spCd := by
  refine F.ok sc_common_divisor (fun vs H Q E h => ?_) (fun cdv A outer s H vs Q E hr h => ?_)
  · obtain ⟨a, b, rfl, _⟩ := h
    rfl
  obtain ⟨a, b, rfl, q⟩ := h
  have nd := sc_common_divisor.nd
  refine ⟨_, (pss_cons (ps_while PassesOwn.never (pt_cmpR op_ne (pv 1) pe_int (nomark _)) (pss_cons (ps_set (i := 2) nd rfl (Or.inl rfl) (pe_op op_modN (pv 0) (pv 1))) (pss_cons (ps_set (i := 0) nd rfl (Or.inl rfl) (pv 1)) (pss_one (ps_set (i := 1) nd rfl (Or.inl rfl) (pv 2)))))) (pss_one (ps_ret (pe_callB call_abs rfl z_abs bt_abs (pa_cons (pv 0) pa_nil))))), ?_⟩
  refine while_by (fun σ H' => ∃ x y r, σ = [some (.int x), some (.int y), r] /\ Int.gcd x y = Int.gcd a b /\ H' = H) (fun σ _ => match σ with | [_, some (.int y), _] => y.natAbs | _ => 0) ⟨a, b, none, rfl, rfl, rfl⟩ (fun σ H' ⟨x, y, r, e, hg, eH⟩ => ?_) (fun σ H Q Q' hQ ⟨v, e, hs, k, ek, q⟩ => ⟨v, e, hs, k, ek, hQ _ _ q⟩)
  subst e eH
  refine ⟨_, rfl, rfl, _, rfl, ?_⟩
  by_cases hy : y = 0
  · subst hy
    refine ifF (by simp) ?_
    refine ⟨_, rfl, _, rfl, ?_⟩
    have e : (if x < 0 then -x else x) = ((Int.gcd a b : Nat) : Int) := by
      rw [<- hg, Int.gcd_zero]
      split <;> omega
    rw [e]
    exact q
  · refine ifT (by simp [hy]) ?_
    refine ⟨_, rfl, _, rfl, x, y, rfl, rfl, hy, ?_⟩
    refine ⟨_, rfl, ?_⟩
    refine ⟨_, rfl, ?_⟩
    exact ⟨⟨y, x.fmod y, _, rfl, (Fr.gcd_turn x y).trans hg, rfl⟩, Fr.fmod_less hy⟩
theorem ok_share {n : Nat} {f : Addr} {fd : FuncData} (F : Fun K "share" "share" (top 8) f fd) {g_common_divisor : Addr} {gd_common_divisor : FuncData} (c_common_divisor : Cal P w K mg base n "common_divisor" ["one", "other"] spCd g_common_divisor gd_common_divisor) : FnOk P w K mg base CX0 (n + 1) f fd ["top", "bottom"] spShare := by
  refine F.ok sc_share (fun vs H Q E h => ?_) (fun cdv A outer s H vs Q E hr h => ?_)
  · obtain ⟨t, b, rfl, _⟩ := h
    rfl
  obtain ⟨t, b, rfl, hb, hz, q⟩ := h
  have nd := sc_share.nd
  refine ⟨_, (pss_cons (ps_set (i := 2) nd rfl (Or.inl rfl) (pe_callC c_common_divisor hr (pa_cons (pv 0) (pa_cons (pv 1) pa_nil)))) (pss_cons (ps_if (pt_cmpR op_lt (pv 1) pe_int (nomark _)) (pss_one (ps_set (i := 2) nd rfl (Or.inl rfl) (pe_un un_neg (pv 2)))) pss_nil) (pss_one (ps_ret (pe_tup (pa_cons (pe_op op_fdivB (pv 0) (pv 2)) (pa_cons (pe_op op_fdivB (pv 1) (pv 2)) pa_nil))))))), ?_⟩
  have hdz : intBits (Fr.dv t b) <= 9000 := PySem.intBits_le_of_natAbs (by rw [Fr.dv_natAbs]; exact Int.gcd_le_natAbs_right t hb) hz
  have hdn := Fr.dv_ne (t := t) hb
  refine ⟨_, rfl, _, rfl, t, b, rfl, ?_⟩
  refine ⟨_, rfl, _, _, rfl, rfl, _, rfl, ?_⟩
  refine ite2 (fun c => ?_) (fun c => ?_)
  · have e : -((Int.gcd t b : Nat) : Int) = Fr.dv t b := by unfold Fr.dv; rw [if_pos (of_decide_eq_true c)]
    unfold Fr.sh at q
    rw [<- e] at q hdz hdn
    refine ⟨_, rfl, _, rfl, ?_⟩
    refine ⟨_, rfl, _, rfl, _, _, rfl, rfl, ⟨hdn, hdz⟩, _, rfl, _, rfl, _, _, rfl, rfl, ⟨hdn, hdz⟩, sz2, fun p hp => ?_⟩
    exact q p _ (same_new hp _) upd_same
  · have e : ((Int.gcd t b : Nat) : Int) = Fr.dv t b := by unfold Fr.dv; rw [if_neg (of_decide_eq_false (Bool.eq_false_iff.mpr c))]
    unfold Fr.sh at q
    rw [<- e] at q hdz hdn
    refine ⟨_, rfl, _, rfl, _, _, rfl, rfl, ⟨hdn, hdz⟩, _, rfl, _, rfl, _, _, rfl, rfl, ⟨hdn, hdz⟩, sz2, fun p hp => ?_⟩
    exact q p _ (same_new hp _) upd_same
theorem ok_common_multiple {n : Nat} {f : Addr} {fd : FuncData} (F : Fun K "common_multiple" "common_multiple" (top 7) f fd) {g_common_divisor : Addr} {gd_common_divisor : FuncData} (c_common_divisor : Cal P w K mg base n "common_divisor" ["one", "other"] spCd g_common_divisor gd_common_divisor) : FnOk P w K mg base CX0 (n + 1) f fd ["numbers"] (spCM K) := by
  refine F.ok sc_common_multiple (fun vs H Q E h => ?_) (fun cdv A outer s H vs Q E hr h => ?_)
  · obtain ⟨a, ns, rfl, _⟩ := h
    rfl
  obtain ⟨a, ns, rfl, hS, hp, h9, hz, q⟩ := h
  have nd := sc_common_multiple.nd
  refine ⟨_, (pss_cons (ps_set (i := 1) nd rfl (Or.inl rfl) pe_int) (pss_cons (ps_for PassesOwn.never rfl (pi_list (pv 0)) (pg_name (i := 2) nd rfl (Or.inl rfl)) (pss_one (ps_set (i := 1) nd rfl (Or.inl rfl) (pe_op op_mulB (pv 1) (pe_op op_fdivB (pv 2) (pe_callC c_common_divisor hr (pa_cons (pv 1) (pa_cons (pv 2) pa_nil)))))))) (pss_one (ps_ret (pv 1))))), ?_⟩
  have hl : (ns.map V.int).length = ns.length := List.length_map _
  refine ⟨_, rfl, a, rfl, ⟨_, hS⟩, ?_⟩
  refine for_list (xs := ns.map V.int) (fun i σ H' => ∃ r, σ = [some (.ref a), some (.int (lcmL (ns.take i))), r] /\ H' = H) ⟨none, rfl, rfl⟩ (fun i σ H' _ ⟨r, _, e⟩ => by subst e; exact hS) ?turn ?done
  case turn =>
    rintro i x σ H' hx ⟨r, rfl, rfl⟩
    rw [List.getElem?_map] at hx
    cases e : ns[i]? with
    | none => rw [e] at hx; cases hx
    | some n =>
      rw [e] at hx
      cases hx
      have hm := List.mem_of_getElem? e
      have hn := hp n hm
      have nz := h9 n hm
      have gz : intBits ((Int.gcd (lcmL (ns.take i)) n : Nat) : Int) <= 9000 := Nat.le_trans (PySem.intBits_le_of_natAbs (y := n) (by have := Int.gcd_le_natAbs_right (lcmL (ns.take i)) (Int.ne_of_gt hn); omega) (Nat.le_refl _)) (by omega)
      have gn : ((Int.gcd (lcmL (ns.take i)) n : Nat) : Int) ≠ 0 := by have := Int.gcd_pos_of_ne_zero_right (lcmL (ns.take i)) (Int.ne_of_gt hn); omega
      have lb := lcmL_bits (ns.take i)
      have st := sum_take_le ns i
      refine ⟨_, rfl, _, rfl, _, rfl, _, rfl, lcmL (ns.take i), n, rfl, _, _, rfl, rfl, ⟨gn, gz⟩, _, _, rfl, rfl, mulOk (m := 200001) (n := 9000) (by omega) (PySem.intBits_fdiv_le nz) (by decide), ?_⟩
      refine ⟨some (V.int n), ?_, rfl⟩
      rw [List.take_add_one, e]
      show _ = [some (V.ref a), some (V.int (lcmL (ns.take i ++ [n]))), some (V.int n)]
      rw [lcmL_snoc]
      rfl
  case done =>
    rintro σ H' ⟨r, rfl, rfl⟩
    rw [hl, List.take_length]
    exact ⟨_, rfl, q⟩
theorem ok_is_whole {n : Nat} {f : Addr} {fd : FuncData} (F : Fun K "is_whole" "is_whole" (top 5) f fd) (z_isinstance : mg "isinstance" = none) (z_bool : mg "bool" = none) (z_int : mg "int" = none) : FnOk P w K mg base CX0 (n + 1) f fd ["thing", "least", "most"] spIsW := by
  refine F.ok sc_is_whole (fun vs H Q E h => ?_) (fun cdv A outer s H vs Q E hr h => ?_)
  · obtain ⟨i, lo, hi, rfl, _⟩ := h
    rfl
  obtain ⟨i, lo, hi, rfl, h1, h2, q⟩ := h
  have nd := sc_is_whole.nd
  refine ⟨_, (pss_one (ps_ret (pe_and (pe_callB (call_isinst (T := "int")) rfl z_isinstance bt_isinstance (pa_cons (pv 0) (pa_cons (pe_bltn (v := .ty "int") rfl z_int bt_int rfl) pa_nil))) (pe_and (pe_not (pe_callB (call_isinst (T := "bool")) rfl z_isinstance bt_isinstance (pa_cons (pv 0) (pa_cons (pe_bltn (v := .ty "bool") rfl z_bool bt_bool rfl) pa_nil)))) (pe_one (pe_chain op_le op_le (pv 1) (pv 0) (pv 2))))))), ?_⟩
  refine ⟨_, rfl, _, _, _, rfl, .int i, kit_same _, _, rfl, ?_⟩
  refine iteT ?_
  refine ⟨_, rfl, _, _, _, rfl, .int i, kit_int_bool, _, rfl, ?_⟩
  refine ⟨_, rfl, ?_⟩
  refine iteT ?_
  refine ⟨_, rfl, _, rfl, _, _, rfl, rfl, _, rfl, ?_⟩
  refine ifT (decide_eq_true h1) ?_
  refine ⟨_, rfl, _, _, rfl, rfl, ?_⟩
  show Q (.bl (decide (i <= hi))) H
  rw [decide_eq_true h2]
  exact q
theorem ok_whole {n : Nat} {f : Addr} {fd : FuncData} (F : Fun K "whole" "whole" (top 9) f fd) : FnOk P w K mg base CX0 (n + 1) f fd ["number"] spWh := by
  refine F.ok sc_whole (fun vs H Q E h => ?_) (fun cdv A outer s H vs Q E hr h => ?_)
  · obtain ⟨t, rfl, _⟩ := h
    rfl
  obtain ⟨t, rfl, q⟩ := h
  have nd := sc_whole.nd
  refine ⟨_, (pss_one (ps_ret (pe_tup (pa_cons (pv 0) (pa_cons pe_int pa_nil))))), ?_⟩
  refine ⟨_, rfl, sz2, fun p hp => ?_⟩
  exact q p _ (same_new hp _) upd_same
theorem ok_times {n : Nat} {f : Addr} {fd : FuncData} (F : Fun K "times" "times" (top 10) f fd) {g_share : Addr} {gd_share : FuncData} (c_share : Cal P w K mg base n "share" ["top", "bottom"] spShare g_share gd_share) : FnOk P w K mg base CX0 (n + 1) f fd ["one", "other"] spTm := by
  refine F.ok sc_times (fun vs H Q E h => ?_) (fun cdv A outer s H vs Q E hr h => ?_)
  · obtain ⟨p, q, x, y, rfl, _⟩ := h
    rfl
  obtain ⟨p, q, x, y, rfl, hp, hq, z1, z2, k⟩ := h
  have nd := sc_times.nd
  refine ⟨_, (pss_one (ps_ret (pe_callC c_share hr (pa_cons (pe_op op_mulB (pe_ix ix_tup (pv 0) pe_int (fun _ _ => rfl)) (pe_ix ix_tup (pv 1) pe_int (fun _ _ => rfl))) (pa_cons (pe_op op_mulB (pe_ix ix_tup (pv 0) pe_int (fun _ _ => rfl)) (pe_ix ix_tup (pv 1) pe_int (fun _ _ => rfl))) pa_nil))))), ?_⟩
  refine ⟨_, rfl, p, _, _, _, rfl, rfl, (SqT.of hp), rfl, _, rfl, q, _, _, _, rfl, rfl, (SqT.of hq), rfl, _, _, rfl, rfl, mulOk z1.t z2.t (by decide), _, rfl, p, _, _, _, rfl, rfl, (SqT.of hp), rfl, _, rfl, q, _, _, _, rfl, rfl, (SqT.of hq), rfl, _, _, rfl, rfl, mulOk z1.b z2.b (by decide), _, _, rfl, Int.ne_of_gt (Int.mul_pos z1.p z2.p), Nat.le_trans (PySem.intBits_mul_le z1.b z2.b) (by decide), k⟩
theorem ok_below {n : Nat} {f : Addr} {fd : FuncData} (F : Fun K "below" "below" (top 11) f fd) : FnOk P w K mg base CX0 (n + 1) f fd ["one", "other"] (spBelow K) := by
  refine F.ok sc_below (fun vs H Q E h => ?_) (fun cdv A outer s H vs Q E hr h => ?_)
  · obtain ⟨p, q, a, b, c, d, rfl, _⟩ := h
    rfl
  obtain ⟨p, q, a, b, c, d, rfl, hp, hq, z, k⟩ := h
  have nd := sc_below.nd
  refine ⟨_, (pss_one (ps_ret (pe_cmpR op_lt (pe_op op_mulB (pe_ix ix_tup (pv 0) pe_int (fun _ _ => rfl)) (pe_ix ix_tup (pv 1) pe_int (fun _ _ => rfl))) (pe_op op_mulB (pe_ix ix_tup (pv 1) pe_int (fun _ _ => rfl)) (pe_ix ix_tup (pv 0) pe_int (fun _ _ => rfl))) (nomark _)))), ?_⟩
  exact ⟨_, rfl, p, _, _, _, rfl, rfl, hp, rfl, _, rfl, q, _, _, _, rfl, rfl, hq, rfl, _, _, rfl, rfl, mulOk z.a z.d (by decide), _, rfl, q, _, _, _, rfl, rfl, hq, rfl, _, rfl, p, _, _, _, rfl, rfl, hp, rfl, _, _, rfl, rfl, mulOk z.c z.b (by decide), _, _, rfl, rfl, k⟩
theorem ok_lesser {n : Nat} {f : Addr} {fd : FuncData} (F : Fun K "lesser" "lesser" (top 12) f fd) {g_below : Addr} {gd_below : FuncData} (c_below : Cal P w K mg base n "below" ["one", "other"] (spBelow K) g_below gd_below) : FnOk P w K mg base CX0 (n + 1) f fd ["one", "other"] (spLs K) := by
  refine F.ok sc_lesser (fun vs H Q E h => ?_) (fun cdv A outer s H vs Q E hr h => ?_)
  · obtain ⟨p, q, a, b, c, d, rfl, _⟩ := h
    rfl
  obtain ⟨p, q, a, b, c, d, rfl, hp, hq, z, k1, k2⟩ := h
  have nd := sc_lesser.nd
  refine ⟨_, (pss_one (ps_ret (pe_ifExp (pt_val (pe_callC c_below hr (pa_cons (pv 1) (pa_cons (pv 0) pa_nil)))) (pv 1) (pv 0)))), ?_⟩
  refine ⟨_, rfl, _, rfl, q, p, c, d, a, b, rfl, hq, hp, ⟨z.c, z.d, z.a, z.b⟩, _, rfl, ?_⟩
  by_cases cc : c * b < a * d
  · refine ifT (decide_eq_true cc) ?_
    exact ⟨_, rfl, k1 cc⟩
  · refine ifF (decide_eq_false cc) ?_
    exact ⟨_, rfl, k2 cc⟩
theorem ok_rising {n : Nat} {f c : Addr} {fd : FuncData} (F : Fun K "rising" "rising" (top 16) f fd) (hc : fd.code = .ref c) (hC : PySem.W.CodeHd base c Pt) (hB : base.BuiltinsAt mg Pt) (z_sorted : mg "sorted" = none) (z_max : mg "max" = none) : FnOk P w K mg base CX0 (n + 1) f fd ["worths"] (spRise K Pt lamP) := by
  refine F.okc hc sc_rising (fun vs H Q E h => ?_) (fun A outer s H vs Q E hr h => ?_)
  · obtain ⟨a, rs, rfl, _⟩ := h
    rfl
  obtain ⟨a, rs, rfl, hS, hne, h64, hrs, nd0, hT, q⟩ := h
  have nd := sc_rising.nd
  refine ⟨_, (pss_cons (ps_set (i := 1) nd rfl (Or.inl rfl) (pe_callB (call_maxL rfl) rfl z_max bt_max (pa_cons (pe_comp (ls := ["worth"]) (M := ["worths", "most", "scale"]) rfl (CompOk.of (by rfl)) (NL.of (by rfl)) (pi_list (pv 0)) (fun _ _ _ _ => ⟨(pg_name (i := 0) (nd_of (by rfl)) rfl (Or.inl rfl)), pts_nil, (pe_ix (ix_tupK (K := K) rfl) (pv 0) pe_int (fun _ _ => rfl))⟩)) pa_nil))) (pss_cons (ps_set (i := 2) nd rfl (Or.inr rfl) (pe_op op_mulB (pv 1) (pv 1))) (pss_one (ps_ret (pe_sortK (p := "worth") (M := ["worths", "most", "scale"]) hr rfl rfl z_sorted rfl hC hB (CompOk.of (by rfl)) (NL.of (by rfl)) rfl rfl rfl (pv 0) (fun _ _ _ _ _ => (pe_op op_fdivB (pe_op op_mulB (pe_ix (ix_tupK (K := K) rfl) (pv 0) pe_int (fun _ _ => rfl)) (pv 3)) (pe_ix (ix_tupK (K := K) rfl) (pv 0) pe_int (fun _ _ => rfl))))))))), ?_⟩
  have hlr := rrefs_length rs
  refine ⟨_, rfl, a, rfl, ⟨_, hS⟩, fun D hD => ?_⟩
  refine comp_list (xs := rrefs rs) (fun i τ H' => ∃ v0, τ = [v0, some (.ref a), none, none] /\ Same H H' /\ H' D = some (.lst ((rs.take i).map fun r => V.int r.b))) ⟨none, rfl, same_new hD _, upd_same⟩ ?keep ?turn ?done
  case keep =>
    rintro i τ H' hi ⟨v0, rfl, hs, _⟩
    exact hs.seq hS
  case turn =>
    rintro i m v τ H' hm hi hv ⟨v0, rfl, hs, hD'⟩
    obtain ⟨x, hx, rfl⟩ := rrefs_at hv
    have hr2 := hs _ _ (hrs x (List.mem_of_getElem? hx)).1
    unfold gName
    refine tyes_if ?_
    refine ⟨_, rfl, x.q, _, _, _, rfl, rfl, SqT.of hr2, rfl, ?_⟩
    refine comp_next hm hi hD' (by rw [List.length_map]; exact small1000 (Nat.le_trans (List.length_take_le _ _) (by omega))) ⟨_, rfl, hs.upd_new hD _, ?_⟩
    rw [upd_same, take_snoc hx, List.map_append]
    rfl
  case done =>
  rintro τ H1 ⟨v0, rfl, s1, hD1⟩
  rw [hlr, List.take_length] at hD1
  refine ⟨D, rs.map Rs.b, rfl, SqL.of (by rw [hD1, List.map_map]; rfl), fun e => hne (List.map_eq_nil_iff.mp e), fun mx hmx hmax => ?_⟩
  obtain ⟨r0, hr0, rfl⟩ := List.mem_map.mp hmx
  have z0 := (hrs r0 hr0).2.2.2
  refine ⟨_, rfl, _, rfl, _, _, rfl, rfl, mulOk z0 z0 (by decide), ?_⟩
  have zz : intBits (r0.b * r0.b) <= 8000 := PySem.intBits_mul_le z0 z0
  refine ⟨_, rfl, a, rs.map Rs.q, rs.map (keyN r0.b), rfl, by rw [<- rrefs_q]; exact s1.seq hS, by rw [List.length_map, List.length_map], by rw [List.length_map]; exact h64, hT.same s1, fun H2 c' st hit => ⟨fun i qa kk eq ek => ?_, fun D2 ps hD2 hp hs => ?_⟩⟩
  · rw [List.getElem?_map] at eq ek
    cases er : rs[i]? with
    | none => rw [er] at eq; cases eq
    | some r =>
      rw [er] at eq ek
      cases eq
      cases ek
      obtain ⟨ra, rf, rt, rb⟩ := hrs r (List.mem_of_getElem? er)
      have ra2 : H2 r.q = some (.tup [.int r.t, .int r.b]) := st.get (hT.same s1) (s1 _ _ ra) fun _ z => nomatch z
      exact ⟨_, rfl, r.q, _, _, _, rfl, rfl, (SqT.of ra2), rfl, _, rfl, _, _, rfl, rfl, mulOk rt zz (by decide), _, rfl, r.q, _, _, _, rfl, rfl, (SqT.of ra2), rfl, _, _, rfl, rfl, ⟨Int.ne_of_gt rf.pos, Nat.le_trans rb (by decide)⟩, rfl, rfl⟩
  · obtain ⟨rs', pm, e, so⟩ := rise_of hp hs nd0 (fun r hr => (hrs r hr).2.1) (fun r hr => hmax _ (List.mem_map.mpr ⟨r, hr, rfl⟩))
    rw [e]
    have tb2 : TbOk Pt lamP lamQ H2 := .inr ⟨c', hit⟩
    exact q D2 _ rs' (((s1.toT).trans st).trans (Same.toT (same_new hD2 _))) (tb2.same (same_new hD2 _)) upd_same pm so
theorem rs_of {H : Hp} : ∀ {kvs : List (List Key × V)} {qs : List Addr}, qs.length = kvs.length -> (∀ kv ∈ kvs, ∃ t b : Int, kv.1 = [.inl t, .inl b]) -> (∀ (i : Nat) k v, kvs[i]? = some (k, v) -> ∃ q, qs[i]? = some q /\ H q = some (.tup (k.map kV))) ->
    ∃ rs : List Rs, rrefs rs = qs.map V.ref /\ rs.map keyR = kvs.map (·.1) /\ ∀ r ∈ rs, RsAt H r
  | [], [], _, _, _ => ⟨[], rfl, rfl, fun _ h => nomatch h⟩
  | [], _ :: _, h, _, _ => by simp at h
  | _ :: _, [], h, _, _ => by simp at h
  | kv :: kvs, q :: qs, hl, hk, hq => by
    obtain ⟨rs, e1, e2, e3⟩ := rs_of (kvs := kvs) (qs := qs) (by simpa using hl) (fun x hx => hk x (List.mem_cons_of_mem _ hx)) fun i k v e => by
      obtain ⟨z, z1, z2⟩ := hq (i + 1) k v (by simpa using e)
      exact ⟨z, by simpa using z1, z2⟩
    obtain ⟨t, b, ek⟩ := hk kv List.mem_cons_self
    obtain ⟨z, z1, z2⟩ := hq 0 kv.1 kv.2 rfl
    have z1 : q = z := by simpa using z1
    subst z1
    refine ⟨⟨q, t, b⟩ :: rs, ?_, ?_, fun r hr => ?_⟩
    · show V.ref q :: rrefs rs = V.ref q :: qs.map V.ref
      rw [e1]
    · show keyR ⟨q, t, b⟩ :: rs.map keyR = kv.1 :: kvs.map (·.1)
      rw [e2, ek]
      rfl
    · rcases List.mem_cons.mp hr with e | e
      · subst e
        rw [ek] at z2
        exact z2
      · exact e3 r e
theorem key_good {xs : List Row} {kvs : List (List Key × V)} (pb : PB xs) (d : Dk (rws xs) kvs) {r : Rs} (h : keyR r ∈ kvs.map (·.1)) : Tb.Has (rws xs) r.t r.b /\ Fr.IsFr r.t r.b /\ intBits r.t <= 4000 /\ intBits r.b <= 4000 := by
  obtain ⟨kv, hkv, e⟩ := List.mem_map.mp h
  obtain ⟨t, b, e2, hh⟩ := d.en kv hkv
  rw [e2] at e
  obtain ⟨e3, e4⟩ := keyR_eq.mp e.symm
  rw [e3, e4]
  refine ⟨hh, ?_⟩
  obtain ⟨p, hp, e5, e6⟩ := hh
  obtain ⟨x, hx, rfl⟩ := List.mem_map.mp hp
  have g := pb x hx
  have e5 : x.t = t := e5
  have e6 : x.b = b := e6
  rw [<- e5, <- e6]
  exact ⟨g.1, g.2.1, g.2.2.1⟩
theorem ok_in_form {n : Nat} {f : Addr} {fd : FuncData} (F : Fun K "in_form" "in_form" (top 17) f fd) {g_rising : Addr} {gd_rising : FuncData} (c_rising : Cal P w K mg base n "rising" ["worths"] (spRise K Pt lamP) g_rising gd_rising) {g_common_divisor : Addr} {gd_common_divisor : FuncData} (c_common_divisor : Cal P w K mg base n "common_divisor" ["one", "other"] spCd g_common_divisor gd_common_divisor) (z_list : mg "list" = none) : FnOk P w K mg base CX0 (n + 1) f fd ["rows"] (spForm Pt lamP) := by
  refine F.ok sc_in_form (fun vs H Q E h => ?_) (fun cdv A outer s H vs Q E hr h => ?_)
  · obtain ⟨a, xs, rfl, _⟩ := h
    rfl
  obtain ⟨a, xs, rfl, hT, xne, xlen, pb, hTb, q⟩ := h
  have nd := sc_in_form.nd
  have hu := hu_of hr
  refine ⟨_, (pss_cons (ps_set (i := 1) nd rfl (Or.inr rfl) pe_dnewT) (pss_cons (ps_for PassesOwn.never rfl (pi_list (pv 0)) (pg_tup rfl (pgs_cons (pg_name (i := 2) nd rfl (Or.inl rfl)) (pgs_cons (pg_name (i := 3) nd rfl (Or.inl rfl)) pgs_nil))) (pss_one (ps_dput hu (pv 1) (pv 2) (pe_op op_add (pe_dget2 hu (pv 1) (pv 2) pe_int ⟨rfl, rfl, rfl, rfl⟩) (pv 3)) rfl))) (pss_cons (ps_set (i := 4) nd rfl (Or.inr rfl) pe_int) (pss_cons (ps_for PassesOwn.never rfl (pi_keys (pv 1)) (pg_name (i := 2) nd rfl (Or.inl rfl)) (pss_one (ps_set (i := 4) nd rfl (Or.inr rfl) (pe_callC c_common_divisor hr (pa_cons (pv 4) (pa_cons (pe_dget hu (pv 1) (pv 2) (fun _ _ => rfl)) pa_nil)))))) (pss_one (ps_ret (pe_comp (ls := ["worth"]) (M := ["rows", "weights", "worth#", "weight", "divisor"]) rfl (CompOk.of (by rfl)) (NL.of (by rfl)) (pi_list (pe_callC c_rising hr (pa_cons (pe_callTy (call_listK rfl) rfl z_list bt_list (pa_cons (pv 1) pa_nil)) pa_nil))) (fun _ _ _ _ => ⟨(pg_name (i := 0) (nd_of (by rfl)) rfl (Or.inl rfl)), pts_nil, (pe_tup (pa_cons (pv 0) (pa_cons (pe_op op_fdivB (pe_dget hu (pv 2) (pv 0) (fun _ _ => rfl)) (pv 5)) pa_nil)))⟩)))))))), ?_⟩
  have hlr := refs_length xs
  intro Dd hDd
  have n0 := same_new hDd (.dT [])
  refine ⟨_, rfl, a, rfl, ⟨_, SqL.of (hT.same n0).lst⟩, ?_⟩
  refine for_list (xs := refs xs) (fun i σ H' => ∃ kvs v2 v3, σ = [some (.ref a), some (.ref Dd), v2, v3, none] /\ Same H H' /\ H' Dd = some (.dT kvs) /\ Dk (rws (xs.take i)) kvs /\ kvs.length <= i) ⟨[], none, none, rfl, n0, upd_same, Dk.nil, Nat.le_refl _⟩ ?keep ?turn ?done
  case keep =>
    rintro i σ H' hi ⟨kvs, v2, v3, rfl, hs, _⟩
    exact SqL.of (hT.same hs).lst
  case turn =>
    rintro i v σ H' hv ⟨kvs, v2, v3, rfl, hs, hd, dk, kl⟩
    obtain ⟨x, hx, rfl⟩ := refs_at hv
    have hmem := List.mem_of_getElem? hx
    have hi := (List.getElem?_eq_some_iff.mp hx).1
    have hr := (hT.same hs).rows x hmem
    have hq : H' x.q = some (.tup (([.inl x.t, .inl x.b] : List Key).map kV)) := hr.2
    refine ⟨x.p, _, rfl, SqT.of hr.1, rfl, _, _, rfl, _, _, rfl, rfl, ?_⟩
    refine ⟨_, rfl, Dd, rfl, .inr ⟨_, .inl hd⟩, _, rfl, _, DGet.t hd hq, _, rfl, Tb.Wt (rws (xs.take i)) x.t x.b, x.w, dk.get x.t x.b, rfl, ?_⟩
    refine ⟨_, rfl, _, rfl, Dd, _, rfl, DPut.t hd hq (small1000 (by omega)), ?_⟩
    refine ⟨_, _, _, rfl, hs.upd_new hDd _, upd_same, ?_, ?_⟩
    · rw [take_snoc hx, rws_snoc]
      exact dk.put x.r
    · have := length_putK kvs [.inl x.t, .inl x.b] (.int (Tb.Wt (rws (xs.take i)) x.t x.b + x.w))
      exact Nat.le_trans this (by omega)
  case done =>
  rintro σ H1 ⟨kvs, v2, v3, rfl, s1, hd1, dk, kl⟩
  rw [hlr, List.take_length] at dk
  rw [hlr] at kl
  obtain ⟨hw1, hf1⟩ := pb.ps
  have pne : rws xs ≠ [] := fun e => xne (List.map_eq_nil_iff.mp e)
  have plen : (rws xs).length <= 1000 := by rw [rws_length]; omega
  have dpos := dk.div_pos pne hw1
  have dbits := div_bits dk pne (fun p hp => by obtain ⟨x, hx, rfl⟩ := List.mem_map.mp hp; exact ⟨(pb x hx).2.2.2.1, (pb x hx).2.2.2.2⟩) plen
  refine ⟨_, rfl, Dd, kvs, rfl, .inl ⟨hd1, fun o => ?_⟩⟩
  have s2 : Same H (upd H1 Dd (.frz o (.dT kvs))) := s1.upd_new hDd _
  have hfz : upd H1 Dd (.frz o (.dT kvs)) Dd = some (.frz o (.dT kvs)) := upd_same
  generalize upd H1 Dd (.frz o (.dT kvs)) = H2 at s2 hfz ⊢
  refine for_keys (fun i σ H' => ∃ d v2, σ = [some (.ref a), some (.ref Dd), v2, v3, some (.int d)] /\ H' = H2 /\ d = Tb.gcdL ((kvs.take i).map wOf)) ⟨0, _, rfl, rfl, rfl⟩ (fun i σ H' _ ⟨_, _, _, e, _⟩ => by rw [e]; exact hfz) ?turn3 ?done3
  case turn3 =>
    rintro i k v kq σ H' hk hkt ⟨d, v2, rfl, rfl, ed⟩
    obtain ⟨t, b, ekv, hh⟩ := dk.en _ (List.mem_of_getElem? hk)
    injection ekv with ek1 ek2
    subst ek1 ek2
    refine ⟨_, rfl, _, rfl, _, rfl, Dd, .int (Tb.Wt (rws xs) t b), rfl, .inr ⟨kvs, [.inl t, .inl b], kq, .inr ⟨o, hfz⟩, rfl, hkt, (dk.val hh).symm⟩, d, Tb.Wt (rws xs) t b, rfl, ?_⟩
    refine ⟨_, _, rfl, rfl, ?_⟩
    rw [take_snoc hk, List.map_append, ed]
    exact (Tb.gcdL_snoc _ _).symm
  case done3 =>
  rintro σ H3 ⟨d, v2, rfl, rfl, ed⟩
  rw [List.take_length] at ed
  have ed : d = divOf kvs := ed
  subst ed
  have kb : ∀ kv ∈ kvs, ∃ t b : Int, kv.1 = [.inl t, .inl b] := fun kv hkv => by
    obtain ⟨t, b, e, _⟩ := dk.en kv hkv
    exact ⟨t, b, by rw [e]⟩
  refine ⟨_, rfl, Dd, kvs, rfl, .inr ⟨o, hfz⟩, fun l qs hl hql hqs => ?_⟩
  obtain ⟨rs0, er1, er2, er3⟩ := rs_of hql kb hqs
  have n3 := same_new hl (.lst (qs.map V.ref))
  have s3 := s2.trans n3
  have rl0 : rs0.length = kvs.length := by simpa using congrArg List.length er2
  have kin0 : ∀ r ∈ rs0, keyR r ∈ kvs.map (·.1) := fun r hr => by rw [<- er2]; exact List.mem_map.mpr ⟨r, hr, rfl⟩
  refine ⟨l, rs0, rfl, SqL.of (by rw [er1]; exact upd_same), ?_, by omega, fun r hr => ⟨n3 _ _ (er3 r hr), (key_good pb dk (kin0 r hr)).2⟩, by rw [er2]; exact dk.nd, hTb.same s3, fun R H4 rs st4 tb4 hR pm so => ?_⟩
  · rintro rfl
    exact dk.ne pne (List.length_eq_zero_iff.mp rl0.symm)
  have tb3 := hTb.same s3
  have hfz4 : H4 Dd = some (.frz o (.dT kvs)) := st4.get tb3 (n3 _ _ hfz) fun _ z => nomatch z
  have pmk : (rs.map keyR).Perm (kvs.map (·.1)) := by rw [<- er2]; exact pm.map keyR
  have kin : ∀ r ∈ rs, keyR r ∈ kvs.map (·.1) := fun r hr => pmk.mem_iff.mp (List.mem_map.mpr ⟨r, hr, rfl⟩)
  have rat : ∀ r ∈ rs, RsAt H4 r := fun r hr => st4.get tb3 (n3 _ _ (er3 r (pm.mem_iff.mp hr))) fun _ z => nomatch z
  have rlen : rs.length = kvs.length := by rw [pm.length_eq, rl0]
  have sT : SameT Pt H H4 := (s3.toT).trans st4
  refine ⟨R, rfl, ⟨_, SqL.of hR⟩, fun D hD => ?_⟩
  refine comp_list (xs := rrefs rs) (fun i τ H' => ∃ v0 ys, τ = [v0, some (.ref a), some (.ref Dd), v2, v3, some (.int (divOf kvs))] /\ Same H4 H' /\ TabAt H' D ys /\ ys.map (fun y => Rs.mk y.q y.t y.b) = rs.take i /\ ∀ y ∈ ys, y.w = (Tb.Wt (rws xs) y.t y.b).fdiv (divOf kvs)) ⟨none, [], rfl, same_new hD _, ⟨upd_same, fun _ h => nomatch h⟩, rfl, (fun _ h => nomatch h)⟩ ?keep4 ?turn4 ?done4
  case keep4 =>
    rintro i τ H' hi ⟨v0, ys, rfl, hs, _⟩
    exact SqL.of (hs _ _ hR)
  case turn4 =>
    rintro i m v τ H' hm hi hv ⟨v0, ys, rfl, hs, hY, ey, yw⟩
    obtain ⟨r, hr, rfl⟩ := rrefs_at hv
    have hmem := List.mem_of_getElem? hr
    have hh := (key_good pb dk (kin r hmem)).1
    have rq : H' r.q = some (.tup [.int r.t, .int r.b]) := hs _ _ (rat r hmem)
    have ylen : ys.length <= 1000 := by
      have h := congrArg List.length ey
      rw [List.length_map, List.length_take] at h
      omega
    unfold gName
    refine tyes_if ?_
    refine ⟨_, rfl, _, rfl, _, rfl, Dd, .int (Tb.Wt (rws xs) r.t r.b), rfl, .inr ⟨kvs, [.inl r.t, .inl r.b], r.q, .inr ⟨o, hs _ _ hfz4⟩, rfl, rq, (dk.val hh).symm⟩, _, rfl, _, _, rfl, rfl, ⟨Int.ne_of_gt dpos, dbits⟩, sz2, fun p hp => ?_⟩
    have n1 := same_new hp (.tup [.ref r.q, .int ((Tb.Wt (rws xs) r.t r.b).fdiv (divOf kvs))])
    have hY1 := hY.same n1
    refine comp_next hm hi hY1.lst (by rw [refs_length]; exact small1000 ylen) ⟨_, ys ++ [⟨p, r.q, r.t, r.b, (Tb.Wt (rws xs) r.t r.b).fdiv (divOf kvs)⟩], rfl, (hs.trans n1).upd_new hD _, ⟨?_, ?_⟩, ?_, ?_⟩
    · rw [upd_same, refs_snoc]
    · intro y hy
      rcases List.mem_append.mp hy with z | z
      · exact (hY1.rows y z).over hY1.lst
      · rw [List.mem_singleton.mp z]
        exact RowAt.over ⟨upd_same, n1 _ _ rq⟩ hY1.lst
    · rw [List.map_append, ey, take_snoc hr]
      rfl
    · intro y hy
      rcases List.mem_append.mp hy with z | z
      · exact yw y z
      · rw [List.mem_singleton.mp z]
  case done4 =>
    rintro τ H5 ⟨v0, ys, rfl, s5, hY, ey, yw⟩
    rw [rrefs_length, List.take_length] at ey
    obtain ⟨tab, wok⟩ := mk_tab dk hw1 hf1 pne pmk so ey yw
    have yl : ys.length = rs.length := by rw [<- ey, List.length_map]
    refine q D H5 ys (sT.trans (s5.toT)) (tb4.same s5) (sT.free hD tb4.at_) hY ⟨tab, wok⟩ (by omega)
theorem ok_all_weights {n : Nat} {f : Addr} {fd : FuncData} (F : Fun K "all_weights" "all_weights" (top 18) f fd) (z_sum : mg "sum" = none) : FnOk P w K mg base CX0 (n + 1) f fd ["table"] spAW := by
  refine F.ok sc_all_weights (fun vs H Q E h => ?_) (fun cdv A outer s H vs Q E hr h => ?_)
  · obtain ⟨a, xs, rfl, _⟩ := h
    rfl
  obtain ⟨a, xs, rfl, hT, hl, q⟩ := h
  have nd := sc_all_weights.nd
  refine ⟨_, (pss_one (ps_ret (pe_callB (call_sum rfl) rfl z_sum bt_sum (pa_cons (pe_comp (ls := ["worth", "weight"]) (M := ["table"]) rfl (CompOk.of (by rfl)) (NL.of (by rfl)) (pi_list (pv 0)) (fun _ _ _ _ => ⟨(pg_tupK (K := K) (n := 2) rfl rfl (pgs_cons (pg_name (i := 0) (nd_of (by rfl)) rfl (Or.inl rfl)) (pgs_cons (pg_name (i := 1) (nd_of (by rfl)) rfl (Or.inl rfl)) pgs_nil))), pts_nil, (pv 1)⟩)) pa_nil)))), ?_⟩
  have hlr := refs_length xs
  refine ⟨_, rfl, a, rfl, ⟨_, SqL.of hT.lst⟩, fun D hD => ?_⟩
  refine comp_list (xs := refs xs) (fun i τ H' => ∃ v0 v1, τ = [v0, v1, some (.ref a)] /\ Same H H' /\ H' D = some (.lst ((xs.take i).map fun x => V.int x.w))) ⟨none, none, rfl, same_new hD _, upd_same⟩ ?keep ?turn ?done
  case keep =>
    rintro i τ H' hi ⟨v0, v1, rfl, hs, _⟩
    exact SqL.of (hT.same hs).lst
  case turn =>
    rintro i m v τ H' hm hi hv ⟨v0, v1, rfl, hs, hD'⟩
    obtain ⟨x, hx, rfl⟩ := refs_at hv
    have hr := (hT.same hs).rows x (List.mem_of_getElem? hx)
    refine ⟨x.p, _, rfl, SqT.of hr.1, rfl, _, _, rfl, _, _, rfl, rfl, ?_⟩
    refine tyes_if ?_
    refine ⟨_, rfl, ?_⟩
    refine comp_next hm hi hD' (by rw [List.length_map]; exact small1000 (Nat.le_trans (List.length_take_le _ _) (by omega))) ⟨_, _, rfl, hs.upd_new hD _, ?_⟩
    rw [upd_same, take_snoc hx, List.map_append]
    rfl
  case done =>
    rintro τ H' ⟨v0, v1, rfl, hs, hD'⟩
    rw [hlr, List.take_length] at hD'
    refine ⟨D, xs.map Row.w, rfl, SqL.of (by rw [hD', List.map_map]; rfl), ?_⟩
    exact q H' hs
theorem ok_capped {n : Nat} {f : Addr} {fd : FuncData} (F : Fun K "capped" "capped" (top 19) f fd) {g_in_form : Addr} {gd_in_form : FuncData} (c_in_form : Cal P w K mg base n "in_form" ["rows"] (spForm Pt lamP) g_in_form gd_in_form) {g_lesser : Addr} {gd_lesser : FuncData} (c_lesser : Cal P w K mg base n "lesser" ["one", "other"] (spLs K) g_lesser gd_lesser) : FnOk P w K mg base CX0 (n + 1) f fd ["table", "level"] (spCap2 Pt lamP) := by
  refine F.ok sc_capped (fun vs H Q E h => ?_) (fun cdv A outer s H vs Q E hr h => ?_)
  · obtain ⟨a, l, xs, x0, n, W, M, kk, rfl, _⟩ := h
    rfl
  obtain ⟨a, l, xs, x0, n, W, M, kk, rfl, hT, g, c, hl, f, hTb, q⟩ := h
  have nd := sc_capped.nd
  refine ⟨_, (pss_one (ps_ret (pe_callC c_in_form hr (pa_cons (pe_comp (ls := ["worth", "weight"]) (M := ["table", "level"]) rfl (CompOk.of (by rfl)) (NL.of (by rfl)) (pi_list (pv 0)) (fun _ _ _ _ => ⟨(pg_tupK (K := K) (n := 2) rfl rfl (pgs_cons (pg_name (i := 0) (nd_of (by rfl)) rfl (Or.inl rfl)) (pgs_cons (pg_name (i := 1) (nd_of (by rfl)) rfl (Or.inl rfl)) pgs_nil))), pts_nil, (pe_tup (pa_cons (pe_callC c_lesser hr (pa_cons (pv 0) (pa_cons (pv 3) pa_nil))) (pa_cons (pv 1) pa_nil)))⟩)) pa_nil)))), ?_⟩
  obtain ⟨l0, l1⟩ := x0
  have hl : H l = some (.tup [.int l0, .int l1]) := hl
  have f : Sd.Fq l0 l1 M kk := f
  have lb := fq_bits f g.mp c.m c.k0 c.k
  have hlr := refs_length xs
  have glen := g.len
  have gn := c.n
  have ylen : ∀ {i : Nat} {ys : List Row}, rws ys = (rws (xs.take i)).map (Tb.capR l0 l1) -> ys.length <= 12 := fun {i ys} e => by
    have h1 := congrArg List.length e
    rw [rws_length, List.length_map, rws_length, List.length_take] at h1
    omega
  refine ⟨_, rfl, a, rfl, ⟨_, SqL.of hT.lst⟩, fun D hD => ?_⟩
  refine comp_list (xs := refs xs) (fun i τ H' => ∃ v0 v1 ys, τ = [v0, v1, some (.ref a), some (.ref l)] /\ Same H H' /\ TabAt H' D ys /\ rws ys = (rws (xs.take i)).map (Tb.capR l0 l1)) ⟨none, none, [], rfl, same_new hD _, ⟨upd_same, fun _ h => nomatch h⟩, rfl⟩ ?keep ?turn ?done
  case keep =>
    rintro i τ H' hi ⟨v0, v1, ys, rfl, hs, _⟩
    exact SqL.of (hT.same hs).lst
  case turn =>
    rintro i m v τ H' hm hi hv ⟨v0, v1, ys, rfl, hs, hY, ey⟩
    obtain ⟨x, hx, rfl⟩ := refs_at hv
    have hmem := List.mem_of_getElem? hx
    have hr := (hT.same hs).rows x hmem
    have xz := g.bits c hmem
    have yl := ylen ey
    refine ⟨x.p, _, rfl, SqT.of hr.1, rfl, _, _, rfl, _, _, rfl, rfl, ?_⟩
    refine tyes_if ?_
    refine ⟨_, rfl, _, rfl, x.q, l, x.t, x.b, l0, l1, rfl, SqT.of hr.2, SqT.of (hs _ _ hl), ⟨by omega, by omega, by omega, by omega⟩, fun c => ?_, fun c => ?_⟩
    ·
      refine ⟨_, rfl, sz2, fun p hp => ?_⟩
      have n1 := same_new hp (.tup [.ref l, .int x.w])
      have hY1 := hY.same n1
      refine comp_next hm hi hY1.lst (by rw [refs_length]; exact small1000 (by omega)) ⟨_, _, ys ++ [⟨p, l, l0, l1, x.w⟩], rfl, (hs.trans n1).upd_new hD _, ⟨?_, ?_⟩, ?_⟩
      · rw [upd_same, refs_snoc]
      · intro y hy
        rcases List.mem_append.mp hy with z | z
        · exact (hY1.rows y z).over hY1.lst
        · rw [List.mem_singleton.mp z]
          exact RowAt.over ⟨upd_same, n1 _ _ (hs _ _ hl)⟩ hY1.lst
      · rw [rws_snoc, ey, take_snoc hx, rws_snoc, List.map_append]
        show _ ++ [_] = _ ++ [Tb.capR l0 l1 x.r]
        unfold Tb.capR
        rw [if_pos (show l0 * x.r.b < x.r.t * l1 from c)]
        rfl
    ·
      refine ⟨_, rfl, sz2, fun p hp => ?_⟩
      have n1 := same_new hp (.tup [.ref x.q, .int x.w])
      have hY1 := hY.same n1
      refine comp_next hm hi hY1.lst (by rw [refs_length]; exact small1000 (by omega)) ⟨_, _, ys ++ [⟨p, x.q, x.t, x.b, x.w⟩], rfl, (hs.trans n1).upd_new hD _, ⟨?_, ?_⟩, ?_⟩
      · rw [upd_same, refs_snoc]
      · intro y hy
        rcases List.mem_append.mp hy with z | z
        · exact (hY1.rows y z).over hY1.lst
        · rw [List.mem_singleton.mp z]
          exact RowAt.over ⟨upd_same, n1 _ _ hr.2⟩ hY1.lst
      · rw [rws_snoc, ey, take_snoc hx, rws_snoc, List.map_append]
        show _ ++ [_] = _ ++ [Tb.capR l0 l1 x.r]
        unfold Tb.capR
        rw [if_neg (show ¬ l0 * x.r.b < x.r.t * l1 from c)]
        rfl
  case done =>
  rintro τ H1 ⟨v0, v1, ys, rfl, s1, hY, ey⟩
  have yl := ylen ey
  rw [hlr, List.take_length] at ey
  have el : ys.length = xs.length := by
    have h1 := congrArg List.length ey
    rw [rws_length, List.length_map, rws_length] at h1
    exact h1
  refine ⟨D, ys, rfl, hY, ?_, by omega, cap_pb g c f ey, hTb.same s1, fun r H5 zs s5 tb5 hr5 hZ o hzl => ?_⟩
  · rintro rfl
    exact g.ne (List.length_eq_zero_iff.mp el.symm)
  · rw [ey] at o
    exact q r H5 zs ((s1.toT).trans s5) tb5 (s1.free hr5) hZ (cap_gt g f o (by omega)) o
theorem _root_.TD.GM.wz {es : List Ent} {k0 : Nat} {W0 kk : Int} (g : GM es k0 W0 kk) {e : Ent} (he : e ∈ es) {y : Row} (hy : y ∈ e.ys) : intBits y.w <= 601 := by
  have ge := g.g e he
  have a := ge.w1 y hy
  have b := wsum_pos ge.w1 hy
  have c := ge.ws
  have d := (g.c e he).w
  have p1 : (2 : Int) ^ 601 = 2 * 2 ^ 600 := by rw [Int.pow_succ]; omega
  have q1 := Sd.pow_pos2 600
  exact bits_of (by omega) (by omega)
theorem ok_mixed {n : Nat} {f : Addr} {fd : FuncData} (F : Fun K "mixed" "mixed" (top 20) f fd) {g_in_form : Addr} {gd_in_form : FuncData} (c_in_form : Cal P w K mg base n "in_form" ["rows"] (spForm Pt lamP) g_in_form gd_in_form) {g_all_weights : Addr} {gd_all_weights : FuncData} (c_all_weights : Cal P w K mg base n "all_weights" ["table"] spAW g_all_weights gd_all_weights) {g_common_multiple : Addr} {gd_common_multiple : FuncData} (c_common_multiple : Cal P w K mg base n "common_multiple" ["numbers"] (spCM K) g_common_multiple gd_common_multiple) : FnOk P w K mg base CX0 (n + 1) f fd ["rows"] (spMix2 Pt lamP) := by
  refine F.ok sc_mixed (fun vs H Q E h => ?_) (fun cdv A outer s H vs Q E hr h => ?_)
  · obtain ⟨a, es, k0, W0, kk, rfl, _⟩ := h
    rfl
  obtain ⟨a, es, k0, W0, kk, rfl, hE, g, hTb, q⟩ := h
  have nd := sc_mixed.nd
  refine ⟨_, (pss_cons (ps_set (i := 1) nd rfl (Or.inl rfl) (pe_callC c_common_multiple hr (pa_cons (pe_comp (ls := ["weight", "table"]) (M := ["rows", "scale", "parts", "weight#", "table#", "factor"]) rfl (CompOk.of (by rfl)) (NL.of (by rfl)) (pi_list (pv 0)) (fun _ _ _ _ => ⟨(pg_tupK (K := K) (n := 2) rfl rfl (pgs_cons (pg_name (i := 0) (nd_of (by rfl)) rfl (Or.inl rfl)) (pgs_cons (pg_name (i := 1) (nd_of (by rfl)) rfl (Or.inl rfl)) pgs_nil))), pts_nil, (pe_callC c_all_weights hr (pa_cons (pv 1) pa_nil))⟩)) pa_nil))) (pss_cons (ps_set (i := 2) nd rfl (Or.inl rfl) (pe_lst pa_nil)) (pss_cons (ps_for PassesOwn.never rfl (pi_list (pv 0)) (pg_tup rfl (pgs_cons (pg_name (i := 3) nd rfl (Or.inl rfl)) (pgs_cons (pg_name (i := 4) nd rfl (Or.inl rfl)) pgs_nil))) (pss_cons (ps_set (i := 5) nd rfl (Or.inr rfl) (pe_op op_mulB (pv 3) (pe_op op_fdivB (pv 1) (pe_callC c_all_weights hr (pa_cons (pv 4) pa_nil))))) (pss_one (ps_expr (pe_bm PySem.F.plainAttrs_list PySem.F.slot_list_extend PySem.F.type_list_extend mt_extend (pv 2) (pa_cons (pe_comp (ls := ["worth", "inner"]) (M := ["rows", "scale", "parts", "weight", "table", "factor"]) rfl (CompOk.of (by rfl)) (NL.of (by rfl)) (pi_list (pv 4)) (fun _ _ _ _ => ⟨(pg_tupK (K := K) (n := 2) rfl rfl (pgs_cons (pg_name (i := 0) (nd_of (by rfl)) rfl (Or.inl rfl)) (pgs_cons (pg_name (i := 1) (nd_of (by rfl)) rfl (Or.inl rfl)) pgs_nil))), pts_nil, (pe_tup (pa_cons (pv 0) (pa_cons (pe_op op_mulB (pv 7) (pv 1)) pa_nil)))⟩)) pa_nil)))))) (pss_one (ps_ret (pe_callC c_in_form hr (pa_cons (pv 2) pa_nil))))))), ?_⟩
  have hlr := erefs_length es
  have glen := g.len
  have tpos : ∀ n ∈ tots es, 0 < n := fun n hn => (g.tp n hn).1
  have tb := g.tb
  obtain ⟨Sp, _, Sz, Sdv⟩ := g.S
  have k12 := g.k
  have n12 := g.n
  refine ⟨_, rfl, a, rfl, ⟨_, SqL.of hE.lst⟩, fun D hD => ?_⟩
  refine comp_list (xs := erefs es) (fun i τ H' => ∃ v0 v1, τ = [v0, v1, some (.ref a), none, none, none, none, none] /\ Same H H' /\ H' D = some (.lst ((es.take i).map fun e => V.int (wsum e.ys)))) ⟨none, none, rfl, same_new hD _, upd_same⟩ ?keep ?turn ?done
  case keep =>
    rintro i τ H' hi ⟨v0, v1, rfl, hs, _⟩
    exact SqL.of (hE.same hs).lst
  case turn =>
    rintro i m v τ H' hm hi hv ⟨v0, v1, rfl, hs, hD'⟩
    obtain ⟨e, he, rfl⟩ := erefs_at hv
    have hr := (hE.same hs).ents e (List.mem_of_getElem? he)
    have ge := g.g e (List.mem_of_getElem? he)
    refine ⟨e.p, _, rfl, SqT.of hr.1, rfl, _, _, rfl, _, _, rfl, rfl, ?_⟩
    refine tyes_if ?_
    refine ⟨_, rfl, e.a, e.ys, rfl, hr.2, by have := ge.len; omega, fun H2 s2 => ?_⟩
    refine comp_next hm hi (s2 _ _ hD') (by rw [List.length_map]; exact small1000 (Nat.le_trans (List.length_take_le _ _) (by omega))) ⟨_, _, rfl, (hs.trans s2).upd_new hD _, ?_⟩
    rw [upd_same, take_snoc he, List.map_append]
    rfl
  case done =>
  rintro τ H1 ⟨v0, v1, rfl, s1, hD1⟩
  rw [hlr, List.take_length] at hD1
  refine ⟨D, tots es, rfl, SqL.of (by rw [hD1]; unfold tots; rw [List.map_map]; rfl), tpos, fun n hn => Nat.le_trans (tb.1 n hn) (by decide), Nat.le_trans tb.2 (by decide), ?_⟩
  refine ⟨Nat.zero_le _, fun Rp hRp => ?_⟩
  have hRn : H Rp = none := s1.free hRp
  have s2 := s1.upd_new hRn (.lst [])
  refine ⟨_, rfl, a, rfl, ⟨_, SqL.of (hE.same s2).lst⟩, ?_⟩
  refine for_list (xs := erefs es) (fun i σ H' => ∃ v3 v4 v5 xs, σ = [some (.ref a), some (.int (lcmL (tots es))), some (.ref Rp), v3, v4, v5] /\ Same H H' /\ TabAt H' Rp xs /\ rws xs = partsOf (lcmL (tots es)) (es.take i) /\ PB xs /\ xs.length <= i * k0) ⟨none, none, none, [], rfl, s2, ⟨upd_same, fun _ h => nomatch h⟩, rfl, (fun _ h => nomatch h), by rw [Nat.zero_mul]; exact Nat.le_refl _⟩ ?keep2 ?turn2 ?done2
  case keep2 =>
    rintro i σ H' hi ⟨v3, v4, v5, xs, rfl, hs, _⟩
    exact SqL.of (hE.same hs).lst
  case turn2 =>
    rintro i v σ H' hv ⟨v3, v4, v5, xs, rfl, hs, hX, ex, pb, xl⟩
    obtain ⟨e, he, rfl⟩ := erefs_at hv
    have hmem := List.mem_of_getElem? he
    have hi := (List.getElem?_eq_some_iff.mp he).1
    have hr := (hE.same hs).ents e hmem
    have ge := g.g e hmem
    have gw := g.w e hmem
    have gl := ge.len
    have gs := ge.tot
    have tz := tb.1 _ (List.mem_map.mpr ⟨e, hmem, rfl⟩)
    have wz : intBits e.w <= 64 := PySem.intBits_le_64 (by omega) (by omega)
    have fz : intBits (fac (lcmL (tots es)) e) <= 64 + 2405 := PySem.intBits_mul_le wz (PySem.intBits_fdiv_le Sz)
    refine ⟨e.p, _, rfl, SqT.of hr.1, rfl, _, _, rfl, _, _, rfl, rfl, ?_⟩
    refine ⟨_, rfl, _, rfl, _, rfl, e.a, e.ys, rfl, hr.2, by omega, fun H2 s2 => ?_⟩
    refine ⟨_, _, rfl, rfl, ⟨by omega, Nat.le_trans tz (by decide)⟩, _, _, rfl, rfl, mulOk (m := 64) (n := 2405) wz (PySem.intBits_fdiv_le Sz) (by decide), ?_⟩
    have hs2 := hs.trans s2
    have hr2 := hr.2.same s2
    refine ⟨_, rfl, .inl ⟨rfl, _, SqL.of (hX.same s2).lst⟩, _, rfl, e.a, rfl, ⟨_, SqL.of hr2.lst⟩, fun D2 hD2 => ?_⟩
    refine comp_list (xs := refs e.ys) (fun j τ H'' => ∃ v0 v1 zs, τ = [v0, v1, some (.ref a), some (.int (lcmL (tots es))), some (.ref Rp), some (.int e.w), some (.ref e.a), some (.int (fac (lcmL (tots es)) e))] /\ Same H2 H'' /\ TabAt H'' D2 zs /\ rws zs = (e.ys.take j).map (fun y => ⟨y.t, y.b, fac (lcmL (tots es)) e * y.w⟩)) ⟨none, none, [], rfl, same_new hD2 _, ⟨upd_same, fun _ h => nomatch h⟩, rfl⟩ ?keep3 ?turn3 ?done3
    case keep3 =>
      rintro j τ H'' hj ⟨v0, v1, zs, rfl, hs3, _⟩
      exact SqL.of (hr2.same hs3).lst
    case turn3 =>
      rintro j m v τ H'' hm hj hv ⟨v0, v1, zs, rfl, hs3, hZ, ez⟩
      obtain ⟨y, hy, rfl⟩ := refs_at hv
      have hym := List.mem_of_getElem? hy
      have ry := (hr2.same hs3).rows y hym
      have yz := g.wz hmem hym
      have zl : zs.length <= 12 := by
        have h := congrArg List.length ez
        rw [rws_length, List.length_map, List.length_take] at h
        omega
      refine ⟨y.p, _, rfl, SqT.of ry.1, rfl, _, _, rfl, _, _, rfl, rfl, ?_⟩
      refine tyes_if ?_
      refine ⟨_, rfl, _, rfl, _, rfl, _, _, rfl, rfl, mulOk fz yz (by decide), sz2, fun p hp => ?_⟩
      have n1 := same_new hp (.tup [.ref y.q, .int (fac (lcmL (tots es)) e * y.w)])
      have hZ1 := hZ.same n1
      refine comp_next hm hj hZ1.lst (by rw [refs_length]; exact small1000 (by omega)) ⟨_, _, zs ++ [⟨p, y.q, y.t, y.b, fac (lcmL (tots es)) e * y.w⟩], rfl, (hs3.trans n1).upd_new hD2 _, ⟨?_, ?_⟩, ?_⟩
      · rw [upd_same, refs_snoc]
      · intro z hz
        rcases List.mem_append.mp hz with q1 | q1
        · exact (hZ1.rows z q1).over hZ1.lst
        · rw [List.mem_singleton.mp q1]
          exact RowAt.over ⟨upd_same, n1 _ _ ry.2⟩ hZ1.lst
      · rw [rws_snoc, ez, take_snoc hy, List.map_append]
        rfl
    case done3 =>
      rintro τ H3 ⟨v0, v1, zs, rfl, s3, hZ, ez⟩
      rw [refs_length, List.take_length] at ez
      have zl : zs.length = e.ys.length := by
        have h := congrArg List.length ez
        rw [rws_length, List.length_map] at h
        exact h
      have hX3 := hX.same (s2.trans s3)
      have il : i * k0 <= es.length * k0 := Nat.mul_le_mul_right _ (by omega)
      refine ⟨Rp, D2, refs xs, refs zs, rfl, rfl, hX3.lst, hZ.lst, by rw [refs_length, refs_length]; exact Nat.le_of_lt (small1000 (by omega)), ?_⟩
      have s4 : Same H (upd H3 Rp (.lst (refs xs ++ refs zs))) := (hs2.trans s3).upd_new hRn _
      refine ⟨_, _, _, xs ++ zs, rfl, s4, ⟨?_, ?_⟩, ?_, ?_, ?_⟩
      · rw [upd_same]
        unfold refs
        rw [List.map_append]
      · intro z hz
        rcases List.mem_append.mp hz with q1 | q1
        · exact (hX3.rows z q1).over hX3.lst
        · exact (hZ.rows z q1).over hX3.lst
      · rw [rws_append, ex, ez, take_snoc he, partsOf_snoc]
      · intro z hz
        rcases List.mem_append.mp hz with q1 | q1
        · exact pb z q1
        · have m : z.r ∈ rws zs := List.mem_map.mpr ⟨z, q1, rfl⟩
          rw [ez] at m
          obtain ⟨y, hy, ey⟩ := List.mem_map.mp m
          have e1 : y.t = z.t := congrArg Tb.Rw.t ey
          have e2 : y.b = z.b := congrArg Tb.Rw.b ey
          have e3 : fac (lcmL (tots es)) e * y.w = z.w := congrArg Tb.Rw.w ey
          rw [<- e1, <- e2, <- e3]
          exact g.pb hmem hy
      · rw [List.length_append, Nat.succ_mul]
        omega
  case done2 =>
    rintro σ H4 ⟨v3, v4, v5, xs, rfl, s4, hX, ex, pb, xl⟩
    rw [hlr, List.take_length] at ex
    rw [hlr] at xl
    refine ⟨_, rfl, Rp, xs, rfl, hX, ?_, by omega, pb, hTb.same s4, fun r H5 ys s5 tb5 hr5 hY o hyl => ?_⟩
    · rintro rfl
      have ex : ([] : List Tb.Rw) = partsOf (lcmL (tots es)) es := ex
      cases hes : es with
      | nil => exact g.ne hes
      | cons e es' =>
        have ge := g.g e (by rw [hes]; exact List.mem_cons_self)
        cases hys : e.ys with
        | nil => exact ge.ne hys
        | cons y ys =>
          have z : Tb.Has (partsOf (lcmL (tots es)) es) y.t y.b := by
            rw [hes]
            exact Tb.Has_append.mpr (.inl ⟨⟨y.t, y.b, _⟩, List.mem_map.mpr ⟨y, by rw [hys]; exact List.mem_cons_self, rfl⟩, rfl, rfl⟩)
          rw [<- ex] at z
          exact Tb.Has_nil z
    · rw [ex] at o
      exact q r H5 ys ((s4.toT).trans s5) tb5 (s4.free hr5) hY (g.out o (by omega)) o (by rw [<- ex, rws_length]; exact hyl)
theorem ok_level_for {n : Nat} {f : Addr} {fd : FuncData} (F : Fun K "level_for" "level_for" (top 21) f fd) {g_share : Addr} {gd_share : FuncData} (c_share : Cal P w K mg base n "share" ["top", "bottom"] spShare g_share gd_share) {g_all_weights : Addr} {gd_all_weights : FuncData} (c_all_weights : Cal P w K mg base n "all_weights" ["table"] spAW g_all_weights gd_all_weights) {g_common_multiple : Addr} {gd_common_multiple : FuncData} (c_common_multiple : Cal P w K mg base n "common_multiple" ["numbers"] (spCM K) g_common_multiple gd_common_multiple) (z_reversed : mg "reversed" = none) : FnOk P w K mg base CX0 (n + 1) f fd ["table", "price"] spLF2 := by
  refine F.ok sc_level_for (fun vs H Q E h => ?_) (fun cdv A outer s H vs Q E hr h => ?_)
  · obtain ⟨a, xs, p, n, W, kk, rfl, _⟩ := h
    rfl
  obtain ⟨a, xs, p, n, W, kk, rfl, hT, g, c, so, p0, p9, q⟩ := h
  have nd := sc_level_for.nd
  refine ⟨_, (pss_cons (ps_set (i := 2) nd rfl (Or.inl rfl) (pe_callC c_common_multiple hr (pa_cons (pe_comp (ls := ["worth", "weight"]) (M := ["table", "price", "bottom", "tops", "weights", "worth#", "weight#", "top"]) rfl (CompOk.of (by rfl)) (NL.of (by rfl)) (pi_list (pv 0)) (fun _ _ _ _ => ⟨(pg_tupK (K := K) (n := 2) rfl rfl (pgs_cons (pg_name (i := 0) (nd_of (by rfl)) rfl (Or.inl rfl)) (pgs_cons (pg_name (i := 1) (nd_of (by rfl)) rfl (Or.inl rfl)) pgs_nil))), pts_nil, (pe_ix (ix_tupK (K := K) rfl) (pv 0) pe_int (fun _ _ => rfl))⟩)) pa_nil))) (pss_cons (ps_set (i := 3) nd rfl (Or.inl rfl) (pe_op op_mulB (pe_op op_mulB (pe_un un_neg (pv 1)) (pe_callC c_all_weights hr (pa_cons (pv 0) pa_nil))) (pv 2))) (pss_cons (ps_set (i := 4) nd rfl (Or.inl rfl) pe_int) (pss_cons (ps_for PassesOwn.never rfl (pi_rev rfl z_reversed (pa_cons (pv 0) pa_nil)) (pg_tup rfl (pgs_cons (pg_name (i := 5) nd rfl (Or.inl rfl)) (pgs_cons (pg_name (i := 6) nd rfl (Or.inl rfl)) pgs_nil))) (pss_cons (ps_set (i := 7) nd rfl (Or.inl rfl) (pe_op op_mulB (pe_ix ix_tup (pv 5) pe_int (fun _ _ => rfl)) (pe_op op_fdivB (pv 2) (pe_ix ix_tup (pv 5) pe_int (fun _ _ => rfl))))) (pss_cons (ps_if (PW.pt (pw_and (pt_cmpR op_gt (pv 4) pe_int (nomark _)) (pw_and1 (pt_cmpR op_le (pe_op op_mulB (pv 7) (pv 4)) (pv 3) (nomark _))))) (pss_one ps_break) pss_nil) (pss_cons (ps_set (i := 3) nd rfl (Or.inl rfl) (pe_op op_add (pv 3) (pe_op op_mulB (pv 6) (pv 7)))) (pss_one (ps_set (i := 4) nd rfl (Or.inl rfl) (pe_op op_add (pv 4) (pv 6)))))))) (pss_one (ps_ret (pe_callC c_share hr (pa_cons (pv 3) (pa_cons (pe_op op_mulB (pv 4) (pv 2)) pa_nil))))))))), ?_⟩
  have hlr := refs_length xs
  have hrl := rws_length xs
  have glen := g.len
  have gn := c.n
  have tab := g.tab so
  have wt1 := g.tot
  have wt2 := g.ws
  have wt3 := c.w
  have lm : 0 < lcmB xs /\ lcmB xs <= 2 ^ 1600 := ⟨g.mp, c.m⟩
  have p601 : (2 : Int) ^ 601 = 2 * 2 ^ 600 := by rw [Int.pow_succ]; omega
  have p600 := Sd.pow_pos2 600
  have p1601 : (2 : Int) ^ 1601 = 2 * 2 ^ 1600 := by rw [Int.pow_succ]; omega
  have glz : intBits (lcmB xs) <= 1601 := bits_of (by omega) (by omega)
  have wsz : ∀ z : Int, 0 <= z -> z <= wsum xs -> intBits z <= 601 := fun z h1 h2 => bits_of (by omega) (by omega)
  have nz : 0 < xs.length := by
    rcases Nat.eq_zero_or_pos xs.length with z | z
    · exact absurd (List.length_eq_zero_iff.mp z) g.ne
    · exact z
  have b1 : ∀ x : Int, 0 <= x -> x <= 1000000000 -> intBits x <= 64 := fun x h1 h2 => PySem.intBits_le_64 (by omega) (by omega)
  have bpos : ∀ n ∈ xs.map Row.b, 0 < n := fun n hn => by
    obtain ⟨x, hx, rfl⟩ := List.mem_map.mp hn
    exact (g.fq x hx).fr.pos
  refine ⟨_, rfl, a, rfl, ⟨_, SqL.of hT.lst⟩, fun D hD => ?_⟩
  refine comp_list (xs := refs xs) (fun i τ H' => ∃ v0 v1, τ = [v0, v1, some (.ref a), some (.int p), none, none, none, none, none, none] /\ Same H H' /\ H' D = some (.lst ((xs.take i).map fun x => V.int x.b))) ⟨none, none, rfl, same_new hD _, upd_same⟩ ?keep ?turn ?done
  case keep =>
    rintro i τ H' hi ⟨v0, v1, rfl, hs, _⟩
    exact SqL.of (hT.same hs).lst
  case turn =>
    rintro i m v τ H' hm hi hv ⟨v0, v1, rfl, hs, hD'⟩
    obtain ⟨x, hx, rfl⟩ := refs_at hv
    have hr := (hT.same hs).rows x (List.mem_of_getElem? hx)
    refine ⟨x.p, _, rfl, SqT.of hr.1, rfl, _, _, rfl, _, _, rfl, rfl, ?_⟩
    refine tyes_if ?_
    refine ⟨_, rfl, x.q, _, _, _, rfl, rfl, SqT.of hr.2, rfl, ?_⟩
    refine comp_next hm hi hD' (by rw [List.length_map]; exact small1000 (Nat.le_trans (List.length_take_le _ _) (by omega))) ⟨_, _, rfl, hs.upd_new hD _, ?_⟩
    rw [upd_same, take_snoc hx, List.map_append]
    rfl
  case done =>
  rintro τ H1 ⟨v0, v1, rfl, s1, hD1⟩
  rw [hlr, List.take_length] at hD1
  have b9 : ∀ n ∈ xs.map Row.b, intBits n <= 1601 := fun n hn => by
    obtain ⟨x, hx, rfl⟩ := List.mem_map.mp hn
    exact (g.bits c hx).1
  have b10 : ((xs.map Row.b).map intBits).sum <= 200000 := by
    have h := sum_nat_le (k := 1601) (l := (xs.map Row.b).map intBits) fun n hn => by
      obtain ⟨z, hz, rfl⟩ := List.mem_map.mp hn
      exact b9 z hz
    rw [List.length_map, List.length_map] at h
    omega
  refine ⟨D, xs.map Row.b, rfl, SqL.of (by rw [hD1, List.map_map]; rfl), bpos, fun n hn => Nat.le_trans (b9 n hn) (by decide), b10, ?_⟩
  have hT1 := hT.same s1
  refine ⟨_, rfl, _, rfl, _, rfl, a, xs, rfl, hT1, by omega, fun H2 s2 => ⟨_, _, rfl, rfl, mulOk (m := 64) (n := 601) (PySem.intBits_neg_le (b1 p p0 p9)) (wsz _ (by omega) (Int.le_refl _)) (by decide), _, rfl, _, _, rfl, rfl, mulOk (m := 64 + 601) (n := 1601) (PySem.intBits_mul_le (PySem.intBits_neg_le (b1 p p0 p9)) (wsz _ (by omega) (Int.le_refl _))) glz (by decide), ?_⟩⟩
  have hT2 := hT1.same s2
  have gw2 := wt1
  rw [wsum_W] at gw2
  have P0 : 0 <= p * Tb.W (rws xs) * lcmB xs := Int.mul_nonneg (Int.mul_nonneg p0 (by omega)) (Int.le_of_lt tab.cm.pos)
  have fin : ∀ (i : Nat) (tops ws : Int) (v5 v6 v7 : Option V), 0 < i -> Tb.Lp (lcmB xs) (p * Tb.W (rws xs) * lcmB xs) (rws xs) i tops ws ->
      (i = (rws xs).length ∨ ∃ r, (rws xs)[(rws xs).length - 1 - i]? = some r /\ i < (rws xs).length /\ Tb.T (lcmB xs) r * ws <= tops) ->
      tRet (tCall spShare [] E0 (tCons (tVar 3) (tCons (tOp (rI CMulB fun i j => .int (i * j)) (tVar 4) (tVar 2)) tNil))) { nx := fun _ H' => Q .non H', rt := Q } [some (.ref a), some (.int p), some (.int (lcmB xs)), some (.int tops), some (.int ws), v5, v6, v7] H2 := by
    intro i tops ws v5 v6 v7 hi L stop
    have wp := L.ws_pos tab hi
    obtain ⟨w0, wl, tlo, thi⟩ := g.lp c.k0 p0 L
    have wz := wsz ws w0 wl
    have ne : ws * lcmB xs ≠ 0 := Int.ne_of_gt (Int.mul_pos wp tab.cm.pos)
    refine ⟨_, rfl, _, rfl, _, rfl, _, _, rfl, rfl, mulOk wz glz (by decide), tops, ws * lcmB xs, rfl, ne, Nat.le_trans (PySem.intBits_mul_le wz glz) (by decide), fun r H' s' hr' => ?_⟩
    have kp : 0 <= (p + kk) * wsum xs := Int.mul_nonneg (by have := c.k0; omega) (by omega)
    exact q r H' (Fr.sh tops (ws * lcmB xs)) ws ((s1.trans s2).trans s') hr' (by omega) wl (lev_fq (by omega) lm.1 kp tlo thi) (L.ends tab hi stop (Fr.sh_pos ne) (Fr.sh_cross tops (ws * lcmB xs)))
  refine ⟨_, rfl, a, refs xs, rfl, SqL.of hT2.lst, ?_⟩
  refine for_rev (fun i σ H' => ∃ tops ws v5 v6 v7, σ = [some (.ref a), some (.int p), some (.int (lcmB xs)), some (.int tops), some (.int ws), v5, v6, v7] /\ H' = H2 /\ Tb.Lp (lcmB xs) (p * Tb.W (rws xs) * lcmB xs) (rws xs) i tops ws) ?start (fun i σ H' _ ⟨_, _, _, _, _, _, e, _⟩ => by subst e; exact SqL.of hT2.lst) ?turn2 ?done2
  case start =>
    refine ⟨_, _, none, none, none, rfl, rfl, ?_⟩
    have e : -p * wsum xs * lcmB xs = -(p * Tb.W (rws xs) * lcmB xs) := by rw [wsum_W]; grind
    show Tb.Lp _ _ _ 0 (-p * wsum xs * lcmB xs) 0
    rw [e]
    exact Tb.Lp.start P0
  case turn2 =>
    rintro i v σ H' hi hv ⟨tops, ws, v5, v6, v7, rfl, rfl, L⟩
    obtain ⟨x, hx, rfl⟩ := refs_at hv
    have hmem := List.mem_of_getElem? hx
    have hr := hT2.rows x hmem
    have xp := (g.fq x hmem).fr.pos
    have xbz := g.bits c hmem
    rw [hlr] at hi hx
    have hx' : (rws xs)[(rws xs).length - 1 - i]? = some x.r := by rw [hrl]; unfold rws; rw [List.getElem?_map, hx]; rfl
    have tT : x.t * (lcmB xs).fdiv x.b = Tb.T (lcmB xs) x.r := by
      unfold Tb.T
      rw [Int.fdiv_eq_ediv_of_nonneg _ (Int.le_of_lt xp)]
      rfl
    have tz : intBits (x.t * (lcmB xs).fdiv x.b) <= 3201 + 1601 := PySem.intBits_mul_le xbz.2 (PySem.intBits_fdiv_le glz)
    obtain ⟨w0, wl, tlo, thi⟩ := g.lp c.k0 p0 L
    have wz := wsz ws w0 wl
    have xw := wsz x.w (by have := g.w1 x hmem; omega) (wsum_pos g.w1 hmem)
    refine ⟨x.p, _, rfl, SqT.of hr.1, rfl, _, _, rfl, _, _, rfl, rfl, ?_⟩
    refine ⟨_, rfl, x.q, _, _, _, rfl, rfl, SqT.of hr.2, rfl, _, rfl, _, rfl, x.q, _, _, _, rfl, rfl, SqT.of hr.2, rfl, _, _, rfl, rfl, ⟨Int.ne_of_gt xp, by omega⟩, _, _, rfl, rfl, mulOk xbz.2 (PySem.intBits_fdiv_le glz) (by decide), ?_⟩
    refine ⟨_, rfl, _, _, rfl, rfl, _, rfl, ?_⟩
    have go : ¬ (0 < ws /\ Tb.T (lcmB xs) x.r * ws <= tops) -> ∃ tops' ws' v5 v6 v7, [some (V.ref a), some (.int p), some (.int (lcmB xs)), some (.int (tops + x.w * (x.t * (lcmB xs).fdiv x.b))), some (.int (ws + x.w)), some (.ref x.q), some (.int x.w), some (.int (x.t * (lcmB xs).fdiv x.b))] = [some (.ref a), some (.int p), some (.int (lcmB xs)), some (.int tops'), some (.int ws'), v5, v6, v7] /\ H' = H' /\ Tb.Lp (lcmB xs) (p * Tb.W (rws xs) * lcmB xs) (rws xs) (i + 1) tops' ws' := fun h => by
      have L2 := L.next tab P0 (by rw [hrl]; exact hi) hx' h
      rw [<- tT] at L2
      exact ⟨_, _, _, _, _, rfl, rfl, L2⟩
    by_cases hw : 0 < ws
    · refine ifT (decide_eq_true hw) ?_
      refine ⟨_, rfl, _, rfl, _, _, rfl, rfl, mulOk tz wz (by decide), _, rfl, _, _, rfl, rfl, _, rfl, ?_⟩
      by_cases hb : x.t * (lcmB xs).fdiv x.b * ws <= tops
      · refine ifT (decide_eq_true hb) ?_
        have ip : 0 < i := by
          rcases Nat.eq_zero_or_pos i with z | z
          · subst z
            have a0 := L.ew
            simp [Tb.W] at a0
            omega
          · exact z
        exact fin i tops ws _ _ _ ip L (.inr ⟨x.r, hx', by rw [hrl]; exact hi, by rw [<- tT]; exact hb⟩)
      · refine ifF (decide_eq_false hb) ?_
        refine ⟨_, rfl, _, rfl, _, rfl, _, _, rfl, rfl, mulOk xw tz (by decide), _, _, rfl, rfl, ?_⟩
        refine ⟨_, rfl, _, rfl, _, _, rfl, rfl, ?_⟩
        exact go fun z => hb (by rw [tT]; exact z.2)
    · refine ifF (decide_eq_false hw) ?_
      refine iteF ?_
      refine ⟨_, rfl, _, rfl, _, rfl, _, _, rfl, rfl, mulOk xw tz (by decide), _, _, rfl, rfl, ?_⟩
      refine ⟨_, rfl, _, rfl, _, _, rfl, rfl, ?_⟩
      exact go fun z => hw z.1
  case done2 =>
    rintro σ H' ⟨tops, ws, v5, v6, v7, rfl, rfl, L⟩
    rw [hlr] at L
    exact fin xs.length tops ws v5 v6 v7 nz L (.inl hrl.symm)
end
end K11
namespace L2
open PySem PySem.Spec PySem.Calls PyProof.Rows
section
variable {X : Cx}
end
end L2
namespace L2
open PySem PySem.Spec PyProof.Rows
theorem call_tuple_ofK {X : Cx} {K : PySem.W.Frag} (h : X.K = K) : CallR X (.type "tuple") (fun xs H Q => ∃ p ys, xs = [.ref p] /\ ((SqL K H p ys /\ ∀ l, H l = none -> Q (.ref l) (upd H l (.tup ys))) ∨ (SqT K H p ys /\ Q (.ref p) H))) := by subst h; exact call_tuple_of
end L2
namespace K11
open PySem L2 TD
open Builtin.Int (intBits)
section
variable {P : Program} {w : World} {K : PySem.W.Frag} {mg : Str -> Option Value} {base : Heap} {Pt : Addr}
theorem ok_Stand_ends {n : Nat} {f : Addr} {fd : FuncData} (F : Fun K "ends" "Stand.ends" (inClass (top 27) 1) f fd) {c : Cs} (ck : CK K c) : FnOk P w K mg base CX0 (n + 1) f fd ["self"] (spEnds c) := by
  refine F.ok sc_Stand_ends (fun vs H Q E h => ?_) (fun cdv A outer s H vs Q E hr h => ?_)
  · obtain ⟨x, s, d, m, rfl, _⟩ := h
    rfl
  obtain ⟨x, s, d, m, rfl, st, q⟩ := h
  have nd := sc_Stand_ends.nd
  refine ⟨_, (pss_one (ps_ret (pe_fld (pv 0) rfl))), ?_⟩
  cases st with
  | en h vv ok => exact ⟨_, rfl, x, c.e, _, _, _, rfl, h, ck.ce, ck.e1, rfl, q _ vv.n1 vv.nm vv.nx⟩
  | st h vv g lp ly row sub p0 p9 ne l4 w hk => exact ⟨_, rfl, x, c.s, _, _, _, rfl, h, ck.cs, ck.s1, rfl, q _ vv.n1 vv.nm vv.nx⟩
theorem ok_Stand_stages {n : Nat} {f : Addr} {fd : FuncData} (F : Fun K "stages" "Stand.stages" (inClass (top 27) 2) f fd) {c : Cs} (ck : CK K c) : FnOk P w K mg base CX0 (n + 1) f fd ["self"] (spStgs c) := by
  refine F.ok sc_Stand_stages (fun vs H Q E h => ?_) (fun cdv A outer s H vs Q E hr h => ?_)
  · obtain ⟨x, s, d, m, rfl, _⟩ := h
    rfl
  obtain ⟨x, s, d, m, rfl, st, q⟩ := h
  have nd := sc_Stand_stages.nd
  refine ⟨_, (pss_one (ps_ret (pe_fld (pv 0) rfl))), ?_⟩
  cases st with
  | en h vv ok => exact ⟨_, rfl, x, c.e, _, _, _, rfl, h, ck.ce, ck.e2, rfl, q _ vv.k0 vv.kd vv.kx⟩
  | st h vv g lp ly row sub p0 p9 ne l4 w hk => exact ⟨_, rfl, x, c.s, _, _, _, rfl, h, ck.cs, ck.s2, rfl, q _ vv.k0 vv.kd vv.kx⟩
theorem ok_Stand_reserve {n : Nat} {f : Addr} {fd : FuncData} (F : Fun K "reserve" "Stand.reserve" (inClass (top 27) 3) f fd) {c : Cs} (ck : CK K c) : FnOk P w K mg base CX0 (n + 1) f fd ["self"] (spRes c) := by
  refine F.ok sc_Stand_reserve (fun vs H Q E h => ?_) (fun cdv A outer s H vs Q E hr h => ?_)
  · obtain ⟨x, s, d, m, rfl, _⟩ := h
    rfl
  obtain ⟨x, s, d, m, rfl, st, q⟩ := h
  have nd := sc_Stand_reserve.nd
  refine ⟨_, (pss_one (ps_ret (pe_fld (pv 0) rfl))), ?_⟩
  cases st with
  | en h vv ok => exact ⟨_, rfl, x, c.e, _, _, _, rfl, h, ck.ce, ck.e3, rfl, q _ _ vv.lv vv.lw ⟨_, vv.mt⟩⟩
  | st h vv g lp ly row sub p0 p9 ne l4 w hk => exact ⟨_, rfl, x, c.s, _, _, _, rfl, h, ck.cs, ck.s3, rfl, q _ _ vv.lv vv.lw ⟨_, vv.mt⟩⟩
theorem ok_Stand_caps {n : Nat} {f : Addr} {fd : FuncData} (F : Fun K "caps" "Stand.caps" (inClass (top 27) 4) f fd) {c : Cs} (ck : CK K c) (z_list : mg "list" = none) : FnOk P w K mg base CX0 (n + 1) f fd ["self"] (spCaps c) := by
  refine F.ok sc_Stand_caps (fun vs H Q E h => ?_) (fun cdv A outer s H vs Q E hr h => ?_)
  · obtain ⟨x, s, d, m, rfl, _⟩ := h
    rfl
  obtain ⟨x, s, d, m, rfl, st, q⟩ := h
  have nd := sc_Stand_caps.nd
  refine ⟨_, (pss_one (ps_ret (pe_callTy call_list_of rfl z_list bt_list (pa_cons (pe_fld (pv 0) rfl) pa_nil)))), ?_⟩
  cases st with
  | @en _ _ l cp v n' k' _ _ xs h vv ok =>
    refine ⟨_, rfl, x, c.e, _, _, _, rfl, h, ck.ce, ck.e4, rfl, ?_⟩
    refine ⟨cp, _, rfl, .inr (SqT.of vv.caps.1), fun r hr0 => ?_⟩
    have n1 := same_new hr0 (.lst (refs xs))
    exact q r _ xs n1 hr0 ⟨upd_same, fun y hy => (vv.caps.2 y hy).same n1⟩ vv.gs vv.so ⟨_, vv.mt, vv.lw⟩
  | @st _ _ l cp r0 p n' k' lv _ _ j xs rs ps ys h vv g lp ly row sub p0 p9 ne l4 w hk =>
    refine ⟨_, rfl, x, c.s, _, _, _, rfl, h, ck.cs, ck.s4, rfl, ?_⟩
    refine ⟨cp, _, rfl, .inr (SqT.of vv.caps.1), fun r hr0 => ?_⟩
    have n1 := same_new hr0 (.lst (refs xs))
    exact q r _ xs n1 hr0 ⟨upd_same, fun y hy => (vv.caps.2 y hy).same n1⟩ vv.gs vv.so ⟨_, vv.mt, vv.lw⟩
theorem ok_Stand___init__ {n : Nat} {f : Addr} {fd : FuncData} (F : Fun K "__init__" "Stand.__init__" (inClass (top 27) 0) f fd) {c : Cs} (ck : CK K c) (z_tuple : mg "tuple" = none) : FnOk P w K mg base CX0 (n + 1) f fd ["self", "end_count", "stage_count", "level", "cap_rows"] (spStI c) := by
  refine F.ok sc_Stand___init__ (fun vs H Q E h => ?_) (fun cdv A outer s H vs Q E hr h => ?_)
  · obtain ⟨x, dx, C, l, a, n1, k1, xs, rfl, _⟩ := h
    rfl
  obtain ⟨x, dx, C, l, a, n1, k1, xs, rfl, hC, hx, hT, q⟩ := h
  have nd := sc_Stand___init__.nd
  refine ⟨_, (pss_cons (ps_fld (pv 0) (pv 1) rfl) (pss_cons (ps_fld (pv 0) (pv 2) rfl) (pss_cons (ps_fld (pv 0) (pv 3) rfl) (pss_one (ps_fld (pv 0) (pe_callTy (call_tuple_ofK (K := K) rfl) rfl z_tuple bt_tuple (pa_cons (pv 4) pa_nil)) rfl))))), ?_⟩
  have cC : Cls K C /\ NoAttr K C "end_count" /\ NoAttr K C "stage_count" /\ NoAttr K C "level" /\ NoAttr K C "cap_rows" := by
    rcases hC with e | e <;> subst e
    · exact ⟨ck.ce, ck.e1, ck.e2, ck.e3, ck.e4⟩
    · exact ⟨ck.cs, ck.s1, ck.s2, ck.s3, ck.s4⟩
  have nax : a ≠ x := ne_of hT.lst hx fun z => nomatch z
  refine ⟨_, rfl, _, rfl, x, C, dx, [], rfl, hx, cC.1, cC.2.1, (by show _ < 1000; decide), ?_⟩
  refine ⟨_, rfl, _, rfl, x, C, dx, _, rfl, upd_same, cC.1, cC.2.2.1, (by show 1 < 1000; decide), ?_⟩
  refine ⟨_, rfl, _, rfl, x, C, dx, _, rfl, upd_same, cC.1, cC.2.2.2.1, (by show 2 < 1000; decide), ?_⟩
  refine ⟨_, rfl, a, _, rfl, .inl ⟨SqL.of (by rw [upd_ne nax, upd_ne nax, upd_ne nax]; exact hT.lst), fun t ht => ?_⟩⟩
  have htx : t ≠ x := fun e => by rw [e, upd_same] at ht; cases ht
  refine ⟨_, rfl, x, C, dx, _, rfl, by rw [upd_ne (Ne.symm htx)]; exact upd_same, cC.1, cC.2.2.2.2, (by show 3 < 1000; decide), ?_⟩
  rw [upd_ne htx, upd_ne htx, upd_ne htx] at ht
  refine q t _ ht (fun b o nb e => ?_) upd_same ?_
  · rw [upd_ne nb, upd_ne (ne_of_none e ht), upd_ne nb, upd_ne nb, upd_ne nb]
    exact e
  · rw [upd_ne htx]
    exact upd_same
theorem ok_End___init__ {n : Nat} {f : Addr} {fd : FuncData} (F : Fun K "__init__" "End.__init__" (inClass (top 28) 0) f fd) {c : Cs} (ck : CK K c) {cSt fStI : Addr} {fdStI : FuncData} (g_Stand : mg "Stand" = some (.ref cSt)) (mS_i : ClsM K cSt "__init__" fStI) (G_StI : FnOk P w K mg base CX0 n fStI fdStI ["self", "end_count", "stage_count", "level", "cap_rows"] (spStI c)) (b_StI : Binds K fdStI ["self", "end_count", "stage_count", "level", "cap_rows"] []) {g_whole : Addr} {gd_whole : FuncData} (c_whole : Cal P w K mg base n "whole" ["number"] spWh g_whole gd_whole) {g_is_whole : Addr} {gd_is_whole : FuncData} (c_is_whole : Cal P w K mg base n "is_whole" ["thing", "least", "most"] spIsW g_is_whole gd_is_whole) {u_MOST_WORTH : Value} (g_MOST_WORTH : mg "MOST_WORTH" = some u_MOST_WORTH) (r_MOST_WORTH : RelV (.int 1000000000) u_MOST_WORTH) : FnOk P w K mg base CX0 (n + 1) f fd ["self", "worth"] (spEI c) := by
  refine F.ok sc_End___init__ (fun vs H Q E h => ?_) (fun cdv A outer s H vs Q E hr h => ?_)
  · obtain ⟨x, dx, v, rfl, _⟩ := h
    rfl
  obtain ⟨x, dx, v, rfl, hx, h0, h9, q⟩ := h
  have nd := sc_End___init__.nd
  refine ⟨_, (pss_cons (ps_if (pt_not (pt_val (pe_callC c_is_whole hr (pa_cons (pv 1) (pa_cons pe_int (pa_cons (pe_glob (v := .int 1000000000) rfl g_MOST_WORTH r_MOST_WORTH) pa_nil)))))) (pss_one ps_never) pss_nil) (pss_cons (ps_expr (pe_clsm rfl g_Stand mS_i G_StI hr b_StI .nil pass0 (pa_cons (pv 0) (pa_cons pe_int (pa_cons pe_int (pa_cons (pe_callC c_whole hr (pa_cons (pv 1) pa_nil)) (pa_cons (pe_lst (pa_cons (pe_tup (pa_cons (pe_callC c_whole hr (pa_cons (pv 1) pa_nil)) (pa_cons pe_int pa_nil))) pa_nil)) pa_nil))))))) (pss_one (ps_fld (pv 0) (pv 1) rfl)))), ?_⟩
  refine ⟨_, rfl, v, 0, 1000000000, rfl, h0, h9, ?_⟩
  refine ⟨_, rfl, ?_⟩
  refine iteF ?_
  refine ⟨_, rfl, _, rfl, v, rfl, fun l H1 s1 hl => ?_⟩
  refine ⟨_, rfl, v, rfl, fun p H2 s2 hp => ?_⟩
  refine ⟨sz2, fun t ht => ?_⟩
  refine ⟨sz1, fun a ha => ?_⟩
  have n3 := same_new ht (.tup [.ref p, .int 1])
  have n4 := same_new ha (.lst [.ref t])
  have s4 := ((s1.trans s2).trans n3).trans n4
  have hT : TabAt (upd (upd H2 t (.tup [.ref p, .int 1])) a (.lst [.ref t])) a [⟨t, p, v, 1, 1⟩] := ⟨upd_same, fun y hy => by rw [List.mem_singleton.mp hy]; exact ⟨n4 _ _ upd_same, (n3.trans n4) _ _ hp⟩⟩
  have hl4 := (s2.trans (n3.trans n4)) _ _ hl
  generalize upd (upd H2 t (.tup [.ref p, .int 1])) a (.lst [.ref t]) = H4 at n4 s4 hT hl4 ⊢
  refine ⟨x, dx, c.e, l, a, 1, 0, _, rfl, .inl rfl, s4 _ _ hx, hT, fun cp H5 cn k5 hx5 hc5 => ?_⟩
  refine ⟨_, rfl, _, rfl, x, c.e, dx, _, rfl, hx5, ck.ce, ck.e5, (by show 4 < 1000; decide), ?_⟩
  have hx4 := s4 _ _ hx
  have hu : ∀ b o, b ≠ x -> H4 b = some o -> upd H5 x (.ins c.e dx (fE 1 0 l cp v)) b = some o := fun b o nb e => by rw [upd_ne nb]; exact k5 b o nb e
  have tu : ∀ b xs, H4 b = some (.tup xs) -> upd H5 x (.ins c.e dx (fE 1 0 l cp v)) b = some (.tup xs) := fun b xs e => hu b _ (ne_of e hx4 fun z => nomatch z) e
  refine q _ (fun b o nb e => hu b o nb (s4 _ _ e)) fun d m hm => ?_
  refine .en (dx := dx) (l := l) (cp := cp) (n := 1) (k := 0) (xs := [⟨t, p, v, 1, 1⟩]) upd_same ⟨tu _ _ hl4, ⟨?_, fun y hy => ?_⟩, gs_end h0 h9 hm, List.pairwise_singleton _ _, by decide, by omega, by decide, by omega, Sd.mt_en v d, lw_end h0 h9, rfl, rfl⟩ (.en h0 h9 hm)
  · have : cp ≠ x := fun e => by rw [e, hx5] at hc5; cases hc5
    rw [upd_ne this]
    exact hc5
  · have := hT.rows y hy
    exact ⟨tu _ _ this.1, tu _ _ this.2⟩
theorem ok_is_stand {n : Nat} {f : Addr} {fd : FuncData} (F : Fun K "is_stand" "is_stand" (top 30) f fd) {c : Cs} (ck : CK K c) (ct : CT K c) (g_End : mg "End" = some (.ref c.e)) (g_Stage : mg "Stage" = some (.ref c.s)) (z_isinstance : mg "isinstance" = none) : FnOk P w K mg base CX0 (n + 1) f fd ["thing"] (spIsSt c) := by
  refine F.ok sc_is_stand (fun vs H Q E h => ?_) (fun cdv A outer s H vs Q E hr h => ?_)
  · obtain ⟨x, s, d, m, rfl, _⟩ := h
    rfl
  obtain ⟨x, s, d, m, rfl, st, q⟩ := h
  have nd := sc_is_stand.nd
  refine ⟨_, (pss_one (ps_ret (pe_or (pe_callB (call_isinstC (K := K) rfl) rfl z_isinstance bt_isinstance (pa_cons (pv 0) (pa_cons (pe_glob (v := .ref c.e) rfl g_End rfl) pa_nil))) (pe_one (pe_callB (call_isinstC (K := K) rfl) rfl z_isinstance bt_isinstance (pa_cons (pv 0) (pa_cons (pe_glob (v := .ref c.s) rfl g_Stage rfl) pa_nil))))))), ?_⟩
  cases st with
  | en h vv ok =>
    refine ⟨_, rfl, _, c.e, .ref c.e, true, rfl, .ins h ck.ce ct.ea ct.hn ct.htk ct.em, ct.ee, ?_⟩
    refine ⟨_, rfl, ?_⟩
    refine iteT ?_
    exact q
  | st h vv g lp ly row sub p0 p9 ne l4 w hk =>
    refine ⟨_, rfl, _, c.e, .ref c.s, false, rfl, .ins h ck.cs ct.sa ct.hn ct.htk ct.sm, ct.se, ?_⟩
    refine ⟨_, rfl, ?_⟩
    refine iteF ?_
    exact ⟨_, rfl, _, c.s, .ref c.s, true, rfl, .ins h ck.cs ct.sa ct.hn ct.htk ct.sm, ct.ss, q⟩
theorem ok_is_stage_row {n : Nat} {f : Addr} {fd : FuncData} (F : Fun K "is_stage_row" "is_stage_row" (top 31) f fd) {c : Cs} {g_is_stand : Addr} {gd_is_stand : FuncData} (c_is_stand : Cal P w K mg base n "is_stand" ["thing"] (spIsSt c) g_is_stand gd_is_stand) {g_is_whole : Addr} {gd_is_whole : FuncData} (c_is_whole : Cal P w K mg base n "is_whole" ["thing", "least", "most"] spIsW g_is_whole gd_is_whole) (z_len : mg "len" = none) (z_isinstance : mg "isinstance" = none) (z_tuple : mg "tuple" = none) {u_MOST_WEIGHT : Value} (g_MOST_WEIGHT : mg "MOST_WEIGHT" = some u_MOST_WEIGHT) (r_MOST_WEIGHT : RelV (.int 1000) u_MOST_WEIGHT) : FnOk P w K mg base CX0 (n + 1) f fd ["row"] (spIsRow c) := by
  refine F.ok sc_is_stage_row (fun vs H Q E h => ?_) (fun cdv A outer s H vs Q E hr h => ?_)
  · obtain ⟨q0, y, wt, s, d, m, rfl, _⟩ := h
    rfl
  obtain ⟨q0, y, wt, s, d, m, rfl, h, w1, w2, st, q⟩ := h
  have nd := sc_is_stage_row.nd
  refine ⟨_, (pss_cons (ps_if (PW.pt (pw_or (pt_not (pt_val (pe_callB (call_isinst (T := "tuple")) rfl z_isinstance bt_isinstance (pa_cons (pv 0) (pa_cons (pe_bltn (v := .ty "tuple") rfl z_tuple bt_tuple rfl) pa_nil))))) (pw_or1 (pt_cmpR op_ne (pe_callB call_len_seq rfl z_len bt_len (pa_cons (pv 0) pa_nil)) pe_int (nomark _))))) (pss_one (ps_ret pe_bl)) pss_nil) (pss_one (ps_ret (pe_and (pe_callC c_is_whole hr (pa_cons (pe_ix ix_tup (pv 0) pe_int (fun _ _ => rfl)) (pa_cons pe_int (pa_cons (pe_glob (v := .int 1000) rfl g_MOST_WEIGHT r_MOST_WEIGHT) pa_nil)))) (pe_one (pe_callC c_is_stand hr (pa_cons (pe_ix ix_tup (pv 0) pe_int (fun _ _ => rfl)) pa_nil))))))), ?_⟩
  refine ⟨_, rfl, _, _, _, rfl, .tup h, kit_same _, _, rfl, ?_⟩
  refine iteF ?_
  refine ⟨_, rfl, q0, _, rfl, .inr (SqT.of h), rfl, _, rfl, ?_⟩
  refine iteF ?_
  refine ⟨_, rfl, q0, _, _, _, rfl, rfl, SqT.of h, rfl, wt, 1, 1000, rfl, w1, w2, ?_⟩
  refine ⟨_, rfl, ?_⟩
  refine iteT ?_
  exact ⟨_, rfl, q0, _, _, _, rfl, rfl, SqT.of h, rfl, y, s, d, m, rfl, st, q⟩
theorem ok_is_stage_rows {n : Nat} {f : Addr} {fd : FuncData} (F : Fun K "is_stage_rows" "is_stage_rows" (top 32) f fd) {c : Cs} {g_is_stage_row : Addr} {gd_is_stage_row : FuncData} (c_is_stage_row : Cal P w K mg base n "is_stage_row" ["row"] (spIsRow c) g_is_stage_row gd_is_stage_row) (z_all : mg "all" = none) (z_len : mg "len" = none) (z_isinstance : mg "isinstance" = none) (z_list : mg "list" = none) {u_MOST_STAGE_ROWS : Value} (g_MOST_STAGE_ROWS : mg "MOST_STAGE_ROWS" = some u_MOST_STAGE_ROWS) (r_MOST_STAGE_ROWS : RelV (.int 4) u_MOST_STAGE_ROWS) : FnOk P w K mg base CX0 (n + 1) f fd ["rows"] (spIsRows c) := by
  refine F.ok sc_is_stage_rows (fun vs H Q E h => ?_) (fun cdv A outer s H vs Q E hr h => ?_)
  · obtain ⟨a, ps, ys, rs, d, j, rfl, _⟩ := h
    rfl
  obtain ⟨a, ps, ys, rs, d, j, rfl, ha, R, ne, l4, ww, q⟩ := h
  have nd := sc_is_stage_rows.nd
  refine ⟨_, (pss_cons (ps_if (PW.pt (pw_or (pt_not (pt_val (pe_callB (call_isinst (T := "list")) rfl z_isinstance bt_isinstance (pa_cons (pv 0) (pa_cons (pe_bltn (v := .ty "list") rfl z_list bt_list rfl) pa_nil))))) (pw_or1 (pt_not (pt_chain op_le op_le pe_int (pe_callB call_len_seq rfl z_len bt_len (pa_cons (pv 0) pa_nil)) (pe_glob (v := .int 4) rfl g_MOST_STAGE_ROWS r_MOST_STAGE_ROWS)))))) (pss_one (ps_ret pe_bl)) pss_nil) (pss_one (ps_ret (pe_callB (call_allL rfl rfl) rfl z_all bt_all (pa_cons (pe_comp (ls := ["row"]) (M := ["rows"]) rfl (CompOk.of (by rfl)) (NL.of (by rfl)) (pi_list (pv 0)) (fun _ _ _ _ => ⟨(pg_name (i := 0) (nd_of (by rfl)) rfl (Or.inl rfl)), pts_nil, (pe_callC c_is_stage_row hr (pa_cons (pv 0) pa_nil))⟩)) pa_nil))))), ?_⟩
  have hl : (ps.map V.ref).length = rs.length := by rw [List.length_map]; exact R.lp
  have n1 : 1 <= rs.length := List.length_pos_iff.mpr ne
  refine ⟨_, rfl, _, _, _, rfl, .lst ha, kit_same _, _, rfl, ?_⟩
  refine iteF ?_
  refine ⟨_, rfl, a, _, rfl, .inl (SqL.of ha), _, _, rfl, rfl, _, rfl, ?_⟩
  refine ifT (decide_eq_true (show (1 : Int) <= _ by rw [hl]; omega)) ?_
  refine ⟨_, _, rfl, rfl, _, rfl, ?_⟩
  refine ifF (by rw [decide_eq_true (show (_ : Int) <= 4 by rw [hl]; omega)]; rfl) ?_
  refine ⟨_, rfl, a, rfl, ⟨_, SqL.of ha⟩, fun D hD => ?_⟩
  refine comp_list (xs := ps.map V.ref) (fun i τ H' => ∃ v0, τ = [v0, some (.ref a)] /\ Same H H' /\ H' D = some (.lst ((List.replicate i true).map V.bl))) ⟨none, rfl, same_new hD _, upd_same⟩ ?keep ?turn ?done
  case keep =>
    rintro i τ H' hi ⟨v0, rfl, hs, _⟩
    exact SqL.of (hs _ _ ha)
  case turn =>
    rintro i m v τ H' hm hi hv ⟨v0, rfl, hs, hD'⟩
    obtain ⟨q1, y, t, _, _, _, rfl, h1, st, mem⟩ := R.at_ hv
    refine gyes ?_
    refine ⟨_, rfl, q1, y, t.1, t.2, d, _, rfl, hs _ _ h1, (ww t mem).1, (ww t mem).2, st.same hs, ?_⟩
    refine comp_next hm hi hD' (by rw [List.length_map, List.length_replicate]; exact small1000 (by rw [hl] at hi; omega)) ⟨_, rfl, hs.upd_new hD _, ?_⟩
    rw [upd_same, List.replicate_succ', List.map_append]
    rfl
  case done =>
    rintro τ H' ⟨v0, rfl, hs, hD'⟩
    refine ⟨D, _, rfl, SqL.of hD', ?_⟩
    have e : (List.replicate (ps.map V.ref).length true).all id = true := by simp
    rw [e]
    exact q H' hs
theorem ent_upd {H : Hp} {D : Addr} {e : Ent} {zs : List V} {o : HO} (hD : H D = some (.lst zs)) (n : e.a ≠ D) (h : EntAt H e) : EntAt (upd H D o) e := by
  refine ⟨?_, ?_, fun x hx => ⟨?_, ?_⟩⟩
  · rw [upd_ne (ne_of h.1 hD fun z => nomatch z)]; exact h.1
  · rw [upd_ne n]; exact h.2.lst
  · rw [upd_ne (ne_of (h.2.rows x hx).1 hD fun z => nomatch z)]; exact (h.2.rows x hx).1
  · rw [upd_ne (ne_of (h.2.rows x hx).2 hD fun z => nomatch z)]; exact (h.2.rows x hx).2
theorem sum_ge {ns : List Int} (h : ∀ n ∈ ns, 1 <= n /\ True) : (ns.length : Int) <= ns.sum := by
  induction ns with
  | nil => simp
  | cons n ns ih =>
    have a := (h n List.mem_cons_self).1
    have b := ih fun m hm => h m (List.mem_cons_of_mem _ hm)
    rw [List.sum_cons, List.length_cons]
    push_cast
    omega
theorem ok_Stage___init__ {n : Nat} {f : Addr} {fd : FuncData} (F : Fun K "__init__" "Stage.__init__" (inClass (top 29) 0) f fd) {c : Cs} (ck : CK K c) {cSt fStI : Addr} {fdStI : FuncData} (g_Stand : mg "Stand" = some (.ref cSt)) (mS_i : ClsM K cSt "__init__" fStI) (G_StI : FnOk P w K mg base CX0 n fStI fdStI ["self", "end_count", "stage_count", "level", "cap_rows"] (spStI c)) (b_StI : Binds K fdStI ["self", "end_count", "stage_count", "level", "cap_rows"] []) (cfE : Cls K c.e) (cfS : Cls K c.s) {f_ends : Addr} {fd_ends : FuncData} (m_Ee : Meth K c.e "ends" f_ends) (m_Se : Meth K c.s "ends" f_ends) (G_ends : FnOk P w K mg base CX0 n f_ends fd_ends ["self"] (spEnds c)) (b_ends : Binds K fd_ends ["self"] []) {f_stgs : Addr} {fd_stgs : FuncData} (m_Eg : Meth K c.e "stages" f_stgs) (m_Sg : Meth K c.s "stages" f_stgs) (G_stgs : FnOk P w K mg base CX0 n f_stgs fd_stgs ["self"] (spStgs c)) (b_stgs : Binds K fd_stgs ["self"] []) {f_caps : Addr} {fd_caps : FuncData} (m_Ec : Meth K c.e "caps" f_caps) (m_Sc : Meth K c.s "caps" f_caps) (G_caps : FnOk P w K mg base CX0 n f_caps fd_caps ["self"] (spCaps c)) (b_caps : Binds K fd_caps ["self"] []) {g_capped : Addr} {gd_capped : FuncData} (c_capped : Cal P w K mg base n "capped" ["table", "level"] (spCap2 Pt lamP) g_capped gd_capped) {g_level_for : Addr} {gd_level_for : FuncData} (c_level_for : Cal P w K mg base n "level_for" ["table", "price"] spLF2 g_level_for gd_level_for) {g_mixed : Addr} {gd_mixed : FuncData} (c_mixed : Cal P w K mg base n "mixed" ["rows"] (spMix2 Pt lamP) g_mixed gd_mixed) {g_is_stage_rows : Addr} {gd_is_stage_rows : FuncData} (c_is_stage_rows : Cal P w K mg base n "is_stage_rows" ["rows"] (spIsRows c) g_is_stage_rows gd_is_stage_rows) {g_is_whole : Addr} {gd_is_whole : FuncData} (c_is_whole : Cal P w K mg base n "is_whole" ["thing", "least", "most"] spIsW g_is_whole gd_is_whole) (z_tuple : mg "tuple" = none) (z_max : mg "max" = none) (z_sum : mg "sum" = none) {u_MOST_STAGES : Value} (g_MOST_STAGES : mg "MOST_STAGES" = some u_MOST_STAGES) (r_MOST_STAGES : RelV (.int 4) u_MOST_STAGES) {u_MOST_ENDS : Value} (g_MOST_ENDS : mg "MOST_ENDS" = some u_MOST_ENDS) (r_MOST_ENDS : RelV (.int 12) u_MOST_ENDS) {u_MOST_PRICE : Value} (g_MOST_PRICE : mg "MOST_PRICE" = some u_MOST_PRICE) (r_MOST_PRICE : RelV (.int 1000000000) u_MOST_PRICE) : FnOk P w K mg base CX0 (n + 1) f fd ["self", "price", "rows"] (spSI c Pt lamP) := by
  refine F.ok sc_Stage___init__ (fun vs H Q E h => ?_) (fun cdv A outer s H vs Q E hr h => ?_)
  · obtain ⟨x, dx, a, p, ps, ys, rs, d, m, j, rfl, _⟩ := h
    rfl
  obtain ⟨x, dx, a, p, ps, ys, rs, d, m, j, rfl, hx, ha, R, p0, p9, ne, l4, ww, hm, m12, d4, hTb, q⟩ := h
  have nd := sc_Stage___init__.nd
  refine ⟨_, (pss_cons (ps_if (PW.pt (pw_or (pt_not (pt_val (pe_callC c_is_whole hr (pa_cons (pv 1) (pa_cons pe_int (pa_cons (pe_glob (v := .int 1000000000) rfl g_MOST_PRICE r_MOST_PRICE) pa_nil)))))) (pw_or1 (pt_not (pt_val (pe_callC c_is_stage_rows hr (pa_cons (pv 2) pa_nil))))))) (pss_one ps_never) pss_nil) (pss_cons (ps_set (i := 3) nd rfl (Or.inl rfl) (pe_callB (call_sum rfl) rfl z_sum bt_sum (pa_cons (pe_comp (ls := ["weight", "stand"]) (M := ["self", "price", "rows", "end_count", "stage_count", "behind", "level"]) rfl (CompOk.of (by rfl)) (NL.of (by rfl)) (pi_list (pv 2)) (fun _ _ _ _ => ⟨(pg_tupK (K := K) (n := 2) rfl rfl (pgs_cons (pg_name (i := 0) (nd_of (by rfl)) rfl (Or.inl rfl)) (pgs_cons (pg_name (i := 1) (nd_of (by rfl)) rfl (Or.inl rfl)) pgs_nil))), pts_nil, (pe_either (pe_meth0 (pv 1) cfE m_Ee G_ends hr b_ends .nil pass0) (pe_meth0 (pv 1) cfS m_Se G_ends hr b_ends .nil pass0))⟩)) pa_nil))) (pss_cons (ps_set (i := 4) nd rfl (Or.inl rfl) (pe_op op_add pe_int (pe_callB (call_maxL rfl) rfl z_max bt_max (pa_cons (pe_comp (ls := ["weight", "stand"]) (M := ["self", "price", "rows", "end_count", "stage_count", "behind", "level"]) rfl (CompOk.of (by rfl)) (NL.of (by rfl)) (pi_list (pv 2)) (fun _ _ _ _ => ⟨(pg_tupK (K := K) (n := 2) rfl rfl (pgs_cons (pg_name (i := 0) (nd_of (by rfl)) rfl (Or.inl rfl)) (pgs_cons (pg_name (i := 1) (nd_of (by rfl)) rfl (Or.inl rfl)) pgs_nil))), pts_nil, (pe_either (pe_meth0 (pv 1) cfE m_Eg G_stgs hr b_stgs .nil pass0) (pe_meth0 (pv 1) cfS m_Sg G_stgs hr b_stgs .nil pass0))⟩)) pa_nil)))) (pss_cons (ps_if (PW.pt (pw_or (pt_cmpR op_gt (pv 3) (pe_glob (v := .int 12) rfl g_MOST_ENDS r_MOST_ENDS) (nomark _)) (pw_or1 (pt_cmpR op_gt (pv 4) (pe_glob (v := .int 4) rfl g_MOST_STAGES r_MOST_STAGES) (nomark _))))) (pss_one ps_never) pss_nil) (pss_cons (ps_set (i := 5) nd rfl (Or.inl rfl) (pe_callC c_mixed hr (pa_cons (pe_comp (ls := ["weight", "stand"]) (M := ["self", "price", "rows", "end_count", "stage_count", "behind", "level"]) rfl (CompOk.of (by rfl)) (NL.of (by rfl)) (pi_list (pv 2)) (fun _ _ _ _ => ⟨(pg_tupK (K := K) (n := 2) rfl rfl (pgs_cons (pg_name (i := 0) (nd_of (by rfl)) rfl (Or.inl rfl)) (pgs_cons (pg_name (i := 1) (nd_of (by rfl)) rfl (Or.inl rfl)) pgs_nil))), pts_nil, (pe_tup (pa_cons (pv 0) (pa_cons (pe_either (pe_meth0 (pv 1) cfE m_Ec G_caps hr b_caps .nil pass0) (pe_meth0 (pv 1) cfS m_Sc G_caps hr b_caps .nil pass0)) pa_nil)))⟩)) pa_nil))) (pss_cons (ps_set (i := 6) nd rfl (Or.inl rfl) (pe_callC c_level_for hr (pa_cons (pv 5) (pa_cons (pv 1) pa_nil)))) (pss_cons (ps_expr (pe_clsm rfl g_Stand mS_i G_StI hr b_StI .nil pass0 (pa_cons (pv 0) (pa_cons (pv 3) (pa_cons (pv 4) (pa_cons (pv 6) (pa_cons (pe_callC c_capped hr (pa_cons (pv 5) (pa_cons (pv 6) pa_nil))) pa_nil))))))) (pss_cons (ps_fld (pv 0) (pv 1) rfl) (pss_one (ps_fld (pv 0) (pe_callTy (call_tuple_ofK (K := K) rfl) rfl z_tuple bt_tuple (pa_cons (pv 2) pa_nil)) rfl)))))))))), ?_⟩
  have hl : (ps.map V.ref).length = rs.length := by rw [List.length_map]; exact R.lp
  have n1 : 1 <= rs.length := List.length_pos_iff.mpr ne
  refine ⟨_, rfl, p, 0, 1000000000, rfl, p0, p9, ?_⟩
  refine ⟨_, rfl, ?_⟩
  refine iteF ?_
  refine ⟨_, rfl, a, ps, ys, rs, d, j, rfl, ha, R, ne, l4, ww, fun H1 s1 => ?_⟩
  refine ⟨_, rfl, ?_⟩
  refine iteF ?_
  have R1 := R.kp (Same.kp s1)
  have ha1 := s1 _ _ ha
  refine ⟨_, rfl, a, rfl, ⟨_, SqL.of ha1⟩, fun D hD => ?_⟩
  refine comp_list (xs := ps.map V.ref) (fun i τ H' => ∃ v0 v1 cs, τ = [v0, v1, some (.ref x), some (.int p), some (.ref a), none, none, none, none] /\ Same H1 H' /\ H' D = some (.lst (Is cs)) /\ cs = (rs.take i).map (fun t => Sd.nE (d + 1) t.2) /\ ∀ n ∈ cs, 1 <= n /\ True) ⟨none, none, [], rfl, same_new hD _, upd_same, rfl, fun _ h => nomatch h⟩ ?keepA ?turnA ?doneA
  case keepA =>
    rintro i τ H' hi ⟨v0, v1, cs, rfl, hs, _⟩
    exact SqL.of (hs _ _ ha1)
  case turnA =>
    rintro i mm v τ H' hm hi hv ⟨v0, v1, cs, rfl, hs, hD', nl, hn⟩
    obtain ⟨q1, y, t, _, _, er, rfl, h1, st, mem⟩ := R1.at_ hv
    refine ⟨q1, _, rfl, SqT.of (hs _ _ h1), rfl, _, _, rfl, _, _, rfl, rfl, ?_⟩
    refine tyes_if ?_
    refine meth2 (st.same hs) (fun _ _ _ _ _ => rfl) (fun _ _ _ _ _ _ => rfl) (fun R h => ⟨_, rfl, h⟩) ?_
    refine ⟨y, t.2, d, _, rfl, st.same hs, fun n n1 n2 n3 => ?_⟩
    refine comp_next hm hi hD' (by rw [is_length, nl, List.length_map]; exact small1000 (Nat.le_trans (List.length_take_le _ _) (by rw [hl] at hi; omega))) ⟨_, _, cs ++ [n], rfl, hs.upd_new hD _, by rw [upd_same, is_snoc], by rw [nl, take_snoc er, List.map_append, n3]; rfl, fun z hz => ?_⟩
    rcases List.mem_append.mp hz with u | u
    · exact hn z u
    · rw [List.mem_singleton.mp u]
      exact ⟨n1, trivial⟩
  case doneA =>
  rintro τ H2 ⟨v0, v1, ns, rfl, s2, hD2, nl, hn⟩
  have nx0 := nl
  rw [hl, List.take_length] at nx0
  have nl : ns.length = rs.length := by rw [nx0, List.length_map]
  have sn := sum_ge hn
  have okS : Sd.Ok (.st p rs) (d + 1) m := .st p0 p9 ne l4 ww (fun r hr => by obtain ⟨i, y, a, b⟩ := at_len R.ly hr; exact (R.sub i y r a b).ok) hm
  have jl : ns.sum <= (m : Int) := by have := okS.nE (d + 1 + 1) (Nat.lt_succ_self _); rw [nx0]; exact this
  refine ⟨D, ns, rfl, SqL.of hD2, ?_⟩
  have R2 := R1.kp (Same.kp s2)
  have ha2 := s2 _ _ ha1
  refine ⟨_, rfl, a, rfl, ⟨_, SqL.of ha2⟩, fun D2 hD2 => ?_⟩
  refine comp_list (xs := ps.map V.ref) (fun i τ H' => ∃ v0 v1 cs, τ = [v0, v1, some (.ref x), some (.int p), some (.ref a), some (.int ns.sum), none, none, none] /\ Same H2 H' /\ H' D2 = some (.lst (Is cs)) /\ cs = (rs.take i).map (fun t => Sd.nS (d + 1) t.2) /\ ∀ n ∈ cs, 0 <= n /\ n <= (d : Int)) ⟨none, none, [], rfl, same_new hD2 _, upd_same, rfl, fun _ h => nomatch h⟩ ?keepB ?turnB ?doneB
  case keepB =>
    rintro i τ H' hi ⟨v0, v1, cs, rfl, hs, _⟩
    exact SqL.of (hs _ _ ha2)
  case turnB =>
    rintro i mm v τ H' hm hi hv ⟨v0, v1, cs, rfl, hs, hD', nl, hn⟩
    obtain ⟨q1, y, t, _, _, er, rfl, h1, st, mem⟩ := R2.at_ hv
    refine ⟨q1, _, rfl, SqT.of (hs _ _ h1), rfl, _, _, rfl, _, _, rfl, rfl, ?_⟩
    refine tyes_if ?_
    refine meth2 (st.same hs) (fun _ _ _ _ _ => rfl) (fun _ _ _ _ _ _ => rfl) (fun R h => ⟨_, rfl, h⟩) ?_
    refine ⟨y, t.2, d, _, rfl, st.same hs, fun n n1 n2 n3 => ?_⟩
    refine comp_next hm hi hD' (by rw [is_length, nl, List.length_map]; exact small1000 (Nat.le_trans (List.length_take_le _ _) (by rw [hl] at hi; omega))) ⟨_, _, cs ++ [n], rfl, hs.upd_new hD2 _, by rw [upd_same, is_snoc], by rw [nl, take_snoc er, List.map_append, n3]; rfl, fun z hz => ?_⟩
    rcases List.mem_append.mp hz with u | u
    · exact hn z u
    · rw [List.mem_singleton.mp u]
      exact ⟨n1, n2⟩
  case doneB =>
  rintro τ H3 ⟨v0, v1, ms, rfl, s3, hD3, ml, hms⟩
  have kx0 := ml
  rw [hl, List.take_length] at kx0
  have ml : ms.length = rs.length := by rw [kx0, List.length_map]
  refine ⟨D2, ms, rfl, SqL.of hD3, fun e => by rw [e] at ml; have : (0 : Nat) = rs.length := ml; omega, fun mx hmx hmax => ?_⟩
  have kx1 : 1 + mx = Sd.nS (d + 1 + 1) (.st p rs) := by rw [Sd.mxL_of (fun x hx => (hms x hx).1) hmx hmax, kx0]; rfl
  have nx1 : ns.sum = Sd.nE (d + 1 + 1) (.st p rs) := by rw [nx0]; rfl
  have mb := hms mx hmx
  refine ⟨_, _, rfl, rfl, ?_⟩
  refine ⟨_, rfl, _, _, rfl, rfl, _, rfl, ?_⟩
  refine ifF (decide_eq_false (by omega)) ?_
  refine ⟨_, rfl, _, _, rfl, rfl, _, rfl, ?_⟩
  refine ifF (decide_eq_false (by omega)) ?_
  have s13 := (s1.trans s2).trans s3
  have R3 := R2.kp (Same.kp s3)
  have ha3 := s3 _ _ ha2
  refine ⟨_, rfl, a, rfl, ⟨_, SqL.of ha3⟩, fun D3 hD3n => ?_⟩
  refine comp_list (xs := ps.map V.ref) (fun i τ H' => ∃ v0 v1 es, τ = [v0, v1, some (.ref x), some (.int p), some (.ref a), some (.int ns.sum), some (.int (1 + mx)), none, none] /\ Same H3 H' /\ EntsAt H' D3 es /\ Sd.Al d es (rs.take i) /\ Ae d j es (rs.take i) /\ es.length = i /\ ∀ e ∈ es, e.a ≠ D3 /\ (1 <= e.w /\ e.w <= 1000)) ⟨none, none, [], rfl, same_new hD3n _, ⟨upd_same, fun _ h => nomatch h⟩, .nil, .nil, rfl, fun _ h => nomatch h⟩ ?keepC ?turnC ?doneC
  case keepC =>
    rintro i τ H' hi ⟨v0, v1, es, rfl, hs, _⟩
    exact SqL.of (hs _ _ ha3)
  case turnC =>
    rintro i mm v τ H' hm' hi hv ⟨v0, v1, es, rfl, hs, hE, al, ae, el, he⟩
    obtain ⟨q1, y, t, _, _, er, rfl, h1, st, mem⟩ := R3.at_ hv
    refine ⟨q1, _, rfl, SqT.of (hs _ _ h1), rfl, _, _, rfl, _, _, rfl, rfl, ?_⟩
    refine tyes_if ?_
    refine ⟨_, rfl, ?_⟩
    refine meth2 (st.same hs) (fun _ _ _ _ _ => rfl) (fun _ _ _ _ _ _ => rfl) (fun R h => ⟨_, rfl, h⟩) ?_
    refine ⟨y, t.2, d, _, rfl, st.same hs, fun r H4 xs s4 hr4 hT4 gs so ⟨lv4, mt4, _⟩ => ?_⟩
    refine ⟨sz2, fun T hT => ?_⟩
    have n5 := same_new hT (.tup [.int t.1, .ref r])
    have hE5 := (hE.same s4).same n5
    have nr : r ≠ D3 := fun e => by rw [e, hE.lst] at hr4; cases hr4
    refine comp_next hm' hi hE5.lst (by rw [erefs_length]; exact small1000 (by rw [hl] at hi; omega)) ⟨_, _, es ++ [⟨T, t.1, r, xs⟩], rfl, ((hs.trans s4).trans n5).upd_new hD3n _, ⟨by rw [upd_same, erefs_snoc], fun e h => ?_⟩, by rw [take_snoc er]; exact al.snoc rfl ⟨lv4, mt4⟩, by rw [take_snoc er]; exact ae.snoc gs, by rw [List.length_append, el]; rfl, fun e h => ?_⟩
    · rcases List.mem_append.mp h with u | u
      · exact ent_upd hE5.lst (he e u).1 (hE5.ents e u)
      · rw [List.mem_singleton.mp u]
        exact ent_upd hE5.lst nr ⟨upd_same, hT4.same n5⟩
    · rcases List.mem_append.mp h with u | u
      · exact he e u
      · rw [List.mem_singleton.mp u]
        exact ⟨nr, ww t mem⟩
  case doneC =>
  rintro τ H4 ⟨v0, v1, es, rfl, s4, hE, al, ae, el, he⟩
  rw [hl, List.take_length] at al ae
  rw [hl] at el
  have ene : es ≠ [] := fun e => by rw [e] at el; have : (0 : Nat) = rs.length := el; omega
  have gall := ae.all fun t ht => Nat.le_trans (Sd.f_le hm t ht) m12
  have gm0 := gm_of (show d <= 4 by omega) ene (by omega) (fun e h => (he e h).2) gall
  have m1 : 1 <= m := okS.m1
  have tb4 : TbOk Pt lamP lamQ H4 := hTb.same (s13.trans s4)
  refine ⟨D3, es, 12, wB d 12, kK d, rfl, hE, gm0, tb4, fun B H5 xs s5 tb5 _ hB5 g5 o5 l5 => ?_⟩
  have Mx1 := mx_of ae.b hm m1 (Nat.le_trans l5 (ae.b.p _)) g5
  refine ⟨_, rfl, _, rfl, B, xs, p, m, _, kK d, rfl, hB5, Mx1.g, Mx1.cp d4 m12, o5.tab.lt, p0, p9, fun lv H6 l u s6 hl6 u1 u2 f hLv => ?_⟩
  have Lx1 := lx_of Mx1 d4 m12 p0 p9 u1 u2 f
  have tb6 := tb5.same s6
  refine ⟨_, rfl, _, rfl, _, rfl, _, rfl, _, rfl, _, rfl, B, lv, xs, l, m, _, _, _, rfl, hB5.same s6, Lx1.g, Lx1.c, hl6, Lx1.f, tb6, fun cr H7 zs s7 tb7 _ hZ g7 o7 => ?_⟩
  have sT : SameT Pt H H7 := ((((s13.trans s4).toT).trans s5).trans s6.toT).trans s7
  have hx7 : H7 x = some (.ins c.s dx []) := sT.get hTb hx fun _ z => nomatch z
  have ha7 : H7 a = some (.lst (ps.map V.ref)) := sT.get hTb ha fun _ z => nomatch z
  have hl7 : H7 lv = some (.tup [.int l.1, .int l.2]) := s7.get tb6 hl6 fun _ z => nomatch z
  have nax : a ≠ x := ne_of ha7 hx7 fun z => nomatch z
  refine ⟨x, dx, c.s, lv, cr, ns.sum, 1 + mx, zs, rfl, .inr rfl, hx7, hZ, fun cp H8 cn k8 hx8 hc8 => ?_⟩
  have ncx : cp ≠ x := fun e => by rw [e, hx8] at hc8; cases hc8
  refine ⟨_, rfl, _, rfl, x, c.s, dx, _, rfl, hx8, ck.cs, ck.s5, (by show 4 < 1000; decide), ?_⟩
  refine ⟨_, rfl, a, _, rfl, .inl ⟨SqL.of (by rw [upd_ne nax]; exact k8 _ _ nax ha7), fun r hr0 => ?_⟩⟩
  have nrx : r ≠ x := fun e => by rw [e, upd_same] at hr0; cases hr0
  refine ⟨_, rfl, x, c.s, dx, _, rfl, by rw [upd_ne (Ne.symm nrx)]; exact upd_same, ck.cs, ck.s6, (by show 5 < 1000; decide), ?_⟩
  rw [upd_ne nrx] at hr0
  have kx : ∀ b o, b ≠ x -> H8 b = some o -> upd (upd (upd H8 x (.ins c.s dx (putF "price" (.int p) (fB ns.sum (1 + mx) lv cp)))) r (.tup (ps.map V.ref))) x (.ins c.s dx (fS ns.sum (1 + mx) lv cp p r)) b = some o := fun b o nb e => by
    rw [upd_ne nb, upd_ne (ne_of_none e hr0), upd_ne nb]
    exact e
  have hr9 : upd (upd (upd H8 x (.ins c.s dx (putF "price" (.int p) (fB ns.sum (1 + mx) lv cp)))) r (.tup (ps.map V.ref))) x (.ins c.s dx (fS ns.sum (1 + mx) lv cp p r)) r = some (.tup (ps.map V.ref)) := by rw [upd_ne nrx]; exact upd_same
  have hx9 : upd (upd (upd H8 x (.ins c.s dx (putF "price" (.int p) (fB ns.sum (1 + mx) lv cp)))) r (.tup (ps.map V.ref))) x (.ins c.s dx (fS ns.sum (1 + mx) lv cp p r)) x = some (.ins c.s dx (fS ns.sum (1 + mx) lv cp p r)) := upd_same
  show Q .non (upd (upd (upd H8 x (.ins c.s dx (putF "price" (.int p) (fB ns.sum (1 + mx) lv cp)))) r (.tup (ps.map V.ref))) x (.ins c.s dx (fS ns.sum (1 + mx) lv cp p r)))
  generalize upd (upd (upd H8 x (.ins c.s dx (putF "price" (.int p) (fB ns.sum (1 + mx) lv cp)))) r (.tup (ps.map V.ref))) x (.ins c.s dx (fS ns.sum (1 + mx) lv cp p r)) = HF at kx hr9 hx9 ⊢
  have sX : SameX x H7 HF := fun b o nb e => kx b o nb (k8 b o nb e)
  have kF : Kp H7 HF := sX.kp hx7
  have RF := R.kp ((SameT.kp sT hTb).trans kF)
  refine q HF (fun b o nb nP e => sX b o nb (sT b o nP e)) (TbOk.sameX tb7 sX hx7) ?_
  exact .st hx9 ⟨kF.tup hl7, ⟨kx _ _ ncx hc8, fun y hy => (hZ.rows y hy).kp kF⟩, gs_of Lx1 g7, o7.tab.lt, by omega, by omega, by omega, by omega, al_mt al gm0 (by have := (Sd.wt_pos ne ww l4).1; omega) o5 Mx1.g Lx1.f.fr.pos hLv o7, lw_of Lx1 d4 m12, nx1, kx1⟩ hr9 RF.lp RF.ly RF.row RF.sub p0 p9 ne l4 ww hm
theorem rw_at {c : Cs} {H : Hp} {ps ys : List Addr} {rs : List (Int × Sd.Sd)} {d i : Nat} {j : Int × Sd.Sd -> Nat} {t : Int × Sd.Sd} (R : RwAt c H ps ys rs d j) (h : rs[i]? = some t) : ∃ q y, (ps.map V.ref)[i]? = some (.ref q) /\ H q = some (.tup [.int t.1, .ref y]) /\ StAt c H y t.2 d (j t) := by
  have hi := (List.getElem?_eq_some_iff.mp h).1
  have l1 := R.lp
  have l2 := R.ly
  have ep : ps[i]? = some (ps[i]'(by omega)) := List.getElem?_eq_getElem _
  have ey : ys[i]? = some (ys[i]'(by omega)) := List.getElem?_eq_getElem _
  exact ⟨_, _, by rw [List.getElem?_map, ep]; rfl, R.row i _ _ _ ep ey h, R.sub i _ _ ey h⟩
theorem ok_Stage_after {n : Nat} {f : Addr} {fd : FuncData} (F : Fun K "after" "Stage.after" (inClass (top 29) 3) f fd) {c : Cs} (ck : CK K c) : FnOk P w K mg base CX0 (n + 1) f fd ["self", "row"] (spAf c) := by
  refine F.ok sc_Stage_after (fun vs H Q E h => ?_) (fun cdv A outer s H vs Q E hr h => ?_)
  · obtain ⟨x, p, rs, d, m, i, t, rfl, _⟩ := h
    rfl
  obtain ⟨x, p, rs, d, m, i, t, rfl, st, ht, q⟩ := h
  have nd := sc_Stage_after.nd
  refine ⟨_, (pss_one (ps_ret (pe_ix ix_tup (pe_ix ix_tup (pe_fld (pv 0) rfl) (pv 1) (fun _ _ => rfl)) pe_int (fun _ _ => rfl)))), ?_⟩
  cases st with
  | @st _ dx l cp r _ n' k' lv _ _ j xs _ ps ys h vv g lp ly row sub p0 p9 ne l4 w hk =>
    obtain ⟨q0, y, e1, e2, e3⟩ := rw_at ⟨lp, ly, row, sub⟩ ht
    exact ⟨_, rfl, x, c.s, dx, _, _, rfl, h, ck.cs, ck.s6, rfl, _, rfl, r, _, _, _, rfl, rfl, SqT.of g, atI_nat e1, q0, _, _, _, rfl, rfl, SqT.of e2, rfl, q y _ (Sd.f_le hk t (List.mem_of_getElem? ht)) e3⟩
theorem ok_Stage_row_share {n : Nat} {f : Addr} {fd : FuncData} (F : Fun K "row_share" "Stage.row_share" (inClass (top 29) 2) f fd) {c : Cs} (ck : CK K c) {g_share : Addr} {gd_share : FuncData} (c_share : Cal P w K mg base n "share" ["top", "bottom"] spShare g_share gd_share) (z_sum : mg "sum" = none) : FnOk P w K mg base CX0 (n + 1) f fd ["self", "row"] (spRS c) := by
  refine F.ok sc_Stage_row_share (fun vs H Q E h => ?_) (fun cdv A outer s H vs Q E hr h => ?_)
  · obtain ⟨x, p, rs, d, m, i, t, rfl, _⟩ := h
    rfl
  obtain ⟨x, p, rs, d, m, i, t, rfl, st, ht, q⟩ := h
  have nd := sc_Stage_row_share.nd
  refine ⟨_, (pss_one (ps_ret (pe_callC c_share hr (pa_cons (pe_ix ix_tup (pe_ix ix_tup (pe_fld (pv 0) rfl) (pv 1) (fun _ _ => rfl)) pe_int (fun _ _ => rfl)) (pa_cons (pe_callB (call_sum rfl) rfl z_sum bt_sum (pa_cons (pe_comp (ls := ["weight", "stand"]) (M := ["self", "row"]) rfl (CompOk.of (by rfl)) (NL.of (by rfl)) (pi_tup (pe_fld (pv 0) rfl)) (fun _ _ _ _ => ⟨(pg_tupK (K := K) (n := 2) rfl rfl (pgs_cons (pg_name (i := 0) (nd_of (by rfl)) rfl (Or.inl rfl)) (pgs_cons (pg_name (i := 1) (nd_of (by rfl)) rfl (Or.inl rfl)) pgs_nil))), pts_nil, (pv 0)⟩)) pa_nil)) pa_nil))))), ?_⟩
  cases st with
  | @st _ dx l cp r _ n' k' lv _ _ j xs _ ps ys h vv g lp ly row sub p0 p9 ne l4 w hk =>
    have R : RwAt c H ps ys rs _ _ := ⟨lp, ly, row, sub⟩
    have hl : (ps.map V.ref).length = rs.length := by rw [List.length_map]; exact lp
    obtain ⟨q0, y, e1, e2, e3⟩ := rw_at R ht
    refine ⟨_, rfl, x, c.s, dx, _, _, rfl, h, ck.cs, ck.s6, rfl, _, rfl, r, _, _, _, rfl, rfl, SqT.of g, atI_nat e1, q0, _, _, _, rfl, rfl, SqT.of e2, rfl, ?_⟩
    refine ⟨_, rfl, x, c.s, dx, _, _, rfl, h, ck.cs, ck.s6, rfl, r, rfl, ⟨_, SqT.of g⟩, fun D hD => ?_⟩
    refine comp_tup (xs := ps.map V.ref) (fun u τ H' => ∃ v0 v1, τ = [v0, v1, some (.ref x), some (.int (i : Int))] /\ Same H H' /\ H' D = some (.lst (Is ((rs.take u).map (·.1))))) ⟨none, none, rfl, same_new hD _, upd_same⟩ ?keep ?turn ?done
    case keep =>
      rintro u τ H' hi ⟨v0, v1, rfl, hs, _⟩
      exact SqT.of (hs _ _ g)
    case turn =>
      rintro u mm v τ H' hm hi hv ⟨v0, v1, rfl, hs, hD'⟩
      obtain ⟨q1, y1, t1, _, _, er, rfl, h1, st1, mem⟩ := R.at_ hv
      refine ⟨q1, _, rfl, SqT.of (hs _ _ h1), rfl, _, _, rfl, _, _, rfl, rfl, ?_⟩
      refine tyes_if ?_
      refine ⟨_, rfl, ?_⟩
      refine comp_next hm hi hD' (by rw [is_length, List.length_map]; exact small1000 (Nat.le_trans (List.length_take_le _ _) (by omega))) ⟨_, _, rfl, hs.upd_new hD _, ?_⟩
      rw [upd_same, take_snoc er, List.map_append]
      show _ = some (HO.lst (Is (_ ++ [t1.1])))
      rw [is_snoc]
    case done =>
      rintro τ H' ⟨v0, v1, rfl, hs, hD'⟩
      rw [hl, List.take_length] at hD'
      refine ⟨D, _, rfl, SqL.of hD', ?_⟩
      have wt := Sd.wt_pos ne w l4
      have wz : intBits (Sd.wtot rs) <= 4000 := bits_of (k := 4000) (by have := Sd.pow_pos2 4000; omega) (Int.lt_of_le_of_lt wt.2 (by decide +kernel))
      exact ⟨t.1, Sd.wtot rs, rfl, by omega, Nat.le_trans wz (by decide), fun r2 H2 s2 h2 => q r2 H2 (hs.trans s2) h2⟩
theorem mod_in (x : Int) {m : Int} (h : 0 < m) : 0 <= x % m /\ x % m < m := ⟨Int.emod_nonneg x (Int.ne_of_gt h), Int.emod_lt_of_pos x h⟩
def spNo : Sp := fun _ _ _ _ => False
theorem no_fn {f : Addr} {fd : FuncData} {ps : List Str} {sp : Sp} (h : ∀ vs H Q E, ¬ sp vs H Q E) (m : Nat) : FnOk P w K mg base CX0 m f fd ps sp := ⟨fun vs H Q E z => absurd z (h vs H Q E), fun A outer s H args us vs Q E _ _ _ _ z => absurd z (h vs H Q E)⟩
theorem ok__law_cell_at {n : Nat} {f : Addr} {fd : FuncData} (F : Fun K "_law_cell_at" "_law_cell_at" (top 34) f fd) (z_len : mg "len" = none) : FnOk P w K mg base CX0 (n + 1) f fd ["_law_script", "_law_k"] (spCA1 K) := by
  refine F.ok sc__law_cell_at (fun vs H Q E h => ?_) (fun cdv A outer s H vs Q E hr h => ?_)
  · obtain ⟨a, ns, i, rfl, _⟩ := h
    rfl
  obtain ⟨a, ns, i, rfl, hS, i0, q⟩ := h
  have nd := sc__law_cell_at.nd
  refine ⟨_, (pss_cons (ps_if (pt_cmpR op_lt (pv 1) (pe_callB call_len_seq rfl z_len bt_len (pa_cons (pv 0) pa_nil)) (nomark _)) (pss_one (ps_ret (pe_ix ix_list (pv 0) (pv 1) (fun _ _ => rfl)))) pss_nil) (pss_one (ps_ret pe_int))), ?_⟩
  have hl : (ns.map V.int).length = ns.length := List.length_map _
  refine ⟨_, rfl, _, rfl, a, _, rfl, .inl hS, _, _, rfl, rfl, _, rfl, ?_⟩
  refine ite2 (fun c => ?_) (fun c => ?_)
  · have c' : i < (((ns.map V.int).length : Nat) : Int) := of_decide_eq_true c
    rw [hl] at c'
    exact ⟨_, rfl, _, rfl, a, _, _, _, rfl, rfl, hS, atI_ints i0 c', q _⟩
  · exact q _
theorem ok__law_mixed {n : Nat} {f : Addr} {fd : FuncData} (F : Fun K "_law_mixed" "_law_mixed" (top 35) f fd) : FnOk P w K mg base CX0 (n + 1) f fd ["_law_cell", "_law_k"] spMx1 := by
  refine F.ok sc__law_mixed (fun vs H Q E h => ?_) (fun cdv A outer s H vs Q E hr h => ?_)
  · obtain ⟨c, i, rfl, _⟩ := h
    rfl
  obtain ⟨c, i, rfl, i0, i9, q⟩ := h
  have nd := sc__law_mixed.nd
  refine ⟨_, (pss_cons (ps_set (i := 2) nd rfl (Or.inl rfl) (pe_op op_mod (pe_op op_add (pe_op op_add (pe_op op_mulB (pe_op op_mod (pv 0) pe_int) pe_int) (pe_op op_mul pe_int (pv 1))) pe_int) pe_int)) (pss_cons (ps_set (i := 2) nd rfl (Or.inl rfl) (pe_op op_mod (pe_op op_add (pe_op op_mulB (pv 2) (pv 2)) (pe_op op_mul pe_int (pv 1))) pe_int)) (pss_one (ps_ret (pe_op op_mod (pe_op op_mulB (pv 2) (pv 2)) pe_int))))), ?_⟩
  have b1 : ∀ x : Int, 0 <= x -> x < 2147483648 -> intBits x <= 64 := fun x h1 h2 => PySem.intBits_le_64 (by omega) (by omega)
  have m1 := mod_in c (show (0 : Int) < 2147483647 by decide)
  refine ⟨_, rfl, _, _, rfl, rfl, (by show (0 : Int) < 2147483647; decide), _, _, rfl, rfl, mulOk (b1 _ m1.1 (by omega)) (b1 48271 (by decide) (by decide)) (by decide), _, rfl, _, _, rfl, rfl, .inl ⟨by decide, by decide⟩, _, _, rfl, rfl, _, _, rfl, rfl, _, _, rfl, rfl, (by show (0 : Int) < 2147483647; decide), ?_⟩
  have n1 := mod_in (c % 2147483647 * 48271 + 7919 * i + 1) (show (0 : Int) < 2147483647 by decide)
  have nb := b1 _ n1.1 (Int.lt_trans n1.2 (by decide))
  refine ⟨_, rfl, _, rfl, _, _, rfl, rfl, mulOk nb nb (by decide), _, rfl, _, _, rfl, rfl, .inl ⟨by decide, by decide⟩, _, _, rfl, rfl, _, _, rfl, rfl, (by show (0 : Int) < 2147483629; decide), ?_⟩
  have k1 := mod_in (((c % 2147483647 * 48271 + 7919 * i + 1) % 2147483647) * ((c % 2147483647 * 48271 + 7919 * i + 1) % 2147483647) + 7 * i) (show (0 : Int) < 2147483629 by decide)
  have kb := b1 _ k1.1 (Int.lt_trans k1.2 (by decide))
  refine ⟨_, rfl, _, rfl, _, _, rfl, rfl, mulOk kb kb (by decide), _, _, rfl, rfl, (by show (0 : Int) < 2147483587; decide), ?_⟩
  exact q _ (Int.emod_nonneg _ (by decide)) (Int.emod_lt_of_pos _ (by decide))
theorem ok__law_low {n : Nat} {f : Addr} {fd : FuncData} (F : Fun K "_law_low" "_law_low" (top 38) f fd) (z_abs : mg "abs" = none) : FnOk P w K mg base CX0 (n + 1) f fd ["_law_top", "_law_bottom"] spLow := by
  refine F.ok sc__law_low (fun vs H Q E h => ?_) (fun cdv A outer s H vs Q E hr h => ?_)
  · obtain ⟨t, b, rfl, _⟩ := h
    rfl
  obtain ⟨t, b, rfl, hb, hz, q⟩ := h
  have nd := sc__law_low.nd
  refine ⟨_, (pss_cons (ps_set (i := 2) nd rfl (Or.inl rfl) (pe_callB call_abs rfl z_abs bt_abs (pa_cons (pv 0) pa_nil))) (pss_cons (ps_set (i := 3) nd rfl (Or.inl rfl) (pv 1)) (pss_cons (ps_while PassesOwn.never (pt_cmpR op_gt (pv 3) pe_int (nomark _)) (pss_one (ps_par (i := 2) (j := 3) rfl nd rfl rfl (by decide) rfl rfl (pa_cons (pv 3) (pa_cons (pe_op op_modN (pv 2) (pv 3)) pa_nil)) rfl))) (pss_one (ps_ret (pe_tup (pa_cons (pe_op op_fdivB (pv 0) (pv 2)) (pa_cons (pe_op op_fdivB (pv 1) (pv 2)) pa_nil)))))))), ?_⟩
  have hb0 : b ≠ 0 := Int.ne_of_gt hb
  have hdz : intBits (Fr.dv t b) <= 9000 := PySem.intBits_le_of_natAbs (by rw [Fr.dv_natAbs]; exact Int.gcd_le_natAbs_right t hb0) hz
  have hdn := Fr.dv_ne (t := t) hb0
  refine ⟨_, rfl, _, rfl, ?_⟩
  refine ⟨_, rfl, ?_⟩
  have e0 : Int.gcd (if t < 0 then -t else t) b = Int.gcd t b := by
    rw [Int.gcd_eq_natAbs_gcd_natAbs, Int.gcd_eq_natAbs_gcd_natAbs]
    congr 1
    split <;> omega
  have h1 : 0 <= (if t < 0 then -t else t) := by split <;> omega
  refine while_by (fun σ H' => ∃ x y, σ = [some (.int t), some (.int b), some (.int x), some (.int y)] /\ Int.gcd x y = Int.gcd t b /\ 0 <= x /\ 0 <= y /\ H' = H) (fun σ _ => match σ with | [_, _, _, some (.int y)] => y.natAbs | _ => 0) ⟨_, _, rfl, e0, h1, by omega, rfl⟩ (fun σ H' ⟨x, y, e, hg, x0, y0, eH⟩ => ?_) (fun σ H Q Q' hQ ⟨v, e, i, j, e1, e2, k, ek, q⟩ => ⟨v, e, i, j, e1, e2, k, ek, hQ _ _ q⟩)
  subst e eH
  refine ⟨_, rfl, _, _, rfl, rfl, _, rfl, ?_⟩
  by_cases hy : 0 < y
  · refine ifT (decide_eq_true hy) ?_
    refine ⟨_, rfl, _, rfl, _, rfl, x, y, rfl, rfl, Int.ne_of_gt hy, _, _, rfl, ?_⟩
    exact ⟨⟨y, x.fmod y, rfl, (Fr.gcd_turn x y).trans hg, y0, Int.fmod_nonneg_of_pos x hy, rfl⟩, Fr.fmod_less (Int.ne_of_gt hy)⟩
  · refine ifF (decide_eq_false hy) ?_
    have ey : y = 0 := by omega
    subst ey
    have e : x = Fr.dv t b := by
      unfold Fr.dv
      rw [if_neg (by omega), <- hg, Int.gcd_zero]
      omega
    subst e
    unfold Fr.sh at q
    refine ⟨_, rfl, _, rfl, _, _, rfl, rfl, ⟨hdn, hdz⟩, _, rfl, _, rfl, _, _, rfl, rfl, ⟨hdn, hdz⟩, sz2, fun p hp => ?_⟩
    exact q p _ (same_new hp _) upd_same
theorem ok__law_times {n : Nat} {f : Addr} {fd : FuncData} (F : Fun K "_law_times" "_law_times" (top 40) f fd) {g__law_low : Addr} {gd__law_low : FuncData} (c__law_low : Cal P w K mg base n "_law_low" ["_law_top", "_law_bottom"] spLow g__law_low gd__law_low) : FnOk P w K mg base CX0 (n + 1) f fd ["_law_one", "_law_other"] spTm := by
  refine F.ok sc__law_times (fun vs H Q E h => ?_) (fun cdv A outer s H vs Q E hr h => ?_)
  · obtain ⟨p, q, x, y, rfl, _⟩ := h
    rfl
  obtain ⟨p, q, x, y, rfl, hp, hq, z1, z2, k⟩ := h
  have nd := sc__law_times.nd
  refine ⟨_, (pss_one (ps_ret (pe_callC c__law_low hr (pa_cons (pe_op op_mulB (pe_ix ix_tup (pv 0) pe_int (fun _ _ => rfl)) (pe_ix ix_tup (pv 1) pe_int (fun _ _ => rfl))) (pa_cons (pe_op op_mulB (pe_ix ix_tup (pv 0) pe_int (fun _ _ => rfl)) (pe_ix ix_tup (pv 1) pe_int (fun _ _ => rfl))) pa_nil))))), ?_⟩
  refine ⟨_, rfl, p, _, _, _, rfl, rfl, (SqT.of hp), rfl, _, rfl, q, _, _, _, rfl, rfl, (SqT.of hq), rfl, _, _, rfl, rfl, mulOk z1.t z2.t (by decide), _, rfl, p, _, _, _, rfl, rfl, (SqT.of hp), rfl, _, rfl, q, _, _, _, rfl, rfl, (SqT.of hq), rfl, _, _, rfl, rfl, mulOk z1.b z2.b (by decide), _, _, rfl, Int.mul_pos z1.p z2.p, Nat.le_trans (PySem.intBits_mul_le z1.b z2.b) (by decide), k⟩
theorem ok__law_less {n : Nat} {f : Addr} {fd : FuncData} (F : Fun K "_law_less" "_law_less" (top 41) f fd) : FnOk P w K mg base CX0 (n + 1) f fd ["_law_one", "_law_other"] spLess := by
  refine F.ok sc__law_less (fun vs H Q E h => ?_) (fun cdv A outer s H vs Q E hr h => ?_)
  · obtain ⟨p, q, x, y, rfl, _⟩ := h
    rfl
  obtain ⟨p, q, x, y, rfl, hp, hq, z1, z2, k⟩ := h
  have nd := sc__law_less.nd
  refine ⟨_, (pss_one (ps_ret (pe_cmpR op_lt (pe_op op_mulB (pe_ix ix_tup (pv 0) pe_int (fun _ _ => rfl)) (pe_ix ix_tup (pv 1) pe_int (fun _ _ => rfl))) (pe_op op_mulB (pe_ix ix_tup (pv 1) pe_int (fun _ _ => rfl)) (pe_ix ix_tup (pv 0) pe_int (fun _ _ => rfl))) (nomark _)))), ?_⟩
  exact ⟨_, rfl, p, _, _, _, rfl, rfl, (SqT.of hp), rfl, _, rfl, q, _, _, _, rfl, rfl, (SqT.of hq), rfl, _, _, rfl, rfl, mulOk z1.t z2.b (by decide), _, rfl, q, _, _, _, rfl, rfl, (SqT.of hq), rfl, _, rfl, p, _, _, _, rfl, rfl, (SqT.of hp), rfl, _, _, rfl, rfl, mulOk z2.t z1.b (by decide), _, _, rfl, rfl, k⟩
theorem ok__law_row {n : Nat} {f : Addr} {fd : FuncData} (F : Fun K "_law_row" "_law_row" (top 42) f fd) {g__law_mixed : Addr} {gd__law_mixed : FuncData} (c__law_mixed : Cal P w K mg base n "_law_mixed" ["_law_cell", "_law_k"] spMx1 g__law_mixed gd__law_mixed) (z_range : mg "range" = none) : FnOk P w K mg base CX0 (n + 1) f fd ["_law_cell", "_law_bit", "_law_many"] spRow1 := by
  refine F.ok sc__law_row (fun vs H Q E h => ?_) (fun cdv A outer s H vs Q E hr h => ?_)
  · obtain ⟨c, b, n, rfl, _⟩ := h
    rfl
  obtain ⟨c, b, n, rfl, rfl, q⟩ := h
  have nd := sc__law_row.nd
  refine ⟨_, (pss_cons (ps_set (i := 3) nd rfl (Or.inl rfl) (pe_lst pa_nil)) (pss_cons (ps_for PassesOwn.never rfl (pi_range1 rfl z_range (pa_cons (pv 2) pa_nil)) (pg_name (i := 4) nd rfl (Or.inl rfl)) (pss_one (ps_if (pt_cmpR op_eq (pe_op op_mod (pv 1) pe_int) pe_int (nomark _)) (pss_cons (ps_expr (pe_bm PySem.F.plainAttrs_list PySem.F.slot_list_append PySem.F.type_list_append mt_append (pv 3) (pa_cons (pe_op op_mod (pv 0) pe_int) pa_nil))) (pss_one (ps_set (i := 0) nd rfl (Or.inl rfl) (pe_op op_fdivB (pv 0) pe_int)))) (pss_one (ps_expr (pe_bm PySem.F.plainAttrs_list PySem.F.slot_list_append PySem.F.type_list_append mt_append (pv 3) (pa_cons (pe_callC c__law_mixed hr (pa_cons (pv 0) (pa_cons (pv 4) pa_nil))) pa_nil))))))) (pss_one (ps_ret (pv 3))))), ?_⟩
  refine ⟨Nat.zero_le _, fun r hr0 => ?_⟩
  have n1 := same_new hr0 (.lst [])
  refine ⟨_, rfl, 151, rfl, by decide, by decide, ?_⟩
  refine for_range (n := (151 : Int).toNat) (fun i σ H' => ∃ c v ns, σ = [some (.int c), some (.int b), some (.int 151), some (.ref r), v] /\ Same H H' /\ H' r = some (.lst (Is ns)) /\ ns.length = i) ⟨c, none, [], rfl, n1, upd_same, rfl⟩ ?turn ?done
  case done =>
    rintro σ H' ⟨c, v, ns, rfl, hs, hr1, nl⟩
    exact ⟨_, rfl, q r H' ns hs hr0 hr1 nl⟩
  case turn =>
    rintro i σ H' hi ⟨c, v, ns, rfl, hs, hr1, nl⟩
    have hi' : i < 151 := hi
    refine ⟨_, rfl, _, _, rfl, rfl, (by show (0 : Int) < 2; decide), rfl, _, rfl, ?_⟩
    have push : ∀ (z : Int), Same H (upd H' r (.lst (Is ns ++ [V.int z]))) /\ upd H' r (.lst (Is ns ++ [V.int z])) r = some (.lst (Is (ns ++ [z]))) /\ (ns ++ [z]).length = i + 1 := fun z => ⟨hs.upd_new hr0 _, by rw [upd_same, is_snoc], by rw [List.length_append, nl]; rfl⟩
    refine ite2 (fun _ => ?_) (fun _ => ?_)
    · refine ⟨_, rfl, .inl ⟨rfl, _, SqL.of hr1⟩, _, rfl, _, _, rfl, rfl, (by show (0 : Int) < 2147483647; decide), r, _, _, rfl, rfl, hr1, by rw [is_length]; exact small1000 (by omega), ?_⟩
      refine ⟨_, rfl, _, _, rfl, rfl, ⟨by decide, by decide⟩, ?_⟩
      obtain ⟨a1, a2, a3⟩ := push (c % 2147483647)
      exact ⟨_, _, _, rfl, a1, a2, a3⟩
    · refine ⟨_, rfl, .inl ⟨rfl, _, SqL.of hr1⟩, _, rfl, _, rfl, c, 0 + (i : Int), rfl, by omega, by omega, fun j _ _ => ?_⟩
      refine ⟨r, _, _, rfl, rfl, hr1, by rw [is_length]; exact small1000 (by omega), ?_⟩
      obtain ⟨a1, a2, a3⟩ := push j
      exact ⟨_, _, _, rfl, a1, a2, a3⟩
structure TwAt (H : Hp) (ps ys : List Addr) (rs : List (Int × Sd.Sd)) : Prop where
  lp : ps.length = rs.length
  ly : ys.length = rs.length
  row : ∀ (i : Nat) q y t, ps[i]? = some q -> ys[i]? = some y -> rs[i]? = some t -> H q = some (.tup [.int t.1, .ref y])
  sub : ∀ (i : Nat) y t, ys[i]? = some y -> rs[i]? = some t -> ToAt H y t.2
theorem TwAt.keep {H H' : Hp} {ps ys : List Addr} {rs : List (Int × Sd.Sd)} (h : TwAt H ps ys rs) (k : ∀ b xs, H b = some (.tup xs) -> H' b = some (.tup xs)) : TwAt H' ps ys rs :=
  ⟨h.lp, h.ly, fun i q y t a b c => k _ _ (h.row i q y t a b c), fun i y t a b => (h.sub i y t a b).keep k⟩
theorem TwAt.same {H H' : Hp} {ps ys : List Addr} {rs : List (Int × Sd.Sd)} (s : Same H H') (h : TwAt H ps ys rs) : TwAt H' ps ys rs := h.keep fun b xs e => s _ _ e
theorem at_snocO {α : Type} {l : List α} {x y : α} {i : Nat} (h : (l ++ [x])[i]? = some y) : (i < l.length /\ l[i]? = some y) ∨ (i = l.length /\ y = x) := by
  by_cases hi : i < l.length
  · exact .inl ⟨hi, by rwa [List.getElem?_append_left hi] at h⟩
  · have h2 := (List.getElem?_eq_some_iff.mp h).1
    rw [List.length_append, List.length_singleton] at h2
    have e : i = l.length := by omega
    subst e
    rw [List.getElem?_append_right (Nat.le_refl _), Nat.sub_self] at h
    cases h
    exact .inr ⟨rfl, rfl⟩
theorem TwAt.snoc {H : Hp} {ps ys : List Addr} {rs : List (Int × Sd.Sd)} (h : TwAt H ps ys rs) {q y : Addr} {t : Int × Sd.Sd} (hq : H q = some (.tup [.int t.1, .ref y])) (hy : ToAt H y t.2) : TwAt H (ps ++ [q]) (ys ++ [y]) (rs ++ [t]) := by
  have l1 := h.lp
  have l2 := h.ly
  refine ⟨by simp [l1], by simp [l2], fun i q' y' t' a b c => ?_, fun i y' t' b c => ?_⟩
  · rcases at_snocO a with ⟨i1, a⟩ | ⟨i1, rfl⟩ <;> rcases at_snocO b with ⟨i2, b⟩ | ⟨i2, rfl⟩ <;> rcases at_snocO c with ⟨i3, c⟩ | ⟨i3, rfl⟩
    · exact h.row i _ _ _ a b c
    all_goals first | exact hq | (exfalso; omega)
  · rcases at_snocO b with ⟨i2, b⟩ | ⟨i2, rfl⟩ <;> rcases at_snocO c with ⟨i3, c⟩ | ⟨i3, rfl⟩
    · exact h.sub i _ _ b c
    all_goals first | exact hy | (exfalso; omega)
theorem mod_inO (x : Int) {m : Int} (h : 0 < m) : 0 <= x % m /\ x % m < m := ⟨Int.emod_nonneg x (Int.ne_of_gt h), Int.emod_lt_of_pos x h⟩
theorem ix0 {n : Nat} (h : 0 < n) : seqIndex? 0 n = some 0 := by
  have e : ixN n 0 = some 0 := by
    unfold ixN
    rw [if_pos (by decide), if_pos (by omega)]
    rfl
  exact (ixN_seq e).1
theorem ifAnd {c A S : Prop} [Decidable c] (h : S) (k : S -> A) : if c then A else S := ite2 (fun _ => k h) (fun _ => h)
theorem at2 {α : Type} (x y : α) (c : Int) : ∃ v, atI [x, y] (c % 2) = some v /\ (v = x ∨ v = y) := by
  have h := mod_inO c (show (0 : Int) < 2 by decide)
  rcases (by omega : c % 2 = 0 ∨ c % 2 = 1) with z | z
  · exact ⟨x, by rw [z]; rfl, .inl rfl⟩
  · exact ⟨y, by rw [z]; rfl, .inr rfl⟩
theorem ok__law_box {n : Nat} {f : Addr} {fd : FuncData} (F : Fun K "_law_box" "_law_box" (top 43) f fd) {n0 : Nat} {g__law_box : Addr} {gd__law_box : FuncData} (c__law_box : Cal P w K mg base n "_law_box" ["_law_row_here", "_law_deep_here", "_law_most", "_law_scale"] (spBox n0) g__law_box gd__law_box) (z_tuple : mg "tuple" = none) (z_range : mg "range" = none) (z_min : mg "min" = none) : FnOk P w K mg base CX0 (n + 1) f fd ["_law_row_here", "_law_deep_here", "_law_most", "_law_scale"] (spBox (n0 + 1)) := by
  refine F.ok sc__law_box (fun vs H Q E h => ?_) (fun cdv A outer s H vs Q E hr h => ?_)
  · obtain ⟨L, ns, d, m, sc, rfl, _⟩ := h
    rfl
  obtain ⟨L, ns, d, m, sc, rfl, hL, dn, d4, h1, m12, s1, s9, hp, hq, q⟩ := h
  have nd := sc__law_box.nd
  refine ⟨_, (pss_cons (ps_set (i := 4) nd rfl (Or.inl rfl) (pe_bm PySem.F.plainAttrs_list PySem.F.slot_list_pop PySem.F.type_list_pop mt_popAt (pv 0) (pa_cons pe_int pa_nil))) (pss_cons (ps_if (PW.pt (pw_or (pt_cmpR op_eq (pv 1) pe_int (nomark _)) (pw_or (pt_cmpR op_eq (pe_op op_mod (pv 4) pe_int) pe_int (nomark _)) (pw_or1 (PW.pt (pw_and (pt_cmpR op_eq (pv 2) pe_int (nomark _)) (pw_and1 (pt_cmpR op_gt (pe_op op_mod (pv 4) pe_int) pe_int (nomark _))))))))) (pss_one (ps_ret (pe_tup (pa_cons pe_str (pa_cons (pe_op op_mod (pe_bm PySem.F.plainAttrs_list PySem.F.slot_list_pop PySem.F.type_list_pop mt_popAt (pv 0) (pa_cons pe_int pa_nil)) (pv 3)) pa_nil))))) pss_nil) (pss_cons (ps_set (i := 5) nd rfl (Or.inl rfl) (pe_callB (call_min2 rfl) rfl z_min bt_min (pa_cons (pe_op op_add pe_int (pe_op op_mod (pe_op op_fdiv (pv 4) pe_int) pe_int)) (pa_cons (pv 2) pa_nil)))) (pss_cons (ps_set (i := 6) nd rfl (Or.inl rfl) (pe_op op_fdiv (pe_op op_mod (pe_bm PySem.F.plainAttrs_list PySem.F.slot_list_pop PySem.F.type_list_pop mt_popAt (pv 0) (pa_cons pe_int pa_nil)) (pv 3)) (pe_op op_add pe_int (pe_op op_mod (pe_op op_fdiv (pv 4) pe_int) pe_int)))) (pss_cons (ps_set (i := 7) nd rfl (Or.inl rfl) (pe_lst pa_nil)) (pss_cons (ps_for PassesOwn.never rfl (pi_range1 rfl z_range (pa_cons (pv 5) pa_nil)) (pg_name (i := 8) nd rfl (Or.inl rfl)) (pss_cons (ps_set (i := 9) nd rfl (Or.inl rfl) (pe_op op_add pe_int (pe_op op_mod (pe_bm PySem.F.plainAttrs_list PySem.F.slot_list_pop PySem.F.type_list_pop mt_popAt (pv 0) (pa_cons pe_int pa_nil)) (pe_ix ix_list (pe_lst (pa_cons pe_int (pa_cons pe_int pa_nil))) (pe_op op_mod (pe_op op_fdiv (pv 4) pe_int) pe_int) (fun _ _ => rfl))))) (pss_one (ps_expr (pe_bm PySem.F.plainAttrs_list PySem.F.slot_list_append PySem.F.type_list_append mt_append (pv 7) (pa_cons (pe_tup (pa_cons (pv 9) (pa_cons (pe_callC c__law_box hr (pa_cons (pv 0) (pa_cons (pe_op op_sub (pv 1) pe_int) (pa_cons (pe_op op_fdiv (pv 2) (pv 5)) (pa_cons (pv 3) pa_nil))))) pa_nil))) pa_nil)))))) (pss_one (ps_ret (pe_tup (pa_cons pe_str (pa_cons (pv 6) (pa_cons (pe_callTy (call_tuple_ofK (K := K) rfl) rfl z_tuple bt_tuple (pa_cons (pv 7) pa_nil)) pa_nil)))))))))))), ?_⟩
  cases ns with
  | nil => have := pp_2 d m; simp at hp; omega
  | cons m0 ns =>
  cases ns with
  | nil => have := pp_2 d m; simp at hp; omega
  | cons m1 ns =>
  have hlen : (m0 :: m1 :: ns).length = ns.length + 2 := rfl
  have p2 := pp_2 d m
  have e1 := mod_inO m1 (show 0 < sc by omega)
  refine ⟨_, rfl, .inl ⟨rfl, _, SqL.of hL⟩, L, _, 0, 0, .int m0, rfl, rfl, hL, by decide, by decide, ix0 (by simp), rfl, ?_⟩
  have hL1 : upd H L (.lst (Is (m1 :: ns))) L = some (.lst (Is (m1 :: ns))) := upd_same
  have k1 : ∀ b o, b ≠ L -> H b = some o -> upd (upd H L (.lst (Is (m1 :: ns)))) L (.lst (Is ns)) b = some o := fun b o nb e => by rw [upd_ne nb, upd_ne nb]; exact e
  have hL2 : (upd (upd H L (.lst (Is (m1 :: ns)))) L (.lst (Is ns))) L = some (.lst (Is ns)) := upd_same
  have fin : ∀ r, (upd (upd H L (.lst (Is (m1 :: ns)))) L (.lst (Is ns))) r = none -> Q (.ref r) (upd (upd (upd H L (.lst (Is (m1 :: ns)))) L (.lst (Is ns))) r (.tup [.str "end", .int (m1 % sc)])) := fun r hr1 => by
    have n3 := same_new hr1 (.tup [.str "end", .int (m1 % sc)])
    refine q r _ (.en (m1 % sc)) ns (fun b o nb e => n3 _ _ (k1 b o nb e)) (n3 _ _ hL2) (by omega) (by omega) (.en upd_same) (.en e1.1 (by omega) h1)
  refine ⟨_, rfl, rfl, _, rfl, ?_⟩
  refine ite2 (fun _ => ?_) (fun c0 => ?_)
  · refine ⟨_, rfl, .inl ⟨rfl, _, SqL.of hL1⟩, L, _, 0, 0, .int m1, rfl, rfl, hL1, by decide, by decide, ix0 (by simp), rfl, _, rfl, _, _, rfl, rfl, by omega, sz2, fun r hr1 => ?_⟩
    exact fin r hr1
  have d0 : d ≠ 0 := fun e => c0 (decide_eq_true (by rw [e]; rfl))
  refine ⟨_, rfl, _, _, rfl, rfl, (by show (0 : Int) < 5; decide), rfl, _, rfl, ?_⟩
  refine ite2 (fun _ => ?_) (fun c1 => ?_)
  · refine ⟨_, rfl, .inl ⟨rfl, _, SqL.of hL1⟩, L, _, 0, 0, .int m1, rfl, rfl, hL1, by decide, by decide, ix0 (by simp), rfl, _, rfl, _, _, rfl, rfl, by omega, sz2, fun r hr1 => ?_⟩
    exact fin r hr1
  refine ⟨_, rfl, rfl, _, rfl, ?_⟩
  refine ifAnd ?st (fun hS => ?en)
  case en =>
    refine ⟨_, rfl, _, _, rfl, rfl, (by show (0 : Int) < 3; decide), _, _, rfl, rfl, _, rfl, ?_⟩
    refine ite2 (fun _ => ?_) (fun _ => hS)
    refine ⟨_, rfl, .inl ⟨rfl, _, SqL.of hL1⟩, L, _, 0, 0, .int m1, rfl, rfl, hL1, by decide, by decide, ix0 (by simp), rfl, _, rfl, _, _, rfl, rfl, by omega, sz2, fun r hr1 => ?_⟩
    exact fin r hr1
  obtain ⟨d, rfl⟩ : ∃ d', d = d' + 1 := ⟨d - 1, by omega⟩
  have b4 := mod_inO (m0 / 5) (show (0 : Int) < 4 by decide)
  have b9 := mod_inO (m0 / 40) (show (0 : Int) < 9 by decide)
  obtain ⟨M, hM, M1, M4, Mm⟩ : ∃ M : Nat, (if (m : Int) < 1 + m0 / 5 % 4 then (m : Int) else 1 + m0 / 5 % 4) = (M : Int) /\ 1 <= M /\ M <= 4 /\ M <= m := by
    split
    · exact ⟨m, rfl, h1, by omega, Nat.le_refl _⟩
    · exact ⟨(1 + m0 / 5 % 4).toNat, by omega, by omega, by omega, by omega⟩
  refine ⟨_, rfl, _, _, rfl, rfl, ⟨by decide, by decide⟩, _, _, rfl, rfl, (by show (0 : Int) < 4; decide), _, _, rfl, rfl, _, rfl, _, _, rfl, ?_⟩
  rw [hM]
  refine ⟨_, rfl, .inl ⟨rfl, _, SqL.of hL1⟩, L, _, 0, 0, .int m1, rfl, rfl, hL1, by decide, by decide, ix0 (by simp), rfl, _, rfl, _, _, rfl, rfl, by omega, _, rfl, _, _, rfl, rfl, ⟨by decide, by decide⟩, _, _, rfl, rfl, (by show (0 : Int) < 9; decide), _, _, rfl, rfl, _, _, rfl, rfl, ⟨by omega, by omega⟩, ?_⟩
  refine ⟨Nat.zero_le _, fun R hR => ?_⟩
  have n3 := same_new hR (.lst [])
  have hL3 := n3 _ _ hL2
  have k3 : ∀ b o, b ≠ L -> H b = some o -> (upd (upd (upd H L (.lst (Is (m1 :: ns)))) L (.lst (Is ns))) R (.lst [])) b = some o := fun b o nb e => n3 _ _ (k1 b o nb e)
  have nRL : R ≠ L := fun e => by rw [e, upd_same] at hR; cases hR
  have hR0 : H R = none := by rw [upd_ne nRL, upd_ne nRL] at hR; exact hR
  have hR3 : (upd (upd (upd H L (.lst (Is (m1 :: ns)))) L (.lst (Is ns))) R (.lst [])) R = some (.lst (([] : List Addr).map V.ref)) := upd_same
  have pn := pp_n (d := d) (m := m) (n := M) M1 M4 Mm
  have cb : 0 <= m1 % sc / (1 + m0 / 40 % 9) /\ m1 % sc / (1 + m0 / 40 % 9) <= 1000000000 := by
    have a := Int.ediv_nonneg e1.1 (show (0 : Int) <= 1 + m0 / 40 % 9 by omega)
    have b := Int.ediv_le_self (b := 1 + m0 / 40 % 9) e1.1
    exact ⟨a, by omega⟩
  refine ⟨_, rfl, (M : Int), rfl, by omega, by omega, ?_⟩
  refine for_range (n := (M : Int).toNat) (fun i σ H' => ∃ v8 v9 ps ys rs ns3, σ = [some (.ref L), some (.int ((d + 1 : Nat) : Int)), some (.int (m : Int)), some (.int sc), some (.int m0), some (.int (M : Int)), some (.int (m1 % sc / (1 + m0 / 40 % 9))), some (.ref R), v8, v9] /\ (∀ b o, b ≠ L -> H b = some o -> H' b = some o) /\ H' L = some (.lst (Is ns3)) /\ H' R = some (.lst (ps.map V.ref)) /\ TwAt H' ps ys rs /\ rs.length = i /\ (∀ r ∈ rs, 1 <= r.1 /\ r.1 <= 1000) /\ (∀ r ∈ rs, Sd.Ok r.2 d (m / M)) /\ ns.length <= ns3.length + i * (1 + pp d (m / M)) /\ ns3.length <= ns.length)
    ⟨none, none, [], [], [], ns, rfl, k3, hL3, hR3, ⟨rfl, rfl, (fun i q y t a => by simp at a), (fun i y t a => by simp at a)⟩, rfl, (fun _ h => nomatch h), (fun _ h => nomatch h), by omega, Nat.le_refl _⟩ ?turn ?done
  case turn =>
    rintro i σ H' hi ⟨v8, v9, ps, ys, rs, ns3, rfl, kH, hLi, hRi, tw, rl, rw_, ro, l1, l2⟩
    have hiM : i < M := by omega
    have im : (i + 1) * (1 + pp d (m / M)) <= M * (1 + pp d (m / M)) := Nat.mul_le_mul_right _ hiM
    have im2 : (i + 1) * (1 + pp d (m / M)) = i * (1 + pp d (m / M)) + (1 + pp d (m / M)) := Nat.succ_mul _ _
    cases ns3 with
    | nil => exfalso; simp at l1; omega
    | cons z ns4 =>
    have l3 : (z :: ns4).length = ns4.length + 1 := rfl
    refine ⟨_, rfl, .inl ⟨rfl, _, SqL.of hLi⟩, L, _, 0, 0, .int z, rfl, rfl, hLi, by decide, by decide, ix0 (by simp), rfl, ?_⟩
    refine ⟨sz2, fun l hl => ?_⟩
    have n5 := same_new hl (.lst [.int 3, .int 1000])
    obtain ⟨v, ev, hv⟩ := at2 (V.int 3) (V.int 1000) (m0 / 20)
    obtain ⟨u, rfl, u1, u9⟩ : ∃ u : Int, v = .int u /\ 1 <= u /\ u <= 1000 := by
      rcases hv with e | e
      · exact ⟨3, e, by decide, by decide⟩
      · exact ⟨1000, e, by decide, by decide⟩
    refine ⟨_, rfl, _, _, rfl, rfl, ⟨by decide, by decide⟩, _, _, rfl, rfl, (by show (0 : Int) < 2; decide), l, _, _, _, rfl, rfl, SqL.of upd_same, ev, _, _, rfl, rfl, by omega, _, _, rfl, rfl, ?_⟩
    have zu := mod_inO z (show 0 < u by omega)
    have hLj : upd (upd H' L (.lst (Is ns4))) l (.lst [.int 3, .int 1000]) L = some (.lst (Is ns4)) := n5 _ _ upd_same
    have hRj : upd (upd H' L (.lst (Is ns4))) l (.lst [.int 3, .int 1000]) R = some (.lst (ps.map V.ref)) := n5 _ _ (by rw [upd_ne nRL]; exact hRi)
    have kj : ∀ b o, b ≠ L -> H' b = some o -> upd (upd H' L (.lst (Is ns4))) l (.lst [.int 3, .int 1000]) b = some o := fun b o nb e => n5 _ _ (by rw [upd_ne nb]; exact e)
    refine ⟨_, rfl, .inl ⟨rfl, _, SqL.of hRj⟩, _, rfl, _, rfl, _, rfl, _, _, rfl, rfl, _, rfl, _, rfl, _, _, rfl, rfl, ⟨by omega, by omega⟩, _, rfl, L, ns4, d, m / M, sc, ?_, hLj, by omega, by omega, ?_, ?_, s1, s9, by omega, by omega, fun r H6 s6 ns6 k6 hL6 l6 l7 t6 o6 => ?_⟩
    · have e1 : ((d + 1 : Nat) : Int) - 1 = (d : Int) := by omega
      have e2 : (m : Int) / (M : Int) = ((m / M : Nat) : Int) := (Int.natCast_ediv m M).symm
      show [V.ref L, V.int (((d + 1 : Nat) : Int) - 1), V.int ((m : Int) / (M : Int)), V.int sc] = _
      rw [e1, e2]
    · exact (Nat.le_div_iff_mul_le (by omega)).mpr (by omega)
    · exact Nat.le_trans (Nat.div_le_self _ _) m12
    refine ⟨sz2, fun T hT => ?_⟩
    have n7 := same_new hT (.tup [.int (1 + z % u), .ref r])
    have hR6 := k6 _ _ nRL hRj
    have hR7 := n7 _ _ hR6
    have nTR : T ≠ R := fun e => by rw [e, hR6] at hT; cases hT
    have pl : ps.length = i := by rw [tw.lp, rl]
    have tR : ∀ b xs, upd H6 T (.tup [.int (1 + z % u), .ref r]) b = some (.tup xs) -> upd (upd H6 T (.tup [.int (1 + z % u), .ref r])) R (.lst (ps.map V.ref ++ [.ref T])) b = some (.tup xs) := fun b xs e => by rw [upd_ne (ne_of e hR7 fun w => nomatch w)]; exact e
    have tw7 := ((tw.keep fun b xs e => n7 _ _ (k6 _ _ (ne_of e hLi fun w => nomatch w) (kj _ _ (ne_of e hLi fun w => nomatch w) e))).keep tR).snoc (t := (1 + z % u, s6)) (tR _ _ upd_same) ((t6.same n7).keep tR)
    refine ⟨R, _, _, rfl, rfl, hR7, by rw [List.length_map, pl]; exact small1000 (by omega), ?_⟩
    refine ⟨_, _, ps ++ [T], ys ++ [r], rs ++ [(1 + z % u, s6)], ns6, rfl, fun b o nb e => ?_, ?_, by rw [upd_same, List.map_append]; rfl, tw7, by rw [List.length_append, rl]; rfl, fun x hx => ?_, fun x hx => ?_, by omega, by omega⟩
    · have hb : b ≠ R := fun w => by rw [w, hR0] at e; cases e
      rw [upd_ne hb]
      exact n7 _ _ (k6 _ _ nb (kj _ _ nb (kH b o nb e)))
    · rw [upd_ne (Ne.symm nRL)]
      exact n7 _ _ hL6
    · rcases List.mem_append.mp hx with w | w
      · exact rw_ x w
      · rw [List.mem_singleton.mp w]
        exact ⟨by show 1 <= 1 + z % u; omega, by show 1 + z % u <= 1000; omega⟩
    · rcases List.mem_append.mp hx with w | w
      · exact ro x w
      · rw [List.mem_singleton.mp w]
        exact o6
  case done =>
    rintro σ H' ⟨v8, v9, ps, ys, rs, ns3, rfl, kH, hLi, hRi, tw, rl, rw_, ro, l1, l2⟩
    rw [show (M : Int).toNat = M by omega] at rl l1
    refine ⟨_, rfl, _, rfl, R, _, rfl, .inl ⟨SqL.of hRi, fun t ht => ?_⟩⟩
    have n5 := same_new ht (.tup (ps.map V.ref))
    refine ⟨sz3, fun r hr1 => ?_⟩
    have n6 := same_new hr1 (.tup [.str "stage", .int (m1 % sc / (1 + m0 / 40 % 9)), .ref t])
    have tw6 := (tw.same n5).same n6
    refine q r _ (.st (m1 % sc / (1 + m0 / 40 % 9)) rs) ns3 (fun b o nb e => n6 _ _ (n5 _ _ (kH b o nb e))) (n6 _ _ (n5 _ _ hLi)) (by omega) (by omega) (.st upd_same (n6 _ _ upd_same) tw6.lp tw6.ly tw6.row tw6.sub) (.st (f := fun _ => m / M) cb.1 cb.2 (fun e => by rw [e] at rl; have : (0 : Nat) = M := rl; omega) (by omega) rw_ ro (by rw [List.map_const', List.sum_replicate_nat, rl]; exact Nat.mul_div_le m M))
section
variable {c : Cs} {H H' : Hp}
theorem sdv_keep (kt : ∀ b xs, H b = some (.tup xs) -> H' b = some (.tup xs)) {l cp : Addr} {sd : Sd.Sd} {lv : Int × Int} {xs : List Row} {n k : Int} {d m : Nat} (h : SdV H l cp sd lv xs n k d m) : SdV H' l cp sd lv xs n k d m :=
  ⟨kt _ _ h.lv, ⟨kt _ _ h.caps.1, fun x hx => ⟨kt _ _ (h.caps.2 x hx).1, kt _ _ (h.caps.2 x hx).2⟩⟩, h.gs, h.so, h.n1, h.nm, h.k0, h.kd, h.mt, h.lw, h.nx, h.kx⟩
theorem st_keep (kt : ∀ b xs, H b = some (.tup xs) -> H' b = some (.tup xs)) (ki : ∀ b C dx f fs, H b = some (.ins C dx (f :: fs)) -> H' b = some (.ins C dx (f :: fs))) {x : Addr} {s : Sd.Sd} {d m : Nat} (h : StAt c H x s d m) : StAt c H' x s d m := by
  induction h with
  | en h vv ok => exact .en (ki _ _ _ _ _ h) (sdv_keep kt vv) ok
  | st h vv g lp ly row sub p0 p9 ne l4 w hk ih => exact .st (ki _ _ _ _ _ h) (sdv_keep kt vv) (kt _ _ g) lp ly (fun i q y t a b c => kt _ _ (row i q y t a b c)) ih p0 p9 ne l4 w hk
theorem rw_keep (kt : ∀ b xs, H b = some (.tup xs) -> H' b = some (.tup xs)) (ki : ∀ b C dx f fs, H b = some (.ins C dx (f :: fs)) -> H' b = some (.ins C dx (f :: fs))) {ps ys : List Addr} {rs : List (Int × Sd.Sd)} {d : Nat} {j : Int × Sd.Sd -> Nat} (h : RwAt c H ps ys rs d j) : RwAt c H' ps ys rs d j :=
  ⟨h.lp, h.ly, fun i q y t a b e => kt _ _ (h.row i q y t a b e), fun i y t a b => st_keep kt ki (h.sub i y t a b)⟩
theorem at_snoc {α : Type} {l : List α} {x y : α} {i : Nat} (h : (l ++ [x])[i]? = some y) : (i < l.length /\ l[i]? = some y) ∨ (i = l.length /\ y = x) := by
  by_cases hi : i < l.length
  · exact .inl ⟨hi, by rwa [List.getElem?_append_left hi] at h⟩
  · have h2 := (List.getElem?_eq_some_iff.mp h).1
    rw [List.length_append, List.length_singleton] at h2
    have e : i = l.length := by omega
    subst e
    rw [List.getElem?_append_right (Nat.le_refl _), Nat.sub_self] at h
    cases h
    exact .inr ⟨rfl, rfl⟩
theorem rw_snoc {ps ys : List Addr} {rs : List (Int × Sd.Sd)} {d : Nat} {j : Int × Sd.Sd -> Nat} (h : RwAt c H ps ys rs d j) {q y : Addr} {t : Int × Sd.Sd} (hq : H q = some (.tup [.int t.1, .ref y])) (hy : StAt c H y t.2 d (j t)) : RwAt c H (ps ++ [q]) (ys ++ [y]) (rs ++ [t]) d j := by
  have l1 := h.lp
  have l2 := h.ly
  refine ⟨by simp [l1], by simp [l2], fun i q' y' t' a b c => ?_, fun i y' t' b c => ?_⟩
  · rcases at_snoc a with ⟨i1, a⟩ | ⟨i1, rfl⟩ <;> rcases at_snoc b with ⟨i2, b⟩ | ⟨i2, rfl⟩ <;> rcases at_snoc c with ⟨i3, c⟩ | ⟨i3, rfl⟩
    · exact h.row i _ _ _ a b c
    all_goals first | exact hq | (exfalso; omega)
  · rcases at_snoc b with ⟨i2, b⟩ | ⟨i2, rfl⟩ <;> rcases at_snoc c with ⟨i3, c⟩ | ⟨i3, rfl⟩
    · exact h.sub i _ _ b c
    all_goals first | exact hy | (exfalso; omega)
theorem to_at {ps ys : List Addr} {rs : List (Int × Sd.Sd)} (lp : ps.length = rs.length) (ly : ys.length = rs.length) (row : ∀ (i : Nat) q y t, ps[i]? = some q -> ys[i]? = some y -> rs[i]? = some t -> H q = some (.tup [.int t.1, .ref y])) (sub : ∀ (i : Nat) y t, ys[i]? = some y -> rs[i]? = some t -> ToAt H y t.2)
    {i : Nat} {v : V} (hv : (ps.map V.ref)[i]? = some v) : ∃ q y t, rs[i]? = some t /\ v = .ref q /\ H q = some (.tup [.int t.1, .ref y]) /\ ToAt H y t.2 /\ t ∈ rs := by
  rw [List.getElem?_map] at hv
  cases e : ps[i]? with
  | none => rw [e] at hv; cases hv
  | some q =>
    rw [e] at hv
    cases hv
    have hi := (List.getElem?_eq_some_iff.mp e).1
    have ey : ys[i]? = some (ys[i]'(by omega)) := List.getElem?_eq_getElem _
    have er : rs[i]? = some (rs[i]'(by omega)) := List.getElem?_eq_getElem _
    exact ⟨q, _, _, er, rfl, row i q _ _ e ey er, sub i _ _ ey er, List.mem_of_getElem? er⟩
end
theorem ok__law_stand {n : Nat} {f : Addr} {fd : FuncData} (F : Fun K "_law_stand" "_law_stand" (top 44) f fd) {n0 : Nat} {c : Cs} {iE iS : Addr} {dE dS : FuncData} {kE kS : Nat} (M_End : Mk K c.e iE) (G_End : FnOk P w K mg base CX0 kE iE dE ["self", "worth"] (spEI c)) (b_End : Binds K dE ["self", "worth"] []) (g_End : mg "End" = some (.ref c.e)) (hn_End : kE + 1 <= n) (M_Stage : Mk K c.s iS) (G_Stage : FnOk P w K mg base CX0 kS iS dS ["self", "price", "rows"] (spSI c Pt lamP)) (b_Stage : Binds K dS ["self", "price", "rows"] []) (g_Stage : mg "Stage" = some (.ref c.s)) (hn_Stage : kS + 1 <= n) {g__law_stand : Addr} {gd__law_stand : FuncData} (c__law_stand : Cal P w K mg base n "_law_stand" ["_law_told"] (spLS c Pt lamP n0) g__law_stand gd__law_stand) : FnOk P w K mg base CX0 (n + 1) f fd ["_law_told"] (spLS c Pt lamP (n0 + 1)) := by
  refine F.ok sc__law_stand (fun vs H Q E h => ?_) (fun cdv A outer s H vs Q E hr h => ?_)
  · obtain ⟨a, s, d, m, rfl, _⟩ := h
    rfl
  obtain ⟨a, s, d, m, rfl, to, ok, dn, d4, m12, hTb, q⟩ := h
  have nd := sc__law_stand.nd
  refine ⟨_, (pss_cons (ps_if (pt_cmpR op_eq (pe_ix ix_tup (pv 0) pe_int (fun _ _ => rfl)) pe_str (nomark _)) (pss_one (ps_ret (pe_make M_End G_End (hr.mono hn_End) rfl g_End b_End .nil pass0 (pa_cons (pe_ix ix_tup (pv 0) pe_int (fun _ _ => rfl)) pa_nil)))) pss_nil) (pss_one (ps_ret (pe_make M_Stage G_Stage (hr.mono hn_Stage) rfl g_Stage b_Stage .nil pass0 (pa_cons (pe_ix ix_tup (pv 0) pe_int (fun _ _ => rfl)) (pa_cons (pe_comp (ls := ["_law_weight", "_law_part"]) (M := ["_law_told"]) rfl (CompOk.of (by rfl)) (NL.of (by rfl)) (pi_tup (pe_ix ix_tup (pv 0) pe_int (fun _ _ => rfl))) (fun _ _ _ _ => ⟨(pg_tupK (K := K) (n := 2) rfl rfl (pgs_cons (pg_name (i := 0) (nd_of (by rfl)) rfl (Or.inl rfl)) (pgs_cons (pg_name (i := 1) (nd_of (by rfl)) rfl (Or.inl rfl)) pgs_nil))), pts_nil, (pe_tup (pa_cons (pv 0) (pa_cons (pe_callC c__law_stand hr (pa_cons (pv 1) pa_nil)) pa_nil)))⟩)) pa_nil)))))), ?_⟩
  cases to with
  | @en _ v h =>
    cases ok with
    | en h0 h9 hm =>
    refine ⟨_, rfl, a, _, _, _, rfl, rfl, SqT.of h, rfl, rfl, _, rfl, ?_⟩
    refine iteT ?_
    refine ⟨_, rfl, a, _, _, _, rfl, rfl, SqT.of h, rfl, ?_⟩
    intro x dx hx hdx ndx
    have nO : Same H (upd (upd H dx (.own x)) x (.ins c.e dx [])) := (same_new hdx (.own x)).trans (same_new (by rw [upd_ne (Ne.symm ndx)]; exact hx) _)
    refine ⟨x, dx, v, rfl, upd_same, h0, h9, fun H' k5 st => ⟨rfl, ?_⟩⟩
    have sX : SameX x (upd (upd H dx (.own x)) x (.ins c.e dx [])) H' := k5
    exact q x H' (fun b o _ e => k5 b o (ne_of_none e hx) (nO _ _ e)) (TbOk.sameX (hTb.same nO) sX upd_same) (st d m hm)
  | @st _ r p rs ps ys h g lp ly row sub =>
    cases ok with
    | @st _ _ d _ j h0 h9 ne l4 ww oks hk =>
    have hlr : (ps.map V.ref).length = rs.length := by rw [List.length_map]; exact lp
    refine ⟨_, rfl, a, _, _, _, rfl, rfl, SqT.of h, rfl, rfl, _, rfl, ?_⟩
    refine iteF ?_
    refine ⟨_, rfl, a, _, _, _, rfl, rfl, SqT.of h, rfl, ?_⟩
    refine ⟨_, rfl, a, _, _, _, rfl, rfl, SqT.of h, rfl, r, rfl, ⟨_, SqT.of g⟩, fun D hD => ?_⟩
    refine comp_tup (xs := ps.map V.ref) (fun i τ H' => ∃ v0 v1 qs zs, τ = [v0, v1, some (.ref a)] /\ SameT Pt H H' /\ TbOk Pt lamP lamQ H' /\ H' D = some (.lst (qs.map V.ref)) /\ RwAt c H' qs zs (rs.take i) d j) ⟨none, none, [], [], rfl, (same_new hD _).toT, hTb.same (same_new hD _), upd_same, ⟨rfl, rfl, (fun i q y t a => by simp at a), (fun i y t a => by simp at a)⟩⟩ ?keep ?turn ?done
    case keep =>
      rintro u τ H' hi ⟨v0, v1, qs, zs, rfl, hs, _⟩
      exact SqT.of (hs.get hTb g fun _ z => nomatch z)
    case turn =>
      rintro u mm v τ H' hm hi hv ⟨v0, v1, qs, zs, rfl, hs, tb, hD', R⟩
      obtain ⟨q1, y, t, er, rfl, h1, to, mem⟩ := to_at lp ly row sub hv
      have kt : ∀ b xs, H b = some (.tup xs) -> H' b = some (.tup xs) := fun b xs e => hs.get hTb e fun _ z => nomatch z
      refine ⟨q1, _, rfl, SqT.of (kt _ _ h1), rfl, _, _, rfl, _, _, rfl, rfl, ?_⟩
      refine tyes_if ?_
      refine ⟨_, rfl, _, rfl, y, t.2, d, j t, rfl, to.keep kt, oks t mem, by omega, by omega, Nat.le_trans (Sd.f_le hk t mem) m12, tb, fun x H2 s2 tb2 st2 => ?_⟩
      refine ⟨sz2, fun T hT => ?_⟩
      have n3 := same_new hT (.tup [.int t.1, .ref x])
      have hD2 : H2 D = some (.lst (qs.map V.ref)) := s2.get tb hD' fun _ z => nomatch z
      have hD3 := n3 _ _ hD2
      have R3 := (R.kp (SameT.kp s2 tb)).kp (Same.kp n3)
      have nD : ∀ (o : HO), Same (upd H2 T (.tup [.int t.1, .ref x])) (upd H2 T (.tup [.int t.1, .ref x])) := fun _ => Same.refl _
      have kt4 : ∀ (o : HO) b xs, upd H2 T (.tup [.int t.1, .ref x]) b = some (.tup xs) -> upd (upd H2 T (.tup [.int t.1, .ref x])) D o b = some (.tup xs) := fun o b xs e => by rw [upd_ne (ne_of e hD3 fun z => nomatch z)]; exact e
      have ki4 : ∀ (o : HO) b C dx f fs, upd H2 T (.tup [.int t.1, .ref x]) b = some (.ins C dx (f :: fs)) -> upd (upd H2 T (.tup [.int t.1, .ref x])) D o b = some (.ins C dx (f :: fs)) := fun o b C dx f fs e => by rw [upd_ne (ne_of e hD3 fun z => nomatch z)]; exact e
      have ql : qs.length <= 4 := by rw [R.lp, List.length_take]; omega
      refine comp_next hm hi hD3 (by rw [List.length_map]; exact small1000 (by omega)) ⟨_, _, qs ++ [T], zs ++ [x], rfl, ((hs.trans s2).trans n3.toT).upd_new hD _, ?_, by rw [upd_same, List.map_append]; rfl, ?_⟩
      · have := tb2.same n3
        rcases this with w | ⟨c', w1, w2⟩
        · exact .inl (by rw [upd_ne (ne_of w hD3 fun z => nomatch z)]; exact w)
        · exact .inr ⟨c', by rw [upd_ne (ne_of w1 hD3 fun z => nomatch z)]; exact w1, by rw [upd_ne (ne_of w2 hD3 fun z => by unfold CodeO at z; exact nomatch z)]; exact w2⟩
      · rw [take_snoc er]
        exact rw_snoc (rw_keep (kt4 _) (ki4 _) R3) (kt4 _ _ _ upd_same) (st_keep (kt4 _) (ki4 _) (st2.kp (Same.kp n3)))
    case done =>
      rintro τ H1 ⟨v0, v1, qs, zs, rfl, hs, tb, hD', R⟩
      rw [hlr, List.take_length] at R
      intro x dx hx hdx ndx
      have nO : Same H1 (upd (upd H1 dx (.own x)) x (.ins c.s dx [])) := (same_new hdx (.own x)).trans (same_new (by rw [upd_ne (Ne.symm ndx)]; exact hx) _)
      refine ⟨x, dx, D, p, qs, zs, rs, d, m, j, rfl, upd_same, nO _ _ hD', R.kp (Same.kp nO), h0, h9, ne, l4, ww, hk, m12, d4, tb.same nO, fun H' k5 tb5 st5 => ⟨rfl, ?_⟩⟩
      exact q x H' (fun b o nP e => k5 b o (ne_of_none (hs b o nP e) hx) nP (nO _ _ (hs b o nP e))) tb5 st5
theorem ok_End_is_end {n : Nat} {f : Addr} {fd : FuncData} (F : Fun K "is_end" "End.is_end" (inClass (top 28) 1) f fd) {c : Cs} : FnOk P w K mg base CX0 (n + 1) f fd ["self"] (spIsE c true) := by
  refine F.ok sc_End_is_end (fun vs H Q E h => ?_) (fun cdv A outer s H vs Q E hr h => ?_)
  · obtain ⟨x, rfl, _⟩ := h
    rfl
  obtain ⟨x, rfl, q⟩ := h
  have nd := sc_End_is_end.nd
  refine ⟨_, (pss_one (ps_ret pe_bl)), ?_⟩
  exact q
theorem ok_Stage_is_end {n : Nat} {f : Addr} {fd : FuncData} (F : Fun K "is_end" "Stage.is_end" (inClass (top 29) 1) f fd) {c : Cs} : FnOk P w K mg base CX0 (n + 1) f fd ["self"] (spIsE c false) := by
  refine F.ok sc_Stage_is_end (fun vs H Q E h => ?_) (fun cdv A outer s H vs Q E hr h => ?_)
  · obtain ⟨x, rfl, _⟩ := h
    rfl
  obtain ⟨x, rfl, q⟩ := h
  have nd := sc_Stage_is_end.nd
  refine ⟨_, (pss_one (ps_ret pe_bl)), ?_⟩
  exact q
theorem ok_End_told {n : Nat} {f : Addr} {fd : FuncData} (F : Fun K "told" "End.told" (inClass (top 28) 4) f fd) {c : Cs} (ck : CK K c) : FnOk P w K mg base CX0 (n + 1) f fd ["self"] (spToE c) := by
  refine F.ok sc_End_told (fun vs H Q E h => ?_) (fun cdv A outer s H vs Q E hr h => ?_)
  · obtain ⟨x, v, d, m, rfl, _⟩ := h
    rfl
  obtain ⟨x, v, d, m, rfl, st, q⟩ := h
  have nd := sc_End_told.nd
  refine ⟨_, (pss_one (ps_ret (pe_tup (pa_cons pe_str (pa_cons (pe_fld (pv 0) rfl) pa_nil))))), ?_⟩
  cases st with
  | en h vv ok => exact ⟨_, rfl, x, c.e, _, _, _, rfl, h, ck.ce, ck.e5, rfl, sz2, fun r hr0 => q r _ (same_new hr0 _) (.en upd_same)⟩
theorem ok_Stage_told {n : Nat} {f : Addr} {fd : FuncData} (F : Fun K "told" "Stage.told" (inClass (top 29) 6) f fd) {n0 : Nat} {c : Cs} (ck : CK K c) (cfE : Cls K c.e) (cfS : Cls K c.s) {f_Et : Addr} {fd_Et : FuncData} (m_Et : Meth K c.e "told" f_Et) (G_Et : FnOk P w K mg base CX0 n f_Et fd_Et ["self"] (spToE c)) (b_Et : Binds K fd_Et ["self"] []) {f_St : Addr} {fd_St : FuncData} (m_St : Meth K c.s "told" f_St) (G_St : FnOk P w K mg base CX0 n f_St fd_St ["self"] (spTo c n0)) (b_St : Binds K fd_St ["self"] []) (z_tuple : mg "tuple" = none) : FnOk P w K mg base CX0 (n + 1) f fd ["self"] (spTo c (n0 + 1)) := by
  refine F.ok sc_Stage_told (fun vs H Q E h => ?_) (fun cdv A outer s H vs Q E hr h => ?_)
  · obtain ⟨x, p, rs, d, m, rfl, _⟩ := h
    rfl
  obtain ⟨x, p, rs, d, m, rfl, st, dn, q⟩ := h
  have nd := sc_Stage_told.nd
  refine ⟨_, (pss_one (ps_ret (pe_tup (pa_cons pe_str (pa_cons (pe_fld (pv 0) rfl) (pa_cons (pe_callTy (call_tuple_ofK (K := K) rfl) rfl z_tuple bt_tuple (pa_cons (pe_comp (ls := ["weight", "stand"]) (M := ["self"]) rfl (CompOk.of (by rfl)) (NL.of (by rfl)) (pi_tup (pe_fld (pv 0) rfl)) (fun _ _ _ _ => ⟨(pg_tupK (K := K) (n := 2) rfl rfl (pgs_cons (pg_name (i := 0) (nd_of (by rfl)) rfl (Or.inl rfl)) (pgs_cons (pg_name (i := 1) (nd_of (by rfl)) rfl (Or.inl rfl)) pgs_nil))), pts_nil, (pe_tup (pa_cons (pv 0) (pa_cons (pe_either (pe_meth0 (pv 1) cfE m_Et G_Et hr b_Et .nil pass0) (pe_meth0 (pv 1) cfS m_St G_St hr b_St .nil pass0)) pa_nil)))⟩)) pa_nil)) pa_nil)))))), ?_⟩
  cases st with
  | @st _ dx l cp r _ n' k' lv d _ j xs _ ps ys h vv g lp ly row sub p0 p9 ne l4 w hk =>
    have R : RwAt c H ps ys rs _ _ := ⟨lp, ly, row, sub⟩
    have hl : (ps.map V.ref).length = rs.length := by rw [List.length_map]; exact lp
    refine ⟨_, rfl, x, c.s, dx, _, _, rfl, h, ck.cs, ck.s5, rfl, ?_⟩
    refine ⟨_, rfl, x, c.s, dx, _, _, rfl, h, ck.cs, ck.s6, rfl, r, rfl, ⟨_, SqT.of g⟩, fun D hD => ?_⟩
    refine comp_tup (xs := ps.map V.ref) (fun u τ H' => ∃ v0 v1 qs zs, τ = [v0, v1, some (.ref x)] /\ Same H H' /\ H' D = some (.lst (qs.map V.ref)) /\ TwAt H' qs zs (rs.take u)) ⟨none, none, [], [], rfl, same_new hD _, upd_same, ⟨rfl, rfl, (fun i q y t a => by simp at a), (fun i y t a => by simp at a)⟩⟩ ?keep ?turn ?done
    case keep =>
      rintro u τ H' hi ⟨v0, v1, qs, zs, rfl, hs, _⟩
      exact SqT.of (hs _ _ g)
    case turn =>
      rintro u mm v τ H' hm hi hv ⟨v0, v1, qs, zs, rfl, hs, hD', tw⟩
      obtain ⟨q1, y, t, _, _, er, rfl, h1, st, mem⟩ := R.at_ hv
      refine ⟨q1, _, rfl, SqT.of (hs _ _ h1), rfl, _, _, rfl, _, _, rfl, rfl, ?_⟩
      refine tyes_if ?_
      refine ⟨_, rfl, ?_⟩
      refine told2 (st.same hs) (n := n0) (by omega) (fun R h => ⟨_, rfl, h⟩) fun r1 H2 s2 to2 => ?_
      refine ⟨sz2, fun T hT => ?_⟩
      have n3 := same_new hT (.tup [.int t.1, .ref r1])
      have hD3 := n3 _ _ (s2 _ _ hD')
      have ql : qs.length <= 4 := by rw [tw.lp, List.length_take]; omega
      have kt : ∀ (o : HO) b xs, upd H2 T (.tup [.int t.1, .ref r1]) b = some (.tup xs) -> upd (upd H2 T (.tup [.int t.1, .ref r1])) D o b = some (.tup xs) := fun o b xs e => by rw [upd_ne (ne_of e hD3 fun z => nomatch z)]; exact e
      refine comp_next hm hi hD3 (by rw [List.length_map]; exact small1000 (by omega)) ⟨_, _, qs ++ [T], zs ++ [r1], rfl, ((hs.trans s2).trans n3).upd_new hD _, by rw [upd_same, List.map_append]; rfl, ?_⟩
      rw [take_snoc er]
      exact (((tw.same s2).same n3).keep (kt _)).snoc (kt _ _ _ upd_same) ((to2.same n3).keep (kt _))
    case done =>
      rintro τ H' ⟨v0, v1, qs, zs, rfl, hs, hD', tw⟩
      rw [hl, List.take_length] at tw
      refine ⟨D, _, rfl, .inl ⟨SqL.of hD', fun t ht => ?_⟩⟩
      have n4 := same_new ht (.tup (qs.map V.ref))
      refine ⟨sz3, fun r2 hr2 => ?_⟩
      have n5 := same_new hr2 (.tup [.str "stage", .int p, .ref t])
      have tw5 := (tw.same n4).same n5
      exact q r2 _ ((hs.trans n4).trans n5) (.st upd_same (n5 _ _ upd_same) tw5.lp tw5.ly tw5.row tw5.sub)
theorem ok__law_deep {n : Nat} {f : Addr} {fd : FuncData} (F : Fun K "_law_deep" "_law_deep" (top 46) f fd) {n0 : Nat} {g__law_deep : Addr} {gd__law_deep : FuncData} (c__law_deep : Cal P w K mg base n "_law_deep" ["_law_told"] (spDp n0) g__law_deep gd__law_deep) (z_max : mg "max" = none) : FnOk P w K mg base CX0 (n + 1) f fd ["_law_told"] (spDp (n0 + 1)) := by
  refine F.ok sc__law_deep (fun vs H Q E h => ?_) (fun cdv A outer s H vs Q E hr h => ?_)
  · obtain ⟨a, s, d, m, rfl, _⟩ := h
    rfl
  obtain ⟨a, s, d, m, rfl, to, ok, dn, q⟩ := h
  have nd := sc__law_deep.nd
  refine ⟨_, (pss_cons (ps_if (pt_cmpR op_eq (pe_ix ix_tup (pv 0) pe_int (fun _ _ => rfl)) pe_str (nomark _)) (pss_one (ps_ret pe_int)) pss_nil) (pss_one (ps_ret (pe_op op_add pe_int (pe_callB (call_maxL rfl) rfl z_max bt_max (pa_cons (pe_comp (ls := ["_law_weight", "_law_part"]) (M := ["_law_told"]) rfl (CompOk.of (by rfl)) (NL.of (by rfl)) (pi_tup (pe_ix ix_tup (pv 0) pe_int (fun _ _ => rfl))) (fun _ _ _ _ => ⟨(pg_tupK (K := K) (n := 2) rfl rfl (pgs_cons (pg_name (i := 0) (nd_of (by rfl)) rfl (Or.inl rfl)) (pgs_cons (pg_name (i := 1) (nd_of (by rfl)) rfl (Or.inl rfl)) pgs_nil))), pts_nil, (pe_callC c__law_deep hr (pa_cons (pv 1) pa_nil))⟩)) pa_nil)))))), ?_⟩
  cases to with
  | @en _ v h =>
    refine ⟨_, rfl, a, _, _, _, rfl, rfl, SqT.of h, rfl, rfl, _, rfl, ?_⟩
    refine iteT ?_
    exact q H (Same.refl _)
  | @st _ r p rs ps ys h g lp ly row sub =>
    cases ok with
    | @st _ _ d _ j h0 h9 ne l4 ww oks hk =>
    have hlr : (ps.map V.ref).length = rs.length := by rw [List.length_map]; exact lp
    have n1 : 1 <= rs.length := List.length_pos_iff.mpr ne
    refine ⟨_, rfl, a, _, _, _, rfl, rfl, SqT.of h, rfl, rfl, _, rfl, ?_⟩
    refine iteF ?_
    refine ⟨_, rfl, a, _, _, _, rfl, rfl, SqT.of h, rfl, r, rfl, ⟨_, SqT.of g⟩, fun D hD => ?_⟩
    refine comp_tup (xs := ps.map V.ref) (fun u τ H' => ∃ v0 v1, τ = [v0, v1, some (.ref a)] /\ Same H H' /\ H' D = some (.lst (Is ((rs.take u).map fun t => Sd.nS (d + 1) t.2)))) ⟨none, none, rfl, same_new hD _, upd_same⟩ ?keep ?turn ?done
    case keep =>
      rintro u τ H' hi ⟨v0, v1, rfl, hs, _⟩
      exact SqT.of (hs _ _ g)
    case turn =>
      rintro u mm v τ H' hm hi hv ⟨v0, v1, rfl, hs, hD'⟩
      obtain ⟨q1, y1, t1, er, rfl, e1, to1, mem⟩ := to_at lp ly row sub hv
      refine ⟨q1, _, rfl, SqT.of (hs _ _ e1), rfl, _, _, rfl, _, _, rfl, rfl, ?_⟩
      refine tyes_if ?_
      refine ⟨_, rfl, y1, t1.2, d, j t1, rfl, to1.same hs, oks t1 mem, by omega, fun H2 s2 => ?_⟩
      refine comp_next hm hi (s2 _ _ hD') (by rw [is_length, List.length_map]; exact small1000 (Nat.le_trans (List.length_take_le _ _) (by omega))) ⟨_, _, rfl, (hs.trans s2).upd_new hD _, ?_⟩
      rw [upd_same, take_snoc er, List.map_append]
      show _ = some (HO.lst (Is (_ ++ [Sd.nS (d + 1) t1.2])))
      rw [is_snoc]
    case done =>
    rintro τ H2 ⟨v0, v1, rfl, s2, hD2⟩
    rw [hlr, List.take_length] at hD2
    refine ⟨D, _, rfl, SqL.of hD2, fun e => ne (List.map_eq_nil_iff.mp e), fun M hM hmax => ?_⟩
    refine ⟨_, _, rfl, rfl, ?_⟩
    have e : (1 : Int) + M = Sd.nS (d + 1 + 1) (.st p rs) := by
      rw [Sd.mxL_of (fun x hx => by obtain ⟨t, _, rfl⟩ := List.mem_map.mp hx; exact Sd.nS_nn _ _) hM hmax]
      rfl
    have := q H2 s2
    rw [<- e] at this
    exact this
theorem sz4 : 4 <= sizeLine := Nat.le_of_lt (small1000 (by decide))
theorem cat_one {K : PySem.W.Frag} {H : Hp} {a b : Addr} {xs ys : List V} {Q : VK} (ha : H a = some (.tup xs)) (hb : H b = some (.tup ys)) (ne : xs ≠ []) (sz : xs.length + ys.length <= 1000) (q : ∀ p H', Same H H' -> H' p = some (.tup (xs ++ ys)) -> Q (.ref p) H') : rCatT K (.ref a) (.ref b) H Q :=
  ⟨a, b, xs, ys, rfl, rfl, SqT.of ha, SqT.of hb, ne, Nat.le_of_lt (small1000 sz), fun e => q a H (Same.refl _) (by rw [e, List.append_nil]; exact ha), fun _ p hp => q p _ (same_new hp _) upd_same⟩
theorem lss_one {K : PySem.W.Frag} {H : Hp} {p e : Addr} {L x : Int × Int} {Q : VK} {E : XK} (hp : Tq H p L) (he : Tq H e x) (z1 : Z4 L) (z2 : Z4 x) (q : ∀ r, Tq H r (Sd.lss L x) -> Q (.ref r) H) : spLs K [.ref p, .ref e] H Q E :=
  ⟨p, e, L.1, L.2, x.1, x.2, rfl, SqT.of hp, SqT.of he, ⟨Nat.le_trans z1.t (by decide), Nat.le_trans z1.b (by decide), Nat.le_trans z2.t (by decide), Nat.le_trans z2.b (by decide)⟩, fun h => q e (by unfold Sd.lss; rw [if_pos h]; exact he), fun h => q p (by unfold Sd.lss; rw [if_neg h]; exact hp)⟩
theorem wys_keep {H H' : Hp} {F : Addr} {zs0 : List V} (hF : H F = some (.lst zs0)) (k : SameX F H H') {a : Addr} {ys : List Wy} (na : a ≠ F) (h : WysAt H a ys) : WysAt H' a ys :=
  ⟨k _ _ na h.lst, fun y hy => ⟨k _ _ (ne_of (h.each y hy).1 hF fun w => nomatch w) (h.each y hy).1, k _ _ (ne_of (h.each y hy).2.1 hF fun w => nomatch w) (h.each y hy).2.1, k _ _ (ne_of (h.each y hy).2.2.1 hF fun w => nomatch w) (h.each y hy).2.2.1, k _ _ (ne_of (h.each y hy).2.2.2 hF fun w => nomatch w) (h.each y hy).2.2.2⟩⟩
theorem ok_End_ways {n : Nat} {f : Addr} {fd : FuncData} (F : Fun K "ways" "End.ways" (inClass (top 28) 2) f fd) {c : Cs} (ck : CK K c) (cfE : Cls K c.e) {f_res : Addr} {fd_res : FuncData} (m_Er : Meth K c.e "reserve" f_res) (G_res : FnOk P w K mg base CX0 n f_res fd_res ["self"] (spRes c)) (b_res : Binds K fd_res ["self"] []) {g_whole : Addr} {gd_whole : FuncData} (c_whole : Cal P w K mg base n "whole" ["number"] spWh g_whole gd_whole) : FnOk P w K mg base CX0 (n + 1) f fd ["self"] (spWysE c) := by
  refine F.ok sc_End_ways (fun vs H Q E h => ?_) (fun cdv A outer s H vs Q E hr h => ?_)
  · obtain ⟨x, v, d, m, rfl, _⟩ := h
    rfl
  obtain ⟨x, v, d, m, rfl, st, q⟩ := h
  have nd := sc_End_ways.nd
  refine ⟨_, (pss_one (ps_ret (pe_lst (pa_cons (pe_tup (pa_cons (pe_tup pa_nil) (pa_cons (pe_callC c_whole hr (pa_cons pe_int pa_nil)) (pa_cons (pe_meth0 (pv 0) cfE m_Er G_res hr b_res .nil pass0) (pa_cons (pe_fld (pv 0) rfl) pa_nil))))) pa_nil)))), ?_⟩
  have st0 := st
  cases st with
  | @en _ dx l0 cp _ n' k' _ _ xs h vv ok =>
    refine ⟨Nat.zero_le _, fun a ha => ?_⟩
    have n1 := same_new ha (.tup [])
    refine ⟨1, rfl, fun b H2 s2 hb => ?_⟩
    have s12 := n1.trans s2
    refine ⟨_, rfl, x, dx, _, rfl, s12 _ _ h, rfl, x, .en v, d, m, rfl, st0.same s12, fun l lv hl lw rv => ?_⟩
    have e2 := rv.one ⟨_, Sd.mt_en v d⟩ lw.fr (Sd.fr1 v)
    subst e2
    refine ⟨_, rfl, x, c.e, dx, _, _, rfl, s12 _ _ h, ck.ce, ck.e5, rfl, sz4, fun T hT => ?_⟩
    have n3 := same_new hT (.tup [.ref a, .ref b, .ref l, .int v])
    refine ⟨sz1, fun r hr0 => ?_⟩
    have n4 := same_new hr0 (.lst [.ref T])
    have n34 := n3.trans n4
    refine q r _ [⟨T, a, b, l, ⟨[], (1, 1), (v, 1), v⟩⟩] (s12.trans n34) ((s12.trans n3).free hr0) ⟨upd_same, fun y hy => ?_⟩ (.en v d)
    rw [List.mem_singleton.mp hy]
    exact ⟨n4 _ _ upd_same, (s2.trans n34) _ _ upd_same, n34 _ _ hb, n34 _ _ hl⟩
theorem ok_Stage_ways {n : Nat} {f : Addr} {fd : FuncData} (F : Fun K "ways" "Stage.ways" (inClass (top 29) 4) f fd) {n0 : Nat} {c : Cs} (ck : CK K c) (cfE : Cls K c.e) (cfS : Cls K c.s) {f_res : Addr} {fd_res : FuncData} (m_Sr : Meth K c.s "reserve" f_res) (G_res : FnOk P w K mg base CX0 n f_res fd_res ["self"] (spRes c)) (b_res : Binds K fd_res ["self"] []) {f_rs : Addr} {fd_rs : FuncData} (m_rs : Meth K c.s "row_share" f_rs) (G_rs : FnOk P w K mg base CX0 n f_rs fd_rs ["self", "row"] (spRS c)) (b_rs : Binds K fd_rs ["self", "row"] []) {f_af : Addr} {fd_af : FuncData} (m_af : Meth K c.s "after" f_af) (G_af : FnOk P w K mg base CX0 n f_af fd_af ["self", "row"] (spAf c)) (b_af : Binds K fd_af ["self", "row"] []) {f_Ew : Addr} {fd_Ew : FuncData} (m_Ew : Meth K c.e "ways" f_Ew) (G_Ew : FnOk P w K mg base CX0 n f_Ew fd_Ew ["self"] (spWysE c)) (b_Ew : Binds K fd_Ew ["self"] []) {f_Sw : Addr} {fd_Sw : FuncData} (m_Sw : Meth K c.s "ways" f_Sw) (G_Sw : FnOk P w K mg base CX0 n f_Sw fd_Sw ["self"] (spWys c n0)) (b_Sw : Binds K fd_Sw ["self"] []) {g_lesser : Addr} {gd_lesser : FuncData} (c_lesser : Cal P w K mg base n "lesser" ["one", "other"] (spLs K) g_lesser gd_lesser) {g_times : Addr} {gd_times : FuncData} (c_times : Cal P w K mg base n "times" ["one", "other"] spTm g_times gd_times) (z_range : mg "range" = none) (z_len : mg "len" = none) : FnOk P w K mg base CX0 (n + 1) f fd ["self"] (spWys c (n0 + 1)) := by
  refine F.ok sc_Stage_ways (fun vs H Q E h => ?_) (fun cdv A outer s H vs Q E hr h => ?_)
  · obtain ⟨x, p, rs, d, m, rfl, _⟩ := h
    rfl
  obtain ⟨x, p, rs, d, m, rfl, st, dn, d4, m12, q⟩ := h
  have nd := sc_Stage_ways.nd
  refine ⟨_, (pss_cons (ps_set (i := 1) nd rfl (Or.inl rfl) (pe_lst pa_nil)) (pss_cons (ps_for PassesOwn.never rfl (pi_range1 rfl z_range (pa_cons (pe_callB call_len_seq rfl z_len bt_len (pa_cons (pe_fld (pv 0) rfl) pa_nil)) pa_nil)) (pg_name (i := 2) nd rfl (Or.inl rfl)) (pss_cons (ps_set (i := 3) nd rfl (Or.inl rfl) (pe_meth (pv 0) cfS m_rs G_rs hr b_rs .nil pass0 (pa_cons (pv 2) pa_nil))) (pss_one (ps_for PassesOwn.never rfl (pi_list (pe_either (pe_meth0 (pe_meth (pv 0) cfS m_af G_af hr b_af .nil pass0 (pa_cons (pv 2) pa_nil)) cfE m_Ew G_Ew hr b_Ew .nil pass0) (pe_meth0 (pe_meth (pv 0) cfS m_af G_af hr b_af .nil pass0 (pa_cons (pv 2) pa_nil)) cfS m_Sw G_Sw hr b_Sw .nil pass0))) (pg_tup rfl (pgs_cons (pg_name (i := 4) nd rfl (Or.inl rfl)) (pgs_cons (pg_name (i := 5) nd rfl (Or.inl rfl)) (pgs_cons (pg_name (i := 6) nd rfl (Or.inl rfl)) (pgs_cons (pg_name (i := 7) nd rfl (Or.inl rfl)) pgs_nil))))) (pss_one (ps_expr (pe_bm PySem.F.plainAttrs_list PySem.F.slot_list_append PySem.F.type_list_append mt_append (pv 1) (pa_cons (pe_tup (pa_cons (pe_op op_catT (pe_tup (pa_cons (pv 2) pa_nil)) (pv 4)) (pa_cons (pe_callC c_times hr (pa_cons (pv 3) (pa_cons (pv 5) pa_nil))) (pa_cons (pe_callC c_lesser hr (pa_cons (pe_meth0 (pv 0) cfS m_Sr G_res hr b_res .nil pass0) (pa_cons (pv 6) pa_nil))) (pa_cons (pv 7) pa_nil))))) pa_nil)))))))) (pss_one (ps_ret (pv 1))))), ?_⟩
  have st0 := st
  have ok := st.ok
  cases ok with
  | @st _ _ d _ j0 p0 p9 ne l4 ww oks hk =>
  cases st with
  | @st _ dx l0 cp r _ n' k' lv _ _ j xs _ ps ys h vv g lp ly row sub _ _ _ _ _ hk2 =>
  have hlr : (ps.map V.ref).length = rs.length := by rw [List.length_map]; exact lp
  have W := Sd.wt_pos ne ww l4
  refine ⟨Nat.zero_le _, fun F hF => ?_⟩
  have n1 := same_new hF (.lst [])
  refine ⟨_, rfl, x, c.s, dx, _, _, rfl, n1 _ _ h, ck.cs, ck.s6, rfl, r, _, rfl, .inr (SqT.of (n1 _ _ g)), (rs.length : Int), by rw [hlr], by omega, by omega, ?_⟩
  refine for_range (n := (rs.length : Int).toNat) (fun i σ H' => ∃ v2 v3 v4 v5 v6 v7 ys wss, σ = [some (.ref x), some (.ref F), v2, v3, v4, v5, v6, v7] /\ Same H H' /\ WysAt H' F ys /\ wss.length = i /\ (∀ (j : Nat) t ws, rs[j]? = some t -> wss[j]? = some ws -> Sd.WR d t.2 ws) /\ ys.map Wy.z = Sd.wall lv rs wss i /\ ys.length <= 12 * i) ⟨none, none, none, none, none, none, [], [], rfl, n1, ⟨upd_same, fun _ h => nomatch h⟩, rfl, (fun j t ws _ h => by simp at h), rfl, Nat.le_refl _⟩ ?turn ?done
  case done =>
    rintro σ H' ⟨v2, v3, v4, v5, v6, v7, ys, wss, rfl, hs, hW, wl, wr, ew, _⟩
    rw [show (rs.length : Int).toNat = rs.length by omega] at wl ew
    exact ⟨_, rfl, q F H' ys hs hF hW (by rw [ew]; exact .st ⟨_, vv.mt⟩ vv.lw wl wr)⟩
  case turn =>
    rintro i σ H' hi ⟨v2, v3, v4, v5, v6, v7, ys0, wss, rfl, hs, hW, wl, wr, ew, yl⟩
    have hi' : i < rs.length := by omega
    obtain ⟨t, ht⟩ : ∃ t, rs[i]? = some t := ⟨_, List.getElem?_eq_getElem hi'⟩
    have hmem := List.mem_of_getElem? ht
    refine ⟨_, rfl, x, dx, _, rfl, hs _ _ h, rfl, _, rfl, x, p, rs, _, m, i, t, by rw [Int.zero_add]; rfl, st0.same hs, ht, fun r1 H2 s2 hr1 => ?_⟩
    have hs2 := hs.trans s2
    refine ways2 (s := t.2) (d := d) (m := m) (n := n0) (σ := [some (.ref x), some (.ref F), some (.int (0 + (i : Int))), some (.ref r1), v4, v5, v6, v7]) (by omega) (by omega) m12 (fun R h2 => ⟨_, rfl, x, dx, _, rfl, hs2 _ _ h, rfl, _, rfl, x, p, rs, d, m, i, t, by rw [Int.zero_add]; rfl, st0.same hs2, ht, h2⟩) fun r2 H3 zs s3 hr2n hZ wr2 => ?_
    have hs3 := hs2.trans s3
    have hF3 : H3 F = some (.lst (wrefs ys0)) := (s2.trans s3) _ _ hW.lst
    have nr2 : r2 ≠ F := fun e => by rw [e] at hr2n; rw [s2 _ _ hW.lst] at hr2n; cases hr2n
    have okt := oks t hmem
    have j12 : j0 t <= 12 := Nat.le_trans (Sd.f_le hk t hmem) m12
    have z12 : zs.length <= 12 := by have := wr2.l12 okt j12; rwa [List.length_map] at this
    have wb := wr2.wb okt (by omega)
    have s1 := Sd.sh_w (ww t hmem).1 (Sd.mem_wt ww hmem)
    have zsh : Z4 (Fr.sh t.1 (Sd.wtot rs)) := fq_z5 s1.1 (by omega) (Int.le_trans W.2 (Int.le_trans (by decide : (4000 : Int) <= 2 ^ 12) (Sd.pow_le2 (by decide)))) (by decide) (Sd.pow_pos2 _)
    refine ⟨r2, rfl, ⟨_, SqL.of hZ.lst⟩, ?_⟩
    refine for_list (xs := wrefs zs) (fun u σ H' => ∃ v4 v5 v6 v7 ys, σ = [some (.ref x), some (.ref F), some (.int (0 + (i : Int))), some (.ref r1), v4, v5, v6, v7] /\ Same H H' /\ SameX F H3 H' /\ WysAt H' F ys /\ ys.map Wy.z = Sd.wall lv rs wss i ++ ((zs.take u).map Wy.z).map (Sd.wstep lv i (Fr.sh t.1 (Sd.wtot rs))) /\ ys.length <= 12 * i + u) ⟨v4, v5, v6, v7, ys0, rfl, hs3, fun _ _ _ e => e, (hW.same s2).same s3, by rw [ew]; simp, yl⟩ ?keep2 ?turn2 ?done2
    case keep2 =>
      rintro u σ H' hu ⟨v4, v5, v6, v7, ys, rfl, hsu, kx, _⟩
      exact SqL.of (kx _ _ nr2 hZ.lst)
    case done2 =>
      rintro σ H' ⟨v4, v5, v6, v7, ys, rfl, hsu, kx, hY, ey, yl2⟩
      rw [wrefs_length] at yl2 ey
      rw [List.take_length] at ey
      have wi : (wss ++ [zs.map Wy.z])[i]? = some (zs.map Wy.z) := by rw [List.getElem?_append_right (by omega), wl, Nat.sub_self]; rfl
      refine ⟨_, _, _, _, _, _, ys, wss ++ [zs.map Wy.z], rfl, hsu, hY, by rw [List.length_append, wl]; rfl, fun jj t' ws' e1 e2 => ?_, by rw [ey, Sd.wall_succ ht wi, Sd.wall_take (by omega)], by omega⟩
      by_cases hj : jj < wss.length
      · rw [List.getElem?_append_left hj] at e2
        exact wr jj t' ws' e1 e2
      · have h2 := (List.getElem?_eq_some_iff.mp e2).1
        rw [List.length_append, List.length_singleton] at h2
        have ej : jj = i := by omega
        subst ej
        rw [wi] at e2
        rw [ht] at e1
        cases e1
        cases e2
        exact wr2
    case turn2 =>
      rintro u v σ H4 hv ⟨v4, v5, v6, v7, ys, rfl, hsu, kx, hY, ey, yl2⟩
      obtain ⟨y, hy, rfl⟩ := wrefs_at hv
      have hu := (List.getElem?_eq_some_iff.mp hy).1
      have hym := List.mem_of_getElem? hy
      have wy := (wys_keep hF3 kx nr2 hZ).each y hym
      have b := wb y.z (List.mem_map.mpr ⟨y, hym, rfl⟩)
      have r1x : r1 ≠ F := ne_of (s3 _ _ hr1) hF3 fun w => nomatch w
      refine ⟨y.a, _, rfl, SqT.of wy.1, rfl, _, _, rfl, _, _, rfl, _, _, rfl, _, _, rfl, rfl, ?_⟩
      refine ⟨_, rfl, .inl ⟨rfl, _, SqL.of hY.lst⟩, _, rfl, sz1, fun a1 ha1 => ?_⟩
      have n5 := same_new ha1 (.tup [.int (0 + (i : Int))])
      have h5 : upd H4 a1 (.tup [.int (0 + (i : Int))]) a1 = some (.tup [.int (0 + (i : Int))]) := upd_same
      generalize upd H4 a1 (.tup [.int (0 + (i : Int))]) = H5 at n5 h5 ⊢
      refine ⟨_, rfl, ?_⟩
      refine cat_one h5 (n5 _ _ wy.2.1) (by simp) (by rw [is_length]; have := b.l; show 1 + _ <= 1000; omega) fun wp H6 s6 hwp => ?_
      have k6 := n5.trans s6
      refine ⟨_, rfl, _, rfl, r1, y.b, _, _, rfl, k6 _ _ (kx _ _ r1x (s3 _ _ hr1)), k6 _ _ wy.2.2.1, zsh, wb_z b (by omega), fun r3 H7 s7 hr3 => ?_⟩
      have k7 := k6.trans s7
      have hx7 : H7 x = some (.ins c.s dx (fS n' k' l0 cp p r)) := (hsu.trans k7) _ _ h
      refine ⟨_, rfl, x, dx, _, rfl, hx7, rfl, x, .st p rs, d + 1, m, rfl, st0.same (hsu.trans k7), fun l2 lv2 hl2 lw2 rv2 => ?_⟩
      have e2 := rv2.one ⟨_, vv.mt⟩ lw2.fr vv.lw.fr
      subst e2
      refine ⟨_, rfl, ?_⟩
      dsimp only [tNil]
      refine lss_one hl2 (k7 _ _ wy.2.2.2) (lw_z4 lw2) (lw_z4 b.c) fun e7 he7 => ?_
      refine ⟨_, rfl, sz4, fun T hT => ?_⟩
      have n8 := same_new hT (.tup [.ref wp, .ref r3, .ref e7, .int y.z.v])
      have hY8 := (hY.same k7).same n8
      refine ⟨F, _, _, rfl, rfl, hY8.lst, by rw [wrefs_length]; exact small1000 (by omega), ?_⟩
      have wn : WyAt (upd H7 T (.tup [.ref wp, .ref r3, .ref e7, .int y.z.v])) ⟨T, wp, r3, e7, Sd.wstep lv2 i (Fr.sh t.1 (Sd.wtot rs)) y.z⟩ := by
        refine ⟨upd_same, n8 _ _ (s7 _ _ ?_), n8 _ _ hr3, n8 _ _ he7⟩
        rw [hwp, Int.zero_add]
        rfl
      refine ⟨_, _, _, _, ys ++ [⟨T, wp, r3, e7, Sd.wstep lv2 i (Fr.sh t.1 (Sd.wtot rs)) y.z⟩], rfl, ((hsu.trans k7).trans n8).upd_new hF _, fun b' o nb e => ?_, hY8.push wn, ?_, by rw [List.length_append, List.length_singleton]; omega⟩
      · rw [upd_ne nb]
        exact n8 _ _ (k7 _ _ (kx _ _ nb e))
      · rw [List.map_append, ey, take_snoc hy, List.map_append, List.map_append, List.append_assoc]
        rfl
end
end K11
namespace L2
open PySem PySem.Spec PyProof.Rows
def cSq (tp : Bool) : String := if tp then "tuple" else "list"
def cIt (tp : Bool) : String := if tp then "tuple_iterator" else "list_iterator"
def SqIs (tp : Bool) (h : Heap) (l : Addr) (its : Array Value) : Prop := ∃ o, h.get? l = some o /\ o.cls = .type (cSq tp) /\ ∃ n, o.data = .seq its n
def SqIt (tp : Bool) (h : Heap) (it l : Addr) (i : Nat) : Prop := ∃ o, h.get? it = some o /\ o.cls = .type (cIt tp) /\ o.data = .fields #[.ref l, .int i 0]
theorem SqIs.keep {tp : Bool} {h h' : Heap} {l : Addr} {its : Array Value} (x : SqIs tp h l its) (k : ∀ o, h.get? l = some o -> h'.get? l = some o) : SqIs tp h' l its := let ⟨o, e, r⟩ := x; ⟨o, k o e, r⟩
theorem SqIt.keep {tp : Bool} {h h' : Heap} {it l : Addr} {i : Nat} (x : SqIt tp h it l i) (k : ∀ o, h.get? it = some o -> h'.get? it = some o) : SqIt tp h' it l i := let ⟨o, e, r⟩ := x; ⟨o, k o e, r⟩
theorem SqIs.lt {tp : Bool} {h : Heap} {l : Addr} {its : Array Value} (x : SqIs tp h l its) : l < h.objs.size := let ⟨_, e, _⟩ := x; Heap.lt_size e
def SqK (tp : Bool) (K : PySem.W.Frag) (H : Hp) (a : Addr) (xs : List V) : Prop := match tp with | true => SqT K H a xs | false => SqL K H a xs
section
variable {X : Cx} {pins : List (Addr × Obj)} {σ : St} {H : Hp} {s : Shared}
theorem Inv.sqk {tp : Bool} {a : Addr} {xs : List V} (I : Inv X pins σ H s) (h : SqK tp X.K H a xs) : ∃ its : List Value, Vals xs its /\ SqIs tp s.heap a its.toArray /\ xs.length <= sizeLine := by
  cases tp
  · obtain ⟨its, r, pl, z⟩ := I.list h
    exact ⟨its, r, pl.isList, z⟩
  · obtain ⟨its, r, pl, z⟩ := I.tuple h
    exact ⟨its, r, pl, z⟩
theorem Inv.sqk_inj {tp : Bool} {a : Addr} {xs ys : List V} (I : Inv X pins σ H s) (h : SqK tp X.K H a xs) (g : SqK tp X.K H a ys) : xs = ys := by
  cases tp
  · exact I.list_inj h g
  · exact I.tuple_inj h g
end
section
variable {prog : Program} {w : World} {A : Around} {E : Value -> Shared -> Prop} {s : Shared}
theorem sq_iter {tp : Bool} {l : Addr} {its : Array Value} {Q : Value -> Shared -> Prop} (x : SqIs tp s.heap l its)
    (q : Q (.ref s.heap.objs.size) { s with heap := s.heap.push { cls := .type (cIt tp), data := .fields #[.ref l, .int 0 0] } }) : wpAny (model prog w) A (pyIter (.ref l)) Q E s := by
  cases tp
  · exact wpAny_pyIter_list (items := its) x q
  · exact iter_tuple (items := its) x q
theorem sq_next {tp : Bool} {it l : Addr} {i : Nat} {its : Array Value} {v : Value} {Q : Value -> Shared -> Prop} (hi : SqIt tp s.heap it l i) (hl : SqIs tp s.heap l its) (hv : its[i]? = some v)
    (q : ∀ h', SqIt tp h' it l (i + 1) -> Heap.SameBut it s.heap h' -> Q v { s with heap := h' }) : wpAny (model prog w) A (Builtin.SmallTypes.nextOf (.ref it)) Q E s := by
  cases tp
  · exact wpAny_nextOf_list_item (l := l) (items := its) hi hl hv q
  · have ti : s.TypeIs (.ref it) "tuple_iterator" := IsTupIter.typeIs (t := l) (i := i) hi
    obtain ⟨o, ho, hc, hd⟩ := id hi
    obtain ⟨p, hp, _, m, hm⟩ := hl
    unfold Builtin.SmallTypes.nextOf
    refine wpAny_bind (wpAny_callSpecial?_slot (name := Str.ofString "__next__") ti slot_tupleiter_next (wpAny_call_entry slot_tupleiter_next ti entry_tupleiter_next ?_ (args_tupleiter_next _)))
    show wpAny _ _ (field (.ref it) 0 >>= _) _ _ s
    refine wpAny_bind (wpAny_field ho hd (x := .ref l) rfl ?_)
    show wpAny _ _ (if (Value.ref l == Value.none) = true then _ else _) _ _ s
    rw [if_neg (show ¬ ((Value.ref l == Value.none) = true) from Bool.false_ne_true)]
    show wpAny _ _ (field (.ref it) 1 >>= _) _ _ s
    refine wpAny_bind (wpAny_field ho hd (x := .int i 0) rfl ?_)
    show wpAny _ _ (seqItems? (.ref l) >>= _) _ _ s
    refine wpAny_bind (wpAny_seqItems hp hm ?_)
    simp only [Int.toNat_natCast, hv]
    refine wpAny_bind (wpAny_setField ho hd (by simp) (wpAny_pure ⟨v, rfl, wpAny_pure (q _ ?_ (Heap.SameBut.update ..))⟩))
    exact ⟨_, Heap.get?_update_self _ ho (Obj.isFreed_of_fields (Obj.data_mapFields hd _)), (Obj.cls_mapFields ..).trans hc, by rw [Obj.data_mapFields hd]; simp [rawInt]⟩
theorem sq_stop {tp : Bool} {it l : Addr} {i : Nat} {its : Array Value} {Q : Value -> Shared -> Prop} (hh : A.handled = none) (hi : SqIt tp s.heap it l i) (hl : SqIs tp s.heap l its) (hv : its[i]? = none)
    (q : ∀ h' e, Heap.ExtBut it s.heap h' -> (∃ o, h'.get? e = some o /\ o.cls = .type "StopIteration") -> E (.ref e) { s with heap := h' }) : wpAny (model prog w) A (Builtin.SmallTypes.nextOf (.ref it)) Q E s := by
  cases tp
  · exact wpAny_nextOf_list_end (l := l) (items := its) hh hi hl hv q
  · have ti : s.TypeIs (.ref it) "tuple_iterator" := IsTupIter.typeIs (t := l) (i := i) hi
    obtain ⟨o, ho, hc, hd⟩ := id hi
    obtain ⟨p, hp, _, m, hm⟩ := hl
    unfold Builtin.SmallTypes.nextOf
    refine wpAny_bind (wpAny_callSpecial?_slot (name := Str.ofString "__next__") ti slot_tupleiter_next (wpAny_call_entry slot_tupleiter_next ti entry_tupleiter_next ?_ (args_tupleiter_next _)))
    show wpAny _ _ (field (.ref it) 0 >>= _) _ _ s
    refine wpAny_bind (wpAny_field ho hd (x := .ref l) rfl ?_)
    show wpAny _ _ (if (Value.ref l == Value.none) = true then _ else _) _ _ s
    rw [if_neg (show ¬ ((Value.ref l == Value.none) = true) from Bool.false_ne_true)]
    show wpAny _ _ (field (.ref it) 1 >>= _) _ _ s
    refine wpAny_bind (wpAny_field ho hd (x := .int i 0) rfl ?_)
    show wpAny _ _ (seqItems? (.ref l) >>= _) _ _ s
    refine wpAny_bind (wpAny_seqItems hp hm ?_)
    simp only [Int.toNat_natCast, hv]
    refine wpAny_bind (wpAny_rule (wpAny_bind (wpAny_setField ho hd (by simp) ?_)))
    show wpAny _ _ (newExc (.type "StopIteration") [] >>= _) _ _ _
    refine wpAny_bind ?_
    simp only [newExc, newTuple]
    refine wpAny_bind (wpAny_newObj_type ?_ (by size_fits))
    refine wpAny_bind (m := firstArgMember _ _) (wpAny_of_eq (a := Value.none) (by first | rfl | (simp only [firstArgMember]; rfl)) ?_)
    refine wpAny_newObj_type ?_ (by size_fits)
    simp only [raiseNew]
    refine wpAny_bind (wpAny_handled ?_)
    first | rw [show A.in1.handled = none from hh] | rw [hh]
    refine wpAny_bind (wpAny_pure (wpAny_throw ?_))
    exact q _ _ (((Heap.SameBut.update ..).extBut.push _).push _) ⟨_, Heap.get?_push_size _ rfl, rfl⟩
end
end L2
namespace L2
open PySem PySem.Spec PyProof.Rows
structure ZAt (p q : Bool) (h : Heap) (z ti to a b l m : Addr) (i : Nat) : Prop where
  zip : IsZip h z ti to .none
  its : IsPair h ti (.ref a) (.ref b)
  own : ∃ x y, IsPair h to x y
  one : SqIt p h a l i
  two : SqIt q h b m i
structure ZNe (z ti to a b l m : Addr) : Prop where
  tz : ti ≠ z
  oz : to ≠ z
  az : a ≠ z
  bz : b ≠ z
  ot : to ≠ ti
  ta : ti ≠ a
  tb : ti ≠ b
  oa : to ≠ a
  ob : to ≠ b
  ab : a ≠ b
  lz : l ≠ z
  lo : l ≠ to
  la : l ≠ a
  lb : l ≠ b
  mz : m ≠ z
  mo : m ≠ to
  ma : m ≠ a
  mb : m ≠ b
section
variable {prog : Program} {w : World} {A : Around} {E : Value -> Shared -> Prop} {s : Shared} {p q : Bool} {z ti to a b l m : Addr} {i : Nat} {xs ys : Array Value}
end
end L2
namespace L2
open PySem PySem.Spec PyProof.Rows
section
variable {prog : Program} {w : World} {A : Around} {E : Value -> Shared -> Prop} {s : Shared} {p q : Bool} {z ti to a b l m : Addr} {i : Nat} {xs ys : Array Value}
end
def itOb (tp : Bool) (l : Addr) : Obj := { cls := .type (cIt tp), data := .fields #[.ref l, .int 0 0] }
theorem SqIs.push {tp : Bool} {h : Heap} {l : Addr} {its : Array Value} (x : SqIs tp h l its) (o : Obj) : SqIs tp (h.push o) l its := x.keep fun _ e => Heap.get?_push_of_some _ e
section
variable {prog : Program} {w : World} {A : Around} {E : Value -> Shared -> Prop} {s : Shared} {p q : Bool} {l m : Addr} {xs ys : Array Value}
end
end L2
namespace L2
open PySem PySem.Spec PyProof.Rows
section
variable {X : Cx}
end
end L2
namespace L2
open PySem PySem.Spec PyProof.Rows
section
variable {X : Cx}
theorem bt_enumerate : bootBuiltins "enumerate" = some (.type "enumerate") := by decide +kernel
end
end L2
namespace L2
open PySem PySem.Spec PyProof.Rows
def enOb (a : Addr) : Obj := { cls := .type "enumerate", data := .fields #[.none, .bool false, .ref a, rawInt 0, .none, .none] }
def eC (tp : Bool) (h : Heap) (l : Addr) : Heap := (h.push (itOb tp l)).push (enOb h.objs.size)
theorem enum_made (tp : Bool) (l : Addr) (xs : Array Value) :
    Meets (Builtin.«enumerate.__new__» ⟨[.type "enumerate", .ref l], []⟩) (fun _ R s => SqIs tp s.heap l xs /\ R (.ok (.ret (.ref (s.heap.push (itOb tp l)).objs.size))) { s with heap := eC tp s.heap l }) :=
  .of_wp fun prog w A R s h => by
    obtain ⟨hp, g, d, tk, os⟩ := s
    obtain ⟨h1, h⟩ := h
    have hsub := sub_enumerate
    have k1 : SqIs tp (Shared.heap ⟨hp, g, d, tk, os⟩) l xs := h1
    wp_walk
    refine wpAny_stack_any fun st => wpAny_pure ?_
    split
    · rename_i c _ _ _ _ _
      cases (c == Value.type "enumerate") <;> (wp_walk using sq_iter k1; exact ⟨_, rfl, h⟩)
    · (wp_walk using sq_iter k1; exact ⟨_, rfl, h⟩)
section
variable {prog : Program} {w : World} {A : Around} {E : Value -> Shared -> Prop} {s : Shared} {tp : Bool} {l : Addr} {xs : Array Value}
theorem enum_call {Q : Value -> Shared -> Prop} (h1 : SqIs tp s.heap l xs)
    (k : ∀ h', IsEnum h' (s.heap.objs.size + 1) s.heap.objs.size 0 .none -> SqIt tp h' s.heap.objs.size l 0 -> (∀ c o, s.heap.get? c = some o -> h'.get? c = some o) -> Q (.ref (s.heap.objs.size + 1)) { s with heap := h' }) :
    wpAny (model prog w) A (call (.type "enumerate") [.ref l]) Q E s := by
  refine callType_new F.called_enumerate (by decide) (F.typeCall_enumerate_1 _) (F.newCall_enumerate_1 _) (fun obj => F.args_object_init_2 obj _) F.entry_enumerate_new (enum_made tp l xs) ⟨h1, ?_⟩
  have n1 : (s.heap.push (itOb tp l)).objs.size = s.heap.objs.size + 1 := Heap.size_push ..
  have e2 : (eC tp s.heap l).get? (s.heap.push (itOb tp l)).objs.size = some (enOb s.heap.objs.size) := Heap.get?_push_size _ rfl
  have e1 : (eC tp s.heap l).get? s.heap.objs.size = some (itOb tp l) := Heap.get?_push_of_some _ (Heap.get?_push_size _ rfl)
  rw [n1] at e2
  show _ /\ _
  rw [n1]
  exact ⟨⟨_, e2, rfl⟩, k _ e2 ⟨_, e1, rfl, rfl⟩ fun c o e => Heap.get?_push_of_some _ (Heap.get?_push_of_some _ e)⟩
end
theorem draws_sq {prog : Program} {w : World} {A : Around} {tp : Bool} (hh : A.handled = none) (it l : Addr) (hne : l ≠ it) (its : Array Value) :
    Draws prog w A it [it, l] its.size (fun i v => its[i]? = some v) (fun i h => SqIt tp h it l i /\ SqIs tp h l its) where
  live := fun _ _ st => by
    obtain ⟨⟨o, ho, _⟩, _⟩ := st
    exact ⟨o, ho⟩
  frame := fun _ _ _ st hk => ⟨st.1.keep fun o e => hk it List.mem_cons_self o e, st.2.keep fun o e => hk l (List.mem_cons_of_mem _ List.mem_cons_self) o e⟩
  item := fun i s Q E hi st hQ => sq_next st.1 st.2 (v := its[i]) (by simp [hi]) fun h' a b => hQ _ h' s.toks (by simp [hi]) ⟨a, st.2.keep fun o e => b.extBut _ _ hne e⟩ b
  done := fun s Q E st hE => sq_stop hh st.1 st.2 (by simp) hE
section
variable {X : Cx}
def ItEt (K : PySem.W.Frag) (a : Addr) : It :=
  ⟨fun i H => ∃ xs x, SqT K H a xs /\ xs[i]? = some x,
   fun i H v H' => ∃ x T, H T = none /\ v = .ref T /\ H' = upd H T (.tup [.int i, x]) /\ ∀ xs, SqT K H a xs -> xs[i]? = some x,
   fun i H => ∃ xs, SqT K H a xs /\ xs.length = i⟩
theorem turn_et {P : Program} {w : World} {K : PySem.W.Frag} {elts : List Expr} {kk : Nat} {tpos : Pos} {e it a : Addr} (n1 : e ≠ it) (n2 : a ≠ it) (n3 : e ≠ a) :
    Turn P w K (.Tuple elts kk tpos) (ItEt K a) [e, it] e (fun i h => ∃ old, IsEnum h e it i old /\ SqIt true h it a i) where
  mem := by simp
  obj := fun i h st c hc => by
    obtain ⟨old, he, ⟨o1, e1, c1, d1⟩⟩ := st
    simp only [List.mem_cons, List.not_mem_nil, or_false] at hc
    rcases hc with rfl | rfl
    · exact ⟨_, he, fun v z => nomatch z⟩
    · exact ⟨_, e1, fun v z => by rw [d1] at z; cases z⟩
  keep := fun i h h' st k => by
    obtain ⟨old, he, h1⟩ := st
    exact ⟨old, k e (by simp) _ he, h1.keep fun o e => k it (by simp) o e⟩
  item := by
    intro X hP hw hK hc i pins s σ H E I hf st hg
    subst hP hw hK
    obtain ⟨xs, x, ha, hx⟩ := hg
    obtain ⟨old, he, h1⟩ := st
    obtain ⟨its, rv, pl, _⟩ := I.sqk (tp := true) ha
    obtain ⟨u, hu, ru⟩ := rv.get hx
    have il : i < its.toArray.size := by
      have := (List.getElem?_eq_some_iff.mp hu).1
      simpa using this
    refine wpAny_pyNext_enum_itemD (draws_sq (tp := true) (by rw [show X.A.in1.handled = X.A.handled from rfl]; exact I.ok.hd hc) it a n2 its.toArray) he ⟨h1, pl⟩ il n1 (by simp [n1, n3]) fun y h' tk hy g1 g2 g3 g4 g5 => ?_
    have ey : y = u := by
      have hy : its.toArray[i]? = some y := hy
      rw [List.getElem?_toArray, hu] at hy
      cases hy
      rfl
    subst ey
    refine ⟨_, rfl, ?_⟩
    refine wpAny_letOwnedTupleGo_enum (s := { s with heap := h', toks := tk + 1 }) g1 fun h2 e2 k2 => ?_
    have lt : ∀ {c o}, s.heap.get? c = some o -> s.heap.objs.size ≠ c := fun q => Nat.ne_of_gt (Heap.lt_size q)
    have fr : H s.heap.objs.size = none := I.hok.fresh (Nat.le_refl _)
    have hT : h2.get? s.heap.objs.size = some { cls := .type "tuple", data := .seq #[.int i tk, y] } := k2.extBut _ _ (lt he) g3
    obtain ⟨o1, e1, r1⟩ := id h1
    refine ⟨.ref s.heap.objs.size, upd H s.heap.objs.size (.tup [.int i, x]), ?_, rfl, ⟨x, _, fr, rfl, rfl, fun zs h => by rw [I.sqk_inj (tp := true) h ha]; exact hx⟩, ⟨y, by simpa using e2, g2.1.keep fun o e => k2.extBut _ _ n1.symm e⟩, fun c hc => ?_⟩
    · refine I.turnedLaid (t' := tk + 1) (ch := [e, it]) hf (fun c o hc q => ?_) (Nat.le_refl _) ⟨Nat.le_of_lt (small1000 (show 2 <= 1000 by decide)), [.int i tk, y], .cons ⟨_, rfl⟩ (.cons ru .nil), _, hT, rfl, _, rfl⟩
      simp only [List.mem_cons, List.not_mem_nil, or_false, not_or] at hc
      exact k2.extBut _ _ hc.1 (g5 c o hc.1 hc.2 q)
    · have ne : c ≠ s.heap.objs.size := fun z => by
        simp only [List.mem_cons, List.not_mem_nil, or_false] at hc
        rcases hc with rfl | rfl
        · exact lt he z.symm
        · exact lt e1 z.symm
      rw [upd_ne ne]
      exact (hf c hc).1
  done := by
    intro X hP hw hK hc i pins s σ H E I hf st hg
    subst hP hw hK
    obtain ⟨xs, ha, hx⟩ := hg
    obtain ⟨old, he, h1⟩ := st
    obtain ⟨its, rv, pl, _⟩ := I.sqk (tp := true) ha
    have li : its.toArray.size = i := by
      have := rv.length
      rw [List.size_toArray]
      omega
    subst li
    refine wpAny_pyNext_enum_endD (draws_sq (tp := true) (by rw [show X.A.in1.handled = X.A.handled from rfl]; exact I.ok.hd hc) it a n2 its.toArray) he ⟨h1, pl⟩ fun h' g => ⟨rfl, I.turnedN (t' := s.toks) (ch := [e, it]) hf fun c o hc q => ?_⟩
    simp only [List.mem_cons, List.not_mem_nil, or_false, not_or] at hc
    exact g c o hc.2 q
  self := fun _ _ _ _ _ st h => by
    obtain ⟨old, he, _⟩ := st
    exact wpAny_pyIter_enum he h
def iEt (K : PySem.W.Frag) (ta : TA) : TI := fun σ H R => ta σ H fun vs H1 => ∃ a xs, vs = [.ref a] /\ SqT K H1 a xs /\ R (ItEt K a) H1
theorem pi_enumT {K : PySem.W.Frag} {a : Expr} {ta : TA} {p pos tpos : Pos} {elts : List Expr} {kk : Nat} (hK : X.K = K) (hg : Gl X "enumerate") (hm : X.mg "enumerate" = none) (ha : PA X [a] ta) (hs : starEach [a] X.env = [(false, eval a X.env)] := by rfl) : PI X (.Tuple elts kk tpos) (.Call (.Name "enumerate" p) [a] [] pos) (iEt K ta) := by
  subst hK
  intro pins s σ H R I h
  refine Call_ (ld_blt I hg hm bt_enumerate (PyProof.Rows.callWith_type1 (thn (ha pos pins s σ H _ I h) fun us s1 ⟨vs, H1, I1, r1, q1⟩ => ?_) hs rfl))
  obtain ⟨b, xs, e, hS, q⟩ := q1
  subst e
  obtain ⟨u, rfl, ru⟩ := vals1 r1
  cases (show u = Value.ref b from ru)
  obtain ⟨its, rv, pl, _⟩ := I1.sqk (tp := true) hS
  have lb : b < s1.heap.objs.size := pl.lt
  refine enum_call pl fun h' g1 g2 g4 => ?_
  refine wpAny_pyIter_enum g1 ?_
  refine ⟨s1.heap.objs.size + 1, [s1.heap.objs.size + 1, s1.heap.objs.size], _, _, H1, rfl, I1.kept (t' := s1.toks) g4, turn_et (by show (_ : Nat) ≠ _; omega) (by show (_ : Nat) ≠ _; exact Nat.ne_of_lt lb) (by show (_ : Nat) ≠ _; exact Nat.ne_of_gt (Nat.lt_succ_of_lt lb)), ⟨_, g1, g2⟩, fun c hc => ?_, q⟩
  have le : s1.heap.objs.size <= c := by
    simp only [List.mem_cons, List.not_mem_nil, or_false] at hc
    rcases hc with rfl | rfl <;> first | exact Nat.le_add_right _ _ | exact Nat.le_refl _
  exact I1.fpOk le (I1.hok.fresh le)
theorem for_enumT {K : PySem.W.Frag} {a : Addr} {xs : List V} {g : TG} {tb : TS} {D : Ends} {σ : St} {H : Hp} (Pv : Nat -> St -> Hp -> Prop) (h0 : Pv 0 σ H) (hl : ∀ i σ H, i <= xs.length -> Pv i σ H -> SqT K H a xs)
    (hs : ∀ i x T σ H, xs[i]? = some x -> H T = none -> Pv i σ H -> g (.ref T) σ (upd H T (.tup [.int (i : Int), x])) fun σ2 H2 => tb { D with nx := Pv (i + 1), ct := Pv (i + 1), bk := D.nx } σ2 H2) (hd : ∀ σ H, Pv xs.length σ H -> D.nx σ H) :
    ∃ W : Nat -> Nat -> St -> Hp -> Prop, (∃ m, W 0 m σ H) /\ ∀ i m σ H, W i m σ H ->
      ((ItEt K a).stop i H /\ D.nx σ H) ∨ ((ItEt K a).go i H /\ ∃ N : St -> Hp -> Prop, (∀ σ' H', N σ' H' -> ∃ m', m' < m /\ W (i + 1) m' σ' H') /\ ∀ x H', (ItEt K a).yld i H x H' -> g x σ H' fun σ2 H2 => tb { D with nx := N, ct := N, bk := D.nx } σ2 H2) := by
  refine ⟨fun i m σ H => m = xs.length - i /\ i <= xs.length /\ Pv i σ H, ⟨xs.length, by simp, Nat.zero_le _, h0⟩, ?_⟩
  rintro i m σ H ⟨rfl, hi, pv⟩
  have q1 := hl i σ H hi pv
  by_cases hlt : i < xs.length
  · refine .inr ⟨⟨xs, xs[i], q1, by simp [hlt]⟩, Pv (i + 1), fun σ' H' p' => ⟨xs.length - (i + 1), by omega, rfl, hlt, p'⟩, fun x H' y => ?_⟩
    obtain ⟨x, T, hT, rfl, rfl, e1⟩ := y
    exact hs i x T σ _ (e1 xs q1) hT pv
  · have e : i = xs.length := by omega
    subst e
    exact .inl ⟨⟨xs, q1, rfl⟩, hd σ H pv⟩
end
end L2
namespace K11
open PySem L2 TD
open Builtin.Int (intBits)
section
variable {P : Program} {w : World} {K : PySem.W.Frag} {mg : Str -> Option Value} {base : Heap} {Pt : Addr}
theorem ok__law_ways {n : Nat} {f : Addr} {fd : FuncData} (F : Fun K "_law_ways" "_law_ways" (top 45) f fd) {n0 : Nat} {c : Cs} (cfE : Cls K c.e) (cfS : Cls K c.s) {f_res : Addr} {fd_res : FuncData} (m_Er : Meth K c.e "reserve" f_res) (m_Sr : Meth K c.s "reserve" f_res) (G_res : FnOk P w K mg base CX0 n f_res fd_res ["self"] (spRes c)) (b_res : Binds K fd_res ["self"] []) {f_af : Addr} {fd_af : FuncData} (m_af : Meth K c.s "after" f_af) (G_af : FnOk P w K mg base CX0 n f_af fd_af ["self", "row"] (spAf c)) (b_af : Binds K fd_af ["self", "row"] []) {g__law_ways : Addr} {gd__law_ways : FuncData} (c__law_ways : Cal P w K mg base n "_law_ways" ["_law_told", "_law_stand_here"] (spLWy c n0) g__law_ways gd__law_ways) {g__law_times : Addr} {gd__law_times : FuncData} (c__law_times : Cal P w K mg base n "_law_times" ["_law_one", "_law_other"] spTm g__law_times gd__law_times) {g__law_low : Addr} {gd__law_low : FuncData} (c__law_low : Cal P w K mg base n "_law_low" ["_law_top", "_law_bottom"] spLow g__law_low gd__law_low) {g__law_less : Addr} {gd__law_less : FuncData} (c__law_less : Cal P w K mg base n "_law_less" ["_law_one", "_law_other"] spLess g__law_less gd__law_less) (z_enumerate : mg "enumerate" = none) (z_sum : mg "sum" = none) : FnOk P w K mg base CX0 (n + 1) f fd ["_law_told", "_law_stand_here"] (spLWy c (n0 + 1)) := by
  refine F.ok sc__law_ways (fun vs H Q E h => ?_) (fun cdv A outer s H vs Q E hr h => ?_)
  · obtain ⟨a, x, s, d, m, rfl, _⟩ := h
    rfl
  obtain ⟨a, x, s, d, m, rfl, to, st, dn, d4, m12, q⟩ := h
  have nd := sc__law_ways.nd
  refine ⟨_, (pss_cons (ps_set (i := 2) nd rfl (Or.inl rfl) (pe_either (pe_meth0 (pv 1) cfE m_Er G_res hr b_res .nil pass0) (pe_meth0 (pv 1) cfS m_Sr G_res hr b_res .nil pass0))) (pss_cons (ps_if (pt_cmpR op_eq (pe_ix ix_tup (pv 0) pe_int (fun _ _ => rfl)) pe_str (nomark _)) (pss_one (ps_ret (pe_lst (pa_cons (pe_tup (pa_cons (pe_tup pa_nil) (pa_cons (pe_tup (pa_cons pe_int (pa_cons pe_int pa_nil))) (pa_cons (pv 2) (pa_cons (pe_ix ix_tup (pv 0) pe_int (fun _ _ => rfl)) pa_nil))))) pa_nil)))) pss_nil) (pss_cons (ps_set (i := 3) nd rfl (Or.inl rfl) (pe_callB (call_sum rfl) rfl z_sum bt_sum (pa_cons (pe_comp (ls := ["_law_weight", "_law_part"]) (M := ["_law_told", "_law_stand_here", "_law_here", "_law_every", "_law_found", "_law_j", "_law_row_here", "_law_way", "_law_part#", "_law_cap", "_law_value"]) rfl (CompOk.of (by rfl)) (NL.of (by rfl)) (pi_tup (pe_ix ix_tup (pv 0) pe_int (fun _ _ => rfl))) (fun _ _ _ _ => ⟨(pg_tupK (K := K) (n := 2) rfl rfl (pgs_cons (pg_name (i := 0) (nd_of (by rfl)) rfl (Or.inl rfl)) (pgs_cons (pg_name (i := 1) (nd_of (by rfl)) rfl (Or.inl rfl)) pgs_nil))), pts_nil, (pv 0)⟩)) pa_nil))) (pss_cons (ps_set (i := 4) nd rfl (Or.inl rfl) (pe_lst pa_nil)) (pss_cons (ps_for PassesOwn.never rfl (pi_enumT (K := K) rfl rfl z_enumerate (pa_cons (pe_ix ix_tup (pv 0) pe_int (fun _ _ => rfl)) pa_nil)) (pg_tup rfl (pgs_cons (pg_name (i := 5) nd rfl (Or.inl rfl)) (pgs_cons (pg_name (i := 6) nd rfl (Or.inl rfl)) pgs_nil))) (pss_one (ps_for PassesOwn.never rfl (pi_list (pe_callC c__law_ways hr (pa_cons (pe_ix ix_tup (pv 6) pe_int (fun _ _ => rfl)) (pa_cons (pe_meth (pv 1) cfS m_af G_af hr b_af .nil pass0 (pa_cons (pv 5) pa_nil)) pa_nil)))) (pg_tup rfl (pgs_cons (pg_name (i := 7) nd rfl (Or.inl rfl)) (pgs_cons (pg_name (i := 8) nd rfl (Or.inl rfl)) (pgs_cons (pg_name (i := 9) nd rfl (Or.inl rfl)) (pgs_cons (pg_name (i := 10) nd rfl (Or.inl rfl)) pgs_nil))))) (pss_cons (ps_if (pt_val (pe_callC c__law_less hr (pa_cons (pv 2) (pa_cons (pv 9) pa_nil)))) (pss_one (ps_set (i := 9) nd rfl (Or.inl rfl) (pv 2))) pss_nil) (pss_one (ps_expr (pe_bm PySem.F.plainAttrs_list PySem.F.slot_list_append PySem.F.type_list_append mt_append (pv 4) (pa_cons (pe_tup (pa_cons (pe_op op_catT (pe_tup (pa_cons (pv 5) pa_nil)) (pv 7)) (pa_cons (pe_callC c__law_times hr (pa_cons (pe_callC c__law_low hr (pa_cons (pe_ix ix_tup (pv 6) pe_int (fun _ _ => rfl)) (pa_cons (pv 3) pa_nil))) (pa_cons (pv 8) pa_nil))) (pa_cons (pv 9) (pa_cons (pv 10) pa_nil))))) pa_nil)))))))) (pss_one (ps_ret (pv 4)))))))), ?_⟩
  have st0 := st
  refine meth2 (σ := [some (.ref a), some (.ref x), none, none, none, none, none, none, none, none, none]) st (fun _ _ _ _ _ => rfl) (fun _ _ _ _ _ _ => rfl) (fun R h => ⟨_, rfl, h⟩) ?_
  refine ⟨x, s, d, m, rfl, st, fun l lv hl lw rv => ?_⟩
  cases to with
  | @en _ v h =>
    refine ⟨_, rfl, a, _, _, _, rfl, rfl, SqT.of h, rfl, rfl, _, rfl, ?_⟩
    refine iteT ?_
    have e2 := rv.one ⟨_, Sd.mt_en v d⟩ lw.fr (Sd.fr1 v)
    subst e2
    refine ⟨Nat.zero_le _, fun a1 ha1 => ?_⟩
    have n1 := same_new ha1 (.tup [])
    refine ⟨sz2, fun b hb => ?_⟩
    have n2 := same_new hb (.tup [.int 1, .int 1])
    have n12 := n1.trans n2
    refine ⟨_, rfl, _, rfl, a, _, _, _, rfl, rfl, SqT.of (n12 _ _ h), rfl, sz4, fun T hT => ?_⟩
    have n3 := same_new hT (.tup [.ref a1, .ref b, .ref l, .int v])
    refine ⟨sz1, fun r hr0 => ?_⟩
    have n4 := same_new hr0 (.lst [.ref T])
    have n34 := n3.trans n4
    refine q r _ [⟨T, a1, b, l, ⟨[], (1, 1), (v, 1), v⟩⟩] (n12.trans n34) ((n12.trans n3).free hr0) ⟨upd_same, fun y hy => ?_⟩ (.en v d)
    rw [List.mem_singleton.mp hy]
    exact ⟨n4 _ _ upd_same, (n2.trans n34) _ _ upd_same, n34 _ _ upd_same, (n12.trans n34) _ _ hl⟩
  | @st _ r p rs ps ys h g lp ly row sub =>
    have ok := st.ok
    cases ok with
    | @st _ _ d _ j0 h0 h9 ne l4 ww oks hk =>
    have hlr : (ps.map V.ref).length = rs.length := by rw [List.length_map]; exact lp
    have W := Sd.wt_pos ne ww l4
    have wz : intBits (Sd.wtot rs) <= 9000 := Nat.le_trans (PySem.intBits_le_64 (by omega) (by omega)) (by decide)
    obtain ⟨dx, fs, hx, la⟩ : ∃ dx fs, H x = some (.ins c.s dx fs) /\ fs.lookup ("after" : Str) = none := by
      cases st with
      | st hx _ _ _ _ _ _ _ _ _ _ _ _ => exact ⟨_, _, hx, rfl⟩
    refine ⟨_, rfl, a, _, _, _, rfl, rfl, SqT.of h, rfl, rfl, _, rfl, ?_⟩
    refine iteF ?_
    refine ⟨_, rfl, a, _, _, _, rfl, rfl, SqT.of h, rfl, r, rfl, ⟨_, SqT.of g⟩, fun D hD => ?_⟩
    refine comp_tup (xs := ps.map V.ref) (fun u τ H' => ∃ v0 v1, τ = [v0, v1, some (.ref a), some (.ref x), some (.ref l), none, none, none, none, none, none, none, none] /\ Same H H' /\ H' D = some (.lst (Is ((rs.take u).map (·.1))))) ⟨none, none, rfl, same_new hD _, upd_same⟩ ?keep ?turn ?done
    case keep =>
      rintro u τ H' hi ⟨v0, v1, rfl, hs, _⟩
      exact SqT.of (hs _ _ g)
    case turn =>
      rintro u mm v τ H' hm hi hv ⟨v0, v1, rfl, hs, hD'⟩
      obtain ⟨q1, y1, t1, er, rfl, e1, _, mem⟩ := to_at lp ly row sub hv
      refine ⟨q1, _, rfl, SqT.of (hs _ _ e1), rfl, _, _, rfl, _, _, rfl, rfl, ?_⟩
      refine tyes_if ?_
      refine ⟨_, rfl, ?_⟩
      refine comp_next hm hi hD' (by rw [is_length, List.length_map]; exact small1000 (Nat.le_trans (List.length_take_le _ _) (by omega))) ⟨_, _, rfl, hs.upd_new hD _, ?_⟩
      rw [upd_same, take_snoc er, List.map_append]
      show _ = some (HO.lst (Is (_ ++ [t1.1])))
      rw [is_snoc]
    case done =>
    rintro τ H2 ⟨v0, v1, rfl, s2, hD2⟩
    rw [hlr, List.take_length] at hD2
    refine ⟨D, _, rfl, SqL.of hD2, ?_⟩
    refine ⟨Nat.zero_le _, fun F hFn => ?_⟩
    have n3 := same_new hFn (.lst [])
    have s3 := s2.trans n3
    have hF : H F = none := s2.free hFn
    have hF3 : upd H2 F (.lst []) F = some (.lst (wrefs [])) := upd_same
    generalize upd H2 F (.lst []) = H3 at n3 s3 hF3 ⊢
    refine ⟨_, rfl, a, _, _, _, rfl, rfl, SqT.of (s3 _ _ h), rfl, r, _, rfl, SqT.of (s3 _ _ g), ?_⟩
    refine for_enumT (xs := ps.map V.ref) (fun i σ H' => ∃ v5 v6 v7 v8 v9 v10 ys wss, σ = [some (.ref a), some (.ref x), some (.ref l), some (.int (Sd.wtot rs)), some (.ref F), v5, v6, v7, v8, v9, v10] /\ Same H H' /\ WysAt H' F ys /\ wss.length = i /\ (∀ (j : Nat) t ws, rs[j]? = some t -> wss[j]? = some ws -> Sd.WR d t.2 ws) /\ ys.map Wy.z = Sd.wall lv rs wss i /\ ys.length <= 12 * i) ⟨none, none, none, none, none, none, [], [], rfl, s3, ⟨hF3, fun _ h => nomatch h⟩, rfl, (fun j t ws _ h => by simp at h), rfl, Nat.le_refl _⟩ ?keepE ?turnE ?doneE
    case keepE =>
      rintro i σ H' hi ⟨v5, v6, v7, v8, v9, v10, ys, wss, rfl, hs, _⟩
      exact SqT.of (hs _ _ g)
    case doneE =>
      rintro σ H' ⟨v5, v6, v7, v8, v9, v10, ys, wss, rfl, hs, hW, wl, wr, ew, _⟩
      rw [hlr] at wl ew
      exact ⟨_, rfl, q F H' ys hs hF hW (by rw [ew]; exact .st rv lw wl wr)⟩
    case turnE =>
      rintro i v T0 σ H' hv hTn ⟨v5, v6, v7, v8, v9, v10, ys0, wss, rfl, hs0, hW0, wl, wr, ew, yl⟩
      obtain ⟨q1, y1, t1, er, rfl, e1, to1, mem⟩ := to_at lp ly row sub hv
      have hir := (List.getElem?_eq_some_iff.mp er).1
      have n2 := same_new hTn (.tup [.int (i : Int), .ref q1])
      have hs := hs0.trans n2
      have hW := hW0.same n2
      have hT0 : upd H' T0 (.tup [.int (i : Int), .ref q1]) T0 = some (.tup [.int (i : Int), .ref q1]) := upd_same
      generalize upd H' T0 (.tup [.int (i : Int), .ref q1]) = HB at n2 hs hW hT0 ⊢
      have okt := oks t1 mem
      have j12 : j0 t1 <= 12 := Nat.le_trans (Sd.f_le hk t1 mem) m12
      have s1 := Sd.sh_w (ww t1 mem).1 (Sd.mem_wt ww mem)
      have zsh : Z4 (Fr.sh t1.1 (Sd.wtot rs)) := fq_z5 s1.1 (by omega) (Int.le_trans W.2 (Int.le_trans (by decide : (4000 : Int) <= 2 ^ 12) (Sd.pow_le2 (by decide)))) (by decide) (Sd.pow_pos2 _)
      refine ⟨T0, _, rfl, SqT.of hT0, rfl, _, _, rfl, _, _, rfl, rfl, ?_⟩
      refine ⟨_, rfl, q1, _, _, _, rfl, rfl, SqT.of (hs _ _ e1), rfl, ?_⟩
      refine ⟨_, rfl, x, dx, fs, rfl, hs _ _ hx, la, _, rfl, x, p, rs, d, m, i, t1, rfl, st0.same hs, er, fun y2 j1 jm sty => ?_⟩
      refine ⟨y1, y2, t1.2, d, j1, rfl, to1.same hs, sty, by omega, by omega, by omega, fun r2 H3 zs s3 hr2n hZ wr2 => ?_⟩
      have hs3 := hs.trans s3
      have hF3 : H3 F = some (.lst (wrefs ys0)) := s3 _ _ hW.lst
      have nr2 : r2 ≠ F := fun e => by rw [e] at hr2n; rw [hW.lst] at hr2n; cases hr2n
      have z12 : zs.length <= 12 := by have := wr2.l12 okt j12; rwa [List.length_map] at this
      have wb := wr2.wb okt (by omega)
      refine ⟨r2, rfl, ⟨_, SqL.of hZ.lst⟩, ?_⟩
      refine for_list (xs := wrefs zs) (fun u σ H' => ∃ v7 v8 v9 v10 ys, σ = [some (.ref a), some (.ref x), some (.ref l), some (.int (Sd.wtot rs)), some (.ref F), some (.int (i : Int)), some (.ref q1), v7, v8, v9, v10] /\ Same H H' /\ SameX F H3 H' /\ WysAt H' F ys /\ ys.map Wy.z = Sd.wall lv rs wss i ++ ((zs.take u).map Wy.z).map (Sd.wstep lv i (Fr.sh t1.1 (Sd.wtot rs))) /\ ys.length <= 12 * i + u) ⟨v7, v8, v9, v10, ys0, rfl, hs3, fun _ _ _ e => e, hW.same s3, by rw [ew]; simp, yl⟩ ?keep2 ?turn2 ?done2
      case keep2 =>
        rintro u σ H' hu ⟨v7, v8, v9, v10, ys, rfl, hsu, kx, _⟩
        exact SqL.of (kx _ _ nr2 hZ.lst)
      case done2 =>
        rintro σ H' ⟨v7, v8, v9, v10, ys, rfl, hsu, kx, hY, ey, yl2⟩
        rw [wrefs_length] at yl2 ey
        rw [List.take_length] at ey
        have wi : (wss ++ [zs.map Wy.z])[i]? = some (zs.map Wy.z) := by rw [List.getElem?_append_right (by omega), wl, Nat.sub_self]; rfl
        refine ⟨_, _, _, _, _, _, ys, wss ++ [zs.map Wy.z], rfl, hsu, hY, by rw [List.length_append, wl]; rfl, fun jj t' ws' e1 e2 => ?_, by rw [ey, Sd.wall_succ er wi, Sd.wall_take (by omega)], by omega⟩
        by_cases hj : jj < wss.length
        · rw [List.getElem?_append_left hj] at e2
          exact wr jj t' ws' e1 e2
        · have h2 := (List.getElem?_eq_some_iff.mp e2).1
          rw [List.length_append, List.length_singleton] at h2
          have ej : jj = i := by omega
          subst ej
          rw [wi] at e2
          rw [er] at e1
          cases e1
          cases e2
          exact wr2
      case turn2 =>
        rintro u v σ H4 hv ⟨v7, v8, v9, v10, ys, rfl, hsu, kx, hY, ey, yl2⟩
        obtain ⟨y, hy, rfl⟩ := wrefs_at hv
        have hu := (List.getElem?_eq_some_iff.mp hy).1
        have hym := List.mem_of_getElem? hy
        have wy := (wys_keep hF3 kx nr2 hZ).each y hym
        have b := wb y.z (List.mem_map.mpr ⟨y, hym, rfl⟩)
        have lz := Sd.lss_law lw b.c
        refine ⟨y.a, _, rfl, SqT.of wy.1, rfl, _, _, rfl, _, _, rfl, _, _, rfl, _, _, rfl, rfl, ?_⟩
        refine ⟨_, rfl, _, rfl, l, y.e, lv, y.z.c, rfl, hsu _ _ hl, wy.2.2.2, lw_z4 lw, lw_z4 b.c, ?_⟩
        refine ⟨_, rfl, ?_⟩
        by_cases cc : lv.1 * y.z.c.2 < y.z.c.1 * lv.2
        · refine ifT (decide_eq_true cc) ?_
          rw [if_pos cc] at lz
          have hE : Tq H4 l (Sd.lss lv y.z.c) := by rw [lz]; exact hsu _ _ hl
          refine ⟨_, rfl, ?_⟩
          refine ⟨_, rfl, .inl ⟨rfl, _, SqL.of hY.lst⟩, _, rfl, sz1, fun a1 ha1 => ?_⟩
          have n5 := same_new ha1 (.tup [.int (i : Int)])
          have h5 : upd H4 a1 (.tup [.int (i : Int)]) a1 = some (.tup [.int (i : Int)]) := upd_same
          generalize upd H4 a1 (.tup [.int (i : Int)]) = H5 at n5 h5 ⊢
          refine ⟨_, rfl, ?_⟩
          refine cat_one h5 (n5 _ _ wy.2.1) (by simp) (by rw [is_length]; have := b.l; show 1 + _ <= 1000; omega) fun wp H6 s6 hwp => ?_
          have k6 := n5.trans s6
          refine ⟨_, rfl, q1, _, _, _, rfl, rfl, SqT.of ((hsu.trans k6) _ _ e1), rfl, _, rfl, t1.1, Sd.wtot rs, rfl, by omega, wz, fun r9 H7 s7 hr9 => ?_⟩
          have k7 := k6.trans s7
          refine ⟨_, rfl, r9, y.b, _, _, rfl, hr9, k7 _ _ wy.2.2.1, zsh, wb_z b (by omega), fun r3 H8 s8 hr3 => ?_⟩
          have k8 := k7.trans s8
          refine ⟨_, rfl, _, rfl, sz4, fun T hT => ?_⟩
          have n9 := same_new hT (.tup [.ref wp, .ref r3, .ref l, .int y.z.v])
          have hY9 := (hY.same k8).same n9
          refine ⟨F, _, _, rfl, rfl, hY9.lst, by rw [wrefs_length]; exact small1000 (by omega), ?_⟩
          have wn : WyAt (upd H8 T (.tup [.ref wp, .ref r3, .ref l, .int y.z.v])) ⟨T, wp, r3, l, Sd.wstep lv i (Fr.sh t1.1 (Sd.wtot rs)) y.z⟩ := ⟨upd_same, n9 _ _ ((s7.trans s8) _ _ hwp), n9 _ _ hr3, (k8.trans n9) _ _ hE⟩
          refine ⟨_, _, _, _, ys ++ [⟨T, wp, r3, l, Sd.wstep lv i (Fr.sh t1.1 (Sd.wtot rs)) y.z⟩], rfl, ((hsu.trans k8).trans n9).upd_new hF _, fun b' o nb e => ?_, hY9.push wn, ?_, by rw [List.length_append, List.length_singleton]; omega⟩
          · rw [upd_ne nb]
            exact n9 _ _ (k8 _ _ (kx _ _ nb e))
          · rw [List.map_append, ey, take_snoc hy, List.map_append, List.map_append, List.append_assoc]
            rfl
        · refine ifF (decide_eq_false cc) ?_
          rw [if_neg cc] at lz
          have hE : Tq H4 y.e (Sd.lss lv y.z.c) := by rw [lz]; exact wy.2.2.2
          refine ⟨_, rfl, .inl ⟨rfl, _, SqL.of hY.lst⟩, _, rfl, sz1, fun a1 ha1 => ?_⟩
          have n5 := same_new ha1 (.tup [.int (i : Int)])
          have h5 : upd H4 a1 (.tup [.int (i : Int)]) a1 = some (.tup [.int (i : Int)]) := upd_same
          generalize upd H4 a1 (.tup [.int (i : Int)]) = H5 at n5 h5 ⊢
          refine ⟨_, rfl, ?_⟩
          refine cat_one h5 (n5 _ _ wy.2.1) (by simp) (by rw [is_length]; have := b.l; show 1 + _ <= 1000; omega) fun wp H6 s6 hwp => ?_
          have k6 := n5.trans s6
          refine ⟨_, rfl, q1, _, _, _, rfl, rfl, SqT.of ((hsu.trans k6) _ _ e1), rfl, _, rfl, t1.1, Sd.wtot rs, rfl, by omega, wz, fun r9 H7 s7 hr9 => ?_⟩
          have k7 := k6.trans s7
          refine ⟨_, rfl, r9, y.b, _, _, rfl, hr9, k7 _ _ wy.2.2.1, zsh, wb_z b (by omega), fun r3 H8 s8 hr3 => ?_⟩
          have k8 := k7.trans s8
          refine ⟨_, rfl, _, rfl, sz4, fun T hT => ?_⟩
          have n9 := same_new hT (.tup [.ref wp, .ref r3, .ref y.e, .int y.z.v])
          have hY9 := (hY.same k8).same n9
          refine ⟨F, _, _, rfl, rfl, hY9.lst, by rw [wrefs_length]; exact small1000 (by omega), ?_⟩
          have wn : WyAt (upd H8 T (.tup [.ref wp, .ref r3, .ref y.e, .int y.z.v])) ⟨T, wp, r3, y.e, Sd.wstep lv i (Fr.sh t1.1 (Sd.wtot rs)) y.z⟩ := ⟨upd_same, n9 _ _ ((s7.trans s8) _ _ hwp), n9 _ _ hr3, (k8.trans n9) _ _ hE⟩
          refine ⟨_, _, _, _, ys ++ [⟨T, wp, r3, y.e, Sd.wstep lv i (Fr.sh t1.1 (Sd.wtot rs)) y.z⟩], rfl, ((hsu.trans k8).trans n9).upd_new hF _, fun b' o nb e => ?_, hY9.push wn, ?_, by rw [List.length_append, List.length_singleton]; omega⟩
          · rw [upd_ne nb]
            exact n9 _ _ (k8 _ _ (kx _ _ nb e))
          · rw [List.map_append, ey, take_snoc hy, List.map_append, List.map_append, List.append_assoc]
            rfl
theorem ok__law_plain0 {n : Nat} {f : Addr} {fd : FuncData} (F : Fun K "_law_plain" "_law_plain" (top 36) f fd) {g__law_plain : Addr} {gd__law_plain : FuncData} (c__law_plain : Cal P w K mg base n "_law_plain" ["_law_thing"] spNo g__law_plain gd__law_plain) (z_isinstance : mg "isinstance" = none) (z_bool : mg "bool" = none) (z_int : mg "int" = none) (z_str : mg "str" = none) (z_list : mg "list" = none) (z_tuple : mg "tuple" = none) : FnOk P w K mg base CX0 (n + 1) f fd ["_law_thing"] (spPn 0) := by
  refine F.ok sc__law_plain (fun vs H Q E h => ?_) (fun cdv A outer s H vs Q E hr h => ?_)
  · obtain ⟨v, u, rfl, _⟩ := h
    rfl
  obtain ⟨v, u, rfl, ev, q⟩ := h
  have nd := sc__law_plain.nd
  refine ⟨_, (pss_cons (ps_if (pt_val (pe_callB (call_isinstT (K := K) rfl) rfl z_isinstance bt_isinstance (pa_cons (pv 0) (pa_cons (pe_tup (pa_cons (pe_bltn (v := .ty "tuple") rfl z_tuple bt_tuple rfl) (pa_cons (pe_bltn (v := .ty "list") rfl z_list bt_list rfl) pa_nil))) pa_nil)))) (pss_cons (ps_either (ps_for PassesOwn.never rfl (pi_tup (pv 0)) (pg_name (i := 1) nd rfl (Or.inl rfl)) (pss_one (ps_if (pt_not (pt_val (pe_callC c__law_plain hr (pa_cons (pv 1) pa_nil)))) (pss_one (ps_ret pe_bl)) pss_nil))) (ps_for PassesOwn.never rfl (pi_list (pv 0)) (pg_name (i := 1) nd rfl (Or.inl rfl)) (pss_one (ps_if (pt_not (pt_val (pe_callC c__law_plain hr (pa_cons (pv 1) pa_nil)))) (pss_one (ps_ret pe_bl)) pss_nil)))) (pss_one (ps_ret pe_bl))) pss_nil) (pss_cons (ps_if (PW.pt (pw_or (pt_cmpR op_isN (pv 0) pe_non (nomark _)) (pw_or1 (pt_val (pe_callB (call_isinst (T := "str")) rfl z_isinstance bt_isinstance (pa_cons (pv 0) (pa_cons (pe_bltn (v := .ty "str") rfl z_str bt_str rfl) pa_nil))))))) (pss_one (ps_ret pe_bl)) pss_nil) (pss_one (ps_ret (pe_and (pe_callB (call_isinst (T := "int")) rfl z_isinstance bt_isinstance (pa_cons (pv 0) (pa_cons (pe_bltn (v := .ty "int") rfl z_int bt_int rfl) pa_nil))) (pe_one (pe_not (pe_callB (call_isinst (T := "bool")) rfl z_isinstance bt_isinstance (pa_cons (pv 0) (pa_cons (pe_bltn (v := .ty "bool") rfl z_bool bt_bool rfl) pa_nil)))))))))), ?_⟩
  cases ev with
  | int _ i =>
    refine ⟨_, rfl, sz2, fun t ht => ?_⟩
    have n1 := same_new ht (.tup [.ty "tuple", .ty "list"])
    refine ⟨_, t, _, ["tuple", "list"], false, rfl, .int i, upd_same, (by rfl), _, rfl, ?_⟩
    refine iteF ?_
    refine ⟨_, rfl, rfl, _, rfl, ?_⟩
    refine iteF ?_
    refine ⟨_, rfl, _, _, _, rfl, .int i, (by rfl), _, rfl, ?_⟩
    refine iteF ?_
    refine ⟨_, rfl, _, _, _, rfl, .int i, kit_same _, _, rfl, ?_⟩
    refine iteT ?_
    refine ⟨_, rfl, _, _, _, rfl, .int i, (by rfl), _, rfl, ?_⟩
    exact q _ n1
  | str _ x =>
    refine ⟨_, rfl, sz2, fun t ht => ?_⟩
    have n1 := same_new ht (.tup [.ty "tuple", .ty "list"])
    refine ⟨_, t, _, ["tuple", "list"], false, rfl, .str x, upd_same, (by rfl), _, rfl, ?_⟩
    refine iteF ?_
    refine ⟨_, rfl, rfl, _, rfl, ?_⟩
    refine iteF ?_
    refine ⟨_, rfl, _, _, _, rfl, .str x, kit_same _, _, rfl, ?_⟩
    refine iteT ?_
    exact q _ n1
theorem ok__law_plain {n : Nat} {f : Addr} {fd : FuncData} (F : Fun K "_law_plain" "_law_plain" (top 36) f fd) {n0 : Nat} {g__law_plain : Addr} {gd__law_plain : FuncData} (c__law_plain : Cal P w K mg base n "_law_plain" ["_law_thing"] (spPn n0) g__law_plain gd__law_plain) (z_isinstance : mg "isinstance" = none) (z_bool : mg "bool" = none) (z_int : mg "int" = none) (z_str : mg "str" = none) (z_list : mg "list" = none) (z_tuple : mg "tuple" = none) : FnOk P w K mg base CX0 (n + 1) f fd ["_law_thing"] (spPn (n0 + 1)) := by
  refine F.ok sc__law_plain (fun vs H Q E h => ?_) (fun cdv A outer s H vs Q E hr h => ?_)
  · obtain ⟨v, u, rfl, _⟩ := h
    rfl
  obtain ⟨v, u, rfl, ev, q⟩ := h
  have nd := sc__law_plain.nd
  refine ⟨_, (pss_cons (ps_if (pt_val (pe_callB (call_isinstT (K := K) rfl) rfl z_isinstance bt_isinstance (pa_cons (pv 0) (pa_cons (pe_tup (pa_cons (pe_bltn (v := .ty "tuple") rfl z_tuple bt_tuple rfl) (pa_cons (pe_bltn (v := .ty "list") rfl z_list bt_list rfl) pa_nil))) pa_nil)))) (pss_cons (ps_either (ps_for PassesOwn.never rfl (pi_tup (pv 0)) (pg_name (i := 1) nd rfl (Or.inl rfl)) (pss_one (ps_if (pt_not (pt_val (pe_callC c__law_plain hr (pa_cons (pv 1) pa_nil)))) (pss_one (ps_ret pe_bl)) pss_nil))) (ps_for PassesOwn.never rfl (pi_list (pv 0)) (pg_name (i := 1) nd rfl (Or.inl rfl)) (pss_one (ps_if (pt_not (pt_val (pe_callC c__law_plain hr (pa_cons (pv 1) pa_nil)))) (pss_one (ps_ret pe_bl)) pss_nil)))) (pss_one (ps_ret pe_bl))) pss_nil) (pss_cons (ps_if (PW.pt (pw_or (pt_cmpR op_isN (pv 0) pe_non (nomark _)) (pw_or1 (pt_val (pe_callB (call_isinst (T := "str")) rfl z_isinstance bt_isinstance (pa_cons (pv 0) (pa_cons (pe_bltn (v := .ty "str") rfl z_str bt_str rfl) pa_nil))))))) (pss_one (ps_ret pe_bl)) pss_nil) (pss_one (ps_ret (pe_and (pe_callB (call_isinst (T := "int")) rfl z_isinstance bt_isinstance (pa_cons (pv 0) (pa_cons (pe_bltn (v := .ty "int") rfl z_int bt_int rfl) pa_nil))) (pe_one (pe_not (pe_callB (call_isinst (T := "bool")) rfl z_isinstance bt_isinstance (pa_cons (pv 0) (pa_cons (pe_bltn (v := .ty "bool") rfl z_bool bt_bool rfl) pa_nil)))))))))), ?_⟩
  cases ev with
  | int _ i =>
    refine ⟨_, rfl, sz2, fun t ht => ?_⟩
    have n1 := same_new ht (.tup [.ty "tuple", .ty "list"])
    refine ⟨_, t, _, ["tuple", "list"], false, rfl, .int i, upd_same, (by rfl), _, rfl, ?_⟩
    refine iteF ?_
    refine ⟨_, rfl, rfl, _, rfl, ?_⟩
    refine iteF ?_
    refine ⟨_, rfl, _, _, _, rfl, .int i, (by rfl), _, rfl, ?_⟩
    refine iteF ?_
    refine ⟨_, rfl, _, _, _, rfl, .int i, kit_same _, _, rfl, ?_⟩
    refine iteT ?_
    refine ⟨_, rfl, _, _, _, rfl, .int i, (by rfl), _, rfl, ?_⟩
    exact q _ n1
  | str _ x =>
    refine ⟨_, rfl, sz2, fun t ht => ?_⟩
    have n1 := same_new ht (.tup [.ty "tuple", .ty "list"])
    refine ⟨_, t, _, ["tuple", "list"], false, rfl, .str x, upd_same, (by rfl), _, rfl, ?_⟩
    refine iteF ?_
    refine ⟨_, rfl, rfl, _, rfl, ?_⟩
    refine iteF ?_
    refine ⟨_, rfl, _, _, _, rfl, .str x, kit_same _, _, rfl, ?_⟩
    refine iteT ?_
    exact q _ n1
  | @tup _ a b xs ys ha hb l he =>
    refine ⟨_, rfl, sz2, fun t ht => ?_⟩
    have n1 := same_new ht (.tup [.ty "tuple", .ty "list"])
    have ha1 := n1 _ _ ha
    refine ⟨_, t, _, ["tuple", "list"], true, rfl, .tup ha1, upd_same, (by rfl), _, rfl, ?_⟩
    refine iteT ?_
    generalize upd H t (.tup [.ty "tuple", .ty "list"]) = H1 at n1 ha1 ⊢
    left
    refine ⟨_, rfl, a, rfl, ⟨_, SqT.of ha1⟩, ?_⟩
    refine for_tup (xs := xs) (fun i σ H' => ∃ v, σ = [some (.ref a), v] /\ Same H1 H') ⟨none, rfl, Same.refl _⟩ ?keep ?turn ?done
    case keep =>
      rintro i σ H' hi ⟨v, rfl, hs⟩
      exact SqT.of (hs _ _ ha1)
    case turn =>
      rintro i y σ H' hy ⟨v, rfl, hs⟩
      have hi := (List.getElem?_eq_some_iff.mp hy).1
      have hz : ys[i]? = some (ys[i]'(by omega)) := List.getElem?_eq_getElem _
      refine ⟨_, rfl, y, _, rfl, (he i y _ hy hz).same (n1.trans hs), fun H2 s2 => ?_⟩
      refine ⟨_, rfl, ?_⟩
      refine iteF ?_
      exact ⟨_, rfl, hs.trans s2⟩
    case done =>
      rintro σ H' ⟨v, rfl, hs⟩
      exact q H' (n1.trans hs)
  | @lst _ a b xs ys ha hb l he =>
    refine ⟨_, rfl, sz2, fun t ht => ?_⟩
    have n1 := same_new ht (.tup [.ty "tuple", .ty "list"])
    have ha1 := n1 _ _ ha
    refine ⟨_, t, _, ["tuple", "list"], true, rfl, .lst ha1, upd_same, (by rfl), _, rfl, ?_⟩
    refine iteT ?_
    generalize upd H t (.tup [.ty "tuple", .ty "list"]) = H1 at n1 ha1 ⊢
    right
    refine ⟨_, rfl, a, rfl, ⟨_, SqL.of ha1⟩, ?_⟩
    refine for_list (xs := xs) (fun i σ H' => ∃ v, σ = [some (.ref a), v] /\ Same H1 H') ⟨none, rfl, Same.refl _⟩ ?keep ?turn ?done
    case keep =>
      rintro i σ H' hi ⟨v, rfl, hs⟩
      exact SqL.of (hs _ _ ha1)
    case turn =>
      rintro i y σ H' hy ⟨v, rfl, hs⟩
      have hi := (List.getElem?_eq_some_iff.mp hy).1
      have hz : ys[i]? = some (ys[i]'(by omega)) := List.getElem?_eq_getElem _
      refine ⟨_, rfl, y, _, rfl, (he i y _ hy hz).same (n1.trans hs), fun H2 s2 => ?_⟩
      refine ⟨_, rfl, ?_⟩
      refine iteF ?_
      exact ⟨_, rfl, hs.trans s2⟩
    case done =>
      rintro σ H' ⟨v, rfl, hs⟩
      exact q H' (n1.trans hs)
theorem ok__law_same {n : Nat} {f : Addr} {fd : FuncData} (F : Fun K "_law_same" "_law_same" (top 37) f fd) {g__law_plain : Addr} {gd__law_plain : FuncData} (c__law_plain : Cal P w K mg base n "_law_plain" ["_law_thing"] (spPn 14) g__law_plain gd__law_plain) : FnOk P w K mg base CX0 (n + 1) f fd ["_law_found", "_law_due"] spSame := by
  refine F.ok sc__law_same (fun vs H Q E h => ?_) (fun cdv A outer s H vs Q E hr h => ?_)
  · obtain ⟨v, u, rfl, _⟩ := h
    rfl
  obtain ⟨v, u, rfl, ev, q⟩ := h
  have nd := sc__law_same.nd
  have hu14 : _ + 13 + 1 < cLine := Nat.lt_of_le_of_lt (Nat.add_le_add_left (by decide : 14 <= 64) _) (Room.units hr)
  refine ⟨_, (pss_one (ps_ret (pe_and (pe_callC c__law_plain hr (pa_cons (pv 0) pa_nil)) (pe_one (pe_either (pe_cmpR op_eq (pv 0) (pv 1) (nomark _)) (pe_cmpR (op_eqD (n := 13) hu14) (pv 0) (pv 1) (nomark _))))))), ?_⟩
  refine ⟨_, rfl, v, u, rfl, ev, fun H1 s1 => ?_⟩
  refine ⟨_, rfl, ?_⟩
  refine iteT ?_
  have e1 := ev.same s1
  cases ev with
  | int _ i =>
    left
    refine ⟨_, rfl, _, rfl, rfl, ?_⟩
    rw [decide_eq_true rfl]
    exact q H1 s1
  | str _ x =>
    left
    refine ⟨_, rfl, _, rfl, rfl, ?_⟩
    rw [decide_eq_true rfl]
    exact q H1 s1
  | @tup _ a b xs ys ha hb l he =>
    right
    exact ⟨_, rfl, _, rfl, a, b, true, rfl, rfl, e1.de, q H1 s1⟩
  | @lst _ a b xs ys ha hb l he =>
    right
    exact ⟨_, rfl, _, rfl, a, b, true, rfl, rfl, e1.de, q H1 s1⟩
theorem ok__law_is_it {n : Nat} {f : Addr} {fd : FuncData} (F : Fun K "_law_is_it" "_law_is_it" (top 47) f fd) {n0 : Nat} {c : Cs} (ck : CK K c) (ct : CT K c) (g_End : mg "End" = some (.ref c.e)) (g_Stage : mg "Stage" = some (.ref c.s)) {cSt : Addr} (g_Stand : mg "Stand" = some (.ref cSt)) (qe : PySem.W.kitOne K (.ref c.e) (.ref cSt) = some true) (qs : PySem.W.kitOne K (.ref c.s) (.ref cSt) = some true) (cfE : Cls K c.e) (cfS : Cls K c.s) {f_Et : Addr} {fd_Et : FuncData} (m_Et : Meth K c.e "told" f_Et) (G_Et : FnOk P w K mg base CX0 n f_Et fd_Et ["self"] (spToE c)) (b_Et : Binds K fd_Et ["self"] []) {f_St : Addr} {fd_St : FuncData} (m_St : Meth K c.s "told" f_St) (G_St : FnOk P w K mg base CX0 n f_St fd_St ["self"] (spTo c 5)) (b_St : Binds K fd_St ["self"] []) {f_Ei : Addr} {fd_Ei : FuncData} (m_Ei : Meth K c.e "is_end" f_Ei) (G_Ei : FnOk P w K mg base CX0 n f_Ei fd_Ei ["self"] (spIsE c true)) (b_Ei : Binds K fd_Ei ["self"] []) {f_Si : Addr} {fd_Si : FuncData} (m_Si : Meth K c.s "is_end" f_Si) (G_Si : FnOk P w K mg base CX0 n f_Si fd_Si ["self"] (spIsE c false)) (b_Si : Binds K fd_Si ["self"] []) {f_af : Addr} {fd_af : FuncData} (m_af : Meth K c.s "after" f_af) (G_af : FnOk P w K mg base CX0 n f_af fd_af ["self", "row"] (spAf c)) (b_af : Binds K fd_af ["self", "row"] []) {f_rs : Addr} {fd_rs : FuncData} (m_rs : Meth K c.s "row_share" f_rs) (G_rs : FnOk P w K mg base CX0 n f_rs fd_rs ["self", "row"] (spRS c)) (b_rs : Binds K fd_rs ["self", "row"] []) {g__law_same : Addr} {gd__law_same : FuncData} (c__law_same : Cal P w K mg base n "_law_same" ["_law_found", "_law_due"] spSame g__law_same gd__law_same) {g__law_low : Addr} {gd__law_low : FuncData} (c__law_low : Cal P w K mg base n "_law_low" ["_law_top", "_law_bottom"] spLow g__law_low gd__law_low) {g__law_is_it : Addr} {gd__law_is_it : FuncData} (c__law_is_it : Cal P w K mg base n "_law_is_it" ["_law_stand_here", "_law_told"] (spIt c n0) g__law_is_it gd__law_is_it) (z_enumerate : mg "enumerate" = none) (z_len : mg "len" = none) (z_isinstance : mg "isinstance" = none) (z_tuple : mg "tuple" = none) (z_sum : mg "sum" = none) : FnOk P w K mg base CX0 (n + 1) f fd ["_law_stand_here", "_law_told"] (spIt c (n0 + 1)) := by
  refine F.ok sc__law_is_it (fun vs H Q E h => ?_) (fun cdv A outer s H vs Q E hr h => ?_)
  · obtain ⟨x, a, s, d, m, rfl, _⟩ := h
    rfl
  obtain ⟨x, a, s, d, m, rfl, st, to, dn, d4, m12, q⟩ := h
  have nd := sc__law_is_it.nd
  refine ⟨_, (pss_cons (ps_if (PW.pt (pw_or (pt_not (pt_val (pe_callB (call_isinstC (K := K) rfl) rfl z_isinstance bt_isinstance (pa_cons (pv 0) (pa_cons (pe_glob (v := .ref cSt) rfl g_Stand rfl) pa_nil))))) (pw_or1 (pt_not (pt_val (pe_callC c__law_same hr (pa_cons (pe_either (pe_meth0 (pv 0) cfE m_Et G_Et hr b_Et .nil pass0) (pe_meth0 (pv 0) cfS m_St G_St hr b_St .nil pass0)) (pa_cons (pv 1) pa_nil)))))))) (pss_one (ps_ret pe_bl)) pss_nil) (pss_cons (ps_if (pt_cmpR op_eq (pe_ix ix_tup (pv 1) pe_int (fun _ _ => rfl)) pe_str (nomark _)) (pss_one (ps_ret (pe_and (pe_callB (call_isinstC (K := K) rfl) rfl z_isinstance bt_isinstance (pa_cons (pv 0) (pa_cons (pe_glob (v := .ref c.e) rfl g_End rfl) pa_nil))) (pe_and (pe_cmpR op_isB (pe_either (pe_meth0 (pv 0) cfE m_Ei G_Ei hr b_Ei .nil pass0) (pe_meth0 (pv 0) cfS m_Si G_Si hr b_Si .nil pass0)) pe_bl (nomark _)) (pe_one (pe_callC c__law_same hr (pa_cons (pe_fld (pv 0) rfl) (pa_cons (pe_ix ix_tup (pv 1) pe_int (fun _ _ => rfl)) pa_nil)))))))) pss_nil) (pss_cons (ps_if (PW.pt (pw_or (pt_not (pt_val (pe_callB (call_isinstC (K := K) rfl) rfl z_isinstance bt_isinstance (pa_cons (pv 0) (pa_cons (pe_glob (v := .ref c.s) rfl g_Stage rfl) pa_nil))))) (pw_or (pt_cmpR op_notB (pe_either (pe_meth0 (pv 0) cfE m_Ei G_Ei hr b_Ei .nil pass0) (pe_meth0 (pv 0) cfS m_Si G_Si hr b_Si .nil pass0)) pe_bl (nomark _)) (pw_or1 (pt_not (pt_val (pe_callC c__law_same hr (pa_cons (pe_fld (pv 0) rfl) (pa_cons (pe_ix ix_tup (pv 1) pe_int (fun _ _ => rfl)) pa_nil))))))))) (pss_one (ps_ret pe_bl)) pss_nil) (pss_cons (ps_if (PW.pt (pw_or (pt_not (pt_val (pe_callB (call_isinst (T := "tuple")) rfl z_isinstance bt_isinstance (pa_cons (pe_fld (pv 0) rfl) (pa_cons (pe_bltn (v := .ty "tuple") rfl z_tuple bt_tuple rfl) pa_nil))))) (pw_or1 (pt_cmpR op_ne (pe_callB call_len_seq rfl z_len bt_len (pa_cons (pe_fld (pv 0) rfl) pa_nil)) (pe_callB call_len_seq rfl z_len bt_len (pa_cons (pe_ix ix_tup (pv 1) pe_int (fun _ _ => rfl)) pa_nil)) (nomark _))))) (pss_one (ps_ret pe_bl)) pss_nil) (pss_cons (ps_set (i := 2) nd rfl (Or.inl rfl) (pe_callB (call_sum rfl) rfl z_sum bt_sum (pa_cons (pe_comp (ls := ["_law_weight", "_law_part"]) (M := ["_law_stand_here", "_law_told", "_law_every", "_law_j", "_law_row_here"]) rfl (CompOk.of (by rfl)) (NL.of (by rfl)) (pi_tup (pe_ix ix_tup (pv 1) pe_int (fun _ _ => rfl))) (fun _ _ _ _ => ⟨(pg_tupK (K := K) (n := 2) rfl rfl (pgs_cons (pg_name (i := 0) (nd_of (by rfl)) rfl (Or.inl rfl)) (pgs_cons (pg_name (i := 1) (nd_of (by rfl)) rfl (Or.inl rfl)) pgs_nil))), pts_nil, (pv 0)⟩)) pa_nil))) (pss_cons (ps_for PassesOwn.never rfl (pi_enumT (K := K) rfl rfl z_enumerate (pa_cons (pe_ix ix_tup (pv 1) pe_int (fun _ _ => rfl)) pa_nil)) (pg_tup rfl (pgs_cons (pg_name (i := 3) nd rfl (Or.inl rfl)) (pgs_cons (pg_name (i := 4) nd rfl (Or.inl rfl)) pgs_nil))) (pss_cons (ps_if (PW.pt (pw_or (pt_not (pt_val (pe_callB (call_isinst (T := "tuple")) rfl z_isinstance bt_isinstance (pa_cons (pe_ix ix_tup (pe_fld (pv 0) rfl) (pv 3) (fun _ _ => rfl)) (pa_cons (pe_bltn (v := .ty "tuple") rfl z_tuple bt_tuple rfl) pa_nil))))) (pw_or (pt_cmpR op_ne (pe_callB call_len_seq rfl z_len bt_len (pa_cons (pe_ix ix_tup (pe_fld (pv 0) rfl) (pv 3) (fun _ _ => rfl)) pa_nil)) pe_int (nomark _)) (pw_or1 (pt_not (pt_val (pe_callC c__law_same hr (pa_cons (pe_ix ix_tup (pe_ix ix_tup (pe_fld (pv 0) rfl) (pv 3) (fun _ _ => rfl)) pe_int (fun _ _ => rfl)) (pa_cons (pe_ix ix_tup (pv 4) pe_int (fun _ _ => rfl)) pa_nil))))))))) (pss_one (ps_ret pe_bl)) pss_nil) (pss_cons (ps_if (PW.pt (pw_or (pt_not (pt_val (pe_callC c__law_same hr (pa_cons (pe_either (pe_meth0 (pe_ix ix_tup (pe_ix ix_tup (pe_fld (pv 0) rfl) (pv 3) (fun _ _ => rfl)) pe_int (fun _ _ => rfl)) cfE m_Et G_Et hr b_Et .nil pass0) (pe_meth0 (pe_ix ix_tup (pe_ix ix_tup (pe_fld (pv 0) rfl) (pv 3) (fun _ _ => rfl)) pe_int (fun _ _ => rfl)) cfS m_St G_St hr b_St .nil pass0)) (pa_cons (pe_ix ix_tup (pv 4) pe_int (fun _ _ => rfl)) pa_nil))))) (pw_or1 (pt_not (pt_val (pe_callC c__law_is_it hr (pa_cons (pe_meth (pv 0) cfS m_af G_af hr b_af .nil pass0 (pa_cons (pv 3) pa_nil)) (pa_cons (pe_ix ix_tup (pv 4) pe_int (fun _ _ => rfl)) pa_nil)))))))) (pss_one (ps_ret pe_bl)) pss_nil) (pss_one (ps_if (pt_not (pt_val (pe_callC c__law_same hr (pa_cons (pe_meth (pv 0) cfS m_rs G_rs hr b_rs .nil pass0 (pa_cons (pv 3) pa_nil)) (pa_cons (pe_callC c__law_low hr (pa_cons (pe_ix ix_tup (pv 4) pe_int (fun _ _ => rfl)) (pa_cons (pv 2) pa_nil))) pa_nil))))) (pss_one (ps_ret pe_bl)) pss_nil))))) (pss_one (ps_ret pe_bl)))))))), ?_⟩
  have st0 := st
  have ok := st.ok
  cases to with
  | @en _ v h =>
    cases st with
    | @en _ dx l cp _ n' k' _ _ xs hx vv _ =>
    have ty : TyOf K H (.ref x) (.ref c.e) := .ins hx ck.ce ct.ea ct.hn ct.htk ct.em
    refine ⟨_, rfl, _, cSt, .ref c.e, true, rfl, ty, qe, _, rfl, ?_⟩
    refine iteF ?_
    refine told2 (σ := [some (.ref x), some (.ref a), none, none, none]) st0 (n := 5) (by omega) (fun R h => ⟨_, rfl, h⟩) fun r1 H2 s2 to2 => ?_
    refine ⟨_, rfl, .ref r1, .ref a, rfl, (to_eq ok to2 ((ToAt.en h).same s2)).mono (by omega), fun H3 s3 => ?_⟩
    refine ⟨_, rfl, ?_⟩
    refine iteF ?_
    have s23 := s2.trans s3
    have h3 := s23 _ _ h
    have hx3 := s23 _ _ hx
    refine ⟨_, rfl, a, _, _, _, rfl, rfl, SqT.of h3, rfl, rfl, _, rfl, ?_⟩
    refine iteT ?_
    refine ⟨_, rfl, _, c.e, .ref c.e, true, rfl, .ins hx3 ck.ce ct.ea ct.hn ct.htk ct.em, ct.ee, _, rfl, ?_⟩
    refine iteT ?_
    refine .inl ⟨_, rfl, x, dx, _, rfl, hx3, rfl, x, rfl, ?_⟩
    refine ⟨true, true, rfl, rfl, _, rfl, ?_⟩
    refine iteT ?_
    exact ⟨_, rfl, x, c.e, dx, _, _, rfl, hx3, ck.ce, ck.e5, rfl, _, rfl, a, _, _, _, rfl, rfl, SqT.of h3, rfl, .int v, .int v, rfl, .int _ _, fun H4 s4 => q H4 (s23.trans s4)⟩
  | @st _ r p rs ps ys h g lp ly row sub =>
    cases ok with
    | @st _ _ d _ j0 h0 h9 ne l4 ww oks hk =>
    have ok0 : Sd.Ok (.st p rs) (d + 1) m := .st h0 h9 ne l4 ww oks hk
    cases st with
    | @st _ dx l cp r' _ n' k' lv _ _ j xs _ ps' ys' hx vv g' lp' ly' row' sub' _ _ _ _ _ hk' =>
    have hlr : (ps.map V.ref).length = rs.length := by rw [List.length_map]; exact lp
    have hlr' : (ps'.map V.ref).length = rs.length := by rw [List.length_map]; exact lp'
    have W := Sd.wt_pos ne ww l4
    have wz : intBits (Sd.wtot rs) <= 9000 := Nat.le_trans (PySem.intBits_le_64 (by omega) (by omega)) (by decide)
    refine ⟨_, rfl, _, cSt, .ref c.s, true, rfl, .ins hx ck.cs ct.sa ct.hn ct.htk ct.sm, qs, _, rfl, ?_⟩
    refine iteF ?_
    refine told2 (σ := [some (.ref x), some (.ref a), none, none, none]) st0 (n := 5) (by omega) (fun R h => ⟨_, rfl, h⟩) fun r1 H2 s2 to2 => ?_
    refine ⟨_, rfl, .ref r1, .ref a, rfl, (to_eq ok0 to2 ((ToAt.st h g lp ly row sub).same s2)).mono (by omega), fun H3 s3 => ?_⟩
    refine ⟨_, rfl, ?_⟩
    refine iteF ?_
    have s23 := s2.trans s3
    have h3 := s23 _ _ h
    have hx3 := s23 _ _ hx
    refine ⟨_, rfl, a, _, _, _, rfl, rfl, SqT.of h3, rfl, rfl, _, rfl, ?_⟩
    refine iteF ?_
    refine ⟨_, rfl, _, c.s, .ref c.s, true, rfl, .ins hx3 ck.cs ct.sa ct.hn ct.htk ct.sm, ct.ss, _, rfl, ?_⟩
    refine iteF ?_
    refine .inr ⟨_, rfl, x, dx, _, rfl, hx3, rfl, x, rfl, ?_⟩
    refine ⟨false, false, rfl, rfl, _, rfl, ?_⟩
    refine iteF ?_
    refine ⟨_, rfl, x, c.s, dx, _, _, rfl, hx3, ck.cs, ck.s5, rfl, _, rfl, a, _, _, _, rfl, rfl, SqT.of h3, rfl, .int p, .int p, rfl, .int _ _, fun H4 s4 => ?_⟩
    refine ⟨_, rfl, ?_⟩
    refine iteF ?_
    have s24 := s23.trans s4
    have hx4 := s24 _ _ hx
    have g4 := s24 _ _ g'
    refine ⟨_, rfl, x, c.s, dx, _, _, rfl, hx4, ck.cs, ck.s6, rfl, _, _, _, rfl, .tup g4, kit_same _, _, rfl, ?_⟩
    refine iteF ?_
    refine ⟨_, rfl, x, c.s, dx, _, _, rfl, hx4, ck.cs, ck.s6, rfl, r', _, rfl, .inr (SqT.of g4), ?_⟩
    refine ⟨_, rfl, a, _, _, _, rfl, rfl, SqT.of (s24 _ _ h), rfl, r, _, rfl, .inr (SqT.of (s24 _ _ g)), rfl, _, rfl, ?_⟩
    refine ifF (by rw [hlr, hlr']; simp) ?_
    refine ⟨_, rfl, a, _, _, _, rfl, rfl, SqT.of (s24 _ _ h), rfl, r, rfl, ⟨_, SqT.of (s24 _ _ g)⟩, fun D hD => ?_⟩
    refine comp_tup (xs := ps.map V.ref) (fun u τ H' => ∃ v0 v1, τ = [v0, v1, some (.ref x), some (.ref a), none, none, none] /\ Same H4 H' /\ H' D = some (.lst (Is ((rs.take u).map (·.1))))) ⟨none, none, rfl, same_new hD _, upd_same⟩ ?keep ?turn ?done
    case keep =>
      rintro u τ H' hi ⟨v0, v1, rfl, hs, _⟩
      exact SqT.of ((s24.trans hs) _ _ g)
    case turn =>
      rintro u mm v τ H' hm hi hv ⟨v0, v1, rfl, hs, hD'⟩
      obtain ⟨q1, y1, t1, er, rfl, e1, _, mem⟩ := to_at lp ly row sub hv
      refine ⟨q1, _, rfl, SqT.of ((s24.trans hs) _ _ e1), rfl, _, _, rfl, _, _, rfl, rfl, ?_⟩
      refine tyes_if ?_
      refine ⟨_, rfl, ?_⟩
      refine comp_next hm hi hD' (by rw [is_length, List.length_map]; exact small1000 (Nat.le_trans (List.length_take_le _ _) (by omega))) ⟨_, _, rfl, hs.upd_new hD _, ?_⟩
      rw [upd_same, take_snoc er, List.map_append]
      show _ = some (HO.lst (Is (_ ++ [t1.1])))
      rw [is_snoc]
    case done =>
    rintro τ H5 ⟨v0, v1, rfl, s5, hD5⟩
    rw [hlr, List.take_length] at hD5
    refine ⟨D, _, rfl, SqL.of hD5, ?_⟩
    have s25 := s24.trans s5
    refine ⟨_, rfl, a, _, _, _, rfl, rfl, SqT.of (s25 _ _ h), rfl, r, _, rfl, SqT.of (s25 _ _ g), ?_⟩
    refine for_enumT (xs := ps.map V.ref) (fun i σ H' => ∃ v3 v4, σ = [some (.ref x), some (.ref a), some (.int (Sd.wtot rs)), v3, v4] /\ Same H H') ⟨none, none, rfl, s25⟩ ?keepE ?turnE ?doneE
    case keepE =>
      rintro i σ H' hi ⟨v3, v4, rfl, hs⟩
      exact SqT.of (hs _ _ g)
    case doneE =>
      rintro σ H' ⟨v3, v4, rfl, hs⟩
      exact q H' hs
    case turnE =>
      rintro i v T σ H' hv hTn ⟨v3, v4, rfl, hs⟩
      obtain ⟨q1, y1, t1, er, rfl, e1, to1, mem⟩ := to_at lp ly row sub hv
      obtain ⟨q2, y2, ep2, e2, st2⟩ := rw_at (c := c) ⟨lp', ly', row', sub'⟩ er
      have n2 := same_new hTn (.tup [.int (i : Int), .ref q1])
      have s6 := hs.trans n2
      refine ⟨T, _, rfl, SqT.of upd_same, rfl, _, _, rfl, _, _, rfl, rfl, ?_⟩
      generalize upd H' T (.tup [.int (i : Int), .ref q1]) = H6 at n2 s6 ⊢
      refine ⟨_, rfl, x, c.s, dx, _, _, rfl, s6 _ _ hx, ck.cs, ck.s6, rfl, _, rfl, r', _, _, _, rfl, rfl, SqT.of (s6 _ _ g'), atI_nat ep2, _, _, _, rfl, .tup (s6 _ _ e2), kit_same _, _, rfl, ?_⟩
      refine iteF ?_
      refine ⟨_, rfl, x, c.s, dx, _, _, rfl, s6 _ _ hx, ck.cs, ck.s6, rfl, _, rfl, r', _, _, _, rfl, rfl, SqT.of (s6 _ _ g'), atI_nat ep2, q2, _, rfl, .inr (SqT.of (s6 _ _ e2)), rfl, _, rfl, ?_⟩
      refine iteF ?_
      refine ⟨_, rfl, x, c.s, dx, _, _, rfl, s6 _ _ hx, ck.cs, ck.s6, rfl, _, rfl, r', _, _, _, rfl, rfl, SqT.of (s6 _ _ g'), atI_nat ep2, q2, _, _, _, rfl, rfl, SqT.of (s6 _ _ e2), rfl, _, rfl, q1, _, _, _, rfl, rfl, SqT.of (s6 _ _ e1), rfl, .int t1.1, .int t1.1, rfl, .int _ _, fun H7 s7 => ?_⟩
      refine ⟨_, rfl, ?_⟩
      refine iteF ?_
      have s67 := s6.trans s7
      refine told2 (σ := [some (.ref x), some (.ref a), some (.int (Sd.wtot rs)), some (.int (i : Int)), some (.ref q1)]) (st2.same s67) (n := 5) (by omega) (fun R h => ⟨_, rfl, x, c.s, dx, _, _, rfl, s67 _ _ hx, ck.cs, ck.s6, rfl, _, rfl, r', _, _, _, rfl, rfl, SqT.of (s67 _ _ g'), atI_nat ep2, q2, _, _, _, rfl, rfl, SqT.of (s67 _ _ e2), rfl, h⟩) fun r3 H8 s8 to8 => ?_
      have s68 := s67.trans s8
      refine ⟨_, rfl, q1, _, _, _, rfl, rfl, SqT.of (s68 _ _ e1), rfl, .ref r3, .ref y1, rfl, (to_eq (oks t1 mem) to8 (to1.same s68)).mono (by omega), fun H9 s9 => ?_⟩
      refine ⟨_, rfl, ?_⟩
      refine iteF ?_
      have s69 := s68.trans s9
      refine ⟨_, rfl, x, dx, _, rfl, s69 _ _ hx, rfl, _, rfl, x, p, rs, d, m, i, t1, rfl, st0.same s69, er, fun y3 j3 jm sty => ?_⟩
      refine ⟨_, rfl, q1, _, _, _, rfl, rfl, SqT.of (s69 _ _ e1), rfl, y3, y1, t1.2, d, j3, rfl, sty, to1.same s69, by omega, by omega, by omega, fun HA sA => ?_⟩
      refine ⟨_, rfl, ?_⟩
      refine iteF ?_
      have s6A := s69.trans sA
      refine ⟨_, rfl, x, dx, _, rfl, s6A _ _ hx, rfl, _, rfl, x, p, rs, _, m, i, t1, rfl, st0.same s6A, er, fun r4 HB sB hr4 => ?_⟩
      have s6B := s6A.trans sB
      refine ⟨_, rfl, q1, _, _, _, rfl, rfl, SqT.of (s6B _ _ e1), rfl, _, rfl, t1.1, Sd.wtot rs, rfl, by omega, wz, fun r5 HC sC hr5 => ?_⟩
      refine ⟨.ref r4, .ref r5, rfl, .pair (sC _ _ hr4) hr5 13, fun HD sD => ?_⟩
      refine ⟨_, rfl, ?_⟩
      refine iteF ?_
      exact ⟨_, _, rfl, (s6B.trans sC).trans sD⟩
theorem ok__law_good {n : Nat} {f : Addr} {fd : FuncData} (F : Fun K "_law_good" "_law_good" (top 48) f fd) {c : Cs} (cfE : Cls K c.e) (cfS : Cls K c.s) {f_Ew : Addr} {fd_Ew : FuncData} (m_Ew : Meth K c.e "ways" f_Ew) (G_Ew : FnOk P w K mg base CX0 n f_Ew fd_Ew ["self"] (spWysE c)) (b_Ew : Binds K fd_Ew ["self"] []) {f_Sw : Addr} {fd_Sw : FuncData} (m_Sw : Meth K c.s "ways" f_Sw) (G_Sw : FnOk P w K mg base CX0 n f_Sw fd_Sw ["self"] (spWys c 5)) (b_Sw : Binds K fd_Sw ["self"] []) {f_ends : Addr} {fd_ends : FuncData} (m_Ee : Meth K c.e "ends" f_ends) (m_Se : Meth K c.s "ends" f_ends) (G_ends : FnOk P w K mg base CX0 n f_ends fd_ends ["self"] (spEnds c)) (b_ends : Binds K fd_ends ["self"] []) {f_stgs : Addr} {fd_stgs : FuncData} (m_Eg : Meth K c.e "stages" f_stgs) (m_Sg : Meth K c.s "stages" f_stgs) (G_stgs : FnOk P w K mg base CX0 n f_stgs fd_stgs ["self"] (spStgs c)) (b_stgs : Binds K fd_stgs ["self"] []) {g__law_same : Addr} {gd__law_same : FuncData} (c__law_same : Cal P w K mg base n "_law_same" ["_law_found", "_law_due"] spSame g__law_same gd__law_same) {g__law_deep : Addr} {gd__law_deep : FuncData} (c__law_deep : Cal P w K mg base n "_law_deep" ["_law_told"] (spDp 5) g__law_deep gd__law_deep) {g__law_is_it : Addr} {gd__law_is_it : FuncData} (c__law_is_it : Cal P w K mg base n "_law_is_it" ["_law_stand_here", "_law_told"] (spIt c 5) g__law_is_it gd__law_is_it) {g__law_ways : Addr} {gd__law_ways : FuncData} (c__law_ways : Cal P w K mg base n "_law_ways" ["_law_told", "_law_stand_here"] (spLWy c 5) g__law_ways gd__law_ways) (z_len : mg "len" = none) (z_isinstance : mg "isinstance" = none) (z_list : mg "list" = none) : FnOk P w K mg base CX0 (n + 1) f fd ["_law_stand_here", "_law_told"] (spGood c) := by
  refine F.ok sc__law_good (fun vs H Q E h => ?_) (fun cdv A outer s H vs Q E hr h => ?_)
  · obtain ⟨x, a, s, d, m, rfl, _⟩ := h
    rfl
  obtain ⟨x, a, s, d, m, rfl, st, to, d4, m12, q⟩ := h
  have nd := sc__law_good.nd
  refine ⟨_, (pss_cons (ps_set (i := 2) nd rfl (Or.inl rfl) (pe_callC c__law_ways hr (pa_cons (pv 1) (pa_cons (pv 0) pa_nil)))) (pss_cons (ps_set (i := 3) nd rfl (Or.inl rfl) (pe_either (pe_meth0 (pv 0) cfE m_Ew G_Ew hr b_Ew .nil pass0) (pe_meth0 (pv 0) cfS m_Sw G_Sw hr b_Sw .nil pass0))) (pss_cons (ps_if (PW.pt (pw_or (pt_not (pt_val (pe_callB (call_isinst (T := "list")) rfl z_isinstance bt_isinstance (pa_cons (pv 3) (pa_cons (pe_bltn (v := .ty "list") rfl z_list bt_list rfl) pa_nil))))) (pw_or (pt_not (pt_val (pe_callC c__law_same hr (pa_cons (pv 3) (pa_cons (pv 2) pa_nil))))) (pw_or1 (pt_not (pt_val (pe_callC c__law_is_it hr (pa_cons (pv 0) (pa_cons (pv 1) pa_nil))))))))) (pss_one (ps_ret pe_bl)) pss_nil) (pss_cons (ps_expr (pe_bm PySem.F.plainAttrs_list PySem.F.slot_list_append PySem.F.type_list_append mt_append (pv 3) (pa_cons pe_int pa_nil))) (pss_cons (ps_if (PW.pt (pw_or (pt_not (pt_val (pe_callC c__law_same hr (pa_cons (pe_either (pe_meth0 (pv 0) cfE m_Ee G_ends hr b_ends .nil pass0) (pe_meth0 (pv 0) cfS m_Se G_ends hr b_ends .nil pass0)) (pa_cons (pe_callB call_len_seq rfl z_len bt_len (pa_cons (pv 2) pa_nil)) pa_nil))))) (pw_or1 (pt_not (pt_val (pe_callC c__law_same hr (pa_cons (pe_either (pe_meth0 (pv 0) cfE m_Eg G_stgs hr b_stgs .nil pass0) (pe_meth0 (pv 0) cfS m_Sg G_stgs hr b_stgs .nil pass0)) (pa_cons (pe_callC c__law_deep hr (pa_cons (pv 1) pa_nil)) pa_nil)))))))) (pss_one (ps_ret pe_bl)) pss_nil) (pss_one (ps_ret (pe_callC c__law_same hr (pa_cons (pe_either (pe_meth0 (pv 0) cfE m_Ew G_Ew hr b_Ew .nil pass0) (pe_meth0 (pv 0) cfS m_Sw G_Sw hr b_Sw .nil pass0)) (pa_cons (pv 2) pa_nil)))))))))), ?_⟩
  have ok := st.ok
  refine ⟨_, rfl, _, rfl, a, x, s, d, m, rfl, to, st, by omega, d4, m12, fun r1 H1 ys s1 hr1n hY wr1 => ?_⟩
  refine ways2 (s := s) (d := d) (m := m) (n := 5) (σ := [some (.ref x), some (.ref a), some (.ref r1), none]) (by omega) d4 m12 (fun R h => ⟨_, rfl, h x m (Nat.le_refl _) (st.same s1)⟩) fun r2 H2 zs s2 hr2n hZ wr2 => ?_
  have s12 := s1.trans s2
  have ev := wr2.one wr1
  refine ⟨_, rfl, _, _, _, rfl, .lst hZ.lst, kit_same _, _, rfl, ?_⟩
  refine iteF ?_
  refine ⟨_, rfl, _, rfl, .ref r2, .ref r1, rfl, (wys_eq hZ (hY.same s2) ev).mono (by decide), fun H3 s3 => ?_⟩
  refine ⟨_, rfl, ?_⟩
  refine iteF ?_
  have s13 := s12.trans s3
  refine ⟨_, rfl, _, rfl, x, a, s, d, m, rfl, st.same s13, to.same s13, by omega, d4, m12, fun H4 s4 => ?_⟩
  refine ⟨_, rfl, ?_⟩
  refine iteF ?_
  have s14 := s13.trans s4
  have hZ4 := (hZ.same s3).same s4
  have hY4 := ((hY.same s2).same s3).same s4
  have z12 : zs.length <= 12 := by have := wr2.l12 ok m12; rwa [List.length_map] at this
  have nr : r1 ≠ r2 := fun e => by rw [<- e, hY.lst] at hr2n; cases hr2n
  have hr2H : H r2 = none := s1.free hr2n
  refine ⟨_, rfl, .inl ⟨rfl, _, SqL.of hZ4.lst⟩, r2, _, _, rfl, rfl, hZ4.lst, by rw [wrefs_length]; exact small1000 (by omega), ?_⟩
  have s5 : Same H (upd H4 r2 (.lst (wrefs zs ++ [.int 0]))) := s14.upd_new hr2H _
  have hY5 : WysAt (upd H4 r2 (.lst (wrefs zs ++ [.int 0]))) r1 ys := wys_keep hZ4.lst (fun b o nb e => by rw [upd_ne nb]; exact e) nr hY4
  generalize upd H4 r2 (.lst (wrefs zs ++ [.int 0])) = H5 at s5 hY5 ⊢
  refine meth2 (σ := [some (.ref x), some (.ref a), some (.ref r1), some (.ref r2)]) (st.same s5) (fun _ _ _ _ _ => rfl) (fun _ _ _ _ _ _ => rfl) (fun R h => ⟨_, rfl, h⟩) ?_
  refine ⟨x, s, d, m, rfl, st.same s5, fun n1 _ _ en => ?_⟩
  have el : (((wrefs ys).length : Nat) : Int) = n1 := by rw [wrefs_length, en, <- wr1.len, List.length_map]
  refine ⟨_, rfl, r1, _, rfl, .inl (SqL.of hY5.lst), .int n1, .int n1, by rw [el]; rfl, .int _ _, fun H6 s6 => ?_⟩
  refine ⟨_, rfl, ?_⟩
  refine iteF ?_
  have s56 := s5.trans s6
  refine meth2 (σ := [some (.ref x), some (.ref a), some (.ref r1), some (.ref r2)]) (st.same s56) (fun _ _ _ _ _ => rfl) (fun _ _ _ _ _ _ => rfl) (fun R h => ⟨_, rfl, h⟩) ?_
  refine ⟨x, s, d, m, rfl, st.same s56, fun k1 _ _ ek => ?_⟩
  refine ⟨_, rfl, a, s, d, m, rfl, to.same s56, ok, by omega, fun H7 s7 => ?_⟩
  refine ⟨.int k1, .int k1, by rw [ek]; rfl, .int _ _, fun H8 s8 => ?_⟩
  refine ⟨_, rfl, ?_⟩
  refine iteF ?_
  have s58 := (s56.trans s7).trans s8
  refine ways2 (s := s) (d := d) (m := m) (n := 5) (σ := [some (.ref x), some (.ref a), some (.ref r1), some (.ref r2)]) (by omega) d4 m12 (fun R h => ⟨_, rfl, h x m (Nat.le_refl _) (st.same s58)⟩) fun r3 H9 us s9 _ hU wr3 => ?_
  have hY9 := (((hY5.same s6).same s7).same s8).same s9
  exact ⟨_, rfl, .ref r3, .ref r1, rfl, (wys_eq hU hY9 (wr3.one wr1)).mono (by decide), fun HA sA => q HA ((s58.trans s9).trans sA)⟩
theorem ix0R {n : Nat} (h : 0 < n) : seqIndex? 0 n = some 0 := by
  have e : ixN n 0 = some 0 := by
    unfold ixN
    rw [if_pos (by decide), if_pos (by omega)]
    rfl
  exact (ixN_seq e).1
theorem at3s {α : Type} (x y z : α) (c : Int) : ∃ v, atI [x, y, z] (c % 3) = some v /\ (v = x ∨ v = y ∨ v = z) := by
  have h := Int.emod_nonneg c (show (3 : Int) ≠ 0 by decide)
  have h' := Int.emod_lt_of_pos c (show (0 : Int) < 3 by decide)
  rcases (by omega : c % 3 = 0 ∨ c % 3 = 1 ∨ c % 3 = 2) with e | e | e
  · exact ⟨x, by rw [e]; rfl, .inl rfl⟩
  · exact ⟨y, by rw [e]; rfl, .inr (.inl rfl)⟩
  · exact ⟨z, by rw [e]; rfl, .inr (.inr rfl)⟩
theorem ok_law {n : Nat} {f : Addr} {fd : FuncData} (F : Fun K "law" "law" (top 49) f fd) {c : Cs} (cfE : Cls K c.e) (cfS : Cls K c.s) {f_ends : Addr} {fd_ends : FuncData} (m_Ee : Meth K c.e "ends" f_ends) (m_Se : Meth K c.s "ends" f_ends) (G_ends : FnOk P w K mg base CX0 n f_ends fd_ends ["self"] (spEnds c)) (b_ends : Binds K fd_ends ["self"] []) {f_stgs : Addr} {fd_stgs : FuncData} (m_Eg : Meth K c.e "stages" f_stgs) (m_Sg : Meth K c.s "stages" f_stgs) (G_stgs : FnOk P w K mg base CX0 n f_stgs fd_stgs ["self"] (spStgs c)) (b_stgs : Binds K fd_stgs ["self"] []) {iE iS : Addr} {dE dS : FuncData} {kE kS : Nat} (M_End : Mk K c.e iE) (G_End : FnOk P w K mg base CX0 kE iE dE ["self", "worth"] (spEI c)) (b_End : Binds K dE ["self", "worth"] []) (g_End : mg "End" = some (.ref c.e)) (hn_End : kE + 1 <= n) (M_Stage : Mk K c.s iS) (G_Stage : FnOk P w K mg base CX0 kS iS dS ["self", "price", "rows"] (spSI c Pt lamP)) (b_Stage : Binds K dS ["self", "price", "rows"] []) (g_Stage : mg "Stage" = some (.ref c.s)) (hn_Stage : kS + 1 <= n) {g__law_good : Addr} {gd__law_good : FuncData} (c__law_good : Cal P w K mg base n "_law_good" ["_law_stand_here", "_law_told"] (spGood c) g__law_good gd__law_good) {g__law_stand : Addr} {gd__law_stand : FuncData} (c__law_stand : Cal P w K mg base n "_law_stand" ["_law_told"] (spLS c Pt lamP 5) g__law_stand gd__law_stand) {g__law_box : Addr} {gd__law_box : FuncData} (c__law_box : Cal P w K mg base n "_law_box" ["_law_row_here", "_law_deep_here", "_law_most", "_law_scale"] (spBox 5) g__law_box gd__law_box) {g__law_row : Addr} {gd__law_row : FuncData} (c__law_row : Cal P w K mg base n "_law_row" ["_law_cell", "_law_bit", "_law_many"] spRow1 g__law_row gd__law_row) {g__law_cell_at : Addr} {gd__law_cell_at : FuncData} (c__law_cell_at : Cal P w K mg base n "_law_cell_at" ["_law_script", "_law_k"] (spCA1 K) g__law_cell_at gd__law_cell_at) (z_range : mg "range" = none) (z_max : mg "max" = none) (z_min : mg "min" = none) (z_len : mg "len" = none) : FnOk P w K mg base CX0 (n + 1) f fd ["_law_script"] (spLaw12 K Pt lamP) := by
  refine F.ok sc_law (fun vs H Q E h => ?_) (fun cdv A outer s H vs Q E hr h => ?_)
  · obtain ⟨a, ns, rfl, _⟩ := h
    rfl
  obtain ⟨a, ns, rfl, hS, hlen, hT0, q⟩ := h
  have nd := sc_law.nd
  refine ⟨_, (pss_cons (ps_for PassesOwn.never rfl (pi_range1 rfl z_range (pa_cons (pe_callB (call_max2 rfl) rfl z_max bt_max (pa_cons pe_int (pa_cons (pe_callB (call_min2 rfl) rfl z_min bt_min (pa_cons (pe_callB call_len_seq rfl z_len bt_len (pa_cons (pv 0) pa_nil)) (pa_cons pe_int pa_nil))) pa_nil))) pa_nil)) (pg_name (i := 1) nd rfl (Or.inl rfl)) (pss_cons (ps_set (i := 2) nd rfl (Or.inl rfl) (pe_callC c__law_cell_at hr (pa_cons (pv 0) (pa_cons (pv 1) pa_nil)))) (pss_cons (ps_set (i := 3) nd rfl (Or.inl rfl) (pe_callC c__law_row hr (pa_cons (pv 2) (pa_cons (pe_callC c__law_cell_at hr (pa_cons (pv 0) (pa_cons (pe_op op_add (pv 1) pe_int) pa_nil))) (pa_cons pe_int pa_nil))))) (pss_cons (ps_set (i := 4) nd rfl (Or.inl rfl) (pe_ix ix_list (pe_lst (pa_cons pe_int (pa_cons pe_int (pa_cons pe_int pa_nil)))) (pe_op op_mod (pe_bm PySem.F.plainAttrs_list PySem.F.slot_list_pop PySem.F.type_list_pop mt_popAt (pv 3) (pa_cons pe_int pa_nil)) pe_int) (fun _ _ => rfl))) (pss_cons (ps_set (i := 5) nd rfl (Or.inl rfl) (pe_callC c__law_box hr (pa_cons (pv 3) (pa_cons pe_int (pa_cons pe_int (pa_cons (pv 4) pa_nil)))))) (pss_cons (ps_set (i := 6) nd rfl (Or.inl rfl) (pe_callC c__law_stand hr (pa_cons (pv 5) pa_nil))) (pss_cons (ps_if (pt_not (pt_val (pe_callC c__law_good hr (pa_cons (pv 6) (pa_cons (pv 5) pa_nil))))) (pss_one (ps_ret pe_bl)) pss_nil) (pss_one (ps_if (PW.pt (pw_and (pt_cmpR op_lt (pe_either (pe_meth0 (pv 6) cfE m_Ee G_ends hr b_ends .nil pass0) (pe_meth0 (pv 6) cfS m_Se G_ends hr b_ends .nil pass0)) pe_int (nomark _)) (pw_and1 (pt_cmpR op_lt (pe_either (pe_meth0 (pv 6) cfE m_Eg G_stgs hr b_stgs .nil pass0) (pe_meth0 (pv 6) cfS m_Sg G_stgs hr b_stgs .nil pass0)) pe_int (nomark _))))) (pss_cons (ps_set (i := 7) nd rfl (Or.inl rfl) (pe_lst (pa_cons (pe_tup (pa_cons pe_int (pa_cons (pv 6) pa_nil))) (pa_cons (pe_tup (pa_cons pe_int (pa_cons (pv 6) pa_nil))) pa_nil)))) (pss_cons (ps_set (i := 8) nd rfl (Or.inl rfl) (pe_make M_Stage G_Stage (hr.mono hn_Stage) rfl g_Stage b_Stage .nil pass0 (pa_cons pe_int (pa_cons (pv 7) pa_nil)))) (pss_cons (ps_expr (pe_bm PySem.F.plainAttrs_list PySem.F.slot_list_append PySem.F.type_list_append mt_append (pv 7) (pa_cons (pe_tup (pa_cons pe_int (pa_cons (pe_make M_End G_End (hr.mono hn_End) rfl g_End b_End .nil pass0 (pa_cons pe_int pa_nil)) pa_nil))) pa_nil))) (pss_one (ps_if (pt_not (pt_val (pe_callC c__law_good hr (pa_cons (pv 8) (pa_cons (pe_tup (pa_cons pe_str (pa_cons pe_int (pa_cons (pe_tup (pa_cons (pe_tup (pa_cons pe_int (pa_cons (pv 5) pa_nil))) (pa_cons (pe_tup (pa_cons pe_int (pa_cons (pv 5) pa_nil))) pa_nil))) pa_nil)))) pa_nil))))) (pss_one (ps_ret pe_bl)) pss_nil))))) pss_nil))))))))) (pss_one (ps_ret pe_bl))), ?_⟩
  have hT0 : TbOk Pt lamP lamQ H := .inl hT0
  have hl : (ns.map V.int).length = ns.length := List.length_map _
  obtain ⟨N, hN, N6⟩ : ∃ N : Nat, (if (if (6 : Int) < (((ns.map V.int).length : Nat) : Int) then 6 else (((ns.map V.int).length : Nat) : Int)) > 1 then (if (6 : Int) < (((ns.map V.int).length : Nat) : Int) then 6 else (((ns.map V.int).length : Nat) : Int)) else 1) = (N : Int) /\ N <= 6 := by
    refine ⟨Int.toNat (if (if (6 : Int) < (((ns.map V.int).length : Nat) : Int) then 6 else (((ns.map V.int).length : Nat) : Int)) > 1 then (if (6 : Int) < (((ns.map V.int).length : Nat) : Int) then 6 else (((ns.map V.int).length : Nat) : Int)) else 1), ?_, ?_⟩ <;> (split <;> split <;> omega)
  refine ⟨_, rfl, a, _, rfl, .inl hS, _, _, rfl, _, _, rfl, (N : Int), congrArg (fun z => [V.int z]) hN, by omega, by omega, ?_⟩
  refine for_range (n := (N : Int).toNat) (fun i σ H' => ∃ v1 v2 v3 v4 v5 v6 v7 v8, σ = [some (.ref a), v1, v2, v3, v4, v5, v6, v7, v8] /\ SameT Pt H H' /\ TbOk Pt lamP lamQ H') ⟨none, none, none, none, none, none, none, none, rfl, SameT.refl _, hT0⟩ ?turn ?done
  case done =>
    rintro σ H' ⟨v1, v2, v3, v4, v5, v6, v7, v8, rfl, _⟩
    exact q H'
  case turn =>
    rintro i σ H1 hi ⟨v1, v2, v3, v4, v5, v6, v7, v8, rfl, sT, tb1⟩
    have hiN : i < 6 := by omega
    have hS1 : SqL K H1 a (ns.map V.int) := sT.lst hT0 hS
    refine ⟨_, rfl, _, rfl, a, ns, 0 + (i : Int), rfl, hS1, by omega, fun cl => ?_⟩
    refine ⟨_, rfl, _, rfl, _, rfl, _, _, rfl, rfl, a, ns, 0 + (i : Int) + 6, rfl, hS1, by omega, fun bt => ?_⟩
    refine ⟨cl, bt, 151, rfl, rfl, fun r H2 ms s2 hr0 hr1 ml => ?_⟩
    cases ms with
    | nil => simp at ml
    | cons m0 ms =>
    have ml2 : ms.length = 150 := by simpa using ml
    refine ⟨sz3, fun l hl0 => ?_⟩
    have n3 := same_new hl0 (.lst [.int 10, .int 1000, .int 1000000001])
    have nlr : l ≠ r := fun e => by rw [e, hr1] at hl0; cases hl0
    have hr2 := n3 _ _ hr1
    obtain ⟨v, ev, hv⟩ := at3s (V.int 10) (V.int 1000) (V.int 1000000001) m0
    obtain ⟨sc, rfl, sc1, sc9⟩ : ∃ u : Int, v = .int u /\ 1 <= u /\ u <= 1000000001 := by
      rcases hv with e | e | e
      · exact ⟨10, e, by decide, by decide⟩
      · exact ⟨1000, e, by decide, by decide⟩
      · exact ⟨1000000001, e, by decide, by decide⟩
    refine ⟨_, rfl, .inl ⟨rfl, _, SqL.of hr2⟩, r, _, 0, 0, .int m0, rfl, rfl, hr2, by decide, by decide, ix0R (by simp), rfl, _, _, rfl, rfl, (by show (0 : Int) < 3; decide), l, _, _, _, rfl, rfl, SqL.of (by rw [upd_ne nlr]; exact upd_same), ev, ?_⟩
    have tb3 : TbOk Pt lamP lamQ (upd H2 l (.lst [.int 10, .int 1000, .int 1000000001])) := (tb1.same s2).same n3
    have kL : ∀ (H4 : Hp), (∀ b o, b ≠ r -> upd (upd H2 l (.lst [.int 10, .int 1000, .int 1000000001])) r (.lst (Is ms)) b = some o -> H4 b = some o) -> Same H1 H4 /\ TbOk Pt lamP lamQ H4 := fun H4 k4 => by
      have kk : ∀ b o, b ≠ r -> upd H2 l (.lst [.int 10, .int 1000, .int 1000000001]) b = some o -> H4 b = some o := fun b o nb e => k4 b o nb (by rw [upd_ne nb]; exact e)
      refine ⟨fun b o e => kk b o (ne_of_none e hr0) (n3 _ _ (s2 _ _ e)), ?_⟩
      rcases tb3 with w | ⟨c', w1, w2⟩
      · exact .inl (kk _ _ (ne_of w hr2 fun z => nomatch z) w)
      · exact .inr ⟨c', kk _ _ (ne_of w1 hr2 fun z => nomatch z) w1, kk _ _ (ne_of w2 hr2 fun z => by unfold CodeO at z; exact nomatch z) w2⟩
    refine ⟨_, rfl, _, rfl, r, ms, 4, 12, sc, rfl, upd_same, by decide, by decide, by decide, by decide, sc1, sc9, by rw [ml2]; exact pp_all, by omega, fun t H4 s ms' k4 _ _ _ to ok => ?_⟩
    obtain ⟨s4, tb4⟩ := kL H4 k4
    have ec := ok.nE 5 (by decide)
    have e0 := Sd.nE_nn 5 s
    have c0 := Sd.nS_nn 5 s
    have cd : Sd.nS 5 s <= 4 := Sd.nS_le ok
    obtain ⟨dd, hdd⟩ : ∃ dd : Nat, Sd.nS 5 s = (dd : Int) := ⟨(Sd.nS 5 s).toNat, by omega⟩
    obtain ⟨mm, hmm⟩ : ∃ mm : Nat, Sd.nE 5 s = (mm : Int) := ⟨(Sd.nE 5 s).toNat, by omega⟩
    have ok2 : Sd.Ok s dd mm := Sd.ok_of ok (by show Sd.nE 5 s <= _; omega) (by show Sd.nS 5 s <= _; omega)
    have nE2 : Sd.nE (dd + 1) s = (mm : Int) := by rw [<- Sd.nE_fuel ok2 5 (by omega)]; exact hmm
    have nS2 : Sd.nS (dd + 1) s = (dd : Int) := by rw [<- Sd.nS_fuel ok2 5 (by omega)]; exact hdd
    refine ⟨_, rfl, t, s, dd, mm, rfl, to, ok2, by omega, by omega, by omega, tb4, fun x H5 s5 tb5 st => ?_⟩
    have to5 : ToAt H5 t s := to.kp (SameT.kp s5 tb4)
    have sT5 : SameT Pt H H5 := (sT.trans s4.toT).trans s5
    refine ⟨_, rfl, _, rfl, x, t, s, dd, mm, rfl, st, to5, by omega, by omega, fun H6 s6 => ?_⟩
    refine ⟨_, rfl, ?_⟩
    refine iteF ?_
    have st6 := st.same s6
    have fin : ∀ (σ : St) (v7 v8 : Option V) (H' : Hp), SameT Pt H H' -> TbOk Pt lamP lamQ H' -> ∃ v1 v2 v3 v4 v5 v6 v7' v8', ([some (.ref a), some (.int (0 + (i : Int))), some (.int cl), some (.ref r), some (.int sc), some (.ref t), some (.ref x), v7, v8] : St) = [some (.ref a), v1, v2, v3, v4, v5, v6, v7', v8'] /\ SameT Pt H H' /\ TbOk Pt lamP lamQ H' := fun σ v7 v8 H' h1 h2 => ⟨_, _, _, _, _, _, _, _, rfl, h1, h2⟩
    refine meth2 (σ := [some (.ref a), some (.int (0 + (i : Int))), some (.int cl), some (.ref r), some (.int sc), some (.ref t), some (.ref x), v7, v8]) st6 (fun _ _ _ _ _ => rfl) (fun _ _ _ _ _ _ => rfl) (fun R h => ⟨_, rfl, h⟩) ?_
    refine ⟨x, s, dd, mm, rfl, st6, fun n1 _ _ en => ?_⟩
    refine ⟨_, _, rfl, rfl, _, rfl, ?_⟩
    refine ite2 (fun c1 => ?_) (fun c1 => ?_)
    case refine_2 => exact ⟨_, _, _, _, _, _, _, _, rfl, sT5.trans s6.toT, tb5.same s6⟩
    have c1 : n1 < 7 := of_decide_eq_true c1
    refine meth2 (σ := [some (.ref a), some (.int (0 + (i : Int))), some (.int cl), some (.ref r), some (.int sc), some (.ref t), some (.ref x), v7, v8]) st6 (fun _ _ _ _ _ => rfl) (fun _ _ _ _ _ _ => rfl) (fun R h => ⟨_, rfl, h⟩) ?_
    refine ⟨x, s, dd, mm, rfl, st6, fun k1 _ _ ek => ?_⟩
    refine ⟨_, _, rfl, rfl, _, rfl, ?_⟩
    refine ite2 (fun c2 => ?_) (fun c2 => ?_)
    case refine_2 => exact ⟨_, _, _, _, _, _, _, _, rfl, sT5.trans s6.toT, tb5.same s6⟩
    have c2 : k1 < 4 := of_decide_eq_true c2
    have m6 : mm <= 6 := by omega
    have d3 : dd <= 3 := by omega
    refine ⟨_, rfl, sz2, fun p1 hp1 => ?_⟩
    have n7 := same_new hp1 (.tup [.int 2, .ref x])
    refine ⟨_, rfl, sz2, fun p2 hp2 => ?_⟩
    have n8 := same_new hp2 (.tup [.int 3, .ref x])
    refine ⟨sz2, fun R hR => ?_⟩
    have n9 := same_new hR (.lst [.ref p1, .ref p2])
    have s69 := (n7.trans n8).trans n9
    have g1 := (n8.trans n9) _ _ (upd_same (H := H6) (a := p1) (o := .tup [.int 2, .ref x]))
    have g2 := n9 _ _ (upd_same (H := upd H6 p1 (.tup [.int 2, .ref x])) (a := p2) (o := .tup [.int 3, .ref x]))
    have g3 : upd (upd (upd H6 p1 (.tup [.int 2, .ref x])) p2 (.tup [.int 3, .ref x])) R (.lst [.ref p1, .ref p2]) R = some (.lst [.ref p1, .ref p2]) := upd_same
    generalize upd (upd (upd H6 p1 (.tup [.int 2, .ref x])) p2 (.tup [.int 3, .ref x])) R (.lst [.ref p1, .ref p2]) = H9 at s69 g1 g2 g3 ⊢
    have st9 := st6.same s69
    have tb9 : TbOk Pt lamP lamQ H9 := (tb5.same s6).same s69
    have to9 := (to5.same s6).same s69
    have sT9 : SameT Pt H H9 := (sT5.trans s6.toT).trans s69.toT
    refine ⟨_, rfl, ?_⟩
    intro x2 dx2 hx2 hdx2 nd2
    have nO : Same H9 (upd (upd H9 dx2 (.own x2)) x2 (.ins c.s dx2 [])) := (same_new hdx2 (.own x2)).trans (same_new (by rw [upd_ne (Ne.symm nd2)]; exact hx2) _)
    refine ⟨x2, dx2, R, 5, [p1, p2], [x, x], [(2, s), (3, s)], dd, 12, fun _ => mm, rfl, upd_same, nO _ _ g3, ?_, by decide, by decide, by simp, (by show 2 <= 4; decide), ?_, ?_, by decide, by omega, tb9.same nO, fun H10 k10 tb10 st10 => ⟨rfl, ?_⟩⟩
    · refine ⟨rfl, rfl, fun u q' y' t' e1 e2 e3 => ?_, fun u y' t' e2 e3 => ?_⟩
      · match u, e1, e2, e3 with
        | 0, e1, e2, e3 => cases e1; cases e2; cases e3; exact nO _ _ g1
        | 1, e1, e2, e3 => cases e1; cases e2; cases e3; exact nO _ _ g2
        | u + 2, e1, _, _ => simp at e1
      · match u, e2, e3 with
        | 0, e2, e3 => cases e2; cases e3; exact st9.same nO
        | 1, e2, e3 => cases e2; cases e3; exact st9.same nO
        | u + 2, e2, _ => simp at e2
    · intro z hz
      rcases List.mem_cons.mp hz with e | e
      · subst e; exact ⟨(by show (1 : Int) <= 2; decide), (by show (2 : Int) <= 1000; decide)⟩
      · rw [List.mem_singleton.mp e]; exact ⟨(by show (1 : Int) <= 3; decide), (by show (3 : Int) <= 1000; decide)⟩
    · show mm + (mm + 0) <= 12
      omega
    have s10 : SameT Pt H9 H10 := fun b o nP e => k10 b o (ne_of_none e hx2) nP (nO _ _ e)
    have g10 : H10 R = some (.lst [.ref p1, .ref p2]) := s10.get tb9 g3 fun _ z => nomatch z
    have to10 : ToAt H10 t s := to9.kp (SameT.kp s10 tb9)
    have sT10 := sT9.trans s10
    refine ⟨_, rfl, .inl ⟨rfl, _, SqL.of g10⟩, ?_⟩
    intro x3 dx3 hx3 hdx3 nd3
    have nP3 : Same H10 (upd (upd H10 dx3 (.own x3)) x3 (.ins c.e dx3 [])) := (same_new hdx3 (.own x3)).trans (same_new (by rw [upd_ne (Ne.symm nd3)]; exact hx3) _)
    refine ⟨x3, dx3, 6, rfl, upd_same, by decide, by decide, fun H11 k11 _ => ⟨rfl, ?_⟩⟩
    have s11 : Same H10 H11 := fun b o e => k11 b o (ne_of_none e hx3) (nP3 _ _ e)
    refine ⟨sz2, fun T hT => ?_⟩
    have n12 := same_new hT (.tup [.int 4, .ref x3])
    have s12 := s11.trans n12
    have g12 := s12 _ _ g10
    refine ⟨R, _, _, rfl, rfl, g12, (by show 2 < sizeLine; exact small1000 (by decide)), ?_⟩
    have hRH : R ≠ Pt := fun e => by
      have := tb10.same s12
      rcases this with w | ⟨c', w1, _⟩
      · rw [<- e, g12] at w; cases w
      · rw [<- e, g12] at w1; cases w1
    have kt : ∀ b xs, upd H11 T (.tup [.int 4, .ref x3]) b = some (.tup xs) -> upd (upd H11 T (.tup [.int 4, .ref x3])) R (.lst ([.ref p1, .ref p2] ++ [.ref T])) b = some (.tup xs) := fun b xs e => by rw [upd_ne (ne_of e g12 fun z => nomatch z)]; exact e
    have ki : ∀ b C dx f fs, upd H11 T (.tup [.int 4, .ref x3]) b = some (.ins C dx (f :: fs)) -> upd (upd H11 T (.tup [.int 4, .ref x3])) R (.lst ([.ref p1, .ref p2] ++ [.ref T])) b = some (.ins C dx (f :: fs)) := fun b C dx f fs e => by rw [upd_ne (ne_of e g12 fun z => nomatch z)]; exact e
    have st13 := st_keep kt ki (st10.same s12)
    have to13 := (to10.same s12).keep kt
    have hR6 : H6 R = none := (n7.trans n8).free hR
    have hRn : H R = none := (sT5.trans s6.toT).free hR6 ((tb5.same s6).elim (fun w => ⟨_, w⟩) (fun ⟨_, w1, _⟩ => ⟨_, w1⟩))
    have sT13 : SameT Pt H (upd (upd H11 T (.tup [.int 4, .ref x3])) R (.lst ([.ref p1, .ref p2] ++ [.ref T]))) := (sT10.trans s12.toT).upd_new hRn _
    have tb13 : TbOk Pt lamP lamQ (upd (upd H11 T (.tup [.int 4, .ref x3])) R (.lst ([.ref p1, .ref p2] ++ [.ref T]))) := by
      rcases tb10.same s12 with w | ⟨c', w1, w2⟩
      · exact .inl (by rw [upd_ne (Ne.symm hRH)]; exact w)
      · exact .inr ⟨c', by rw [upd_ne (Ne.symm hRH)]; exact w1, by rw [upd_ne (ne_of w2 g12 fun z => by unfold CodeO at z; exact nomatch z)]; exact w2⟩
    generalize upd (upd H11 T (.tup [.int 4, .ref x3])) R (.lst ([.ref p1, .ref p2] ++ [.ref T])) = H13 at st13 to13 sT13 tb13 ⊢
    refine ⟨_, rfl, _, rfl, sz2, fun a1 ha1 => ?_⟩
    have m1 := same_new ha1 (.tup [.int 2, .ref t])
    refine ⟨_, rfl, sz2, fun a2 ha2 => ?_⟩
    have m2 := same_new ha2 (.tup [.int 3, .ref t])
    refine ⟨sz2, fun a3 ha3 => ?_⟩
    have m3 := same_new ha3 (.tup [.ref a1, .ref a2])
    refine ⟨sz3, fun a4 ha4 => ?_⟩
    have m4 := same_new ha4 (.tup [.str "stage", .int 5, .ref a3])
    have mA := ((m1.trans m2).trans m3).trans m4
    have f1 := ((m2.trans m3).trans m4) _ _ (upd_same (H := H13) (a := a1) (o := .tup [.int 2, .ref t]))
    have f2 := (m3.trans m4) _ _ (upd_same (H := upd H13 a1 (.tup [.int 2, .ref t])) (a := a2) (o := .tup [.int 3, .ref t]))
    refine ⟨x2, a4, .st 5 [(2, s), (3, s)], dd + 1, 12, rfl, st13.same mA, ?_, by omega, by decide, fun HZ sZ => ?_⟩
    · refine .st (ps := [a1, a2]) (ys := [t, t]) upd_same (m4 _ _ upd_same) rfl rfl (fun u q' y' t' e1 e2 e3 => ?_) (fun u y' t' e2 e3 => ?_)
      · match u, e1, e2, e3 with
        | 0, e1, e2, e3 => cases e1; cases e2; cases e3; exact f1
        | 1, e1, e2, e3 => cases e1; cases e2; cases e3; exact f2
        | u + 2, e1, _, _ => simp at e1
      · match u, e2, e3 with
        | 0, e2, e3 => cases e2; cases e3; exact to13.same mA
        | 1, e2, e3 => cases e2; cases e3; exact to13.same mA
        | u + 2, e2, _ => simp at e2
    refine ⟨_, rfl, ?_⟩
    refine iteF ?_
    exact ⟨_, _, _, _, _, _, _, _, rfl, sT13.trans (mA.trans sZ).toT, tb13.same (mA.trans sZ)⟩
end
end K11
namespace K11
open PySem L2 TD PyProof.Rows
theorem no_fnF {P : Program} {w : World} {K : PySem.W.Frag} {mg : Str -> Option Value} {base : Heap} {nm q : Str} {st : Stmt} {f : Addr} {fd : FuncData} {ps : List Str} {sp : Sp} (_ : Fun K nm q st f fd) (h : ∀ vs H Q E, ¬ sp vs H Q E) (m : Nat) : FnOk P w K mg base CX0 m f fd ps sp := no_fn h m
theorem all_mk {l : W.OpenLaw} {w : World} {K : W.Frag} {h : Heap} {mg : Str -> Option Value} {fa cR Pt f1 f2 f3 f4 f5 f6 f7 f8 f9 f10 f11 f12 f13 f14 f15 f16 f17 f18 f19 f20 f21 f22 f23 f24 f25 f26 f27 f28 f29 f30 f31 f32 f33 f34 f35 f36 f37 f38 f39 f40 f41 f42 f43 f44 f45 f46 f47 cSt cE cS : Addr} (X : K.In h) (G : h.Ns mainGlobals mg) (hfa : mg "law" = some (.ref fa))
    {od1 an1 od2 an2 od3 an3 od4 an4 od5 an5 od6 an6 od7 an7 od8 an8 od9 an9 od10 an10 od11 an11 od12 an12 od13 an13 od14 an14 od15 an15 od16 an16 od17 an17 od18 an18 od19 an19 od20 an20 od21 an21 od22 an22 od23 an23 od24 an24 od25 an25 od26 an26 od27 an27 od28 an28 od29 an29 od30 an30 od31 an31 od32 an32 od33 an33 od34 an34 od35 an35 od36 an36 od37 an37 od38 an38 od39 an39 od40 an40 od41 an41 od42 an42 od43 an43 od44 an44 od45 an45 od46 an46 od47 an47 : Option Addr} {sl1 sl2 sl3 sl4 sl5 sl6 sl7 sl8 sl9 sl10 sl11 sl12 sl13 sl14 sl15 sl16 sl17 sl18 sl19 sl20 sl21 sl22 sl23 sl24 sl25 sl26 sl27 sl28 sl29 sl30 sl31 sl32 sl33 sl34 sl35 sl36 sl37 sl38 sl39 sl40 sl41 sl42 sl43 sl44 sl45 sl46 sl47 : Array (Option Value)} {oc1 kV1 dc1 pm1 ct1 cd1 oc2 kV2 dc2 pm2 ct2 cd2 oc3 kV3 dc3 pm3 ct3 cd3 oc4 kV4 dc4 pm4 ct4 cd4 oc5 kV5 dc5 pm5 ct5 cd5 oc6 kV6 dc6 pm6 ct6 cd6 oc7 kV7 dc7 pm7 ct7 cd7 oc8 kV8 dc8 pm8 ct8 cd8 oc9 kV9 dc9 pm9 ct9 oc10 kV10 dc10 pm10 ct10 cd10 oc11 kV11 dc11 pm11 ct11 cd11 oc12 kV12 dc12 pm12 ct12 cd12 oc13 kV13 dc13 pm13 ct13 cd13 oc14 kV14 dc14 pm14 ct14 cd14 oc15 kV15 dc15 pm15 ct15 cd15 oc16 kV16 dc16 pm16 ct16 cd16 oc17 kV17 dc17 pm17 ct17 cd17 oc18 kV18 dc18 pm18 ct18 cd18 oc19 kV19 dc19 pm19 ct19 cd19 oc20 kV20 dc20 pm20 ct20 cd20 oc21 kV21 dc21 pm21 ct21 cd21 oc22 kV22 dc22 pm22 ct22 cd22 oc23 kV23 dc23 pm23 ct23 cd23 oc24 kV24 dc24 pm24 ct24 cd24 oc25 kV25 dc25 pm25 ct25 cd25 oc26 kV26 dc26 pm26 ct26 cd26 oc27 kV27 dc27 pm27 ct27 cd27 oc28 kV28 dc28 pm28 ct28 cd28 oc29 kV29 dc29 pm29 ct29 cd29 oc30 kV30 dc30 pm30 ct30 cd30 oc31 kV31 dc31 pm31 ct31 cd31 oc32 kV32 dc32 pm32 ct32 cd32 oc33 kV33 dc33 pm33 ct33 cd33 oc34 kV34 dc34 pm34 ct34 cd34 oc35 kV35 dc35 pm35 ct35 cd35 oc36 kV36 dc36 pm36 ct36 cd36 oc37 kV37 dc37 pm37 ct37 cd37 oc38 kV38 dc38 pm38 ct38 cd38 oc39 kV39 dc39 pm39 ct39 cd39 oc40 kV40 dc40 pm40 ct40 cd40 oc41 kV41 dc41 pm41 ct41 cd41 oc42 kV42 dc42 pm42 ct42 cd42 oc43 kV43 dc43 pm43 ct43 cd43 oc44 kV44 dc44 pm44 ct44 cd44 oc45 kV45 dc45 pm45 ct45 cd45 oc46 kV46 dc46 pm46 ct46 cd46 oc47 kV47 dc47 pm47 ct47 cd47 : Value}
    (aC_Stand : W.nsIn K mainGlobals "Stand" = some (some (.ref cSt)))
    (aC_End : W.nsIn K mainGlobals "End" = some (some (.ref cE)))
    (aC_Stage : W.nsIn K mainGlobals "Stage" = some (some (.ref cS)))
    (a1 : W.nsIn K mainGlobals "is_whole" = some (some (.ref f1)))
    (l1 : K.lookup f1 = some ⟨oc1, od1, .func (W.fnOf "is_whole" "is_whole" (defArgs (top 5)) (defBody (top 5)) (defScope (top 5)) .none kV1 dc1 pm1 an1 cd1 ct1), sl1⟩) (c1 : W.codeIn K cd1 "is_whole" = true) (k1 : W.keepIn K (.ref f1) = true)
    (a2 : W.nsIn K mainGlobals "common_divisor" = some (some (.ref f2)))
    (l2 : K.lookup f2 = some ⟨oc2, od2, .func (W.fnOf "common_divisor" "common_divisor" (defArgs (top 6)) (defBody (top 6)) (defScope (top 6)) .none kV2 dc2 pm2 an2 cd2 ct2), sl2⟩) (c2 : W.codeIn K cd2 "common_divisor" = true) (k2 : W.keepIn K (.ref f2) = true)
    (a3 : W.nsIn K mainGlobals "common_multiple" = some (some (.ref f3)))
    (l3 : K.lookup f3 = some ⟨oc3, od3, .func (W.fnOf "common_multiple" "common_multiple" (defArgs (top 7)) (defBody (top 7)) (defScope (top 7)) .none kV3 dc3 pm3 an3 cd3 ct3), sl3⟩) (c3 : W.codeIn K cd3 "common_multiple" = true) (k3 : W.keepIn K (.ref f3) = true)
    (a4 : W.nsIn K mainGlobals "share" = some (some (.ref f4)))
    (l4 : K.lookup f4 = some ⟨oc4, od4, .func (W.fnOf "share" "share" (defArgs (top 8)) (defBody (top 8)) (defScope (top 8)) .none kV4 dc4 pm4 an4 cd4 ct4), sl4⟩) (c4 : W.codeIn K cd4 "share" = true) (k4 : W.keepIn K (.ref f4) = true)
    (a5 : W.nsIn K mainGlobals "whole" = some (some (.ref f5)))
    (l5 : K.lookup f5 = some ⟨oc5, od5, .func (W.fnOf "whole" "whole" (defArgs (top 9)) (defBody (top 9)) (defScope (top 9)) .none kV5 dc5 pm5 an5 cd5 ct5), sl5⟩) (c5 : W.codeIn K cd5 "whole" = true) (k5 : W.keepIn K (.ref f5) = true)
    (a6 : W.nsIn K mainGlobals "times" = some (some (.ref f6)))
    (l6 : K.lookup f6 = some ⟨oc6, od6, .func (W.fnOf "times" "times" (defArgs (top 10)) (defBody (top 10)) (defScope (top 10)) .none kV6 dc6 pm6 an6 cd6 ct6), sl6⟩) (c6 : W.codeIn K cd6 "times" = true) (k6 : W.keepIn K (.ref f6) = true)
    (a7 : W.nsIn K mainGlobals "below" = some (some (.ref f7)))
    (l7 : K.lookup f7 = some ⟨oc7, od7, .func (W.fnOf "below" "below" (defArgs (top 11)) (defBody (top 11)) (defScope (top 11)) .none kV7 dc7 pm7 an7 cd7 ct7), sl7⟩) (c7 : W.codeIn K cd7 "below" = true) (k7 : W.keepIn K (.ref f7) = true)
    (a8 : W.nsIn K mainGlobals "lesser" = some (some (.ref f8)))
    (l8 : K.lookup f8 = some ⟨oc8, od8, .func (W.fnOf "lesser" "lesser" (defArgs (top 12)) (defBody (top 12)) (defScope (top 12)) .none kV8 dc8 pm8 an8 cd8 ct8), sl8⟩) (c8 : W.codeIn K cd8 "lesser" = true) (k8 : W.keepIn K (.ref f8) = true)
    (a9 : W.nsIn K mainGlobals "rising" = some (some (.ref f9)))
    (l9 : K.lookup f9 = some ⟨oc9, od9, .func (W.fnOf "rising" "rising" (defArgs (top 16)) (defBody (top 16)) (defScope (top 16)) .none kV9 dc9 pm9 an9 (.ref cR) ct9), sl9⟩) (c9 : W.codeIn K (.ref cR) "rising" = true) (k9 : W.keepIn K (.ref f9) = true)
    (a10 : W.nsIn K mainGlobals "in_form" = some (some (.ref f10)))
    (l10 : K.lookup f10 = some ⟨oc10, od10, .func (W.fnOf "in_form" "in_form" (defArgs (top 17)) (defBody (top 17)) (defScope (top 17)) .none kV10 dc10 pm10 an10 cd10 ct10), sl10⟩) (c10 : W.codeIn K cd10 "in_form" = true) (k10 : W.keepIn K (.ref f10) = true)
    (a11 : W.nsIn K mainGlobals "all_weights" = some (some (.ref f11)))
    (l11 : K.lookup f11 = some ⟨oc11, od11, .func (W.fnOf "all_weights" "all_weights" (defArgs (top 18)) (defBody (top 18)) (defScope (top 18)) .none kV11 dc11 pm11 an11 cd11 ct11), sl11⟩) (c11 : W.codeIn K cd11 "all_weights" = true) (k11 : W.keepIn K (.ref f11) = true)
    (a12 : W.nsIn K mainGlobals "capped" = some (some (.ref f12)))
    (l12 : K.lookup f12 = some ⟨oc12, od12, .func (W.fnOf "capped" "capped" (defArgs (top 19)) (defBody (top 19)) (defScope (top 19)) .none kV12 dc12 pm12 an12 cd12 ct12), sl12⟩) (c12 : W.codeIn K cd12 "capped" = true) (k12 : W.keepIn K (.ref f12) = true)
    (a13 : W.nsIn K mainGlobals "mixed" = some (some (.ref f13)))
    (l13 : K.lookup f13 = some ⟨oc13, od13, .func (W.fnOf "mixed" "mixed" (defArgs (top 20)) (defBody (top 20)) (defScope (top 20)) .none kV13 dc13 pm13 an13 cd13 ct13), sl13⟩) (c13 : W.codeIn K cd13 "mixed" = true) (k13 : W.keepIn K (.ref f13) = true)
    (a14 : W.nsIn K mainGlobals "level_for" = some (some (.ref f14)))
    (l14 : K.lookup f14 = some ⟨oc14, od14, .func (W.fnOf "level_for" "level_for" (defArgs (top 21)) (defBody (top 21)) (defScope (top 21)) .none kV14 dc14 pm14 an14 cd14 ct14), sl14⟩) (c14 : W.codeIn K cd14 "level_for" = true) (k14 : W.keepIn K (.ref f14) = true)
    (a15 : W.nsIn K mainGlobals "is_stand" = some (some (.ref f15)))
    (l15 : K.lookup f15 = some ⟨oc15, od15, .func (W.fnOf "is_stand" "is_stand" (defArgs (top 30)) (defBody (top 30)) (defScope (top 30)) .none kV15 dc15 pm15 an15 cd15 ct15), sl15⟩) (c15 : W.codeIn K cd15 "is_stand" = true) (k15 : W.keepIn K (.ref f15) = true)
    (a16 : W.nsIn K mainGlobals "is_stage_row" = some (some (.ref f16)))
    (l16 : K.lookup f16 = some ⟨oc16, od16, .func (W.fnOf "is_stage_row" "is_stage_row" (defArgs (top 31)) (defBody (top 31)) (defScope (top 31)) .none kV16 dc16 pm16 an16 cd16 ct16), sl16⟩) (c16 : W.codeIn K cd16 "is_stage_row" = true) (k16 : W.keepIn K (.ref f16) = true)
    (a17 : W.nsIn K mainGlobals "is_stage_rows" = some (some (.ref f17)))
    (l17 : K.lookup f17 = some ⟨oc17, od17, .func (W.fnOf "is_stage_rows" "is_stage_rows" (defArgs (top 32)) (defBody (top 32)) (defScope (top 32)) .none kV17 dc17 pm17 an17 cd17 ct17), sl17⟩) (c17 : W.codeIn K cd17 "is_stage_rows" = true) (k17 : W.keepIn K (.ref f17) = true)
    (a18 : W.nsIn K mainGlobals "_law_cell_at" = some (some (.ref f18)))
    (l18 : K.lookup f18 = some ⟨oc18, od18, .func (W.fnOf "_law_cell_at" "_law_cell_at" (defArgs (top 34)) (defBody (top 34)) (defScope (top 34)) .none kV18 dc18 pm18 an18 cd18 ct18), sl18⟩) (c18 : W.codeIn K cd18 "_law_cell_at" = true) (k18 : W.keepIn K (.ref f18) = true)
    (a19 : W.nsIn K mainGlobals "_law_mixed" = some (some (.ref f19)))
    (l19 : K.lookup f19 = some ⟨oc19, od19, .func (W.fnOf "_law_mixed" "_law_mixed" (defArgs (top 35)) (defBody (top 35)) (defScope (top 35)) .none kV19 dc19 pm19 an19 cd19 ct19), sl19⟩) (c19 : W.codeIn K cd19 "_law_mixed" = true) (k19 : W.keepIn K (.ref f19) = true)
    (a20 : W.nsIn K mainGlobals "_law_plain" = some (some (.ref f20)))
    (l20 : K.lookup f20 = some ⟨oc20, od20, .func (W.fnOf "_law_plain" "_law_plain" (defArgs (top 36)) (defBody (top 36)) (defScope (top 36)) .none kV20 dc20 pm20 an20 cd20 ct20), sl20⟩) (c20 : W.codeIn K cd20 "_law_plain" = true) (k20 : W.keepIn K (.ref f20) = true)
    (a21 : W.nsIn K mainGlobals "_law_same" = some (some (.ref f21)))
    (l21 : K.lookup f21 = some ⟨oc21, od21, .func (W.fnOf "_law_same" "_law_same" (defArgs (top 37)) (defBody (top 37)) (defScope (top 37)) .none kV21 dc21 pm21 an21 cd21 ct21), sl21⟩) (c21 : W.codeIn K cd21 "_law_same" = true) (k21 : W.keepIn K (.ref f21) = true)
    (a22 : W.nsIn K mainGlobals "_law_low" = some (some (.ref f22)))
    (l22 : K.lookup f22 = some ⟨oc22, od22, .func (W.fnOf "_law_low" "_law_low" (defArgs (top 38)) (defBody (top 38)) (defScope (top 38)) .none kV22 dc22 pm22 an22 cd22 ct22), sl22⟩) (c22 : W.codeIn K cd22 "_law_low" = true) (k22 : W.keepIn K (.ref f22) = true)
    (a23 : W.nsIn K mainGlobals "_law_times" = some (some (.ref f23)))
    (l23 : K.lookup f23 = some ⟨oc23, od23, .func (W.fnOf "_law_times" "_law_times" (defArgs (top 40)) (defBody (top 40)) (defScope (top 40)) .none kV23 dc23 pm23 an23 cd23 ct23), sl23⟩) (c23 : W.codeIn K cd23 "_law_times" = true) (k23 : W.keepIn K (.ref f23) = true)
    (a24 : W.nsIn K mainGlobals "_law_less" = some (some (.ref f24)))
    (l24 : K.lookup f24 = some ⟨oc24, od24, .func (W.fnOf "_law_less" "_law_less" (defArgs (top 41)) (defBody (top 41)) (defScope (top 41)) .none kV24 dc24 pm24 an24 cd24 ct24), sl24⟩) (c24 : W.codeIn K cd24 "_law_less" = true) (k24 : W.keepIn K (.ref f24) = true)
    (a25 : W.nsIn K mainGlobals "_law_row" = some (some (.ref f25)))
    (l25 : K.lookup f25 = some ⟨oc25, od25, .func (W.fnOf "_law_row" "_law_row" (defArgs (top 42)) (defBody (top 42)) (defScope (top 42)) .none kV25 dc25 pm25 an25 cd25 ct25), sl25⟩) (c25 : W.codeIn K cd25 "_law_row" = true) (k25 : W.keepIn K (.ref f25) = true)
    (a26 : W.nsIn K mainGlobals "_law_box" = some (some (.ref f26)))
    (l26 : K.lookup f26 = some ⟨oc26, od26, .func (W.fnOf "_law_box" "_law_box" (defArgs (top 43)) (defBody (top 43)) (defScope (top 43)) .none kV26 dc26 pm26 an26 cd26 ct26), sl26⟩) (c26 : W.codeIn K cd26 "_law_box" = true) (k26 : W.keepIn K (.ref f26) = true)
    (a27 : W.nsIn K mainGlobals "_law_stand" = some (some (.ref f27)))
    (l27 : K.lookup f27 = some ⟨oc27, od27, .func (W.fnOf "_law_stand" "_law_stand" (defArgs (top 44)) (defBody (top 44)) (defScope (top 44)) .none kV27 dc27 pm27 an27 cd27 ct27), sl27⟩) (c27 : W.codeIn K cd27 "_law_stand" = true) (k27 : W.keepIn K (.ref f27) = true)
    (a28 : W.nsIn K mainGlobals "_law_ways" = some (some (.ref f28)))
    (l28 : K.lookup f28 = some ⟨oc28, od28, .func (W.fnOf "_law_ways" "_law_ways" (defArgs (top 45)) (defBody (top 45)) (defScope (top 45)) .none kV28 dc28 pm28 an28 cd28 ct28), sl28⟩) (c28 : W.codeIn K cd28 "_law_ways" = true) (k28 : W.keepIn K (.ref f28) = true)
    (a29 : W.nsIn K mainGlobals "_law_deep" = some (some (.ref f29)))
    (l29 : K.lookup f29 = some ⟨oc29, od29, .func (W.fnOf "_law_deep" "_law_deep" (defArgs (top 46)) (defBody (top 46)) (defScope (top 46)) .none kV29 dc29 pm29 an29 cd29 ct29), sl29⟩) (c29 : W.codeIn K cd29 "_law_deep" = true) (k29 : W.keepIn K (.ref f29) = true)
    (a30 : W.nsIn K mainGlobals "_law_is_it" = some (some (.ref f30)))
    (l30 : K.lookup f30 = some ⟨oc30, od30, .func (W.fnOf "_law_is_it" "_law_is_it" (defArgs (top 47)) (defBody (top 47)) (defScope (top 47)) .none kV30 dc30 pm30 an30 cd30 ct30), sl30⟩) (c30 : W.codeIn K cd30 "_law_is_it" = true) (k30 : W.keepIn K (.ref f30) = true)
    (a31 : W.nsIn K mainGlobals "_law_good" = some (some (.ref f31)))
    (l31 : K.lookup f31 = some ⟨oc31, od31, .func (W.fnOf "_law_good" "_law_good" (defArgs (top 48)) (defBody (top 48)) (defScope (top 48)) .none kV31 dc31 pm31 an31 cd31 ct31), sl31⟩) (c31 : W.codeIn K cd31 "_law_good" = true) (k31 : W.keepIn K (.ref f31) = true)
    (a32 : W.nsIn K mainGlobals "law" = some (some (.ref f32)))
    (l32 : K.lookup f32 = some ⟨oc32, od32, .func (W.fnOf "law" "law" (defArgs (top 49)) (defBody (top 49)) (defScope (top 49)) .none kV32 dc32 pm32 an32 cd32 ct32), sl32⟩) (c32 : W.codeIn K cd32 "law" = true) (k32 : W.keepIn K (.ref f32) = true)
    (a33 : W.findIn K (.ref cSt) "__init__" = some (some (.ref f33))) (i33 : W.isFn K (.ref f33) = true)
    (l33 : K.lookup f33 = some ⟨oc33, od33, .func (W.fnOf "__init__" "Stand.__init__" (defArgs (inClass (top 27) 0)) (defBody (inClass (top 27) 0)) (defScope (inClass (top 27) 0)) .none kV33 dc33 pm33 an33 cd33 ct33), sl33⟩) (c33 : W.codeIn K cd33 "Stand.__init__" = true) (k33 : W.keepIn K (.ref f33) = true)
    (a34 : W.findIn K (.ref cSt) "ends" = some (some (.ref f34))) (i34 : W.isFn K (.ref f34) = true)
    (l34 : K.lookup f34 = some ⟨oc34, od34, .func (W.fnOf "ends" "Stand.ends" (defArgs (inClass (top 27) 1)) (defBody (inClass (top 27) 1)) (defScope (inClass (top 27) 1)) .none kV34 dc34 pm34 an34 cd34 ct34), sl34⟩) (c34 : W.codeIn K cd34 "Stand.ends" = true) (k34 : W.keepIn K (.ref f34) = true)
    (a35 : W.findIn K (.ref cSt) "stages" = some (some (.ref f35))) (i35 : W.isFn K (.ref f35) = true)
    (l35 : K.lookup f35 = some ⟨oc35, od35, .func (W.fnOf "stages" "Stand.stages" (defArgs (inClass (top 27) 2)) (defBody (inClass (top 27) 2)) (defScope (inClass (top 27) 2)) .none kV35 dc35 pm35 an35 cd35 ct35), sl35⟩) (c35 : W.codeIn K cd35 "Stand.stages" = true) (k35 : W.keepIn K (.ref f35) = true)
    (a36 : W.findIn K (.ref cSt) "reserve" = some (some (.ref f36))) (i36 : W.isFn K (.ref f36) = true)
    (l36 : K.lookup f36 = some ⟨oc36, od36, .func (W.fnOf "reserve" "Stand.reserve" (defArgs (inClass (top 27) 3)) (defBody (inClass (top 27) 3)) (defScope (inClass (top 27) 3)) .none kV36 dc36 pm36 an36 cd36 ct36), sl36⟩) (c36 : W.codeIn K cd36 "Stand.reserve" = true) (k36 : W.keepIn K (.ref f36) = true)
    (a37 : W.findIn K (.ref cSt) "caps" = some (some (.ref f37))) (i37 : W.isFn K (.ref f37) = true)
    (l37 : K.lookup f37 = some ⟨oc37, od37, .func (W.fnOf "caps" "Stand.caps" (defArgs (inClass (top 27) 4)) (defBody (inClass (top 27) 4)) (defScope (inClass (top 27) 4)) .none kV37 dc37 pm37 an37 cd37 ct37), sl37⟩) (c37 : W.codeIn K cd37 "Stand.caps" = true) (k37 : W.keepIn K (.ref f37) = true)
    (a38 : W.findIn K (.ref cE) "__init__" = some (some (.ref f38))) (i38 : W.isFn K (.ref f38) = true)
    (l38 : K.lookup f38 = some ⟨oc38, od38, .func (W.fnOf "__init__" "End.__init__" (defArgs (inClass (top 28) 0)) (defBody (inClass (top 28) 0)) (defScope (inClass (top 28) 0)) .none kV38 dc38 pm38 an38 cd38 ct38), sl38⟩) (c38 : W.codeIn K cd38 "End.__init__" = true) (k38 : W.keepIn K (.ref f38) = true)
    (a39 : W.findIn K (.ref cE) "is_end" = some (some (.ref f39))) (i39 : W.isFn K (.ref f39) = true)
    (l39 : K.lookup f39 = some ⟨oc39, od39, .func (W.fnOf "is_end" "End.is_end" (defArgs (inClass (top 28) 1)) (defBody (inClass (top 28) 1)) (defScope (inClass (top 28) 1)) .none kV39 dc39 pm39 an39 cd39 ct39), sl39⟩) (c39 : W.codeIn K cd39 "End.is_end" = true) (k39 : W.keepIn K (.ref f39) = true)
    (a40 : W.findIn K (.ref cE) "ways" = some (some (.ref f40))) (i40 : W.isFn K (.ref f40) = true)
    (l40 : K.lookup f40 = some ⟨oc40, od40, .func (W.fnOf "ways" "End.ways" (defArgs (inClass (top 28) 2)) (defBody (inClass (top 28) 2)) (defScope (inClass (top 28) 2)) .none kV40 dc40 pm40 an40 cd40 ct40), sl40⟩) (c40 : W.codeIn K cd40 "End.ways" = true) (k40 : W.keepIn K (.ref f40) = true)
    (a41 : W.findIn K (.ref cE) "told" = some (some (.ref f41))) (i41 : W.isFn K (.ref f41) = true)
    (l41 : K.lookup f41 = some ⟨oc41, od41, .func (W.fnOf "told" "End.told" (defArgs (inClass (top 28) 4)) (defBody (inClass (top 28) 4)) (defScope (inClass (top 28) 4)) .none kV41 dc41 pm41 an41 cd41 ct41), sl41⟩) (c41 : W.codeIn K cd41 "End.told" = true) (k41 : W.keepIn K (.ref f41) = true)
    (a42 : W.findIn K (.ref cS) "__init__" = some (some (.ref f42))) (i42 : W.isFn K (.ref f42) = true)
    (l42 : K.lookup f42 = some ⟨oc42, od42, .func (W.fnOf "__init__" "Stage.__init__" (defArgs (inClass (top 29) 0)) (defBody (inClass (top 29) 0)) (defScope (inClass (top 29) 0)) .none kV42 dc42 pm42 an42 cd42 ct42), sl42⟩) (c42 : W.codeIn K cd42 "Stage.__init__" = true) (k42 : W.keepIn K (.ref f42) = true)
    (a43 : W.findIn K (.ref cS) "is_end" = some (some (.ref f43))) (i43 : W.isFn K (.ref f43) = true)
    (l43 : K.lookup f43 = some ⟨oc43, od43, .func (W.fnOf "is_end" "Stage.is_end" (defArgs (inClass (top 29) 1)) (defBody (inClass (top 29) 1)) (defScope (inClass (top 29) 1)) .none kV43 dc43 pm43 an43 cd43 ct43), sl43⟩) (c43 : W.codeIn K cd43 "Stage.is_end" = true) (k43 : W.keepIn K (.ref f43) = true)
    (a44 : W.findIn K (.ref cS) "row_share" = some (some (.ref f44))) (i44 : W.isFn K (.ref f44) = true)
    (l44 : K.lookup f44 = some ⟨oc44, od44, .func (W.fnOf "row_share" "Stage.row_share" (defArgs (inClass (top 29) 2)) (defBody (inClass (top 29) 2)) (defScope (inClass (top 29) 2)) .none kV44 dc44 pm44 an44 cd44 ct44), sl44⟩) (c44 : W.codeIn K cd44 "Stage.row_share" = true) (k44 : W.keepIn K (.ref f44) = true)
    (a45 : W.findIn K (.ref cS) "after" = some (some (.ref f45))) (i45 : W.isFn K (.ref f45) = true)
    (l45 : K.lookup f45 = some ⟨oc45, od45, .func (W.fnOf "after" "Stage.after" (defArgs (inClass (top 29) 3)) (defBody (inClass (top 29) 3)) (defScope (inClass (top 29) 3)) .none kV45 dc45 pm45 an45 cd45 ct45), sl45⟩) (c45 : W.codeIn K cd45 "Stage.after" = true) (k45 : W.keepIn K (.ref f45) = true)
    (a46 : W.findIn K (.ref cS) "ways" = some (some (.ref f46))) (i46 : W.isFn K (.ref f46) = true)
    (l46 : K.lookup f46 = some ⟨oc46, od46, .func (W.fnOf "ways" "Stage.ways" (defArgs (inClass (top 29) 4)) (defBody (inClass (top 29) 4)) (defScope (inClass (top 29) 4)) .none kV46 dc46 pm46 an46 cd46 ct46), sl46⟩) (c46 : W.codeIn K cd46 "Stage.ways" = true) (k46 : W.keepIn K (.ref f46) = true)
    (a47 : W.findIn K (.ref cS) "told" = some (some (.ref f47))) (i47 : W.isFn K (.ref f47) = true)
    (l47 : K.lookup f47 = some ⟨oc47, od47, .func (W.fnOf "told" "Stage.told" (defArgs (inClass (top 29) 6)) (defBody (inClass (top 29) 6)) (defScope (inClass (top 29) 6)) .none kV47 dc47 pm47 an47 cd47 ct47), sl47⟩) (c47 : W.codeIn K cd47 "Stage.told" = true) (k47 : W.keepIn K (.ref f47) = true)
    (hn : W.specialIn K (.builtin "object.__class__") "__get__" = some (some (.builtin "getset_descriptor.__get__")))
    (htk : W.takesIn K (.builtin "object.__class__") = some true)
    (pgE : W.plainGet K cE Str.empty = true)
    (hdE : W.hasDictIn K cE = true)
    (poE : W.plainOver K cE = true)
    (saE : W.findIn K (.ref cE) "__setattr__" = some (some (.builtin "object.__setattr__")))
    (mkE : W.makesIn K cE = true)
    (kcE : W.keepIn K (.ref cE) = true)
    (haE : W.findIn K (.ref cE) "__class__" = some (some (.builtin "object.__class__")))
    (hmE : W.mroIn K cE (.type "object") = some true)
    (nE1 : W.findIn K (.ref cE) "end_count" = some none)
    (nE2 : W.findIn K (.ref cE) "stage_count" = some none)
    (nE3 : W.findIn K (.ref cE) "level" = some none)
    (nE4 : W.findIn K (.ref cE) "cap_rows" = some none)
    (nE5 : W.findIn K (.ref cE) "worth" = some none)
    (vE_ends : W.findIn K (.ref cE) "ends" = some (some (.ref f34)))
    (vE_stages : W.findIn K (.ref cE) "stages" = some (some (.ref f35)))
    (vE_reserve : W.findIn K (.ref cE) "reserve" = some (some (.ref f36)))
    (vE_caps : W.findIn K (.ref cE) "caps" = some (some (.ref f37)))
    (pgS : W.plainGet K cS Str.empty = true)
    (hdS : W.hasDictIn K cS = true)
    (poS : W.plainOver K cS = true)
    (saS : W.findIn K (.ref cS) "__setattr__" = some (some (.builtin "object.__setattr__")))
    (mkS : W.makesIn K cS = true)
    (kcS : W.keepIn K (.ref cS) = true)
    (haS : W.findIn K (.ref cS) "__class__" = some (some (.builtin "object.__class__")))
    (hmS : W.mroIn K cS (.type "object") = some true)
    (nS1 : W.findIn K (.ref cS) "end_count" = some none)
    (nS2 : W.findIn K (.ref cS) "stage_count" = some none)
    (nS3 : W.findIn K (.ref cS) "level" = some none)
    (nS4 : W.findIn K (.ref cS) "cap_rows" = some none)
    (nS5 : W.findIn K (.ref cS) "price" = some none)
    (nS6 : W.findIn K (.ref cS) "rows" = some none)
    (vS_ends : W.findIn K (.ref cS) "ends" = some (some (.ref f34)))
    (vS_stages : W.findIn K (.ref cS) "stages" = some (some (.ref f35)))
    (vS_reserve : W.findIn K (.ref cS) "reserve" = some (some (.ref f36)))
    (vS_caps : W.findIn K (.ref cS) "caps" = some (some (.ref f37)))
    (qEE : W.kitOne K (.ref cE) (.ref cE) = some true)
    (qSE : W.kitOne K (.ref cS) (.ref cE) = some false)
    (qSS : W.kitOne K (.ref cS) (.ref cS) = some true)
    (qET : W.kitOne K (.ref cE) (.ref cSt) = some true)
    (qST : W.kitOne K (.ref cS) (.ref cSt) = some true)
    (uga : W.specialIn K (.ref cSt) "__getattribute__" = some (some (.builtin "type.__getattribute__")))
    (urd : W.readsIn K cSt (.type "type") = true)
    (uat : W.findCls K (.ref cSt) (.type "type") "__init__" = some (.val (.ref f33)))
    (uhd : W.handedIn (.ref f33) = true)
    (y_abs : W.nsIn K mainGlobals "abs" = some none)
    (y_all : W.nsIn K mainGlobals "all" = some none)
    (y_bool : W.nsIn K mainGlobals "bool" = some none)
    (y_enumerate : W.nsIn K mainGlobals "enumerate" = some none)
    (y_int : W.nsIn K mainGlobals "int" = some none)
    (y_isinstance : W.nsIn K mainGlobals "isinstance" = some none)
    (y_len : W.nsIn K mainGlobals "len" = some none)
    (y_list : W.nsIn K mainGlobals "list" = some none)
    (y_max : W.nsIn K mainGlobals "max" = some none)
    (y_min : W.nsIn K mainGlobals "min" = some none)
    (y_range : W.nsIn K mainGlobals "range" = some none)
    (y_reversed : W.nsIn K mainGlobals "reversed" = some none)
    (y_sorted : W.nsIn K mainGlobals "sorted" = some none)
    (y_str : W.nsIn K mainGlobals "str" = some none)
    (y_sum : W.nsIn K mainGlobals "sum" = some none)
    (y_tuple : W.nsIn K mainGlobals "tuple" = some none)
    {tk_MOST_WEIGHT : Tok} (yg_MOST_WEIGHT : W.nsIn K mainGlobals "MOST_WEIGHT" = some (some (.int 1000 tk_MOST_WEIGHT)))
    {tk_MOST_STAGE_ROWS : Tok} (yg_MOST_STAGE_ROWS : W.nsIn K mainGlobals "MOST_STAGE_ROWS" = some (some (.int 4 tk_MOST_STAGE_ROWS)))
    {tk_MOST_WORTH : Tok} (yg_MOST_WORTH : W.nsIn K mainGlobals "MOST_WORTH" = some (some (.int 1000000000 tk_MOST_WORTH)))
    {tk_MOST_STAGES : Tok} (yg_MOST_STAGES : W.nsIn K mainGlobals "MOST_STAGES" = some (some (.int 4 tk_MOST_STAGES)))
    {tk_MOST_ENDS : Tok} (yg_MOST_ENDS : W.nsIn K mainGlobals "MOST_ENDS" = some (some (.int 12 tk_MOST_ENDS)))
    {tk_MOST_PRICE : Tok} (yg_MOST_PRICE : W.nsIn K mainGlobals "MOST_PRICE" = some (some (.int 1000000000 tk_MOST_PRICE)))
    (tb : W.tabIn K "rising" = some (cR, Pt)) (ch : W.codeHdIn K cR Pt = true) (np : K.lookup Pt = none)
    : ∃ (fd : FuncData) (c P : Addr), (∀ (s : Shared) (v : Value), BindsTo s fd ⟨[v], []⟩ [("_law_script", v)]) /\ W.tabIn K "rising" = some (c, P) /\ W.codeHdIn K c P = true /\ K.lookup P = none /\ ∀ base : Heap, K.In base -> base.Ns mainGlobals mg -> W.CodeHd base c P -> base.BuiltinsAt mg P -> FnOk l.prog w K mg base CX0 25 fa fd ["_law_script"] (spLaw12 K P lamP) := by
  obtain ⟨c, rfl, rfl⟩ : ∃ c : Cs, c.e = cE /\ c.s = cS := ⟨⟨cE, cS⟩, rfl, rfl⟩
  have e := hfa.symm.trans (W.mg_of X G a32)
  cases e
  have F1 := fun_mk (st := (top 5)) l1 c1 k1
  have b1 := F1.binds (ps := ["thing", "least", "most"]) fun _ _ _ _ _ _ us hl => match us, hl with | [_, _, _], _ => rfl
  have F2 := fun_mk (st := (top 6)) l2 c2 k2
  have b2 := F2.binds (ps := ["one", "other"]) fun _ _ _ _ _ _ us hl => match us, hl with | [_, _], _ => rfl
  have F3 := fun_mk (st := (top 7)) l3 c3 k3
  have b3 := F3.binds (ps := ["numbers"]) fun _ _ _ _ _ _ us hl => match us, hl with | [_], _ => rfl
  have F4 := fun_mk (st := (top 8)) l4 c4 k4
  have b4 := F4.binds (ps := ["top", "bottom"]) fun _ _ _ _ _ _ us hl => match us, hl with | [_, _], _ => rfl
  have F5 := fun_mk (st := (top 9)) l5 c5 k5
  have b5 := F5.binds (ps := ["number"]) fun _ _ _ _ _ _ us hl => match us, hl with | [_], _ => rfl
  have F6 := fun_mk (st := (top 10)) l6 c6 k6
  have b6 := F6.binds (ps := ["one", "other"]) fun _ _ _ _ _ _ us hl => match us, hl with | [_, _], _ => rfl
  have F7 := fun_mk (st := (top 11)) l7 c7 k7
  have b7 := F7.binds (ps := ["one", "other"]) fun _ _ _ _ _ _ us hl => match us, hl with | [_, _], _ => rfl
  have F8 := fun_mk (st := (top 12)) l8 c8 k8
  have b8 := F8.binds (ps := ["one", "other"]) fun _ _ _ _ _ _ us hl => match us, hl with | [_, _], _ => rfl
  have F9 := fun_mk (st := (top 16)) l9 c9 k9
  have b9 := F9.binds (ps := ["worths"]) fun _ _ _ _ _ _ us hl => match us, hl with | [_], _ => rfl
  have F10 := fun_mk (st := (top 17)) l10 c10 k10
  have b10 := F10.binds (ps := ["rows"]) fun _ _ _ _ _ _ us hl => match us, hl with | [_], _ => rfl
  have F11 := fun_mk (st := (top 18)) l11 c11 k11
  have b11 := F11.binds (ps := ["table"]) fun _ _ _ _ _ _ us hl => match us, hl with | [_], _ => rfl
  have F12 := fun_mk (st := (top 19)) l12 c12 k12
  have b12 := F12.binds (ps := ["table", "level"]) fun _ _ _ _ _ _ us hl => match us, hl with | [_, _], _ => rfl
  have F13 := fun_mk (st := (top 20)) l13 c13 k13
  have b13 := F13.binds (ps := ["rows"]) fun _ _ _ _ _ _ us hl => match us, hl with | [_], _ => rfl
  have F14 := fun_mk (st := (top 21)) l14 c14 k14
  have b14 := F14.binds (ps := ["table", "price"]) fun _ _ _ _ _ _ us hl => match us, hl with | [_, _], _ => rfl
  have F15 := fun_mk (st := (top 30)) l15 c15 k15
  have b15 := F15.binds (ps := ["thing"]) fun _ _ _ _ _ _ us hl => match us, hl with | [_], _ => rfl
  have F16 := fun_mk (st := (top 31)) l16 c16 k16
  have b16 := F16.binds (ps := ["row"]) fun _ _ _ _ _ _ us hl => match us, hl with | [_], _ => rfl
  have F17 := fun_mk (st := (top 32)) l17 c17 k17
  have b17 := F17.binds (ps := ["rows"]) fun _ _ _ _ _ _ us hl => match us, hl with | [_], _ => rfl
  have F18 := fun_mk (st := (top 34)) l18 c18 k18
  have b18 := F18.binds (ps := ["_law_script", "_law_k"]) fun _ _ _ _ _ _ us hl => match us, hl with | [_, _], _ => rfl
  have F19 := fun_mk (st := (top 35)) l19 c19 k19
  have b19 := F19.binds (ps := ["_law_cell", "_law_k"]) fun _ _ _ _ _ _ us hl => match us, hl with | [_, _], _ => rfl
  have F20 := fun_mk (st := (top 36)) l20 c20 k20
  have b20 := F20.binds (ps := ["_law_thing"]) fun _ _ _ _ _ _ us hl => match us, hl with | [_], _ => rfl
  have F21 := fun_mk (st := (top 37)) l21 c21 k21
  have b21 := F21.binds (ps := ["_law_found", "_law_due"]) fun _ _ _ _ _ _ us hl => match us, hl with | [_, _], _ => rfl
  have F22 := fun_mk (st := (top 38)) l22 c22 k22
  have b22 := F22.binds (ps := ["_law_top", "_law_bottom"]) fun _ _ _ _ _ _ us hl => match us, hl with | [_, _], _ => rfl
  have F23 := fun_mk (st := (top 40)) l23 c23 k23
  have b23 := F23.binds (ps := ["_law_one", "_law_other"]) fun _ _ _ _ _ _ us hl => match us, hl with | [_, _], _ => rfl
  have F24 := fun_mk (st := (top 41)) l24 c24 k24
  have b24 := F24.binds (ps := ["_law_one", "_law_other"]) fun _ _ _ _ _ _ us hl => match us, hl with | [_, _], _ => rfl
  have F25 := fun_mk (st := (top 42)) l25 c25 k25
  have b25 := F25.binds (ps := ["_law_cell", "_law_bit", "_law_many"]) fun _ _ _ _ _ _ us hl => match us, hl with | [_, _, _], _ => rfl
  have F26 := fun_mk (st := (top 43)) l26 c26 k26
  have b26 := F26.binds (ps := ["_law_row_here", "_law_deep_here", "_law_most", "_law_scale"]) fun _ _ _ _ _ _ us hl => match us, hl with | [_, _, _, _], _ => rfl
  have F27 := fun_mk (st := (top 44)) l27 c27 k27
  have b27 := F27.binds (ps := ["_law_told"]) fun _ _ _ _ _ _ us hl => match us, hl with | [_], _ => rfl
  have F28 := fun_mk (st := (top 45)) l28 c28 k28
  have b28 := F28.binds (ps := ["_law_told", "_law_stand_here"]) fun _ _ _ _ _ _ us hl => match us, hl with | [_, _], _ => rfl
  have F29 := fun_mk (st := (top 46)) l29 c29 k29
  have b29 := F29.binds (ps := ["_law_told"]) fun _ _ _ _ _ _ us hl => match us, hl with | [_], _ => rfl
  have F30 := fun_mk (st := (top 47)) l30 c30 k30
  have b30 := F30.binds (ps := ["_law_stand_here", "_law_told"]) fun _ _ _ _ _ _ us hl => match us, hl with | [_, _], _ => rfl
  have F31 := fun_mk (st := (top 48)) l31 c31 k31
  have b31 := F31.binds (ps := ["_law_stand_here", "_law_told"]) fun _ _ _ _ _ _ us hl => match us, hl with | [_, _], _ => rfl
  have F32 := fun_mk (st := (top 49)) l32 c32 k32
  have F33 := fun_mk (st := (inClass (top 27) 0)) l33 c33 k33
  have b33 := F33.binds (ps := ["self", "end_count", "stage_count", "level", "cap_rows"]) fun _ _ _ _ _ _ us hl => match us, hl with | [_, _, _, _, _], _ => rfl
  have F34 := fun_mk (st := (inClass (top 27) 1)) l34 c34 k34
  have b34 := F34.binds (ps := ["self"]) fun _ _ _ _ _ _ us hl => match us, hl with | [_], _ => rfl
  have F35 := fun_mk (st := (inClass (top 27) 2)) l35 c35 k35
  have b35 := F35.binds (ps := ["self"]) fun _ _ _ _ _ _ us hl => match us, hl with | [_], _ => rfl
  have F36 := fun_mk (st := (inClass (top 27) 3)) l36 c36 k36
  have b36 := F36.binds (ps := ["self"]) fun _ _ _ _ _ _ us hl => match us, hl with | [_], _ => rfl
  have F37 := fun_mk (st := (inClass (top 27) 4)) l37 c37 k37
  have b37 := F37.binds (ps := ["self"]) fun _ _ _ _ _ _ us hl => match us, hl with | [_], _ => rfl
  have F38 := fun_mk (st := (inClass (top 28) 0)) l38 c38 k38
  have b38 := F38.binds (ps := ["self", "worth"]) fun _ _ _ _ _ _ us hl => match us, hl with | [_, _], _ => rfl
  have F39 := fun_mk (st := (inClass (top 28) 1)) l39 c39 k39
  have b39 := F39.binds (ps := ["self"]) fun _ _ _ _ _ _ us hl => match us, hl with | [_], _ => rfl
  have F40 := fun_mk (st := (inClass (top 28) 2)) l40 c40 k40
  have b40 := F40.binds (ps := ["self"]) fun _ _ _ _ _ _ us hl => match us, hl with | [_], _ => rfl
  have F41 := fun_mk (st := (inClass (top 28) 4)) l41 c41 k41
  have b41 := F41.binds (ps := ["self"]) fun _ _ _ _ _ _ us hl => match us, hl with | [_], _ => rfl
  have F42 := fun_mk (st := (inClass (top 29) 0)) l42 c42 k42
  have b42 := F42.binds (ps := ["self", "price", "rows"]) fun _ _ _ _ _ _ us hl => match us, hl with | [_, _, _], _ => rfl
  have F43 := fun_mk (st := (inClass (top 29) 1)) l43 c43 k43
  have b43 := F43.binds (ps := ["self"]) fun _ _ _ _ _ _ us hl => match us, hl with | [_], _ => rfl
  have F44 := fun_mk (st := (inClass (top 29) 2)) l44 c44 k44
  have b44 := F44.binds (ps := ["self", "row"]) fun _ _ _ _ _ _ us hl => match us, hl with | [_, _], _ => rfl
  have F45 := fun_mk (st := (inClass (top 29) 3)) l45 c45 k45
  have b45 := F45.binds (ps := ["self", "row"]) fun _ _ _ _ _ _ us hl => match us, hl with | [_, _], _ => rfl
  have F46 := fun_mk (st := (inClass (top 29) 4)) l46 c46 k46
  have b46 := F46.binds (ps := ["self"]) fun _ _ _ _ _ _ us hl => match us, hl with | [_], _ => rfl
  have F47 := fun_mk (st := (inClass (top 29) 6)) l47 c47 k47
  have b47 := F47.binds (ps := ["self"]) fun _ _ _ _ _ _ us hl => match us, hl with | [_], _ => rfl
  have m1 := W.mg_of X G a1
  have m2 := W.mg_of X G a2
  have m3 := W.mg_of X G a3
  have m4 := W.mg_of X G a4
  have m5 := W.mg_of X G a5
  have m6 := W.mg_of X G a6
  have m7 := W.mg_of X G a7
  have m8 := W.mg_of X G a8
  have m9 := W.mg_of X G a9
  have m10 := W.mg_of X G a10
  have m11 := W.mg_of X G a11
  have m12 := W.mg_of X G a12
  have m13 := W.mg_of X G a13
  have m14 := W.mg_of X G a14
  have m15 := W.mg_of X G a15
  have m16 := W.mg_of X G a16
  have m17 := W.mg_of X G a17
  have m18 := W.mg_of X G a18
  have m19 := W.mg_of X G a19
  have m20 := W.mg_of X G a20
  have m21 := W.mg_of X G a21
  have m22 := W.mg_of X G a22
  have m23 := W.mg_of X G a23
  have m24 := W.mg_of X G a24
  have m25 := W.mg_of X G a25
  have m26 := W.mg_of X G a26
  have m27 := W.mg_of X G a27
  have m28 := W.mg_of X G a28
  have m29 := W.mg_of X G a29
  have m30 := W.mg_of X G a30
  have m31 := W.mg_of X G a31
  have g_Stand := W.mg_of X G aC_Stand
  have g_End := W.mg_of X G aC_End
  have g_Stage := W.mg_of X G aC_Stage
  have z_abs := W.mg_none_of X G y_abs
  have z_all := W.mg_none_of X G y_all
  have z_bool := W.mg_none_of X G y_bool
  have z_enumerate := W.mg_none_of X G y_enumerate
  have z_int := W.mg_none_of X G y_int
  have z_isinstance := W.mg_none_of X G y_isinstance
  have z_len := W.mg_none_of X G y_len
  have z_list := W.mg_none_of X G y_list
  have z_max := W.mg_none_of X G y_max
  have z_min := W.mg_none_of X G y_min
  have z_range := W.mg_none_of X G y_range
  have z_reversed := W.mg_none_of X G y_reversed
  have z_sorted := W.mg_none_of X G y_sorted
  have z_str := W.mg_none_of X G y_str
  have z_sum := W.mg_none_of X G y_sum
  have z_tuple := W.mg_none_of X G y_tuple
  have g_MOST_WEIGHT := W.mg_of X G yg_MOST_WEIGHT
  have r_MOST_WEIGHT : RelV (.int 1000) (.int 1000 tk_MOST_WEIGHT) := ⟨_, rfl⟩
  have g_MOST_STAGE_ROWS := W.mg_of X G yg_MOST_STAGE_ROWS
  have r_MOST_STAGE_ROWS : RelV (.int 4) (.int 4 tk_MOST_STAGE_ROWS) := ⟨_, rfl⟩
  have g_MOST_WORTH := W.mg_of X G yg_MOST_WORTH
  have r_MOST_WORTH : RelV (.int 1000000000) (.int 1000000000 tk_MOST_WORTH) := ⟨_, rfl⟩
  have g_MOST_STAGES := W.mg_of X G yg_MOST_STAGES
  have r_MOST_STAGES : RelV (.int 4) (.int 4 tk_MOST_STAGES) := ⟨_, rfl⟩
  have g_MOST_ENDS := W.mg_of X G yg_MOST_ENDS
  have r_MOST_ENDS : RelV (.int 12) (.int 12 tk_MOST_ENDS) := ⟨_, rfl⟩
  have g_MOST_PRICE := W.mg_of X G yg_MOST_PRICE
  have r_MOST_PRICE : RelV (.int 1000000000) (.int 1000000000 tk_MOST_PRICE) := ⟨_, rfl⟩
  refine ⟨W.fnOf "law" "law" (defArgs (top 49)) (defBody (top 49)) (defScope (top 49)) .none kV32 dc32 pm32 an32 cd32 ct32, cR, Pt, fun s v => .of_eq rfl, tb, ch, np, fun base _ _ hC hB => ?_⟩
  have ck : CK K c := ⟨⟨pgE, hdE, poE, saE⟩, ⟨pgS, hdS, poS, saS⟩, nE1, nE2, nE3, nE4, nE5, nS1, nS2, nS3, nS4, nS5, nS6⟩
  have ct : CT K c := ⟨hn, htk, haE, hmE, haS, hmS, qEE, qSE, qSS⟩
  have ME : Mk K c.e f38 := ⟨mkE, a38, i38, kcE⟩
  have MS : Mk K c.s f42 := ⟨mkS, a42, i42, kcS⟩
  have mS_i : ClsM K cSt "__init__" f33 := ⟨uga, urd, uat, uhd, k33⟩
  have mE_ends : Meth K c.e "ends" f34 := ⟨vE_ends, i34, k34⟩
  have mS_ends : Meth K c.s "ends" f34 := ⟨vS_ends, i34, k34⟩
  have mE_stages : Meth K c.e "stages" f35 := ⟨vE_stages, i35, k35⟩
  have mS_stages : Meth K c.s "stages" f35 := ⟨vS_stages, i35, k35⟩
  have mE_reserve : Meth K c.e "reserve" f36 := ⟨vE_reserve, i36, k36⟩
  have mS_reserve : Meth K c.s "reserve" f36 := ⟨vS_reserve, i36, k36⟩
  have mE_caps : Meth K c.e "caps" f37 := ⟨vE_caps, i37, k37⟩
  have mS_caps : Meth K c.s "caps" f37 := ⟨vS_caps, i37, k37⟩
  have mt39 : Meth K c.e "is_end" f39 := ⟨a39, i39, k39⟩
  have mt40 : Meth K c.e "ways" f40 := ⟨a40, i40, k40⟩
  have mt41 : Meth K c.e "told" f41 := ⟨a41, i41, k41⟩
  have mt43 : Meth K c.s "is_end" f43 := ⟨a43, i43, k43⟩
  have mt44 : Meth K c.s "row_share" f44 := ⟨a44, i44, k44⟩
  have mt45 : Meth K c.s "after" f45 := ⟨a45, i45, k45⟩
  have mt46 : Meth K c.s "ways" f46 := ⟨a46, i46, k46⟩
  have mt47 : Meth K c.s "told" f47 := ⟨a47, i47, k47⟩
  have G1 : FnOk l.prog w K mg base CX0 1 f1 _ ["thing", "least", "most"] spIsW := ok_is_whole (n := 0) F1 z_isinstance z_bool z_int
  have C1 : Cal l.prog w K mg base 1 "is_whole" ["thing", "least", "most"] spIsW f1 _ := ⟨G1, b1, k1, m1⟩
  have G2 : FnOk l.prog w K mg base CX0 1 f2 _ ["one", "other"] spCd := ok_common_divisor (n := 0) F2 z_abs
  have C2 : Cal l.prog w K mg base 1 "common_divisor" ["one", "other"] spCd f2 _ := ⟨G2, b2, k2, m2⟩
  have G3 : FnOk l.prog w K mg base CX0 2 f3 _ ["numbers"] (spCM K) := ok_common_multiple (n := 1) F3 (C2.up (by decide))
  have C3 : Cal l.prog w K mg base 2 "common_multiple" ["numbers"] (spCM K) f3 _ := ⟨G3, b3, k3, m3⟩
  have G4 : FnOk l.prog w K mg base CX0 2 f4 _ ["top", "bottom"] spShare := ok_share (n := 1) F4 (C2.up (by decide))
  have C4 : Cal l.prog w K mg base 2 "share" ["top", "bottom"] spShare f4 _ := ⟨G4, b4, k4, m4⟩
  have G5 : FnOk l.prog w K mg base CX0 1 f5 _ ["number"] spWh := ok_whole (n := 0) F5
  have C5 : Cal l.prog w K mg base 1 "whole" ["number"] spWh f5 _ := ⟨G5, b5, k5, m5⟩
  have G6 : FnOk l.prog w K mg base CX0 3 f6 _ ["one", "other"] spTm := ok_times (n := 2) F6 (C4.up (by decide))
  have C6 : Cal l.prog w K mg base 3 "times" ["one", "other"] spTm f6 _ := ⟨G6, b6, k6, m6⟩
  have G7 : FnOk l.prog w K mg base CX0 1 f7 _ ["one", "other"] (spBelow K) := ok_below (n := 0) F7
  have C7 : Cal l.prog w K mg base 1 "below" ["one", "other"] (spBelow K) f7 _ := ⟨G7, b7, k7, m7⟩
  have G8 : FnOk l.prog w K mg base CX0 2 f8 _ ["one", "other"] (spLs K) := ok_lesser (n := 1) F8 (C7.up (by decide))
  have C8 : Cal l.prog w K mg base 2 "lesser" ["one", "other"] (spLs K) f8 _ := ⟨G8, b8, k8, m8⟩
  have G9 : FnOk l.prog w K mg base CX0 1 f9 _ ["worths"] (spRise K Pt lamP) := ok_rising (n := 0) F9 rfl hC hB z_sorted z_max
  have C9 : Cal l.prog w K mg base 1 "rising" ["worths"] (spRise K Pt lamP) f9 _ := ⟨G9, b9, k9, m9⟩
  have G10 : FnOk l.prog w K mg base CX0 2 f10 _ ["rows"] (spForm Pt lamP) := ok_in_form (n := 1) F10 (C9.up (by decide)) (C2.up (by decide)) z_list
  have C10 : Cal l.prog w K mg base 2 "in_form" ["rows"] (spForm Pt lamP) f10 _ := ⟨G10, b10, k10, m10⟩
  have G11 : FnOk l.prog w K mg base CX0 1 f11 _ ["table"] spAW := ok_all_weights (n := 0) F11 z_sum
  have C11 : Cal l.prog w K mg base 1 "all_weights" ["table"] spAW f11 _ := ⟨G11, b11, k11, m11⟩
  have G12 : FnOk l.prog w K mg base CX0 3 f12 _ ["table", "level"] (spCap2 Pt lamP) := ok_capped (n := 2) F12 (C10.up (by decide)) (C8.up (by decide))
  have C12 : Cal l.prog w K mg base 3 "capped" ["table", "level"] (spCap2 Pt lamP) f12 _ := ⟨G12, b12, k12, m12⟩
  have G13 : FnOk l.prog w K mg base CX0 3 f13 _ ["rows"] (spMix2 Pt lamP) := ok_mixed (n := 2) F13 (C10.up (by decide)) (C11.up (by decide)) (C3.up (by decide))
  have C13 : Cal l.prog w K mg base 3 "mixed" ["rows"] (spMix2 Pt lamP) f13 _ := ⟨G13, b13, k13, m13⟩
  have G14 : FnOk l.prog w K mg base CX0 3 f14 _ ["table", "price"] spLF2 := ok_level_for (n := 2) F14 (C4.up (by decide)) (C11.up (by decide)) (C3.up (by decide)) z_reversed
  have C14 : Cal l.prog w K mg base 3 "level_for" ["table", "price"] spLF2 f14 _ := ⟨G14, b14, k14, m14⟩
  have G15 : FnOk l.prog w K mg base CX0 1 f15 _ ["thing"] (spIsSt c) := ok_is_stand (n := 0) F15 ck ct g_End g_Stage z_isinstance
  have C15 : Cal l.prog w K mg base 1 "is_stand" ["thing"] (spIsSt c) f15 _ := ⟨G15, b15, k15, m15⟩
  have G16 : FnOk l.prog w K mg base CX0 2 f16 _ ["row"] (spIsRow c) := ok_is_stage_row (n := 1) F16 (C15.up (by decide)) (C1.up (by decide)) z_len z_isinstance z_tuple g_MOST_WEIGHT r_MOST_WEIGHT
  have C16 : Cal l.prog w K mg base 2 "is_stage_row" ["row"] (spIsRow c) f16 _ := ⟨G16, b16, k16, m16⟩
  have G17 : FnOk l.prog w K mg base CX0 3 f17 _ ["rows"] (spIsRows c) := ok_is_stage_rows (n := 2) F17 (C16.up (by decide)) z_all z_len z_isinstance z_list g_MOST_STAGE_ROWS r_MOST_STAGE_ROWS
  have C17 : Cal l.prog w K mg base 3 "is_stage_rows" ["rows"] (spIsRows c) f17 _ := ⟨G17, b17, k17, m17⟩
  have G18 : FnOk l.prog w K mg base CX0 1 f18 _ ["_law_script", "_law_k"] (spCA1 K) := ok__law_cell_at (n := 0) F18 z_len
  have C18 : Cal l.prog w K mg base 1 "_law_cell_at" ["_law_script", "_law_k"] (spCA1 K) f18 _ := ⟨G18, b18, k18, m18⟩
  have G19 : FnOk l.prog w K mg base CX0 1 f19 _ ["_law_cell", "_law_k"] spMx1 := ok__law_mixed (n := 0) F19
  have C19 : Cal l.prog w K mg base 1 "_law_mixed" ["_law_cell", "_law_k"] spMx1 f19 _ := ⟨G19, b19, k19, m19⟩
  have G20_0 : FnOk l.prog w K mg base CX0 1 f20 _ ["_law_thing"] spNo := no_fnF F20 (fun _ _ _ _ z => z) 1
  have G20_1 : FnOk l.prog w K mg base CX0 2 f20 _ ["_law_thing"] (spPn 0) := ok__law_plain0 (n := 1) F20 ⟨G20_0, b20, k20, m20⟩ z_isinstance z_bool z_int z_str z_list z_tuple
  have G20_2 : FnOk l.prog w K mg base CX0 3 f20 _ ["_law_thing"] (spPn 1) := ok__law_plain (n := 2) F20 ⟨G20_1, b20, k20, m20⟩ z_isinstance z_bool z_int z_str z_list z_tuple
  have G20_3 : FnOk l.prog w K mg base CX0 4 f20 _ ["_law_thing"] (spPn 2) := ok__law_plain (n := 3) F20 ⟨G20_2, b20, k20, m20⟩ z_isinstance z_bool z_int z_str z_list z_tuple
  have G20_4 : FnOk l.prog w K mg base CX0 5 f20 _ ["_law_thing"] (spPn 3) := ok__law_plain (n := 4) F20 ⟨G20_3, b20, k20, m20⟩ z_isinstance z_bool z_int z_str z_list z_tuple
  have G20_5 : FnOk l.prog w K mg base CX0 6 f20 _ ["_law_thing"] (spPn 4) := ok__law_plain (n := 5) F20 ⟨G20_4, b20, k20, m20⟩ z_isinstance z_bool z_int z_str z_list z_tuple
  have G20_6 : FnOk l.prog w K mg base CX0 7 f20 _ ["_law_thing"] (spPn 5) := ok__law_plain (n := 6) F20 ⟨G20_5, b20, k20, m20⟩ z_isinstance z_bool z_int z_str z_list z_tuple
  have G20_7 : FnOk l.prog w K mg base CX0 8 f20 _ ["_law_thing"] (spPn 6) := ok__law_plain (n := 7) F20 ⟨G20_6, b20, k20, m20⟩ z_isinstance z_bool z_int z_str z_list z_tuple
  have G20_8 : FnOk l.prog w K mg base CX0 9 f20 _ ["_law_thing"] (spPn 7) := ok__law_plain (n := 8) F20 ⟨G20_7, b20, k20, m20⟩ z_isinstance z_bool z_int z_str z_list z_tuple
  have G20_9 : FnOk l.prog w K mg base CX0 10 f20 _ ["_law_thing"] (spPn 8) := ok__law_plain (n := 9) F20 ⟨G20_8, b20, k20, m20⟩ z_isinstance z_bool z_int z_str z_list z_tuple
  have G20_10 : FnOk l.prog w K mg base CX0 11 f20 _ ["_law_thing"] (spPn 9) := ok__law_plain (n := 10) F20 ⟨G20_9, b20, k20, m20⟩ z_isinstance z_bool z_int z_str z_list z_tuple
  have G20_11 : FnOk l.prog w K mg base CX0 12 f20 _ ["_law_thing"] (spPn 10) := ok__law_plain (n := 11) F20 ⟨G20_10, b20, k20, m20⟩ z_isinstance z_bool z_int z_str z_list z_tuple
  have G20_12 : FnOk l.prog w K mg base CX0 13 f20 _ ["_law_thing"] (spPn 11) := ok__law_plain (n := 12) F20 ⟨G20_11, b20, k20, m20⟩ z_isinstance z_bool z_int z_str z_list z_tuple
  have G20_13 : FnOk l.prog w K mg base CX0 14 f20 _ ["_law_thing"] (spPn 12) := ok__law_plain (n := 13) F20 ⟨G20_12, b20, k20, m20⟩ z_isinstance z_bool z_int z_str z_list z_tuple
  have G20_14 : FnOk l.prog w K mg base CX0 15 f20 _ ["_law_thing"] (spPn 13) := ok__law_plain (n := 14) F20 ⟨G20_13, b20, k20, m20⟩ z_isinstance z_bool z_int z_str z_list z_tuple
  have G20 : FnOk l.prog w K mg base CX0 16 f20 _ ["_law_thing"] (spPn 14) := ok__law_plain (n := 15) F20 ⟨G20_14, b20, k20, m20⟩ z_isinstance z_bool z_int z_str z_list z_tuple
  have C20 : Cal l.prog w K mg base 16 "_law_plain" ["_law_thing"] (spPn 14) f20 _ := ⟨G20, b20, k20, m20⟩
  have G21 : FnOk l.prog w K mg base CX0 17 f21 _ ["_law_found", "_law_due"] spSame := ok__law_same (n := 16) F21 (C20.up (by decide))
  have C21 : Cal l.prog w K mg base 17 "_law_same" ["_law_found", "_law_due"] spSame f21 _ := ⟨G21, b21, k21, m21⟩
  have G22 : FnOk l.prog w K mg base CX0 1 f22 _ ["_law_top", "_law_bottom"] spLow := ok__law_low (n := 0) F22 z_abs
  have C22 : Cal l.prog w K mg base 1 "_law_low" ["_law_top", "_law_bottom"] spLow f22 _ := ⟨G22, b22, k22, m22⟩
  have G23 : FnOk l.prog w K mg base CX0 2 f23 _ ["_law_one", "_law_other"] spTm := ok__law_times (n := 1) F23 (C22.up (by decide))
  have C23 : Cal l.prog w K mg base 2 "_law_times" ["_law_one", "_law_other"] spTm f23 _ := ⟨G23, b23, k23, m23⟩
  have G24 : FnOk l.prog w K mg base CX0 1 f24 _ ["_law_one", "_law_other"] spLess := ok__law_less (n := 0) F24
  have C24 : Cal l.prog w K mg base 1 "_law_less" ["_law_one", "_law_other"] spLess f24 _ := ⟨G24, b24, k24, m24⟩
  have G25 : FnOk l.prog w K mg base CX0 2 f25 _ ["_law_cell", "_law_bit", "_law_many"] spRow1 := ok__law_row (n := 1) F25 (C19.up (by decide)) z_range
  have C25 : Cal l.prog w K mg base 2 "_law_row" ["_law_cell", "_law_bit", "_law_many"] spRow1 f25 _ := ⟨G25, b25, k25, m25⟩
  have G26_0 : FnOk l.prog w K mg base CX0 1 f26 _ ["_law_row_here", "_law_deep_here", "_law_most", "_law_scale"] (spBox 0) := no_fnF F26 (fun vs H Q E ⟨_, _, _, _, _, _, _, h, _⟩ => absurd h (Nat.not_lt_zero _)) 1
  have G26_1 : FnOk l.prog w K mg base CX0 2 f26 _ ["_law_row_here", "_law_deep_here", "_law_most", "_law_scale"] (spBox 1) := ok__law_box (n := 1) F26 ⟨G26_0, b26, k26, m26⟩ z_tuple z_range z_min
  have G26_2 : FnOk l.prog w K mg base CX0 3 f26 _ ["_law_row_here", "_law_deep_here", "_law_most", "_law_scale"] (spBox 2) := ok__law_box (n := 2) F26 ⟨G26_1, b26, k26, m26⟩ z_tuple z_range z_min
  have G26_3 : FnOk l.prog w K mg base CX0 4 f26 _ ["_law_row_here", "_law_deep_here", "_law_most", "_law_scale"] (spBox 3) := ok__law_box (n := 3) F26 ⟨G26_2, b26, k26, m26⟩ z_tuple z_range z_min
  have G26_4 : FnOk l.prog w K mg base CX0 5 f26 _ ["_law_row_here", "_law_deep_here", "_law_most", "_law_scale"] (spBox 4) := ok__law_box (n := 4) F26 ⟨G26_3, b26, k26, m26⟩ z_tuple z_range z_min
  have G26 : FnOk l.prog w K mg base CX0 6 f26 _ ["_law_row_here", "_law_deep_here", "_law_most", "_law_scale"] (spBox 5) := ok__law_box (n := 5) F26 ⟨G26_4, b26, k26, m26⟩ z_tuple z_range z_min
  have C26 : Cal l.prog w K mg base 6 "_law_box" ["_law_row_here", "_law_deep_here", "_law_most", "_law_scale"] (spBox 5) f26 _ := ⟨G26, b26, k26, m26⟩
  have G33 : FnOk l.prog w K mg base CX0 1 f33 _ ["self", "end_count", "stage_count", "level", "cap_rows"] (spStI c) := ok_Stand___init__ (n := 0) F33 ck z_tuple
  have G38 : FnOk l.prog w K mg base CX0 2 f38 _ ["self", "worth"] (spEI c) := ok_End___init__ (n := 1) F38 ck g_Stand mS_i (G33.mono (by decide)) b33 (C5.up (by decide)) (C1.up (by decide))  g_MOST_WORTH r_MOST_WORTH
  have G34 : FnOk l.prog w K mg base CX0 1 f34 _ ["self"] (spEnds c) := ok_Stand_ends (n := 0) F34 ck
  have G35 : FnOk l.prog w K mg base CX0 1 f35 _ ["self"] (spStgs c) := ok_Stand_stages (n := 0) F35 ck
  have G37 : FnOk l.prog w K mg base CX0 1 f37 _ ["self"] (spCaps c) := ok_Stand_caps (n := 0) F37 ck z_list
  have G42 : FnOk l.prog w K mg base CX0 4 f42 _ ["self", "price", "rows"] (spSI c Pt lamP) := ok_Stage___init__ (n := 3) F42 ck g_Stand mS_i (G33.mono (by decide)) b33 ck.ce ck.cs mE_ends mS_ends (G34.mono (by decide)) b34 mE_stages mS_stages (G35.mono (by decide)) b35 mE_caps mS_caps (G37.mono (by decide)) b37 (C12.up (by decide)) (C14.up (by decide)) (C13.up (by decide)) (C17.up (by decide)) (C1.up (by decide)) z_tuple z_max z_sum g_MOST_STAGES r_MOST_STAGES g_MOST_ENDS r_MOST_ENDS g_MOST_PRICE r_MOST_PRICE
  have G27_0 : FnOk l.prog w K mg base CX0 5 f27 _ ["_law_told"] (spLS c Pt lamP 0) := no_fnF F27 (fun vs H Q E ⟨_, _, _, _, _, _, _, h, _⟩ => absurd h (Nat.not_lt_zero _)) 5
  have G27_1 : FnOk l.prog w K mg base CX0 6 f27 _ ["_law_told"] (spLS c Pt lamP 1) := ok__law_stand (n := 5) F27 ME G38 b38 g_End (by decide) MS G42 b42 g_Stage (by decide) ⟨G27_0, b27, k27, m27⟩
  have G27_2 : FnOk l.prog w K mg base CX0 7 f27 _ ["_law_told"] (spLS c Pt lamP 2) := ok__law_stand (n := 6) F27 ME G38 b38 g_End (by decide) MS G42 b42 g_Stage (by decide) ⟨G27_1, b27, k27, m27⟩
  have G27_3 : FnOk l.prog w K mg base CX0 8 f27 _ ["_law_told"] (spLS c Pt lamP 3) := ok__law_stand (n := 7) F27 ME G38 b38 g_End (by decide) MS G42 b42 g_Stage (by decide) ⟨G27_2, b27, k27, m27⟩
  have G27_4 : FnOk l.prog w K mg base CX0 9 f27 _ ["_law_told"] (spLS c Pt lamP 4) := ok__law_stand (n := 8) F27 ME G38 b38 g_End (by decide) MS G42 b42 g_Stage (by decide) ⟨G27_3, b27, k27, m27⟩
  have G27 : FnOk l.prog w K mg base CX0 10 f27 _ ["_law_told"] (spLS c Pt lamP 5) := ok__law_stand (n := 9) F27 ME G38 b38 g_End (by decide) MS G42 b42 g_Stage (by decide) ⟨G27_4, b27, k27, m27⟩
  have C27 : Cal l.prog w K mg base 10 "_law_stand" ["_law_told"] (spLS c Pt lamP 5) f27 _ := ⟨G27, b27, k27, m27⟩
  have G36 : FnOk l.prog w K mg base CX0 1 f36 _ ["self"] (spRes c) := ok_Stand_reserve (n := 0) F36 ck
  have G45 : FnOk l.prog w K mg base CX0 1 f45 _ ["self", "row"] (spAf c) := ok_Stage_after (n := 0) F45 ck
  have G28_0 : FnOk l.prog w K mg base CX0 3 f28 _ ["_law_told", "_law_stand_here"] (spLWy c 0) := no_fnF F28 (fun vs H Q E ⟨_, _, _, _, _, _, _, _, h, _⟩ => absurd h (Nat.not_lt_zero _)) 3
  have G28_1 : FnOk l.prog w K mg base CX0 4 f28 _ ["_law_told", "_law_stand_here"] (spLWy c 1) := ok__law_ways (n := 3) F28 ck.ce ck.cs mE_reserve mS_reserve (G36.mono (by decide)) b36 mt45 (G45.mono (by decide)) b45 ⟨G28_0, b28, k28, m28⟩ (C23.up (by decide)) (C22.up (by decide)) (C24.up (by decide)) z_enumerate z_sum
  have G28_2 : FnOk l.prog w K mg base CX0 5 f28 _ ["_law_told", "_law_stand_here"] (spLWy c 2) := ok__law_ways (n := 4) F28 ck.ce ck.cs mE_reserve mS_reserve (G36.mono (by decide)) b36 mt45 (G45.mono (by decide)) b45 ⟨G28_1, b28, k28, m28⟩ (C23.up (by decide)) (C22.up (by decide)) (C24.up (by decide)) z_enumerate z_sum
  have G28_3 : FnOk l.prog w K mg base CX0 6 f28 _ ["_law_told", "_law_stand_here"] (spLWy c 3) := ok__law_ways (n := 5) F28 ck.ce ck.cs mE_reserve mS_reserve (G36.mono (by decide)) b36 mt45 (G45.mono (by decide)) b45 ⟨G28_2, b28, k28, m28⟩ (C23.up (by decide)) (C22.up (by decide)) (C24.up (by decide)) z_enumerate z_sum
  have G28_4 : FnOk l.prog w K mg base CX0 7 f28 _ ["_law_told", "_law_stand_here"] (spLWy c 4) := ok__law_ways (n := 6) F28 ck.ce ck.cs mE_reserve mS_reserve (G36.mono (by decide)) b36 mt45 (G45.mono (by decide)) b45 ⟨G28_3, b28, k28, m28⟩ (C23.up (by decide)) (C22.up (by decide)) (C24.up (by decide)) z_enumerate z_sum
  have G28 : FnOk l.prog w K mg base CX0 8 f28 _ ["_law_told", "_law_stand_here"] (spLWy c 5) := ok__law_ways (n := 7) F28 ck.ce ck.cs mE_reserve mS_reserve (G36.mono (by decide)) b36 mt45 (G45.mono (by decide)) b45 ⟨G28_4, b28, k28, m28⟩ (C23.up (by decide)) (C22.up (by decide)) (C24.up (by decide)) z_enumerate z_sum
  have C28 : Cal l.prog w K mg base 8 "_law_ways" ["_law_told", "_law_stand_here"] (spLWy c 5) f28 _ := ⟨G28, b28, k28, m28⟩
  have G29_0 : FnOk l.prog w K mg base CX0 1 f29 _ ["_law_told"] (spDp 0) := no_fnF F29 (fun vs H Q E ⟨_, _, _, _, _, _, _, h, _⟩ => absurd h (Nat.not_lt_zero _)) 1
  have G29_1 : FnOk l.prog w K mg base CX0 2 f29 _ ["_law_told"] (spDp 1) := ok__law_deep (n := 1) F29 ⟨G29_0, b29, k29, m29⟩ z_max
  have G29_2 : FnOk l.prog w K mg base CX0 3 f29 _ ["_law_told"] (spDp 2) := ok__law_deep (n := 2) F29 ⟨G29_1, b29, k29, m29⟩ z_max
  have G29_3 : FnOk l.prog w K mg base CX0 4 f29 _ ["_law_told"] (spDp 3) := ok__law_deep (n := 3) F29 ⟨G29_2, b29, k29, m29⟩ z_max
  have G29_4 : FnOk l.prog w K mg base CX0 5 f29 _ ["_law_told"] (spDp 4) := ok__law_deep (n := 4) F29 ⟨G29_3, b29, k29, m29⟩ z_max
  have G29 : FnOk l.prog w K mg base CX0 6 f29 _ ["_law_told"] (spDp 5) := ok__law_deep (n := 5) F29 ⟨G29_4, b29, k29, m29⟩ z_max
  have C29 : Cal l.prog w K mg base 6 "_law_deep" ["_law_told"] (spDp 5) f29 _ := ⟨G29, b29, k29, m29⟩
  have G41 : FnOk l.prog w K mg base CX0 1 f41 _ ["self"] (spToE c) := ok_End_told (n := 0) F41 ck
  have G47_0 : FnOk l.prog w K mg base CX0 2 f47 _ ["self"] (spTo c 0) := no_fnF F47 (fun vs H Q E ⟨_, _, _, _, _, _, _, h, _⟩ => absurd h (Nat.not_lt_zero _)) 2
  have G47_1 : FnOk l.prog w K mg base CX0 3 f47 _ ["self"] (spTo c 1) := ok_Stage_told (n := 2) F47 ck ck.ce ck.cs mt41 (G41.mono (by decide)) b41 mt47 G47_0 b47 z_tuple
  have G47_2 : FnOk l.prog w K mg base CX0 4 f47 _ ["self"] (spTo c 2) := ok_Stage_told (n := 3) F47 ck ck.ce ck.cs mt41 (G41.mono (by decide)) b41 mt47 G47_1 b47 z_tuple
  have G47_3 : FnOk l.prog w K mg base CX0 5 f47 _ ["self"] (spTo c 3) := ok_Stage_told (n := 4) F47 ck ck.ce ck.cs mt41 (G41.mono (by decide)) b41 mt47 G47_2 b47 z_tuple
  have G47_4 : FnOk l.prog w K mg base CX0 6 f47 _ ["self"] (spTo c 4) := ok_Stage_told (n := 5) F47 ck ck.ce ck.cs mt41 (G41.mono (by decide)) b41 mt47 G47_3 b47 z_tuple
  have G47 : FnOk l.prog w K mg base CX0 7 f47 _ ["self"] (spTo c 5) := ok_Stage_told (n := 6) F47 ck ck.ce ck.cs mt41 (G41.mono (by decide)) b41 mt47 G47_4 b47 z_tuple
  have G39 : FnOk l.prog w K mg base CX0 1 f39 _ ["self"] (spIsE c true) := ok_End_is_end (n := 0) F39
  have G43 : FnOk l.prog w K mg base CX0 1 f43 _ ["self"] (spIsE c false) := ok_Stage_is_end (n := 0) F43
  have G44 : FnOk l.prog w K mg base CX0 3 f44 _ ["self", "row"] (spRS c) := ok_Stage_row_share (n := 2) F44 ck (C4.up (by decide)) z_sum
  have G30_0 : FnOk l.prog w K mg base CX0 18 f30 _ ["_law_stand_here", "_law_told"] (spIt c 0) := no_fnF F30 (fun vs H Q E ⟨_, _, _, _, _, _, _, _, h, _⟩ => absurd h (Nat.not_lt_zero _)) 18
  have G30_1 : FnOk l.prog w K mg base CX0 19 f30 _ ["_law_stand_here", "_law_told"] (spIt c 1) := ok__law_is_it (n := 18) F30 ck ct g_End g_Stage g_Stand qET qST ck.ce ck.cs mt41 (G41.mono (by decide)) b41 mt47 (G47.mono (by decide)) b47 mt39 (G39.mono (by decide)) b39 mt43 (G43.mono (by decide)) b43 mt45 (G45.mono (by decide)) b45 mt44 (G44.mono (by decide)) b44 (C21.up (by decide)) (C22.up (by decide)) ⟨G30_0, b30, k30, m30⟩ z_enumerate z_len z_isinstance z_tuple z_sum
  have G30_2 : FnOk l.prog w K mg base CX0 20 f30 _ ["_law_stand_here", "_law_told"] (spIt c 2) := ok__law_is_it (n := 19) F30 ck ct g_End g_Stage g_Stand qET qST ck.ce ck.cs mt41 (G41.mono (by decide)) b41 mt47 (G47.mono (by decide)) b47 mt39 (G39.mono (by decide)) b39 mt43 (G43.mono (by decide)) b43 mt45 (G45.mono (by decide)) b45 mt44 (G44.mono (by decide)) b44 (C21.up (by decide)) (C22.up (by decide)) ⟨G30_1, b30, k30, m30⟩ z_enumerate z_len z_isinstance z_tuple z_sum
  have G30_3 : FnOk l.prog w K mg base CX0 21 f30 _ ["_law_stand_here", "_law_told"] (spIt c 3) := ok__law_is_it (n := 20) F30 ck ct g_End g_Stage g_Stand qET qST ck.ce ck.cs mt41 (G41.mono (by decide)) b41 mt47 (G47.mono (by decide)) b47 mt39 (G39.mono (by decide)) b39 mt43 (G43.mono (by decide)) b43 mt45 (G45.mono (by decide)) b45 mt44 (G44.mono (by decide)) b44 (C21.up (by decide)) (C22.up (by decide)) ⟨G30_2, b30, k30, m30⟩ z_enumerate z_len z_isinstance z_tuple z_sum
  have G30_4 : FnOk l.prog w K mg base CX0 22 f30 _ ["_law_stand_here", "_law_told"] (spIt c 4) := ok__law_is_it (n := 21) F30 ck ct g_End g_Stage g_Stand qET qST ck.ce ck.cs mt41 (G41.mono (by decide)) b41 mt47 (G47.mono (by decide)) b47 mt39 (G39.mono (by decide)) b39 mt43 (G43.mono (by decide)) b43 mt45 (G45.mono (by decide)) b45 mt44 (G44.mono (by decide)) b44 (C21.up (by decide)) (C22.up (by decide)) ⟨G30_3, b30, k30, m30⟩ z_enumerate z_len z_isinstance z_tuple z_sum
  have G30 : FnOk l.prog w K mg base CX0 23 f30 _ ["_law_stand_here", "_law_told"] (spIt c 5) := ok__law_is_it (n := 22) F30 ck ct g_End g_Stage g_Stand qET qST ck.ce ck.cs mt41 (G41.mono (by decide)) b41 mt47 (G47.mono (by decide)) b47 mt39 (G39.mono (by decide)) b39 mt43 (G43.mono (by decide)) b43 mt45 (G45.mono (by decide)) b45 mt44 (G44.mono (by decide)) b44 (C21.up (by decide)) (C22.up (by decide)) ⟨G30_4, b30, k30, m30⟩ z_enumerate z_len z_isinstance z_tuple z_sum
  have C30 : Cal l.prog w K mg base 23 "_law_is_it" ["_law_stand_here", "_law_told"] (spIt c 5) f30 _ := ⟨G30, b30, k30, m30⟩
  have G40 : FnOk l.prog w K mg base CX0 2 f40 _ ["self"] (spWysE c) := ok_End_ways (n := 1) F40 ck ck.ce mE_reserve (G36.mono (by decide)) b36 (C5.up (by decide))
  have G46_0 : FnOk l.prog w K mg base CX0 4 f46 _ ["self"] (spWys c 0) := no_fnF F46 (fun vs H Q E ⟨_, _, _, _, _, _, _, h, _⟩ => absurd h (Nat.not_lt_zero _)) 4
  have G46_1 : FnOk l.prog w K mg base CX0 5 f46 _ ["self"] (spWys c 1) := ok_Stage_ways (n := 4) F46 ck ck.ce ck.cs mS_reserve (G36.mono (by decide)) b36 mt44 (G44.mono (by decide)) b44 mt45 (G45.mono (by decide)) b45 mt40 (G40.mono (by decide)) b40 mt46 G46_0 b46 (C8.up (by decide)) (C6.up (by decide)) z_range z_len
  have G46_2 : FnOk l.prog w K mg base CX0 6 f46 _ ["self"] (spWys c 2) := ok_Stage_ways (n := 5) F46 ck ck.ce ck.cs mS_reserve (G36.mono (by decide)) b36 mt44 (G44.mono (by decide)) b44 mt45 (G45.mono (by decide)) b45 mt40 (G40.mono (by decide)) b40 mt46 G46_1 b46 (C8.up (by decide)) (C6.up (by decide)) z_range z_len
  have G46_3 : FnOk l.prog w K mg base CX0 7 f46 _ ["self"] (spWys c 3) := ok_Stage_ways (n := 6) F46 ck ck.ce ck.cs mS_reserve (G36.mono (by decide)) b36 mt44 (G44.mono (by decide)) b44 mt45 (G45.mono (by decide)) b45 mt40 (G40.mono (by decide)) b40 mt46 G46_2 b46 (C8.up (by decide)) (C6.up (by decide)) z_range z_len
  have G46_4 : FnOk l.prog w K mg base CX0 8 f46 _ ["self"] (spWys c 4) := ok_Stage_ways (n := 7) F46 ck ck.ce ck.cs mS_reserve (G36.mono (by decide)) b36 mt44 (G44.mono (by decide)) b44 mt45 (G45.mono (by decide)) b45 mt40 (G40.mono (by decide)) b40 mt46 G46_3 b46 (C8.up (by decide)) (C6.up (by decide)) z_range z_len
  have G46 : FnOk l.prog w K mg base CX0 9 f46 _ ["self"] (spWys c 5) := ok_Stage_ways (n := 8) F46 ck ck.ce ck.cs mS_reserve (G36.mono (by decide)) b36 mt44 (G44.mono (by decide)) b44 mt45 (G45.mono (by decide)) b45 mt40 (G40.mono (by decide)) b40 mt46 G46_4 b46 (C8.up (by decide)) (C6.up (by decide)) z_range z_len
  have G31 : FnOk l.prog w K mg base CX0 24 f31 _ ["_law_stand_here", "_law_told"] (spGood c) := ok__law_good (n := 23) F31 ck.ce ck.cs mt40 (G40.mono (by decide)) b40 mt46 (G46.mono (by decide)) b46 mE_ends mS_ends (G34.mono (by decide)) b34 mE_stages mS_stages (G35.mono (by decide)) b35 (C21.up (by decide)) (C29.up (by decide)) (C30.up (by decide)) (C28.up (by decide)) z_len z_isinstance z_list
  have C31 : Cal l.prog w K mg base 24 "_law_good" ["_law_stand_here", "_law_told"] (spGood c) f31 _ := ⟨G31, b31, k31, m31⟩
  exact ok_law (n := 24) F32 ck.ce ck.cs mE_ends mS_ends (G34.mono (by decide)) b34 mE_stages mS_stages (G35.mono (by decide)) b35 ME G38 b38 g_End (by decide) MS G42 b42 g_Stage (by decide) (C31.up (by decide)) (C27.up (by decide)) (C26.up (by decide)) (C25.up (by decide)) (C18.up (by decide)) z_range z_max z_min z_len
theorem walk {l : W.OpenLaw} {q : Program} {loose : List Str} {XP : (Str -> Option Value) -> Heap -> Prop} {YP : World -> Heap -> Prop} {d d0 : DefRec} {K : Params -> W.Frag} (hn : l.most = some 63) (hdf : d.params.defaults = [])
    (h0 : (recsOf q).find? (fun e => e.name == ("rising" : Str)) = some d0)
    (hY : ∀ (w : World) (h : Heap), YP w h -> (K w.params).In h)
    (F : ∀ (w : World) (mg : Str -> Option Value) (fa : Addr) (h : Heap), (K w.params).In h -> h.Ns mainGlobals mg -> mg d.name = some (.ref fa) ->
      ∃ (fd : FuncData) (c P : Addr), (∀ (s : Shared) (u : Value), BindsTo s fd ⟨[u], []⟩ [("_law_script", u)]) /\ W.tabIn (K w.params) "rising" = some (c, P) /\ W.codeHdIn (K w.params) c P = true /\ (K w.params).lookup P = none /\ ∀ base : Heap, (K w.params).In base -> base.Ns mainGlobals mg -> W.CodeHd base c P -> base.BuiltinsAt mg P -> FnOk l.prog w (K w.params) mg base CX0 25 fa fd ["_law_script"] (spLaw12 (K w.params) P lamP)) :
    W.WalkO q loose XP YP l.row.toRowW d [] (fun f vs => PySem.call f vs) :=
  L2.walk_ofT (n := 63) (k := 25) (x := "_law_script") (x0 := "rising") (CX := fun _ => CX0) (sp := fun w P => spLaw12 (K w.params) P lamP) hn (by decide) hdf ⟨rfl, by decide, by decide⟩ h0 hY F (fun _ _ a P ns hl hP hS => ⟨a, ns, rfl, hS, hl, hP, fun _ => rfl⟩) fun _ _ _ _ _ z => z
noncomputable section
abbrev OO := Params -> Obj
def E (P : Params) (x : Str) (t : Tok) (v : Value) : DictEntry := ⟨PyData.keyHash P x, .str x t, v⟩
abbrev fnO (n q : Str) (st : Stmt) (dV kV doc pm : Value) (an : Option Addr) (cdv ct : Value) : FuncData := W.fnOf n q (defArgs st) (defBody st) (defScope st) dV kV doc pm an cdv ct
def fnT (n q : Str) (st : Stmt) : FuncData := { name := n, qualname := q, params := defArgs st, body := .stmts (defBody st), scope := defScope st, globals := 0, closure := [], defaults := .none, kwdefaults := .none }
def s0  : Obj := ⟨(.type "tuple"), none, (.seq #[] 0), #[]⟩
def s1  : Obj := ⟨.none, none, (.fields #[]), #[]⟩
def s2 (x0 : Str) (x1 : Nat) (x3 : Nat) (x5 : Nat) (x6 : Int) (x16 : Nat) (x19 : Nat) (x20 : Int) (x25 : Nat) : Obj := ⟨(.type "code"), none, (.fields #[(.str x0 x1), (.str x0 x3), (.str "/claim/cut.py" x5), (.int x6 0), (.int 0 0), (.int 0 0), (.int 0 0), (.int 0 0), (.ref x16), (.bool false), (.int 181 0), (.ref x19), .none, .none, .none, .none, (.int x20 0), (.int x6 0), (.str "/claim/cut.py" x25)]), #[]⟩
def s3 (x0 : Nat) (x2 : Nat) (x3 : Str) (x4 : Nat) : Obj := ⟨(.type "frame"), none, .plain, #[(some (.ref x0)), (some (.ref 3)), (some (.ref x2)), none, (some (.str x3 x4)), none, (some (.ref 0))]⟩
def s4 (x0 : Str) (x1 : Nat) : Obj := ⟨(.type "tuple"), none, (.seq #[(.str x0 x1)] 0), #[]⟩
def s5 (x0 : Str) (x1 : Str) (x2 : Stmt) : Obj := ⟨.none, none, (.func (fnT x0 x1 x2)), #[]⟩
def s6 (x0 : Str) (x1 : Nat) (x2 : Str) (x3 : Nat) (x5 : Nat) (x6 : Int) (x8 : Int) (x16 : Nat) (x19 : Nat) (x20 : Nat) (x21 : Nat) (x22 : Nat) (x23 : Int) (x28 : Nat) : Obj := ⟨(.type "code"), none, (.fields #[(.str x0 x1), (.str x2 x3), (.str "/claim/cut.py" x5), (.int x6 0), (.int x8 0), (.int 0 0), (.int 0 0), (.int 3 0), (.ref x16), (.bool true), (.int 181 0), (.ref x19), .none, (.ref x20), (.ref x21), (.ref x22), (.int x23 0), (.int x6 0), (.str "/claim/cut.py" x28)]), #[]⟩
def s7 (x0 : Str) (x1 : Str) (x2 : Stmt) (x3 : Str) (x4 : Nat) (x5 : Nat) : Obj := ⟨(.type "function"), none, (.func (fnO x0 x1 x2 .none .none .none (.str x3 x4) none (.ref x5) .none)), #[]⟩
def s8  : Obj := ⟨(.type "builtin_function_or_method"), none, (.fields #[(.builtin "type.__prepare__"), (.type "type")]), #[]⟩
def s9 (x0 : Nat) : Obj := ⟨(.type "super"), none, (.fields #[(.ref x0), (.ref x0), (.ref x0)]), #[]⟩
def s10 (x0 : Nat) : Obj := ⟨(.type "builtin_function_or_method"), none, (.fields #[(.builtin "object.__init_subclass__"), (.ref x0)]), #[]⟩
def s11 (x0 : Str) (x1 : Nat) (x2 : Str) (x3 : Nat) (x4 : Str) (x5 : Nat) : Obj := ⟨(.type "tuple"), none, (.seq #[(.str x0 x1), (.str x2 x3), (.str x4 x5)] 0), #[]⟩
def s12 (x0 : Str) (x1 : Nat) (x2 : Str) (x3 : Nat) : Obj := ⟨(.type "tuple"), none, (.seq #[(.str x0 x1), (.str x2 x3)] 0), #[]⟩
def s13 (x0 : Str) (x1 : Nat) (x2 : Str) (x3 : Nat) (x5 : Nat) (x6 : Int) (x8 : Int) (x16 : Nat) (x19 : Nat) (x20 : Nat) (x21 : Int) (x26 : Nat) : Obj := ⟨(.type "code"), none, (.fields #[(.str x0 x1), (.str x2 x3), (.str "/claim/cut.py" x5), (.int x6 0), (.int x8 0), (.int 0 0), (.int 0 0), (.int 3 0), (.ref x16), (.bool true), (.int 181 0), (.ref x19), .none, .none, .none, (.ref x20), (.int x21 0), (.int x6 0), (.str "/claim/cut.py" x26)]), #[]⟩
def o13 : OO := fun _ => s2 "<module>" 182 183 184 1 11 12 185 186
def o14 : OO := fun _ => s3 13 3 "__main__" 164
def o3 : OO := fun P => ⟨(.type "dict"), none, (.dict #[E P "__name__" 165 (.str "lidprice.stands" 341), E P "__doc__" 166 .none, E P "__package__" 167 .none, E P "__loader__" 168 (.builtin "__main__.__loader__#opaque"), E P "__spec__" 169 .none, E P "__annotations__" 170 (.ref 6), E P "__builtins__" 171 (.ref 4), E P "__file__" 173 (.str "/claim/cut.py" 172), E P "__cached__" 174 .none, E P "_wall" 193 (.ref 21), E P "LidError" 213 (.ref 31), E P "NoBox" 229 (.ref 44), E P "is_whole" 240 (.ref 53), E P "common_divisor" 249 (.ref 60), E P "common_multiple" 258 (.ref 67), E P "share" 267 (.ref 74), E P "whole" 274 (.ref 81), E P "times" 282 (.ref 88), E P "below" 290 (.ref 95), E P "lesser" 298 (.ref 102), E P "MOST_WORTH" 302 (.int 1000000000 301), E P "MOST_WEIGHT" 304 (.int 1000 303), E P "rising" 310 (.ref 107), E P "in_form" 316 (.ref 112), E P "all_weights" 322 (.ref 117), E P "capped" 328 (.ref 122), E P "mixed" 334 (.ref 127), E P "level_for" 340 (.ref 132), E P "MOST_PRICE" 344 (.int 1000000000 343), E P "MOST_STAGE_ROWS" 346 (.int 4 345), E P "MOST_STAGES" 348 (.int 4 347), E P "MOST_ENDS" 350 (.int 12 349), E P "Stand" 413 (.ref 177)] 33), #[]⟩
def o12_1 : OO := fun _ => ⟨.none, none, (.fields #[(.int 1 0), (.int 0 0), (.ref 20), (.int 5 0), (.int 0 0), (.ref 27), (.int 7 0), (.int 0 0), (.ref 40), (.int 10 0), (.int 0 0), (.ref 52), (.int 12 0), (.int 0 0), (.ref 59), (.int 18 0), (.int 0 0), (.ref 66), (.int 23 0), (.int 0 0), (.ref 73), (.int 28 0), (.int 0 0), (.ref 80), (.int 30 0), (.int 0 0), (.ref 87), (.int 32 0), (.int 0 0), (.ref 94), (.int 34 0), (.int 0 0), (.ref 101), (.int 39 0), (.int 0 0), (.ref 106), (.int 43 0), (.int 0 0), (.ref 111), (.int 51 0), (.int 0 0), (.ref 116), (.int 53 0), (.int 0 0), (.ref 121), (.int 55 0), (.int 0 0), (.ref 126), (.int 62 0), (.int 0 0), (.ref 131), (.int 78 0), (.int 0 0), (.ref 138)]), #[]⟩
def o17 : OO := fun _ => s4 "k" 190
def o19 : OO := fun _ => s5 "_wall" "_wall" (top 0)
def o20 : OO := fun _ => s6 "_wall" 187 "_wall" 188 189 1 1 15 16 17 18 19 191 192
def o21 : OO := fun _ => s7 "_wall" "_wall" (top 0) "__main__" 164 20
def o22 : OO := fun _ => ⟨(.type "tuple"), none, (.seq #[(.type "ValueError")] 0), #[]⟩
def o24 : OO := fun P => ⟨(.type "dict"), none, (.dict #[E P "__module__" 203 (.str "lidprice.errors" 194), E P "__qualname__" 205 (.str "LidError" 204), E P "__firstlineno__" 207 (.int 5 206), E P "__static_attributes__" 208 (.ref 29)] 4), #[]⟩
def o27 : OO := fun _ => s2 "LidError" 198 199 200 5 25 26 201 202
def o28 : OO := fun _ => s3 27 24 "lidprice.errors" 194
def o30 : OO := fun P => ⟨(.type "dict"), none, (.dict #[E P "__module__" 203 (.str "lidprice.errors" 194), E P "__firstlineno__" 207 (.int 5 206), E P "__static_attributes__" 208 (.ref 29), E P "__weakref__" 210 (.ref 32), E P "__doc__" 211 .none] 3), #[]⟩
def o31 : OO := fun _ => ⟨(.type "type"), none, (.cls ⟨"LidError", [(.type "ValueError")], [(.ref 31), (.type "ValueError"), (.type "Exception"), (.type "BaseException"), (.type "object")], 30, "LidError", true, [], [(.ref 44)], false, none, false⟩), #[(some (.ref 22)), none, (some (.str "LidError" 196)), (some (.str "LidError" 204)), (some (.builtin "ValueError.__new__")), (some (.bool true))]⟩
def o32 : OO := fun _ => ⟨(.type "getset_descriptor"), none, (.fields #[(.str "__weakref__" 209), (.ref 31), (.builtin "ExceptionGroup.__weakref__"), .none]), #[]⟩
def o33 : OO := fun _ => s9 31
def o34 : OO := fun _ => s10 31
def o35 : OO := fun _ => ⟨(.type "tuple"), none, (.seq #[(.ref 31)] 0), #[]⟩
def o37 : OO := fun P => ⟨(.type "dict"), none, (.dict #[E P "__module__" 221 (.str "lidprice.errors" 194), E P "__qualname__" 223 (.str "NoBox" 222), E P "__firstlineno__" 225 (.int 7 224), E P "__static_attributes__" 226 (.ref 42)] 4), #[]⟩
def o40 : OO := fun _ => s2 "NoBox" 216 217 218 7 38 39 219 220
def o41 : OO := fun _ => s3 40 37 "lidprice.errors" 194
def o43 : OO := fun P => ⟨(.type "dict"), none, (.dict #[E P "__module__" 221 (.str "lidprice.errors" 194), E P "__firstlineno__" 225 (.int 7 224), E P "__static_attributes__" 226 (.ref 42), E P "__doc__" 227 .none] 2), #[]⟩
def o44 : OO := fun _ => ⟨(.type "type"), none, (.cls ⟨"NoBox", [(.ref 31)], [(.ref 44), (.ref 31), (.type "ValueError"), (.type "Exception"), (.type "BaseException"), (.type "object")], 43, "NoBox", true, [], [], false, none, false⟩), #[(some (.ref 35)), none, (some (.str "NoBox" 214)), (some (.str "NoBox" 222)), (some (.builtin "ValueError.__new__")), (some (.bool true))]⟩
def o45 : OO := fun _ => s9 44
def o46 : OO := fun _ => s10 44
def o49 : OO := fun _ => s11 "thing" 235 "least" 236 "most" 237
def o51 : OO := fun _ => s5 "is_whole" "is_whole" (top 5)
def o52 : OO := fun _ => s6 "is_whole" 232 "is_whole" 233 234 10 3 47 48 49 50 51 238 239
def o53 : OO := fun _ => s7 "is_whole" "is_whole" (top 5) "lidprice.shares" 230 52
def o56 : OO := fun _ => s11 "one" 244 "other" 245 "rest" 246
def o58 : OO := fun _ => s5 "common_divisor" "common_divisor" (top 6)
def o59 : OO := fun _ => s6 "common_divisor" 241 "common_divisor" 242 243 12 2 54 55 56 57 58 247 248
def o60 : OO := fun _ => s7 "common_divisor" "common_divisor" (top 6) "lidprice.shares" 230 59
def o63 : OO := fun _ => s11 "numbers" 253 "multiple" 254 "number" 255
def o65 : OO := fun _ => s5 "common_multiple" "common_multiple" (top 7)
def o66 : OO := fun _ => s6 "common_multiple" 250 "common_multiple" 251 252 18 1 61 62 63 64 65 256 257
def o67 : OO := fun _ => s7 "common_multiple" "common_multiple" (top 7) "lidprice.shares" 230 66
def o70 : OO := fun _ => s11 "top" 262 "bottom" 263 "divisor" 264
def o72 : OO := fun _ => s5 "share" "share" (top 8)
def o73 : OO := fun _ => s6 "share" 259 "share" 260 261 23 2 68 69 70 71 72 265 266
def o74 : OO := fun _ => s7 "share" "share" (top 8) "lidprice.shares" 230 73
def o77 : OO := fun _ => s4 "number" 271
def o79 : OO := fun _ => s5 "whole" "whole" (top 9)
def o80 : OO := fun _ => s6 "whole" 268 "whole" 269 270 28 1 75 76 77 78 79 272 273
def o81 : OO := fun _ => s7 "whole" "whole" (top 9) "lidprice.shares" 230 80
def o84 : OO := fun _ => s12 "one" 278 "other" 279
def o86 : OO := fun _ => s5 "times" "times" (top 10)
def o87 : OO := fun _ => s6 "times" 275 "times" 276 277 30 2 82 83 84 85 86 280 281
def o88 : OO := fun _ => s7 "times" "times" (top 10) "lidprice.shares" 230 87
def o91 : OO := fun _ => s12 "one" 286 "other" 287
def o93 : OO := fun _ => s5 "below" "below" (top 11)
def o94 : OO := fun _ => s6 "below" 283 "below" 284 285 32 2 89 90 91 92 93 288 289
def o95 : OO := fun _ => s7 "below" "below" (top 11) "lidprice.shares" 230 94
def o98 : OO := fun _ => s12 "one" 294 "other" 295
def o100 : OO := fun _ => s5 "lesser" "lesser" (top 12)
def o101 : OO := fun _ => s6 "lesser" 291 "lesser" 292 293 34 2 96 97 98 99 100 296 297
def o102 : OO := fun _ => s7 "lesser" "lesser" (top 12) "lidprice.shares" 230 101
def o105 : OO := fun _ => s5 "rising" "rising" (top 16)
def o106 : OO := fun _ => s13 "rising" 305 "rising" 306 307 39 1 103 104 105 308 309
def o107 : OO := fun _ => s7 "rising" "rising" (top 16) "lidprice.tables" 299 106
def o110 : OO := fun _ => s5 "in_form" "in_form" (top 17)
def o111 : OO := fun _ => s13 "in_form" 311 "in_form" 312 313 43 1 108 109 110 314 315
def o112 : OO := fun _ => s7 "in_form" "in_form" (top 17) "lidprice.tables" 299 111
def o115 : OO := fun _ => s5 "all_weights" "all_weights" (top 18)
def o116 : OO := fun _ => s13 "all_weights" 317 "all_weights" 318 319 51 1 113 114 115 320 321
def o117 : OO := fun _ => s7 "all_weights" "all_weights" (top 18) "lidprice.tables" 299 116
def o120 : OO := fun _ => s5 "capped" "capped" (top 19)
def o121 : OO := fun _ => s13 "capped" 323 "capped" 324 325 53 2 118 119 120 326 327
def o122 : OO := fun _ => s7 "capped" "capped" (top 19) "lidprice.tables" 299 121
def o125 : OO := fun _ => s5 "mixed" "mixed" (top 20)
def o126 : OO := fun _ => s13 "mixed" 329 "mixed" 330 331 55 1 123 124 125 332 333
def o127 : OO := fun _ => s7 "mixed" "mixed" (top 20) "lidprice.tables" 299 126
def o130 : OO := fun _ => s5 "level_for" "level_for" (top 21)
def o131 : OO := fun _ => s13 "level_for" 335 "level_for" 336 337 62 2 128 129 130 338 339
def o132 : OO := fun _ => s7 "level_for" "level_for" (top 21) "lidprice.tables" 299 131
def o135 : OO := fun P => ⟨(.type "dict"), none, (.dict #[E P "__module__" 358 (.str "lidprice.stands" 341), E P "__qualname__" 360 (.str "Stand" 359), E P "__firstlineno__" 362 (.int 78 361), E P "__init__" 373 (.ref 146), E P "ends" 380 (.ref 153), E P "stages" 387 (.ref 160), E P "reserve" 394 (.ref 167), E P "caps" 401 (.ref 174), E P "__static_attributes__" 406 (.ref 175)] 9), #[]⟩
def o137 : OO := fun _ => ⟨.none, none, (.fields #[(.int 80 0), (.int 4 0), (.ref 145), (.int 86 0), (.int 4 0), (.ref 152), (.int 89 0), (.int 4 0), (.ref 159), (.int 92 0), (.int 4 0), (.ref 166), (.int 95 0), (.int 4 0), (.ref 173)]), #[]⟩
def o138 : OO := fun _ => s2 "Stand" 353 354 355 78 136 137 356 357
def o139 : OO := fun _ => s3 138 135 "lidprice.stands" 341
def o142 : OO := fun _ => ⟨(.type "tuple"), none, (.seq #[(.str "self" 366), (.str "end_count" 367), (.str "stage_count" 368), (.str "level" 369), (.str "cap_rows" 370)] 0), #[]⟩
def o144 : OO := fun _ => s5 "__init__" "Stand.__init__" (inClass (top 27) 0)
def o145 : OO := fun _ => s6 "__init__" 363 "Stand.__init__" 364 365 80 5 140 141 142 143 144 371 372
def o146 : OO := fun _ => s7 "__init__" "Stand.__init__" (inClass (top 27) 0) "lidprice.stands" 341 145
def o149 : OO := fun _ => s4 "self" 377
def o151 : OO := fun _ => s5 "ends" "Stand.ends" (inClass (top 27) 1)
def o152 : OO := fun _ => s6 "ends" 374 "Stand.ends" 375 376 86 1 147 148 149 150 151 378 379
def o153 : OO := fun _ => s7 "ends" "Stand.ends" (inClass (top 27) 1) "lidprice.stands" 341 152
def o156 : OO := fun _ => s4 "self" 384
def o158 : OO := fun _ => s5 "stages" "Stand.stages" (inClass (top 27) 2)
def o159 : OO := fun _ => s6 "stages" 381 "Stand.stages" 382 383 89 1 154 155 156 157 158 385 386
def o160 : OO := fun _ => s7 "stages" "Stand.stages" (inClass (top 27) 2) "lidprice.stands" 341 159
def o163 : OO := fun _ => s4 "self" 391
def o165 : OO := fun _ => s5 "reserve" "Stand.reserve" (inClass (top 27) 3)
def o166 : OO := fun _ => s6 "reserve" 388 "Stand.reserve" 389 390 92 1 161 162 163 164 165 392 393
def o167 : OO := fun _ => s7 "reserve" "Stand.reserve" (inClass (top 27) 3) "lidprice.stands" 341 166
def o170 : OO := fun _ => s4 "self" 398
def o172 : OO := fun _ => s5 "caps" "Stand.caps" (inClass (top 27) 4)
def o173 : OO := fun _ => s6 "caps" 395 "Stand.caps" 396 397 95 1 168 169 170 171 172 399 400
def o174 : OO := fun _ => s7 "caps" "Stand.caps" (inClass (top 27) 4) "lidprice.stands" 341 173
def o175 : OO := fun _ => ⟨(.type "tuple"), none, (.seq #[(.str "cap_rows" 402), (.str "end_count" 403), (.str "level" 404), (.str "stage_count" 405)] 0), #[]⟩
def o176 : OO := fun P => ⟨(.type "dict"), none, (.dict #[E P "__module__" 358 (.str "lidprice.stands" 341), E P "__firstlineno__" 362 (.int 78 361), E P "__init__" 373 (.ref 146), E P "ends" 380 (.ref 153), E P "stages" 387 (.ref 160), E P "reserve" 394 (.ref 167), E P "caps" 401 (.ref 174), E P "__static_attributes__" 406 (.ref 175), E P "__dict__" 408 (.ref 178), E P "__weakref__" 410 (.ref 179), E P "__doc__" 411 .none] 4), #[]⟩
def o177 : OO := fun _ => ⟨(.type "type"), none, (.cls ⟨"Stand", [(.type "object")], [(.ref 177), (.type "object")], 176, "Stand", true, [], [], false, none, false⟩), #[none, none, (some (.str "Stand" 351)), (some (.str "Stand" 359)), (some (.builtin "object.__new__")), (some (.bool true))]⟩
def o178 : OO := fun _ => ⟨(.type "getset_descriptor"), none, (.fields #[(.str "__dict__" 407), (.ref 177), (.builtin "function.__dict__"), (.builtin "function.__dict__#set")]), #[]⟩
def o179 : OO := fun _ => ⟨(.type "getset_descriptor"), none, (.fields #[(.str "__weakref__" 409), (.ref 177), (.builtin "ExceptionGroup.__weakref__"), .none]), #[]⟩
def o180 : OO := fun _ => s9 177
def o181 : OO := fun _ => s10 177
def o3_1 : OO := fun P => ⟨(.type "dict"), none, (.dict #[E P "__name__" 165 (.str "law_lidprice_k11_stands_told" 561), E P "__doc__" 166 .none, E P "__package__" 167 .none, E P "__loader__" 168 (.builtin "__main__.__loader__#opaque"), E P "__spec__" 169 .none, E P "__annotations__" 170 (.ref 6), E P "__builtins__" 171 (.ref 4), E P "__file__" 173 (.str "/claim/cut.py" 172), E P "__cached__" 174 .none, E P "_wall" 193 (.ref 21), E P "LidError" 213 (.ref 31), E P "NoBox" 229 (.ref 44), E P "is_whole" 240 (.ref 53), E P "common_divisor" 249 (.ref 60), E P "common_multiple" 258 (.ref 67), E P "share" 267 (.ref 74), E P "whole" 274 (.ref 81), E P "times" 282 (.ref 88), E P "below" 290 (.ref 95), E P "lesser" 298 (.ref 102), E P "MOST_WORTH" 302 (.int 1000000000 301), E P "MOST_WEIGHT" 304 (.int 1000 303), E P "rising" 310 (.ref 107), E P "in_form" 316 (.ref 112), E P "all_weights" 322 (.ref 117), E P "capped" 328 (.ref 122), E P "mixed" 334 (.ref 127), E P "level_for" 340 (.ref 132), E P "MOST_PRICE" 344 (.int 1000000000 343), E P "MOST_STAGE_ROWS" 346 (.int 4 345), E P "MOST_STAGES" 348 (.int 4 347), E P "MOST_ENDS" 350 (.int 12 349), E P "Stand" 413 (.ref 177), E P "End" 467 (.ref 226), E P "Stage" 540 (.ref 281), E P "is_stand" 547 (.ref 290), E P "is_stage_row" 554 (.ref 297), E P "is_stage_rows" 560 (.ref 302), E P "_law_cell_at" 570 (.ref 309), E P "_law_mixed" 579 (.ref 316), E P "_law_plain" 587 (.ref 323), E P "_law_same" 595 (.ref 330), E P "_law_low" 605 (.ref 337), E P "_law_plus" 613 (.ref 344), E P "_law_times" 621 (.ref 351), E P "_law_less" 629 (.ref 358), E P "_law_row" 640 (.ref 365), E P "_law_box" 656 (.ref 372)] 48), #[]⟩
def o12_2 : OO := fun _ => ⟨.none, none, (.fields #[(.int 1 0), (.int 0 0), (.ref 20), (.int 5 0), (.int 0 0), (.ref 27), (.int 7 0), (.int 0 0), (.ref 40), (.int 10 0), (.int 0 0), (.ref 52), (.int 12 0), (.int 0 0), (.ref 59), (.int 18 0), (.int 0 0), (.ref 66), (.int 23 0), (.int 0 0), (.ref 73), (.int 28 0), (.int 0 0), (.ref 80), (.int 30 0), (.int 0 0), (.ref 87), (.int 32 0), (.int 0 0), (.ref 94), (.int 34 0), (.int 0 0), (.ref 101), (.int 39 0), (.int 0 0), (.ref 106), (.int 43 0), (.int 0 0), (.ref 111), (.int 51 0), (.int 0 0), (.ref 116), (.int 53 0), (.int 0 0), (.ref 121), (.int 55 0), (.int 0 0), (.ref 126), (.int 62 0), (.int 0 0), (.ref 131), (.int 78 0), (.int 0 0), (.ref 138), (.int 97 0), (.int 0 0), (.ref 187), (.int 116 0), (.int 0 0), (.ref 234), (.int 153 0), (.int 0 0), (.ref 289), (.int 155 0), (.int 0 0), (.ref 296), (.int 159 0), (.int 0 0), (.ref 301), (.int 164 0), (.int 0 0), (.ref 308), (.int 168 0), (.int 0 0), (.ref 315), (.int 172 0), (.int 0 0), (.ref 322), (.int 181 0), (.int 0 0), (.ref 329), (.int 183 0), (.int 0 0), (.ref 336), (.int 189 0), (.int 0 0), (.ref 343), (.int 191 0), (.int 0 0), (.ref 350), (.int 193 0), (.int 0 0), (.ref 357), (.int 195 0), (.int 0 0), (.ref 364), (.int 204 0), (.int 0 0), (.ref 371)]), #[]⟩
def o177_1 : OO := fun _ => ⟨(.type "type"), none, (.cls ⟨"Stand", [(.type "object")], [(.ref 177), (.type "object")], 176, "Stand", true, [], [(.ref 226), (.ref 281)], false, none, false⟩), #[none, none, (some (.str "Stand" 351)), (some (.str "Stand" 359)), (some (.builtin "object.__new__")), (some (.bool true))]⟩
def o182 : OO := fun _ => ⟨(.type "tuple"), none, (.seq #[(.ref 177)] 0), #[]⟩
def o184 : OO := fun P => ⟨(.type "dict"), none, (.dict #[E P "__module__" 421 (.str "lidprice.stands" 341), E P "__qualname__" 423 (.str "End" 422), E P "__firstlineno__" 425 (.int 97 424), E P "__init__" 433 (.ref 195), E P "is_end" 440 (.ref 202), E P "ways" 447 (.ref 209), E P "beside" 455 (.ref 216), E P "told" 462 (.ref 223), E P "__static_attributes__" 464 (.ref 224)] 9), #[]⟩
def o186 : OO := fun _ => ⟨.none, none, (.fields #[(.int 99 0), (.int 4 0), (.ref 194), (.int 105 0), (.int 4 0), (.ref 201), (.int 108 0), (.int 4 0), (.ref 208), (.int 111 0), (.int 4 0), (.ref 215), (.int 114 0), (.int 4 0), (.ref 222)]), #[]⟩
def o187 : OO := fun _ => s2 "End" 416 417 418 97 185 186 419 420
def o188 : OO := fun _ => s3 187 184 "lidprice.stands" 341
def o191 : OO := fun _ => s12 "self" 429 "worth" 430
def o193 : OO := fun _ => s5 "__init__" "End.__init__" (inClass (top 28) 0)
def o194 : OO := fun _ => s6 "__init__" 426 "End.__init__" 427 428 99 2 189 190 191 192 193 431 432
def o195 : OO := fun _ => s7 "__init__" "End.__init__" (inClass (top 28) 0) "lidprice.stands" 341 194
def o198 : OO := fun _ => s4 "self" 437
def o200 : OO := fun _ => s5 "is_end" "End.is_end" (inClass (top 28) 1)
def o201 : OO := fun _ => s6 "is_end" 434 "End.is_end" 435 436 105 1 196 197 198 199 200 438 439
def o202 : OO := fun _ => s7 "is_end" "End.is_end" (inClass (top 28) 1) "lidprice.stands" 341 201
def o205 : OO := fun _ => s4 "self" 444
def o207 : OO := fun _ => s5 "ways" "End.ways" (inClass (top 28) 2)
def o208 : OO := fun _ => s6 "ways" 441 "End.ways" 442 443 108 1 203 204 205 206 207 445 446
def o209 : OO := fun _ => s7 "ways" "End.ways" (inClass (top 28) 2) "lidprice.stands" 341 208
def o212 : OO := fun _ => s12 "self" 451 "level" 452
def o214 : OO := fun _ => s5 "beside" "End.beside" (inClass (top 28) 3)
def o215 : OO := fun _ => s6 "beside" 448 "End.beside" 449 450 111 2 210 211 212 213 214 453 454
def o216 : OO := fun _ => s7 "beside" "End.beside" (inClass (top 28) 3) "lidprice.stands" 341 215
def o219 : OO := fun _ => s4 "self" 459
def o221 : OO := fun _ => s5 "told" "End.told" (inClass (top 28) 4)
def o222 : OO := fun _ => s6 "told" 456 "End.told" 457 458 114 1 217 218 219 220 221 460 461
def o223 : OO := fun _ => s7 "told" "End.told" (inClass (top 28) 4) "lidprice.stands" 341 222
def o224 : OO := fun _ => s4 "worth" 463
def o225 : OO := fun P => ⟨(.type "dict"), none, (.dict #[E P "__module__" 421 (.str "lidprice.stands" 341), E P "__firstlineno__" 425 (.int 97 424), E P "__init__" 433 (.ref 195), E P "is_end" 440 (.ref 202), E P "ways" 447 (.ref 209), E P "beside" 455 (.ref 216), E P "told" 462 (.ref 223), E P "__static_attributes__" 464 (.ref 224), E P "__doc__" 465 .none] 2), #[]⟩
def o226 : OO := fun _ => ⟨(.type "type"), none, (.cls ⟨"End", [(.ref 177)], [(.ref 226), (.ref 177), (.type "object")], 225, "End", true, [], [], false, none, false⟩), #[(some (.ref 182)), none, (some (.str "End" 414)), (some (.str "End" 422)), (some (.builtin "object.__new__")), (some (.bool true))]⟩
def o227 : OO := fun _ => s9 226
def o228 : OO := fun _ => s10 226
def o229 : OO := fun _ => ⟨(.type "tuple"), none, (.seq #[(.ref 177)] 0), #[]⟩
def o231 : OO := fun P => ⟨(.type "dict"), none, (.dict #[E P "__module__" 475 (.str "lidprice.stands" 341), E P "__qualname__" 477 (.str "Stage" 476), E P "__firstlineno__" 479 (.int 116 478), E P "__init__" 485 (.ref 240), E P "is_end" 492 (.ref 247), E P "row_share" 498 (.ref 252), E P "after" 506 (.ref 259), E P "ways" 520 (.ref 266), E P "beside" 528 (.ref 273), E P "told" 534 (.ref 278), E P "__static_attributes__" 537 (.ref 279)] 11), #[]⟩
def o233 : OO := fun _ => ⟨.none, none, (.fields #[(.int 118 0), (.int 4 0), (.ref 239), (.int 131 0), (.int 4 0), (.ref 246), (.int 134 0), (.int 4 0), (.ref 251), (.int 137 0), (.int 4 0), (.ref 258), (.int 140 0), (.int 4 0), (.ref 265), (.int 148 0), (.int 4 0), (.ref 272), (.int 151 0), (.int 4 0), (.ref 277)]), #[]⟩
def o234 : OO := fun _ => s2 "Stage" 470 471 472 116 232 233 473 474
def o235 : OO := fun _ => s3 234 231 "lidprice.stands" 341
def o238 : OO := fun _ => s5 "__init__" "Stage.__init__" (inClass (top 29) 0)
def o239 : OO := fun _ => s13 "__init__" 480 "Stage.__init__" 481 482 118 3 236 237 238 483 484
def o240 : OO := fun _ => s7 "__init__" "Stage.__init__" (inClass (top 29) 0) "lidprice.stands" 341 239
def o243 : OO := fun _ => s4 "self" 489
def o245 : OO := fun _ => s5 "is_end" "Stage.is_end" (inClass (top 29) 1)
def o246 : OO := fun _ => s6 "is_end" 486 "Stage.is_end" 487 488 131 1 241 242 243 244 245 490 491
def o247 : OO := fun _ => s7 "is_end" "Stage.is_end" (inClass (top 29) 1) "lidprice.stands" 341 246
def o250 : OO := fun _ => s5 "row_share" "Stage.row_share" (inClass (top 29) 2)
def o251 : OO := fun _ => s13 "row_share" 493 "Stage.row_share" 494 495 134 2 248 249 250 496 497
def o252 : OO := fun _ => s7 "row_share" "Stage.row_share" (inClass (top 29) 2) "lidprice.stands" 341 251
def o255 : OO := fun _ => s12 "self" 502 "row" 503
def o257 : OO := fun _ => s5 "after" "Stage.after" (inClass (top 29) 3)
def o258 : OO := fun _ => s6 "after" 499 "Stage.after" 500 501 137 2 253 254 255 256 257 504 505
def o259 : OO := fun _ => s7 "after" "Stage.after" (inClass (top 29) 3) "lidprice.stands" 341 258
def o262 : OO := fun _ => ⟨(.type "tuple"), none, (.seq #[(.str "self" 510), (.str "found" 511), (.str "row" 512), (.str "first" 513), (.str "way" 514), (.str "part" 515), (.str "cap" 516), (.str "worth" 517)] 0), #[]⟩
def o264 : OO := fun _ => s5 "ways" "Stage.ways" (inClass (top 29) 4)
def o265 : OO := fun _ => s6 "ways" 507 "Stage.ways" 508 509 140 1 260 261 262 263 264 518 519
def o266 : OO := fun _ => s7 "ways" "Stage.ways" (inClass (top 29) 4) "lidprice.stands" 341 265
def o269 : OO := fun _ => s12 "self" 524 "level" 525
def o271 : OO := fun _ => s5 "beside" "Stage.beside" (inClass (top 29) 5)
def o272 : OO := fun _ => s6 "beside" 521 "Stage.beside" 522 523 148 2 267 268 269 270 271 526 527
def o273 : OO := fun _ => s7 "beside" "Stage.beside" (inClass (top 29) 5) "lidprice.stands" 341 272
def o276 : OO := fun _ => s5 "told" "Stage.told" (inClass (top 29) 6)
def o277 : OO := fun _ => s13 "told" 529 "Stage.told" 530 531 151 1 274 275 276 532 533
def o278 : OO := fun _ => s7 "told" "Stage.told" (inClass (top 29) 6) "lidprice.stands" 341 277
def o279 : OO := fun _ => s12 "price" 535 "rows" 536
def o280 : OO := fun P => ⟨(.type "dict"), none, (.dict #[E P "__module__" 475 (.str "lidprice.stands" 341), E P "__firstlineno__" 479 (.int 116 478), E P "__init__" 485 (.ref 240), E P "is_end" 492 (.ref 247), E P "row_share" 498 (.ref 252), E P "after" 506 (.ref 259), E P "ways" 520 (.ref 266), E P "beside" 528 (.ref 273), E P "told" 534 (.ref 278), E P "__static_attributes__" 537 (.ref 279), E P "__doc__" 538 .none] 2), #[]⟩
def o281 : OO := fun _ => ⟨(.type "type"), none, (.cls ⟨"Stage", [(.ref 177)], [(.ref 281), (.ref 177), (.type "object")], 280, "Stage", true, [], [], false, none, false⟩), #[(some (.ref 229)), none, (some (.str "Stage" 468)), (some (.str "Stage" 476)), (some (.builtin "object.__new__")), (some (.bool true))]⟩
def o282 : OO := fun _ => s9 281
def o283 : OO := fun _ => s10 281
def o286 : OO := fun _ => s4 "thing" 544
def o288 : OO := fun _ => s5 "is_stand" "is_stand" (top 30)
def o289 : OO := fun _ => s6 "is_stand" 541 "is_stand" 542 543 153 1 284 285 286 287 288 545 546
def o290 : OO := fun _ => s7 "is_stand" "is_stand" (top 30) "lidprice.stands" 341 289
def o293 : OO := fun _ => s4 "row" 551
def o295 : OO := fun _ => s5 "is_stage_row" "is_stage_row" (top 31)
def o296 : OO := fun _ => s6 "is_stage_row" 548 "is_stage_row" 549 550 155 1 291 292 293 294 295 552 553
def o297 : OO := fun _ => s7 "is_stage_row" "is_stage_row" (top 31) "lidprice.stands" 341 296
def o300 : OO := fun _ => s5 "is_stage_rows" "is_stage_rows" (top 32)
def o301 : OO := fun _ => s13 "is_stage_rows" 555 "is_stage_rows" 556 557 159 1 298 299 300 558 559
def o302 : OO := fun _ => s7 "is_stage_rows" "is_stage_rows" (top 32) "lidprice.stands" 341 301
def o305 : OO := fun _ => s12 "_law_script" 566 "_law_k" 567
def o307 : OO := fun _ => s5 "_law_cell_at" "_law_cell_at" (top 34)
def o308 : OO := fun _ => s6 "_law_cell_at" 563 "_law_cell_at" 564 565 164 2 303 304 305 306 307 568 569
def o309 : OO := fun _ => s7 "_law_cell_at" "_law_cell_at" (top 34) "law_lidprice_k11_stands_told" 561 308
def o312 : OO := fun _ => s11 "_law_cell" 574 "_law_k" 575 "_law_number" 576
def o314 : OO := fun _ => s5 "_law_mixed" "_law_mixed" (top 35)
def o315 : OO := fun _ => s6 "_law_mixed" 571 "_law_mixed" 572 573 168 2 310 311 312 313 314 577 578
def o316 : OO := fun _ => s7 "_law_mixed" "_law_mixed" (top 35) "law_lidprice_k11_stands_told" 561 315
def o319 : OO := fun _ => s12 "_law_thing" 583 "_law_part" 584
def o321 : OO := fun _ => s5 "_law_plain" "_law_plain" (top 36)
def o322 : OO := fun _ => s6 "_law_plain" 580 "_law_plain" 581 582 172 1 317 318 319 320 321 585 586
def o323 : OO := fun _ => s7 "_law_plain" "_law_plain" (top 36) "law_lidprice_k11_stands_told" 561 322
def o326 : OO := fun _ => s12 "_law_found" 591 "_law_due" 592
def o328 : OO := fun _ => s5 "_law_same" "_law_same" (top 37)
def o329 : OO := fun _ => s6 "_law_same" 588 "_law_same" 589 590 181 2 324 325 326 327 328 593 594
def o330 : OO := fun _ => s7 "_law_same" "_law_same" (top 37) "law_lidprice_k11_stands_told" 561 329
def o333 : OO := fun _ => ⟨(.type "tuple"), none, (.seq #[(.str "_law_top" 599), (.str "_law_bottom" 600), (.str "_law_one" 601), (.str "_law_other" 602)] 0), #[]⟩
def o335 : OO := fun _ => s5 "_law_low" "_law_low" (top 38)
def o336 : OO := fun _ => s6 "_law_low" 596 "_law_low" 597 598 183 2 331 332 333 334 335 603 604
def o337 : OO := fun _ => s7 "_law_low" "_law_low" (top 38) "law_lidprice_k11_stands_told" 561 336
def o340 : OO := fun _ => s12 "_law_one" 609 "_law_other" 610
def o342 : OO := fun _ => s5 "_law_plus" "_law_plus" (top 39)
def o343 : OO := fun _ => s6 "_law_plus" 606 "_law_plus" 607 608 189 2 338 339 340 341 342 611 612
def o344 : OO := fun _ => s7 "_law_plus" "_law_plus" (top 39) "law_lidprice_k11_stands_told" 561 343
def o347 : OO := fun _ => s12 "_law_one" 617 "_law_other" 618
def o349 : OO := fun _ => s5 "_law_times" "_law_times" (top 40)
def o350 : OO := fun _ => s6 "_law_times" 614 "_law_times" 615 616 191 2 345 346 347 348 349 619 620
def o351 : OO := fun _ => s7 "_law_times" "_law_times" (top 40) "law_lidprice_k11_stands_told" 561 350
def o354 : OO := fun _ => s12 "_law_one" 625 "_law_other" 626
def o356 : OO := fun _ => s5 "_law_less" "_law_less" (top 41)
def o357 : OO := fun _ => s6 "_law_less" 622 "_law_less" 623 624 193 2 352 353 354 355 356 627 628
def o358 : OO := fun _ => s7 "_law_less" "_law_less" (top 41) "law_lidprice_k11_stands_told" 561 357
def o361 : OO := fun _ => ⟨(.type "tuple"), none, (.seq #[(.str "_law_cell" 633), (.str "_law_bit" 634), (.str "_law_many" 635), (.str "_law_row_here" 636), (.str "_law_k" 637)] 0), #[]⟩
def o363 : OO := fun _ => s5 "_law_row" "_law_row" (top 42)
def o364 : OO := fun _ => s6 "_law_row" 630 "_law_row" 631 632 195 3 359 360 361 362 363 638 639
def o365 : OO := fun _ => s7 "_law_row" "_law_row" (top 42) "law_lidprice_k11_stands_told" 561 364
def o368 : OO := fun _ => ⟨(.type "tuple"), none, (.seq #[(.str "_law_row_here" 644), (.str "_law_deep_here" 645), (.str "_law_most" 646), (.str "_law_scale" 647), (.str "_law_number" 648), (.str "_law_many" 649), (.str "_law_cost" 650), (.str "_law_rows" 651), (.str "_law_j" 652), (.str "_law_weight" 653)] 0), #[]⟩
def o370 : OO := fun _ => s5 "_law_box" "_law_box" (top 43)
def o371 : OO := fun _ => s6 "_law_box" 641 "_law_box" 642 643 204 4 366 367 368 369 370 654 655
def o372 : OO := fun _ => s7 "_law_box" "_law_box" (top 43) "law_lidprice_k11_stands_told" 561 371
def o3_2 : OO := fun P => ⟨(.type "dict"), none, (.dict #[E P "__name__" 165 (.str "law_lidprice_k11_stands_told" 561), E P "__doc__" 166 .none, E P "__package__" 167 .none, E P "__loader__" 168 (.builtin "__main__.__loader__#opaque"), E P "__spec__" 169 .none, E P "__annotations__" 170 (.ref 6), E P "__builtins__" 171 (.ref 4), E P "__file__" 173 (.str "/claim/cut.py" 172), E P "__cached__" 174 .none, E P "_wall" 193 (.ref 21), E P "LidError" 213 (.ref 31), E P "NoBox" 229 (.ref 44), E P "is_whole" 240 (.ref 53), E P "common_divisor" 249 (.ref 60), E P "common_multiple" 258 (.ref 67), E P "share" 267 (.ref 74), E P "whole" 274 (.ref 81), E P "times" 282 (.ref 88), E P "below" 290 (.ref 95), E P "lesser" 298 (.ref 102), E P "MOST_WORTH" 302 (.int 1000000000 301), E P "MOST_WEIGHT" 304 (.int 1000 303), E P "rising" 310 (.ref 107), E P "in_form" 316 (.ref 112), E P "all_weights" 322 (.ref 117), E P "capped" 328 (.ref 122), E P "mixed" 334 (.ref 127), E P "level_for" 340 (.ref 132), E P "MOST_PRICE" 344 (.int 1000000000 343), E P "MOST_STAGE_ROWS" 346 (.int 4 345), E P "MOST_STAGES" 348 (.int 4 347), E P "MOST_ENDS" 350 (.int 12 349), E P "Stand" 413 (.ref 177), E P "End" 467 (.ref 226), E P "Stage" 540 (.ref 281), E P "is_stand" 547 (.ref 290), E P "is_stage_row" 554 (.ref 297), E P "is_stage_rows" 560 (.ref 302), E P "_law_cell_at" 570 (.ref 309), E P "_law_mixed" 579 (.ref 316), E P "_law_plain" 587 (.ref 323), E P "_law_same" 595 (.ref 330), E P "_law_low" 605 (.ref 337), E P "_law_plus" 613 (.ref 344), E P "_law_times" 621 (.ref 351), E P "_law_less" 629 (.ref 358), E P "_law_row" 640 (.ref 365), E P "_law_box" 656 (.ref 372), E P "_law_stand" 662 (.ref 377), E P "_law_ways" 668 (.ref 382), E P "_law_deep" 674 (.ref 387), E P "_law_is_it" 680 (.ref 392), E P "_law_good" 690 (.ref 399), E P "law" 705 (.ref 406)] 54), #[]⟩
def o12_3 : OO := fun _ => ⟨.none, none, (.fields #[(.int 1 0), (.int 0 0), (.ref 20), (.int 5 0), (.int 0 0), (.ref 27), (.int 7 0), (.int 0 0), (.ref 40), (.int 10 0), (.int 0 0), (.ref 52), (.int 12 0), (.int 0 0), (.ref 59), (.int 18 0), (.int 0 0), (.ref 66), (.int 23 0), (.int 0 0), (.ref 73), (.int 28 0), (.int 0 0), (.ref 80), (.int 30 0), (.int 0 0), (.ref 87), (.int 32 0), (.int 0 0), (.ref 94), (.int 34 0), (.int 0 0), (.ref 101), (.int 39 0), (.int 0 0), (.ref 106), (.int 43 0), (.int 0 0), (.ref 111), (.int 51 0), (.int 0 0), (.ref 116), (.int 53 0), (.int 0 0), (.ref 121), (.int 55 0), (.int 0 0), (.ref 126), (.int 62 0), (.int 0 0), (.ref 131), (.int 78 0), (.int 0 0), (.ref 138), (.int 97 0), (.int 0 0), (.ref 187), (.int 116 0), (.int 0 0), (.ref 234), (.int 153 0), (.int 0 0), (.ref 289), (.int 155 0), (.int 0 0), (.ref 296), (.int 159 0), (.int 0 0), (.ref 301), (.int 164 0), (.int 0 0), (.ref 308), (.int 168 0), (.int 0 0), (.ref 315), (.int 172 0), (.int 0 0), (.ref 322), (.int 181 0), (.int 0 0), (.ref 329), (.int 183 0), (.int 0 0), (.ref 336), (.int 189 0), (.int 0 0), (.ref 343), (.int 191 0), (.int 0 0), (.ref 350), (.int 193 0), (.int 0 0), (.ref 357), (.int 195 0), (.int 0 0), (.ref 364), (.int 204 0), (.int 0 0), (.ref 371), (.int 215 0), (.int 0 0), (.ref 376), (.int 219 0), (.int 0 0), (.ref 381), (.int 231 0), (.int 0 0), (.ref 386), (.int 235 0), (.int 0 0), (.ref 391), (.int 253 0), (.int 0 0), (.ref 398), (.int 262 0), (.int 0 0), (.ref 405)]), #[]⟩
def o375 : OO := fun _ => s5 "_law_stand" "_law_stand" (top 44)
def o376 : OO := fun _ => s13 "_law_stand" 657 "_law_stand" 658 659 215 1 373 374 375 660 661
def o377 : OO := fun _ => s7 "_law_stand" "_law_stand" (top 44) "law_lidprice_k11_stands_told" 561 376
def o380 : OO := fun _ => s5 "_law_ways" "_law_ways" (top 45)
def o381 : OO := fun _ => s13 "_law_ways" 663 "_law_ways" 664 665 219 2 378 379 380 666 667
def o382 : OO := fun _ => s7 "_law_ways" "_law_ways" (top 45) "law_lidprice_k11_stands_told" 561 381
def o385 : OO := fun _ => s5 "_law_deep" "_law_deep" (top 46)
def o386 : OO := fun _ => s13 "_law_deep" 669 "_law_deep" 670 671 231 1 383 384 385 672 673
def o387 : OO := fun _ => s7 "_law_deep" "_law_deep" (top 46) "law_lidprice_k11_stands_told" 561 386
def o390 : OO := fun _ => s5 "_law_is_it" "_law_is_it" (top 47)
def o391 : OO := fun _ => s13 "_law_is_it" 675 "_law_is_it" 676 677 235 2 388 389 390 678 679
def o392 : OO := fun _ => s7 "_law_is_it" "_law_is_it" (top 47) "law_lidprice_k11_stands_told" 561 391
def o395 : OO := fun _ => ⟨(.type "tuple"), none, (.seq #[(.str "_law_stand_here" 684), (.str "_law_told" 685), (.str "_law_due" 686), (.str "_law_found" 687)] 0), #[]⟩
def o397 : OO := fun _ => s5 "_law_good" "_law_good" (top 48)
def o398 : OO := fun _ => s6 "_law_good" 681 "_law_good" 682 683 253 2 393 394 395 396 397 688 689
def o399 : OO := fun _ => s7 "_law_good" "_law_good" (top 48) "law_lidprice_k11_stands_told" 561 398
def o402 : OO := fun _ => ⟨(.type "tuple"), none, (.seq #[(.str "_law_script" 694), (.str "_law_k" 695), (.str "_law_cell" 696), (.str "_law_row_here" 697), (.str "_law_scale" 698), (.str "_law_told" 699), (.str "_law_stand_here" 700), (.str "_law_rows" 701), (.str "_law_twice" 702)] 0), #[]⟩
def o404 : OO := fun _ => s5 "law" "law" (top 49)
def o405 : OO := fun _ => s6 "law" 691 "law" 692 693 262 1 400 401 402 403 404 703 704
def o406 : OO := fun _ => s7 "law" "law" (top 49) "law_lidprice_k11_stands_told" 561 405
def t0 (P : Params) : W.BT := (.node (W.boot_o_0 P) (.node (W.boot_o_1 P) (.node (W.boot_o_3 P) (.node (W.boot_o_7 P) .nil .nil) (.node s0 .nil .nil)) (.node (W.boot_o_5 P) (.node (W.boot_o_9 P) .nil .nil) (.node (o13 P) .nil .nil))) (.node (W.boot_o_2 P) (.node (W.boot_o_4 P) (.node (W.boot_o_8 P) .nil .nil) (.node s1 .nil .nil)) (.node (W.boot_o_6 P) (.node (W.boot_o_10 P) .nil .nil) (.node (o14 P) .nil .nil))))
def t1 (P : Params) : W.BT := (.node (W.boot_o_0 P) (.node (W.boot_o_1 P) (.node (o3 P) (.node (W.boot_o_7 P) (.node s0 (.node (o31 P) (.node (o63 P) (.node (o127 P) .nil .nil) .nil) (.node (o95 P) (.node (o159 P) .nil .nil) .nil)) (.node s0 (.node (o79 P) (.node s0 .nil .nil) .nil) (.node (o111 P) (.node (o175 P) .nil .nil) .nil))) (.node s8 (.node s1 (.node s0 (.node (o135 P) .nil .nil) .nil) (.node s0 (.node (o167 P) .nil .nil) .nil)) (.node s1 (.node (o87 P) (.node (o151 P) .nil .nil) .nil) (.node s1 .nil .nil)))) (.node s0 (.node (o19 P) (.node (o35 P) (.node (o67 P) (.node (o131 P) .nil .nil) .nil) (.node s0 (.node (o163 P) .nil .nil) .nil)) (.node (o51 P) (.node s1 (.node s0 .nil .nil) .nil) (.node (o115 P) (.node (o179 P) .nil .nil) .nil))) (.node (o27 P) (.node (o43 P) (.node s0 (.node (o139 P) .nil .nil) .nil) (.node (o107 P) (.node s0 .nil .nil) .nil)) (.node (o59 P) (.node (o91 P) (.node s1 .nil .nil) .nil) (.node s0 .nil .nil))))) (.node (W.boot_o_5 P) (.node (W.boot_o_9 P) (.node (o17 P) (.node (o33 P) (.node (o65 P) (.node s1 .nil .nil) .nil) (.node s1 (.node s0 .nil .nil) .nil)) (.node (o49 P) (.node (o81 P) (.node (o145 P) .nil .nil) .nil) (.node s0 (.node (o177 P) .nil .nil) .nil))) (.node s0 (.node (o41 P) (.node (o73 P) (.node (o137 P) .nil .nil) .nil) (.node (o105 P) (.node s1 .nil .nil) .nil)) (.node s0 (.node s0 (.node (o153 P) .nil .nil) .nil) (.node (o121 P) .nil .nil)))) (.node (o13 P) (.node (o21 P) (.node (o37 P) (.node s1 (.node s0 .nil .nil) .nil) (.node (o101 P) (.node (o165 P) .nil .nil) .nil)) (.node (o53 P) (.node s0 (.node (o149 P) .nil .nil) .nil) (.node (o117 P) (.node (o181 P) .nil .nil) .nil))) (.node s0 (.node (o45 P) (.node (o77 P) (.node s1 .nil .nil) .nil) (.node s1 (.node (o173 P) .nil .nil) .nil)) (.node s0 (.node (o93 P) (.node s0 .nil .nil) .nil) (.node (o125 P) .nil .nil)))))) (.node (W.boot_o_2 P) (.node (W.boot_o_4 P) (.node (W.boot_o_8 P) (.node s1 (.node (o32 P) (.node s0 (.node s0 .nil .nil) .nil) (.node s0 (.node (o160 P) .nil .nil) .nil)) (.node s1 (.node (o80 P) (.node (o144 P) .nil .nil) .nil) (.node (o112 P) (.node (o176 P) .nil .nil) .nil))) (.node (o24 P) (.node (o40 P) (.node (o72 P) (.node s0 .nil .nil) .nil) (.node s1 (.node s0 .nil .nil) .nil)) (.node (o56 P) (.node (o88 P) (.node (o152 P) .nil .nil) .nil) (.node (o120 P) .nil .nil)))) (.node (o12_1 P) (.node (o20 P) (.node s8 (.node s0 (.node (o132 P) .nil .nil) .nil) (.node (o100 P) (.node s0 .nil .nil) .nil)) (.node (o52 P) (.node (o84 P) (.node s1 .nil .nil) .nil) (.node (o116 P) (.node (o180 P) .nil .nil) .nil))) (.node (o28 P) (.node (o44 P) (.node s1 (.node s0 .nil .nil) .nil) (.node s0 (.node (o172 P) .nil .nil) .nil)) (.node (o60 P) (.node s0 (.node (o156 P) .nil .nil) .nil) (.node s1 .nil .nil))))) (.node (W.boot_o_6 P) (.node (W.boot_o_10 P) (.node s0 (.node (o34 P) (.node (o66 P) (.node (o130 P) .nil .nil) .nil) (.node (o98 P) (.node s1 .nil .nil) .nil)) (.node s0 (.node s0 (.node (o146 P) .nil .nil) .nil) (.node s1 (.node (o178 P) .nil .nil) .nil))) (.node s1 (.node s0 (.node (o74 P) (.node (o138 P) .nil .nil) .nil) (.node (o106 P) (.node (o170 P) .nil .nil) .nil)) (.node (o58 P) (.node s1 (.node s0 .nil .nil) .nil) (.node (o122 P) .nil .nil)))) (.node (o14 P) (.node (o22 P) (.node s0 (.node (o70 P) (.node s8 .nil .nil) .nil) (.node (o102 P) (.node (o166 P) .nil .nil) .nil)) (.node s0 (.node (o86 P) (.node s0 .nil .nil) .nil) (.node s0 .nil .nil))) (.node (o30 P) (.node (o46 P) (.node s0 (.node (o142 P) .nil .nil) .nil) (.node (o110 P) (.node (o174 P) .nil .nil) .nil)) (.node s1 (.node (o94 P) (.node (o158 P) .nil .nil) .nil) (.node (o126 P) .nil .nil)))))))
def t2 (P : Params) : W.BT := (.node (W.boot_o_0 P) (.node (W.boot_o_1 P) (.node (o3_1 P) (.node (W.boot_o_7 P) (.node s0 (.node (o31 P) (.node (o63 P) (.node (o127 P) (.node (o255 P) .nil .nil) .nil) (.node (o191 P) (.node (o319 P) .nil .nil) .nil)) (.node (o95 P) (.node (o159 P) (.node s0 .nil .nil) .nil) (.node (o223 P) (.node (o351 P) .nil .nil) .nil))) (.node s0 (.node (o79 P) (.node s0 (.node (o271 P) .nil .nil) .nil) (.node (o207 P) (.node (o335 P) .nil .nil) .nil)) (.node (o111 P) (.node (o175 P) (.node s0 .nil .nil) .nil) (.node (o239 P) (.node s1 .nil .nil) .nil)))) (.node s8 (.node s1 (.node s0 (.node (o135 P) (.node s0 .nil .nil) .nil) (.node s0 (.node s0 .nil .nil) .nil)) (.node s0 (.node (o167 P) (.node (o295 P) .nil .nil) .nil) (.node (o231 P) (.node s0 .nil .nil) .nil))) (.node s1 (.node (o87 P) (.node (o151 P) (.node (o279 P) .nil .nil) .nil) (.node (o215 P) (.node (o343 P) .nil .nil) .nil)) (.node s1 (.node s8 (.node s1 .nil .nil) .nil) (.node (o247 P) .nil .nil))))) (.node s0 (.node (o19 P) (.node (o35 P) (.node (o67 P) (.node (o131 P) (.node (o259 P) .nil .nil) .nil) (.node (o195 P) (.node (o323 P) .nil .nil) .nil)) (.node s0 (.node (o163 P) (.node s0 .nil .nil) .nil) (.node (o227 P) (.node s0 .nil .nil) .nil))) (.node (o51 P) (.node s1 (.node s0 (.node s1 .nil .nil) .nil) (.node s1 (.node s1 .nil .nil) .nil)) (.node (o115 P) (.node (o179 P) (.node (o307 P) .nil .nil) .nil) (.node (o243 P) (.node (o371 P) .nil .nil) .nil)))) (.node (o27 P) (.node (o43 P) (.node s0 (.node (o139 P) (.node s0 .nil .nil) .nil) (.node s0 (.node s0 .nil .nil) .nil)) (.node (o107 P) (.node s0 (.node s1 .nil .nil) .nil) (.node (o235 P) (.node (o363 P) .nil .nil) .nil))) (.node (o59 P) (.node (o91 P) (.node s1 (.node (o283 P) .nil .nil) .nil) (.node (o219 P) (.node (o347 P) .nil .nil) .nil)) (.node s0 (.node (o187 P) (.node (o315 P) .nil .nil) .nil) (.node (o251 P) .nil .nil)))))) (.node (W.boot_o_5 P) (.node (W.boot_o_9 P) (.node (o17 P) (.node (o33 P) (.node (o65 P) (.node s1 (.node (o257 P) .nil .nil) .nil) (.node (o193 P) (.node (o321 P) .nil .nil) .nil)) (.node s1 (.node s0 (.node (o289 P) .nil .nil) .nil) (.node (o225 P) (.node s1 .nil .nil) .nil))) (.node (o49 P) (.node (o81 P) (.node (o145 P) (.node (o273 P) .nil .nil) .nil) (.node (o209 P) (.node (o337 P) .nil .nil) .nil)) (.node s0 (.node (o177_1 P) (.node (o305 P) .nil .nil) .nil) (.node s0 (.node s0 .nil .nil) .nil)))) (.node s0 (.node (o41 P) (.node (o73 P) (.node (o137 P) (.node (o265 P) .nil .nil) .nil) (.node (o201 P) (.node (o329 P) .nil .nil) .nil)) (.node (o105 P) (.node s1 (.node (o297 P) .nil .nil) .nil) (.node (o233 P) (.node (o361 P) .nil .nil) .nil))) (.node s0 (.node s0 (.node (o153 P) (.node (o281 P) .nil .nil) .nil) (.node s0 (.node s0 .nil .nil) .nil)) (.node (o121 P) (.node s0 (.node s0 .nil .nil) .nil) (.node s1 .nil .nil))))) (.node (o13 P) (.node (o21 P) (.node (o37 P) (.node s1 (.node s0 (.node s1 .nil .nil) .nil) (.node s1 (.node s1 .nil .nil) .nil)) (.node (o101 P) (.node (o165 P) (.node (o293 P) .nil .nil) .nil) (.node (o229 P) (.node (o357 P) .nil .nil) .nil))) (.node (o53 P) (.node s0 (.node (o149 P) (.node (o277 P) .nil .nil) .nil) (.node s0 (.node s0 .nil .nil) .nil)) (.node (o117 P) (.node (o181 P) (.node (o309 P) .nil .nil) .nil) (.node (o245 P) .nil .nil)))) (.node s0 (.node (o45 P) (.node (o77 P) (.node s1 (.node (o269 P) .nil .nil) .nil) (.node (o205 P) (.node (o333 P) .nil .nil) .nil)) (.node s1 (.node (o173 P) (.node (o301 P) .nil .nil) .nil) (.node s1 (.node (o365 P) .nil .nil) .nil))) (.node s0 (.node (o93 P) (.node s0 (.node s1 .nil .nil) .nil) (.node (o221 P) (.node (o349 P) .nil .nil) .nil)) (.node (o125 P) (.node s0 (.node s0 .nil .nil) .nil) (.node s0 .nil .nil))))))) (.node (W.boot_o_2 P) (.node (W.boot_o_4 P) (.node (W.boot_o_8 P) (.node s1 (.node (o32 P) (.node s0 (.node s0 (.node s0 .nil .nil) .nil) (.node s0 (.node s0 .nil .nil) .nil)) (.node s0 (.node (o160 P) (.node (o288 P) .nil .nil) .nil) (.node (o224 P) (.node s0 .nil .nil) .nil))) (.node s1 (.node (o80 P) (.node (o144 P) (.node (o272 P) .nil .nil) .nil) (.node (o208 P) (.node (o336 P) .nil .nil) .nil)) (.node (o112 P) (.node (o176 P) (.node s1 .nil .nil) .nil) (.node (o240 P) (.node (o368 P) .nil .nil) .nil)))) (.node (o24 P) (.node (o40 P) (.node (o72 P) (.node s0 (.node (o264 P) .nil .nil) .nil) (.node (o200 P) (.node (o328 P) .nil .nil) .nil)) (.node s1 (.node s0 (.node (o296 P) .nil .nil) .nil) (.node s0 (.node s1 .nil .nil) .nil))) (.node (o56 P) (.node (o88 P) (.node (o152 P) (.node (o280 P) .nil .nil) .nil) (.node (o216 P) (.node (o344 P) .nil .nil) .nil)) (.node (o120 P) (.node (o184 P) (.node (o312 P) .nil .nil) .nil) (.node s0 .nil .nil))))) (.node (o12_2 P) (.node (o20 P) (.node s8 (.node s0 (.node (o132 P) (.node s0 .nil .nil) .nil) (.node s0 (.node s0 .nil .nil) .nil)) (.node (o100 P) (.node s0 (.node s1 .nil .nil) .nil) (.node (o228 P) (.node (o356 P) .nil .nil) .nil))) (.node (o52 P) (.node (o84 P) (.node s1 (.node (o276 P) .nil .nil) .nil) (.node (o212 P) (.node (o340 P) .nil .nil) .nil)) (.node (o116 P) (.node (o180 P) (.node (o308 P) .nil .nil) .nil) (.node s0 (.node (o372 P) .nil .nil) .nil)))) (.node (o28 P) (.node (o44 P) (.node s1 (.node s0 (.node s1 .nil .nil) .nil) (.node s1 (.node s1 .nil .nil) .nil)) (.node s0 (.node (o172 P) (.node (o300 P) .nil .nil) .nil) (.node s0 (.node (o364 P) .nil .nil) .nil))) (.node (o60 P) (.node s0 (.node (o156 P) (.node s0 .nil .nil) .nil) (.node s0 (.node s0 .nil .nil) .nil)) (.node s1 (.node (o188 P) (.node (o316 P) .nil .nil) .nil) (.node (o252 P) .nil .nil)))))) (.node (W.boot_o_6 P) (.node (W.boot_o_10 P) (.node s0 (.node (o34 P) (.node (o66 P) (.node (o130 P) (.node (o258 P) .nil .nil) .nil) (.node (o194 P) (.node (o322 P) .nil .nil) .nil)) (.node (o98 P) (.node s1 (.node (o290 P) .nil .nil) .nil) (.node (o226 P) (.node (o354 P) .nil .nil) .nil))) (.node s0 (.node s0 (.node (o146 P) (.node s0 .nil .nil) .nil) (.node s0 (.node s0 .nil .nil) .nil)) (.node s1 (.node (o178 P) (.node s0 .nil .nil) .nil) (.node s1 (.node (o370 P) .nil .nil) .nil)))) (.node s1 (.node s0 (.node (o74 P) (.node (o138 P) (.node (o266 P) .nil .nil) .nil) (.node (o202 P) (.node (o330 P) .nil .nil) .nil)) (.node (o106 P) (.node (o170 P) (.node s0 .nil .nil) .nil) (.node (o234 P) (.node s0 .nil .nil) .nil))) (.node (o58 P) (.node s1 (.node s0 (.node (o282 P) .nil .nil) .nil) (.node s1 (.node s1 .nil .nil) .nil)) (.node (o122 P) (.node (o186 P) (.node (o314 P) .nil .nil) .nil) (.node (o250 P) .nil .nil))))) (.node (o14 P) (.node (o22 P) (.node s0 (.node (o70 P) (.node s8 (.node (o262 P) .nil .nil) .nil) (.node (o198 P) (.node (o326 P) .nil .nil) .nil)) (.node (o102 P) (.node (o166 P) (.node s0 .nil .nil) .nil) (.node s8 (.node (o358 P) .nil .nil) .nil))) (.node s0 (.node (o86 P) (.node s0 (.node (o278 P) .nil .nil) .nil) (.node (o214 P) (.node (o342 P) .nil .nil) .nil)) (.node s0 (.node (o182 P) (.node s0 .nil .nil) .nil) (.node (o246 P) .nil .nil)))) (.node (o30 P) (.node (o46 P) (.node s0 (.node (o142 P) (.node s0 .nil .nil) .nil) (.node s0 (.node s0 .nil .nil) .nil)) (.node (o110 P) (.node (o174 P) (.node (o302 P) .nil .nil) .nil) (.node (o238 P) (.node s0 .nil .nil) .nil))) (.node s1 (.node (o94 P) (.node (o158 P) (.node (o286 P) .nil .nil) .nil) (.node (o222 P) (.node (o350 P) .nil .nil) .nil)) (.node (o126 P) (.node s1 (.node s1 .nil .nil) .nil) (.node s1 .nil .nil))))))))
def t3 (P : Params) : W.BT := (.node (W.boot_o_0 P) (.node (W.boot_o_1 P) (.node (o3_2 P) (.node (W.boot_o_7 P) (.node s0 (.node (o31 P) (.node (o63 P) (.node (o127 P) (.node (o255 P) .nil .nil) (.node s0 .nil .nil)) (.node (o191 P) (.node (o319 P) .nil .nil) .nil)) (.node (o95 P) (.node (o159 P) (.node s0 .nil .nil) .nil) (.node (o223 P) (.node (o351 P) .nil .nil) .nil))) (.node s0 (.node (o79 P) (.node s0 (.node (o271 P) .nil .nil) (.node (o399 P) .nil .nil)) (.node (o207 P) (.node (o335 P) .nil .nil) .nil)) (.node (o111 P) (.node (o175 P) (.node s0 .nil .nil) .nil) (.node (o239 P) (.node s1 .nil .nil) .nil)))) (.node s8 (.node s1 (.node s0 (.node (o135 P) (.node s0 .nil .nil) (.node (o391 P) .nil .nil)) (.node s0 (.node s0 .nil .nil) .nil)) (.node s0 (.node (o167 P) (.node (o295 P) .nil .nil) .nil) (.node (o231 P) (.node s0 .nil .nil) .nil))) (.node s1 (.node (o87 P) (.node (o151 P) (.node (o279 P) .nil .nil) .nil) (.node (o215 P) (.node (o343 P) .nil .nil) .nil)) (.node s1 (.node s8 (.node s1 .nil .nil) .nil) (.node (o247 P) (.node (o375 P) .nil .nil) .nil))))) (.node s0 (.node (o19 P) (.node (o35 P) (.node (o67 P) (.node (o131 P) (.node (o259 P) .nil .nil) (.node (o387 P) .nil .nil)) (.node (o195 P) (.node (o323 P) .nil .nil) .nil)) (.node s0 (.node (o163 P) (.node s0 .nil .nil) .nil) (.node (o227 P) (.node s0 .nil .nil) .nil))) (.node (o51 P) (.node s1 (.node s0 (.node s1 .nil .nil) (.node s0 .nil .nil)) (.node s1 (.node s1 .nil .nil) .nil)) (.node (o115 P) (.node (o179 P) (.node (o307 P) .nil .nil) .nil) (.node (o243 P) (.node (o371 P) .nil .nil) .nil)))) (.node (o27 P) (.node (o43 P) (.node s0 (.node (o139 P) (.node s0 .nil .nil) (.node (o395 P) .nil .nil)) (.node s0 (.node s0 .nil .nil) .nil)) (.node (o107 P) (.node s0 (.node s1 .nil .nil) .nil) (.node (o235 P) (.node (o363 P) .nil .nil) .nil))) (.node (o59 P) (.node (o91 P) (.node s1 (.node (o283 P) .nil .nil) .nil) (.node (o219 P) (.node (o347 P) .nil .nil) .nil)) (.node s0 (.node (o187 P) (.node (o315 P) .nil .nil) .nil) (.node (o251 P) (.node s1 .nil .nil) .nil)))))) (.node (W.boot_o_5 P) (.node (W.boot_o_9 P) (.node (o17 P) (.node (o33 P) (.node (o65 P) (.node s1 (.node (o257 P) .nil .nil) (.node (o385 P) .nil .nil)) (.node (o193 P) (.node (o321 P) .nil .nil) .nil)) (.node s1 (.node s0 (.node (o289 P) .nil .nil) .nil) (.node (o225 P) (.node s1 .nil .nil) .nil))) (.node (o49 P) (.node (o81 P) (.node (o145 P) (.node (o273 P) .nil .nil) (.node s1 .nil .nil)) (.node (o209 P) (.node (o337 P) .nil .nil) .nil)) (.node s0 (.node (o177_1 P) (.node (o305 P) .nil .nil) .nil) (.node s0 (.node s0 .nil .nil) .nil)))) (.node s0 (.node (o41 P) (.node (o73 P) (.node (o137 P) (.node (o265 P) .nil .nil) (.node s0 .nil .nil)) (.node (o201 P) (.node (o329 P) .nil .nil) .nil)) (.node (o105 P) (.node s1 (.node (o297 P) .nil .nil) .nil) (.node (o233 P) (.node (o361 P) .nil .nil) .nil))) (.node s0 (.node s0 (.node (o153 P) (.node (o281 P) .nil .nil) .nil) (.node s0 (.node s0 .nil .nil) .nil)) (.node (o121 P) (.node s0 (.node s0 .nil .nil) .nil) (.node s1 (.node (o377 P) .nil .nil) .nil))))) (.node (o13 P) (.node (o21 P) (.node (o37 P) (.node s1 (.node s0 (.node s1 .nil .nil) (.node s1 .nil .nil)) (.node s1 (.node s1 .nil .nil) .nil)) (.node (o101 P) (.node (o165 P) (.node (o293 P) .nil .nil) .nil) (.node (o229 P) (.node (o357 P) .nil .nil) .nil))) (.node (o53 P) (.node s0 (.node (o149 P) (.node (o277 P) .nil .nil) (.node (o405 P) .nil .nil)) (.node s0 (.node s0 .nil .nil) .nil)) (.node (o117 P) (.node (o181 P) (.node (o309 P) .nil .nil) .nil) (.node (o245 P) (.node s0 .nil .nil) .nil)))) (.node s0 (.node (o45 P) (.node (o77 P) (.node s1 (.node (o269 P) .nil .nil) (.node (o397 P) .nil .nil)) (.node (o205 P) (.node (o333 P) .nil .nil) .nil)) (.node s1 (.node (o173 P) (.node (o301 P) .nil .nil) .nil) (.node s1 (.node (o365 P) .nil .nil) .nil))) (.node s0 (.node (o93 P) (.node s0 (.node s1 .nil .nil) .nil) (.node (o221 P) (.node (o349 P) .nil .nil) .nil)) (.node (o125 P) (.node s0 (.node s0 .nil .nil) .nil) (.node s0 (.node (o381 P) .nil .nil) .nil))))))) (.node (W.boot_o_2 P) (.node (W.boot_o_4 P) (.node (W.boot_o_8 P) (.node s1 (.node (o32 P) (.node s0 (.node s0 (.node s0 .nil .nil) (.node s1 .nil .nil)) (.node s0 (.node s0 .nil .nil) .nil)) (.node s0 (.node (o160 P) (.node (o288 P) .nil .nil) .nil) (.node (o224 P) (.node s0 .nil .nil) .nil))) (.node s1 (.node (o80 P) (.node (o144 P) (.node (o272 P) .nil .nil) (.node s0 .nil .nil)) (.node (o208 P) (.node (o336 P) .nil .nil) .nil)) (.node (o112 P) (.node (o176 P) (.node s1 .nil .nil) .nil) (.node (o240 P) (.node (o368 P) .nil .nil) .nil)))) (.node (o24 P) (.node (o40 P) (.node (o72 P) (.node s0 (.node (o264 P) .nil .nil) (.node (o392 P) .nil .nil)) (.node (o200 P) (.node (o328 P) .nil .nil) .nil)) (.node s1 (.node s0 (.node (o296 P) .nil .nil) .nil) (.node s0 (.node s1 .nil .nil) .nil))) (.node (o56 P) (.node (o88 P) (.node (o152 P) (.node (o280 P) .nil .nil) .nil) (.node (o216 P) (.node (o344 P) .nil .nil) .nil)) (.node (o120 P) (.node (o184 P) (.node (o312 P) .nil .nil) .nil) (.node s0 (.node (o376 P) .nil .nil) .nil))))) (.node (o12_3 P) (.node (o20 P) (.node s8 (.node s0 (.node (o132 P) (.node s0 .nil .nil) (.node s0 .nil .nil)) (.node s0 (.node s0 .nil .nil) .nil)) (.node (o100 P) (.node s0 (.node s1 .nil .nil) .nil) (.node (o228 P) (.node (o356 P) .nil .nil) .nil))) (.node (o52 P) (.node (o84 P) (.node s1 (.node (o276 P) .nil .nil) (.node (o404 P) .nil .nil)) (.node (o212 P) (.node (o340 P) .nil .nil) .nil)) (.node (o116 P) (.node (o180 P) (.node (o308 P) .nil .nil) .nil) (.node s0 (.node (o372 P) .nil .nil) .nil)))) (.node (o28 P) (.node (o44 P) (.node s1 (.node s0 (.node s1 .nil .nil) (.node s0 .nil .nil)) (.node s1 (.node s1 .nil .nil) .nil)) (.node s0 (.node (o172 P) (.node (o300 P) .nil .nil) .nil) (.node s0 (.node (o364 P) .nil .nil) .nil))) (.node (o60 P) (.node s0 (.node (o156 P) (.node s0 .nil .nil) .nil) (.node s0 (.node s0 .nil .nil) .nil)) (.node s1 (.node (o188 P) (.node (o316 P) .nil .nil) .nil) (.node (o252 P) (.node (o380 P) .nil .nil) .nil)))))) (.node (W.boot_o_6 P) (.node (W.boot_o_10 P) (.node s0 (.node (o34 P) (.node (o66 P) (.node (o130 P) (.node (o258 P) .nil .nil) (.node (o386 P) .nil .nil)) (.node (o194 P) (.node (o322 P) .nil .nil) .nil)) (.node (o98 P) (.node s1 (.node (o290 P) .nil .nil) .nil) (.node (o226 P) (.node (o354 P) .nil .nil) .nil))) (.node s0 (.node s0 (.node (o146 P) (.node s0 .nil .nil) (.node (o402 P) .nil .nil)) (.node s0 (.node s0 .nil .nil) .nil)) (.node s1 (.node (o178 P) (.node s0 .nil .nil) .nil) (.node s1 (.node (o370 P) .nil .nil) .nil)))) (.node s1 (.node s0 (.node (o74 P) (.node (o138 P) (.node (o266 P) .nil .nil) (.node s1 .nil .nil)) (.node (o202 P) (.node (o330 P) .nil .nil) .nil)) (.node (o106 P) (.node (o170 P) (.node s0 .nil .nil) .nil) (.node (o234 P) (.node s0 .nil .nil) .nil))) (.node (o58 P) (.node s1 (.node s0 (.node (o282 P) .nil .nil) .nil) (.node s1 (.node s1 .nil .nil) .nil)) (.node (o122 P) (.node (o186 P) (.node (o314 P) .nil .nil) .nil) (.node (o250 P) (.node s0 .nil .nil) .nil))))) (.node (o14 P) (.node (o22 P) (.node s0 (.node (o70 P) (.node s8 (.node (o262 P) .nil .nil) (.node (o390 P) .nil .nil)) (.node (o198 P) (.node (o326 P) .nil .nil) .nil)) (.node (o102 P) (.node (o166 P) (.node s0 .nil .nil) .nil) (.node s8 (.node (o358 P) .nil .nil) .nil))) (.node s0 (.node (o86 P) (.node s0 (.node (o278 P) .nil .nil) (.node (o406 P) .nil .nil)) (.node (o214 P) (.node (o342 P) .nil .nil) .nil)) (.node s0 (.node (o182 P) (.node s0 .nil .nil) .nil) (.node (o246 P) (.node s1 .nil .nil) .nil)))) (.node (o30 P) (.node (o46 P) (.node s0 (.node (o142 P) (.node s0 .nil .nil) (.node (o398 P) .nil .nil)) (.node s0 (.node s0 .nil .nil) .nil)) (.node (o110 P) (.node (o174 P) (.node (o302 P) .nil .nil) .nil) (.node (o238 P) (.node s0 .nil .nil) .nil))) (.node s1 (.node (o94 P) (.node (o158 P) (.node (o286 P) .nil .nil) .nil) (.node (o222 P) (.node (o350 P) .nil .nil) .nil)) (.node (o126 P) (.node s1 (.node s1 .nil .nil) .nil) (.node s1 (.node (o382 P) .nil .nil) .nil))))))))
def envK : Env := { scope := PySem.Challenge.pw_lidprice_k11_stands_told.main.scope, locals := mainNs, globals := mainNs, cells := [], code := (.ref 13), frame := some 14 }
def g1 : List Stmt := [top 0, top 1, top 2, top 3, top 4, top 5, top 6, top 7, top 8, top 9, top 10, top 11, top 12, top 13, top 14, top 15, top 16, top 17, top 18, top 19, top 20, top 21, top 22, top 23, top 24, top 25, top 26, top 27]
def g2 : List Stmt := [top 28, top 29, top 30, top 31, top 32, top 33, top 34, top 35, top 36, top 37, top 38, top 39, top 40, top 41, top 42, top 43]
def g3 : List Stmt := [top 44, top 45, top 46, top 47, top 48, top 49]
def gs : List Stmt := g1 ++ (g2 ++ (g3 ++ []))
def codeK : Code := .body gs envK
theorem run1 (w : World) (os : OsState) : W.segRunT PySem.treeTable PySem.Challenge.pw_lidprice_k11_stands_told w 11 (some (.ref 6)) 1 1270 (stT (t0 w.params) 15 187 os) (W.piecesOf g1 envK codeK ⟨0, 0, 0, 0⟩ [W.topFrame ⟨0, 0, 0, 0⟩]) = some (.next, stT (t1 w.params) 182 414 os, codeK, ⟨78, 0, 96, 34⟩) := by kernel_rfl
theorem run2 (w : World) (os : OsState) : W.segRunT PySem.treeTable PySem.Challenge.pw_lidprice_k11_stands_told w 11 (some (.ref 6)) 1 1209 (stT (t1 w.params) 182 414 os) (W.piecesOf g2 envK codeK ⟨78, 0, 96, 34⟩ [W.topFrame ⟨0, 0, 0, 0⟩]) = some (.next, stT (t2 w.params) 373 657 os, codeK, ⟨204, 0, 214, 49⟩) := by kernel_rfl
theorem run3 (w : World) (os : OsState) : W.segRunT PySem.treeTable PySem.Challenge.pw_lidprice_k11_stands_told w 11 (some (.ref 6)) 1 174 (stT (t2 w.params) 373 657 os) (W.piecesOf g3 envK codeK ⟨204, 0, 214, 49⟩ [W.topFrame ⟨0, 0, 0, 0⟩]) = some (.next, stT (t3 w.params) 407 706 os, codeK, ⟨262, 0, 277, 15⟩) := by kernel_rfl
theorem runE (w : World) (os : OsState) : W.topRun PySem.treeTable PySem.Challenge.pw_lidprice_k11_stands_told w 11 (some (.ref 6)) 2 (stT (t3 w.params) 407 706 os).abs (W.restOf [] envK codeK ⟨262, 0, 277, 15⟩ [W.topFrame ⟨0, 0, 0, 0⟩]) = some (stT (t3 w.params) 407 706 os).abs := by kernel_rfl
theorem preK (w : World) (os : OsState) : W.topGo PySem.treeTable PySem.Challenge.pw_lidprice_k11_stands_told w 11 (some (.ref 6)) 12 ⟨W.boot_heap w.params, Array.mk [], W.boot_drawn, W.boot_toks, os⟩ (W.topStub PySem.Challenge.pw_lidprice_k11_stands_told) = some ((stT (t0 w.params) 15 187 os).abs, ⟨denote PySem.treeTable (.body gs envK), codeK, ⟨0, 0, 0, 0⟩, [W.topFrame ⟨0, 0, 0, 0⟩]⟩) := by kernel_rfl
theorem blkK (w : World) (os : OsState) : W.segRun PySem.treeTable PySem.Challenge.pw_lidprice_k11_stands_told w 11 (some (.ref 6)) 1 1 (stT (t0 w.params) 15 187 os).abs (W.blockOf gs envK codeK ⟨0, 0, 0, 0⟩ [W.topFrame ⟨0, 0, 0, 0⟩]) = some (.next, (stT (t0 w.params) 15 187 os).abs, codeK, ⟨0, 0, 0, 0⟩) := by kernel_rfl
def heapK (P : Params) : W.Frag :=
(nat_lit 2, W.boot_o_2 P) ::
(nat_lit 3, o3_2 P) ::
(nat_lit 15, s0) ::
(nat_lit 17, o17 P) ::
(nat_lit 18, s0) ::
(nat_lit 20, o20 P) ::
(nat_lit 21, o21 P) ::
(nat_lit 22, o22 P) ::
(nat_lit 29, s0) ::
(nat_lit 30, o30 P) ::
(nat_lit 31, o31 P) ::
(nat_lit 32, o32 P) ::
(nat_lit 35, o35 P) ::
(nat_lit 42, s0) ::
(nat_lit 43, o43 P) ::
(nat_lit 44, o44 P) ::
(nat_lit 47, s0) ::
(nat_lit 49, o49 P) ::
(nat_lit 50, s0) ::
(nat_lit 52, o52 P) ::
(nat_lit 53, o53 P) ::
(nat_lit 54, s0) ::
(nat_lit 56, o56 P) ::
(nat_lit 57, s0) ::
(nat_lit 59, o59 P) ::
(nat_lit 60, o60 P) ::
(nat_lit 61, s0) ::
(nat_lit 63, o63 P) ::
(nat_lit 64, s0) ::
(nat_lit 66, o66 P) ::
(nat_lit 67, o67 P) ::
(nat_lit 68, s0) ::
(nat_lit 70, o70 P) ::
(nat_lit 71, s0) ::
(nat_lit 73, o73 P) ::
(nat_lit 74, o74 P) ::
(nat_lit 75, s0) ::
(nat_lit 77, o77 P) ::
(nat_lit 78, s0) ::
(nat_lit 80, o80 P) ::
(nat_lit 81, o81 P) ::
(nat_lit 82, s0) ::
(nat_lit 84, o84 P) ::
(nat_lit 85, s0) ::
(nat_lit 87, o87 P) ::
(nat_lit 88, o88 P) ::
(nat_lit 89, s0) ::
(nat_lit 91, o91 P) ::
(nat_lit 92, s0) ::
(nat_lit 94, o94 P) ::
(nat_lit 95, o95 P) ::
(nat_lit 96, s0) ::
(nat_lit 98, o98 P) ::
(nat_lit 99, s0) ::
(nat_lit 101, o101 P) ::
(nat_lit 102, o102 P) ::
(nat_lit 103, s0) ::
(nat_lit 106, o106 P) ::
(nat_lit 107, o107 P) ::
(nat_lit 108, s0) ::
(nat_lit 111, o111 P) ::
(nat_lit 112, o112 P) ::
(nat_lit 113, s0) ::
(nat_lit 116, o116 P) ::
(nat_lit 117, o117 P) ::
(nat_lit 118, s0) ::
(nat_lit 121, o121 P) ::
(nat_lit 122, o122 P) ::
(nat_lit 123, s0) ::
(nat_lit 126, o126 P) ::
(nat_lit 127, o127 P) ::
(nat_lit 128, s0) ::
(nat_lit 131, o131 P) ::
(nat_lit 132, o132 P) ::
(nat_lit 140, s0) ::
(nat_lit 142, o142 P) ::
(nat_lit 143, s0) ::
(nat_lit 145, o145 P) ::
(nat_lit 146, o146 P) ::
(nat_lit 147, s0) ::
(nat_lit 149, o149 P) ::
(nat_lit 150, s0) ::
(nat_lit 152, o152 P) ::
(nat_lit 153, o153 P) ::
(nat_lit 154, s0) ::
(nat_lit 156, o156 P) ::
(nat_lit 157, s0) ::
(nat_lit 159, o159 P) ::
(nat_lit 160, o160 P) ::
(nat_lit 161, s0) ::
(nat_lit 163, o163 P) ::
(nat_lit 164, s0) ::
(nat_lit 166, o166 P) ::
(nat_lit 167, o167 P) ::
(nat_lit 168, s0) ::
(nat_lit 170, o170 P) ::
(nat_lit 171, s0) ::
(nat_lit 173, o173 P) ::
(nat_lit 174, o174 P) ::
(nat_lit 175, o175 P) ::
(nat_lit 176, o176 P) ::
(nat_lit 177, o177_1 P) ::
(nat_lit 178, o178 P) ::
(nat_lit 179, o179 P) ::
(nat_lit 182, o182 P) ::
(nat_lit 189, s0) ::
(nat_lit 191, o191 P) ::
(nat_lit 192, s0) ::
(nat_lit 194, o194 P) ::
(nat_lit 195, o195 P) ::
(nat_lit 196, s0) ::
(nat_lit 198, o198 P) ::
(nat_lit 199, s0) ::
(nat_lit 201, o201 P) ::
(nat_lit 202, o202 P) ::
(nat_lit 203, s0) ::
(nat_lit 205, o205 P) ::
(nat_lit 206, s0) ::
(nat_lit 208, o208 P) ::
(nat_lit 209, o209 P) ::
(nat_lit 210, s0) ::
(nat_lit 212, o212 P) ::
(nat_lit 213, s0) ::
(nat_lit 215, o215 P) ::
(nat_lit 216, o216 P) ::
(nat_lit 217, s0) ::
(nat_lit 219, o219 P) ::
(nat_lit 220, s0) ::
(nat_lit 222, o222 P) ::
(nat_lit 223, o223 P) ::
(nat_lit 224, o224 P) ::
(nat_lit 225, o225 P) ::
(nat_lit 226, o226 P) ::
(nat_lit 229, o229 P) ::
(nat_lit 236, s0) ::
(nat_lit 239, o239 P) ::
(nat_lit 240, o240 P) ::
(nat_lit 241, s0) ::
(nat_lit 243, o243 P) ::
(nat_lit 244, s0) ::
(nat_lit 246, o246 P) ::
(nat_lit 247, o247 P) ::
(nat_lit 248, s0) ::
(nat_lit 251, o251 P) ::
(nat_lit 252, o252 P) ::
(nat_lit 253, s0) ::
(nat_lit 255, o255 P) ::
(nat_lit 256, s0) ::
(nat_lit 258, o258 P) ::
(nat_lit 259, o259 P) ::
(nat_lit 260, s0) ::
(nat_lit 262, o262 P) ::
(nat_lit 263, s0) ::
(nat_lit 265, o265 P) ::
(nat_lit 266, o266 P) ::
(nat_lit 267, s0) ::
(nat_lit 269, o269 P) ::
(nat_lit 270, s0) ::
(nat_lit 272, o272 P) ::
(nat_lit 273, o273 P) ::
(nat_lit 274, s0) ::
(nat_lit 277, o277 P) ::
(nat_lit 278, o278 P) ::
(nat_lit 279, o279 P) ::
(nat_lit 280, o280 P) ::
(nat_lit 281, o281 P) ::
(nat_lit 284, s0) ::
(nat_lit 286, o286 P) ::
(nat_lit 287, s0) ::
(nat_lit 289, o289 P) ::
(nat_lit 290, o290 P) ::
(nat_lit 291, s0) ::
(nat_lit 293, o293 P) ::
(nat_lit 294, s0) ::
(nat_lit 296, o296 P) ::
(nat_lit 297, o297 P) ::
(nat_lit 298, s0) ::
(nat_lit 301, o301 P) ::
(nat_lit 302, o302 P) ::
(nat_lit 303, s0) ::
(nat_lit 305, o305 P) ::
(nat_lit 306, s0) ::
(nat_lit 308, o308 P) ::
(nat_lit 309, o309 P) ::
(nat_lit 310, s0) ::
(nat_lit 312, o312 P) ::
(nat_lit 313, s0) ::
(nat_lit 315, o315 P) ::
(nat_lit 316, o316 P) ::
(nat_lit 317, s0) ::
(nat_lit 319, o319 P) ::
(nat_lit 320, s0) ::
(nat_lit 322, o322 P) ::
(nat_lit 323, o323 P) ::
(nat_lit 324, s0) ::
(nat_lit 326, o326 P) ::
(nat_lit 327, s0) ::
(nat_lit 329, o329 P) ::
(nat_lit 330, o330 P) ::
(nat_lit 331, s0) ::
(nat_lit 333, o333 P) ::
(nat_lit 334, s0) ::
(nat_lit 336, o336 P) ::
(nat_lit 337, o337 P) ::
(nat_lit 345, s0) ::
(nat_lit 347, o347 P) ::
(nat_lit 348, s0) ::
(nat_lit 350, o350 P) ::
(nat_lit 351, o351 P) ::
(nat_lit 352, s0) ::
(nat_lit 354, o354 P) ::
(nat_lit 355, s0) ::
(nat_lit 357, o357 P) ::
(nat_lit 358, o358 P) ::
(nat_lit 359, s0) ::
(nat_lit 361, o361 P) ::
(nat_lit 362, s0) ::
(nat_lit 364, o364 P) ::
(nat_lit 365, o365 P) ::
(nat_lit 366, s0) ::
(nat_lit 368, o368 P) ::
(nat_lit 369, s0) ::
(nat_lit 371, o371 P) ::
(nat_lit 372, o372 P) ::
(nat_lit 373, s0) ::
(nat_lit 376, o376 P) ::
(nat_lit 377, o377 P) ::
(nat_lit 378, s0) ::
(nat_lit 381, o381 P) ::
(nat_lit 382, o382 P) ::
(nat_lit 383, s0) ::
(nat_lit 386, o386 P) ::
(nat_lit 387, o387 P) ::
(nat_lit 388, s0) ::
(nat_lit 391, o391 P) ::
(nat_lit 392, o392 P) ::
(nat_lit 393, s0) ::
(nat_lit 395, o395 P) ::
(nat_lit 396, s0) ::
(nat_lit 398, o398 P) ::
(nat_lit 399, o399 P) ::
(nat_lit 400, s0) ::
(nat_lit 402, o402 P) ::
(nat_lit 403, s0) ::
(nat_lit 405, o405 P) ::
(nat_lit 406, o406 P) :: []
def asK : List Addr := 2 :: 3 :: 15 :: 17 :: 18 :: 20 :: 21 :: 22 :: 29 :: 30 :: 31 :: 32 :: 35 :: 42 :: 43 :: 44 :: 47 :: 49 :: 50 :: 52 :: 53 :: 54 :: 56 :: 57 :: 59 :: 60 :: 61 :: 63 :: 64 :: 66 :: 67 :: 68 :: 70 :: 71 :: 73 :: 74 :: 75 :: 77 :: 78 :: 80 :: 81 :: 82 :: 84 :: 85 :: 87 :: 88 :: 89 :: 91 :: 92 :: 94 :: 95 :: 96 :: 98 :: 99 :: 101 :: 102 :: 103 :: 106 :: 107 :: 108 :: 111 :: 112 :: 113 :: 116 :: 117 :: 118 :: 121 :: 122 :: 123 :: 126 :: 127 :: 128 :: 131 :: 132 :: 140 :: 142 :: 143 :: 145 :: 146 :: 147 :: 149 :: 150 :: 152 :: 153 :: 154 :: 156 :: 157 :: 159 :: 160 :: 161 :: 163 :: 164 :: 166 :: 167 :: 168 :: 170 :: 171 :: 173 :: 174 :: 175 :: 176 :: 177 :: 178 :: 179 :: 182 :: 189 :: 191 :: 192 :: 194 :: 195 :: 196 :: 198 :: 199 :: 201 :: 202 :: 203 :: 205 :: 206 :: 208 :: 209 :: 210 :: 212 :: 213 :: 215 :: 216 :: 217 :: 219 :: 220 :: 222 :: 223 :: 224 :: 225 :: 226 :: 229 :: 236 :: 239 :: 240 :: 241 :: 243 :: 244 :: 246 :: 247 :: 248 :: 251 :: 252 :: 253 :: 255 :: 256 :: 258 :: 259 :: 260 :: 262 :: 263 :: 265 :: 266 :: 267 :: 269 :: 270 :: 272 :: 273 :: 274 :: 277 :: 278 :: 279 :: 280 :: 281 :: 284 :: 286 :: 287 :: 289 :: 290 :: 291 :: 293 :: 294 :: 296 :: 297 :: 298 :: 301 :: 302 :: 303 :: 305 :: 306 :: 308 :: 309 :: 310 :: 312 :: 313 :: 315 :: 316 :: 317 :: 319 :: 320 :: 322 :: 323 :: 324 :: 326 :: 327 :: 329 :: 330 :: 331 :: 333 :: 334 :: 336 :: 337 :: 345 :: 347 :: 348 :: 350 :: 351 :: 352 :: 354 :: 355 :: 357 :: 358 :: 359 :: 361 :: 362 :: 364 :: 365 :: 366 :: 368 :: 369 :: 371 :: 372 :: 373 :: 376 :: 377 :: 378 :: 381 :: 382 :: 383 :: 386 :: 387 :: 388 :: 391 :: 392 :: 393 :: 395 :: 396 :: 398 :: 399 :: 400 :: 402 :: 403 :: 405 :: 406 :: []
theorem keysK : ∀ P, asK = (heapK P).map (·.1) := fun _ => by kernel_rfl
def vw : Program := { PySem.Challenge.pw_lidprice_k11_stands_told with main := { (PySem.Challenge.pw_lidprice_k11_stands_told).main with body := [top 0, top 2, top 3, top 5, top 6, top 7, top 8, top 9, top 10, top 11, top 12, top 14, top 15, top 16, top 17, top 18, top 19, top 20, top 21, top 23, top 24, top 25, top 26, top 27, top 28, top 29, top 30, top 31, top 32, top 34, top 35, top 36, top 37, top 38, top 39, top 40, top 41, top 42, top 43, top 44, top 45, top 46, top 47, top 48, top 49] } }
def xtK (s : Shared) : Bool := W.xlAt vw [] s && W.recOk (W.RowW.records (W.OpenRow.toRowW (W.OpenLaw.row PySem.Challenge.rw_lidprice_k11_stands_told))) s
theorem leftK : W.LeftO PySem.Challenge.pw_lidprice_k11_stands_told vw [] xtK (W.Hook.obs (W.kHook heapK asK keysK)) (W.Hook.val (W.kHook heapK asK keysK)) 6026 :=
  L2.left_run (Tb := t0) (Tf := t3) (nf := 407) (kf := 706) (env := envK) (C := codeK) (gs := gs) (m0 := 11) (ann := (some (.ref 6))) (by kernel_rfl) (by decide) (fun _ => by kernel_rfl) (fun _ => by kernel_rfl) preK blkK (c := 1270 + (1209 + (174 + (2)))) (fun w os => L2.run_app (run1 w os) (L2.run_app (run2 w os) (L2.run_app (run3 w os) (runE w os)))) (by decide) (fun _ => by kernel_rfl)
end
end K11
open PySem PySem.W PyProof.Rows
set_option maxRecDepth 100000 in
set_option maxHeartbeats 0 in
theorem PySem.Challenge.cw_lidprice_k11_stands_told_holds : PySem.Challenge.rw_lidprice_k11_stands_told.Holds := by
  w_on; o_law
  refine PySem.W.holds_open (N := 6026) (q := K11.vw) (loose := []) (Xt := K11.xtK) (XP := PySem.W.XL K11.vw [])
    (Yf := PySem.W.Hook.obs (PySem.W.kHook K11.heapK K11.asK K11.keysK)) (Ya := PySem.W.Hook.val (PySem.W.kHook K11.heapK K11.asK K11.keysK))
    (YP := PySem.W.Hook.says (PySem.W.kHook K11.heapK K11.asK K11.keysK)) K11.leftK
    (PySem.W.Hook.of _) (PySem.W.Hook.keeps _) (fun s e => PySem.W.xl_of s (Bool.and_eq_true_iff.mp e).1) PySem.W.XL.keeps
    (by rfl) (by rfl) (by rfl) (fun s e => PySem.W.recFacts_of (Bool.and_eq_true_iff.mp e).2)
    (by rfl) (by first | assumption | decide +kernel) (by decide +kernel)
    ⟨rfl, rfl, rfl, rfl, rfl, by decide +kernel⟩ ?hw ?hc
  case hw => w_witness2
  k_fill
  refine K11.walk (l := PySem.Challenge.rw_lidprice_k11_stands_told) rfl rfl rfl (fun w h Y => by first | exact PySem.W.kIn_of Y | exact PySem.W.km_in_of Y) ?F
  case F =>
    intro w mg fa h KX G hmg
    refine' K11.all_mk (Pt := 104) KX G hmg ?aC_Stand ?aC_End ?aC_Stage ?a1 ?l1 ?c1 ?k1 ?a2 ?l2 ?c2 ?k2 ?a3 ?l3 ?c3 ?k3 ?a4 ?l4 ?c4 ?k4 ?a5 ?l5 ?c5 ?k5 ?a6 ?l6 ?c6 ?k6 ?a7 ?l7 ?c7 ?k7 ?a8 ?l8 ?c8 ?k8 ?a9 ?l9 ?c9 ?k9 ?a10 ?l10 ?c10 ?k10 ?a11 ?l11 ?c11 ?k11 ?a12 ?l12 ?c12 ?k12 ?a13 ?l13 ?c13 ?k13 ?a14 ?l14 ?c14 ?k14 ?a15 ?l15 ?c15 ?k15 ?a16 ?l16 ?c16 ?k16 ?a17 ?l17 ?c17 ?k17 ?a18 ?l18 ?c18 ?k18 ?a19 ?l19 ?c19 ?k19 ?a20 ?l20 ?c20 ?k20 ?a21 ?l21 ?c21 ?k21 ?a22 ?l22 ?c22 ?k22 ?a23 ?l23 ?c23 ?k23 ?a24 ?l24 ?c24 ?k24 ?a25 ?l25 ?c25 ?k25 ?a26 ?l26 ?c26 ?k26 ?a27 ?l27 ?c27 ?k27 ?a28 ?l28 ?c28 ?k28 ?a29 ?l29 ?c29 ?k29 ?a30 ?l30 ?c30 ?k30 ?a31 ?l31 ?c31 ?k31 ?a32 ?l32 ?c32 ?k32 ?a33 ?i33 ?l33 ?c33 ?k33 ?a34 ?i34 ?l34 ?c34 ?k34 ?a35 ?i35 ?l35 ?c35 ?k35 ?a36 ?i36 ?l36 ?c36 ?k36 ?a37 ?i37 ?l37 ?c37 ?k37 ?a38 ?i38 ?l38 ?c38 ?k38 ?a39 ?i39 ?l39 ?c39 ?k39 ?a40 ?i40 ?l40 ?c40 ?k40 ?a41 ?i41 ?l41 ?c41 ?k41 ?a42 ?i42 ?l42 ?c42 ?k42 ?a43 ?i43 ?l43 ?c43 ?k43 ?a44 ?i44 ?l44 ?c44 ?k44 ?a45 ?i45 ?l45 ?c45 ?k45 ?a46 ?i46 ?l46 ?c46 ?k46 ?a47 ?i47 ?l47 ?c47 ?k47 ?hn ?htk ?pgE ?hdE ?poE ?saE ?mkE ?kcE ?haE ?hmE ?nE1 ?nE2 ?nE3 ?nE4 ?nE5 ?vE_ends ?vE_stages ?vE_reserve ?vE_caps ?pgS ?hdS ?poS ?saS ?mkS ?kcS ?haS ?hmS ?nS1 ?nS2 ?nS3 ?nS4 ?nS5 ?nS6 ?vS_ends ?vS_stages ?vS_reserve ?vS_caps ?qEE ?qSE ?qSS ?qET ?qST ?uga ?urd ?uat ?uhd ?y_abs ?y_all ?y_bool ?y_enumerate ?y_int ?y_isinstance ?y_len ?y_list ?y_max ?y_min ?y_range ?y_reversed ?y_sorted ?y_str ?y_sum ?y_tuple ?yg_MOST_WEIGHT ?yg_MOST_STAGE_ROWS ?yg_MOST_WORTH ?yg_MOST_STAGES ?yg_MOST_ENDS ?yg_MOST_PRICE ?tb ?ch ?np
    (case aC_Stand => first | k_is | kit_is)
    (case aC_End => first | k_is | kit_is)
    (case aC_Stage => first | k_is | kit_is)
    (case a1 => first | k_is | kit_is)
    (case l1 => first | k_is | kit_is)
    (case c1 => first | k_is | kit_is)
    (case k1 => first | k_is | kit_is)
    (case a2 => first | k_is | kit_is)
    (case l2 => first | k_is | kit_is)
    (case c2 => first | k_is | kit_is)
    (case k2 => first | k_is | kit_is)
    (case a3 => first | k_is | kit_is)
    (case l3 => first | k_is | kit_is)
    (case c3 => first | k_is | kit_is)
    (case k3 => first | k_is | kit_is)
    (case a4 => first | k_is | kit_is)
    (case l4 => first | k_is | kit_is)
    (case c4 => first | k_is | kit_is)
    (case k4 => first | k_is | kit_is)
    (case a5 => first | k_is | kit_is)
    (case l5 => first | k_is | kit_is)
    (case c5 => first | k_is | kit_is)
    (case k5 => first | k_is | kit_is)
    (case a6 => first | k_is | kit_is)
    (case l6 => first | k_is | kit_is)
    (case c6 => first | k_is | kit_is)
    (case k6 => first | k_is | kit_is)
    (case a7 => first | k_is | kit_is)
    (case l7 => first | k_is | kit_is)
    (case c7 => first | k_is | kit_is)
    (case k7 => first | k_is | kit_is)
    (case a8 => first | k_is | kit_is)
    (case l8 => first | k_is | kit_is)
    (case c8 => first | k_is | kit_is)
    (case k8 => first | k_is | kit_is)
    (case a9 => first | k_is | kit_is)
    (case l9 => first | k_is | kit_is)
    (case c9 => first | k_is | kit_is)
    (case k9 => first | k_is | kit_is)
    (case a10 => first | k_is | kit_is)
    (case l10 => first | k_is | kit_is)
    (case c10 => first | k_is | kit_is)
    (case k10 => first | k_is | kit_is)
    (case a11 => first | k_is | kit_is)
    (case l11 => first | k_is | kit_is)
    (case c11 => first | k_is | kit_is)
    (case k11 => first | k_is | kit_is)
    (case a12 => first | k_is | kit_is)
    (case l12 => first | k_is | kit_is)
    (case c12 => first | k_is | kit_is)
    (case k12 => first | k_is | kit_is)
    (case a13 => first | k_is | kit_is)
    (case l13 => first | k_is | kit_is)
    (case c13 => first | k_is | kit_is)
    (case k13 => first | k_is | kit_is)
    (case a14 => first | k_is | kit_is)
    (case l14 => first | k_is | kit_is)
    (case c14 => first | k_is | kit_is)
    (case k14 => first | k_is | kit_is)
    (case a15 => first | k_is | kit_is)
    (case l15 => first | k_is | kit_is)
    (case c15 => first | k_is | kit_is)
    (case k15 => first | k_is | kit_is)
    (case a16 => first | k_is | kit_is)
    (case l16 => first | k_is | kit_is)
    (case c16 => first | k_is | kit_is)
    (case k16 => first | k_is | kit_is)
    (case a17 => first | k_is | kit_is)
    (case l17 => first | k_is | kit_is)
    (case c17 => first | k_is | kit_is)
    (case k17 => first | k_is | kit_is)
    (case a18 => first | k_is | kit_is)
    (case l18 => first | k_is | kit_is)
    (case c18 => first | k_is | kit_is)
    (case k18 => first | k_is | kit_is)
    (case a19 => first | k_is | kit_is)
    (case l19 => first | k_is | kit_is)
    (case c19 => first | k_is | kit_is)
    (case k19 => first | k_is | kit_is)
    (case a20 => first | k_is | kit_is)
    (case l20 => first | k_is | kit_is)
    (case c20 => first | k_is | kit_is)
    (case k20 => first | k_is | kit_is)
    (case a21 => first | k_is | kit_is)
    (case l21 => first | k_is | kit_is)
    (case c21 => first | k_is | kit_is)
    (case k21 => first | k_is | kit_is)
    (case a22 => first | k_is | kit_is)
    (case l22 => first | k_is | kit_is)
    (case c22 => first | k_is | kit_is)
    (case k22 => first | k_is | kit_is)
    (case a23 => first | k_is | kit_is)
    (case l23 => first | k_is | kit_is)
    (case c23 => first | k_is | kit_is)
    (case k23 => first | k_is | kit_is)
    (case a24 => first | k_is | kit_is)
    (case l24 => first | k_is | kit_is)
    (case c24 => first | k_is | kit_is)
    (case k24 => first | k_is | kit_is)
    (case a25 => first | k_is | kit_is)
    (case l25 => first | k_is | kit_is)
    (case c25 => first | k_is | kit_is)
    (case k25 => first | k_is | kit_is)
    (case a26 => first | k_is | kit_is)
    (case l26 => first | k_is | kit_is)
    (case c26 => first | k_is | kit_is)
    (case k26 => first | k_is | kit_is)
    (case a27 => first | k_is | kit_is)
    (case l27 => first | k_is | kit_is)
    (case c27 => first | k_is | kit_is)
    (case k27 => first | k_is | kit_is)
    (case a28 => first | k_is | kit_is)
    (case l28 => first | k_is | kit_is)
    (case c28 => first | k_is | kit_is)
    (case k28 => first | k_is | kit_is)
    (case a29 => first | k_is | kit_is)
    (case l29 => first | k_is | kit_is)
    (case c29 => first | k_is | kit_is)
    (case k29 => first | k_is | kit_is)
    (case a30 => first | k_is | kit_is)
    (case l30 => first | k_is | kit_is)
    (case c30 => first | k_is | kit_is)
    (case k30 => first | k_is | kit_is)
    (case a31 => first | k_is | kit_is)
    (case l31 => first | k_is | kit_is)
    (case c31 => first | k_is | kit_is)
    (case k31 => first | k_is | kit_is)
    (case a32 => first | k_is | kit_is)
    (case l32 => first | k_is | kit_is)
    (case c32 => first | k_is | kit_is)
    (case k32 => first | k_is | kit_is)
    (case a33 => first | k_is | kit_is)
    (case i33 => first | k_is | kit_is)
    (case l33 => first | k_is | kit_is)
    (case c33 => first | k_is | kit_is)
    (case k33 => first | k_is | kit_is)
    (case a34 => first | k_is | kit_is)
    (case i34 => first | k_is | kit_is)
    (case l34 => first | k_is | kit_is)
    (case c34 => first | k_is | kit_is)
    (case k34 => first | k_is | kit_is)
    (case a35 => first | k_is | kit_is)
    (case i35 => first | k_is | kit_is)
    (case l35 => first | k_is | kit_is)
    (case c35 => first | k_is | kit_is)
    (case k35 => first | k_is | kit_is)
    (case a36 => first | k_is | kit_is)
    (case i36 => first | k_is | kit_is)
    (case l36 => first | k_is | kit_is)
    (case c36 => first | k_is | kit_is)
    (case k36 => first | k_is | kit_is)
    (case a37 => first | k_is | kit_is)
    (case i37 => first | k_is | kit_is)
    (case l37 => first | k_is | kit_is)
    (case c37 => first | k_is | kit_is)
    (case k37 => first | k_is | kit_is)
    (case a38 => first | k_is | kit_is)
    (case i38 => first | k_is | kit_is)
    (case l38 => first | k_is | kit_is)
    (case c38 => first | k_is | kit_is)
    (case k38 => first | k_is | kit_is)
    (case a39 => first | k_is | kit_is)
    (case i39 => first | k_is | kit_is)
    (case l39 => first | k_is | kit_is)
    (case c39 => first | k_is | kit_is)
    (case k39 => first | k_is | kit_is)
    (case a40 => first | k_is | kit_is)
    (case i40 => first | k_is | kit_is)
    (case l40 => first | k_is | kit_is)
    (case c40 => first | k_is | kit_is)
    (case k40 => first | k_is | kit_is)
    (case a41 => first | k_is | kit_is)
    (case i41 => first | k_is | kit_is)
    (case l41 => first | k_is | kit_is)
    (case c41 => first | k_is | kit_is)
    (case k41 => first | k_is | kit_is)
    (case a42 => first | k_is | kit_is)
    (case i42 => first | k_is | kit_is)
    (case l42 => first | k_is | kit_is)
    (case c42 => first | k_is | kit_is)
    (case k42 => first | k_is | kit_is)
    (case a43 => first | k_is | kit_is)
    (case i43 => first | k_is | kit_is)
    (case l43 => first | k_is | kit_is)
    (case c43 => first | k_is | kit_is)
    (case k43 => first | k_is | kit_is)
    (case a44 => first | k_is | kit_is)
    (case i44 => first | k_is | kit_is)
    (case l44 => first | k_is | kit_is)
    (case c44 => first | k_is | kit_is)
    (case k44 => first | k_is | kit_is)
    (case a45 => first | k_is | kit_is)
    (case i45 => first | k_is | kit_is)
    (case l45 => first | k_is | kit_is)
    (case c45 => first | k_is | kit_is)
    (case k45 => first | k_is | kit_is)
    (case a46 => first | k_is | kit_is)
    (case i46 => first | k_is | kit_is)
    (case l46 => first | k_is | kit_is)
    (case c46 => first | k_is | kit_is)
    (case k46 => first | k_is | kit_is)
    (case a47 => first | k_is | kit_is)
    (case i47 => first | k_is | kit_is)
    (case l47 => first | k_is | kit_is)
    (case c47 => first | k_is | kit_is)
    (case k47 => first | k_is | kit_is)
    (case hn => first | k_is | kit_is)
    (case htk => first | k_is | kit_is)
    (case pgE => first | k_is | kit_is)
    (case hdE => first | k_is | kit_is)
    (case poE => first | k_is | kit_is)
    (case saE => first | k_is | kit_is)
    (case mkE => first | k_is | kit_is)
    (case kcE => first | k_is | kit_is)
    (case haE => first | k_is | kit_is)
    (case hmE => first | k_is | kit_is)
    (case nE1 => first | k_is | kit_is)
    (case nE2 => first | k_is | kit_is)
    (case nE3 => first | k_is | kit_is)
    (case nE4 => first | k_is | kit_is)
    (case nE5 => first | k_is | kit_is)
    (case vE_ends => first | k_is | kit_is)
    (case vE_stages => first | k_is | kit_is)
    (case vE_reserve => first | k_is | kit_is)
    (case vE_caps => first | k_is | kit_is)
    (case pgS => first | k_is | kit_is)
    (case hdS => first | k_is | kit_is)
    (case poS => first | k_is | kit_is)
    (case saS => first | k_is | kit_is)
    (case mkS => first | k_is | kit_is)
    (case kcS => first | k_is | kit_is)
    (case haS => first | k_is | kit_is)
    (case hmS => first | k_is | kit_is)
    (case nS1 => first | k_is | kit_is)
    (case nS2 => first | k_is | kit_is)
    (case nS3 => first | k_is | kit_is)
    (case nS4 => first | k_is | kit_is)
    (case nS5 => first | k_is | kit_is)
    (case nS6 => first | k_is | kit_is)
    (case vS_ends => first | k_is | kit_is)
    (case vS_stages => first | k_is | kit_is)
    (case vS_reserve => first | k_is | kit_is)
    (case vS_caps => first | k_is | kit_is)
    (case qEE => first | k_is | kit_is)
    (case qSE => first | k_is | kit_is)
    (case qSS => first | k_is | kit_is)
    (case qET => first | k_is | kit_is)
    (case qST => first | k_is | kit_is)
    (case uga => first | k_is | kit_is | kernel_rfl)
    (case urd => first | k_is | kit_is | kernel_rfl)
    (case uat => first | k_is | kit_is | kernel_rfl)
    (case uhd => first | k_is | kit_is | kernel_rfl)
    (case y_abs => first | k_is | kit_is)
    (case y_all => first | k_is | kit_is)
    (case y_bool => first | k_is | kit_is)
    (case y_enumerate => first | k_is | kit_is)
    (case y_int => first | k_is | kit_is)
    (case y_isinstance => first | k_is | kit_is)
    (case y_len => first | k_is | kit_is)
    (case y_list => first | k_is | kit_is)
    (case y_max => first | k_is | kit_is)
    (case y_min => first | k_is | kit_is)
    (case y_range => first | k_is | kit_is)
    (case y_reversed => first | k_is | kit_is)
    (case y_sorted => first | k_is | kit_is)
    (case y_str => first | k_is | kit_is)
    (case y_sum => first | k_is | kit_is)
    (case y_tuple => first | k_is | kit_is)
    (case yg_MOST_WEIGHT => first | k_is | kit_is)
    (case yg_MOST_STAGE_ROWS => first | k_is | kit_is)
    (case yg_MOST_WORTH => first | k_is | kit_is)
    (case yg_MOST_STAGES => first | k_is | kit_is)
    (case yg_MOST_ENDS => first | k_is | kit_is)
    (case yg_MOST_PRICE => first | k_is | kit_is)
    (case tb => kernel_rfl); (case ch => kernel_rfl); (case np => kernel_rfl)
