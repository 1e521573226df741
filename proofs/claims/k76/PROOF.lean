import PyProof.Rows.All
import Wide.All
import OpenK.AllK
import Wide.FinOn
import Lean
import PyProof.EqAt
import PyProof.EqKinds
import PyProof.TupleCall
import PyProof.NeKinds
import KE.IntBitsLaws
import KE.KRevIter
import KE.KSortKey
import KE.KLam
import KE.KNestM
import KE.KDictList
import PyProof.ZipIter
import PyProof.Rows.Range3
import PyProof.CollectWalk
import PyProof.ListNew
import PyProof.Rows.TupIter
import PyProof.Draws
import PyProof.EnumFor
import KE.KDictSum
import PyProof.ConsumeWalk
import KE.KUnpack
import PySem.Challenge.RW_lidprice_k76_whole_any_rule_and_its_loss
set_option Elab.async false
set_option linter.all false
set_option maxRecDepth 100000
namespace L2
open PySem PySem.Spec PyProof.Rows
abbrev Key := Sum Int Str
def keyIs : Key -> Value -> Bool
  | .inl k, v => Value.isInt k v
  | .inr x, v => Value.isStrOf x v
def keyH (w : World) : Key -> Int
  | .inl k => hashInt k
  | .inr x => hashStr w x
theorem keyIs_shape : ∀ {k : Key} {v : Value}, keyIs k v = true -> (∃ i t, k = Sum.inl i /\ v = Value.int i t) ∨ (∃ x t, k = Sum.inr x /\ v = Value.str x t)
  | .inl i, v, h => by
    obtain ⟨t, e⟩ := Value.isInt_shape (k := i) (v := v) h
    exact .inl ⟨i, t, rfl, e⟩
  | .inr x, v, h => by
    obtain ⟨t, e⟩ := Value.isStrOf_shape (x := x) (v := v) h
    exact .inr ⟨x, t, rfl, e⟩
theorem keyIs_int (i : Int) (t : Tok) : keyIs (.inl i) (.int i t) = true := by simp [keyIs, Value.isInt]
theorem keyIs_str (x : Str) (t : Tok) : keyIs (.inr x) (.str x t) = true := by simp [keyIs, Value.isStrOf]
theorem key_ll (a b : Int) : decide ((Sum.inl a : Key) = Sum.inl b) = (a == b) := by
  by_cases e : a = b
  · subst e; simp
  · have h : ¬ (Sum.inl a : Key) = Sum.inl b := fun q => e (Sum.inl.inj q)
    rw [decide_eq_false h]
    exact (beq_eq_false_iff_ne.mpr e).symm
theorem key_rr (a b : Str) : decide ((Sum.inr a : Key) = Sum.inr b) = decide (a = b) := by
  by_cases e : a = b
  · subst e; simp
  · have h : ¬ (Sum.inr a : Key) = Sum.inr b := fun q => e (Sum.inr.inj q)
    rw [decide_eq_false h, decide_eq_false e]
theorem key_lr (a : Int) (b : Str) : decide ((Sum.inl a : Key) = Sum.inr b) = false := decide_eq_false (fun q => nomatch q)
theorem key_rl (a : Str) (b : Int) : decide ((Sum.inr a : Key) = Sum.inl b) = false := decide_eq_false (fun q => nomatch q)
def mixKind (prog : Program) (w : World) : PySem.KeyKind prog w Key where
  is := keyIs
  hash := keyH w
  inj := fun v a b ha hb => by
    rcases keyIs_shape ha with ⟨i, t, rfl, rfl⟩ | ⟨x, t, rfl, rfl⟩
    · rcases keyIs_shape hb with ⟨j, u, rfl, e⟩ | ⟨y, u, rfl, e⟩
      · injection e with e1 _; rw [e1]
      · exact nomatch e
    · rcases keyIs_shape hb with ⟨j, u, rfl, e⟩ | ⟨y, u, rfl, e⟩
      · exact nomatch e
      · injection e with e1 _; rw [e1]
  byValue := fun k v h => by
    rcases keyIs_shape h with ⟨i, t, rfl, rfl⟩ | ⟨x, t, rfl, rfl⟩ <;> rfl
  pyHash := fun hv h => by
    rcases keyIs_shape hv with ⟨i, t, rfl, rfl⟩ | ⟨x, t, rfl, rfl⟩
    · exact wpAny_pyHash_int h
    · exact wpAny_pyHash_str h
  eqBool := fun hu hv h => by
    rcases keyIs_shape hu with ⟨i, t, rfl, rfl⟩ | ⟨x, t, rfl, rfl⟩
    · rcases keyIs_shape hv with ⟨j, u, rfl, rfl⟩ | ⟨y, u, rfl, rfl⟩
      · rw [key_ll] at h; exact wpAny_eqBool_int h
      · rw [key_lr] at h; exact SeqAt.EqAt.int_str i t y u _ _ _ _ h
    · rcases keyIs_shape hv with ⟨j, u, rfl, rfl⟩ | ⟨y, u, rfl, rfl⟩
      · rw [key_rl] at h; exact SeqAt.EqAt.str_int x t j u _ _ _ _ h
      · rw [key_rr] at h; exact wpAny_eqBool_str h
  «strs» := fun k x t v h => by
    rcases keyIs_shape h with ⟨i, u, rfl, e⟩ | ⟨y, u, rfl, e⟩
    · exact nomatch e
    · injection e with e1 _
      subst e1
      cases v <;> rfl
theorem mixKind_int (prog : Program) (w : World) (i : Int) (t : Tok) : (mixKind prog w).is (.inl i) (.int i t) = true := keyIs_int i t
theorem mixKind_str (prog : Program) (w : World) (x : Str) (t : Tok) : (mixKind prog w).is (.inr x) (.str x t) = true := keyIs_str x t
end L2
namespace L2
open PySem PySem.Spec PyProof.Rows
inductive V where
  | non | bl (b : Bool) | int (i : Int) | str (x : Str) | byt (b : Array UInt8) | flt (b : UInt64) | ref (a : Addr) | ty (n : String)
  deriving DecidableEq
def RelV : V -> Value -> Prop
  | .non, u => u = Value.none
  | .bl b, u => u = Value.bool b
  | .int i, u => ∃ t, u = Value.int i t
  | .str x, u => ∃ t, u = Value.str x t
  | .byt b, u => ∃ t, u = Value.bytes b t
  | .flt b, u => ∃ t, u = Value.float b t
  | .ref a, u => u = Value.ref a
  | .ty n, u => u = Value.type n
abbrev Vals : List V -> List Value -> Prop := Paired RelV
theorem Vals.length {xs : List V} {us : List Value} (r : Vals xs us) : xs.length = us.length := Paired.length r
theorem Vals.get : ∀ {xs : List V} {us : List Value} {i : Nat} {x : V}, Vals xs us -> xs[i]? = some x -> ∃ u, us[i]? = some u /\ RelV x u
  | _, _, _, _, .nil, e => by simp at e
  | _, _, 0, _, .cons r _, e => by simp at e; subst e; exact ⟨_, rfl, r⟩
  | _, _, i + 1, x, .cons _ t, e => by
    obtain ⟨u, h1, h2⟩ := Vals.get (i := i) (x := x) t (by simpa using e)
    exact ⟨u, by simpa using h1, h2⟩
theorem Vals.set {x : V} {u : Value} (r : RelV x u) : ∀ {xs : List V} {us : List Value} (i : Nat), Vals xs us -> Vals (xs.set i x) (us.set i u)
  | _, _, _, .nil => .nil
  | _, _, 0, .cons _ t => .cons r t
  | _, _, i + 1, .cons q t => .cons q (Vals.set r i t)
theorem Vals.append : ∀ {xs ys : List V} {us ws : List Value}, Vals xs us -> Vals ys ws -> Vals (xs ++ ys) (us ++ ws)
  | _, _, _, _, .nil, s => s
  | _, _, _, _, .cons r t, s => .cons r (Vals.append t s)
theorem Vals.take : ∀ {xs : List V} {us : List Value} (n : Nat), Vals xs us -> Vals (xs.take n) (us.take n)
  | _, _, 0, _ => .nil
  | _, _, _ + 1, .nil => .nil
  | _, _, n + 1, .cons r t => .cons r (Vals.take n t)
theorem Vals.drop : ∀ {xs : List V} {us : List Value} (n : Nat), Vals xs us -> Vals (xs.drop n) (us.drop n)
  | _, _, 0, r => r
  | _, _, _ + 1, .nil => .nil
  | _, _, n + 1, .cons _ t => Vals.drop n t
theorem Vals.none_of : ∀ {xs : List V} {us : List Value} {i : Nat}, Vals xs us -> xs[i]? = none -> us[i]? = none := fun {xs us i} r e => by
  have h1 := r.length
  have h2 : xs.length <= i := List.getElem?_eq_none_iff.mp e
  exact List.getElem?_eq_none_iff.mpr (by omega)
def RelO : Option V -> Option Value -> Prop
  | some v, some u => RelV v u
  | none, none => True
  | _, _ => False
def KV {κ : Type} : List (κ × V) -> List (κ × Value) -> Prop := Paired fun (p : κ × V) (q : κ × Value) => p.1 = q.1 /\ RelV p.2 q.2
def kV : Key -> V
  | .inl i => .int i
  | .inr x => .str x
inductive HO where
  | lst (xs : List V)
  | tup (xs : List V)
  | dK (kvs : List (Key × V)) | dT (kvs : List (List Key × V))
  | set (S : Int -> Bool) (n : Nat)
  | ins (C dx : Addr) (fs : List (Str × V))
  | own (x : Addr)
  | xd (fs : List (Str × V))
  | met (f x : Addr)
  | rng (lo hi : Int)
  | frz (o : Obj) (u : HO)
  | tbl (ps : Array Value)
  | ext (φ : Heap -> Prop)
abbrev Hp := Addr -> Option HO
def upd (H : Hp) (a : Addr) (o : HO) : Hp := fun b => if b = a then some o else H b
theorem upd_same {H : Hp} {a : Addr} {o : HO} : upd H a o a = some o := by unfold upd; rw [if_pos rfl]
theorem upd_ne {H : Hp} {a b : Addr} {o : HO} (h : b ≠ a) : upd H a o b = H b := by unfold upd; rw [if_neg h]
theorem ne_of {H : Hp} {a b : Addr} {o u : HO} (h : H a = some o) (h' : H b = some u) (d : o ≠ u) : a ≠ b := by
  intro e; subst e; rw [h] at h'; exact d (Option.some.inj h')
theorem ne_of_none {H : Hp} {a b : Addr} {o : HO} (h : H a = some o) (h' : H b = none) : a ≠ b := by
  intro e; subst e; rw [h] at h'; cases h'
section
variable (P : Program) (w : World)
def ObjOk (H : Hp) (h : Heap) (a : Addr) : HO -> Prop
  | .lst xs => xs.length <= sizeLine /\ ∃ (its : List Value) (n : Nat), Vals xs its /\ h.get? a = some { cls := .type "list", data := .seq its.toArray n }
  | .tup xs => xs.length <= sizeLine /\ ∃ its : List Value, Vals xs its /\ IsTup h a its.toArray
  | .dK kvs => kvs.length <= sizeLine /\ (a == sysModules) = false /\ ∃ vs, KV kvs vs /\ h.DictOf (mixKind P w) a vs
  | .dT kvs => kvs.length <= sizeLine /\ (a == sysModules) = false /\ ∃ xs : List (List Key × Addr × Value),
      Paired (fun (p : List Key × V) (q : List Key × Addr × Value) => p.1 = q.1 /\ H q.2.1 = some (.tup (p.1.map kV)) /\ RelV p.2 q.2.2) kvs xs ∧
      ∃ o es ep, h.get? a = some o /\ o.ExactDict /\ o.data = .dict es ep /\ es.toList = xs.map (entryOfKey (tupleKind (mixKind P w))) /\ (xs.map (·.1)).Nodup
  | .set S n => h.SetOf (intKind P w) a S n
  | .ins C dx fs => H dx = some (.own a) /\ fs.length <= 1000 /\ dx ≠ a /\ h.get? a = some (PySem.W.instObj C dx) ∧
      ∃ mA, h.Ns1 dx mA /\ (∀ f, RelO (fs.lookup f) (mA f)) /\ PySem.Within mA (fs.map (·.1))
  | .own _ => ∃ o, h.get? a = some o
  | .xd fs => ∃ mA, h.Ns1 a mA /\ ∀ f, RelO (fs.lookup f) (mA f)
  | .rng lo hi => ∃ t u v, h.get? a = some { cls := .type "range", data := .fields #[.int lo t, .int hi u, .int 1 v] }
  | .frz o u => h.get? a = some o /\ ObjOk H h a u
  | .tbl ps => h.get? a = some { cls := .none, data := .fields ps }
  | .met f x => h.get? a = some (PySem.W.methodObj (.ref f) (.ref x))
  | .ext φ => φ h /\ (∃ o, h.get? a = some o) /\ ∀ h1 h2 : Heap, φ h1 -> (∀ o, h1.get? a = some o -> h2.get? a = some o) -> φ h2
def HOk (H : Hp) (h : Heap) : Prop := ∀ a o, H a = some o -> ObjOk P w H h a o
end
section
variable {P : Program} {w : World} {H H' : Hp} {h h' : Heap} {a : Addr} {o : HO}
theorem ObjOk.lt (x : ObjOk P w H h a o) : a < h.objs.size := by
  cases o with
  | lst xs => obtain ⟨_, _, _, _, e⟩ := x; exact Heap.lt_size e
  | tup xs => obtain ⟨_, _, _, p⟩ := x; exact p.lt
  | dK kvs => obtain ⟨_, _, _, _, o, _, _, e, _⟩ := x; exact Heap.lt_size e
  | dT kvs => obtain ⟨_, _, _, _, o, _, _, e, _⟩ := x; exact Heap.lt_size e
  | set S n => obtain ⟨o, _, _, _, e, _⟩ := x; exact Heap.lt_size e
  | ins C dx fs => obtain ⟨_, _, _, e, _⟩ := x; exact Heap.lt_size e
  | own y => obtain ⟨_, e⟩ := x; exact Heap.lt_size e
  | xd fs => obtain ⟨_, ⟨_, _, _, e, _⟩, _⟩ := x; exact Heap.lt_size e
  | rng lo hi => obtain ⟨_, _, _, e⟩ := x; exact Heap.lt_size e
  | frz ob u => obtain ⟨e, _⟩ := x; exact Heap.lt_size e
  | tbl ps => exact Heap.lt_size (show h.get? a = some _ from x)
  | met f y => exact Heap.lt_size (show h.get? a = some _ from x)
  | ext φ => obtain ⟨_, ⟨_, e⟩, _⟩ := x; exact Heap.lt_size e
theorem Paired.mapP {α β : Type} {F G : α -> β -> Prop} : ∀ {l₁ : List α} {l₂ : List β}, Paired F l₁ l₂ -> (∀ a b, F a b -> G a b) -> Paired G l₁ l₂
  | _, _, .nil, _ => .nil
  | _, _, .cons r t, f => .cons (f _ _ r) (Paired.mapP t f)
theorem ObjOk.stay (x : ObjOk P w H h a o) (k : ∀ b u, (b = a ∨ H b = some (.own a)) -> h.get? b = some u -> h'.get? b = some u)
    (ho : ∀ b, H b = some (.own a) -> H' b = some (.own a)) (ht : ∀ b xs, H b = some (.tup xs) -> H' b = some (.tup xs)) : ObjOk P w H' h' a o := by
  induction o with
  | lst xs => obtain ⟨z, its, n, r, e⟩ := x; exact ⟨z, its, n, r, k _ _ (.inl rfl) e⟩
  | tup xs => obtain ⟨z, its, r, ob, e, c⟩ := x; exact ⟨z, its, r, ob, k _ _ (.inl rfl) e, c⟩
  | dK kvs => obtain ⟨z, y, vs, r, ob, es, ep, e, c⟩ := x; exact ⟨z, y, vs, r, ob, es, ep, k _ _ (.inl rfl) e, c⟩
  | dT kvs =>
    obtain ⟨z, y, xs, r, ob, es, ep, e, c⟩ := x
    exact ⟨z, y, xs, Paired.mapP r fun p q z => ⟨z.1, ht _ _ z.2.1, z.2.2⟩, ob, es, ep, k _ _ (.inl rfl) e, c⟩
  | set S n => obtain ⟨ob, es, ep, t, e, c⟩ := x; exact ⟨ob, es, ep, t, k _ _ (.inl rfl) e, c⟩
  | ins C dx fs =>
    obtain ⟨d, z, ne, e, mA, ⟨od, es, ep, e2, c⟩, r⟩ := x
    exact ⟨ho _ d, z, ne, k _ _ (.inl rfl) e, mA, ⟨od, es, ep, k _ _ (.inr d) e2, c⟩, r⟩
  | own y => obtain ⟨ob, e⟩ := x; exact ⟨ob, k _ _ (.inl rfl) e⟩
  | xd fs => obtain ⟨mA, ⟨od, es, ep, e, c⟩, r⟩ := x; exact ⟨mA, ⟨od, es, ep, k _ _ (.inl rfl) e, c⟩, r⟩
  | rng lo hi => obtain ⟨t, u, v, e⟩ := x; exact ⟨t, u, v, k _ _ (.inl rfl) e⟩
  | frz ob u ih => obtain ⟨e, q⟩ := x; exact ⟨k _ _ (.inl rfl) e, ih q⟩
  | tbl ps =>
    have e : h.get? a = some { cls := .none, data := .fields ps } := x
    show h'.get? a = some { cls := .none, data := .fields ps }
    exact k a _ (.inl rfl) e
  | met f y =>
    have e : h.get? a = some (PySem.W.methodObj (.ref f) (.ref y)) := x
    show h'.get? a = some (PySem.W.methodObj (.ref f) (.ref y))
    exact k a _ (.inl rfl) e
  | ext φ => obtain ⟨p, ⟨o, e⟩, st⟩ := x; exact ⟨st _ _ p fun o q => k _ _ (.inl rfl) q, ⟨o, k _ _ (.inl rfl) e⟩, st⟩
theorem HOk.lt (x : HOk P w H h) (e : H a = some o) : a < h.objs.size := (x a o e).lt
theorem HOk.fresh (x : HOk P w H h) (e : h.objs.size <= a) : H a = none := by
  cases q : H a with
  | none => rfl
  | some u => exact absurd (Nat.lt_of_lt_of_le (x.lt q) e) (Nat.lt_irrefl _)
theorem HOk.kept (x : HOk P w H h) (k : ∀ b u, h.get? b = some u -> h'.get? b = some u) : HOk P w H h' := fun a o e =>
  (x a o e).stay (fun b u _ q => k b u q) (fun _ q => q) fun _ _ q => q
theorem HOk.laid (x : HOk P w H h) (k : ∀ b u, h.get? b = some u -> h'.get? b = some u) (hp : h.objs.size <= a) (new : ObjOk P w (upd H a o) h' a o) : HOk P w (upd H a o) h' := fun b u e => by
  have hn := x.fresh hp
  by_cases hb : b = a
  · subst hb; rw [upd_same] at e; cases e; exact new
  · rw [upd_ne hb] at e
    exact (x b u e).stay (fun c v _ q => k c v q) (fun c q => by rw [upd_ne (ne_of_none q hn)]; exact q) fun c xs q => by rw [upd_ne (ne_of_none q hn)]; exact q
end
def Rd (H : Hp) (a : Addr) (u : HO) : Prop := H a = some u ∨ ∃ o, H a = some (.frz o u)
theorem Rd.of {H : Hp} {a : Addr} {u : HO} (h : H a = some u) : Rd H a u := .inl h
theorem Rd.ok {P : Program} {w : World} {H : Hp} {h : Heap} {a : Addr} {u : HO} (r : Rd H a u) (x : HOk P w H h) : ObjOk P w H h a u := by
  rcases r with r | ⟨o, r⟩
  · exact x a u r
  · obtain ⟨_, q⟩ := x a _ r
    exact q
def Mut : Option HO -> Prop
  | some (.lst _) => True
  | some (.dK _) => True
  | some (.dT _) => True
  | some (.set _ _) => True
  | some (.ins _ _ _) => True
  | some (.ext _) => True
  | _ => False
section
variable {P : Program} {w : World} {H : Hp} {h h' : Heap} {x e : Addr} {o' : HO}
theorem HOk.write (ok : HOk P w H h) (mu : Mut (H x)) (he : e = x ∨ H e = some (.own x)) (k : ∀ b u, b ≠ e -> h.get? b = some u -> h'.get? b = some u) (heo : ∃ u, h'.get? e = some u)
    (new : ObjOk P w (upd H x o') h' x o') : HOk P w (upd H x o') h' := fun b u q => by
  have nown : ∀ c y, H c = some (.own y) -> c ≠ x := fun c y r z => by subst z; rw [r] at mu; exact mu
  have ntup : ∀ c xs, H c = some (.tup xs) -> c ≠ x := fun c xs r z => by subst z; rw [r] at mu; exact mu
  by_cases hb : b = x
  · subst hb; rw [upd_same] at q; cases q; exact new
  · rw [upd_ne hb] at q
    by_cases hbe : b = e
    · have q' : H b = some (.own x) := by
        rcases he with z | z
        · exact absurd (hbe.trans z) hb
        · rw [hbe]; exact z
      rw [q] at q'; cases q'
      obtain ⟨v, hv⟩ := heo
      exact ⟨v, by rw [hbe]; exact hv⟩
    · refine (ok b u q).stay (fun c v hc r => k c v ?_ r) (fun c r => by rw [upd_ne (nown c b r)]; exact r) fun c xs r => by rw [upd_ne (ntup c xs r)]; exact r
      rcases hc with rfl | hc
      · exact hbe
      · rintro rfl
        rcases he with z | z
        · exact nown c b hc z
        · rw [hc] at z; cases z; exact hb rfl
end
structure Un (fs ex : List Addr) (H H' : Hp) (h h' : Heap) : Prop where
  keep : ∀ b o, h.get? b = some o -> H b = none -> b ∉ fs -> b ∉ ex -> h'.get? b = some o
  slot : ∀ b o, h.get? b = some o -> H b = none -> b ∈ fs -> b ∉ ex -> ∃ sl, h'.get? b = some { o with slots := sl }
  free : ∀ b o, h.get? b = some o -> H b = none -> b ∉ ex -> H' b = none
  there : ∀ b o, h.get? b = some o -> b ∉ ex -> ∃ o', h'.get? b = some o'
  tups : ∀ b xs, H b = some (.tup xs) -> H' b = some (.tup xs)
  frzs : ∀ b o u, H b = some (.frz o u) -> H' b = some (.frz o u)
  tbls : ∀ b ps, H b = some (.tbl ps) -> ∃ more, H' b = some (.tbl (ps ++ more))
section
variable {fs fs' ex ex' : List Addr} {H H1 H2 : Hp} {h h1 h2 h' : Heap} {a x e : Addr} {o : HO}
theorem Un.any (u : Un fs ex H H1 h h1) {b : Addr} {ob : Obj} (q : h.get? b = some ob) (n : H b = none) (hx : b ∉ ex) : ∃ sl, h1.get? b = some { ob with slots := sl } := by
  by_cases hb : b ∈ fs
  · exact u.slot b ob q n hb hx
  · exact ⟨ob.slots, u.keep b ob q n hb hx⟩
theorem Un.trans (a : Un fs ex H H1 h h1) (b : Un fs ex H1 H2 h1 h2) : Un fs ex H H2 h h2 where
  keep := fun c ob q n hc hx => b.keep c ob (a.keep c ob q n hc hx) (a.free c ob q n hx) hc hx
  slot := fun c ob q n hc hx => by
    obtain ⟨sl, e1⟩ := a.slot c ob q n hc hx
    obtain ⟨sl', e2⟩ := b.slot c _ e1 (a.free c ob q n hx) hc hx
    exact ⟨sl', e2⟩
  free := fun c ob q n hx => by
    obtain ⟨o', e1⟩ := a.there c ob q hx
    exact b.free c o' e1 (a.free c ob q n hx) hx
  there := fun c ob q hx => by
    obtain ⟨o', e1⟩ := a.there c ob q hx
    exact b.there c o' e1 hx
  tups := fun c xs q => b.tups c xs (a.tups c xs q)
  frzs := fun c ob xs q => b.frzs c ob xs (a.frzs c ob xs q)
  tbls := fun c ps q => by
    obtain ⟨m1, e1⟩ := a.tbls c ps q
    obtain ⟨m2, e2⟩ := b.tbls c _ e1
    exact ⟨m1 ++ m2, by rw [e2, Array.append_assoc]⟩
theorem Un.kept (k : ∀ b u, h.get? b = some u -> h'.get? b = some u) : Un fs ex H H h h' :=
  ⟨fun b ob q _ _ _ => k b ob q, fun b ob q _ _ _ => ⟨ob.slots, k b ob q⟩, fun _ _ _ n _ => n, fun b ob q _ => ⟨ob, k b ob q⟩, fun _ _ q => q, fun _ _ _ q => q, fun _ ps q => ⟨#[], by rw [q]; simp⟩⟩
theorem Un.refl : Un fs ex H H h h := Un.kept fun _ _ q => q
theorem Un.laid (k : ∀ b u, h.get? b = some u -> h'.get? b = some u) (hp : h.objs.size <= a) (hn : H a = none) : Un fs ex H (upd H a o) h h' where
  keep := fun b u q _ _ _ => k b u q
  slot := fun b u q _ _ _ => ⟨u.slots, k b u q⟩
  free := fun b u q n _ => by rw [upd_ne (Nat.ne_of_lt (Nat.lt_of_lt_of_le (Heap.lt_size q) hp))]; exact n
  there := fun b u q _ => ⟨u, k b u q⟩
  tups := fun b xs q => by rw [upd_ne (ne_of_none q hn)]; exact q
  frzs := fun b u xs q => by rw [upd_ne (ne_of_none q hn)]; exact q
  tbls := fun b ps q => ⟨#[], by rw [upd_ne (ne_of_none q hn), q]; simp⟩
theorem Un.write (mu : Mut (H x)) (he : e = x ∨ H e = some (.own x)) (k : ∀ b u, b ≠ e -> h.get? b = some u -> h'.get? b = some u) (heo : ∃ u, h'.get? e = some u) : Un fs ex H (upd H x o) h h' := by
  have hx : ∀ b, H b = none -> b ≠ x := fun b n z => by subst z; rw [n] at mu; exact mu
  have hb : ∀ b, H b = none -> b ≠ e := fun b n z => by
    subst z
    rcases he with r | r
    · exact hx b n r
    · rw [n] at r; cases r
  have hm : ∀ b u, H b = some u -> ¬ Mut (some u) -> b ≠ x := fun b u q nm z => by subst z; rw [q] at mu; exact nm mu
  refine ⟨fun b u q n _ _ => k b u (hb b n) q, fun b u q n _ _ => ⟨u.slots, k b u (hb b n) q⟩, fun b u q n _ => by rw [upd_ne (hx b n)]; exact n, fun b u q _ => ?_,
    fun b xs q => by rw [upd_ne (hm b _ q fun z => z)]; exact q, fun b u xs q => by rw [upd_ne (hm b _ q fun z => z)]; exact q, fun b ps q => ⟨#[], by rw [upd_ne (hm b _ q fun z => z), q]; simp⟩⟩
  by_cases hbe : b = e
  · subst hbe; exact heo
  · exact ⟨u, k b u hbe q⟩
theorem Un.mono (u : Un fs ex H H1 h h1) (hs : ∀ b ∈ fs, b ∈ fs') (hx : ∀ b ∈ ex, b ∈ ex') : Un fs' ex' H H1 h h1 :=
  ⟨fun b ob q n hb he => u.keep b ob q n (fun z => hb (hs b z)) fun z => he (hx b z), fun _ _ q n _ he => u.any q n fun z => he (hx _ z), fun b ob q n he => u.free b ob q n fun z => he (hx b z), fun b ob q he => u.there b ob q fun z => he (hx b z), u.tups, u.frzs, u.tbls⟩
end
def trk (h : Heap) (H : Hp) : List Addr := (List.range h.objs.size).filter fun a => (H a).isSome
def hidT (h : Heap) (H : Hp) : Heap := PySem.W.hideAll h (trk h H)
theorem hidT_size (h : Heap) (H : Hp) : (hidT h H).objs.size = h.objs.size := PySem.W.hideAll_size _ _
theorem hidT_get {h : Heap} {H : Hp} {b : Addr} {o : Obj} (e : h.get? b = some o) (n : H b = none) : (hidT h H).get? b = some o :=
  PySem.W.hideAll_get _ e fun hm => by
    have q : (H b).isSome = true := (List.mem_filter.mp hm).2
    rw [n] at q; simp at q
theorem of_hidT {h : Heap} {H : Hp} {b : Addr} {o : Obj} (e : (hidT h H).get? b = some o) : h.get? b = some o /\ H b = none := by
  have e' : h.get? b = some o := PySem.W.of_hideAll (trk h H) e
  refine ⟨e', ?_⟩
  cases q : H b with
  | none => rfl
  | some x =>
    have hm : b ∈ trk h H := List.mem_filter.mpr ⟨List.mem_range.mpr (Heap.lt_size e'), by simp [q]⟩
    have z : (hidT h H).get? b = none := PySem.W.hideAll_none (trk h H) hm
    rw [z] at e; cases e
def allNews (g h : Heap) (L : Addr) : List (Addr × Obj) := (List.range h.objs.size).filterMap fun a => if a = L ∨ (g.get? a).isSome = true then none else (h.get? a).map fun o => (a, o)
def rest (g h : Heap) (L d : Addr) : List (Addr × Obj) := (allNews g h L).filter fun p => decide (p.1 ≠ d)
end L2
namespace L2
open PySem PySem.Spec PyProof.Rows
structure Mod (K : PySem.W.Frag) (mg : Str -> Option Value) (base : Heap) : Prop where
  kin : K.In base
  glob : base.Ns mainGlobals mg
  blt : ∃ mb, base.Ns builtinsNs mb /\ ∀ x : Str, x ≠ "__name__" -> mb x = bootBuiltins x
  nolimit : base.NoLimit
structure Cx where
  prog : Program
  w : World
  K : PySem.W.Frag
  mg : Str -> Option Value
  base : Heap
  A : Around
  N : List Str
  s₀ : Shared
  H₀ : Hp
  env : Env
  outer : List Env
  stack : List Env
  ex : List Addr
  fn : Str -> Bool
  calm : Bool
  pn : List (Addr × Obj)
  xe : Value -> Shared -> Prop
def frs (l : List Env) : List Addr := l.filterMap (·.frame)
abbrev Cx.fs (X : Cx) : List Addr := frs X.outer
def Vis (sc : Scope) (x : Str) : Prop := sc.names.lookup x = some .local ∨ sc.names.lookup x = some .cell ∨ sc.names.lookup x = some .free
def Loc (sc : Scope) (x : Str) : Prop := sc.names.lookup x = some .local ∨ sc.names.lookup x = some .cell
def Look (env : Env) (h : Heap) (m : Str -> Option Value) (x : Str) (u : Value) : Prop :=
  (env.kindOf x = some .local /\ m x = some u) ∨ ((env.kindOf x = some .cell ∨ env.kindOf x = some .free) /\ ∃ c, env.cells.lookup x = some c /\ h.IsCell c (some u))
structure Cx.Ok (X : Cx) : Prop where
  mod : Mod X.K X.mg X.base
  kind : X.env.scope.kind = .function
  glob : X.env.globals = mainGlobals
  blt : X.env.builtins = builtinsNs
  above : X.s₀.heap.objs.size <= X.env.locals
  inj : ∀ x y c, X.env.cells.lookup x = some c -> X.env.cells.lookup y = some c -> x = y
  has : ∀ x, (X.env.kindOf x = some .cell ∨ X.env.kindOf x = some .free) -> ∃ c, X.env.cells.lookup x = some c
  cab : ∀ x c, X.fn x = true -> X.env.cells.lookup x = some c -> X.s₀.heap.objs.size <= c
  hd : X.calm = true -> X.A.handled = none
  frames : X.A.frames = some X.stack
  stk : X.stack = X.outer ∨ (X.stack = X.env :: X.outer /\ X.env.frame = some X.env.locals)
  exf : ∀ b ∈ X.ex, b ≠ X.env.locals /\ ∀ x c, X.env.cells.lookup x = some c -> c ≠ b
  bs : ∀ b o, X.base.get? b = some o -> X.s₀.heap.get? b = some o /\ X.H₀ b = none
  bsz : X.base.objs.size <= X.s₀.heap.objs.size
  noex : ∀ b o, X.base.get? b = some o -> b ∉ X.ex
  exfs : ∀ b ∈ X.ex, b ∉ X.fs
  funs : X.s₀.heap.FunFrames X.base X.outer
  frf : ∀ b ∈ X.fs, X.H₀ b = none
structure Inv (X : Cx) (pins : List (Addr × Obj)) (σ : List (Option V)) (H : Hp) (s : Shared) : Prop where
  ok : X.Ok
  os : s.os = X.s₀.os
  bare : AllBare s.gens
  base : Un X.fs X.ex X.H₀ H X.s₀.heap s.heap
  loc : ∃ m, s.heap.Ns X.env.locals m /\ ∀ (i : Nat) (x : Str) (v : V), X.N[i]? = some x -> σ[i]? = some (some v) -> Vis X.env.scope x -> ∃ u, RelV v u /\ Look X.env s.heap m x u
  cell : ∀ x c, X.env.cells.lookup x = some c -> ∃ v, s.heap.IsCell c v
  free : H X.env.locals = none
  freeC : ∀ x c, X.env.cells.lookup x = some c -> H c = none
  pin : ∀ p ∈ X.pn ++ pins, s.heap.get? p.1 = some p.2 /\ H p.1 = none /\ p.1 ≠ X.env.locals /\ p.1 ∉ X.fs /\ ∀ v, p.2.data ≠ .cell v
  hok : HOk X.prog X.w H s.heap
  len : σ.length = X.N.length
section
variable {X : Cx} {pins : List (Addr × Obj)} {σ : List (Option V)} {H H' : Hp} {s : Shared} {h' : Heap}
theorem Cx.Ok.nofr (ok : X.Ok) {b : Addr} {o : Obj} (e : X.base.get? b = some o) : b ∉ X.fs := fun hb => by
  have := (ok.funs.mem hb).1
  rw [e] at this; cases this
theorem Inv.bs (I : Inv X pins σ H s) : ∀ b o, X.base.get? b = some o -> s.heap.get? b = some o /\ H b = none := fun b o e =>
  ⟨I.base.keep b o (I.ok.bs b o e).1 (I.ok.bs b o e).2 (I.ok.nofr e) (I.ok.noex b o e), I.base.free b o (I.ok.bs b o e).1 (I.ok.bs b o e).2 (I.ok.noex b o e)⟩
theorem Inv.bk (I : Inv X pins σ H s) : ∀ b o, X.base.get? b = some o -> s.heap.get? b = some o := fun b o e => (I.bs b o e).1
theorem Inv.mod (I : Inv X pins σ H s) : Mod X.K X.mg X.base := I.ok.mod
theorem Inv.kIn (I : Inv X pins σ H s) : X.K.In s.heap := I.ok.mod.kin.keeps I.bk
theorem Inv.nolimit (I : Inv X pins σ H s) : s.heap.NoLimit := I.ok.mod.nolimit.keeps I.bk
theorem Inv.fr (I : Inv X pins σ H s) : ∃ m, Fr X.base X.env.locals s.heap m :=
  let ⟨m, hn, _⟩ := I.loc
  ⟨m, hn, I.bk, Nat.le_trans I.ok.bsz I.ok.above⟩
theorem Inv.lt (I : Inv X pins σ H s) : X.env.locals < s.heap.objs.size := let ⟨_, hn, _⟩ := I.loc; hn.lt
theorem Inv.sz (I : Inv X pins σ H s) : X.s₀.heap.objs.size <= s.heap.objs.size := Nat.le_trans I.ok.above (Nat.le_of_lt I.lt)
theorem Inv.nofs (I : Inv X pins σ H s) {a : Addr} (h : s.heap.objs.size <= a) : a ∉ X.fs := fun hb => by
  obtain ⟨_, o, ho, _⟩ := I.ok.funs.mem hb
  exact absurd (Nat.lt_of_lt_of_le (Heap.lt_size ho) (Nat.le_trans I.sz h)) (Nat.lt_irrefl _)
theorem Inv.cne (I : Inv X pins σ H s) : ∀ x c, X.env.cells.lookup x = some c -> c ≠ X.env.locals := fun x c e z => by
  obtain ⟨v, o, ho, hd⟩ := I.cell x c e
  obtain ⟨m, ⟨o', es, ep, ho', hd', _⟩, _⟩ := I.loc
  rw [z, ho'] at ho; cases ho; rw [hd'] at hd; cases hd
theorem Inv.funs (I : Inv X pins σ H s) : s.heap.FunFrames X.base X.outer := by
  have all : ∀ (l : List Env), (∀ b ∈ frs l, b ∈ X.fs) -> X.s₀.heap.FunFrames X.base l -> s.heap.FunFrames X.base l := by
    intro l
    induction l with
    | nil => intro _ _; trivial
    | cons env r ih =>
      intro hs hl
      obtain ⟨hk, ⟨L, o, hf, hn, ho, hd⟩, hr⟩ := hl
      have hL : L ∈ X.fs := hs L (by unfold frs; rw [List.filterMap_cons, hf]; exact List.mem_cons_self)
      obtain ⟨sl, e⟩ := I.base.slot L o ho (I.ok.frf L hL) hL fun z => I.ok.exfs L z hL
      exact ⟨hk, ⟨L, _, hf, hn, e, hd⟩, ih (fun b hb => hs b (by unfold frs; rw [List.filterMap_cons, hf]; exact List.mem_cons_of_mem _ hb)) hr⟩
  exact all X.outer (fun _ hb => hb) I.ok.funs
theorem Inv.stack (I : Inv X pins σ H s) : s.heap.FunFrames X.base X.stack := by
  rcases I.ok.stk with e | ⟨e, hf⟩
  · rw [e]; exact I.funs
  · rw [e]
    obtain ⟨m, hn, _⟩ := I.loc
    refine .cons (by rw [I.ok.kind]; decide) hf hn ?_ I.funs
    exact Heap.get?_none_of_le (Nat.le_trans I.ok.bsz I.ok.above)
theorem Inv.stkSub (I : Inv X pins σ H s) : ∀ b ∈ frs X.stack, b ∈ X.env.locals :: X.fs := fun b hb => by
  rcases I.ok.stk with e | ⟨e, hf⟩
  · rw [e] at hb; exact List.mem_cons_of_mem _ hb
  · rw [e] at hb
    unfold frs at hb
    rw [List.filterMap_cons, hf] at hb
    exact hb
theorem Inv.stkFree (I : Inv X pins σ H s) : ∀ b ∈ frs X.stack, H b = none := fun b hb => by
  rcases List.mem_cons.mp (I.stkSub b hb) with e | hb
  · rw [e]; exact I.free
  · obtain ⟨_, o, ho, _⟩ := I.ok.funs.mem hb
    exact I.base.free b o ho (I.ok.frf b hb) fun z => I.ok.exfs b z hb
theorem Inv.step {g' : Array GenState} {t' : Nat} {d' : Drawn} {ch : List Addr} (I : Inv X pins σ H s)
    (hch : ∀ b ∈ ch, (b ∈ X.ex ∨ X.s₀.heap.objs.size <= b) /\ b ≠ X.env.locals /\ (∀ x c, X.env.cells.lookup x = some c -> c ≠ b) /\ ∀ p ∈ X.pn ++ pins, p.1 ≠ b)
    (keep : ∀ b o, b ≠ X.env.locals -> b ∉ X.fs -> b ∉ ch -> s.heap.get? b = some o -> H b = none -> h'.get? b = some o)
    (slot : ∀ b o, b ≠ X.env.locals -> b ∈ X.fs -> b ∉ ch -> s.heap.get? b = some o -> H b = none -> ∃ sl, h'.get? b = some { o with slots := sl }) (free : ∀ b o, b ∉ ch -> s.heap.get? b = some o -> H b = none -> H' b = none)
    (there : ∀ b o, b ∉ ch -> s.heap.get? b = some o -> ∃ o', h'.get? b = some o')
    (tups : ∀ b xs, H b = some (.tup xs) -> H' b = some (.tup xs)) (frzs : ∀ b o u, H b = some (.frz o u) -> H' b = some (.frz o u)) (tbls : ∀ b ps, H b = some (.tbl ps) -> ∃ more, H' b = some (.tbl (ps ++ more)))
    (ns : ∀ m, s.heap.Ns X.env.locals m -> h'.Ns X.env.locals m) (hok : HOk X.prog X.w H' h') (hg : AllBare g') :
    Inv X pins σ H' { s with heap := h', gens := g', drawn := d', toks := t' } := by
  have neL : ∀ b o, X.s₀.heap.get? b = some o -> b ≠ X.env.locals := fun b o e => Nat.ne_of_lt (Nat.lt_of_lt_of_le (Heap.lt_size e) I.ok.above)
  have neC : ∀ b o, X.s₀.heap.get? b = some o -> b ∉ X.ex -> b ∉ ch := fun b o e hx hb => by
    rcases (hch b hb).1 with z | z
    · exact hx z
    · exact absurd (Nat.lt_of_lt_of_le (Heap.lt_size e) z) (Nat.lt_irrefl _)
  have cellK : ∀ x c, X.env.cells.lookup x = some c -> ∀ v, s.heap.IsCell c v -> h'.IsCell c v := fun x c e v ⟨o, ho, hd⟩ => by
    have nch : c ∉ ch := fun z => (hch c z).2.2.1 x c e rfl
    by_cases hc : c ∈ X.fs
    · obtain ⟨sl, q⟩ := slot c o (I.cne x c e) hc nch ho (I.freeC x c e)
      exact ⟨_, q, hd⟩
    · exact ⟨o, keep c o (I.cne x c e) hc nch ho (I.freeC x c e), hd⟩
  refine ⟨I.ok, I.os, hg, ⟨fun b o e n hb hx => ?_, fun b o e n hb hx => ?_, fun b o e n hx => ?_, fun b o e hx => ?_, fun b xs e => tups b xs (I.base.tups b xs e), fun b o xs e => frzs b o xs (I.base.frzs b o xs e), fun b ps e => ?_⟩, ?_, fun x c e => ?_, ?_, fun x c e => ?_, fun p hp => ?_, hok, I.len⟩
  · exact keep b o (neL b o e) hb (neC b o e hx) (I.base.keep b o e n hb hx) (I.base.free b o e n hx)
  · obtain ⟨sl, e1⟩ := I.base.slot b o e n hb hx
    obtain ⟨sl', e2⟩ := slot b _ (neL b o e) hb (neC b o e hx) e1 (I.base.free b o e n hx)
    exact ⟨sl', e2⟩
  · obtain ⟨o', e1⟩ := I.base.there b o e hx
    exact free b o' (neC b o e hx) e1 (I.base.free b o e n hx)
  · obtain ⟨o', e1⟩ := I.base.there b o e hx
    exact there b o' (neC b o e hx) e1
  · obtain ⟨m1, e1⟩ := I.base.tbls b ps e
    obtain ⟨m2, e2⟩ := tbls b _ e1
    exact ⟨m1 ++ m2, by rw [e2, Array.append_assoc]⟩
  · obtain ⟨m, hn, hl⟩ := I.loc
    refine ⟨m, ns m hn, fun i x v e1 e2 e3 => ?_⟩
    obtain ⟨u, r, l⟩ := hl i x v e1 e2 e3
    refine ⟨u, r, ?_⟩
    rcases l with l | ⟨k, c, e, z⟩
    · exact .inl l
    · exact .inr ⟨k, c, e, cellK x c e _ z⟩
  · obtain ⟨v, z⟩ := I.cell x c e
    exact ⟨v, cellK x c e v z⟩
  · obtain ⟨m, ⟨o, _, _, ho, _⟩, _⟩ := I.loc
    exact free _ o (fun z => (hch _ z).2.1 rfl) ho I.free
  · obtain ⟨v, o, ho, hd⟩ := I.cell x c e
    exact free c o (fun z => (hch c z).2.2.1 x c e rfl) ho (I.freeC x c e)
  · obtain ⟨e, n, ne, nf, d⟩ := I.pin p hp
    have nch : p.1 ∉ ch := fun z => (hch p.1 z).2.2.2 p hp rfl
    exact ⟨keep p.1 p.2 ne nf nch e n, free p.1 p.2 nch e n, ne, nf, d⟩
theorem Inv.un {t' : Nat} (I : Inv X pins σ H s) (u : Un X.fs [] H H' s.heap h') (hok : HOk X.prog X.w H' h') : Inv X pins σ H' { s with heap := h', toks := t' } := by
  obtain ⟨m, ⟨o, es, ep, ho, r⟩, _⟩ := id I.loc
  obtain ⟨sl, hL⟩ := u.any ho I.free (by simp)
  exact I.step (g' := s.gens) (d' := s.drawn) (ch := []) (fun _ z => nomatch z) (fun b o _ hb _ e n => u.keep b o e n hb (by simp)) (fun b o _ hb _ e n => u.slot b o e n hb (by simp)) (fun b o _ e n => u.free b o e n (by simp)) (fun b o _ e => u.there b o e (by simp)) u.tups u.frzs u.tbls (fun m' hm => by
    obtain ⟨o', es', ep', ho', r'⟩ := hm
    rw [ho] at ho'; cases ho'
    exact ⟨_, es', ep', hL, r'⟩) hok I.bare
theorem Inv.call {g' : Array GenState} {t' : Nat} {d' : Drawn} {ch : List Addr} (I : Inv X pins σ H s) (u : Un (frs X.stack) ch H H' s.heap h') (hok : HOk X.prog X.w H' h') (hg : AllBare g')
    (hch : ∀ b ∈ ch, (b ∈ X.ex ∨ X.s₀.heap.objs.size <= b) /\ b ≠ X.env.locals /\ (∀ x c, X.env.cells.lookup x = some c -> c ≠ b) /\ ∀ p ∈ X.pn ++ pins, p.1 ≠ b) :
    Inv X pins σ H' { s with heap := h', gens := g', drawn := d', toks := t' } := by
  obtain ⟨m, ⟨o, es, ep, ho, r⟩, _⟩ := id I.loc
  obtain ⟨sl, hL⟩ := u.any ho I.free fun z => (hch _ z).2.1 rfl
  exact I.step (ch := ch) hch (fun b o hL hb hc e n => u.keep b o e n (fun z => (List.mem_cons.mp (I.stkSub b z)).elim hL hb) hc) (fun b o _ _ hc e n => u.any e n hc) (fun b o hc e n => u.free b o e n hc) (fun b o hc e => u.there b o e hc) u.tups u.frzs u.tbls (fun m' hm => by
    obtain ⟨o', es', ep', ho', r'⟩ := hm
    rw [ho] at ho'; cases ho'
    exact ⟨_, es', ep', hL, r'⟩) hok hg
theorem Inv.turned {t' : Nat} {it : Addr} (I : Inv X pins σ H s) (k : ∀ b o, b ≠ it -> s.heap.get? b = some o -> h'.get? b = some o) (hn : H it = none) (hL : it ≠ X.env.locals)
    (h1 : it ∈ X.ex ∨ X.s₀.heap.objs.size <= it) (h2 : ∀ x c, X.env.cells.lookup x = some c -> c ≠ it) (h3 : ∀ p ∈ X.pn ++ pins, p.1 ≠ it) : Inv X pins σ H { s with heap := h', toks := t' } := by
  have nit : ∀ b u, H b = some u -> b ≠ it := fun b u e z => by rw [z, hn] at e; cases e
  refine I.step (g' := s.gens) (d' := s.drawn) (ch := [it]) (fun b hb => ?_) (fun b o _ _ hc e _ => k b o (fun z => hc (by simp [z])) e) (fun b o _ _ hc e _ => ⟨o.slots, k b o (fun z => hc (by simp [z])) e⟩) (fun _ _ _ _ n => n)
    (fun b o hc e => ⟨o, k b o (fun z => hc (by simp [z])) e⟩) (fun _ _ e => e) (fun _ _ _ e => e) (fun b ps e => ⟨#[], by rw [e]; simp⟩) (fun m hm => ?_) (fun b u e => ?_) I.bare
  · have e : b = it := by simpa using hb
    subst e
    exact ⟨h1, hL, h2, h3⟩
  · obtain ⟨o, es, ep, ho, r⟩ := hm
    exact ⟨o, es, ep, k _ o (Ne.symm hL) ho, r⟩
  · refine (I.hok b u e).stay (fun c v hc q => k c v ?_ q) (fun _ q => q) fun _ _ q => q
    rcases hc with z | z
    · rw [z]; exact nit b u e
    · exact nit c _ z
theorem Inv.tok (I : Inv X pins σ H s) (t : Nat) : Inv X pins σ H { s with toks := t } := I.un (h' := s.heap) (t' := t) Un.refl I.hok
theorem Inv.kept {t' : Nat} (I : Inv X pins σ H s) (k : ∀ b u, s.heap.get? b = some u -> h'.get? b = some u) : Inv X pins σ H { s with heap := h', toks := t' } := I.un (Un.kept k) (I.hok.kept k)
theorem Inv.laid {a : Addr} {o : HO} {t' : Nat} (I : Inv X pins σ H s) (k : ∀ b u, s.heap.get? b = some u -> h'.get? b = some u) (hp : s.heap.objs.size <= a) (new : ObjOk X.prog X.w (upd H a o) h' a o) :
    Inv X pins σ (upd H a o) { s with heap := h', toks := t' } := I.un (Un.laid k hp (I.hok.fresh hp)) (I.hok.laid k hp new)
theorem Inv.write {x e : Addr} {o : HO} {t' : Nat} (I : Inv X pins σ H s) (mu : Mut (H x)) (he : e = x ∨ H e = some (.own x)) (k : ∀ b u, b ≠ e -> s.heap.get? b = some u -> h'.get? b = some u) (heo : ∃ u, h'.get? e = some u)
    (new : ObjOk X.prog X.w (upd H x o) h' x o) : Inv X pins σ (upd H x o) { s with heap := h', toks := t' } := I.un (Un.write mu he k heo) (I.hok.write mu he k heo new)
theorem Inv.pins_of {pins' : List (Addr × Obj)} (I : Inv X pins σ H s) (h : ∀ p ∈ pins', s.heap.get? p.1 = some p.2 /\ H p.1 = none /\ p.1 ≠ X.env.locals /\ p.1 ∉ X.fs /\ ∀ v, p.2.data ≠ .cell v) : Inv X pins' σ H s :=
  ⟨I.ok, I.os, I.bare, I.base, I.loc, I.cell, I.free, I.freeC, fun p hp => (List.mem_append.mp hp).elim (fun z => I.pin p (List.mem_append_left _ z)) (h p), I.hok, I.len⟩
theorem nodup_ix {N : List Str} (hN : N.Nodup) {i j : Nat} {x : Str} (a : N[i]? = some x) (b : N[j]? = some x) : i = j := by
  obtain ⟨h1, e1⟩ := List.getElem?_eq_some_iff.mp a
  obtain ⟨h2, e2⟩ := List.getElem?_eq_some_iff.mp b
  exact (List.getElem_inj hN).mp (e1.trans e2.symm)
theorem store_ok2 {M : Model} {A : Around} {E : Value -> Shared -> Prop} {i : Nat} {x : Str} {v : V} {u : Value} {Q : Unit -> Shared -> Prop} (I : Inv X pins σ H s) (hN : X.N.Nodup) (hi : X.N[i]? = some x) (hx : Loc X.env.scope x) (r : RelV v u)
    (h : ∀ s', Inv X pins (σ.set i (some v)) H s' -> (∃ a, Heap.SameBut a s.heap s'.heap /\ (a = X.env.locals ∨ X.env.cells.lookup x = some a)) -> Q () s') (hf : X.fn x = true ∨ X.env.scope.names.lookup x = some .local := by first | exact .inl rfl | exact .inr rfl | assumption) : wpAny M A (storeName X.env x u) Q E s := by
  obtain ⟨m, hn, hl⟩ := id I.loc
  have hcls : (X.env.scope.kind == .class || (X.env.scope.kind == .module && X.env.locals != X.env.globals)) = false := by rw [I.ok.kind]; rfl
  have hiσ : i < σ.length := by rw [I.len]; exact (List.getElem?_eq_some_iff.mp hi).1
  have cne := I.cne
  have tracked : ∀ {a : Addr} {h' : Heap}, (∃ o, s.heap.get? a = some o /\ H a = none) -> Heap.SameBut a s.heap h' -> HOk X.prog X.w H h' := fun {a h'} ha hs b ob e => by
    obtain ⟨_, _, hfree⟩ := ha
    refine (I.hok b ob e).stay (fun c w' hc q => (hs.2 c ?_).trans q) (fun _ q => q) fun _ _ q => q
    rintro rfl
    rcases hc with rfl | hc
    · rw [hfree] at e; cases e
    · rw [hfree] at hc; cases hc
  rcases hx with hk | hk
  · refine wpAny_storeName_local hk hn (fun h' hn' hs => ?_) hcls
    obtain ⟨oL, _, _, hoL, _⟩ := id hn
    refine h _ ⟨I.ok, I.os, I.bare, ⟨fun b o e n hb hx => ?_, fun b o e n hb hx => ?_, I.base.free, fun b o e hx => ?_, I.base.tups, I.base.frzs, I.base.tbls⟩, ⟨_, hn', fun j y v' e1 e2 e3 => ?_⟩, fun y c e => ?_, I.free, I.freeC, fun p hp => ?_, tracked ⟨oL, hoL, I.free⟩ hs, by simpa using I.len⟩ ⟨_, hs, .inl rfl⟩
    · exact (hs.2 b (Nat.ne_of_lt (Nat.lt_of_lt_of_le (Heap.lt_size e) I.ok.above))).trans (I.base.keep b o e n hb hx)
    · obtain ⟨sl, e1⟩ := I.base.slot b o e n hb hx
      exact ⟨sl, (hs.2 b (Nat.ne_of_lt (Nat.lt_of_lt_of_le (Heap.lt_size e) I.ok.above))).trans e1⟩
    · obtain ⟨o', e1⟩ := I.base.there b o e hx
      exact ⟨o', (hs.2 b (Nat.ne_of_lt (Nat.lt_of_lt_of_le (Heap.lt_size e) I.ok.above))).trans e1⟩
    · by_cases hj : j = i
      · subst hj
        rw [hi] at e1; cases e1
        rw [List.getElem?_set_self hiσ] at e2
        cases e2
        exact ⟨u, r, .inl ⟨hk, by simp⟩⟩
      · rw [List.getElem?_set_ne (Ne.symm hj)] at e2
        obtain ⟨u', r', q⟩ := hl j y v' e1 e2 e3
        refine ⟨u', r', ?_⟩
        rcases q with ⟨k, e⟩ | ⟨k, c, e, z⟩
        · refine .inl ⟨k, ?_⟩
          have : y ≠ x := fun e => hj (nodup_ix hN e1 (e ▸ hi))
          simp [this, e]
        · exact .inr ⟨k, c, e, z.sameBut hs (cne y c e)⟩
    · obtain ⟨w', z⟩ := I.cell y c e
      exact ⟨w', z.sameBut hs (cne y c e)⟩
    · obtain ⟨e, n, ne, nf, d⟩ := I.pin p hp
      exact ⟨(hs.2 p.1 ne).trans e, n, ne, nf, d⟩
  · have hfn : X.fn x = true := by
      rcases hf with z | z
      · exact z
      · rw [z] at hk; cases hk
    obtain ⟨c, hc⟩ := I.ok.has x (.inl hk)
    obtain ⟨w', z⟩ := I.cell x c hc
    refine wpAny_storeName_cell I.ok.kind hk hc z (fun h' hc' hs => ?_)
    obtain ⟨oc, hoc, hocd⟩ := id z
    refine h { s with heap := h' } ⟨I.ok, I.os, I.bare, ⟨fun b o e n hb hx => ?_, fun b o e n hb hx => ?_, I.base.free, fun b o e hx => ?_, I.base.tups, I.base.frzs, I.base.tbls⟩, ⟨m, hn.sameBut hs (Ne.symm (cne x c hc)), fun j y v' e1 e2 e3 => ?_⟩, fun y c' e => ?_, I.free, I.freeC, fun p hp => ?_, tracked ⟨oc, hoc, I.freeC x c hc⟩ hs, by simpa using I.len⟩ ⟨c, hs, .inr hc⟩
    · exact (hs.2 b (Nat.ne_of_lt (Nat.lt_of_lt_of_le (Heap.lt_size e) (I.ok.cab x c hfn hc)))).trans (I.base.keep b o e n hb hx)
    · obtain ⟨sl, e1⟩ := I.base.slot b o e n hb hx
      exact ⟨sl, (hs.2 b (Nat.ne_of_lt (Nat.lt_of_lt_of_le (Heap.lt_size e) (I.ok.cab x c hfn hc)))).trans e1⟩
    · obtain ⟨o', e1⟩ := I.base.there b o e hx
      exact ⟨o', (hs.2 b (Nat.ne_of_lt (Nat.lt_of_lt_of_le (Heap.lt_size e) (I.ok.cab x c hfn hc)))).trans e1⟩
    · by_cases hj : j = i
      · subst hj
        rw [hi] at e1; cases e1
        rw [List.getElem?_set_self hiσ] at e2
        cases e2
        exact ⟨u, r, .inr ⟨.inl hk, c, hc, hc'⟩⟩
      · rw [List.getElem?_set_ne (Ne.symm hj)] at e2
        obtain ⟨u', r', q⟩ := hl j y v' e1 e2 e3
        refine ⟨u', r', ?_⟩
        rcases q with q | ⟨k, c', e, z'⟩
        · exact .inl q
        · refine .inr ⟨k, c', e, z'.sameBut hs ?_⟩
          rintro rfl
          exact hj (nodup_ix hN e1 (I.ok.inj _ _ _ e hc ▸ hi))
    · by_cases hcc : c' = c
      · subst hcc; exact ⟨_, hc'⟩
      · obtain ⟨w2, z2⟩ := I.cell y c' e
        exact ⟨w2, z2.sameBut hs hcc⟩
    · obtain ⟨e, n, ne, nf, d⟩ := I.pin p hp
      refine ⟨(hs.2 p.1 ?_).trans e, n, ne, nf, d⟩
      intro q
      rw [q, hoc] at e
      have q' : oc = p.2 := Option.some.inj e
      exact d w' (by rw [<- q']; exact hocd)
theorem store_ok {M : Model} {A : Around} {E : Value -> Shared -> Prop} {i : Nat} {x : Str} {v : V} {u : Value} {Q : Unit -> Shared -> Prop} (I : Inv X pins σ H s) (hN : X.N.Nodup) (hi : X.N[i]? = some x) (hx : Loc X.env.scope x) (r : RelV v u)
    (h : ∀ s', Inv X pins (σ.set i (some v)) H s' -> Q () s') (hf : X.fn x = true ∨ X.env.scope.names.lookup x = some .local := by first | exact .inl rfl | exact .inr rfl | assumption) : wpAny M A (storeName X.env x u) Q E s :=
  store_ok2 I hN hi hx r (fun s' I' _ => h s' I') hf
theorem Inv.call' {s' : Shared} {ch : List Addr} (I : Inv X pins σ H s) (ho : s'.os = s.os) (u : Un (frs X.stack) ch H H' s.heap s'.heap) (hok : HOk X.prog X.w H' s'.heap) (hg : AllBare s'.gens)
    (hch : ∀ b ∈ ch, (b ∈ X.ex ∨ X.s₀.heap.objs.size <= b) /\ b ≠ X.env.locals /\ (∀ x c, X.env.cells.lookup x = some c -> c ≠ b) /\ ∀ p ∈ X.pn ++ pins, p.1 ≠ b) : Inv X pins σ H' s' := by
  obtain ⟨h', g', d', t', o'⟩ := s'
  have e : o' = s.os := ho
  subst e
  exact I.call (g' := g') (t' := t') (d' := d') u hok hg hch
end
abbrev XK := Value -> Option Addr -> Hp -> Prop
abbrev St := List (Option V)
abbrev VK := V -> Hp -> Prop
abbrev TE := St -> Hp -> VK -> Prop
abbrev TT := St -> Hp -> (Bool -> Hp -> Prop) -> Prop
abbrev TA := St -> Hp -> (List V -> Hp -> Prop) -> Prop
structure Ends where
  nx : St -> Hp -> Prop
  rt : VK
  bk : St -> Hp -> Prop := fun _ _ => False
  ct : St -> Hp -> Prop := fun _ _ => False
abbrev TS := Ends -> St -> Hp -> Prop
def EP (X : Cx) (pins : List (Addr × Obj)) (σ : St) (Q : VK) (u : Value) (s' : Shared) : Prop := ∃ v H', Inv X pins σ H' s' /\ RelV v u /\ Q v H'
def TP (X : Cx) (pins : List (Addr × Obj)) (σ : St) (Q : Bool -> Hp -> Prop) (b : Bool) (s' : Shared) : Prop := ∃ H', Inv X pins σ H' s' /\ Q b H'
def AP (X : Cx) (pins : List (Addr × Obj)) (σ : St) (Q : List V -> Hp -> Prop) (us : List Value) (s' : Shared) : Prop := ∃ vs H', Inv X pins σ H' s' /\ Vals vs us /\ Q vs H'
def SP (X : Cx) (pins : List (Addr × Obj)) (D : Ends) (f : Flow) (s' : Shared) : Prop :=
  match f with
  | .next => ∃ σ' H', Inv X pins σ' H' s' /\ D.nx σ' H'
  | .brk => ∃ σ' H', Inv X pins σ' H' s' /\ D.bk σ' H'
  | .cont => ∃ σ' H', Inv X pins σ' H' s' /\ D.ct σ' H'
  | .ret u => ∃ v σ' H', Inv X pins σ' H' s' /\ RelV v u /\ D.rt v H'
def PE (X : Cx) (e : Expr) (t : TE) : Prop :=
  ∀ (pins : List (Addr × Obj)) (s : Shared) (σ : St) (H : Hp) (Q : VK), Inv X pins σ H s -> t σ H Q -> wpAny (model X.prog X.w) X.A (eval e X.env) (EP X pins σ Q) X.xe s
def PT (X : Cx) (e : Expr) (t : TT) : Prop :=
  ∀ (pins : List (Addr × Obj)) (s : Shared) (σ : St) (H : Hp) (Q : Bool -> Hp -> Prop), Inv X pins σ H s -> t σ H Q -> wpAny (model X.prog X.w) X.A (isTrue e X.env (eval e X.env)) (TP X pins σ Q) X.xe s
def PW (X : Cx) (e : Expr) (t : TT) : Prop :=
  ∀ (whole : Sem Value) (pins : List (Addr × Obj)) (s : Shared) (σ : St) (H : Hp) (Q : Bool -> Hp -> Prop), Inv X pins σ H s -> t σ H Q -> wpAny (model X.prog X.w) X.A (isTrue e X.env whole) (TP X pins σ Q) X.xe s
theorem PW.pt {X : Cx} {e : Expr} {t : TT} (h : PW X e t) : PT X e t := h _
def PA (X : Cx) (es : List Expr) (t : TA) : Prop :=
  ∀ (pos : Pos) (pins : List (Addr × Obj)) (s : Shared) (σ : St) (H : Hp) (Q : List V -> Hp -> Prop), Inv X pins σ H s -> t σ H Q -> wpAny (model X.prog X.w) X.A (spliced (backTo pos (starEach es X.env))) (AP X pins σ Q) X.xe s
def PS (X : Cx) (st : Stmt) (t : TS) : Prop :=
  ∀ (pins : List (Addr × Obj)) (s : Shared) (σ : St) (H : Hp) (D : Ends), Inv X pins σ H s -> t D σ H -> wpAny (model X.prog X.w) X.A (exec st X.env) (SP X pins D) X.xe s
def PSs (X : Cx) (st : List Stmt) (t : TS) : Prop :=
  ∀ (pins : List (Addr × Obj)) (s : Shared) (σ : St) (H : Hp) (D : Ends), Inv X pins σ H s -> t D σ H -> wpAny (model X.prog X.w) X.A (execs st X.env) (SP X pins D) X.xe s
theorem thn {α : Type} {t : Sem α} {Q Q' : α -> Shared -> Prop} {M : Model} {A : Around} {E : Value -> Shared -> Prop} {s : Shared} (h : wpAny M A t Q E s) (hQ : ∀ a s, Q a s -> Q' a s) : wpAny M A t Q' E s := wpAny_mono h hQ fun _ _ x => x
end L2
namespace L2
open PySem PySem.Spec PyProof.Rows
section
variable {X : Cx}
def tVar (i : Nat) : TE := fun σ H Q => ∃ v, σ[i]? = some (some v) /\ Q v H
def tC (v : V) : TE := fun _ H Q => Q v H
theorem pe_var {i : Nat} {x : Str} {pos : Pos} (hN : X.N[i]? = some x) (hv : Vis X.env.scope x) (hd : (x == ("__debug__" : Str)) = false := by decide) (hcd : (x == ("__classdict__" : Str)) = false := by decide) : PE X (.Name x pos) (tVar i) := by
  intro pins s σ H Q I h
  obtain ⟨v, e, h⟩ := h
  obtain ⟨m, hn, hl⟩ := I.loc
  obtain ⟨u, r, l⟩ := hl i x v hN e hv
  have fin : EP X pins σ Q u s := ⟨v, H, I, r, h⟩
  rcases l with ⟨hk, hm⟩ | ⟨hk, c, hc, hcell⟩
  · exact wpAny_Name (wpAny_loadName_local I.ok.kind hk hn hm fin) hd
  · rcases hk with hk | hk
    · exact wpAny_Name (wpAny_loadName_cell I.ok.kind hk hc hcell fin) hd
    · exact wpAny_Name (wpAny_loadName_free I.ok.kind hk hc hcell fin hcd) hd
theorem pe_int {i j pos} : PE X (.Constant (.int i) j pos) (tC (.int i)) := fun _ _ _ H _ I h => wpAny_Constant_int ⟨.int i, H, I.tok _, ⟨_, rfl⟩, h⟩
theorem pe_bl {b j pos} : PE X (.Constant (.bool b) j pos) (tC (.bl b)) := fun _ _ _ H _ I h => Constant_bool ⟨.bl b, H, I, rfl, h⟩
theorem pe_non {j pos} : PE X (.Constant .none j pos) (tC .non) := fun _ _ _ H _ I h => Constant_none ⟨.non, H, I, rfl, h⟩
def Gl (X : Cx) (x : Str) : Prop := X.env.kindOf x = some .globalImplicit
theorem ld_glob {E : Value -> Shared -> Prop} {pins : List (Addr × Obj)} {s : Shared} {σ : St} {H : Hp} {x : Str} {u : Value} {pos : Pos} {Q : Value -> Shared -> Prop} (I : Inv X pins σ H s) (hg : Gl X x) (hm : X.mg x = some u) (h : Q u s)
    (hd : (x == ("__debug__" : Str)) = false := by decide) : wpAny (model X.prog X.w) X.A (eval (.Name x pos) X.env) Q E s :=
  Calls.Name_function_global I.ok.kind hg (Calls.loadGlobal_global (by rw [I.ok.glob]; exact I.mod.glob.keeps I.bk) hm h) hd
theorem ld_blt {E : Value -> Shared -> Prop} {pins : List (Addr × Obj)} {s : Shared} {σ : St} {H : Hp} {x : Str} {u : Value} {pos : Pos} {Q : Value -> Shared -> Prop} (I : Inv X pins σ H s) (hg : Gl X x) (hm : X.mg x = none) (hv : bootBuiltins x = some u) (h : Q u s)
    (hn : x ≠ "__name__" := by decide) (hd : (x == ("__debug__" : Str)) = false := by decide) : wpAny (model X.prog X.w) X.A (eval (.Name x pos) X.env) Q E s := by
  obtain ⟨mb, h1, h2⟩ := I.mod.blt
  exact Calls.Name_function_global I.ok.kind hg (Calls.loadGlobal_builtin (by rw [I.ok.glob]; exact I.mod.glob.keeps I.bk) hm (by rw [I.ok.blt]; exact h1.keeps I.bk) ((h2 x hn).trans hv) h) hd
theorem pe_glob {x : Str} {v : V} {u : Value} {pos : Pos} (hg : Gl X x) (hm : X.mg x = some u) (r : RelV v u) (hd : (x == ("__debug__" : Str)) = false := by decide) : PE X (.Name x pos) (tC v) :=
  fun _ _ _ H _ I h => ld_glob I hg hm ⟨v, H, I, r, h⟩ hd
theorem pe_bltn {x : Str} {v : V} {u : Value} {pos : Pos} (hg : Gl X x) (hm : X.mg x = none) (hv : bootBuiltins x = some u) (r : RelV v u) (hn : x ≠ "__name__" := by decide) (hd : (x == ("__debug__" : Str)) = false := by decide) : PE X (.Name x pos) (tC v) :=
  fun _ _ _ H _ I h => ld_blt I hg hm hv ⟨v, H, I, r, h⟩ hn hd
variable {a b : Expr} {ta tb : TE} {pos : Pos}
def tB (t : TE) : TT := fun σ H Q => t σ H fun x H1 => ∃ c, x = .bl c /\ Q c H1
theorem pt_val {e : Expr} {t : TE} (h : PE X e t) (he : ∀ whole, isTrue e X.env whole = (do let v <- whole; standAt e.pos; holding [v] (truthy v)) := by intro _; rfl) : PT X e (tB t) := by
  intro pins s σ H Q I hw
  refine isTrue_plain (thn (h pins s σ H _ I hw) fun v s1 ⟨x, H1, I1, r1, q1⟩ => ?_) (he _)
  obtain ⟨d, rfl, q⟩ := q1
  cases r1
  exact wpAny_truthy_bool ⟨H1, I1, q⟩
variable {tA tB' : TT} {rest : List Expr}
def tOr (t u : TT) : TT := fun σ H Q => t σ H fun c H1 => if c = true then Q true H1 else u σ H1 Q
def tNot (t : TT) : TT := fun σ H Q => t σ H fun c H1 => Q (!c) H1
theorem pw_or1 (ha : PT X a tA) : PW X (.BoolOp .Or [a] pos) tA := by
  intro wh pins s σ H Q I h
  refine isTrue_or (thn (ha pins s σ H Q I h) fun c s1 e => ?_)
  cases c with
  | false => exact isTrue_or_nil e
  | true => exact e
theorem pw_or (ha : PT X a tA) (hb : PW X (.BoolOp .Or (b :: rest) pos) tB') : PW X (.BoolOp .Or (a :: b :: rest) pos) (tOr tA tB') := by
  intro wh pins s σ H Q I h
  refine isTrue_or (thn (ha pins s σ H _ I h) fun c s1 ⟨H1, I1, q1⟩ => ?_)
  cases c with
  | true => exact ⟨H1, I1, q1⟩
  | false => exact hb wh pins s1 σ H1 Q I1 q1
theorem pt_not (ha : PT X a tA) : PT X (.UnaryOp .Not a pos) (tNot tA) := by
  intro pins s σ H Q I h
  exact isTrue_not (ha pins s σ H (fun c H1 => Q (!c) H1) I h)
def tAndV (ta tb : TE) : TE := fun σ H Q => ta σ H fun x H1 => ∃ c, x = .bl c /\ if c = true then tb σ H1 Q else Q (.bl false) H1
def tNotV (ta : TE) : TE := fun σ H Q => ta σ H fun x H1 => ∃ c, x = .bl c /\ Q (.bl (!c)) H1
theorem pe_one {op} {t : TE} (h : PE X a t) : PE X (.BoolOp op [a] pos) t := fun pins s σ H Q I hw => BoolOp_one (h pins s σ H Q I hw)
theorem pe_and (ha : PE X a ta) (hb : PE X (.BoolOp .And (b :: rest) pos) tb) : PE X (.BoolOp .And (a :: b :: rest) pos) (tAndV ta tb) := by
  intro pins s σ H Q I h
  refine BoolOp_and (thn (ha pins s σ H _ I h) fun v s1 ⟨x, H1, I1, r1, q1⟩ => ?_)
  obtain ⟨c, rfl, q1⟩ := q1
  cases r1
  refine wpAny_truthy_bool ?_
  cases c with
  | true => exact hb pins s1 σ H1 Q I1 q1
  | false => exact ⟨.bl false, H1, I1, rfl, q1⟩
theorem pe_not (ha : PE X a ta) : PE X (.UnaryOp .Not a pos) (tNotV ta) := by
  intro pins s σ H Q I h
  refine UnaryOp_ (thn (ha pins s σ H _ I h) fun v s1 ⟨x, H1, I1, r1, q1⟩ => ?_)
  obtain ⟨c, rfl, q1⟩ := q1
  cases r1
  exact not_of (wpAny_truthy_bool ⟨.bl (!c), H1, I1, rfl, q1⟩)
def tIf (t : TT) (ta tb : TE) : TE := fun σ H Q => t σ H fun c H1 => if c = true then ta σ H1 Q else tb σ H1 Q
theorem pe_ifExp {c : Expr} (hc : PT X c tA) (ha : PE X a ta) (hb : PE X b tb) : PE X (.IfExp c a b pos) (tIf tA ta tb) := by
  intro pins s σ H Q I h
  refine wpAny_IfExp (thn (hc pins s σ H _ I h) fun d s1 ⟨H1, I1, q1⟩ => ?_)
  cases d with
  | true => exact ha pins s1 σ H1 Q I1 q1
  | false => exact hb pins s1 σ H1 Q I1 q1
end
end L2
namespace L2
open PySem PySem.Spec PyProof.Rows
def SqL (K : PySem.W.Frag) (H : Hp) (a : Addr) (xs : List V) : Prop :=
  Rd H a (.lst xs) ∨
    ∃ (o : Obj) (its : Array Value) (n : Nat), K.lookup a = some o /\ o.cls = .type "list" /\ o.dict = none /\ o.data = .seq its n /\ its.size <= sizeLine /\ Vals xs its.toList
def SqT (K : PySem.W.Frag) (H : Hp) (a : Addr) (xs : List V) : Prop :=
  Rd H a (.tup xs) ∨
    ∃ (o : Obj) (its : Array Value) (n : Nat), K.lookup a = some o /\ o.cls = .type "tuple" /\ o.data = .seq its n /\ its.size <= sizeLine /\ Vals xs its.toList
def absV : Value -> Option V
  | .none => some .non
  | .bool b => some (.bl b)
  | .int i _ => some (.int i)
  | .str x _ => some (.str x)
  | .bytes b _ => some (.byt b)
  | .float b _ => some (.flt b)
  | .ref a => some (.ref a)
  | .type n => some (.ty n)
  | _ => none
theorem RelV.abs {x : V} {u : Value} (r : RelV x u) : absV u = some x := by
  cases x with
  | non => cases r; rfl
  | bl _ => cases r; rfl
  | int _ => obtain ⟨t, rfl⟩ := r; rfl
  | str _ => obtain ⟨t, rfl⟩ := r; rfl
  | byt _ => obtain ⟨t, rfl⟩ := r; rfl
  | flt _ => obtain ⟨t, rfl⟩ := r; rfl
  | ref _ => cases r; rfl
  | ty _ => cases r; rfl
theorem RelV.inj {x y : V} {u : Value} (r : RelV x u) (q : RelV y u) : x = y := Option.some.inj (r.abs.symm.trans q.abs)
theorem Vals.inj : ∀ {xs ys : List V} {us : List Value}, Vals xs us -> Vals ys us -> xs = ys
  | _, _, _, .nil, .nil => rfl
  | _, _, _, .cons r t, .cons r' t' => by rw [r.inj r', Vals.inj t t']
section
variable {X : Cx} {pins : List (Addr × Obj)} {σ : St} {H : Hp} {s : Shared} {a : Addr} {xs ys : List V}
theorem SqL.of {K : PySem.W.Frag} (h : H a = some (.lst xs)) : SqL K H a xs := .inl (.inl h)
theorem SqT.of {K : PySem.W.Frag} (h : H a = some (.tup xs)) : SqT K H a xs := .inl (.inl h)
theorem Inv.list (I : Inv X pins σ H s) (h : SqL X.K H a xs) : ∃ its : List Value, Vals xs its /\ PlainL s.heap a its.toArray /\ xs.length <= sizeLine := by
  rcases h with h | ⟨o, its, n, hk, hc, hd, hs, hz, r⟩
  · obtain ⟨z, its, n, r, e⟩ := h.ok I.hok
    exact ⟨its, r, ⟨_, n, e, rfl, rfl, rfl⟩, z⟩
  · refine ⟨its.toList, r, ⟨o, n, I.kIn a o hk, hc, hd, by simpa using hs⟩, ?_⟩
    have e := r.length
    simp only [Array.length_toList] at e
    omega
theorem Inv.tuple (I : Inv X pins σ H s) (h : SqT X.K H a xs) : ∃ its : List Value, Vals xs its /\ IsTup s.heap a its.toArray /\ xs.length <= sizeLine := by
  rcases h with h | ⟨o, its, n, hk, hc, hs, hz, r⟩
  · obtain ⟨z, its, r, p⟩ := h.ok I.hok
    exact ⟨its, r, p, z⟩
  · refine ⟨its.toList, r, ⟨o, I.kIn a o hk, hc, n, by simpa using hs⟩, ?_⟩
    have e := r.length
    simp only [Array.length_toList] at e
    omega
theorem Inv.list_inj (I : Inv X pins σ H s) (h : SqL X.K H a xs) (h' : SqL X.K H a ys) : xs = ys := by
  obtain ⟨its, r, ⟨o, n, e, _, _, d⟩, _⟩ := I.list h
  obtain ⟨its', r', ⟨o', n', e', _, _, d'⟩, _⟩ := I.list h'
  rw [e] at e'; cases e'
  rw [d] at d'
  injection d' with d1 _
  have : its = its' := by simpa using congrArg Array.toList d1
  subst this
  exact r.inj r'
theorem Inv.tuple_inj (I : Inv X pins σ H s) (h : SqT X.K H a xs) (h' : SqT X.K H a ys) : xs = ys := by
  obtain ⟨its, r, ⟨o, e, _, n, d⟩, _⟩ := I.tuple h
  obtain ⟨its', r', ⟨o', e', _, n', d'⟩, _⟩ := I.tuple h'
  rw [e] at e'; cases e'
  rw [d] at d'
  injection d' with d1 _
  have : its = its' := by simpa using congrArg Array.toList d1
  subst this
  exact r.inj r'
end
abbrev Cx.wish (X : Cx) (E : Value -> Shared -> Prop) : Cx := { X with xe := E }
abbrev Cx.nox (X : Cx) : Cx := X.wish fun _ _ => False
theorem Cx.Ok.wish {X : Cx} (ok : X.Ok) (E : Value -> Shared -> Prop) : (X.wish E).Ok :=
  ⟨ok.mod, ok.kind, ok.glob, ok.blt, ok.above, ok.inj, ok.has, ok.cab, ok.hd, ok.frames, ok.stk, ok.exf, ok.bs, ok.bsz, ok.noex, ok.exfs, ok.funs, ok.frf⟩
theorem Cx.Ok.unwish {X : Cx} {E : Value -> Shared -> Prop} (ok : (X.wish E).Ok) : X.Ok :=
  ⟨ok.mod, ok.kind, ok.glob, ok.blt, ok.above, ok.inj, ok.has, ok.cab, ok.hd, ok.frames, ok.stk, ok.exf, ok.bs, ok.bsz, ok.noex, ok.exfs, ok.funs, ok.frf⟩
section
variable {X : Cx} {pins : List (Addr × Obj)} {σ : St} {H : Hp} {s : Shared} {E : Value -> Shared -> Prop}
theorem Inv.wish (I : Inv X pins σ H s) (E : Value -> Shared -> Prop) : Inv (X.wish E) pins σ H s := ⟨I.ok.wish E, I.os, I.bare, I.base, I.loc, I.cell, I.free, I.freeC, I.pin, I.hok, I.len⟩
theorem Inv.unwish (I : Inv (X.wish E) pins σ H s) : Inv X pins σ H s := ⟨I.ok.unwish, I.os, I.bare, I.base, I.loc, I.cell, I.free, I.freeC, I.pin, I.hok, I.len⟩
theorem SP.unwish {D : Ends} {f : Flow} {s' : Shared} (h : SP (X.wish E) pins D f s') : SP X pins D f s' := by
  cases f with
  | next => obtain ⟨σ', H', I, q⟩ := h; exact ⟨σ', H', I.unwish, q⟩
  | brk => obtain ⟨σ', H', I, q⟩ := h; exact ⟨σ', H', I.unwish, q⟩
  | cont => obtain ⟨σ', H', I, q⟩ := h; exact ⟨σ', H', I.unwish, q⟩
  | ret u => obtain ⟨v, σ', H', I, r, q⟩ := h; exact ⟨v, σ', H', I.unwish, r, q⟩
theorem PE.nox {e : Expr} {t : TE} (h : PE X.nox e t) : PE X e t := fun pins s σ H Q I hw =>
  wpAny_mono (h pins s σ H Q (I.wish _) hw) (fun _ _ ⟨v, H', I', r, q⟩ => ⟨v, H', I'.unwish, r, q⟩) fun _ _ z => False.elim z
theorem PT.nox {e : Expr} {t : TT} (h : PT X.nox e t) : PT X e t := fun pins s σ H Q I hw =>
  wpAny_mono (h pins s σ H Q (I.wish _) hw) (fun _ _ ⟨H', I', q⟩ => ⟨H', I'.unwish, q⟩) fun _ _ z => False.elim z
theorem PSs.nox {st : List Stmt} {t : TS} (h : PSs X.nox st t) : PSs X st t := fun pins s σ H D I hw =>
  wpAny_mono (h pins s σ H D (I.wish _) hw) (fun _ _ q => q.unwish) fun _ _ z => False.elim z
end
section
variable {X : Cx} {st : Stmt} {rest : List Stmt} {t u : TS} {e : Expr} {te : TE} {pos : Pos}
def tNext : TS := fun D σ H => D.nx σ H
def tSeq (t u : TS) : TS := fun D σ H => t { D with nx := u D } σ H
theorem pss_nil : PSs X [] tNext := fun _ _ σ H _ I h => wpAny_execs_nil ⟨σ, H, I, h⟩
theorem pss_cons (h1 : PS X st t) (h2 : PSs X rest u) : PSs X (st :: rest) (tSeq t u) := by
  intro pins s σ H D I h
  refine wpAny_execs_cons (thn (h1 pins s σ H { D with nx := u D } I h) fun f s1 q => ?_)
  cases f with
  | next =>
    obtain ⟨σ', H', I', q⟩ := q
    exact h2 pins s1 σ' H' D I' q
  | ret v => exact q
  | brk => exact q
  | cont => exact q
theorem pss_one (h1 : PS X st t) : PSs X [st] t := by
  intro pins s σ H D I h
  refine wpAny_execs_cons (thn (h1 pins s σ H D I h) fun f s1 q => ?_)
  cases f with
  | next => exact wpAny_execs_nil q
  | ret v => exact q
  | brk => exact q
  | cont => exact q
theorem Inv.quiet {pins : List (Addr × Obj)} {σ : St} {H : Hp} {s : Shared} (I : Inv X pins σ H s) : interactive X.env = false := by simp [interactive, I.ok.kind]
def tDrop (te : TE) : TS := fun D σ H => te σ H fun _ H1 => D.nx σ H1
theorem ps_expr (he : PE X e te) (hs : swapsWith e none pos.line X.env = pure false := by rfl) : PS X (.Expr e pos) (tDrop te) := by
  intro pins s σ H D I h
  exact wpAny_Expr_any (thn (he pins s σ H _ I h) fun v s1 ⟨x, H1, I1, r1, q1⟩ => ⟨σ, H1, I1, q1⟩) I.quiet hs
def tRet (te : TE) : TS := fun D σ H => te σ H D.rt
theorem ps_ret (he : PE X e te) : PS X (.Return (some e) pos) (tRet te) := by
  intro pins s σ H D I h
  exact wpAny_Return_some (thn (he pins s σ H _ I h) fun v s1 ⟨x, H1, I1, r1, q1⟩ => ⟨x, σ, H1, I1, r1, q1⟩)
def tIfS (c : TT) (t u : TS) : TS := fun D σ H => c σ H fun b H1 => if b = true then t D σ H1 else u D σ H1
theorem ps_if {c : Expr} {a b : List Stmt} {tc : TT} (hc : PT X c tc) (ha : PSs X a t) (hb : PSs X b u) : PS X (.If c a b pos) (tIfS tc t u) := by
  intro pins s σ H D I h
  refine wpAny_If (thn (hc pins s σ H _ I h) fun d s1 ⟨H1, I1, q1⟩ => ?_)
  cases d with
  | true => exact ha pins s1 σ H1 D I1 q1
  | false => exact hb pins s1 σ H1 D I1 q1
def tNever : TS := fun _ _ _ => False
theorem ps_never : PS X st tNever := fun _ _ _ _ _ _ h => h.elim
end
abbrev TG := V -> St -> Hp -> (St -> Hp -> Prop) -> Prop
abbrev TGs := List V -> St -> Hp -> (St -> Hp -> Prop) -> Prop
def PG (X : Cx) (target : Expr) (t : TG) : Prop :=
  ∀ (pins : List (Addr × Obj)) (s : Shared) (σ : St) (H : Hp) (v : V) (u : Value) (Q : St -> Hp -> Prop), Inv X pins σ H s -> RelV v u -> t v σ H Q ->
    wpAny (model X.prog X.w) X.A (assign target X.env u) (fun _ s' => ∃ σ' H', Inv X pins σ' H' s' /\ Q σ' H') X.xe s
def PGs (X : Cx) (ts : List Expr) (t : TGs) : Prop :=
  ∀ (pins : List (Addr × Obj)) (s : Shared) (σ : St) (H : Hp) (vs : List V) (us : List Value) (Q : St -> Hp -> Prop), Inv X pins σ H s -> Vals vs us -> t vs σ H Q ->
    wpAny (model X.prog X.w) X.A (assignInOrder ((assignEach ts X.env).map (·.2)) us) (fun _ s' => ∃ σ' H', Inv X pins σ' H' s' /\ Q σ' H') X.xe s
section
variable {X : Cx} {pos : Pos}
def gName (i : Nat) : TG := fun v σ H Q => Q (σ.set i (some v)) H
theorem pg_name {i : Nat} {x : Str} (hN : X.N.Nodup) (hi : X.N[i]? = some x) (hx : Loc X.env.scope x) (hf : X.fn x = true ∨ X.env.scope.names.lookup x = some .local := by first | exact .inl rfl | exact .inr rfl | assumption) : PG X (.Name x pos) (gName i) := by
  intro pins s σ H v u Q I r h
  exact wpAny_assign_Name (store_ok I hN hi hx r (fun s' I' => ⟨_, H, I', h⟩) hf)
def gNil : TGs := fun vs σ H Q => vs = [] /\ Q σ H
def gCons (t : TG) (u : TGs) : TGs := fun vs σ H Q => ∃ v r, vs = v :: r /\ t v σ H fun σ' H' => u r σ' H' Q
theorem pgs_nil : PGs X [] gNil := by
  intro pins s σ H vs us Q I r h
  obtain ⟨e, h⟩ := h
  subst e
  cases r
  exact assignInOrder_nil ⟨σ, H, I, h⟩
theorem pgs_cons {e : Expr} {es : List Expr} {t : TG} {u : TGs} (h1 : PG X e t) (h2 : PGs X es u)
    (hs : (assignEach (e :: es) X.env).map (·.2) = assign e X.env :: (assignEach es X.env).map (·.2) := by rfl) : PGs X (e :: es) (gCons t u) := by
  intro pins s σ H vs us Q I r h
  obtain ⟨v, vr, e1, h⟩ := h
  subst e1
  cases r with
  | cons r rr =>
    rw [hs]
    refine assignInOrder_cons (thn (h1 pins s σ H _ _ _ I r h) fun _ s1 ⟨σ1, H1, I1, q1⟩ => ?_)
    exact h2 pins s1 σ1 H1 _ _ Q I1 rr q1
def gTup (K : PySem.W.Frag) (n : Nat) (t : TGs) : TG := fun v σ H Q => ∃ a xs, v = .ref a /\ SqT K H a xs /\ xs.length = n /\ t xs σ H Q
theorem pg_tup {es : List Expr} {k : Nat} {t : TGs} {n : Nat} (hc : X.calm = true) (h : PGs X es t)
    (hn : (assignEach es X.env).length = n := by rfl) (hst : (assignEach es X.env).findIdx? (·.1) = none := by rfl) : PG X (.Tuple es k pos) (gTup X.K n t) := by
  intro pins s σ H v u Q I r hw
  obtain ⟨a, xs, e1, hq, hl, hw⟩ := hw
  subst e1
  cases r
  obtain ⟨its, rv, ht, hz⟩ := I.tuple hq
  refine assign_Tuple_tuple (I.ok.hd hc) ht (by simp [hn, <- hl, rv.length]) hst fun h' hx => ?_
  have I1 : Inv X pins σ H { s with heap := h' } := I.kept (t' := s.toks) fun b o e => hx b o (Nat.ne_of_lt (Heap.lt_size e)) e
  exact h pins _ σ H xs _ Q I1 (by simpa using rv) hw
def tAsg (te : TE) (g : TG) : TS := fun D σ H => te σ H fun x H1 => g x σ H1 D.nx
theorem ps_set {i : Nat} {x : Str} {e : Expr} {te : TE} {pos' : Pos} (hN : X.N.Nodup) (hi : X.N[i]? = some x) (hx : Loc X.env.scope x) (he : PE X e te) (hs : swapsWith e (some (.Name x pos')) pos.line X.env = pure false := by rfl) (hf : X.fn x = true ∨ X.env.scope.names.lookup x = some .local := by first | exact .inl rfl | exact .inr rfl | assumption) :
    PS X (.Assign [.Name x pos'] e pos) (tAsg te (gName i)) := by
  intro pins s σ H D I h
  refine wpAny_Assign_Name (thn (he pins s σ H _ I h) fun v s1 ⟨y, H1, I1, r1, q1⟩ => ?_) hs
  exact store_ok I1 hN hi hx r1 (fun s2 I2 => ⟨_, H1, I2, q1⟩) hf
end
section
variable {X : Cx} {pos : Pos}
def tWhile (c : TT) (tb : TS) : TS := fun D σ H => ∃ W : Nat -> St -> Hp -> Prop, (∃ m, W m σ H) /\ ∀ m σ H, W m σ H ->
  c σ H fun b H1 => if b = true then ∃ N : St -> Hp -> Prop, (∀ σ' H', N σ' H' -> ∃ m', m' < m /\ W m' σ' H') /\ tb { D with nx := N, ct := N, bk := D.nx } σ H1 else D.nx σ H1
theorem ps_while {c : Expr} {body : List Stmt} {tc : TT} {tb : TS} (hp : PassesOwn (model X.prog X.w) X.A X.env X.xe) (hc : PT X c tc) (hb : PSs X body tb) : PS X (.While c body [] pos) (tWhile tc tb) := by
  intro pins s σ H D I h
  obtain ⟨W, ⟨m0, w0⟩, turn⟩ := h
  refine wpAny_While (codeAny_whileLoop (fun n s' => ∃ σ' H', Inv X pins σ' H' s' /\ W n σ' H') ?_ m0 ⟨σ, H, I, w0⟩)
  rintro n s1 ⟨σ1, H1, I1, w1⟩
  refine wpAny_passesOwn hp (thn (hc pins s1 σ1 H1 _ I1 (turn n σ1 H1 w1)) fun b s2 ⟨H2, I2, q2⟩ => ?_)
  cases b with
  | true =>
    obtain ⟨N, hN, q2⟩ := q2
    rw [if_pos rfl]
    refine wpAny_passesOwn hp (thn (hb pins s2 σ1 H2 _ I2 q2) fun f s3 q3 => ?_)
    cases f with
    | next =>
      obtain ⟨σ3, H3, I3, n3⟩ := q3
      obtain ⟨m', hm, w3⟩ := hN σ3 H3 n3
      exact ⟨m', hm, σ3, H3, I3, w3⟩
    | cont =>
      obtain ⟨σ3, H3, I3, n3⟩ := q3
      obtain ⟨m', hm, w3⟩ := hN σ3 H3 n3
      exact ⟨m', hm, σ3, H3, I3, w3⟩
    | brk => exact q3
    | ret v => exact q3
  | false =>
    rw [if_neg Bool.false_ne_true]
    exact wpAny_execs_nil ⟨σ1, H2, I2, q2⟩
end
structure It where
  go : Nat -> Hp -> Prop
  yld : Nat -> Hp -> V -> Hp -> Prop
  stop : Nat -> Hp -> Prop
def FpOk (X : Cx) (pins : List (Addr × Obj)) (H : Hp) (b : Addr) : Prop :=
  H b = none /\ b ≠ X.env.locals /\ b ∉ X.fs /\ (b ∈ X.ex ∨ X.s₀.heap.objs.size <= b) /\ (∀ x c, X.env.cells.lookup x = some c -> c ≠ b) /\ ∀ p ∈ X.pn ++ pins, p.1 ≠ b
theorem Inv.fpOk {X : Cx} {pins : List (Addr × Obj)} {σ : St} {H H' : Hp} {s : Shared} {b : Addr} (I : Inv X pins σ H s) (hb : s.heap.objs.size <= b) (hn : H' b = none) : FpOk X pins H' b := by
  refine ⟨hn, Nat.ne_of_gt (Nat.lt_of_lt_of_le I.lt hb), I.nofs hb, .inr (Nat.le_trans I.sz hb), fun x c e z => ?_, fun p hp z => ?_⟩
  · obtain ⟨v, q⟩ := I.cell x c e
    exact absurd (Nat.lt_of_lt_of_le q.lt (by rw [z]; exact hb)) (Nat.lt_irrefl _)
  · exact absurd (Nat.lt_of_lt_of_le (Heap.lt_size (I.pin p hp).1) (by rw [z]; exact hb)) (Nat.lt_irrefl _)
structure Turn (P : Program) (w : World) (K : PySem.W.Frag) (tg : Expr) (J : It) (fp : List Addr) (it : Addr) (tn : Nat -> Heap -> Prop) : Prop where
  mem : it ∈ fp
  obj : ∀ i h, tn i h -> ∀ b ∈ fp, ∃ o, h.get? b = some o /\ ∀ v, o.data ≠ .cell v
  keep : ∀ i h h', tn i h -> (∀ b ∈ fp, ∀ o, h.get? b = some o -> h'.get? b = some o) -> tn i h'
  item : ∀ (X : Cx), X.prog = P -> X.w = w -> X.K = K -> X.calm = true -> ∀ (i : Nat) (pins : List (Addr × Obj)) (s : Shared) (σ : St) (H : Hp) (E : Value -> Shared -> Prop), Inv X pins σ H s -> (∀ b ∈ fp, FpOk X pins H b) -> tn i s.heap -> J.go i H ->
    wpAny (model P w) X.A (pyNext (.ref it)) (fun r s1 => ∃ u, r = some u ∧
      wpAny (model P w) X.A (letOwnedTupleGo tg (.ref it) u) (fun _ s2 => ∃ x H', Inv X pins σ H' s2 /\ RelV x u /\ J.yld i H x H' /\ tn (i + 1) s2.heap /\ ∀ b ∈ fp, H' b = none) E s1) E s
  done : ∀ (X : Cx), X.prog = P -> X.w = w -> X.K = K -> X.calm = true -> ∀ (i : Nat) (pins : List (Addr × Obj)) (s : Shared) (σ : St) (H : Hp) (E : Value -> Shared -> Prop), Inv X pins σ H s -> (∀ b ∈ fp, FpOk X pins H b) -> tn i s.heap -> J.stop i H ->
    wpAny (model P w) X.A (pyNext (.ref it)) (fun r s1 => r = none /\ Inv X pins σ H s1) E s
  self : ∀ (A : Around) (i : Nat) (s : Shared) (Q : Value -> Shared -> Prop) (E : Value -> Shared -> Prop), tn i s.heap -> Q (.ref it) s -> wpAny (model P w) A (pyIter (.ref it)) Q E s
abbrev TI := St -> Hp -> (It -> Hp -> Prop) -> Prop
def PIE (X : Cx) (pins : List (Addr × Obj)) (σ : St) (tg : Expr) (R : It -> Hp -> Prop) (itv : Value) (s2 : Shared) : Prop :=
  ∃ (it : Addr) (fp : List Addr) (tn : Nat -> Heap -> Prop) (J : It) (H' : Hp), itv = .ref it /\ Inv X pins σ H' s2 /\ Turn X.prog X.w X.K tg J fp it tn /\ tn 0 s2.heap /\ (∀ b ∈ fp, FpOk X pins H' b) /\ R J H'
def PI (X : Cx) (tg iter : Expr) (wi : TI) : Prop :=
  ∀ (pins : List (Addr × Obj)) (s : Shared) (σ : St) (H : Hp) (R : It -> Hp -> Prop), Inv X pins σ H s -> wi σ H R ->
    wpAny (model X.prog X.w) X.A (eval iter X.env) (fun v s1 => wpAny (model X.prog X.w) X.A (pyIter v) (PIE X pins σ tg R) X.xe s1) X.xe s
theorem go_of {M : Model} {A : Around} {E : Value -> Shared -> Prop} {s : Shared} {tg : Expr} {it : Addr} {u : Value} {o : Obj} {n : String} {vs : Array Value} {Q : Unit -> Shared -> Prop} (ho : s.heap.get? it = some o) (hc : o.cls = .type n) (hd : o.data = .fields vs)
    (hn : ["enumerate", "zip", "dict_itemiterator", "dict_reverseitemiterator", "odict_iterator", "itertools.zip_longest", "itertools.pairwise"].contains n = false) (hQ : Q () s) : wpAny M A (letOwnedTupleGo tg (.ref it) u) Q E s := by
  unfold letOwnedTupleGo
  cases tg <;> first
    | exact wpAny_pure hQ
    | (cases u <;> first
        | exact wpAny_pure hQ
        | (refine wpAny_bind (wpAny_load ho ?_)
           rw [hc, hd]
           show wpAny M A (if (["enumerate", "zip", "dict_itemiterator", "dict_reverseitemiterator", "odict_iterator", "itertools.zip_longest", "itertools.pairwise"].contains n && vs[0]? == some (rawInt _)) = true then _ else _) Q E s
           rw [if_neg (by intro h; rw [hn, Bool.false_and] at h; cases h)]
           exact wpAny_pure hQ))
def Itl (K : PySem.W.Frag) (a : Addr) : It :=
  ⟨fun i H => ∃ xs x, SqL K H a xs /\ xs[i]? = some x, fun i H x H' => H' = H /\ ∀ xs, SqL K H a xs -> xs[i]? = some x, fun i H => ∃ xs, SqL K H a xs /\ xs.length <= i⟩
def Itt (K : PySem.W.Frag) (a : Addr) : It :=
  ⟨fun i H => ∃ xs x, SqT K H a xs /\ xs[i]? = some x, fun i H x H' => H' = H /\ ∀ xs, SqT K H a xs -> xs[i]? = some x, fun i H => ∃ xs, SqT K H a xs /\ xs.length <= i⟩
def Itr (lo : Int) (n : Nat) : It := ⟨fun i _ => i < n, fun i H x H' => H' = H /\ x = .int (lo + i), fun i _ => n <= i⟩
theorem turn_list {P : Program} {w : World} {K : PySem.W.Frag} {tg : Expr} (a it : Addr) : Turn P w K tg (Itl K a) [it] it (fun i h => h.IsListIter it a i) where
  mem := by simp
  obj := fun i h st b hb => by
    have e : b = it := by simpa using hb
    subst e
    obtain ⟨o, e, c, d⟩ := st
    exact ⟨o, e, fun v z => by rw [d] at z; cases z⟩
  keep := fun i h h' st k => st.at fun o e => k it (by simp) o e
  item := by
    intro X hP hw hK hc i pins s σ H E I hf st hg
    subst hP hw hK
    obtain ⟨xs, x, hq, hx⟩ := hg
    obtain ⟨its, rv, p, hz⟩ := I.list hq
    obtain ⟨u, hu, ru⟩ := rv.get hx
    obtain ⟨f0, f1, f2, f3, f4, f5⟩ := hf it (by simp)
    refine wpAny_pyNext_list_item st p.isList (x := u) (by simpa using hu) fun h' st' sb => ?_
    have I1 : Inv X pins σ H { s with heap := h' } := I.turned (t' := s.toks) (fun b o hb e => (sb.2 b hb).trans e) f0 f1 f3 f4 f5
    obtain ⟨o, e, c, d⟩ := id st'
    exact ⟨u, rfl, go_of (s := { s with heap := h' }) e c d (by decide) ⟨x, H, I1, ru, ⟨rfl, fun ys hy => by rw [I.list_inj hy hq]; exact hx⟩, st', fun b hb => (hf b hb).1⟩⟩
  done := by
    intro X hP hw hK hc i pins s σ H E I hf st hg
    subst hP hw hK
    obtain ⟨xs, hq, hx⟩ := hg
    obtain ⟨its, rv, p, hz⟩ := I.list hq
    obtain ⟨f0, f1, f2, f3, f4, f5⟩ := hf it (by simp)
    have hl := rv.length
    exact wpAny_pyNext_list_end (I.ok.hd hc) st p.isList (by simp; omega) fun h' eb => ⟨rfl, I.turned (t' := s.toks) (fun b o hb e => eb b o hb e) f0 f1 f3 f4 f5⟩
  self := fun _ _ _ _ _ st h => wpAny_pyIter_listiter st h
theorem turn_tuple {P : Program} {w : World} {K : PySem.W.Frag} {tg : Expr} (a it : Addr) : Turn P w K tg (Itt K a) [it] it (fun i h => h.IsTupleIter it a i) where
  mem := by simp
  obj := fun i h st b hb => by
    have e : b = it := by simpa using hb
    subst e
    obtain ⟨o, e, c, d⟩ := st
    exact ⟨o, e, fun v z => by rw [d] at z; cases z⟩
  keep := fun i h h' st k => st.at fun o e => k it (by simp) o e
  item := by
    intro X hP hw hK hc i pins s σ H E I hf st hg
    subst hP hw hK
    obtain ⟨xs, x, hq, hx⟩ := hg
    obtain ⟨its, rv, p, hz⟩ := I.tuple hq
    obtain ⟨u, hu, ru⟩ := rv.get hx
    obtain ⟨f0, f1, f2, f3, f4, f5⟩ := hf it (by simp)
    refine wpAny_pyNext_tuple_item st (show s.heap.IsTuple a its.toArray from p) (x := u) (by simpa using hu) fun h' st' sb => ?_
    have I1 : Inv X pins σ H { s with heap := h' } := I.turned (t' := s.toks) (fun b o hb e => (sb.2 b hb).trans e) f0 f1 f3 f4 f5
    obtain ⟨o, e, c, d⟩ := id st'
    exact ⟨u, rfl, go_of (s := { s with heap := h' }) e c d (by decide) ⟨x, H, I1, ru, ⟨rfl, fun ys hy => by rw [I.tuple_inj hy hq]; exact hx⟩, st', fun b hb => (hf b hb).1⟩⟩
  done := by
    intro X hP hw hK hc i pins s σ H E I hf st hg
    subst hP hw hK
    obtain ⟨xs, hq, hx⟩ := hg
    obtain ⟨its, rv, p, hz⟩ := I.tuple hq
    obtain ⟨f0, f1, f2, f3, f4, f5⟩ := hf it (by simp)
    have hl := rv.length
    exact wpAny_pyNext_tuple_end (I.ok.hd hc) st (show s.heap.IsTuple a its.toArray from p) (by simp; omega) fun h' eb => ⟨rfl, I.turned (t' := s.toks) (fun b o hb e => eb b o hb e) f0 f1 f3 f4 f5⟩
  self := fun _ _ _ _ _ st h => wpAny_pyIter_tupleiter st h
theorem turn_range {P : Program} {w : World} {K : PySem.W.Frag} {tg : Expr} (it : Addr) (lo : Int) (n : Nat) : Turn P w K tg (Itr lo n) [it] it (fun i h => IsRangeIter h it (lo + (i : Nat) * 1) ((n : Int) - (i : Nat)) 1) where
  mem := by simp
  obj := fun i h st b hb => by
    have e : b = it := by simpa using hb
    subst e
    exact ⟨_, st, fun v z => by
      have z' : Data.fields _ = Data.cell v := z
      cases z'⟩
  keep := fun i h h' st k => k it (by simp) _ st
  item := by
    intro X hP hw hK hc i pins s σ H E I hf st hg
    subst hP hw hK
    obtain ⟨f0, f1, f2, f3, f4, f5⟩ := hf it (by simp)
    have W := Walks.range (prog := X.prog) (w := X.w) (I.ok.hd hc) it lo 1 n
    refine W.item i s _ _ hg st fun v h' tk hv st' kk => ?_
    obtain ⟨t, rfl⟩ := hv
    have I1 : Inv X pins σ H { s with heap := h', toks := tk } := I.turned (fun b o hb e => kk b o (by simpa using hb) e) f0 f1 f3 f4 f5
    refine ⟨_, rfl, go_of (s := { s with heap := h', toks := tk }) (n := "range_iterator") st' rfl rfl (by decide) ⟨.int (lo + i), H, I1, ⟨t, ?_⟩, ⟨rfl, rfl⟩, st', fun b hb => (hf b hb).1⟩⟩
    rw [Int.mul_one]
  done := by
    intro X hP hw hK hc i pins s σ H E I hf st hg
    subst hP hw hK
    obtain ⟨f0, f1, f2, f3, f4, f5⟩ := hf it (by simp)
    exact wpAny_pyNext_range_end (I.ok.hd hc) st (by have : n <= i := hg; omega) fun h' eb => ⟨rfl, I.turned (t' := s.toks) (fun b o hb e => eb b o hb e) f0 f1 f3 f4 f5⟩
  self := fun _ _ _ _ _ st h => wpAny_pyIter_rangeiter st h
end L2
namespace L2
open PySem PySem.Spec PyProof.Rows
section
variable {X : Cx} {tg : Expr}
def iList (K : PySem.W.Frag) (tl : TE) : TI := fun σ H R => tl σ H fun x H1 => ∃ a, x = .ref a /\ (∃ xs, SqL K H1 a xs) /\ R (Itl K a) H1
def iTup (K : PySem.W.Frag) (tl : TE) : TI := fun σ H R => tl σ H fun x H1 => ∃ a, x = .ref a /\ (∃ xs, SqT K H1 a xs) /\ R (Itt K a) H1
theorem pi_list {l : Expr} {tl : TE} (hl : PE X l tl) : PI X tg l (iList X.K tl) := by
  intro pins s σ H R I h
  refine thn (hl pins s σ H _ I h) fun v s1 ⟨x, H1, I1, r1, q1⟩ => ?_
  obtain ⟨a, e, ⟨xs, hq⟩, q⟩ := q1
  subst e
  cases r1
  obtain ⟨its, rv, p, hz⟩ := I1.list hq
  refine wpAny_pyIter_list p.isList ?_
  refine ⟨s1.heap.objs.size, [s1.heap.objs.size], _, _, H1, rfl, I1.kept (t' := s1.toks) fun b o e => Heap.get?_push_of_some _ e, turn_list a _, ⟨_, Heap.get?_push_size _ rfl, rfl, rfl⟩, fun b hb => ?_, q⟩
  have e : b = s1.heap.objs.size := by simpa using hb
  subst e
  exact I1.fpOk (Nat.le_refl _) (I1.hok.fresh (Nat.le_refl _))
theorem pi_tup {l : Expr} {tl : TE} (hl : PE X l tl) : PI X tg l (iTup X.K tl) := by
  intro pins s σ H R I h
  refine thn (hl pins s σ H _ I h) fun v s1 ⟨x, H1, I1, r1, q1⟩ => ?_
  obtain ⟨a, e, ⟨xs, hq⟩, q⟩ := q1
  subst e
  cases r1
  obtain ⟨its, rv, p, hz⟩ := I1.tuple hq
  refine wpAny_pyIter_tuple (show s1.heap.IsTuple a its.toArray from p) ?_
  refine ⟨s1.heap.objs.size, [s1.heap.objs.size], _, _, H1, rfl, I1.kept (t' := s1.toks) fun b o e => Heap.get?_push_of_some _ e, turn_tuple a _, ⟨_, Heap.get?_push_size _ rfl, rfl, rfl⟩, fun b hb => ?_, q⟩
  have e : b = s1.heap.objs.size := by simpa using hb
  subst e
  exact I1.fpOk (Nat.le_refl _) (I1.hok.fresh (Nat.le_refl _))
theorem range_it {pins : List (Addr × Obj)} {σ : St} {H : Hp} {s : Shared} {R : It -> Hp -> Prop} {E : Value -> Shared -> Prop} {lo hi : Int} {t u v : Tok} {tk : Nat} (I : Inv X pins σ H s) (h1 : -(2 ^ 62) <= lo) (h2 : lo < 2 ^ 62) (h3 : -(2 ^ 62) <= hi) (h4 : hi < 2 ^ 62)
    (q : R (Itr lo (hi - lo).toNat) H) : wpAny (model X.prog X.w) X.A (pyIter (.ref s.heap.objs.size)) (PIE X pins σ tg R) E { s with heap := s.heap.push { cls := .type "range", data := .fields #[.int lo t, .int hi u, .int 1 v] }, toks := tk } := by
  refine wpAny_pyIter_range (IsRange.new ..) (small_one h1 h2 h3 h4) ?_
  have I1 : Inv X pins σ H { s with heap := s.heap.push { cls := .type "range", data := .fields #[.int lo t, .int hi u, .int 1 v] }, toks := tk } := I.kept fun b o e => Heap.get?_push_of_some _ e
  refine ⟨(s.heap.push { cls := .type "range", data := .fields #[.int lo t, .int hi u, .int 1 v] }).objs.size, [(s.heap.push { cls := .type "range", data := .fields #[.int lo t, .int hi u, .int 1 v] }).objs.size], _, _, H, rfl,
    I1.kept (t' := tk) fun b o e => Heap.get?_push_of_some _ e, turn_range _ lo (hi - lo).toNat, ?_, fun b hb => ?_, q⟩
  · have e1 : lo + ((0 : Nat) : Int) * 1 = lo := by simp
    have e2 : (((hi - lo).toNat : Nat) : Int) - ((0 : Nat) : Int) = Builtin.Range.rangeSize lo hi 1 := by rw [rangeSize_one]; split <;> omega
    show IsRangeIter _ _ (lo + ((0 : Nat) : Int) * 1) ((((hi - lo).toNat : Nat) : Int) - ((0 : Nat) : Int)) 1
    rw [e1, e2]
    exact Heap.get?_push_size _ rfl
  · have e : b = (s.heap.push { cls := .type "range", data := .fields #[.int lo t, .int hi u, .int 1 v] }).objs.size := by simpa using hb
    subst e
    exact I1.fpOk (Nat.le_refl _) (I1.hok.fresh (Nat.le_refl _))
def iRng1 (ta : TA) : TI := fun σ H R => ta σ H fun vs H1 => ∃ j : Int, vs = [.int j] /\ -(2 ^ 62) <= j /\ j < 2 ^ 62 /\ R (Itr 0 j.toNat) H1
theorem pi_range1 {a : Expr} {ta : TA} {p pos : Pos} (hg : Gl X "range") (hm : X.mg "range" = none) (ha : PA X [a] ta) (hs : starEach [a] X.env = [(false, eval a X.env)] := by rfl) : PI X tg (.Call (.Name "range" p) [a] [] pos) (iRng1 ta) := by
  intro pins s σ H R I h
  refine Call_ (ld_blt I hg hm boot_range (PyProof.Rows.callWith_type1 (thn (ha pos pins s σ H _ I h) fun us s1 ⟨vs, H1, I1, r1, q1⟩ => ?_) hs rfl))
  obtain ⟨j, e, q1, q2, q⟩ := q1
  subst e
  cases r1 with
  | cons r rr =>
    cases rr
    obtain ⟨t, rfl⟩ := r
    exact call_range_1 (range_it I1 (by omega) (by omega) q1 q2 (by simpa using q))
def tFor (wi : TI) (g : TG) (tb : TS) : TS := fun D σ H => wi σ H fun J H1 => ∃ W : Nat -> Nat -> St -> Hp -> Prop, (∃ m, W 0 m σ H1) /\ ∀ i m σ H, W i m σ H ->
  (J.stop i H /\ D.nx σ H) ∨ (J.go i H /\ ∃ N : St -> Hp -> Prop, (∀ σ' H', N σ' H' -> ∃ m', m' < m /\ W (i + 1) m' σ' H') /\ ∀ x H', J.yld i H x H' -> g x σ H' fun σ2 H2 => tb { D with nx := N, ct := N, bk := D.nx } σ2 H2)
def pinsAt (fp : List Addr) (h : Heap) : List (Addr × Obj) := fp.filterMap fun b => (h.get? b).map fun o => (b, o)
theorem mem_pinsAt {fp : List Addr} {h : Heap} {b : Addr} {o : Obj} (hb : b ∈ fp) (e : h.get? b = some o) : (b, o) ∈ pinsAt fp h := List.mem_filterMap.mpr ⟨b, hb, by rw [e]; rfl⟩
theorem of_pinsAt {fp : List Addr} {h : Heap} {p : Addr × Obj} (hp : p ∈ pinsAt fp h) : p.1 ∈ fp /\ h.get? p.1 = some p.2 := by
  obtain ⟨b, hb, e⟩ := List.mem_filterMap.mp hp
  cases q : h.get? b with
  | none => rw [q] at e; cases e
  | some o =>
    rw [q] at e
    have e' : (b, o) = p := Option.some.inj e
    subst e'
    exact ⟨hb, q⟩
theorem Inv.pinned {pins : List (Addr × Obj)} {σ : St} {H : Hp} {s : Shared} {fp : List Addr} (I : Inv X pins σ H s) (hf : ∀ b ∈ fp, FpOk X pins H b) (ho : ∀ b ∈ fp, ∃ o, s.heap.get? b = some o /\ ∀ v, o.data ≠ .cell v) : Inv X (pins ++ pinsAt fp s.heap) σ H s :=
  I.pins_of fun p hp => (List.mem_append.mp hp).elim (fun z => I.pin p (List.mem_append_right _ z)) fun z => by
    obtain ⟨hb, e⟩ := of_pinsAt z
    obtain ⟨f0, f1, f2, _⟩ := hf p.1 hb
    obtain ⟨o, e', d⟩ := ho p.1 hb
    rw [e] at e'; cases e'
    exact ⟨e, f0, f1, f2, d⟩
theorem Inv.unpinned {pins pl : List (Addr × Obj)} {σ : St} {H : Hp} {s : Shared} (I : Inv X (pins ++ pl) σ H s) : Inv X pins σ H s := I.pins_of fun p hp => I.pin p (List.mem_append_right _ (List.mem_append_left _ hp))
theorem ps_for {iter : Expr} {body : List Stmt} {wi : TI} {g : TG} {tb : TS} {pos : Pos} (hp : PassesOwn (model X.prog X.w) X.A X.env X.xe) (hc : X.calm = true) (hi : PI X tg iter wi) (hg : PG X tg g) (hb : PSs X body tb)
    (hs : ∀ x, foldedSetIterable iter X.env x = pure x := by intro _; rfl) : PS X (.For tg iter body [] pos) (tFor wi g tb) := by
  intro pins s σ H D I h
  refine wpAny_For (thn (hi pins s σ H _ I h) fun v s1 h1 => thn h1 fun itv s2 h2 => ?_) hs
  obtain ⟨it, fp, tn, J, H2, e, I2, T, st2, f2, W, ⟨m0, w0⟩, turn⟩ := h2
  subst e
  have stat : ∀ {H' : Hp}, (∀ b ∈ fp, H' b = none) -> ∀ b ∈ fp, FpOk X pins H' b := fun hn b hb => ⟨hn b hb, (f2 b hb).2⟩
  refine codeAny_forLoop_any (fun n s' => ∃ i σ' H', Inv X pins σ' H' s' /\ tn i s'.heap /\ (∀ b ∈ fp, H' b = none) /\ W i n σ' H') ?_ m0 ⟨0, σ, H2, I2, st2, fun b hb => (f2 b hb).1, w0⟩
  rintro n s3 ⟨i, σ3, H3, I3, st3, fr3, w3⟩
  rcases turn i n σ3 H3 w3 with ⟨stop, qn⟩ | ⟨go, N, hN, step⟩
  · refine wpAny_passesOwn hp (thn (T.done X rfl rfl rfl hc i pins s3 σ3 H3 X.xe I3 (stat fr3) st3 stop) fun r s4 ⟨hr, I4⟩ => ?_)
    subst hr
    exact wpAny_execs_nil ⟨σ3, H3, I4, qn⟩
  · refine wpAny_passesOwn hp (thn (T.item X rfl rfl rfl hc i pins s3 σ3 H3 X.xe I3 (stat fr3) st3 go) fun r s4 ⟨u, hr, h4⟩ => ?_)
    subst hr
    refine wpAny_passesOwn hp (thn h4 fun _ s5 ⟨x, H5, I5, r5, y5, st5, fr5⟩ => ?_)
    have I5' := I5.pinned (stat fr5) (T.obj _ _ st5)
    refine wpAny_passesOwn hp (thn (hg _ s5 σ3 H5 x u _ I5' r5 (step x H5 y5)) fun _ s6 ⟨σ6, H6, I6, q6⟩ => ?_)
    refine wpAny_passesOwn hp (thn (hb _ s6 σ6 H6 _ I6 q6) fun f s7 q7 => ?_)
    have again : ∀ {σ7 : St} {H7 : Hp}, Inv X (pins ++ pinsAt fp s5.heap) σ7 H7 s7 -> N σ7 H7 -> ∃ m, m < n /\ ∃ i σ' H', Inv X pins σ' H' s7 /\ tn i s7.heap /\ (∀ b ∈ fp, H' b = none) /\ W i m σ' H' := fun {σ7 H7} I7 n7 => by
      obtain ⟨m', hm, w7⟩ := hN σ7 H7 n7
      refine ⟨m', hm, i + 1, σ7, H7, I7.unpinned, T.keep _ _ _ st5 fun b hb o e => (I7.pin (b, o) (List.mem_append_right _ (List.mem_append_right _ (mem_pinsAt hb e)))).1, fun b hb => ?_, w7⟩
      obtain ⟨o, e, d⟩ := T.obj _ _ st5 b hb
      exact (I7.pin (b, o) (List.mem_append_right _ (List.mem_append_right _ (mem_pinsAt hb e)))).2.1
    cases f with
    | next => obtain ⟨σ7, H7, I7, n7⟩ := q7; exact again I7 n7
    | cont => obtain ⟨σ7, H7, I7, n7⟩ := q7; exact again I7 n7
    | brk => obtain ⟨σ7, H7, I7, q7⟩ := q7; exact ⟨σ7, H7, I7.unpinned, q7⟩
    | ret v => obtain ⟨x7, σ7, H7, I7, r7, q7⟩ := q7; exact ⟨x7, σ7, H7, I7.unpinned, r7, q7⟩
end
theorem for_list {K : PySem.W.Frag} {a : Addr} {xs : List V} {g : TG} {tb : TS} {D : Ends} {σ : St} {H : Hp} (Pv : Nat -> St -> Hp -> Prop) (h0 : Pv 0 σ H) (hl : ∀ i σ H, i <= xs.length -> Pv i σ H -> SqL K H a xs)
    (hs : ∀ i x σ H, xs[i]? = some x -> Pv i σ H -> g x σ H fun σ2 H2 => tb { D with nx := Pv (i + 1), ct := Pv (i + 1), bk := D.nx } σ2 H2) (hd : ∀ σ H, Pv xs.length σ H -> D.nx σ H) :
    ∃ W : Nat -> Nat -> St -> Hp -> Prop, (∃ m, W 0 m σ H) /\ ∀ i m σ H, W i m σ H ->
      ((Itl K a).stop i H /\ D.nx σ H) ∨ ((Itl K a).go i H /\ ∃ N : St -> Hp -> Prop, (∀ σ' H', N σ' H' -> ∃ m', m' < m /\ W (i + 1) m' σ' H') /\ ∀ x H', (Itl K a).yld i H x H' -> g x σ H' fun σ2 H2 => tb { D with nx := N, ct := N, bk := D.nx } σ2 H2) := by
  refine ⟨fun i m σ H => m = xs.length - i /\ i <= xs.length /\ Pv i σ H, ⟨xs.length, by simp, Nat.zero_le _, h0⟩, ?_⟩
  rintro i m σ H ⟨rfl, hi, p⟩
  have q := hl i σ H hi p
  by_cases hlt : i < xs.length
  · refine .inr ⟨⟨xs, xs[i], q, by simp [hlt]⟩, Pv (i + 1), fun σ' H' p' => ⟨xs.length - (i + 1), by omega, rfl, hlt, p'⟩, fun x H' y => ?_⟩
    obtain ⟨e, y⟩ := y
    subst e
    exact hs i x σ _ (y xs q) p
  · have e : i = xs.length := by omega
    subst e
    exact .inl ⟨⟨xs, q, Nat.le_refl _⟩, hd σ H p⟩
theorem for_range {lo : Int} {n : Nat} {g : TG} {tb : TS} {D : Ends} {σ : St} {H : Hp} (Pv : Nat -> St -> Hp -> Prop) (h0 : Pv 0 σ H)
    (hs : ∀ i σ H, i < n -> Pv i σ H -> g (.int (lo + i)) σ H fun σ2 H2 => tb { D with nx := Pv (i + 1), ct := Pv (i + 1), bk := D.nx } σ2 H2) (hd : ∀ σ H, Pv n σ H -> D.nx σ H) :
    ∃ W : Nat -> Nat -> St -> Hp -> Prop, (∃ m, W 0 m σ H) /\ ∀ i m σ H, W i m σ H ->
      ((Itr lo n).stop i H /\ D.nx σ H) ∨ ((Itr lo n).go i H /\ ∃ N : St -> Hp -> Prop, (∀ σ' H', N σ' H' -> ∃ m', m' < m /\ W (i + 1) m' σ' H') /\ ∀ x H', (Itr lo n).yld i H x H' -> g x σ H' fun σ2 H2 => tb { D with nx := N, ct := N, bk := D.nx } σ2 H2) := by
  refine ⟨fun i m σ H => m = n - i /\ i <= n /\ Pv i σ H, ⟨n, by simp, Nat.zero_le _, h0⟩, ?_⟩
  rintro i m σ H ⟨rfl, hi, p⟩
  by_cases hlt : i < n
  · refine .inr ⟨hlt, Pv (i + 1), fun σ' H' p' => ⟨n - (i + 1), by omega, rfl, hlt, p'⟩, fun x H' y => ?_⟩
    obtain ⟨e, y⟩ := y
    subst e y
    exact hs i σ _ hlt p
  · have e : i = n := by omega
    subst e
    exact .inl ⟨Nat.le_refl _, hd σ H p⟩
theorem while_by {c : TT} {tb : TS} {D : Ends} {σ : St} {H : Hp} (Pv : St -> Hp -> Prop) (μ : St -> Hp -> Nat) (h0 : Pv σ H)
    (hs : ∀ σ H, Pv σ H -> c σ H fun b H1 => if b = true then tb { D with nx := fun σ' H' => Pv σ' H' /\ μ σ' H' < μ σ H, ct := fun σ' H' => Pv σ' H' /\ μ σ' H' < μ σ H, bk := D.nx } σ H1 else D.nx σ H1)
    (mono : ∀ σ H Q Q', (∀ b H1, Q b H1 -> Q' b H1) -> c σ H Q -> c σ H Q') : tWhile c tb D σ H := by
  refine ⟨fun m σ H => m = μ σ H /\ Pv σ H, ⟨_, rfl, h0⟩, ?_⟩
  rintro m σ H ⟨rfl, p⟩
  refine mono σ H _ _ (fun b H1 q => ?_) (hs σ H p)
  cases b with
  | true => exact ⟨_, fun σ' H' ⟨p', l⟩ => ⟨_, l, rfl, p'⟩, q⟩
  | false => exact q
end L2
namespace L2
open PySem PySem.Spec PyProof.Rows
abbrev R2 := V -> V -> Hp -> VK -> Prop
def OpR (X : Cx) (f : Value -> Value -> Sem Value) (r : R2) : Prop :=
  ∀ (pins : List (Addr × Obj)) (s : Shared) (σ : St) (H : Hp) (x y : V) (v u : Value) (Q : VK), Inv X pins σ H s -> RelV x v -> RelV y u -> r x y H Q ->
    wpAny (model X.prog X.w) X.A (f v u) (EP X pins σ Q) X.xe s
def UnR (X : Cx) (f : Value -> Sem Value) (r : V -> Hp -> VK -> Prop) : Prop :=
  ∀ (pins : List (Addr × Obj)) (s : Shared) (σ : St) (H : Hp) (x : V) (v : Value) (Q : VK), Inv X pins σ H s -> RelV x v -> r x H Q ->
    wpAny (model X.prog X.w) X.A (f v) (EP X pins σ Q) X.xe s
def CallR (X : Cx) (f : Value) (r : List V -> Hp -> VK -> Prop) : Prop :=
  ∀ (pins : List (Addr × Obj)) (s : Shared) (σ : St) (H : Hp) (xs : List V) (us : List Value) (Q : VK), Inv X pins σ H s -> Vals xs us -> r xs H Q ->
    wpAny (model X.prog X.w) X.A (call f us) (EP X pins σ Q) X.xe s
def tOp (r : R2) (ta tb : TE) : TE := fun σ H Q => ta σ H fun x H1 => tb σ H1 fun y H2 => r x y H2 Q
def tUn (r : V -> Hp -> VK -> Prop) (ta : TE) : TE := fun σ H Q => ta σ H fun x H1 => r x H1 Q
def rI (C : Int -> Int -> Prop) (g : Int -> Int -> V) : R2 := fun x y H Q => ∃ i j, x = .int i /\ y = .int j /\ C i j /\ Q (g i j) H
def rI0 (g : Int -> Int -> V) : R2 := fun x y H Q => ∃ i j, x = .int i /\ y = .int j /\ Q (g i j) H
def rU (g : Int -> V) : V -> Hp -> VK -> Prop := fun x H Q => ∃ i, x = .int i /\ Q (g i) H
section
variable {X : Cx} {a b c : Expr} {ta tb tc : TE} {pos : Pos}
theorem binT (ha : PE X a ta) (hb : PE X b tb) {pins : List (Addr × Obj)} {s : Shared} {σ : St} {H : Hp} {R : V -> V -> Hp -> Prop} (I : Inv X pins σ H s)
    (h : ta σ H fun x H1 => tb σ H1 fun y H2 => R x y H2) {Q : Value -> Shared -> Prop} {f : Value -> Value -> Sem Value}
    (hf : ∀ v u s2 x y H2, Inv X pins σ H2 s2 -> RelV x v -> RelV y u -> R x y H2 -> wpAny (model X.prog X.w) X.A (f v u) Q X.xe s2) :
    wpAny (model X.prog X.w) X.A (eval a X.env) (fun v s₁ => wpAny (model X.prog X.w) X.A (eval b X.env) (fun u s₂ => wpAny (model X.prog X.w) X.A (f v u) Q X.xe s₂) X.xe s₁) X.xe s := by
  refine thn (ha pins s σ H _ I h) fun v s1 ⟨x, H1, I1, r1, q1⟩ => ?_
  refine thn (hb pins s1 σ H1 _ I1 q1) fun u s2 ⟨y, H2, I2, r2, q2⟩ => ?_
  exact hf v u s2 x y H2 I2 r1 r2 q2
theorem pe_op {op : Operator} {r : R2} (ho : OpR X (binaryOp op) r) (ha : PE X a ta) (hb : PE X b tb) : PE X (.BinOp a op b pos) (tOp r ta tb) := by
  intro pins s σ H Q I h
  exact wpAny_BinOp (binT ha hb I h fun v u s2 x y H2 I2 rx ry q => ho pins s2 σ H2 x y v u Q I2 rx ry q)
theorem pe_un {op : UnaryOp} {r : V -> Hp -> VK -> Prop} (ho : UnR X (unaryOp op) r) (ha : PE X a ta) : PE X (.UnaryOp op a pos) (tUn r ta) := by
  intro pins s σ H Q I h
  exact UnaryOp_ (thn (ha pins s σ H _ I h) fun v s1 ⟨x, H1, I1, r1, q1⟩ => ho pins s1 σ H1 x v Q I1 r1 q1)
theorem opI {f : Value -> Value -> Sem Value} {C : Int -> Int -> Prop} {g : Int -> Int -> Int}
    (rule : ∀ (i j : Int) (t u : Tok) (s : Shared) (Q : Value -> Shared -> Prop) (E : Value -> Shared -> Prop), C i j -> Q (.int (g i j) s.toks) { s with toks := s.toks + 1 } -> wpAny (model X.prog X.w) X.A (f (.int i t) (.int j u)) Q E s) :
    OpR X f (rI C fun i j => .int (g i j)) := by
  intro pins s σ H x y v u Q I rx ry h
  obtain ⟨i, j, rfl, rfl, hc, q⟩ := h
  obtain ⟨t, rfl⟩ := rx
  obtain ⟨t', rfl⟩ := ry
  exact rule i j t t' s _ _ hc ⟨.int (g i j), H, I.tok _, ⟨_, rfl⟩, q⟩
theorem opI0 {f : Value -> Value -> Sem Value} {g : Int -> Int -> Int}
    (rule : ∀ (i j : Int) (t u : Tok) (s : Shared) (Q : Value -> Shared -> Prop) (E : Value -> Shared -> Prop), Q (.int (g i j) s.toks) { s with toks := s.toks + 1 } -> wpAny (model X.prog X.w) X.A (f (.int i t) (.int j u)) Q E s) :
    OpR X f (rI0 fun i j => .int (g i j)) := by
  intro pins s σ H x y v u Q I rx ry h
  obtain ⟨i, j, rfl, rfl, q⟩ := h
  obtain ⟨t, rfl⟩ := rx
  obtain ⟨t', rfl⟩ := ry
  exact rule i j t t' s _ _ ⟨.int (g i j), H, I.tok _, ⟨_, rfl⟩, q⟩
theorem opB0 {f : Value -> Value -> Sem Value} {g : Int -> Int -> Bool}
    (rule : ∀ (i j : Int) (t u : Tok) (s : Shared) (Q : Value -> Shared -> Prop) (E : Value -> Shared -> Prop), Q (.bool (g i j)) s -> wpAny (model X.prog X.w) X.A (f (.int i t) (.int j u)) Q E s) :
    OpR X f (rI0 fun i j => .bl (g i j)) := by
  intro pins s σ H x y v u Q I rx ry h
  obtain ⟨i, j, rfl, rfl, q⟩ := h
  obtain ⟨t, rfl⟩ := rx
  obtain ⟨t', rfl⟩ := ry
  exact rule i j t t' s _ _ ⟨.bl (g i j), H, I, rfl, q⟩
def CDiv (i j : Int) : Prop := 0 < j /\ j < 1073741824
def CPow (i j : Int) : Prop := 0 <= j /\ j <= 1000000 /\ i.natAbs < 2 ^ 64
def CMul (i j : Int) : Prop := (-(2 ^ 64) < i /\ i < 2 ^ 64) ∨ (-(2 ^ 64) < j /\ j < 2 ^ 64)
theorem CMul.ok {i j : Int} (h : CMul i j) : IntMulOk i j := by
  rcases h with ⟨h1, h2⟩ | ⟨h1, h2⟩
  · exact .of_left (intBits_le_64 h1 h2)
  · exact .of_right (intBits_le_64 h1 h2)
theorem two_pow_nn (k : Nat) : (0 : Int) <= 2 ^ k := by
  rw [two_pow_cast]
  exact Int.natCast_nonneg _
theorem op_add : OpR X (binaryOp .Add) (rI0 fun i j => .int (i + j)) := opI0 fun _ _ _ _ _ _ _ q => add_int q
theorem op_sub : OpR X (binaryOp .Sub) (rI0 fun i j => .int (i - j)) := opI0 fun _ _ _ _ _ _ _ q => sub_int q
theorem op_mul : OpR X (binaryOp .Mult) (rI CMul fun i j => .int (i * j)) := opI fun _ _ _ _ _ _ _ hc q => mul_int q hc.ok
theorem op_fdiv : OpR X (binaryOp .FloorDiv) (rI CDiv fun i j => .int (i / j)) := opI fun i j _ _ _ _ _ hc q => by
  have h1 : (0 : Int) < j := hc.1
  have h2 : j < 1073741824 := hc.2
  exact floordiv_int (by omega) (by rw [Int.fdiv_eq_ediv_of_nonneg i (by omega)]; exact q) (.inl (PyProof.noPylong_small (by omega)))
theorem op_mod : OpR X (binaryOp .Mod) (rI (fun _ j => 0 < j) fun i j => .int (i % j)) := opI fun i j _ _ _ _ _ hc q => by
  have h1 : (0 : Int) < j := hc
  exact mod_int' (by omega) (by rw [Int.fmod_eq_emod_of_nonneg i (by omega)]; exact q)
theorem op_modN : OpR X (binaryOp .Mod) (rI (fun _ j => j ≠ 0) fun i j => .int (i.fmod j)) := opI fun _ _ _ _ _ _ _ hc q => mod_int' hc q
theorem op_pow : OpR X (binaryOp .Pow) (rI CPow fun i j => .int (i ^ j.toNat)) := opI fun _ _ _ _ _ _ _ hc q => pow_int_small hc.1 hc.2.1 hc.2.2 q
theorem op_shr : OpR X (binaryOp .RShift) (rI (fun _ j => 0 <= j) fun i j => .int (i / 2 ^ j.toNat)) := opI fun i j _ _ _ _ _ hc q =>
  rshift_int hc (by rw [Int.fdiv_eq_ediv_of_nonneg i (two_pow_nn _)]; exact q)
theorem op_and : OpR X (binaryOp .BitAnd) (rI0 fun i j => .int (Builtin.bitAnd i j)) := opI0 fun _ _ _ _ _ _ _ q => and_int q
theorem unI {f : Value -> Sem Value} {g : Int -> Int}
    (rule : ∀ (i : Int) (t : Tok) (s : Shared) (Q : Value -> Shared -> Prop) (E : Value -> Shared -> Prop), Q (.int (g i) s.toks) { s with toks := s.toks + 1 } -> wpAny (model X.prog X.w) X.A (f (.int i t)) Q E s) :
    UnR X f (rU fun i => .int (g i)) := by
  intro pins s σ H x v Q I rx h
  obtain ⟨i, rfl, q⟩ := h
  obtain ⟨t, rfl⟩ := rx
  exact rule i t s _ _ ⟨.int (g i), H, I.tok _, ⟨_, rfl⟩, q⟩
theorem un_neg : UnR X (unaryOp .USub) (rU fun i => .int (-i)) := unI fun _ _ _ _ _ q => neg_int q
end
def scal : V -> V -> Bool
  | .non, .non => true | .non, .int _ => true | .int _, .non => true | .non, .bl _ => true | .bl _, .non => true | .non, .str _ => true | .str _, .non => true
  | .int _, .int _ => true | .bl _, .bl _ => true | .str _, .str _ => true | .byt _, .byt _ => true
  | .int _, .str _ => true | .str _, .int _ => true | .bl _, .str _ => true | .str _, .bl _ => true
  | _, _ => false
def rEq : R2 := fun x y H Q => scal x y = true /\ Q (.bl (decide (x = y))) H
def rNe : R2 := fun x y H Q => scal x y = true /\ Q (.bl (!decide (x = y))) H
theorem dec_int {i j : Int} : decide (V.int i = V.int j) = (i == j) := by
  rw [Bool.eq_iff_iff]
  simp
theorem dec_bl {i j : Bool} : decide (V.bl i = V.bl j) = (i == j) := by
  rw [Bool.eq_iff_iff]
  simp
theorem dec_str {i j : Str} : decide (V.str i = V.str j) = (i == j) := by
  rw [Bool.eq_iff_iff]
  simp
theorem dec_byt {i j : Array UInt8} : decide (V.byt i = V.byt j) = (i.toList == j.toList) := by
  rw [Bool.eq_iff_iff]
  cases i
  cases j
  simp
section
variable {X : Cx} {a b c : Expr} {ta tb tc : TE} {pos : Pos}
theorem fin_bl {pins : List (Addr × Obj)} {σ : St} {H : Hp} {s : Shared} {Q : VK} {k k' : Bool} (I : Inv X pins σ H s) (q : Q (.bl k) H) (e : k = k') : EP X pins σ Q (.bool k') s := by
  subst e
  exact ⟨.bl k, H, I, rfl, q⟩
theorem op_eq : OpR X (compareOp .Eq) rEq := by
  intro pins s σ H x y v u Q I rx ry h
  obtain ⟨hs, q⟩ := h
  cases x with
  | non =>
    cases rx
    cases y with
    | non => cases ry; exact PySem.EqNone.eq_none_none (fin_bl I q (by simp))
    | bl j => cases ry; exact PySem.EqNone.eq_none_bool (fin_bl I q (by simp))
    | int j => obtain ⟨t', rfl⟩ := ry; exact PySem.EqNone.eq_none_int (fin_bl I q (by simp))
    | str j => obtain ⟨t', rfl⟩ := ry; exact PySem.EqNone.eq_none_str (fin_bl I q (by simp))
    | _ => exact absurd (show false = true from hs) Bool.false_ne_true
  | bl i =>
    cases rx
    cases y with
    | non => cases ry; exact PySem.EqNone.eq_bool_none (fin_bl I q (by simp))
    | bl j => cases ry; exact eq_bool (fin_bl I q dec_bl)
    | str j => obtain ⟨t', rfl⟩ := ry; exact PySem.EqMixed.eq_bool_str (fin_bl I q (by simp))
    | _ => exact absurd (show false = true from hs) Bool.false_ne_true
  | int i =>
    obtain ⟨t, rfl⟩ := rx
    cases y with
    | non => cases ry; exact PySem.EqNone.eq_int_none (fin_bl I q (by simp))
    | int j => obtain ⟨t', rfl⟩ := ry; exact eq_int (fin_bl I q dec_int)
    | str j => obtain ⟨t', rfl⟩ := ry; exact PySem.EqMixed.eq_int_str (fin_bl I q (by simp))
    | _ => exact absurd (show false = true from hs) Bool.false_ne_true
  | str i =>
    obtain ⟨t, rfl⟩ := rx
    cases y with
    | non => cases ry; exact PySem.EqNone.eq_str_none (fin_bl I q (by simp))
    | bl j => cases ry; exact PySem.EqMixed.eq_str_bool (fin_bl I q (by simp))
    | int j => obtain ⟨t', rfl⟩ := ry; exact PySem.EqMixed.eq_str_int (fin_bl I q (by simp))
    | str j => obtain ⟨t', rfl⟩ := ry; exact eq_str (fin_bl I q dec_str)
    | _ => exact absurd (show false = true from hs) Bool.false_ne_true
  | byt i =>
    obtain ⟨t, rfl⟩ := rx
    cases y with
    | byt j => obtain ⟨t', rfl⟩ := ry; exact PySem.W.eq_bytes (fin_bl I q dec_byt)
    | _ => exact absurd (show false = true from hs) Bool.false_ne_true
  | _ => cases y <;> exact absurd (show false = true from hs) Bool.false_ne_true
theorem op_ne : OpR X (compareOp .NotEq) rNe := by
  intro pins s σ H x y v u Q I rx ry h
  obtain ⟨hs, q⟩ := h
  cases x with
  | non =>
    cases rx
    cases y with
    | non => cases ry; exact PySem.EqNone.ne_none_none (fin_bl I q (by simp))
    | bl j => cases ry; exact PySem.EqNone.ne_none_bool (fin_bl I q (by simp))
    | int j => obtain ⟨t', rfl⟩ := ry; exact PySem.EqNone.ne_none_int (fin_bl I q (by simp))
    | str j => obtain ⟨t', rfl⟩ := ry; exact PySem.EqNone.ne_none_str (fin_bl I q (by simp))
    | _ => exact absurd (show false = true from hs) Bool.false_ne_true
  | bl i =>
    cases rx
    cases y with
    | non => cases ry; exact PySem.EqNone.ne_bool_none (fin_bl I q (by simp))
    | bl j => cases ry; exact ne_bool (fin_bl I q (congrArg not dec_bl))
    | str j => obtain ⟨t', rfl⟩ := ry; exact PySem.EqMixed.ne_bool_str (fin_bl I q (by simp))
    | _ => exact absurd (show false = true from hs) Bool.false_ne_true
  | int i =>
    obtain ⟨t, rfl⟩ := rx
    cases y with
    | non => cases ry; exact PySem.EqNone.ne_int_none (fin_bl I q (by simp))
    | int j => obtain ⟨t', rfl⟩ := ry; exact ne_int (fin_bl I q (congrArg not dec_int))
    | str j => obtain ⟨t', rfl⟩ := ry; exact PySem.EqMixed.ne_int_str (fin_bl I q (by simp))
    | _ => exact absurd (show false = true from hs) Bool.false_ne_true
  | str i =>
    obtain ⟨t, rfl⟩ := rx
    cases y with
    | non => cases ry; exact PySem.EqNone.ne_str_none (fin_bl I q (by simp))
    | bl j => cases ry; exact PySem.EqMixed.ne_str_bool (fin_bl I q (by simp))
    | int j => obtain ⟨t', rfl⟩ := ry; exact PySem.EqMixed.ne_str_int (fin_bl I q (by simp))
    | str j => obtain ⟨t', rfl⟩ := ry; exact ne_str (fin_bl I q (congrArg not dec_str))
    | _ => exact absurd (show false = true from hs) Bool.false_ne_true
  | byt i =>
    obtain ⟨t, rfl⟩ := rx
    cases y with
    | byt j => obtain ⟨t', rfl⟩ := ry; exact PySem.W.ne_bytes (fin_bl I q (congrArg not dec_byt))
    | _ => exact absurd (show false = true from hs) Bool.false_ne_true
  | _ => cases y <;> exact absurd (show false = true from hs) Bool.false_ne_true
theorem op_lt : OpR X (compareOp .Lt) (rI0 fun i j => .bl (decide (i < j))) := opB0 fun _ _ _ _ _ _ _ q => lt_int q
theorem op_le : OpR X (compareOp .LtE) (rI0 fun i j => .bl (decide (i <= j))) := opB0 fun _ _ _ _ _ _ _ q => le_int q
theorem op_gt : OpR X (compareOp .Gt) (rI0 fun i j => .bl (decide (j < i))) := opB0 fun _ _ _ _ _ _ _ q => gt_int q
theorem op_ge : OpR X (compareOp .GtE) (rI0 fun i j => .bl (decide (j <= i))) := opB0 fun _ _ _ _ _ _ _ q => ge_int q
theorem nomark (b : Expr) {op : CmpOp} (h : op ≠ .In := by decide) (h2 : op ≠ .NotIn := by decide) : behindInMarks op b = false := by
  have e1 : (op == CmpOp.In) = false := by cases op <;> first | rfl | exact absurd rfl h
  have e2 : (op == CmpOp.NotIn) = false := by cases op <;> first | rfl | exact absurd rfl h2
  cases b <;> simp [behindInMarks, e1, e2]
theorem pe_cmpR {op : CmpOp} {r : R2} (ho : OpR X (compareOp op) r) (ha : PE X a ta) (hb : PE X b tb) (hm : behindInMarks op b = false) : PE X (.Compare a [op] [b] pos) (tOp r ta tb) := by
  intro pins s σ H Q I h
  exact wpAny_Compare1 (binT ha hb I h fun v u s2 x y H2 I2 rx ry q => ho pins s2 σ H2 x y v u Q I2 rx ry q) hm
def tTest (t : TE) : TT := fun σ H Q => t σ H fun x H' => ∃ k, x = .bl k /\ Q k H'
theorem pt_cmpR {op : CmpOp} {r : R2} (ho : OpR X (compareOp op) r) (ha : PE X a ta) (hb : PE X b tb) (hm : behindInMarks op b = false) : PT X (.Compare a [op] [b] pos) (tTest (tOp r ta tb)) := by
  intro pins s σ H Q I h
  refine wpAny_isTrue_Compare1 (thn (ha pins s σ H _ I h) fun v s1 ⟨x, H1, I1, r1, q1⟩ => thn (hb pins s1 σ H1 _ I1 q1) fun u s2 ⟨y, H2, I2, r2, q2⟩ =>
    thn (ho pins s2 σ H2 x y v u _ I2 r1 r2 q2) fun c s3 ⟨z, H3, I3, r3, k, e, q3⟩ => ?_) hm
  subst e
  cases r3
  exact wpAny_truthy_bool ⟨H3, I3, q3⟩
def tChain (r r' : R2) (ta tb tc : TE) : TE := fun σ H Q => ta σ H fun x H1 => tb σ H1 fun y H2 => r x y H2 fun z H3 => ∃ k, z = .bl k ∧
  (if k = true then tc σ H3 fun w' H4 => r' y w' H4 Q else Q (.bl false) H3)
theorem pe_chain {op op' : CmpOp} {r r' : R2} (ho : OpR X (compareOp op) r) (ho' : OpR X (compareOp op') r') (ha : PE X a ta) (hb : PE X b tb) (hc : PE X c tc)
    (hm : lastMarks [op, op'] [b, c] = false := by with_unfolding_all rfl) : PE X (.Compare a [op, op'] [b, c] pos) (tChain r r' ta tb tc) := by
  intro pins s σ H Q I h
  refine Compare_chain (thn (ha pins s σ H _ I h) fun v s1 ⟨x, H1, I1, r1, q1⟩ => chain_link (thn (hb pins s1 σ H1 _ I1 q1) fun u s2 ⟨y, H2, I2, r2, q2⟩ =>
    thn (ho pins s2 σ H2 x y v u _ I2 r1 r2 q2) fun d s3 ⟨z, H3, I3, r3, k, e, q3⟩ => ?_)) hm
  subst e
  cases r3
  refine wpAny_truthy_bool ?_
  cases k with
  | false => exact ite_ff ⟨.bl false, H3, I3, rfl, q3⟩
  | true => exact ite_tt (chain_last (thn (hc pins s3 σ H3 _ I3 q3) fun w' s4 ⟨z', H4, I4, r4, q4⟩ => ho' pins s4 σ H4 y z' u w' Q I4 r2 r4 q4))
theorem pt_chain {op op' : CmpOp} {r r' : R2} (ho : OpR X (compareOp op) r) (ho' : OpR X (compareOp op') r') (ha : PE X a ta) (hb : PE X b tb) (hc : PE X c tc)
    (hm : lastMarks [op, op'] [b, c] = false := by with_unfolding_all rfl) : PT X (.Compare a [op, op'] [b, c] pos) (tTest (tChain r r' ta tb tc)) := by
  intro pins s σ H Q I h
  refine isTrue_chain (thn (ha pins s σ H _ I h) fun v s1 ⟨x, H1, I1, r1, q1⟩ => test_link (thn (hb pins s1 σ H1 _ I1 q1) fun u s2 ⟨y, H2, I2, r2, q2⟩ =>
    thn (ho pins s2 σ H2 x y v u _ I2 r1 r2 q2) fun d s3 ⟨z, H3, I3, r3, k, e, q3⟩ => ?_)) hm
  subst e
  cases r3
  refine wpAny_truthy_bool ?_
  cases k with
  | false =>
    obtain ⟨k', e', q'⟩ := q3
    cases e'
    exact ite_ff ⟨H3, I3, q'⟩
  | true =>
    refine ite_tt (test_last (thn (hc pins s3 σ H3 _ I3 q3) fun w' s4 ⟨z', H4, I4, r4, q4⟩ => thn (ho' pins s4 σ H4 y z' u w' _ I4 r2 r4 q4) fun d' s5 ⟨z2, H5, I5, r5, k2, e2, q5⟩ => ?_))
    subst e2
    cases r5
    exact wpAny_truthy_bool ⟨H5, I5, q5⟩
theorem line63 : (sizeLine : Nat) < 2 ^ 63 := by rw [sizeLine_eq]; decide
theorem vals1 {x : V} {us : List Value} (r : Vals [x] us) : ∃ u, us = [u] /\ RelV x u := by
  cases r with
  | cons r1 r2 => cases r2; exact ⟨_, rfl, r1⟩
theorem vals2 {x y : V} {us : List Value} (r : Vals [x, y] us) : ∃ u w', us = [u, w'] /\ RelV x u /\ RelV y w' := by
  cases r with
  | cons r1 r2 =>
    cases r2 with
    | cons r3 r4 => cases r4; exact ⟨_, _, rfl, r1, r3⟩
theorem call_abs : CallR X (.builtin "abs") (fun xs H Q => ∃ i, xs = [.int i] /\ Q (.int (if i < 0 then -i else i)) H) := by
  intro pins s σ H xs us Q I r h
  obtain ⟨i, rfl, q⟩ := h
  obtain ⟨u, rfl, t, rfl⟩ := vals1 r
  exact call_abs_int fun u tk => ⟨.int (if i < 0 then -i else i), H, I.tok _, ⟨_, rfl⟩, q⟩
theorem call_max2 (hc : X.calm = true) : CallR X (.builtin "max") (fun xs H Q => ∃ i j, xs = [.int i, .int j] /\ Q (.int (if j > i then j else i)) H) := by
  intro pins s σ H xs us Q I r h
  obtain ⟨i, j, rfl, q⟩ := h
  obtain ⟨u, w', rfl, ⟨t, rfl⟩, ⟨t', rfl⟩⟩ := vals2 r
  refine max_two_ints (I.ok.hd hc) fun h' tk k => ⟨_, H, I.kept k, ?_, q⟩
  by_cases hj : j > i
  · rw [if_pos hj, if_pos hj]; exact ⟨_, rfl⟩
  · rw [if_neg hj, if_neg hj]; exact ⟨_, rfl⟩
theorem call_int1 : CallR X (.type "int") (fun xs H Q => (∃ i, xs = [.int i] /\ Q (.int i) H) ∨ ∃ k, xs = [.bl k] /\ Q (.int (if k then 1 else 0)) H) := by
  intro pins s σ H xs us Q I r h
  rcases h with ⟨i, rfl, q⟩ | ⟨k, rfl, q⟩
  · obtain ⟨u, rfl, t, rfl⟩ := vals1 r
    exact call_int_int ⟨.int i, H, I, ⟨_, rfl⟩, q⟩
  · obtain ⟨u, rfl, r1⟩ := vals1 r
    cases r1
    exact call_int_bool ⟨.int (if k then 1 else 0), H, I.tok _, ⟨_, rfl⟩, q⟩
end
end L2
namespace L2
open PySem PySem.Spec PyProof.Rows
structure ObjM (h : Heap) (x dx C : Addr) (mA : Str -> Option Value) : Prop where
  obj : h.get? x = some (PySem.W.instObj C dx)
  ns : h.Ns1 dx mA
  ne : dx ≠ x
theorem lookIn_ns {h : Heap} {dx : Addr} {mA : Str -> Option Value} (n : h.Ns1 dx mA) : ∃ od, h.get? dx = some od /\ ∀ name, PySem.W.lookIn name od = some (mA name) := by
  obtain ⟨o, es, ep, ho, hd, hk, _, hm⟩ := n
  refine ⟨o, ho, fun name => ?_⟩
  have e := hm name
  unfold nsFind findBy at e
  rw [<- Array.find?_toList] at e
  unfold PySem.W.lookIn
  rw [hd]
  dsimp only
  split
  · rename_i y q
    rw [q] at e
    exact congrArg some e
  · rename_i q
    rw [q] at e
    have a : es.toList.any (·.refKey) = false := by
      rw [List.any_eq_false]
      intro y hy
      obtain ⟨z, t, hkey⟩ := hk y (Array.mem_toList_iff.mp hy)
      simp [DictEntry.refKey, hkey]
    have a' : ¬ es.toList.any (·.refKey) = true := by rw [a]; exact Bool.false_ne_true
    rw [if_neg a']
    exact congrArg some e
theorem ObjM.look {h : Heap} {x dx C : Addr} {mA : Str -> Option Value} (I : ObjM h x dx C mA) : ∃ od, PySem.W.InstAt h x (PySem.W.instObj C dx) C (some od) /\ ∀ name, PySem.W.lookIn name od = some (mA name) :=
  let ⟨od, ho, hl⟩ := lookIn_ns I.ns
  ⟨od, ⟨I.obj, rfl, rfl, ho⟩, hl⟩
section
variable {prog : Program} {w : World} {A : Around} {E : Value -> Shared -> Prop} {s : Shared} {K : PySem.W.Frag} {x dx C f : Addr} {mA : Str -> Option Value} {name : Str} {v : Value}
theorem get_map {expr : Bool} {Q : Value -> Shared -> Prop} (X : K.In s.heap) (I : ObjM s.heap x dx C mA) (hg : PySem.W.plainGet K C name = true) (hh : PySem.W.hasDictIn K C = true)
    (ha : PySem.W.findIn K (.ref C) name = some none) (hv : mA name = some v) (hv' : PySem.W.handedIn v = true) (h : Q v { s with toks := s.toks + 1 }) :
    wpAny (model prog w) A (getAttr (.ref x) name expr) Q E s := by
  obtain ⟨od, J, hl⟩ := I.look
  exact PySem.W.get_value X J (PySem.W.plainGet_of hg).1 (PySem.W.findObj_own hh ha rfl (by rw [hl, hv])) hv' h
theorem get_meth {pl : Sem Bool} {Q : Value × List Value -> Shared -> Prop} (X : K.In s.heap) (I : ObjM s.heap x dx C mA) (hg : PySem.W.plainGet K C name = true)
    (hf : PySem.W.findIn K (.ref C) name = some (some (.ref f))) (ht : PySem.W.isFn K (.ref f) = true) (hv : mA name = none) (h : Q (.ref f, [.ref x]) s) :
    wpAny (model prog w) A (getMethod (.ref x) name pl) Q E s := by
  obtain ⟨od, J, hl⟩ := I.look
  exact PySem.W.method_fn X J (PySem.W.plainGet_of hg).1 (PySem.W.plainGet_of hg).2 hf (beq_iff_eq.mp ht) (by show (PySem.W.lookIn name od).map (·.isSome) = some false; rw [hl, hv]; rfl) h
theorem set_map {ns : List Str} {Q : Unit -> Shared -> Prop} (X : K.In s.heap) (I : ObjM s.heap x dx C mA)
    (hs : PySem.W.findIn K (.ref C) "__setattr__" = some (some (.builtin "object.__setattr__"))) (hp : PySem.W.plainOver K C = true) (ht : PySem.W.takerIn K C name = some none) (hh : PySem.W.hasDictIn K C = true)
    (hw : PySem.Within mA ns) (hsz : ns.length <= sizeLine)
    (h : ∀ h', ObjM h' x dx C (fun y => if y = name then some v else mA y) -> Heap.SameBut dx s.heap h' -> Q () { s with heap := h', toks := s.toks + 2 }) :
    wpAny (model prog w) A (setAttr (.ref x) name v) Q E s := by
  obtain ⟨od, J, hl⟩ := I.look
  refine PySem.W.set_plain X J hs (PySem.W.osa_open (s := { s with toks := s.toks + 1 }) (r := none) X J hp ht fun b => ?_)
  obtain ⟨cd, hc, hd'⟩ := PySem.W.any_some hh
  have hx : s.heap.get? x = some ⟨.ref C, some dx, .plain, #[]⟩ := I.obj
  refine wpAny_bind (wpAny_pure (wpAny_bind (wpAny_bind (wpAny_loadPart hx (wpAny_bind (PySem.W.Looks.here (s := { s with toks := s.toks + 1 }) (PySem.W.looks_clsIn X hc) ?_))))))
  rw [hd']
  refine wpAny_pure (a := some dx) (wpAny_bind (wpAny_pure (wpAny_bind ?_)))
  refine wpAny_nsSet1 (s := { s with toks := s.toks + 1 }) I.ns fun h' hn2 hs2 => ?_
  obtain ⟨oD, esD, epD, hoD, hdD, hcD⟩ := hn2.count (PySem.Within.cons name v hw)
  refine wpAny_bind (wpAny_lookBehind hoD (by rw [hdD]; exact pastItsLine_dict (Nat.le_trans hcD (by rw [List.length_cons]; omega))) ?_)
  exact wpAny_pure (h _ ⟨(hs2.2 _ (Ne.symm I.ne)).trans I.obj, hn2, I.ne⟩ hs2)
theorem make_map {R : Result -> Shared -> Prop} {vs : List Value} {kw : List (Str × Value)} (X : K.In s.heap) (hm : PySem.W.makesIn K C = true)
    (hi : PySem.W.findIn K (.ref C) "__init__" = some (some (.ref f))) (hf : PySem.W.typeIn K (.ref f) = some (.type "function"))
    (h : codeAny (model prog w) (A.under (.builtin "type.__call__" ⟨.ref C :: vs, kw⟩)) (.call (.ref f) ⟨.ref (s.heap.objs.size + 1) :: vs, kw⟩) (PySem.W.InitBack (s.heap.objs.size + 1) R)
      { s with heap := (s.heap.push PySem.W.emptyDict).push (PySem.W.instObj C s.heap.objs.size) }) :
    codeAny (model prog w) A (.call (.ref C) ⟨vs, kw⟩) R s := by
  obtain ⟨hh, g, d, t, os⟩ := s
  exact PySem.W.make_core (PySem.W.makes_of X hm) (PySem.W.looks_findIn X hi) (fun self => PySem.W.bind_fn X self hf) (.inl rfl) h
end
def putF (f : Str) (v : V) : List (Str × V) -> List (Str × V)
  | [] => [(f, v)]
  | (g, x) :: r => if g = f then (g, v) :: r else (g, x) :: putF f v r
theorem lookup_putF (f g : Str) (v : V) : ∀ fs : List (Str × V), (putF f v fs).lookup g = if g = f then some v else fs.lookup g
  | [] => by
    show List.lookup g [(f, v)] = _
    by_cases h : g = f
    · have hb : (g == f) = true := beq_iff_eq.mpr h
      simp only [List.lookup, hb, if_pos h]
    · have hb : (g == f) = false := beq_eq_false_iff_ne.mpr h
      simp only [List.lookup, hb, if_neg h]
  | (k, x) :: r => by
    have ih := lookup_putF f g v r
    rw [show putF f v ((k, x) :: r) = (if k = f then (k, v) :: r else (k, x) :: putF f v r) from rfl]
    by_cases hk : k = f
    · rw [if_pos hk]
      by_cases h : g = k
      · have hb : (g == k) = true := beq_iff_eq.mpr h
        simp only [List.lookup, hb, if_pos (h.trans hk)]
      · have hb : (g == k) = false := beq_eq_false_iff_ne.mpr h
        simp only [List.lookup, hb, if_neg (fun e : g = f => h (e.trans hk.symm))]
    · rw [if_neg hk]
      by_cases h : g = k
      · have hb : (g == k) = true := beq_iff_eq.mpr h
        simp only [List.lookup, hb, if_neg (fun e : g = f => hk (h.symm.trans e))]
      · have hb : (g == k) = false := beq_eq_false_iff_ne.mpr h
        simp only [List.lookup, hb]
        exact ih
theorem keys_putF (f : Str) (v : V) : ∀ fs : List (Str × V), f ∈ (putF f v fs).map (·.1) /\ ∀ g, g ∈ fs.map (·.1) -> g ∈ (putF f v fs).map (·.1)
  | [] => ⟨by simp [putF], fun g h => by simp at h⟩
  | (k, x) :: r => by
    obtain ⟨i1, i2⟩ := keys_putF f v r
    rw [show putF f v ((k, x) :: r) = (if k = f then (k, v) :: r else (k, x) :: putF f v r) from rfl]
    by_cases hk : k = f
    · rw [if_pos hk]
      subst hk
      exact ⟨by simp, fun g h => by simpa using h⟩
    · rw [if_neg hk]
      refine ⟨?_, fun g h => ?_⟩
      · rw [List.map_cons]
        exact List.mem_cons_of_mem _ i1
      · rw [List.map_cons] at h ⊢
        rcases List.mem_cons.mp h with e | e
        · exact List.mem_cons.mpr (.inl e)
        · exact List.mem_cons_of_mem _ (i2 g e)
theorem length_putF (f : Str) (v : V) : ∀ fs : List (Str × V), (putF f v fs).length <= fs.length + 1
  | [] => by simp [putF]
  | (k, x) :: r => by
    have ih := length_putF f v r
    rw [show putF f v ((k, x) :: r) = (if k = f then (k, v) :: r else (k, x) :: putF f v r) from rfl]
    by_cases hk : k = f
    · rw [if_pos hk, List.length_cons, List.length_cons]; omega
    · rw [if_neg hk, List.length_cons, List.length_cons]; omega
theorem RelO.some_of {v : V} {o : Option Value} (r : RelO (some v) o) : ∃ u, o = some u /\ RelV v u := by
  cases o with
  | none => exact (show False from r).elim
  | some u => exact ⟨u, rfl, r⟩
theorem RelO.none_of {o : Option Value} (r : RelO none o) : o = none := by
  cases o with
  | none => rfl
  | some u => exact (show False from r).elim
theorem handed_of {v : V} {u : Value} (r : RelV v u) : PySem.W.handedIn u = true := by
  cases v with
  | non => cases (show u = Value.none from r); rfl
  | bl b => cases (show u = Value.bool b from r); rfl
  | int i => obtain ⟨t, e⟩ := (show ∃ t, u = Value.int i t from r); cases e; rfl
  | str x => obtain ⟨t, e⟩ := (show ∃ t, u = Value.str x t from r); cases e; rfl
  | byt b => obtain ⟨t, e⟩ := (show ∃ t, u = Value.bytes b t from r); cases e; rfl
  | flt b => obtain ⟨t, e⟩ := (show ∃ t, u = Value.float b t from r); cases e; rfl
  | ref a => cases (show u = Value.ref a from r); rfl
  | ty n => cases (show u = Value.type n from r); rfl
section
variable {P : Program} {w : World} {H H' : Hp} {h h' : Heap} {a C dx : Addr} {fs fs' : List (Str × V)}
theorem ins_get (hok : HOk P w H h) (e : H a = some (.ins C dx fs)) : ∃ mA, ObjM h a dx C mA /\ (∀ f, RelO (fs.lookup f) (mA f)) /\ PySem.Within mA (fs.map (·.1)) /\ fs.length <= 1000 /\ H dx = some (.own a) := by
  obtain ⟨d, z, ne, ob, mA, n, r, q⟩ := (show ObjOk P w H h a (.ins C dx fs) from hok a _ e)
  exact ⟨mA, ⟨ob, n, ne⟩, r, q, z, d⟩
end
structure Cls (K : PySem.W.Frag) (C : Addr) : Prop where
  pg : PySem.W.plainGet K C Str.empty = true
  hd : PySem.W.hasDictIn K C = true
  po : PySem.W.plainOver K C = true
  sa : PySem.W.findIn K (.ref C) "__setattr__" = some (some (.builtin "object.__setattr__"))
theorem Cls.get {K : PySem.W.Frag} {C : Addr} (c : Cls K C) (f : Str) : PySem.W.plainGet K C f = true := c.pg
def NoAttr (K : PySem.W.Frag) (C : Addr) (f : Str) : Prop := PySem.W.findIn K (.ref C) f = some none
theorem NoAttr.taker {K : PySem.W.Frag} {C : Addr} {f : Str} (n : NoAttr K C f) : PySem.W.takerIn K C f = some none := by
  unfold PySem.W.takerIn
  rw [show PySem.W.findIn K (.ref C) f = some none from n]
  rfl
structure Con (K : PySem.W.Frag) (C : Addr) (f : Str) (v : V) (u : Value) : Prop where
  at_ : PySem.W.findIn K (.ref C) f = some (some u)
  rel : RelV v u
  get : PySem.W.specialIn K u "__get__" = some none
  cp : PySem.W.copiedNames.contains f = false
structure Meth (K : PySem.W.Frag) (C : Addr) (m : Str) (f : Addr) : Prop where
  at_ : PySem.W.findIn K (.ref C) m = some (some (.ref f))
  fn : PySem.W.isFn K (.ref f) = true
  kp : PySem.W.keepIn K (.ref f) = true
section
variable {X : Cx} {pins : List (Addr × Obj)} {σ : St} {H : Hp} {s : Shared} {a C dx : Addr} {fs : List (Str × V)} {f : Str} {v : V} {A : Around} {E : Value -> Shared -> Prop}
theorem getattr_ok {b : Bool} {Q : Value -> Shared -> Prop} (I : Inv X pins σ H s) (e : H a = some (.ins C dx fs)) (c : Cls X.K C) (n : NoAttr X.K C f) (l : fs.lookup f = some v)
    (h : ∀ u s', Inv X pins σ H s' -> RelV v u -> Q u s') : wpAny (model X.prog X.w) A (getAttr (.ref a) f b) Q E s := by
  obtain ⟨mA, O, r, _, _, _⟩ := ins_get I.hok e
  obtain ⟨u, hu, ru⟩ := RelO.some_of (v := v) (o := mA f) (by rw [<- l]; exact r f)
  exact get_map I.kIn O (c.get f) c.hd n hu (handed_of ru) (h u _ (I.tok _) ru)
theorem getmeth_ok {m : Str} {g : Addr} {pl : Sem Bool} {Q : Value × List Value -> Shared -> Prop} (I : Inv X pins σ H s) (e : H a = some (.ins C dx fs)) (c : Cls X.K C) (k : Meth X.K C m g) (l : fs.lookup m = none)
    (h : Q (.ref g, [.ref a]) s) : wpAny (model X.prog X.w) A (getMethod (.ref a) m pl) Q E s := by
  obtain ⟨mA, O, r, _, _, _⟩ := ins_get I.hok e
  have hn : mA m = none := RelO.none_of (by rw [<- l]; exact r m)
  exact get_meth I.kIn O (c.get m) k.at_ k.fn hn h
theorem setattr_ok {y : V} {u : Value} {Q : Unit -> Shared -> Prop} (I : Inv X pins σ H s) (e : H a = some (.ins C dx fs)) (c : Cls X.K C) (n : NoAttr X.K C f) (hl : fs.length < 1000) (ry : RelV y u)
    (h : ∀ s', Inv X pins σ (upd H a (.ins C dx (putF f y fs))) s' -> Q () s') : wpAny (model X.prog X.w) A (setAttr (.ref a) f u) Q E s := by
  obtain ⟨mA, O, r, wi, _, ho⟩ := ins_get I.hok e
  have hz : (fs.map (·.1)).length <= sizeLine := by rw [List.length_map, sizeLine_eq]; omega
  refine set_map I.kIn O c.sa c.po n.taker c.hd wi hz fun h' O' sb => h _ ?_
  have hd : ∃ o, h'.get? dx = some o := let ⟨o, _, _, e', _⟩ := O'.ns; ⟨o, e'⟩
  refine I.write (x := a) (e := dx) (by rw [e]; exact True.intro) (.inr ho) (fun b q hb z => (sb.2 b hb).trans z) hd ?_
  refine ⟨by rw [upd_ne O.ne]; exact ho, ?_, O.ne, O'.obj, _, O'.ns, fun g => ?_, fun g hg => ?_⟩
  · have := length_putF f y fs; omega
  · show RelO ((putF f y fs).lookup g) (if g = f then some u else mA g)
    rw [lookup_putF]
    by_cases q : g = f
    · rw [if_pos q, if_pos q]; exact ry
    · rw [if_neg q, if_neg q]; exact r g
  · by_cases q : g = f
    · rw [q]; exact (keys_putF f y fs).1
    · refine (keys_putF f y fs).2 g (wi g fun z => hg ?_)
      show (if g = f then some u else mA g) = none
      rw [if_neg q]; exact z
theorem Inv.made (I : Inv X pins σ H s) : Inv X pins σ (upd (upd H s.heap.objs.size (.own (s.heap.objs.size + 1))) (s.heap.objs.size + 1) (.ins C s.heap.objs.size []))
    { s with heap := (s.heap.push PySem.W.emptyDict).push (PySem.W.instObj C s.heap.objs.size) } := by
  have e1 : (s.heap.push PySem.W.emptyDict).get? s.heap.objs.size = some PySem.W.emptyDict := Heap.get?_push_size s.heap rfl
  have e2 : ((s.heap.push PySem.W.emptyDict).push (PySem.W.instObj C s.heap.objs.size)).get? (s.heap.objs.size + 1) = some (PySem.W.instObj C s.heap.objs.size) := by
    have := Heap.get?_push_size (s.heap.push PySem.W.emptyDict) (o := PySem.W.instObj C s.heap.objs.size) rfl
    rwa [Heap.size_push] at this
  have e3 : (s.heap.push PySem.W.emptyDict).Ns s.heap.objs.size (fun _ => none) := ⟨PySem.W.emptyDict, #[], _, e1, rfl, (fun e he => absurd he (by simp)), fun _ => rfl⟩
  have I1 := I.laid (a := s.heap.objs.size) (o := .own (s.heap.objs.size + 1)) (h' := s.heap.push PySem.W.emptyDict) (t' := s.toks) (fun b u q => Heap.get?_push_of_some _ q) (Nat.le_refl _) ⟨_, e1⟩
  refine I1.laid (a := s.heap.objs.size + 1) (o := .ins C s.heap.objs.size []) (t' := s.toks) (fun b u q => Heap.get?_push_of_some _ q) (Nat.le_of_eq (Heap.size_push _ _)) ?_
  have ne : s.heap.objs.size ≠ s.heap.objs.size + 1 := Nat.ne_of_lt (Nat.lt_succ_self _)
  refine ⟨by rw [upd_ne ne, upd_same], Nat.zero_le _, ne, e2, fun _ => none, (Heap.Ns1.of_empty e3).at fun o q => Heap.get?_push_of_some _ q, fun _ => True.intro, fun y hy => absurd rfl hy⟩
theorem attr_of {prog : Program} {w : World} {env : Env} {e : Expr} {f : Str} {pos : Pos} {s : Shared} {Q : Value -> Shared -> Prop} (hb : attributeBase e f env (eval e env) = eval e env)
    (h : wpAny (model prog w) A (eval e env) (fun o s₁ => wpAny (model prog w) A (getAttr o f true) Q E s₁) E s) : wpAny (model prog w) A (eval (.Attribute e f pos) env) Q E s :=
  Attribute_any_ h (by rw [arm_eval_Attribute, hb])
end
def tFld (K : PySem.W.Frag) (ta : TE) (f : Str) : TE := fun σ H Q => ta σ H fun x H1 => ∃ a C dx fs v, x = .ref a /\ H1 a = some (.ins C dx fs) /\ Cls K C /\ NoAttr K C f /\ fs.lookup f = some v /\ Q v H1
def sFld (K : PySem.W.Frag) (ta tv : TE) (f : Str) : TS := fun D σ H => tv σ H fun y H1 => ta σ H1 fun x H2 => ∃ a C dx fs, x = .ref a /\ H2 a = some (.ins C dx fs) /\ Cls K C /\ NoAttr K C f /\ fs.length < 1000 ∧
  D.nx σ (upd H2 a (.ins C dx (putF f y fs)))
section
variable {X : Cx} {o e value : Expr} {f : Str} {pos pos' tpos : Pos} {ta tv : TE}
theorem pe_fld (he : PE X e ta) (hb : attributeBase e f X.env (eval e X.env) = eval e X.env) : PE X (.Attribute e f pos) (tFld X.K ta f) := by
  intro pins s σ H Q I h
  refine attr_of hb (thn (he pins s σ H _ I h) fun u s1 ⟨x, H1, I1, rx, a, C, dx, fs, v, ex, ea, c, n, l, q⟩ => ?_)
  subst ex
  obtain rfl : u = Value.ref a := rx
  exact getattr_ok I1 ea c n l fun u' s2 I2 ru => ⟨v, H1, I2, ru, q⟩
theorem ps_fld (ha : PE X o ta) (hv : PE X value tv) (hs : swapsWith value (some (.Attribute o f pos')) pos.line X.env = pure false) : PS X (.Assign [.Attribute o f pos'] value pos) (sFld X.K ta tv f) := by
  intro pins s σ H D I h
  refine plainObj_wpAny_Assign_Attribute (thn (hv pins s σ H _ I h) fun u s1 ⟨y, H1, I1, ry, q⟩ => thn (ha pins s1 σ H1 _ I1 q) fun ov s2 ⟨x, H2, I2, rx, a, C, dx, fs, ex, ea, c, n, l, q2⟩ => ?_) hs
  subst ex
  obtain rfl : ov = Value.ref a := rx
  exact setattr_ok I2 ea c n l ry fun s3 I3 => ⟨σ, _, I3, q2⟩
end
section
variable {X : Cx} {pins : List (Addr × Obj)} {σ : St} {H : Hp} {s : Shared} {A : Around} {E : Value -> Shared -> Prop} {Q : Value -> Shared -> Prop} {c : Value} {b : Bool}
inductive TyOf (K : PySem.W.Frag) (H : Hp) : V -> Value -> Prop where
  | non : TyOf K H .non (.type "NoneType")
  | bl (x : Bool) : TyOf K H (.bl x) (.type "bool")
  | int (i : Int) : TyOf K H (.int i) (.type "int")
  | str (x : Str) : TyOf K H (.str x) (.type "str")
  | flt (x : UInt64) : TyOf K H (.flt x) (.type "float")
  | lst {a : Addr} {xs : List V} (e : H a = some (.lst xs)) : TyOf K H (.ref a) (.type "list")
  | frz {a : Addr} {o : Obj} {xs : List V} (e : H a = some (.frz o (.lst xs))) : TyOf K H (.ref a) (.type "list")
  | tup {a : Addr} {xs : List V} (e : H a = some (.tup xs)) : TyOf K H (.ref a) (.type "tuple")
  | dK {a : Addr} {kvs : List (Key × V)} (e : H a = some (.dK kvs)) : TyOf K H (.ref a) (.type "dict")
  | dT {a : Addr} {kvs : List (List Key × V)} (e : H a = some (.dT kvs)) : TyOf K H (.ref a) (.type "dict")
  | ins {a C dx : Addr} {fs : List (Str × V)} (e : H a = some (.ins C dx fs)) (cl : Cls K C) (ha : PySem.W.findIn K (.ref C) "__class__" = some (some (.builtin "object.__class__")))
      (hn : PySem.W.specialIn K (.builtin "object.__class__") "__get__" = some (some (.builtin "getset_descriptor.__get__"))) (htk : PySem.W.takesIn K (.builtin "object.__class__") = some true)
      (hm : PySem.W.mroIn K C (.type "object") = some true) : TyOf K H (.ref a) (.ref C)
theorem isinst_ok {x : V} {u t : Value} (I : Inv X pins σ H s) (rx : RelV x u) (ty : TyOf X.K H x t) (e : PySem.W.kitOne X.K t c = some b) (h : ∀ tk, Q (.bool b) { s with toks := tk }) :
    wpAny (model X.prog X.w) A (call (.builtin "isinstance") [u, c]) Q E s := by
  cases ty with
  | non => cases (show u = Value.none from rx); exact PySem.W.kia_one PySem.W.kitx_none I.kIn True.intro e (fun z => nomatch z) h
  | bl y => cases (show u = Value.bool y from rx); exact PySem.W.kia_one PySem.W.kitx_bool I.kIn True.intro e (fun z => nomatch z) h
  | int i => obtain ⟨t, q⟩ := (show ∃ t, u = Value.int i t from rx); cases q; exact PySem.W.kia_one PySem.W.kitx_int I.kIn True.intro e (fun z => nomatch z) h
  | str y => obtain ⟨t, q⟩ := (show ∃ t, u = Value.str y t from rx); cases q; exact PySem.W.kia_one PySem.W.kitx_str I.kIn True.intro e (fun z => nomatch z) h
  | flt y => obtain ⟨t, q⟩ := (show ∃ t, u = Value.float y t from rx); cases q; exact PySem.W.kia_one PySem.W.kitx_float I.kIn True.intro e (fun z => nomatch z) h
  | @lst a xs ea =>
    cases (show u = Value.ref a from rx)
    obtain ⟨_, _, n, _, h1⟩ := (show ObjOk X.prog X.w H s.heap a (.lst xs) from I.hok a _ ea)
    exact PySem.W.kia_one PySem.W.kitx_list I.kIn ⟨_, h1, rfl⟩ e (fun z => nomatch z) h
  | @frz a ob xs ea =>
    cases (show u = Value.ref a from rx)
    obtain ⟨_, _, _, n, _, h1⟩ := (show ObjOk X.prog X.w H s.heap a (.frz ob (.lst xs)) from I.hok a _ ea)
    exact PySem.W.kia_one PySem.W.kitx_list I.kIn ⟨_, h1, rfl⟩ e (fun z => nomatch z) h
  | @tup a xs ea =>
    cases (show u = Value.ref a from rx)
    obtain ⟨_, _, _, p⟩ := (show ObjOk X.prog X.w H s.heap a (.tup xs) from I.hok a _ ea)
    obtain ⟨o, h1, h2, _⟩ := p
    exact PySem.W.kia_one PySem.W.kitx_tuple I.kIn ⟨o, h1, h2⟩ e (fun z => nomatch z) h
  | @dK a kvs ea =>
    cases (show u = Value.ref a from rx)
    obtain ⟨_, _, vs, _, p⟩ := (show ObjOk X.prog X.w H s.heap a (.dK kvs) from I.hok a _ ea)
    obtain ⟨o, es, ep, h1, h2, _⟩ := p
    exact PySem.W.kia_one PySem.W.kitx_dict I.kIn ⟨o, h1, h2.1⟩ e (fun z => nomatch z) h
  | @dT a kvs ea =>
    cases (show u = Value.ref a from rx)
    obtain ⟨_, _, xs, _, o, es, ep, h1, h2, _⟩ := (show ObjOk X.prog X.w H s.heap a (.dT kvs) from I.hok a _ ea)
    exact PySem.W.kia_one PySem.W.kitx_dict I.kIn ⟨o, h1, h2.1⟩ e (fun z => nomatch z) h
  | @ins a C dx fs ea cl ha hn htk hm =>
    cases (show u = Value.ref a from rx)
    obtain ⟨mA, O, _⟩ := ins_get I.hok ea
    obtain ⟨od, J, _⟩ := O.look
    exact PySem.W.kia_one (PySem.W.kitx_own (cl.get _) cl.hd ha hn htk hm) I.kIn J e (fun z => nomatch z) h
end
end L2
namespace L2
open PySem PySem.Spec PyProof.Rows
structure Room (k : Nat) (A : Around) : Prop where
  hd : A.handled = none
  dp : A.depth + 3 * k + 5 < recursionLimit
  un : A.units + 16 * k + 200 < cLine
theorem Room.mono {j k : Nat} {A : Around} (r : Room k A) (h : j <= k) : Room j A := ⟨r.hd, by have := r.dp; omega, by have := r.un; omega⟩
theorem Room.deeper {k : Nat} {A : Around} (r : Room (k + 1) A) (env : Env) : Room k (A.deeper env) :=
  ⟨r.hd, by have := r.dp; show A.depth + 1 + 3 * k + 5 < _; omega, by have := r.un; show A.units + 3 + 16 * k + 200 < _; omega⟩
theorem Room.in1 {k : Nat} {A : Around} (r : Room (k + 1) A) : Room k A.in1 :=
  ⟨r.hd, by have := r.dp; show A.depth + 3 * k + 5 < _; omega, by have := r.un; show A.units + 1 + 16 * k + 200 < _; omega⟩
theorem make_depth {A : Around} {C : Addr} {us : List Value} {kw : List (Str × Value)} : (A.under (.builtin "type.__call__" ⟨.ref C :: us, kw⟩)).depth = A.depth + 1 := by
  first | rfl | simp [Around.under, Code.weight, Code.isCreation, Code.isGuard, Code.isCaller, Code.frames, Code.isFrame, guardIds]
theorem make_units {A : Around} {C : Addr} {us : List Value} {kw : List (Str × Value)} : (A.under (.builtin "type.__call__" ⟨.ref C :: us, kw⟩)).units = A.units + 1 := by
  first | rfl | simp [Around.under, Code.cUnits, Code.frames, Code.isFrame]
theorem Room.make {k : Nat} {A : Around} (r : Room (k + 1) A) (C : Addr) (us : List Value) (kw : List (Str × Value)) : Room k (A.under (.builtin "type.__call__" ⟨.ref C :: us, kw⟩)) :=
  ⟨r.hd, by have := r.dp; rw [make_depth]; omega, by have := r.un; rw [make_units]; omega⟩
theorem Room.depth {k : Nat} {A : Around} (r : Room k A) : A.depth < recursionLimit := by have := r.dp; omega
theorem Room.units {k : Nat} {A : Around} (r : Room k A) : A.units + 64 < cLine := by have := r.un; omega
theorem Room.units0 {k : Nat} {A : Around} (r : Room k A) : A.units < cLine := by have := r.un; omega
def tNil : TA := fun _ H Q => Q [] H
def tCons (ta : TE) (tr : TA) : TA := fun σ H Q => ta σ H fun x H1 => tr σ H1 fun xs H2 => Q (x :: xs) H2
section
variable {X : Cx} {e : Expr} {es : List Expr} {te : TE} {t : TA} {pos : Pos}
theorem pa_nil : PA X [] tNil := fun _ _ _ _ H Q I h => Calls.spliced_nil ⟨[], H, I, .nil, h⟩
theorem pa_cons (ha : PE X e te) (hr : PA X es t) (hs : starEach (e :: es) X.env = (false, eval e X.env) :: starEach es X.env := by rfl) : PA X (e :: es) (tCons te t) := by
  intro pos pins s σ H Q I h
  rw [hs]
  show wpAny _ _ (spliced ((false, eval e X.env) :: backTo pos (starEach es X.env))) _ _ s
  refine Calls.spliced_cons (thn (ha pins s σ H _ I h) fun u s1 ⟨x, H1, I1, r1, q1⟩ => ?_)
  exact thn (hr pos pins s1 σ H1 _ I1 q1) fun us s2 ⟨xs, H2, I2, r2, q2⟩ => ⟨x :: xs, H2, I2, .cons r1 r2, q2⟩
def tTup (t : TA) : TE := fun σ H Q => t σ H fun xs H1 => xs.length <= sizeLine /\ ∀ p, H1 p = none -> Q (.ref p) (upd H1 p (.tup xs))
def tLst (t : TA) : TE := fun σ H Q => t σ H fun xs H1 => xs.length <= sizeLine /\ ∀ p, H1 p = none -> Q (.ref p) (upd H1 p (.lst xs))
theorem pe_tup {x1} (h : PA X es t) : PE X (.Tuple es x1 pos) (tTup t) := by
  intro pins s σ H Q I hq
  refine wpAny_Tuple_spliced (thn (h pos pins s σ H _ I hq) fun us s1 ⟨xs, H1, I1, r, z, q⟩ => ⟨by rw [<- r.length]; exact z, ?_⟩)
  have hf : H1 s1.heap.objs.size = none := I1.hok.fresh (Nat.le_refl _)
  refine ⟨.ref s1.heap.objs.size, upd H1 s1.heap.objs.size (.tup xs), I1.laid (t' := s1.toks) (fun b u e => Heap.get?_push_of_some _ e) (Nat.le_refl _) ?_, rfl, q _ hf⟩
  exact ⟨z, us, r, ⟨_, Heap.get?_push_size _ rfl, rfl, _, rfl⟩⟩
theorem pe_lst (h : PA X es t) : PE X (.List es pos) (tLst t) := by
  intro pins s σ H Q I hq
  refine wpAny_List_spliced (thn (h pos pins s σ H _ I hq) fun us s1 ⟨xs, H1, I1, r, z, q⟩ => ⟨by rw [<- r.length]; exact z, ?_⟩)
  have hf : H1 s1.heap.objs.size = none := I1.hok.fresh (Nat.le_refl _)
  refine ⟨.ref s1.heap.objs.size, upd H1 s1.heap.objs.size (.lst xs), I1.laid (t' := s1.toks) (fun b u e => Heap.get?_push_of_some _ e) (Nat.le_refl _) ?_, rfl, q _ hf⟩
  exact ⟨z, us, 0, r, Heap.get?_push_size _ rfl⟩
end
abbrev Sp := List V -> Hp -> VK -> XK -> Prop
abbrev CXT := List Env -> Hp -> Shared -> XK -> Value -> Shared -> Prop
structure Env0 (P : Program) (w : World) (K : PySem.W.Frag) (mg : Str -> Option Value) (base : Heap) (A : Around) (outer : List Env) (s : Shared) (H : Hp) : Prop where
  frames : A.frames = some outer
  mod : Mod K mg base
  bs : ∀ b o, base.get? b = some o -> s.heap.get? b = some o /\ H b = none
  bsz : base.objs.size <= s.heap.objs.size
  funs : s.heap.FunFrames base outer
  frf : ∀ b ∈ frs outer, H b = none
  hok : HOk P w H s.heap
  bare : AllBare s.gens
def CE (outer : List Env) (P : Program) (w : World) (H : Hp) (s : Shared) (Q : VK) (u : Value) (s' : Shared) : Prop :=
  ∃ v H', s'.os = s.os /\ AllBare s'.gens /\ Un (frs outer) [] H H' s.heap s'.heap /\ HOk P w H' s'.heap /\ RelV v u /\ Q v H'
def CR (CX : CXT) (outer : List Env) (P : Program) (w : World) (H : Hp) (s : Shared) (Q : VK) (E : XK) (r : Result) (s' : Shared) : Prop :=
  match r with
  | .ok (.ret u) => CE outer P w H s Q u s'
  | .ok _ => False
  | .error e => CX outer H s E e s'
structure FnOk (P : Program) (w : World) (K : PySem.W.Frag) (mg : Str -> Option Value) (base : Heap) (CX : CXT) (k : Nat) (f : Addr) (fd : FuncData) (ps : List Str) (sp : Sp) : Prop where
  len : ∀ vs H Q E, sp vs H Q E -> vs.length = ps.length
  run : ∀ (A : Around) (outer : List Env) (s : Shared) (H : Hp) (args : Args) (us : List Value) (vs : List V) (Q : VK) (E : XK), Room k A -> Env0 P w K mg base A outer s H -> BindsTo s fd args (ps.zip us) -> Vals vs us -> sp vs H Q E ->
    codeAny (model P w) A (.call (.ref f) args) (CR CX outer P w H s Q E) s
theorem FnOk.mono {P : Program} {w : World} {K : PySem.W.Frag} {mg : Str -> Option Value} {base : Heap} {CX : CXT} {j k : Nat} {f : Addr} {fd : FuncData} {ps : List Str} {sp : Sp} (F : FnOk P w K mg base CX j f fd ps sp) (h : j <= k) :
    FnOk P w K mg base CX k f fd ps sp := ⟨F.len, fun A outer s H args us vs Q E hr => F.run A outer s H args us vs Q E (hr.mono h)⟩
theorem FnOk.imp {P : Program} {w : World} {K : PySem.W.Frag} {mg : Str -> Option Value} {base : Heap} {CX : CXT} {k : Nat} {f : Addr} {fd : FuncData} {ps : List Str} {sp sp' : Sp} (F : FnOk P w K mg base CX k f fd ps sp)
    (h : ∀ vs H Q E, sp' vs H Q E -> sp vs H Q E) : FnOk P w K mg base CX k f fd ps sp' :=
  ⟨fun vs H Q E q => F.len vs H Q E (h _ _ _ _ q), fun A outer s H args us vs Q E hr he hb hv hs => F.run A outer s H args us vs Q E hr he hb hv (h _ _ _ _ hs)⟩
theorem Env0.make {P : Program} {w : World} {K : PySem.W.Frag} {mg : Str -> Option Value} {base : Heap} {A : Around} {outer : List Env} {s : Shared} {H : Hp} (e : Env0 P w K mg base A outer s H) (C : Addr) (us : List Value) (kw : List (Str × Value)) :
    Env0 P w K mg base (A.under (.builtin "type.__call__" ⟨.ref C :: us, kw⟩)) outer s H := ⟨by first | exact e.frames | (simpa [Around.under, Code.envs, Code.isFrame, pushEnvs] using e.frames), e.mod, e.bs, e.bsz, e.funs, e.frf, e.hok, e.bare⟩
theorem Env0.in1 {P : Program} {w : World} {K : PySem.W.Frag} {mg : Str -> Option Value} {base : Heap} {A : Around} {outer : List Env} {s : Shared} {H : Hp} (e : Env0 P w K mg base A outer s H) :
    Env0 P w K mg base A.in1 outer s H := ⟨e.frames, e.mod, e.bs, e.bsz, e.funs, e.frf, e.hok, e.bare⟩
section
variable {X : Cx} {pins : List (Addr × Obj)} {σ : St} {H : Hp} {s s' : Shared}
theorem Inv.env0 (I : Inv X pins σ H s) : Env0 X.prog X.w X.K X.mg X.base X.A X.stack s H :=
  ⟨I.ok.frames, I.ok.mod, I.bs, Nat.le_trans I.ok.bsz I.sz, I.stack, I.stkFree, I.hok, I.bare⟩
theorem Inv.after {Q : VK} {u : Value} (I : Inv X pins σ H s) (h : CE X.stack X.prog X.w H s Q u s') : EP X pins σ Q u s' := by
  obtain ⟨v, H', os, bare, un, hok, r, q⟩ := h
  obtain ⟨hh, g, d, t, os'⟩ := s'
  obtain rfl : os' = s.os := os
  exact ⟨v, H', I.call (h' := hh) (g' := g) (d' := d) (t' := t) (ch := []) un hok bare (fun b z => absurd z (by simp)), r, q⟩
end
def tCall (sp : Sp) (dvs : List V) (E : XK) (t : TA) : TE := fun σ H Q => t σ H fun vs H1 => sp (vs ++ dvs) H1 Q E
def tMeth (C : Addr) (m : Str) (sp : Sp) (dvs : List V) (E : XK) (ta : TE) (t : TA) : TE := fun σ H Q => ta σ H fun x H1 => ∃ a dx fs, x = .ref a /\ H1 a = some (.ins C dx fs) /\ fs.lookup m = none ∧
  t σ H1 fun vs H2 => sp (x :: (vs ++ dvs)) H2 Q E
def tMake (C : Addr) (sp : Sp) (dvs : List V) (E : XK) (t : TA) : TE := fun σ H Q => t σ H fun vs H1 => ∀ x dx, H1 x = none -> H1 dx = none -> dx ≠ x ->
  sp (.ref x :: (vs ++ dvs)) (upd (upd H1 dx (.own x)) x (.ins C dx [])) (fun v H2 => v = .non /\ Q (.ref x) H2) E
def Binds (K : PySem.W.Frag) (fd : FuncData) (ps : List Str) (ds : List Value) : Prop :=
  ∀ (s : Shared) (us : List Value), K.In s.heap -> (us ++ ds).length = ps.length -> BindsTo s fd ⟨us, []⟩ (ps.zip (us ++ ds))
theorem Binds.all {K : PySem.W.Frag} {fd : FuncData} {ps : List Str} (h : ∀ us : List Value, us.length = ps.length -> bindArgs fd ⟨us, []⟩ = pure (ps.zip us)) : Binds K fd ps [] := fun s us _ hl => by
  rw [List.append_nil] at hl ⊢
  exact .of_eq (h us hl)
def Passes (CX : CXT) (X : Cx) (E : XK) : Prop := ∀ (pins : List (Addr × Obj)) (σ : St) (H : Hp) (s : Shared) (e : Value) (s' : Shared), Inv X pins σ H s -> CX X.stack H s E e s' -> X.xe e s'
section
variable {X : Cx} {CX : CXT} {k : Nat} {f C : Addr} {fd : FuncData} {ps : List Str} {sp : Sp} {dvs : List V} {ds : List Value} {E : XK} {x m : Str} {p pos apos : Pos} {e o : Expr} {es : List Expr} {ta : TE} {t : TA}
theorem run_fn {pins : List (Addr × Obj)} {σ : St} {H : Hp} {s : Shared} {Q : VK} {us : List Value} {vs : List V} (F : FnOk X.prog X.w X.K X.mg X.base CX k f fd ps sp) (hr : Room k X.A) (hb : Binds X.K fd ps ds) (hd : Vals dvs ds) (hx : Passes CX X E)
    (I : Inv X pins σ H s) (r : Vals vs us) (h : sp (vs ++ dvs) H Q E) : wpAny (model X.prog X.w) X.A (call (.ref f) us) (EP X pins σ Q) X.xe s := by
  have r2 : Vals (vs ++ dvs) (us ++ ds) := r.append hd
  have hl : (us ++ ds).length = ps.length := by rw [<- r2.length]; exact F.len _ _ _ _ h
  refine wpAny_call (codeAny_mono (F.run X.A X.stack s H ⟨us, []⟩ (us ++ ds) (vs ++ dvs) Q E hr I.env0 (hb s us I.kIn hl) r2 h) fun r s' hq => ?_)
  cases r with
  | error e => exact hx pins σ H s e s' I hq
  | ok fl =>
    cases fl with
    | ret u => exact I.after hq
    | next => exact False.elim hq
    | brk => exact False.elim hq
    | cont => exact False.elim hq
theorem pe_call (F : FnOk X.prog X.w X.K X.mg X.base CX k f fd ps sp) (hr : Room k X.A) (hg : Gl X x) (hm : X.mg x = some (.ref f)) (hk : PySem.W.keepIn X.K (.ref f) = true) (hb : Binds X.K fd ps ds) (hd : Vals dvs ds) (hx : Passes CX X E)
    (ha : PA X (e :: es) t) (hdb : (x == ("__debug__" : Str)) = false := by decide) (he : starEach (e :: es) X.env = (false, eval e X.env) :: starEach es X.env := by rfl) (hpl : (backTo pos (starEach es X.env)).any (·.1) = false := by rfl) :
    PE X (.Call (.Name x p) (e :: es) [] pos) (tCall sp dvs E t) := by
  intro pins s σ H Q I h
  refine wpAny_Call_Name_kw (ld_glob I hg hm ?_ hdb)
  refine PySem.W.callWith_K (h₀ := X.base) I.ok.mod.kin hk (thn (ha pos pins s σ H _ I h) fun us s1 ⟨vs, H1, I1, r, q⟩ => ⟨I1.kIn, ?_⟩) he hpl
  exact run_fn F hr hb hd hx I1 r q
theorem pe_meth {pl : Sem Bool} (he : PE X o ta) (c : Cls X.K C) (hm : Meth X.K C m f) (F : FnOk X.prog X.w X.K X.mg X.base CX k f fd ps sp) (hr : Room k X.A) (hb : Binds X.K fd ps ds) (hd : Vals dvs ds) (hx : Passes CX X E) (ha : PA X (e :: es) t)
    (hst : starEach (e :: es) X.env = (false, eval e X.env) :: starEach es X.env := by rfl) (hpl : (backTo pos (starEach es X.env)).any (·.1) = false := by rfl)
    (ht : eval (.Call (.Attribute o m apos) (e :: es) [] pos) X.env = (do
      let ov <- eval o X.env
      standAt apos.atName
      let (f, first) <- holding [ov] (getMethod ov m pl)
      callWith pos f first (backTo pos (starEach (e :: es) X.env)) (backToKw pos (keywordEach [] X.env))) := by rfl) :
    PE X (.Call (.Attribute o m apos) (e :: es) [] pos) (tMeth C m sp dvs E ta t) := by
  intro pins s σ H Q I h
  refine PySem.W.methodCall_KW (pl := pl) (thn (he pins s σ H _ I h) fun u s1 ⟨x, H1, I1, rx, a, dx, fs, ex, ea, l, q⟩ => ?_) ht
  subst ex
  obtain rfl : u = Value.ref a := rx
  refine getmeth_ok I1 ea c hm l ?_
  refine PySem.W.callWith_K (first := [.ref a]) (h₀ := X.base) I.ok.mod.kin hm.kp (thn (ha pos pins s1 σ H1 _ I1 q) fun us s2 ⟨vs, H2, I2, r, q2⟩ => ⟨I2.kIn, ?_⟩) hst hpl
  exact run_fn (us := .ref a :: us) (vs := .ref a :: vs) F hr hb hd hx I2 (.cons rfl r) q2
theorem pe_meth0 {pl : Sem Bool} (he : PE X o ta) (c : Cls X.K C) (hm : Meth X.K C m f) (F : FnOk X.prog X.w X.K X.mg X.base CX k f fd ps sp) (hr : Room k X.A) (hb : Binds X.K fd ps ds) (hd : Vals dvs ds) (hx : Passes CX X E)
    (ht : eval (.Call (.Attribute o m apos) [] [] pos) X.env = (do
      let ov <- eval o X.env
      standAt apos.atName
      let (f, first) <- holding [ov] (getMethod ov m pl)
      callWith pos f first (backTo pos (starEach [] X.env)) (backToKw pos (keywordEach [] X.env))) := by rfl) :
    PE X (.Call (.Attribute o m apos) [] [] pos) (tMeth C m sp dvs E ta tNil) := by
  intro pins s σ H Q I h
  refine PySem.W.methodCall_KW (pl := pl) (thn (he pins s σ H _ I h) fun u s1 ⟨x, H1, I1, rx, a, dx, fs, ex, ea, l, q⟩ => ?_) ht
  subst ex
  obtain rfl : u = Value.ref a := rx
  refine getmeth_ok I1 ea c hm l ?_
  exact PySem.W.callWith_K0 (first := [.ref a]) I1.kIn hm.kp (run_fn (us := [.ref a]) (vs := [.ref a]) F hr hb hd hx I1 (.cons rfl .nil) q)
structure Mk (K : PySem.W.Frag) (C f : Addr) : Prop where
  makes : PySem.W.makesIn K C = true
  init : PySem.W.findIn K (.ref C) "__init__" = some (some (.ref f))
  fn : PySem.W.isFn K (.ref f) = true
  kp : PySem.W.keepIn K (.ref C) = true
theorem run_make {pins : List (Addr × Obj)} {σ : St} {H : Hp} {s : Shared} {Q : VK} {us : List Value} {vs : List V} (M : Mk X.K C f) (F : FnOk X.prog X.w X.K X.mg X.base CX k f fd ps sp) (hr : Room (k + 1) X.A) (hb : Binds X.K fd ps ds) (hd : Vals dvs ds)
    (hx : Passes CX X E) (I : Inv X pins σ H s) (r : Vals vs us)
    (h : ∀ x dx, H x = none -> H dx = none -> dx ≠ x -> sp (.ref x :: (vs ++ dvs)) (upd (upd H dx (.own x)) x (.ins C dx [])) (fun v H2 => v = .non /\ Q (.ref x) H2) E) :
    wpAny (model X.prog X.w) X.A (call (.ref C) us) (EP X pins σ Q) X.xe s := by
  have hq := h (s.heap.objs.size + 1) s.heap.objs.size (I.hok.fresh (Nat.le_succ _)) (I.hok.fresh (Nat.le_refl _)) (Nat.ne_of_lt (Nat.lt_succ_self _))
  have I2 := Inv.made (C := C) I
  have r2 : Vals (V.ref (s.heap.objs.size + 1) :: (vs ++ dvs)) (Value.ref (s.heap.objs.size + 1) :: (us ++ ds)) := .cons rfl (r.append hd)
  have hl : (Value.ref (s.heap.objs.size + 1) :: us ++ ds).length = ps.length := by
    have e := r2.length
    rw [F.len _ _ _ _ hq] at e
    exact e.symm
  refine wpAny_call (make_map (f := f) I.kIn M.makes M.init (beq_iff_eq.mp M.fn) (codeAny_mono (F.run _ X.stack _ _ ⟨Value.ref (s.heap.objs.size + 1) :: us, []⟩ (Value.ref (s.heap.objs.size + 1) :: (us ++ ds)) _ _ E (hr.make C us [])
    (I2.env0.make C us []) (hb _ (Value.ref (s.heap.objs.size + 1) :: us) I2.kIn hl) r2 hq) fun r s' hq' => ?_))
  cases r with
  | error e => exact hx pins σ _ _ e s' I2 hq'
  | ok fl =>
    cases fl with
    | ret u =>
      obtain ⟨v, H', I3, rv, ev, q3⟩ := I2.after hq'
      subst ev
      exact ⟨rv, ⟨V.ref (s.heap.objs.size + 1), H', I3, rfl, q3⟩⟩
    | next => exact False.elim hq'
    | brk => exact False.elim hq'
    | cont => exact False.elim hq'
theorem pe_make (M : Mk X.K C f) (F : FnOk X.prog X.w X.K X.mg X.base CX k f fd ps sp) (hr : Room (k + 1) X.A) (hg : Gl X x) (hm : X.mg x = some (.ref C)) (hb : Binds X.K fd ps ds) (hd : Vals dvs ds) (hx : Passes CX X E)
    (ha : PA X (e :: es) t) (hdb : (x == ("__debug__" : Str)) = false := by decide) (he : starEach (e :: es) X.env = (false, eval e X.env) :: starEach es X.env := by rfl) (hpl : (backTo pos (starEach es X.env)).any (·.1) = false := by rfl) :
    PE X (.Call (.Name x p) (e :: es) [] pos) (tMake C sp dvs E t) := by
  intro pins s σ H Q I h
  refine wpAny_Call_Name_kw (ld_glob I hg hm ?_ hdb)
  refine PySem.W.callWith_K (h₀ := X.base) I.ok.mod.kin M.kp (thn (ha pos pins s σ H _ I h) fun us s1 ⟨vs, H1, I1, r, q⟩ => ⟨I1.kIn, ?_⟩) he hpl
  exact run_make M F hr hb hd hx I1 r q
end
section
variable {X : Cx} {CX : CXT} {k : Nat} {f C : Addr} {fd : FuncData} {ps ks : List Str} {sp : Sp} {E : XK} {x m : Str} {p pos apos kpos : Pos} {e o : Expr} {es : List Expr} {kws : List Keyword} {te ta : TE} {t tk : TA} {nm : Option Str}
structure KBinds (K : PySem.W.Frag) (fd : FuncData) (ps ks : List Str) (g : List Value -> List Value -> List Value) (gV : List V -> List V -> List V) : Prop where
  to : ∀ (s : Shared) (us ws : List Value), K.In s.heap -> (g us ws).length = ps.length -> BindsTo s fd ⟨us, ks.zip ws⟩ (ps.zip (g us ws))
  rel : ∀ {vs : List V} {us : List Value} {zs : List V} {ws : List Value}, Vals vs us -> Vals zs ws -> Vals (gV vs zs) (g us ws)
variable {g : List Value -> List Value -> List Value} {gV : List V -> List V -> List V}
end
structure FnScope (N P : List Str) (sc : Scope) : Prop where
  kind : sc.kind = .function
  co : sc.isCoroutine = false
  gen : sc.isGenerator = false
  nd : N.Nodup
  pre : N.take P.length = P
  par : ∀ x ∈ P, sc.names.lookup x = some .local ∨ sc.names.lookup x = some .cell
  nofree : ∀ y ∈ sc.names, y.2 ≠ .free
theorem bindL_out {kindOf : Str -> Option NameKind} {x : Str} : ∀ {binds : List (Str × Value)} {m : Str -> Option Value}, (∀ v, (x, v) ∉ binds) -> bindL kindOf binds m x = m x
  | [], _, _ => rfl
  | (n, v) :: r, m, h => by
    unfold bindL
    rw [bindL_out fun w hw => h w (List.mem_cons_of_mem _ hw)]
    split
    · have : x ≠ n := by rintro rfl; exact h v List.mem_cons_self
      simp [this]
    · rfl
theorem bindC_out {kindOf : Str -> Option NameKind} {x : Str} : ∀ {binds : List (Str × Value)} {m : Str -> Option Value}, (∀ v, (x, v) ∉ binds) -> bindC kindOf binds m x = m x
  | [], _, _ => rfl
  | (n, v) :: r, m, h => by
    unfold bindC
    rw [bindC_out fun w hw => h w (List.mem_cons_of_mem _ hw)]
    split
    · rfl
    · have : x ≠ n := by rintro rfl; exact h v List.mem_cons_self
      simp [this]
theorem bindL_get {kindOf : Str -> Option NameKind} {x : Str} {v : Value} : ∀ {P : List Str} {vs : List Value} {i : Nat} {m : Str -> Option Value}, P.Nodup -> P[i]? = some x -> vs[i]? = some v -> kindOf x = some .local ->
    bindL kindOf (P.zip vs) m x = some v
  | [], _, _, _, _, h, _, _ => by simp at h
  | _ :: _, [], _, _, _, _, h, _ => by simp at h
  | p :: P, w :: vs, 0, m, nd, h1, h2, hk => by
    simp at h1 h2; subst h1; subst h2
    show bindL kindOf ((p, w) :: P.zip vs) m p = _
    unfold bindL
    rw [bindL_out fun v hv => (List.nodup_cons.mp nd).1 (List.of_mem_zip hv).1, if_pos hk]
    simp
  | p :: P, w :: vs, i + 1, m, nd, h1, h2, hk => by
    show bindL kindOf ((p, w) :: P.zip vs) m x = _
    unfold bindL
    exact bindL_get (i := i) (List.nodup_cons.mp nd).2 (by simpa using h1) (by simpa using h2) hk
theorem bindC_get {kindOf : Str -> Option NameKind} {x : Str} {v : Value} : ∀ {P : List Str} {vs : List Value} {i : Nat} {m : Str -> Option Value}, P.Nodup -> P[i]? = some x -> vs[i]? = some v -> kindOf x ≠ some .local ->
    bindC kindOf (P.zip vs) m x = some v
  | [], _, _, _, _, h, _, _ => by simp at h
  | _ :: _, [], _, _, _, _, h, _ => by simp at h
  | p :: P, w :: vs, 0, m, nd, h1, h2, hk => by
    simp at h1 h2; subst h1; subst h2
    show bindC kindOf ((p, w) :: P.zip vs) m p = _
    unfold bindC
    rw [bindC_out fun v hv => (List.nodup_cons.mp nd).1 (List.of_mem_zip hv).1, if_neg hk]
    simp
  | p :: P, w :: vs, i + 1, m, nd, h1, h2, hk => by
    show bindC kindOf ((p, w) :: P.zip vs) m x = _
    unfold bindC
    exact bindC_get (i := i) (List.nodup_cons.mp nd).2 (by simpa using h1) (by simpa using h2) hk
def start (N : List Str) (vs : List V) : St := vs.map some ++ List.replicate (N.length - vs.length) none
def cxOf (CX : CXT) (P : Program) (w : World) (K : PySem.W.Frag) (mg : Str -> Option Value) (base : Heap) (N : List Str) (qual : Str) (scope : Scope) (f : Addr) (cd : Value) (A : Around) (outer : List Env) (s : Shared) (H : Hp) (E : XK) : Cx where
  prog := P
  w := w
  K := K
  mg := mg
  base := base
  A := A.deeper (envOfC qual scope s.heap.objs.size f cd)
  N := N
  s₀ := s
  H₀ := H
  env := envOfC qual scope s.heap.objs.size f cd
  outer := outer
  stack := envOfC qual scope s.heap.objs.size f cd :: outer
  ex := []
  calm := true
  fn := fun _ => true
  pn := []
  xe := fun e s' => wpAny (model P w) (A.deeper (envOfC qual scope s.heap.objs.size f cd)) (leaving (envOfC qual scope s.heap.objs.size f cd) e) (fun _ s'' => CX outer H s E e s'') (fun e' s'' => CX outer H s E e' s'') s'
theorem cell_has {sc : Scope} {n : Nat} {x : Str} (h : sc.names.lookup x = some .cell) : ∃ c, (cellsFrom n sc.names []).lookup x = some c := by
  have q := PySem.W.cellsFrom_some sc.names n [] (.inl h)
  exact Option.isSome_iff_exists.mp q
theorem inv_start {CX : CXT} {P : Program} {w : World} {K : PySem.W.Frag} {mg : Str -> Option Value} {base : Heap} {N ps : List Str} {qual : Str} {scope : Scope} {f : Addr} {cd : Value} {A : Around} {outer : List Env} {s s1 : Shared} {H : Hp} {E : XK} {us : List Value} {vs : List V}
    (S : FnScope N ps scope) (hd : A.handled = none) (e0 : Env0 P w K mg base A outer s H) (hl : vs.length = ps.length) (r : Vals vs us)
    (x : InCallC s s.heap.objs.size (bindL (envOfC qual scope s.heap.objs.size f cd).kindOf (ps.zip us) fun _ => none) (cellsFrom (s.heap.objs.size + 1) scope.names []) (bindC (envOfC qual scope s.heap.objs.size f cd).kindOf (ps.zip us) fun _ => none) s1) :
    Inv (cxOf CX P w K mg base N qual scope f cd A outer s H E) [] (start N vs) H s1 := by
  have hpl : ps.length <= N.length := by have := congrArg List.length S.pre; rw [List.length_take] at this; omega
  obtain ⟨h1, tk, rfl, hk⟩ := x.done
  have noA : ∀ b : Addr, b ∉ (cxOf CX P w K mg base N qual scope f cd A outer s H E).ex := fun b z => absurd (show b ∈ ([] : List Addr) from z) (by simp)
  refine ⟨⟨e0.mod, S.kind, rfl, rfl, Nat.le_refl _, fun y z c h1 h2 => ?_, fun y hy => ?_, fun y c _ h => ?_, fun _ => hd, Around.frames_deeper e0.frames, .inr ⟨rfl, rfl⟩, fun b z => absurd z (noA b), e0.bs, e0.bsz, fun b _ _ => noA b, fun b z => absurd z (noA b), e0.funs, e0.frf⟩,
    rfl, e0.bare, Un.kept hk, ⟨_, x.toInCall.ns, fun i y v h1 h2 h3 => ?_⟩, fun y c h => ⟨_, x.cell y c h⟩, e0.hok.fresh (Nat.le_refl _), fun y c h => ?_, fun p hp => absurd (show p ∈ ([] : List (Addr × Obj)) from hp) (by simp), e0.hok.kept hk, ?_⟩
  · exact name_of_addr x.apart (PySem.mem_of_lookup h1) (PySem.mem_of_lookup h2)
  · have hy : scope.names.lookup y = some .cell ∨ scope.names.lookup y = some .free := hy
    rcases hy with hy | hy
    · exact cell_has hy
    · exact absurd rfl (S.nofree _ (PySem.mem_of_lookup hy))
  · exact Nat.le_of_lt (x.above y c (PySem.mem_of_lookup h))
  · have hi : i < vs.length := by
      unfold start at h2
      by_cases hi : i < vs.length
      · exact hi
      · rw [List.getElem?_append_right (by simpa using hi)] at h2
        rw [List.getElem?_replicate] at h2
        split at h2 <;> cases h2
    have ha : vs[i]? = some v := by
      unfold start at h2
      rw [List.getElem?_append_left (by simpa using hi), List.getElem?_map] at h2
      cases e : vs[i]? with
      | none => rw [e] at h2; cases h2
      | some a => rw [e] at h2; cases h2; rfl
    obtain ⟨u, hu, rv⟩ := r.get ha
    have hp : ps[i]? = some y := by
      rw [<- S.pre, List.getElem?_take_of_lt (by omega)]; exact h1
    have ndP : ps.Nodup := by rw [<- S.pre]; exact S.nd.sublist (List.take_sublist _ _)
    refine ⟨u, rv, ?_⟩
    rcases S.par y (List.mem_of_getElem? hp) with k | k
    · exact .inl ⟨k, bindL_get ndP hp hu k⟩
    · obtain ⟨c, e⟩ := cell_has (n := s.heap.objs.size + 1) k
      refine .inr ⟨.inl k, c, e, ?_⟩
      have q := x.cell y c e
      rw [bindC_get ndP hp hu (by show scope.names.lookup y ≠ _; rw [k]; decide)] at q
      exact q
  · exact e0.hok.fresh (Nat.le_of_lt (x.above y c (PySem.mem_of_lookup h)))
  · unfold start
    show _ = N.length
    rw [List.length_append, List.length_map, List.length_replicate]
    omega
theorem fn_of {CX : CXT} {P : Program} {w : World} {K : PySem.W.Frag} {mg : Str -> Option Value} {base : Heap} {k : Nat} {f : Addr} {name qual : Str} {params : Arguments} {body : List Stmt} {scope : Scope} {dV kV doc pm cdv ct oc : Value} {an od : Option Addr}
    {osl : Array (Option Value)} {N ps : List Str} {sp : Sp} (lk : K.lookup f = some ⟨oc, od, .func (PySem.W.fnOf name qual params body scope dV kV doc pm an cdv ct), osl⟩) (hcd : PySem.W.codeIn K cdv qual = true) (S : FnScope N ps scope)
    (len : ∀ vs H Q E, sp vs H Q E -> vs.length = ps.length)
    (hbody : ∀ (A : Around) (outer : List Env) (s : Shared) (H : Hp) (vs : List V) (Q : VK) (E : XK), Room k (A.deeper (envOfC qual scope s.heap.objs.size f cdv)) -> sp vs H Q E ->
      ∃ t, PSs (cxOf CX P w K mg base N qual scope f cdv A outer s H E) body t /\ t { nx := fun _ H' => Q .non H', rt := Q } (start N vs) H) :
    FnOk P w K mg base CX (k + 1) f (PySem.W.fnOf name qual params body scope dV kV doc pm an cdv ct) ps sp := by
  refine ⟨len, fun A outer s H args us vs Q E hr e0 hb r hsp => ?_⟩
  have hl := len _ _ _ _ hsp
  have KX : K.In s.heap := e0.mod.kin.keeps fun b o e => (e0.bs b o e).1
  have lim : s.heap.NoLimit := e0.mod.nolimit.keeps fun b o e => (e0.bs b o e).1
  have hkind : ∀ y ∈ ps.zip us, scope.names.lookup y.1 = some .local ∨ (scope.names.lookup y.1 = some .cell /\ ((cellsFrom (s.heap.objs.size + 1) scope.names []).lookup y.1).isSome = true) := fun ⟨n, v⟩ hy => by
    rcases S.par n (List.of_mem_zip hy).1 with q | q
    · exact .inl q
    · exact .inr ⟨q, PySem.W.cellsFrom_some _ _ _ (.inl q)⟩
  refine codeAny_call_function hr.depth (KX _ _ lk) rfl S.co S.gen rfl (PySem.W.codeRec_of KX hcd) (hb _ _ _ _ ?_)
  refine wpAny_newFunctionEnv_cells S.kind hkind fun env he s1 x => ?_
  subst he
  refine ⟨lim.keeps x.toInCall.keep, codeAny_func ?_⟩
  obtain ⟨t, ht, hq⟩ := hbody A outer s H vs Q E (hr.deeper _) hsp
  have I : Inv (cxOf CX P w K mg base N qual scope f cdv A outer s H E) [] (start N vs) H s1 := inv_start S hr.hd e0 hl r x
  refine wpAny_mono (ht [] s1 (start N vs) H _ I hq) (fun fl s' hs => ?_) fun e s' hs => hs
  have fin : ∀ {σ' : St} {H' : Hp} {v : V} {u : Value}, Inv (cxOf CX P w K mg base N qual scope f cdv A outer s H E) [] σ' H' s' -> RelV v u -> Q v H' -> CE outer P w H s Q u s' :=
    fun {σ' H' v u} J rv q => ⟨v, H', J.os, J.bare, J.base, J.hok, rv, q⟩
  cases fl with
  | ret u =>
    obtain ⟨v, σ', H', J, rv, q⟩ := hs
    exact fin J rv q
  | next =>
    obtain ⟨σ', H', J, q⟩ := hs
    exact fin (v := V.non) (u := Value.none) J rfl q
  | brk =>
    obtain ⟨_, _, _, q⟩ := hs
    exact False.elim q
  | cont =>
    obtain ⟨_, _, _, q⟩ := hs
    exact False.elim q
end L2
namespace L2
open PySem PySem.Spec PyProof.Rows
section
variable {X : Cx} {x : Str} {p pos : Pos} {e : Expr} {es : List Expr} {t : TA} {id T : String} {r : List V -> Hp -> VK -> Prop}
def tCB (r : List V -> Hp -> VK -> Prop) (t : TA) : TE := fun σ H Q => t σ H fun vs H1 => r vs H1 Q
theorem pe_callB (hc : CallR X (.builtin id) r) (hg : Gl X x) (hm : X.mg x = none) (hv : bootBuiltins x = some (.builtin id)) (ha : PA X (e :: es) t) (hn : x ≠ "__name__" := by decide) (hdb : (x == ("__debug__" : Str)) = false := by decide)
    (he : starEach (e :: es) X.env = (false, eval e X.env) :: starEach es X.env := by rfl) (hpl : (backTo pos (starEach es X.env)).any (·.1) = false := by rfl) : PE X (.Call (.Name x p) (e :: es) [] pos) (tCB r t) := by
  intro pins s σ H Q I h
  refine wpAny_Call_Name_kw (ld_blt I hg hm hv ?_ hn hdb)
  exact PyProof.Rows.callWith_builtin1 (thn (ha pos pins s σ H _ I h) fun us s1 ⟨vs, H1, I1, r1, q1⟩ => hc pins s1 σ H1 vs us Q I1 r1 q1) he hpl
theorem pe_callTy (hc : CallR X (.type T) r) (hg : Gl X x) (hm : X.mg x = none) (hv : bootBuiltins x = some (.type T)) (ha : PA X (e :: es) t) (hn : x ≠ "__name__" := by decide) (hdb : (x == ("__debug__" : Str)) = false := by decide)
    (he : starEach (e :: es) X.env = (false, eval e X.env) :: starEach es X.env := by rfl) (hpl : (backTo pos (starEach es X.env)).any (·.1) = false := by rfl) : PE X (.Call (.Name x p) (e :: es) [] pos) (tCB r t) := by
  intro pins s σ H Q I h
  refine wpAny_Call_Name_kw (ld_blt I hg hm hv ?_ hn hdb)
  exact PyProof.Rows.callWith_type1 (thn (ha pos pins s σ H _ I h) fun us s1 ⟨vs, H1, I1, r1, q1⟩ => hc pins s1 σ H1 vs us Q I1 r1 q1) he hpl
end
end L2
namespace HT
open PySem PyProof.Rows
section
open PySem.SeqAt
open PySem.AutoSeq1 (wpAny_loadPart')
open PySem.MeetsSeq PySem.MeetsSeq2 PySem.MeetsSeq3
end
section
variable {prog : Program} {w : World} {A : Around} {E : Value -> Shared -> Prop} {s : Shared}
end
end HT
namespace L2
open PySem PySem.Spec PyProof.Rows
abbrev TO := St -> Hp -> (Option Int -> Hp -> Prop) -> Prop
theorem intsAre_of {ns : List Int} : ∀ {us : List Value}, Vals (ns.map V.int) us -> IntsAre us ns := by
  induction ns with
  | nil => intro us r; rw [List.map_nil] at r; cases r; exact .nil
  | cons n ns ih =>
    intro us r
    rw [List.map_cons] at r
    cases r with
    | cons r1 r2 =>
      obtain ⟨t, e⟩ := r1
      subst e
      exact .cons n t (ih r2)
section
variable {X : Cx} {e : Expr} {te : TE} {lo hi : Option Expr} {tl th : TO} {pos p2 : Pos}
end
end L2
namespace L2
open PySem PySem.Spec PyProof.Rows
def ixN (n : Nat) (i : Int) : Option Nat := if 0 <= i then (if i < n then some i.toNat else none) else if -(n : Int) <= i then some (i + n).toNat else none
def atI {α : Type} (xs : List α) (i : Int) : Option α := (ixN xs.length i).bind fun j => xs[j]?
theorem ixN_seq {n : Nat} {i : Int} {j : Nat} (h : ixN n i = some j) : seqIndex? i n = some j /\ j < n /\ -(n : Int) <= i /\ i < n := by
  unfold ixN at h
  by_cases h0 : 0 <= i
  · rw [if_pos h0] at h
    by_cases h1 : i < n
    · rw [if_pos h1] at h
      have e : i.toNat = j := Option.some.inj h
      exact ⟨by rw [seqIndex_of h0 h1, e], by omega, by omega, h1⟩
    · rw [if_neg h1] at h; cases h
  · rw [if_neg h0] at h
    by_cases h1 : -(n : Int) <= i
    · rw [if_pos h1] at h
      have e : (i + n).toNat = j := Option.some.inj h
      exact ⟨by rw [seqIndex_neg (by omega) h1, e], by omega, h1, by omega⟩
    · rw [if_neg h1] at h; cases h
theorem atI_get {α : Type} {xs : List α} {i : Int} {v : α} (h : atI xs i = some v) : ∃ j, seqIndex? i xs.length = some j /\ xs[j]? = some v /\ j < xs.length /\ -(xs.length : Int) <= i /\ i < xs.length := by
  unfold atI at h
  cases e : ixN xs.length i with
  | none => rw [e] at h; cases h
  | some j =>
    rw [e] at h
    obtain ⟨h1, h2, h3, h4⟩ := ixN_seq e
    exact ⟨j, h1, h, h2, h3, h4⟩
theorem atI_nat {α : Type} {xs : List α} {j : Nat} {v : α} (h : xs[j]? = some v) : atI xs (j : Int) = some v := by
  have hj : j < xs.length := (List.getElem?_eq_some_iff.mp h).1
  have e : ixN xs.length (j : Int) = some j := by
    unfold ixN
    rw [if_pos (by omega), if_pos (by omega)]; simp
  unfold atI; rw [e]; exact h
def PlainIx (b : Expr) : Prop := ∀ o i, subscripted b false o i = operate [o, i] (getItem o i)
def IxR (X : Cx) (r : R2) : Prop :=
  ∀ (value slice : Expr) (pins : List (Addr × Obj)) (s : Shared) (σ : St) (H : Hp) (x y : V) (v u : Value) (Q : VK), Inv X pins σ H s -> RelV x v -> RelV y u -> r x y H Q ->
    subscripted slice false v u = operate [v, u] (getItem v u) -> wpAny (model X.prog X.w) X.A (subscriptTail value slice v u) (EP X pins σ Q) X.xe s
def MtR (X : Cx) (id : String) (r : V -> List V -> Hp -> VK -> Prop) : Prop :=
  ∀ (pins : List (Addr × Obj)) (s : Shared) (σ : St) (H : Hp) (x : V) (xs : List V) (v : Value) (us : List Value) (Q : VK), Inv X pins σ H s -> RelV x v -> Vals xs us -> r x xs H Q ->
    wpAny (model X.prog X.w) X.A (call (.builtin id) (v :: us)) (EP X pins σ Q) X.xe s
section
variable {X : Cx} {a b : Expr} {ta tb : TE} {pos : Pos}
theorem pe_ix {r : R2} (hr : IxR X r) (ha : PE X a ta) (hb : PE X b tb) (hs : PlainIx b) : PE X (.Subscript a b pos) (tOp r ta tb) := by
  intro pins s σ H Q I h
  exact Subscript_ (binT ha hb I h fun v u s2 x y H2 I2 rx ry q => hr a b pins s2 σ H2 x y v u Q I2 rx ry q (hs _ _))
def rIxL (K : PySem.W.Frag) : R2 := fun x y H Q => ∃ p xs i v, x = .ref p /\ y = .int i /\ SqL K H p xs /\ atI xs i = some v /\ Q v H
def rIxT (K : PySem.W.Frag) : R2 := fun x y H Q => ∃ p xs i v, x = .ref p /\ y = .int i /\ SqT K H p xs /\ atI xs i = some v /\ Q v H
theorem ix_list : IxR X (rIxL X.K) := by
  intro value slice pins s σ H x y v u Q I rx ry h hs
  obtain ⟨p, xs, i, z, rfl, rfl, hq, he, q⟩ := h
  cases rx
  obtain ⟨t, rfl⟩ := ry
  obtain ⟨its, r, pl, hz⟩ := I.list hq
  obtain ⟨j, h1, h2, h3, h4, h5⟩ := atI_get he
  obtain ⟨w, ew, rw'⟩ := r.get h2
  have hl := r.length
  have hn := line63
  have fin : EP X pins σ Q w s := ⟨z, H, I, rw', q⟩
  by_cases h0 : 0 <= i
  · have hj : i.toNat = j := by
      rw [seqIndex_of h0 h5] at h1
      exact Option.some.inj h1
    exact item_listR pl.isList h0 (by omega) (by rw [hj]; simpa using ew) fin hs
  · have hj : (i + (its.toArray.size : Int)).toNat = j := by
      rw [seqIndex_neg (by omega) h4] at h1
      rw [List.size_toArray, <- hl]
      exact Option.some.inj h1
    exact subscriptTail_builtinR (x := w) pl.isList.typeIs slot_list_getitem.lookup
      (wpAny_getItem_list_neg (Q := fun r s' => r = w /\ EP X pins σ Q r s') pl.isList (by omega) (by rw [List.size_toArray] <;> omega) (by omega) (by rw [hj]; simpa using ew) ⟨rfl, fin⟩) hs
theorem ix_tup : IxR X (rIxT X.K) := by
  intro value slice pins s σ H x y v u Q I rx ry h hs
  obtain ⟨p, xs, i, z, rfl, rfl, hq, he, q⟩ := h
  cases rx
  obtain ⟨t, rfl⟩ := ry
  obtain ⟨its, r, pl, hz⟩ := I.tuple hq
  obtain ⟨j, h1, h2, h3, h4, h5⟩ := atI_get he
  obtain ⟨w, ew, rw'⟩ := r.get h2
  have hl := r.length
  have hn := line63
  have fin : EP X pins σ Q w s := ⟨z, H, I, rw', q⟩
  exact subscriptTail_builtinR (x := w) pl.typeIs slot_tuple_getitem.lookup
    (getItem_tuple (j := j) (Q := fun r s' => r = w /\ EP X pins σ Q r s') pl (by omega) (by omega) (by rw [List.size_toArray, <- hl]; exact h1) (by simpa using ew) ⟨rfl, fin⟩) hs
theorem Inv.lst {pins : List (Addr × Obj)} {σ : St} {H : Hp} {s : Shared} {p : Addr} {xs : List V} (I : Inv X pins σ H s) (h : H p = some (.lst xs)) :
    ∃ (its : List Value) (n : Nat), Vals xs its /\ s.heap.get? p = some { cls := .type "list", data := .seq its.toArray n } /\ xs.length <= sizeLine := by
  obtain ⟨z, its, n, r, e⟩ := I.hok p _ h
  exact ⟨its, n, r, e, z⟩
theorem call_len_seq : CallR X (.builtin "len") (fun xs H Q => ∃ p ys, xs = [.ref p] /\ (SqL X.K H p ys ∨ SqT X.K H p ys) /\ Q (.int ys.length) H) := by
  intro pins s σ H xs us Q I r h
  obtain ⟨p, ys, rfl, hq, q⟩ := h
  obtain ⟨u, rfl, rx⟩ := vals1 r
  cases rx
  have hn := line63
  rcases hq with hq | hq
  · obtain ⟨its, r', pl, hz⟩ := I.list hq
    have hlen := r'.length
    exact Calls.call_len_list pl.isList (by simp only [List.size_toArray] <;> omega) ⟨.int ys.length, H, I.tok _, ⟨s.toks + 1, by rw [List.size_toArray, hlen]⟩, q⟩
  · obtain ⟨its, r', pl, hz⟩ := I.tuple hq
    have hlen := r'.length
    exact len_tuple pl (by simp only [List.size_toArray] <;> omega) ⟨.int ys.length, H, I.tok _, ⟨s.toks + 1, by rw [List.size_toArray, hlen]⟩, q⟩
theorem call_list_of : CallR X (.type "list") (fun xs H Q => ∃ p ys, xs = [.ref p] /\ (SqL X.K H p ys ∨ SqT X.K H p ys) /\ ∀ l, H l = none -> Q (.ref l) (upd H l (.lst ys))) := by
  intro pins s σ H xs us Q I r h
  obtain ⟨p, ys, rfl, hq, q⟩ := h
  obtain ⟨u, rfl, rx⟩ := vals1 r
  cases rx
  have fin : ∀ (its : List Value), Vals ys its -> ys.length <= sizeLine -> ∀ (h' : Heap) (c' : Nat), (∀ b o', s.heap.get? b = some o' -> h'.get? b = some o') ->
      h'.get? s.heap.objs.size = some { cls := .type "list", dict := none, data := .seq its.toArray c', slots := #[] } -> EP X pins σ Q (.ref s.heap.objs.size) { s with heap := h' } := fun its r' hz h' c' kp e =>
    ⟨.ref s.heap.objs.size, _, I.laid (t' := s.toks) kp (Nat.le_refl _) (show ObjOk X.prog X.w _ h' _ (.lst ys) from ⟨hz, its, c', r', e⟩), rfl, q _ (I.hok.fresh (Nat.le_refl _))⟩
  rcases hq with hq | hq
  · obtain ⟨its, r', pl, hz⟩ := I.list hq
    have hlen := r'.length
    obtain ⟨o, ho, hc, n, hd⟩ := pl.isList
    exact call_list_seq p (.inl rfl) ho hc hd (fun h' c' kp e => fin its r' hz h' c' kp e) (by simp only [List.size_toArray] <;> omega)
  · obtain ⟨its, r', pl, hz⟩ := I.tuple hq
    have hlen := r'.length
    obtain ⟨o, ho, hc, n, hd⟩ := pl
    exact call_list_seq p (.inr rfl) ho hc hd (fun h' c' kp e => fin its r' hz h' c' kp e) (by simp only [List.size_toArray] <;> omega)
theorem call_tuple_of : CallR X (.type "tuple") (fun xs H Q => ∃ p ys, xs = [.ref p] /\ ((SqL X.K H p ys /\ ∀ l, H l = none -> Q (.ref l) (upd H l (.tup ys))) ∨ (SqT X.K H p ys /\ Q (.ref p) H))) := by
  intro pins s σ H xs us Q I r h
  obtain ⟨p, ys, rfl, h⟩ := h
  obtain ⟨u, rfl, rx⟩ := vals1 r
  cases rx
  rcases h with ⟨hq, q⟩ | ⟨hq, q⟩
  · obtain ⟨its, r', pl, hz⟩ := I.list hq
    have hlen := r'.length
    refine call_tuple_list pl.isList (fun h' kp => ?_) (by simp only [List.size_toArray] <;> omega)
    have I1 : Inv X pins σ H { s with heap := h' } := I.kept (t' := s.toks) kp
    have I2 : Inv X pins σ (upd H h'.objs.size (.tup ys)) { s with heap := h'.push { cls := .type "tuple", data := .seq its.toArray } } :=
      I1.laid (t' := s.toks) (fun b o e => Heap.get?_push_of_some _ e) (Nat.le_refl _) (show ObjOk X.prog X.w _ _ _ (.tup ys) from ⟨hz, its, r', IsTup.new _ _⟩)
    exact ⟨.ref h'.objs.size, _, I2, rfl, q _ (I1.hok.fresh (Nat.le_refl _))⟩
  · obtain ⟨its, r', pl, hz⟩ := I.tuple hq
    exact call_tuple_same pl ⟨.ref p, H, I, rfl, q⟩
def tyV (K : PySem.W.Frag) (T : String) (x : V) (H : Hp) : Prop := match x with
  | .str _ => T = "str"
  | .int _ => T = "int"
  | .ref p => (T = "list" /\ ∃ xs, SqL K H p xs) ∨ (T = "tuple" /\ ∃ o, K.lookup p = some o /\ o.cls = .type "tuple" /\ o.dict = none) ∨
      (T = "dict" /\ ((∃ kvs, H p = some (.dK kvs)) ∨ ∃ kvs, H p = some (.dT kvs))) ∨ (T = "set" /\ ∃ S n, H p = some (.set S n))
  | _ => False
theorem tyV_is {pins : List (Addr × Obj)} {σ : St} {H : Hp} {s : Shared} {T : String} {x : V} {v : Value} (I : Inv X pins σ H s) (r : RelV x v) (ty : tyV X.K T x H) :
    s.TypeIs v T /\ ∀ a, v = .ref a -> ∃ ob, s.heap.get? a = some ob /\ ob.dict = none := by
  cases x with
  | str z =>
    obtain ⟨t, rfl⟩ := r
    cases (show T = "str" from ty)
    exact ⟨typeIs_str s z t, fun _ e => nomatch e⟩
  | int i =>
    obtain ⟨t, rfl⟩ := r
    cases (show T = "int" from ty)
    exact ⟨typeIs_int s i t, fun _ e => nomatch e⟩
  | ref p =>
    cases r
    rcases ty with ⟨rfl, xs, hq⟩ | ⟨rfl, o, hk, hc, hd⟩ | ⟨rfl, hk⟩ | ⟨rfl, S, n, hk⟩
    · obtain ⟨its, _, pl, _⟩ := I.list hq
      refine ⟨pl.isList.typeIs, fun a e => ?_⟩
      cases e
      obtain ⟨o, n, e, c, hd, _⟩ := pl
      exact ⟨o, e, hd⟩
    · refine ⟨⟨o, I.kIn p o hk, hc⟩, fun a e => ?_⟩
      cases e
      exact ⟨o, I.kIn _ o hk, hd⟩
    · have z : ∃ o, s.heap.get? p = some o /\ o.ExactDict := by
        rcases hk with ⟨kvs, hk⟩ | ⟨kvs, hk⟩
        · obtain ⟨_, _, _, _, o, _, _, e, ex, _⟩ := I.hok p _ hk
          exact ⟨o, e, ex⟩
        · obtain ⟨_, _, _, _, o, _, _, e, ex, _⟩ := I.hok p _ hk
          exact ⟨o, e, ex⟩
      obtain ⟨o, e, ex⟩ := z
      refine ⟨⟨o, e, ex.1⟩, fun a e2 => ?_⟩
      cases e2
      exact ⟨o, e, ex.2.1⟩
    · obtain ⟨o, _, _, _, e, ex, _⟩ := I.hok p _ hk
      refine ⟨⟨o, e, ex.1⟩, fun a e2 => ?_⟩
      cases e2
      exact ⟨o, e, ex.2.1⟩
  | _ => exact False.elim ty
def tBM (K : PySem.W.Frag) (T : String) (r : V -> List V -> Hp -> VK -> Prop) (to : TE) (t : TA) : TE := fun σ H Q => to σ H fun x H1 => tyV K T x H1 /\ t σ H1 fun xs H2 => r x xs H2 Q
variable {o e : Expr} {es : List Expr} {to : TE} {t : TA} {name : Str} {apos cpos : Pos} {T id : String} {r : V -> List V -> Hp -> VK -> Prop}
theorem pe_bm (pa : PlainAttrs T) (slot : Slot T name id) (hty : typeOf (.builtin id) = pure (.type "method_descriptor")) (hm : MtR X id r) (ho : PE X o to) (ha : PA X (e :: es) t)
    (hbase : attributeBase o name X.env (eval o X.env) = eval o X.env := by rfl)
    (hfew : ((backTo cpos (starEach (e :: es) X.env)).all (fun x => !x.1) && (backToKw cpos (keywordEach [] X.env)).all (fun x => x.1.isSome)
      && decide ((e :: es).length + ([] : List Keyword).length + (if ([] : List Keyword).isEmpty then 0 else 1) < 30)) = true := by rfl)
    (hline : (apos.endLine == cpos.line) = true := by rfl) (hs : starEach (e :: es) X.env = (false, eval e X.env) :: starEach es X.env := by rfl) (hplain : (backTo cpos (starEach es X.env)).any (·.1) = false := by rfl) :
    PE X (.Call (.Attribute o name apos) (e :: es) [] cpos) (tBM X.K T r to t) := by
  intro pins s σ H Q I h
  refine wpAny_Call_method_late hbase hfew hline rfl (thn (ho pins s σ H _ I h) fun v s1 ⟨x, H1, I1, r1, ty, q1⟩ => ?_)
  obtain ⟨h1, h2⟩ := tyV_is I1 r1 ty
  refine ⟨T, id, pa, slot, hty, h1, h2, ?_⟩
  have hA := ha cpos pins s1 σ H1 _ I1 q1
  rw [hs] at hA ⊢
  refine Calls.callWith_builtin (by show (false || (backTo cpos (starEach es X.env)).any (·.1)) = false; rw [hplain] <;> rfl) (Calls.evalArgs_plain ?_)
  exact thn hA fun us s2 ⟨vs, H2, I2, r2, q2⟩ => hm pins s2 σ H2 x vs v us Q I2 r1 r2 q2
end
end L2
namespace L2
open PySem PySem.Spec PyProof.Rows
def MtM (X : Cx) (id : String) (r : V -> List V -> Hp -> VK -> Prop) : Prop :=
  ∀ (pins : List (Addr × Obj)) (s : Shared) (σ : St) (H : Hp) (x : V) (xs : List V) (v : Value) (us : List Value) (Q : VK), Inv X pins σ H s -> RelV x v -> Vals xs us -> r x xs H Q ->
    wpAny (model X.prog X.w) X.A (call (.builtin id) (v :: us)) (EP X pins σ Q) X.xe s
theorem Vals.one : ∀ {x : V} {us : List Value}, Vals [x] us -> ∃ u, us = [u] /\ RelV x u
  | _, _, .cons r .nil => ⟨_, rfl, r⟩
theorem Vals.two : ∀ {x y : V} {us : List Value}, Vals [x, y] us -> ∃ u v, us = [u, v] /\ RelV x u /\ RelV y v
  | _, _, _, .cons r (.cons q .nil) => ⟨_, _, rfl, r, q⟩
theorem Vals.zero : ∀ {us : List Value}, Vals [] us -> us = []
  | _, .nil => rfl
theorem Vals.dropLast {xs : List V} {us : List Value} (h : Vals xs us) : Vals xs.dropLast us.dropLast := by
  induction h with
  | nil => exact .nil
  | cons r t ih =>
    cases t with
    | nil => exact .nil
    | cons q t' => exact .cons r ih
theorem Vals.reverse {xs : List V} {us : List Value} (h : Vals xs us) : Vals xs.reverse us.reverse := by
  induction h with
  | nil => exact .nil
  | cons r t ih => rw [List.reverse_cons, List.reverse_cons]; exact Vals.append ih (.cons r .nil)
theorem Vals.rep {xs : List V} {us : List Value} (h : Vals xs us) : ∀ k : Nat, Vals (List.replicate k xs).flatten (List.replicate k us).flatten
  | 0 => .nil
  | k + 1 => by
    rw [List.replicate_succ, List.replicate_succ, List.flatten_cons, List.flatten_cons]
    exact Vals.append h (Vals.rep h k)
theorem foldl_rep (its : List Value) : ∀ (k : Nat) (acc : List Value),
    List.foldl (fun x1 x2 => x1 ++ x2) acc.toArray (List.replicate k its.toArray) = (acc ++ (List.replicate k its).flatten).toArray
  | 0, acc => by simp
  | k + 1, acc => by
    have e : acc.toArray ++ its.toArray = (acc ++ its).toArray := by simp
    have e2 : (acc ++ its) ++ (List.replicate k its).flatten = acc ++ (List.replicate (k + 1) its).flatten := by
      rw [List.replicate_succ, List.flatten_cons, List.append_assoc]
    rw [<- e2, <- foldl_rep its k (acc ++ its), <- e, List.replicate_succ, List.foldl_cons]
section
variable {X : Cx} {pins : List (Addr × Obj)} {σ : St} {H : Hp} {s : Shared} {l b : Addr} {xs ys zs : List V}
theorem Inv.lset {its its' : List Value} {n : Nat} {f : Array Value -> Array Value} {t' : Nat} (I : Inv X pins σ H s) (hH : H l = some (.lst xs))
    (e : s.heap.get? l = some { cls := .type "list", data := .seq its.toArray n }) (hf : f its.toArray = its'.toArray) (hv : Vals ys its') (hz : ys.length <= sizeLine) :
    Inv X pins σ (upd H l (.lst ys)) { s with heap := s.heap.update l (Obj.mapSeq f), toks := t' } := by
  have q := PySem.IsL.update e f
  rw [hf] at q
  refine I.write (x := l) (e := l) (by rw [hH]; exact trivial) (.inl rfl) (fun b' u hb hu => (Heap.get?_update_other s.heap (Obj.mapSeq f) (Ne.symm hb)).trans hu) ⟨_, q⟩ ?_
  exact ⟨hz, its', _, hv, q⟩
theorem Inv.lnew {its : List Value} {t' : Nat} (I : Inv X pins σ H s) (hv : Vals ys its) (hz : ys.length <= sizeLine) :
    Inv X pins σ (upd H s.heap.objs.size (.lst ys)) { s with heap := s.heap.push { cls := .type "list", data := .seq its.toArray }, toks := t' } :=
  I.laid (fun _ _ q => Heap.get?_push_of_some _ q) (Nat.le_refl _) ⟨hz, its, 0, hv, Heap.get?_push_size _ rfl⟩
theorem Inv.fresh (I : Inv X pins σ H s) : H s.heap.objs.size = none := I.hok.fresh (Nat.le_refl _)
theorem Inv.lstM (I : Inv X pins σ H s) (hH : H l = some (.lst xs)) : xs.length <= sizeLine /\ ∃ (its : List Value) (n : Nat), Vals xs its /\ xs.length = its.length /\ s.heap.get? l = some { cls := .type "list", data := .seq its.toArray n } := by
  obtain ⟨z, its, n, r, e⟩ := I.hok l _ hH
  exact ⟨z, its, n, r, r.length, e⟩
theorem notLongL {n : Nat} (h : n <= sizeLine) : Builtin.List.listTooLong n = false := by
  unfold Builtin.List.listTooLong
  exact decide_eq_false (by omega)
end
section
variable {X : Cx}
def rAppend : V -> List V -> Hp -> VK -> Prop := fun x vs H Q => ∃ l xs y, x = .ref l /\ vs = [y] /\ H l = some (.lst xs) /\ xs.length < sizeLine /\ Q .non (upd H l (.lst (xs ++ [y])))
theorem mt_append : MtM X "list.append" rAppend := by
  intro pins s σ H x vs v us Q I rx rv h
  obtain ⟨l, xs, y, rfl, rfl, hH, hz, q⟩ := h
  cases rx
  obtain ⟨u, rfl, ru⟩ := rv.one
  obtain ⟨z, its, n, r, hl, e⟩ := I.lstM hH
  refine call_meets F.slot_list_append ⟨_, e, rfl⟩ F.entry_list_append (F.args_list_append_2 _ _) (PySem.list_append l its.toArray n u (by rw [List.size_toArray]; omega)) ⟨e, ?_⟩
  refine ⟨.non, _, I.lset (its' := its ++ [u]) hH e (by simp) (r.append (.cons ru .nil)) ?_, rfl, q⟩
  rw [List.length_append, List.length_singleton]
  omega
def rCat : R2 := fun x y H Q => ∃ l b xs zs, x = .ref l /\ y = .ref b /\ H l = some (.lst xs) /\ H b = some (.lst zs) /\ xs.length + zs.length <= sizeLine /\ ∀ p, H p = none -> Q (.ref p) (upd H p (.lst (xs ++ zs)))
theorem op_cat : OpR X (binaryOp .Add) rCat := by
  intro pins s σ H x y v u Q I rx ry h
  obtain ⟨l, b, xs, zs, rfl, rfl, hH, hB, hz, q⟩ := h
  cases rx
  cases ry
  obtain ⟨z, its, n, r, hl, e⟩ := I.lstM hH
  obtain ⟨z2, its2, n2, r2, hl2, e2⟩ := I.lstM hB
  refine PySem.P.add_list e e2 ?_ (by rw [List.size_toArray, List.size_toArray]; omega)
  have ea : its.toArray ++ its2.toArray = (its ++ its2).toArray := by simp
  rw [ea]
  exact ⟨.ref _, _, I.lnew (t' := s.toks) (r.append r2) (by rw [List.length_append]; omega), rfl, q _ I.fresh⟩
def rRep : R2 := fun x y H Q => ∃ l k xs, x = .ref l /\ y = .int k /\ H l = some (.lst xs) /\ -(2 ^ 63) <= k /\ k < 2 ^ 63 /\ xs.length * k.toNat <= sizeLine ∧
  ∀ p, H p = none -> Q (.ref p) (upd H p (.lst (List.replicate k.toNat xs).flatten))
theorem len_rep {α : Type} (xs : List α) (k : Nat) : (List.replicate k xs).flatten.length = k * xs.length := by
  induction k with
  | zero => simp
  | succ k ih => rw [List.replicate_succ, List.flatten_cons, List.length_append, ih, Nat.succ_mul, Nat.add_comm]
theorem op_rep : OpR X (binaryOp .Mult) rRep := by
  intro pins s σ H x y v u Q I rx ry h
  obtain ⟨l, k, xs, rfl, rfl, hH, h1, h2, hz, q⟩ := h
  cases rx
  obtain ⟨t, rfl⟩ := ry
  obtain ⟨z, its, n, r, hl, e⟩ := I.lstM hH
  have hlen : its.toArray.size * k.toNat <= sizeLine := by rw [List.size_toArray, <- hl]; exact hz
  have hcap : ¬ its.toArray.size * k.toNat > (2 ^ 63 - 1) / 8 := by
    have : (sizeLine : Nat) <= (2 ^ 63 - 1) / 8 := by decide
    omega
  have hfit : ¬ (!Builtin.List.listFitsIndex k) = true := by
    rw [fitsIndex_both h1 h2]
    exact Bool.false_ne_true
  have hlong : ¬ Builtin.List.listTooLong (its.toArray.size * k.toNat) = true := by
    rw [notLongL hlen]
    exact Bool.false_ne_true
  have hnew : List.foldl (fun x1 x2 => x1 ++ x2) #[] (List.replicate (if its.toArray.isEmpty = true then 0 else k.toNat) its.toArray) = (List.replicate k.toNat its).flatten.toArray := by
    have f0 : ∀ m : Nat, List.foldl (fun x1 x2 => x1 ++ x2) #[] (List.replicate m its.toArray) = (List.replicate m its).flatten.toArray := fun m => by
      have := foldl_rep its m []
      rw [List.nil_append] at this
      exact this
    rw [f0]
    cases its with
    | nil => simp
    | cons a r' => rw [if_neg (by simp)]
  refine wpAny_binaryOp_repeat_ref (T := "list") (U := "int") (by decide) ⟨_, e, rfl⟩ (fun s' => typeIs_int s' k t) noFill_list_mul F.fills_int_mul F.slot_int_rmul repeat_list F.slot_int_index.lookup
    (call_meets F.slot_int_rmul (typeIs_int s k t) F.entry_int_rmul (F.args_int_rmul_2 _ _) (int___rmul___int_list k t l its.toArray n)
      ⟨e, rfl, ⟨_, e, rfl⟩, call_meets F.slot_list_mul ⟨_, e, rfl⟩ F.entry_list_mul (F.args_list_mul_2 _ _) (AutoListH.list___mul___list_int_3 l its.toArray n k t hfit hcap hlong) ⟨e, ?_⟩⟩)
  rw [hnew]
  exact ⟨.ref _, _, I.lnew (t' := s.toks) (r.rep k.toNat) (by rw [len_rep, Nat.mul_comm]; exact hz), rfl, q _ I.fresh⟩
end
section
variable {prog : Program} {w : World} {A : Around} {E : Value -> Shared -> Prop} {s : Shared}
end
section
variable {X : Cx}
end
end L2
namespace Att
open PySem PySem.W PySem.Calls PyProof.Rows
theorem ints_of_wellAll {P : Params} {h : Heap} : ∀ (ns : List Int) (vs : List Value), WellAll P h vs (ns.map WData.int) -> IntsAre vs ns := by
  intro ns
  induction ns with
  | nil =>
    intro vs w
    rw [List.map_nil] at w
    cases w
    exact .nil
  | cons n ns ih =>
    intro vs w
    rw [List.map_cons] at w
    cases w with
    | cons a b =>
      cases a
      exact .cons _ _ (ih _ b)
theorem script_of {l : OpenLaw} {n : Nat} (hn : l.most = some n) {P : Params} {h : Heap} {args : List WData} {vals : List Value}
    (hpre : l.row.toRowW.claim.pre args = true) (hwl : WellAll P h vals args) :
    ∃ a vs ns, vals = [Value.ref a] /\ args = [WData.list (ns.map WData.int)] /\ h.get? a = some { cls := .type "list", data := .seq vs.toArray } /\ IntsAre vs ns /\ ns.length <= n := by
  have hsh : WShape.hasAll [] args [.list .int] = true := (pre_splitW hpre).1
  have hc : l.pre.holds [] { args := args } = true := (pre_splitW hpre).2
  obtain ⟨d, r, rfl, h1, h2⟩ := hasAllW_cons hsh
  obtain rfl := hasAllW_nil h2
  obtain ⟨xs, rfl, h3⟩ := hasW_list h1
  obtain ⟨ns, rfl⟩ := items_int h3
  have hlen : ns.length <= n := by
    unfold OpenLaw.pre at hc
    have h4 : (WTm.not (.lt (.lit (.int (n : Int))) (.len (.arg 0)))).holds [] { args := [.list (ns.map .int)] } = true := by
      have h4 := (holds_andW hc).1
      rw [hn] at h4
      exact h4
    have h5 := condW_of h4 (w_not (w_lt w_lit (w_len_list (w_arg rfl))))
    rw [List.length_map] at h5
    refine Nat.le_of_not_lt fun q => ?_
    have q' : (n : Int) < ((ns.length : Nat) : Int) := by omega
    first
      | (rw [decide_eq_true q'] at h5; exact absurd h5 (by decide))
      | (simp at h5; omega)
  cases hwl with
  | cons w1 w2 =>
    cases w2
    cases w1 with
    | list ho hall => exact ⟨_, _, ns, rfl, rfl, ho, ints_of_wellAll ns _ hall, hlen⟩
theorem post_true (l : OpenLaw) (args : List WData) : l.row.toRowW.claim.post args (.bool true) args = true :=
  postW_of (r := l.row.toRowW) (X := (true == true))
    (show WShape.has [] (.bool true) .bool = true by first | rfl | decide | simp [WShape.has, WShape.arms, WShape.armsAll])
    (show (WTm.eq .res (.lit (.bool true))).value [] { args := args, res := some (.bool true), after := args } = some (.bool (true == true)) from w_eq_bool (w_res rfl) w_lit) rfl
theorem attach_call {l : OpenLaw} {n : Nat} {q : Program} {loose : List Str} {XP : (Str -> Option Value) -> Heap -> Prop} {YP : World -> Heap -> Prop} {d : DefRec}
    (hn : l.most = some n) (hdf : d.params.defaults = [])
    (call : ∀ (w : World) (s₀ s₁ : Shared) (mg mb : Str -> Option Value) (fa : Addr) (o : Obj) (pm cd doc : Value) (a : Addr) (vs : List Value) (ns : List Int),
      Ground q loose [] XP w s₀ mg mb s₁.heap -> YP w s₁.heap ->
      s₁.heap.get? fa = some o -> o.data = .func (docDef d.name d.params d.body d.scope pm cd doc) -> s₁.heap.CodeRec cd d.name -> mg d.name = some (.ref fa) ->
      s₁.heap.get? a = some { cls := .type "list", data := .seq vs.toArray } -> IntsAre vs ns -> ns.length <= n -> s₁.gens = #[] ->
      codeAny (model l.prog w) callerA (.call (.ref fa) ⟨[.ref a], []⟩) (fun r s' => r = .ok (.ret (.bool true)) /\ OldK s₁.heap s'.heap /\ s'.os = s₁.os /\ AllBare s'.gens) s₁) :
    WalkO q loose XP YP l.row.toRowW d [] (fun f vs => PySem.call f vs) := by
  intro w s₀ s₁ mg mb G Y fa o pm cd doc dV kV ho hd hcd hD hmg hg args vals as hpre hlay hrd hwl hlo
  obtain rfl : dV = .none := Dflts.none hD hdf
  obtain rfl : kV = .none := Dflts.noKw hD
  obtain ⟨a, vs, ns, rfl, rfl, hobj, hints, hlen⟩ := script_of hn hpre hwl
  refine enter_call (codeAny_mono (call w s₀ s₁ mg mb fa o pm cd doc a vs ns G Y ho (fd_plain hd) hcd hmg hobj hints hlen hg) fun r s' hq => ?_)
  obtain ⟨rfl, h2, h3, h4⟩ := hq
  exact ⟨.inl ⟨.bool true, .bool true, [], rfl, fun _ => rfl, .bool true, post_true l _, fun _ => ⟨List.Pairwise.nil, fun _ hm => (nomatch hm)⟩⟩, h2, h3, h4⟩
section
variable {prog : Program} {w : World} {A : Around} {E : Value -> Shared -> Prop} {s : Shared} {K : Frag}
end
end Att
namespace L2
open PySem PySem.Spec PyProof.Rows
theorem vals_ints : ∀ {vs : List Value} {ns : List Int}, IntsAre vs ns -> Vals (ns.map V.int) vs
  | _, _, .nil => .nil
  | _, _, .cons n t h => .cons ⟨t, rfl⟩ (vals_ints h)
end L2
namespace L2
open PySem PySem.Spec PyProof.Rows
end L2
namespace L2
open PySem PySem.Spec PyProof.Rows
def inClass (s : Stmt) (j : Nat) : Stmt := match s with
  | .ClassDef _ _ _ body _ _ _ _ _ _ _ => body.getD j (.Pass ⟨0, 0, 0, 0⟩)
  | _ => .Pass ⟨0, 0, 0, 0⟩
def defArgs (s : Stmt) : Arguments := match s with
  | .FunctionDef _ a _ _ _ _ _ _ _ _ => a
  | _ => { posonlyargs := [], args := [], vararg := none, kwonlyargs := [], kw_defaults := [], kwarg := none, defaults := [] }
def defBody (s : Stmt) : List Stmt := match s with
  | .FunctionDef _ _ b _ _ _ _ _ _ _ => b
  | _ => []
def defScope (s : Stmt) : Scope := match s with
  | .FunctionDef _ _ _ _ _ _ sc _ _ _ => sc
  | _ => { kind := .function, names := [], isGenerator := false, isCoroutine := false }
abbrev CX0 : CXT := fun _ _ _ _ _ _ => False
abbrev E0 : XK := fun _ _ _ => False
theorem pass0 {X : Cx} : Passes CX0 X E0 := fun _ _ _ _ _ _ _ h => h.elim
structure Fun (K : PySem.W.Frag) (x qual : Str) (st : Stmt) (f : Addr) (fd : FuncData) : Prop where
  ex : ∃ (oc : Value) (od : Option Addr) (kV doc pm : Value) (an : Option Addr) (cdv ct : Value) (osl : Array (Option Value)),
    fd = PySem.W.fnOf x qual (defArgs st) (defBody st) (defScope st) .none kV doc pm an cdv ct /\ K.lookup f = some ⟨oc, od, .func fd, osl⟩ /\ PySem.W.codeIn K cdv qual = true
  kp : PySem.W.keepIn K (.ref f) = true
section
variable {P : Program} {w : World} {K : PySem.W.Frag} {mg : Str -> Option Value} {base : Heap}
theorem Fun.ok {x qual : Str} {st : Stmt} {f : Addr} {fd : FuncData} {N ps : List Str} {k : Nat} {sp : Sp} (F : Fun K x qual st f fd) (S : FnScope N ps (defScope st)) (len : ∀ vs H Q E, sp vs H Q E -> vs.length = ps.length)
    (hbody : ∀ (cdv : Value) (A : Around) (outer : List Env) (s : Shared) (H : Hp) (vs : List V) (Q : VK) (E : XK), Room k (A.deeper (envOfC qual (defScope st) s.heap.objs.size f cdv)) -> sp vs H Q E ->
      ∃ t, PSs (cxOf CX0 P w K mg base N qual (defScope st) f cdv A outer s H E).nox (defBody st) t /\ t { nx := fun _ H' => Q .non H', rt := Q } (start N vs) H) : FnOk P w K mg base CX0 (k + 1) f fd ps sp := by
  obtain ⟨oc, od, kV, doc, pm, an, cdv, ct, osl, rfl, lk, hcd⟩ := F.ex
  refine fn_of lk hcd S len fun A outer s H vs Q E hr hsp => ?_
  obtain ⟨t, h, q⟩ := hbody cdv A outer s H vs Q E hr hsp
  exact ⟨t, h.nox, q⟩
theorem Fun.binds {x qual : Str} {st : Stmt} {f : Addr} {fd : FuncData} {ps : List Str} (F : Fun K x qual st f fd)
    (h : ∀ (kV doc pm : Value) (an : Option Addr) (cdv ct : Value) (us : List Value), us.length = ps.length -> bindArgs (PySem.W.fnOf x qual (defArgs st) (defBody st) (defScope st) .none kV doc pm an cdv ct) ⟨us, []⟩ = pure (ps.zip us)) : Binds K fd ps [] := by
  obtain ⟨oc, od, kV, doc, pm, an, cdv, ct, osl, rfl, lk, hcd⟩ := F.ex
  exact .all (h kV doc pm an cdv ct)
theorem fun_mk {x qual : Str} {st : Stmt} {f : Addr} {oc : Value} {od an : Option Addr} {osl : Array (Option Value)} {kV doc pm cdv ct : Value} (l : K.lookup f = some ⟨oc, od, .func (PySem.W.fnOf x qual (defArgs st) (defBody st) (defScope st) .none kV doc pm an cdv ct), osl⟩)
    (c : PySem.W.codeIn K cdv qual = true) (k : PySem.W.keepIn K (.ref f) = true) : Fun K x qual st f (PySem.W.fnOf x qual (defArgs st) (defBody st) (defScope st) .none kV doc pm an cdv ct) := ⟨⟨oc, od, kV, doc, pm, an, cdv, ct, osl, rfl, l, c⟩, k⟩
end
theorem hu_of {A : Around} {k : Nat} (hr : Room k A) : A.units + 1 < cLine := Nat.lt_of_le_of_lt (Nat.add_le_add_left (by decide : 1 <= 64) _) hr.units
theorem small1000 {n : Nat} (h : n <= 1000) : n < sizeLine := Nat.lt_of_le_of_lt h (by decide)
section
variable {X : Cx}
theorem pv (i : Nat) {x : Str} {pos : Pos} (hN : X.N[i]? = some x := by rfl) (hv : Vis X.env.scope x := by first | exact Or.inl rfl | exact Or.inr (Or.inl rfl) | exact Or.inr (Or.inr rfl)) (hd : (x == ("__debug__" : Str)) = false := by decide)
    (hcd : (x == ("__classdict__" : Str)) = false := by decide) : PE X (.Name x pos) (tVar i) := pe_var hN hv hd hcd
end
theorem iteF {A B : Prop} (h : B) : if false = true then A else B := by
  rw [if_neg Bool.false_ne_true]
  exact h
theorem iteT {A B : Prop} (h : A) : if true = true then A else B := by
  rw [if_pos rfl]
  exact h
theorem ite2 {c A B : Prop} [Decidable c] (h1 : c -> A) (h2 : ¬ c -> B) : if c then A else B := by
  by_cases h : c
  · rw [if_pos h]
    exact h1 h
  · rw [if_neg h]
    exact h2 h
def Same (H H' : Hp) : Prop := ∀ b o, H b = some o -> H' b = some o
theorem Same.refl (H : Hp) : Same H H := fun _ _ h => h
theorem Same.trans {H H1 H2 : Hp} (a : Same H H1) (b : Same H1 H2) : Same H H2 := fun c o h => b c o (a c o h)
theorem Same.free {H H' : Hp} (e : Same H H') {l : Addr} (h : H' l = Option.none) : H l = Option.none := by
  cases q : H l with
  | none => rfl
  | some o =>
    rw [e l o q] at h
    cases h
theorem Same.seq {K : PySem.W.Frag} {H H' : Hp} {a : Addr} {xs : List V} (e : Same H H') (h : SqL K H a xs) : SqL K H' a xs := by
  rcases h with (h | ⟨o, h⟩) | h
  · exact .inl (.inl (e _ _ h))
  · exact .inl (.inr ⟨o, e _ _ h⟩)
  · exact .inr h
end L2
namespace L2
open PySem PySem.Spec PyProof.Rows
section
variable {κ : Type} [DecidableEq κ]
def valV (kvs : List (κ × V)) (k : κ) : Option V := (kvs.find? fun kv => decide (kv.1 = k)).map (·.2)
def putK (kvs : List (κ × V)) (k : κ) (v : V) : List (κ × V) :=
  if (kvs.any fun kv => decide (kv.1 = k)) = true then kvs.map (fun kv => if kv.1 = k then (kv.1, v) else kv) else kvs ++ [(k, v)]
def dropK (kvs : List (κ × V)) (k : κ) : List (κ × V) := kvs.filter fun kv => decide (kv.1 ≠ k)
theorem valV_pos {p : κ × V} {r : List (κ × V)} {k : κ} (e : p.1 = k) : valV (p :: r) k = some p.2 := by simp [valV, List.find?_cons, e]
theorem valV_neg {p : κ × V} {r : List (κ × V)} {k : κ} (e : ¬ p.1 = k) : valV (p :: r) k = valV r k := by simp [valV, List.find?_cons, e]
theorem valV_any (k : κ) : ∀ kvs : List (κ × V), (kvs.any fun kv => decide (kv.1 = k)) = (valV kvs k).isSome
  | [] => rfl
  | p :: r => by
    rw [List.any_cons]
    by_cases e : p.1 = k
    · simp only [valV_pos e, decide_eq_true e, Bool.true_or, Option.isSome_some]
    · rw [valV_neg e, decide_eq_false e, Bool.false_or]; exact valV_any k r
theorem length_putK (kvs : List (κ × V)) (k : κ) (v : V) : (putK kvs k v).length <= kvs.length + 1 := by
  unfold putK
  split
  · rw [List.length_map]; omega
  · rw [List.length_append, List.length_cons, List.length_nil]; omega
theorem RelO.isSome_eq {o : Option V} {u : Option Value} (r : RelO o u) : o.isSome = u.isSome := by
  cases o with
  | none => cases u with
    | none => rfl
    | some _ => exact (show False from r).elim
  | some _ => cases u with
    | none => exact (show False from r).elim
    | some _ => rfl
theorem RelO.getD {o : Option V} {u : Option Value} {d : V} {d' : Value} (r : RelO o u) (rd : RelV d d') : RelV (o.getD d) (u.getD d') := by
  cases o with
  | none => cases u with
    | none => exact rd
    | some _ => exact (show False from r).elim
  | some _ => cases u with
    | none => exact (show False from r).elim
    | some _ => exact r
theorem KV.val {kvs : List (κ × V)} {vs : List (κ × Value)} (r : KV kvs vs) (k : κ) : RelO (valV kvs k) (valueAt vs k) := by
  unfold KV at r
  induction r with
  | nil => exact True.intro
  | @cons p q ps qs h t ih =>
    obtain ⟨h1, h2⟩ := h
    by_cases e : p.1 = k
    · have e' : q.1 = k := h1.symm.trans e
      have b : valueAt (q :: qs) k = some q.2 := by simp [valueAt, List.find?_cons, e']
      rw [valV_pos e, b]; exact h2
    · have e' : ¬ q.1 = k := fun z => e (h1.trans z)
      have b : valueAt (q :: qs) k = valueAt qs k := by simp [valueAt, List.find?_cons, e']
      rw [valV_neg e, b]; exact ih
theorem KV.any {kvs : List (κ × V)} {vs : List (κ × Value)} (r : KV kvs vs) (k : κ) : (kvs.any fun kv => decide (kv.1 = k)) = vs.any fun kv => decide (kv.1 = k) := by
  unfold KV at r
  induction r with
  | nil => rfl
  | cons h t ih => rw [List.any_cons, List.any_cons, ih, h.1]
theorem KV.repl {kvs : List (κ × V)} {vs : List (κ × Value)} (r : KV kvs vs) (k : κ) {y : V} {u : Value} (ry : RelV y u) :
    KV (kvs.map fun kv => if kv.1 = k then (kv.1, y) else kv) (vs.map fun kv => if kv.1 = k then (kv.1, u) else kv) := by
  unfold KV at r ⊢
  induction r with
  | nil => exact .nil
  | @cons p q ps qs h t ih =>
    rw [List.map_cons, List.map_cons]
    refine .cons ?_ ih
    obtain ⟨h1, h2⟩ := h
    by_cases e : p.1 = k
    · rw [if_pos e, if_pos (h1.symm.trans e)]; exact ⟨h1, ry⟩
    · rw [if_neg e, if_neg (fun z => e (h1.trans z))]; exact ⟨h1, h2⟩
theorem KV.put {kvs : List (κ × V)} {vs : List (κ × Value)} (r : KV kvs vs) (k : κ) {y : V} {u : Value} (ry : RelV y u) : KV (putK kvs k y) (stored vs k u) := by
  unfold putK stored
  rw [r.any k]
  by_cases e : (vs.any fun kv => decide (kv.1 = k)) = true
  · rw [if_pos e, if_pos e]; exact r.repl k ry
  · rw [if_neg e, if_neg e]; exact Paired.snoc r ⟨rfl, ry⟩
theorem KV.drop {kvs : List (κ × V)} {vs : List (κ × Value)} (r : KV kvs vs) (k : κ) : KV (dropK kvs k) (without vs k) := by
  unfold KV at r ⊢
  unfold dropK without
  induction r with
  | nil => exact .nil
  | @cons p q ps qs h t ih =>
    obtain ⟨h1, h2⟩ := h
    rw [List.filter_cons, List.filter_cons]
    by_cases e : p.1 = k
    · have a : ¬ decide (p.1 ≠ k) = true := by simp [e]
      have b : ¬ decide (q.1 ≠ k) = true := by simp [h1.symm.trans e]
      rw [if_neg a, if_neg b]; exact ih
    · have e' : ¬ q.1 = k := fun z => e (h1.trans z)
      have a : decide (p.1 ≠ k) = true := by simp [e]
      have b : decide (q.1 ≠ k) = true := by simp [e']
      rw [if_pos a, if_pos b]; exact .cons ⟨h1, h2⟩ ih
theorem KV.keys {kvs : List (κ × V)} {vs : List (κ × Value)} (r : KV kvs vs) : kvs.map (·.1) = vs.map (·.1) := by
  unfold KV at r
  induction r with
  | nil => rfl
  | cons h t ih => rw [List.map_cons, List.map_cons, ih, h.1]
theorem KV.length {kvs : List (κ × V)} {vs : List (κ × Value)} (r : KV kvs vs) : kvs.length = vs.length := Paired.length r
end
theorem kV_is {P : Program} {w : World} {k : Key} {u : Value} (r : RelV (kV k) u) : (mixKind P w).is k u = true := by
  cases k with
  | inl i => obtain ⟨t, e⟩ := (show ∃ t, u = Value.int i t from r); subst e; exact mixKind_int P w i t
  | inr x => obtain ⟨t, e⟩ := (show ∃ t, u = Value.str x t from r); subst e; exact mixKind_str P w x t
theorem items_are {P : Program} {w : World} : ∀ {ks : List Key} {us : List Value}, Vals (ks.map kV) us -> ItemsAre (mixKind P w) ks us
  | [], _, r => by rw [List.map_nil] at r; cases r; exact .nil
  | k :: ks, _, r => by
    rw [List.map_cons] at r
    cases r with
    | cons h t => exact .cons (kV_is h) (items_are t)
abbrev KT (H : Hp) : List (List Key × V) -> List (List Key × Addr × Value) -> Prop := Paired fun p q => p.1 = q.1 /\ H q.2.1 = some (.tup (p.1.map kV)) /\ RelV p.2 q.2.2
theorem KT.val {H : Hp} {kvs : List (List Key × V)} {xs : List (List Key × Addr × Value)} (r : KT H kvs xs) (k : List Key) : RelO (valV kvs k) ((atKey xs k).map (·.2)) := by
  induction r with
  | nil => exact True.intro
  | @cons p q ps qs h t ih =>
    obtain ⟨h1, _, h2⟩ := h
    by_cases e : p.1 = k
    · have e' : q.1 = k := h1.symm.trans e
      have b : atKey (q :: qs) k = some q.2 := by simp [atKey, List.find?_cons, e']
      rw [valV_pos e, b]; exact h2
    · have e' : ¬ q.1 = k := fun z => e (h1.trans z)
      have b : atKey (q :: qs) k = atKey qs k := by simp [atKey, List.find?_cons, e']
      rw [valV_neg e, b]; exact ih
theorem KT.repl {H : Hp} {kvs : List (List Key × V)} {xs : List (List Key × Addr × Value)} (r : KT H kvs xs) (k : List Key) {y : V} {u : Value} (ry : RelV y u) :
    KT H (kvs.map fun kv => if kv.1 = k then (kv.1, y) else kv) (xs.map (putAt k u)) := by
  induction r with
  | nil => exact .nil
  | @cons p q ps qs h t ih =>
    rw [List.map_cons, List.map_cons]
    refine .cons ?_ ih
    obtain ⟨h1, h2, h3⟩ := h
    unfold putAt
    by_cases e : p.1 = k
    · rw [if_pos e, if_pos (h1.symm.trans e)]; exact ⟨h1, h2, ry⟩
    · rw [if_neg e, if_neg (fun z => e (h1.trans z))]; exact ⟨h1, h2, h3⟩
theorem KT.put {H : Hp} {kvs : List (List Key × V)} {xs : List (List Key × Addr × Value)} (r : KT H kvs xs) (k : List Key) {b : Addr} {y : V} {u : Value} (hb : H b = some (.tup (k.map kV))) (ry : RelV y u) :
    KT H (putK kvs k y) (storedH xs k b u) := by
  have e : (kvs.any fun kv => decide (kv.1 = k)) = (atKey xs k).isSome := by
    rw [valV_any, (r.val k).isSome_eq, Option.isSome_map]
  unfold putK storedH
  rw [e]
  by_cases q : (atKey xs k).isSome = true
  · rw [if_pos q, if_pos q]; exact r.repl k ry
  · rw [if_neg q, if_neg q]; exact Paired.snoc r ⟨rfl, hb, ry⟩
theorem KT.keeps {H H' : Hp} {kvs : List (List Key × V)} {xs : List (List Key × Addr × Value)} (r : KT H kvs xs) (ht : ∀ b ys, H b = some (.tup ys) -> H' b = some (.tup ys)) : KT H' kvs xs :=
  Paired.mapP r fun _ _ z => ⟨z.1, ht _ _ z.2.1, z.2.2⟩
section
variable {P : Program} {w : World} {H : Hp} {h : Heap} {a : Addr}
theorem rd_of {u : HO} (ok : HOk P w H h) (e : Rd H a u) : ObjOk P w H h a u := e.ok ok
theorem dk_rd {kvs : List (Key × V)} (ok : HOk P w H h) (e : Rd H a (.dK kvs)) : kvs.length <= sizeLine /\ (a == sysModules) = false /\ ∃ vs, KV kvs vs /\ h.DictOf (mixKind P w) a vs :=
  show ObjOk P w H h a (.dK kvs) from rd_of ok e
theorem dk_of {kvs : List (Key × V)} (ok : HOk P w H h) (e : H a = some (.dK kvs)) : kvs.length <= sizeLine /\ (a == sysModules) = false /\ ∃ vs, KV kvs vs /\ h.DictOf (mixKind P w) a vs := dk_rd ok (.inl e)
theorem key_of {ks : List Key} (ok : HOk P w H h) (e : H a = some (.tup (ks.map kV))) : (tupleKind (mixKind P w)).is h ks a := by
  obtain ⟨_, its, r, o, h1, h2, n, h3⟩ := (show ObjOk P w H h a (.tup (ks.map kV)) from ok a _ e)
  exact ⟨o, its.toArray, n, h1, h2, h3, by simpa using items_are r⟩
theorem dt_rd {kvs : List (List Key × V)} (ok : HOk P w H h) (e : Rd H a (.dT kvs)) : kvs.length <= sizeLine /\ (a == sysModules) = false ∧
    ∃ xs, KT H kvs xs /\ h.DictOfH (tupleKind (mixKind P w)) a xs := by
  obtain ⟨z, y, xs, r, o, es, ep, h1, h2, h3, h4, h5⟩ := (show ObjOk P w H h a (.dT kvs) from rd_of ok e)
  refine ⟨z, y, xs, r, o, es, ep, h1, h2, h3, h4, fun x hx => ?_, h5⟩
  have all : ∀ {l : List (List Key × V)} {m : List (List Key × Addr × Value)}, KT H l m -> ∀ x ∈ m, (tupleKind (mixKind P w)).is h x.1 x.2.1 := by
    intro l m q
    induction q with
    | nil => intro x hx; exact nomatch hx
    | @cons p q ps qs hq t ih =>
      intro x hx
      rcases List.mem_cons.mp hx with e | hx
      · subst e
        exact key_of ok (by rw [<- hq.1]; exact hq.2.1)
      · exact ih x hx
  exact all r x hx
theorem dt_of {kvs : List (List Key × V)} (ok : HOk P w H h) (e : H a = some (.dT kvs)) : kvs.length <= sizeLine /\ (a == sysModules) = false ∧
    ∃ xs, KT H kvs xs /\ h.DictOfH (tupleKind (mixKind P w)) a xs := dt_rd ok (.inl e)
end
def DGet (H : Hp) (a : Addr) (y : V) (r : Option V) : Prop :=
  (∃ kvs k, Rd H a (.dK kvs) /\ y = kV k /\ r = valV kvs k) ∨ ∃ kvs k b, Rd H a (.dT kvs) /\ y = .ref b /\ H b = some (.tup (k.map kV)) /\ r = valV kvs k
def DPut (H : Hp) (a : Addr) (y v : V) (H' : Hp) : Prop :=
  (∃ kvs k, H a = some (.dK kvs) /\ y = kV k /\ kvs.length < sizeLine /\ H' = upd H a (.dK (putK kvs k v))) ∨
  ∃ kvs k b, H a = some (.dT kvs) /\ y = .ref b /\ H b = some (.tup (k.map kV)) /\ kvs.length < sizeLine /\ H' = upd H a (.dT (putK kvs k v))
theorem DGet.k {H : Hp} {a : Addr} {kvs : List (Key × V)} {k : Key} (e : H a = some (.dK kvs)) : DGet H a (kV k) (valV kvs k) := .inl ⟨kvs, k, .inl e, rfl, rfl⟩
theorem DGet.t {H : Hp} {a b : Addr} {kvs : List (List Key × V)} {k : List Key} (e : H a = some (.dT kvs)) (eb : H b = some (.tup (k.map kV))) : DGet H a (.ref b) (valV kvs k) := .inr ⟨kvs, k, b, .inl e, rfl, eb, rfl⟩
theorem DPut.k {H : Hp} {a : Addr} {kvs : List (Key × V)} {k : Key} {v : V} (e : H a = some (.dK kvs)) (hl : kvs.length < sizeLine) : DPut H a (kV k) v (upd H a (.dK (putK kvs k v))) := .inl ⟨kvs, k, e, rfl, hl, rfl⟩
theorem DPut.t {H : Hp} {a b : Addr} {kvs : List (List Key × V)} {k : List Key} {v : V} (e : H a = some (.dT kvs)) (eb : H b = some (.tup (k.map kV))) (hl : kvs.length < sizeLine) :
    DPut H a (.ref b) v (upd H a (.dT (putK kvs k v))) := .inr ⟨kvs, k, b, e, rfl, eb, hl, rfl⟩
section
variable {X : Cx} {pins : List (Addr × Obj)} {σ : St} {H : Hp} {s : Shared} {a : Addr} {y v : V} {u r : Value} {o : Option V} {A : Around} {E : Value -> Shared -> Prop}
theorem Inv.big (I : Inv X pins σ H s) : sysModules < s.heap.objs.size := by
  have h : mainGlobals < s.heap.objs.size := (I.mod.glob.keeps I.bk).lt
  exact Nat.lt_trans (by decide) h
theorem d_getItem {Q : Value -> Shared -> Prop} (hu : A.units + 1 < cLine) (I : Inv X pins σ H s) (g : DGet H a y (some v)) (ry : RelV y u) (h : ∀ w' s', Inv X pins σ H s' -> RelV v w' -> Q w' s') :
    wpAny (model X.prog X.w) A (getItem (.ref a) u) Q E s := by
  rcases g with ⟨kvs, k, e, ey, l⟩ | ⟨kvs, k, b, e, ey, eb, l⟩
  · subst ey
    obtain ⟨z, hd, vs, rel, dd⟩ := dk_rd I.hok e
    obtain ⟨w', hw, rw'⟩ := RelO.some_of (v := v) (o := valueAt vs k) (by rw [l]; exact rel.val k)
    exact wpAny_getItem_of (kV_is ry) dd.mapOf hw (h w' _ (I.tok _) rw')
  · subst ey
    cases (show u = Value.ref b from ry)
    obtain ⟨z, hd, xs, rel, dd⟩ := dt_rd I.hok e
    obtain ⟨w', hw, rw'⟩ := RelO.some_of (v := v) (o := (atKey xs k).map (·.2)) (by rw [l]; exact rel.val k)
    obtain ⟨p, hp, hp2⟩ := Option.map_eq_some_iff.mp hw
    refine wpAny_getItem_heap (tupleKind_room_in1 hu) (key_of I.hok eb) dd hp ?_
    rw [hp2]
    exact h w' _ (I.tok _) rw'
theorem d_write {h' : Heap} {t' : Nat} {ob : HO} (I : Inv X pins σ H s) (mu : Mut (H a)) (hs : Heap.SameBut a s.heap h') (he : ∃ q, h'.get? a = some q) (new : ObjOk X.prog X.w (upd H a ob) h' a ob) :
    Inv X pins σ (upd H a ob) { s with heap := h', toks := t' } :=
  I.write (x := a) (e := a) mu (.inl rfl) (fun b q hb z => (hs.2 b hb).trans z) he new
theorem dk_new {P : Program} {w : World} {H' : Hp} {h' : Heap} {kvs : List (Key × V)} {vs : List (Key × Value)} (z : kvs.length <= sizeLine) (hd : (a == sysModules) = false) (rel : KV kvs vs) (dd : h'.DictOf (mixKind P w) a vs) :
    ObjOk P w H' h' a (.dK kvs) := ⟨z, hd, vs, rel, dd⟩
theorem d_setItem {H' : Hp} {Q : Unit -> Shared -> Prop} (hu : A.units + 1 < cLine) (I : Inv X pins σ H s) (g : DPut H a y v H') (ry : RelV y u) (rv : RelV v r) (h : ∀ s', Inv X pins σ H' s' -> Q () s') :
    wpAny (model X.prog X.w) A (setItem (.ref a) u r) Q E s := by
  rcases g with ⟨kvs, k, e, ey, l, eH⟩ | ⟨kvs, k, b, e, ey, eb, l, eH⟩
  · subst ey eH
    obtain ⟨z, hd, vs, rel, dd⟩ := dk_of I.hok e
    have hz : vs.length <= sizeLine := by rw [<- rel.length]; exact z
    have hl : (putK kvs k v).length <= sizeLine := by have := length_putK kvs k v; omega
    refine wpAny_setItem_pairs (hsz := hz) (kV_is ry) dd fun h' dd' hs => h _ ?_
    have he : ∃ q, h'.get? a = some q := let ⟨q, _, _, hq, _⟩ := dd'; ⟨q, hq⟩
    exact d_write I (by rw [e]; exact True.intro) hs he (dk_new hl hd (rel.put k rv) dd')
  · subst ey eH
    cases (show u = Value.ref b from ry)
    obtain ⟨z, hd, xs, rel, dd⟩ := dt_of I.hok e
    have hz : xs.length <= sizeLine := by rw [<- Paired.length rel]; exact z
    have hl : (putK kvs k v).length <= sizeLine := by have := length_putK kvs k v; omega
    refine wpAny_setItem_heap (hsz := hz) (tupleKind_room_in1 hu) (key_of I.hok eb) dd fun h' dd' hs => h _ ?_
    obtain ⟨q, es, ep, hq, h2, h3, h4, _, h5⟩ := dd'
    refine d_write I (by rw [e]; exact True.intro) hs ⟨q, hq⟩ ⟨hl, hd, _, (rel.put k eb rv).keeps fun c ys ec => ?_, q, es, ep, hq, h2, h3, h4, h5⟩
    rw [upd_ne (ne_of ec e (fun z => nomatch z))]
    exact ec
end
section
variable {X : Cx} {pins : List (Addr × Obj)} {σ : St} {H : Hp} {s : Shared} {a : Addr} {kvs : List (Key × V)} {k : Key} {u : Value} {A : Around} {E : Value -> Shared -> Prop}
end
def NoSl (i : Expr) : Prop := ∀ ov iv, subscripted i false ov iv = operate [ov, iv] (getItem ov iv)
theorem subD_of {prog : Program} {w : World} {A : Around} {E : Value -> Shared -> Prop} {s : Shared} {env : Env} {value slice : Expr} {pos : Pos} {T id : String} {Q : Value -> Shared -> Prop}
    (hl : typeLookup (.type T) "__getitem__" = pure (some (.builtin id))) (hs : NoSl slice)
    (h : wpAny (model prog w) A (eval value env) (fun o s₁ => wpAny (model prog w) A (eval slice env) (fun i s₂ => s₂.TypeIs o T /\ wpAny (model prog w) A (getItem o i) Q E s₂) E s₁) E s) :
    wpAny (model prog w) A (eval (.Subscript value slice pos) env) Q E s := by
  refine Subscript_ (wpAny_mono h (fun o s₁ h₁ => wpAny_mono h₁ (fun i s₂ h₂ => ?_) fun _ _ x => x) fun _ _ x => x)
  obtain ⟨hT, h₂⟩ := h₂
  unfold subscriptTail
  refine wpAny_bind ?_
  rw [getitemInPython_of_ne hT.not_modules]
  refine wpAny_bind (wpAny_specialOf hT hl ?_)
  have fin : wpAny (model prog w) A (subscripted slice false o i) (fun r s₃ => wpAny (model prog w) A (letTemporaryGo value o r >>= fun _ => pure r) Q E s₃) E s₂ := by
    rw [hs o i]
    exact wpAny_operating (wpAny_mono h₂ (fun r s₃ h₃ => wpAny_bind (wpAny_letTemporaryGo (wpAny_pure h₃))) fun _ _ x => x)
  first
    | exact wpAny_pure (wpAny_bind fin)
    | exact wpAny_bind (wpAny_pure (wpAny_bind fin))
    | exact wpAny_bind fin
theorem dict_typeIs {X : Cx} {pins : List (Addr × Obj)} {σ : St} {H : Hp} {s : Shared} {a : Addr} {y : V} {o : Option V} (I : Inv X pins σ H s) (g : DGet H a y o) : s.TypeIs (.ref a) "dict" := by
  rcases g with ⟨kvs, k, e, _, _⟩ | ⟨kvs, k, b, e, _, _, _⟩
  · obtain ⟨_, _, vs, _, dd⟩ := dk_rd I.hok e
    exact dd.typeIs
  · obtain ⟨_, _, xs, _, dd⟩ := dt_rd I.hok e
    exact dd.typeIs
def tDGet (td ty : TE) : TE := fun σ H Q => td σ H fun x H1 => ty σ H1 fun y H2 => ∃ a v, x = .ref a /\ DGet H2 a y (some v) /\ Q v H2
def sDPut (td ty tv : TE) : TS := fun D σ H => tv σ H fun v H1 => td σ H1 fun x H2 => ty σ H2 fun y H3 => ∃ a H4, x = .ref a /\ DPut H3 a y v H4 /\ D.nx σ H4
section
variable {X : Cx} {o i e value : Expr} {pos pos' tpos : Pos} {td ty tv : TE}
theorem pe_dget (hu : X.A.units + 1 < cLine) (ho : PE X o td) (hi : PE X i ty) (hs : NoSl i) : PE X (.Subscript o i pos) (tDGet td ty) := by
  intro pins s σ H Q I h
  refine subD_of PySem.F.slot_dict_getitem.lookup hs (thn (ho pins s σ H _ I h) fun u s1 ⟨x, H1, I1, rx, q1⟩ => thn (hi pins s1 σ H1 _ I1 q1) fun iv s2 ⟨y, H2, I2, ry, a, v, ex, g, q2⟩ => ?_)
  subst ex
  obtain rfl : u = Value.ref a := rx
  exact ⟨dict_typeIs I2 g, d_getItem hu I2 g ry fun w' s3 I3 rw' => ⟨v, H2, I3, rw', q2⟩⟩
theorem ps_dput (hu : X.A.units + 1 < cLine) (ho : PE X o td) (hi : PE X i ty) (hv : PE X value tv) (hs : swapsWith value (some (.Subscript o i pos')) pos.line X.env = pure false) :
    PS X (.Assign [.Subscript o i pos'] value pos) (sDPut td ty tv) := by
  intro pins s σ H D I h
  refine wpAny_Assign_Subscript (thn (hv pins s σ H _ I h) fun r s1 ⟨v, H1, I1, rv, q1⟩ => thn (ho pins s1 σ H1 _ I1 q1) fun u s2 ⟨x, H2, I2, rx, q2⟩ => thn (hi pins s2 σ H2 _ I2 q2) fun iv s3 ⟨y, H3, I3, ry, a, H4, ex, g, q3⟩ => ?_) hs
  subst ex
  obtain rfl : u = Value.ref a := rx
  exact d_setItem hu I3 g ry rv fun s4 I4 => ⟨σ, H4, I4, q3⟩
end
theorem dk_empty {P : Program} {w : World} {H : Hp} (h : Heap) (hb : sysModules < h.objs.size) : ObjOk P w H (h.push { cls := .type "dict", data := .dict #[] }) h.objs.size (.dK []) :=
  ⟨Nat.zero_le _, beq_eq_false_iff_ne.mpr (Ne.symm (Nat.ne_of_lt hb)), [], .nil, Heap.DictOf.new h⟩
theorem dt_empty {P : Program} {w : World} {H : Hp} (h : Heap) (hb : sysModules < h.objs.size) : ObjOk P w H (h.push { cls := .type "dict", data := .dict #[] }) h.objs.size (.dT []) :=
  ⟨Nat.zero_le _, beq_eq_false_iff_ne.mpr (Ne.symm (Nat.ne_of_lt hb)), [], .nil, _, #[], 0, Heap.get?_push_size _ rfl, ⟨rfl, rfl, rfl⟩, rfl, rfl, List.nodup_nil⟩
def tDNewK : TE := fun _ H Q => ∀ p, H p = none -> Q (.ref p) (upd H p (.dK []))
def tDNewT : TE := fun _ H Q => ∀ p, H p = none -> Q (.ref p) (upd H p (.dT []))
section
variable {X : Cx} {pos : Pos}
theorem pe_dnewK : PE X (.Dict [] [] pos) tDNewK := fun pins s σ H Q I h =>
  wpAny_Dict_empty ⟨.ref s.heap.objs.size, _, I.laid (a := s.heap.objs.size) (o := .dK []) (t' := s.toks) (fun _ _ q => Heap.get?_push_of_some _ q) (Nat.le_refl _) (dk_empty s.heap I.big), rfl, h _ (I.hok.fresh (Nat.le_refl _))⟩
theorem pe_dnewT : PE X (.Dict [] [] pos) tDNewT := fun pins s σ H Q I h =>
  wpAny_Dict_empty ⟨.ref s.heap.objs.size, _, I.laid (a := s.heap.objs.size) (o := .dT []) (t' := s.toks) (fun _ _ q => Heap.get?_push_of_some _ q) (Nat.le_refl _) (dt_empty s.heap I.big), rfl, h _ (I.hok.fresh (Nat.le_refl _))⟩
end
structure M1 (X : Cx) (o : Expr) (m : Str) (apos : Pos) (e : Expr) (cpos : Pos) : Prop where
  base : attributeBase o m X.env (eval o X.env) = eval o X.env
  few : ((backTo cpos (starEach [e] X.env)).all (fun x => !x.1) && (backToKw cpos (keywordEach [] X.env)).all (fun x => x.1.isSome)
    && decide (([e] : List Expr).length + ([] : List Keyword).length + (if ([] : List Keyword).isEmpty then 0 else 1) < 30)) = true
  line : (apos.endLine == cpos.line) = true
  trees : backTo cpos (starEach [e] X.env) = [(false, eval e X.env)]
structure M2 (X : Cx) (o : Expr) (m : Str) (apos : Pos) (e f : Expr) (cpos : Pos) : Prop where
  base : attributeBase o m X.env (eval o X.env) = eval o X.env
  few : ((backTo cpos (starEach [e, f] X.env)).all (fun x => !x.1) && (backToKw cpos (keywordEach [] X.env)).all (fun x => x.1.isSome)
    && decide (([e, f] : List Expr).length + ([] : List Keyword).length + (if ([] : List Keyword).isEmpty then 0 else 1) < 30)) = true
  line : (apos.endLine == cpos.line) = true
  trees : backTo cpos (starEach [e, f] X.env) = [(false, eval e X.env), (false, eval f X.env)]
def IsD (H : Hp) (a : Addr) : Prop := (∃ kvs, Rd H a (.dK kvs)) ∨ ∃ kvs, Rd H a (.dT kvs)
theorem isD_at {X : Cx} {pins : List (Addr × Obj)} {σ : St} {H : Hp} {s : Shared} {a : Addr} (I : Inv X pins σ H s) (d : IsD H a) :
    s.TypeIs (.ref a) "dict" /\ (∀ b, Value.ref a = .ref b -> ∃ ob, s.heap.get? b = some ob /\ ob.dict = none) /\ (a == sysModules) = false := by
  rcases d with ⟨kvs, e⟩ | ⟨kvs, e⟩
  · obtain ⟨_, hd, vs, _, dd⟩ := dk_rd I.hok e
    refine ⟨dd.typeIs, fun b q => ?_, hd⟩
    cases q
    obtain ⟨ob, _, _, h1, h2, _⟩ := dd
    exact ⟨ob, h1, h2.2.1⟩
  · obtain ⟨_, hd, xs, _, dd⟩ := dt_rd I.hok e
    refine ⟨dd.typeIs, fun b q => ?_, hd⟩
    cases q
    obtain ⟨ob, _, _, h1, h2, _⟩ := dd
    exact ⟨ob, h1, h2.2.1⟩
section
variable {X : Cx} {pins : List (Addr × Obj)} {σ : St} {H : Hp} {s : Shared} {a : Addr} {y d : V} {u r : Value} {o : Option V} {A : Around} {E : Value -> Shared -> Prop}
theorem d_get2 {Q : Value -> Shared -> Prop} (hu : A.units + 1 < cLine) (I : Inv X pins σ H s) (g : DGet H a y o) (ry : RelV y u) (rd : RelV d r) (h : ∀ w' s', Inv X pins σ H s' -> RelV (o.getD d) w' -> Q w' s') :
    wpAny (model X.prog X.w) A (call (.builtin "dict.get") [.ref a, u, r]) Q E s := by
  rcases g with ⟨kvs, k, e, ey, l⟩ | ⟨kvs, k, b, e, ey, eb, l⟩
  · subst ey
    obtain ⟨z, hd, vs, rel, dd⟩ := dk_rd I.hok e
    refine call_meetsIn PySem.F.slot_dict_get dd.typeIs PySem.F.entry_dict_get (PySem.F.args_dict_get_3 _ _ _) (meets_dict_get_default (mixKind X.prog X.w) a (kV_is ry) hd r) ⟨_, dd.mapOf, h _ _ (I.tok _) ?_⟩
    rw [l]
    exact (rel.val k).getD rd
  · subst ey
    cases (show u = Value.ref b from ry)
    obtain ⟨z, hd, xs, rel, dd⟩ := dt_rd I.hok e
    refine call_meetsIn PySem.F.slot_dict_get dd.typeIs PySem.F.entry_dict_get (PySem.F.args_dict_get_3 _ _ _) (meetsH_dict_get_default (tupleKind (mixKind X.prog X.w)) a b hd r) ⟨tupleKind_room_in1 hu, k, xs, key_of I.hok eb, dd, h _ _ (I.tok _) ?_⟩
    rw [l]
    exact (rel.val k).getD rd
end
def tDGet2 (td ty tx : TE) : TE := fun σ H Q => td σ H fun x H1 => ∃ a, x = .ref a /\ IsD H1 a /\ ty σ H1 fun y H2 => tx σ H2 fun z H3 => ∃ o, DGet H3 a y o /\ Q (o.getD z) H3
section
variable {X : Cx} {o e f : Expr} {apos cpos : Pos} {td ty tx : TE}
theorem pe_dget2 (hu : X.A.units + 1 < cLine) (ho : PE X o td) (he : PE X e ty) (hf : PE X f tx) (m : M2 X o "get" apos e f cpos) : PE X (.Call (.Attribute o "get" apos) [e, f] [] cpos) (tDGet2 td ty tx) := by
  intro pins s σ H Q I h
  refine wpAny_Call_method m.base m.few m.line PySem.F.plainAttrs_dict PySem.F.slot_dict_get PySem.F.type_dict_get (thn (ho pins s σ H _ I h) fun u s1 ⟨x, H1, I1, rx, a, ex, d, q1⟩ => ?_)
  subst ex
  obtain rfl : u = Value.ref a := rx
  obtain ⟨t1, t2, _⟩ := isD_at I1 d
  refine ⟨t1, t2, ?_⟩
  rw [m.trees]
  refine Calls.callWith_builtin rfl (Calls.evalArgs_plain (Calls.spliced_cons (thn (he pins s1 σ H1 _ I1 q1) fun iv s2 ⟨y, H2, I2, ry, q2⟩ =>
    Calls.spliced_cons (thn (hf pins s2 σ H2 _ I2 q2) fun fv s3 ⟨z, H3, I3, rz, ov, g, q3⟩ => Calls.spliced_nil ?_))))
  exact d_get2 hu I3 g ry rz fun w' s4 I4 rw' => ⟨_, H3, I4, rw', q3⟩
end
section
variable {X : Cx} {pins : List (Addr × Obj)} {σ : St} {H : Hp} {s : Shared} {a : Addr} {kvs : List (Key × V)} {A : Around} {E : Value -> Shared -> Prop}
end
section
variable {X : Cx} {pins : List (Addr × Obj)} {σ : St} {H : Hp} {s : Shared} {a : Addr} {y : V} {u : Value} {A : Around} {E : Value -> Shared -> Prop}
end
end L2
namespace L2
open PySem PySem.Spec PyProof.Rows
section
variable {X : Cx}
end
section
variable {κ : Type} [DecidableEq κ]
theorem valV_not {kvs : List (κ × V)} {k : κ} (h : valV kvs k = none) : ¬ k ∈ kvs.map (·.1) := by
  intro m
  obtain ⟨p, hp, e⟩ := List.mem_map.mp m
  have q : (kvs.any fun kv => decide (kv.1 = k)) = true := List.any_eq_true.mpr ⟨p, hp, decide_eq_true e⟩
  rw [valV_any, h] at q
  exact absurd q (by simp)
end
end L2
namespace PySem
section
variable {prog : Program} {w : World} {A : Around} {E : Value -> Shared -> Prop} {R : Result -> Shared -> Prop} {s : Shared}
theorem compLoop_any {elt target iter : Expr} {ifs : List Expr} {scope : Scope} {pos : Pos} {it acc : Value} {env : Env} (I : Nat -> Shared -> Prop)
    (turn : ∀ n s, I n s -> ∀ E' : Value -> Shared -> Prop, wpAny (model prog w) A (pyNext it) (fun r s₁ => match r with
      | none => R (.ok .next) s₁
      | some v => wpAny (model prog w) A (letOwnedTupleGo target it v) (fun _ s₁' => wpAny (model prog w) A (assign target env v) (fun _ s₂ =>
          wpAny (model prog w) A (forIn ifs true fun c r => if r = true then do let ok <- isTrue c env (eval c env); pure (ForInStep.yield ok) else pure (ForInStep.yield r)) (fun ok s₃ =>
            if ok = true then wpAny (model prog w) A (eval elt env) (fun x s₄ =>
              wpAny (model prog w) A (call (.builtin "list.append") [acc, x]) (fun _ s₅ => ∃ m, m < n /\ I m s₅) E' s₄) E' s₃
            else ∃ m, m < n /\ I m s₃) E' s₂) E' s₁') E' s₁) E' s)
    (n : Nat) (h : I n s) :
    codeAny (model prog w) A (.compLoop (.ListComp elt [⟨target, iter, ifs, 0⟩] scope pos) 0 it acc env) R s := by
  refine codeAny_loop rfl I (fun n s hI => ?_) n h
  show wpAny _ A ((compTurn (.ListComp elt [⟨target, iter, ifs, 0⟩] scope pos) 0 it acc env).onRaise (fun x => do noteFrame x env; theTreesLotGoes x)) _ _ s
  refine wpAny_noted ?_
  rw [compTurn_list]
  refine wpAny_bind (wpAny_standAt (wpAny_bind (wpAny_mono (turn n s hI _) (fun r s₁ h₁ => ?_) fun _ _ h' => h')))
  cases r with
  | none => exact wpAny_pure h₁
  | some v =>
    refine wpAny_bind (wpAny_mono h₁ (fun _ s₁' h₁' => ?_) fun _ _ h' => h')
    refine wpAny_bind (wpAny_mono h₁' (fun _ s₂ h₂ => wpAny_bind (wpAny_mono h₂ (fun ok s₃ h₃ => ?_) fun _ _ h' => h')) fun _ _ h' => h')
    cases ok with
    | false => exact wpAny_pure ⟨rfl, h₃⟩
    | true =>
      exact wpAny_bind (wpAny_bind (wpAny_mono h₃ (fun x s₄ h₄ => wpAny_bind (wpAny_mono h₄ (fun _ s₅ h₅ => wpAny_pure (wpAny_pure ⟨rfl, h₅⟩)) fun _ _ h' => h')) fun _ _ h' => h'))
end
end PySem
namespace PySem
def closL (env : Env) : List (Str × NameKind) -> List (Str × Addr) -> List (Str × Addr)
  | [], cs => cs
  | (n, k) :: r, cs => closL env r (if k == .free then (match env.cells.lookup n with | some a => (n, a) :: cs | none => cs) else cs)
theorem closureFor_closL {scope : Scope} {env : Env} (h : ∀ y ∈ scope.names, y.2 = .free -> ∃ c, env.cells.lookup y.1 = some c) : closureFor scope env = pure (closL env scope.names []) := by
  unfold closureFor
  have key : ∀ (l : List (Str × NameKind)) (cs : List (Str × Addr)), (∀ y ∈ l, y.2 = .free -> ∃ c, env.cells.lookup y.1 = some c) ->
      (forIn l cs fun x r => (match x with
        | (name, kind) => if (kind == NameKind.free) = true then (do let a <- cellOf env name; pure (ForInStep.yield ((name, a) :: r))) else pure (ForInStep.yield r) : Sem (ForInStep (List (Str × Addr))))) = (pure (closL env l cs) : Sem _) := by
    intro l
    induction l with
    | nil => intro cs _; rfl
    | cons y r ih =>
      intro cs hy
      obtain ⟨n, k⟩ := y
      rw [List.forIn_cons]
      by_cases hk : (k == NameKind.free) = true
      · obtain ⟨c, hc⟩ := hy (n, k) List.mem_cons_self (by simpa using hk)
        have e : cellOf env n = pure c := by unfold cellOf; rw [hc]
        simp only [hk, if_true, e, pure_bind]
        rw [ih _ fun z hz => hy z (List.mem_cons_of_mem _ hz)]
        show _ = pure (closL env r (if (k == NameKind.free) = true then (match env.cells.lookup n with | some a => (n, a) :: cs | none => cs) else cs))
        rw [if_pos hk, hc]
      · have hk2 : (k == NameKind.free) = false := by simpa using hk
        simp only [hk2, Bool.false_eq_true, if_false, pure_bind]
        rw [ih _ fun z hz => hy z (List.mem_cons_of_mem _ hz)]
        show _ = pure (closL env r (if (k == NameKind.free) = true then (match env.cells.lookup n with | some a => (n, a) :: cs | none => cs) else cs))
        rw [if_neg hk]
  have k2 := key scope.names [] h
  simp only [bind_pure]
  first
    | exact k2
    | (rw [<- k2]; rfl)
theorem closL_mem {env : Env} : ∀ (l : List (Str × NameKind)) (cs : List (Str × Addr)) (p : Str × Addr), p ∈ closL env l cs -> p ∈ cs ∨ env.cells.lookup p.1 = some p.2
  | [], _, _, h => .inl h
  | (n, k) :: r, cs, p, h => by
    rcases closL_mem r _ p h with q | q
    · by_cases hk : (k == NameKind.free) = true
      · rw [if_pos hk] at q
        cases e : env.cells.lookup n with
        | none => rw [e] at q; exact .inl q
        | some a =>
          rw [e] at q
          rcases List.mem_cons.mp q with z | z
          · subst z; exact .inr e
          · exact .inl z
      · rw [if_neg hk] at q; exact .inl q
    · exact .inr q
theorem closL_sub {env : Env} : ∀ (l : List (Str × NameKind)) (cs : List (Str × Addr)) (p : Str × Addr), p ∈ cs -> p ∈ closL env l cs
  | [], _, _, h => h
  | (n, k) :: r, cs, p, h => by
    refine closL_sub r _ p ?_
    by_cases hk : (k == NameKind.free) = true
    · rw [if_pos hk]
      cases e : env.cells.lookup n with
      | none => exact h
      | some a => exact List.mem_cons_of_mem _ h
    · rw [if_neg hk]; exact h
theorem closL_has {env : Env} {n : Str} {c : Addr} (e : env.cells.lookup n = some c) : ∀ (l : List (Str × NameKind)) (cs : List (Str × Addr)), (n, NameKind.free) ∈ l -> (n, c) ∈ closL env l cs
  | [], _, h => nomatch h
  | (m, k) :: r, cs, h => by
    rcases List.mem_cons.mp h with z | z
    · cases z
      refine closL_sub r _ _ ?_
      rw [if_pos (by rfl), e]
      exact List.mem_cons_self
    · exact closL_has e r _ z
theorem lookup_of_mem {β : Type} {n : Str} {c : β} : ∀ {l : List (Str × β)}, (n, c) ∈ l -> ∃ d, l.lookup n = some d
  | [], h => nomatch h
  | (m, d) :: r, h => by
    cases q : n == m with
    | true => exact ⟨d, by simp only [List.lookup_cons, q]⟩
    | false =>
      rcases List.mem_cons.mp h with z | z
      · cases z
        simp at q
      · obtain ⟨d', e⟩ := lookup_of_mem z
        exact ⟨d', by simp only [List.lookup_cons, q, e]⟩
theorem relabel_inv {env : Env} : ∀ {names : List (Str × NameKind)} {x : Str} {k : NameKind},
    (names.map fun (n, k) => if (k == NameKind.free && env.scope.kind == .function && env.kindOf n == some .cell) then (n, NameKind.cell) else (n, k)).lookup x = some k ->
    ∃ k', names.lookup x = some k' /\ (k' = k ∨ (k' = .free /\ k = .cell))
  | [], _, _, h => by simp at h
  | (n, j) :: r, x, k, h => by
    cases hx : x == n with
    | true =>
      refine ⟨j, by simp only [List.lookup_cons, hx], ?_⟩
      by_cases hc : (j == NameKind.free && env.scope.kind == .function && env.kindOf n == some .cell) = true
      · simp only [List.map_cons, if_pos hc, List.lookup_cons, hx] at h
        cases h
        refine .inr ⟨?_, rfl⟩
        simp only [Bool.and_eq_true, beq_iff_eq] at hc
        exact hc.1.1
      · simp only [List.map_cons, if_neg hc, List.lookup_cons, hx] at h
        cases h
        exact .inl rfl
    | false =>
      by_cases hc : (j == NameKind.free && env.scope.kind == .function && env.kindOf n == some .cell) = true
      · simp only [List.map_cons, if_pos hc, List.lookup_cons, hx] at h
        obtain ⟨k', e1, e2⟩ := relabel_inv h
        exact ⟨k', by simp only [List.lookup_cons, hx, e1], e2⟩
      · simp only [List.map_cons, if_neg hc, List.lookup_cons, hx] at h
        obtain ⟨k', e1, e2⟩ := relabel_inv h
        exact ⟨k', by simp only [List.lookup_cons, hx, e1], e2⟩
end PySem
namespace L2
open PySem PySem.Spec PyProof.Rows
open Builtin.Int (intBits)
section
variable {X : Cx}
def CMulB (i j : Int) : Prop := intBits i + intBits j <= 134217728
def CDivB (i j : Int) : Prop := j ≠ 0 /\ intBits j <= 9000
theorem op_mulB : OpR X (binaryOp .Mult) (rI CMulB fun i j => .int (i * j)) := opI fun _ _ _ _ _ _ _ hc q => mul_int q (IntMulOk.of_le (Nat.le_refl _) (Nat.le_refl _) hc)
theorem log2_of_bits {j : Int} (h0 : j ≠ 0) (h : intBits j <= 9000) : j.natAbs.log2 < 9000 := by
  unfold Builtin.Int.intBits at h
  have e : (j == 0) = false := by simpa using h0
  rw [e] at h
  simp only [Bool.false_eq_true, if_false] at h
  omega
theorem op_fdivB : OpR X (binaryOp .FloorDiv) (rI CDivB fun i j => .int (i.fdiv j)) := opI fun _ _ _ _ _ _ _ hc q => floordiv_int hc.1 q (.inl (PyProof.noPylong_of_log2 (log2_of_bits hc.1 hc.2)))
theorem call_isinst {T : String} : CallR X (.builtin "isinstance") (fun xs H Q => ∃ x t b, xs = [x, .ty T] /\ TyOf X.K H x t /\ PySem.W.kitOne X.K t (.type T) = some b /\ Q (.bl b) H) := by
  intro pins s σ H xs us Q I r h
  obtain ⟨x, t, b, rfl, ty, e, q⟩ := h
  obtain ⟨u, w', rfl, rx, rt⟩ := vals2 r
  cases (show w' = Value.type T from rt)
  exact isinst_ok I rx ty e fun tk => ⟨.bl b, H, I.tok _, rfl, q⟩
theorem getD_at {α : Type} {l : List α} {d : α} {i : Nat} (h : i < l.length) : l.getD i d = l[i] := by simp [h]
theorem all_eq_ints : ∀ (ns ms : List Int), ((List.range (min ns.length ms.length)).all (fun j => ns.getD j 0 == ms.getD j 0) && ns.length == ms.length) = decide (ns = ms) := by
  intro ns ms
  rw [Bool.eq_iff_iff]
  simp only [Bool.and_eq_true, List.all_eq_true, List.mem_range, beq_iff_eq, decide_eq_true_eq]
  constructor
  · rintro ⟨h, hl⟩
    refine List.ext_getElem hl fun i h1 h2 => ?_
    have q := h i (by omega)
    rw [getD_at h1, getD_at h2] at q
    exact q
  · rintro rfl
    exact ⟨fun _ _ => rfl, rfl⟩
theorem ints_at {us : List Value} {ns : List Int} (h : Vals (ns.map V.int) us) {j : Nat} (hj : j < us.length) : ∃ t, us[j] = Value.int (ns.getD j 0) t := by
  have hl := h.length
  rw [List.length_map] at hl
  have e : (ns.map V.int)[j]? = some (.int (ns.getD j 0)) := by
    rw [List.getElem?_map, List.getElem?_eq_getElem (by omega), getD_at (by omega)]
    rfl
  obtain ⟨u, hu, t, r⟩ := h.get e
  rw [List.getElem?_eq_getElem hj] at hu
  exact ⟨t, (Option.some.inj hu).trans r⟩
def rEqT (K : PySem.W.Frag) : R2 := fun x y H Q => ∃ (a b : Addr) (ns ms : List Int), x = .ref a /\ y = .ref b /\ SqT K H a (ns.map V.int) /\ SqT K H b (ms.map V.int) /\ Q (.bl (decide (ns = ms))) H
theorem eqAt_ints {A : Around} {s : Shared} {its its2 : List Value} {ns ms : List Int} (r1 : Vals (ns.map V.int) its) (r2 : Vals (ms.map V.int) its2) :
    ∀ j (h1 : j < its.toArray.size) (h2 : j < its2.toArray.size), PySem.SeqAt.EqAt A s its.toArray[j] its2.toArray[j] (ns.getD j 0 == ms.getD j 0) := fun j h1 h2 => by
  obtain ⟨t1, e1⟩ := ints_at r1 (j := j) (by simpa using h1)
  obtain ⟨t2, e2⟩ := ints_at r2 (j := j) (by simpa using h2)
  rw [List.getElem_toArray, List.getElem_toArray, e1, e2]
  exact PySem.SeqAt.EqAt.int_int _ _ _ _
theorem sizes_ints {its its2 : List Value} {ns ms : List Int} (r1 : Vals (ns.map V.int) its) (r2 : Vals (ms.map V.int) its2) :
    ((List.range (min its.toArray.size its2.toArray.size)).all (fun j => ns.getD j 0 == ms.getD j 0) && its.toArray.size == its2.toArray.size) = decide (ns = ms) := by
  have l1 := r1.length
  have l2 := r2.length
  rw [List.length_map] at l1 l2
  rw [List.size_toArray, List.size_toArray, <- l1, <- l2]
  exact all_eq_ints ns ms
theorem op_eqT (hu : X.A.units < cLine) : OpR X (compareOp .Eq) (rEqT X.K) := by
  intro pins s σ H x y v u Q I rx ry h
  obtain ⟨a, b, ns, ms, rfl, rfl, ha, hb, q⟩ := h
  cases rx
  cases ry
  obtain ⟨its, r1, p1, _⟩ := I.tuple ha
  obtain ⟨its2, r2, p2, _⟩ := I.tuple hb
  refine PySem.SeqAt.eq_tupleAt (show s.heap.IsTuple a its.toArray from p1) (show s.heap.IsTuple b its2.toArray from p2) hu (eqAt_ints r1 r2) ?_
  rw [sizes_ints r1 r2]
  exact ⟨.bl (decide (ns = ms)), H, I, rfl, q⟩
end
structure CompOk (sc scope : Scope) : Prop where
  kind : scope.kind = .function
  nocell : ∀ y ∈ scope.names, y.2 ≠ .cell
  loc : ∀ y ∈ scope.names, y.2 = .local -> scope.names.lookup y.1 = some .local
  free : ∀ y ∈ scope.names, y.2 = .free -> sc.names.lookup y.1 = some .cell ∨ sc.names.lookup y.1 = some .free
def compOkB (sc scope : Scope) : Bool := (scope.kind == .function) && scope.names.all fun y => (y.2 != .cell) && ((y.2 != .local) || (scope.names.lookup y.1 == some .local)) && ((y.2 != .free) || (sc.names.lookup y.1 == some .cell) || (sc.names.lookup y.1 == some .free))
theorem CompOk.of {sc scope : Scope} (h : compOkB sc scope = true) : CompOk sc scope := by
  unfold compOkB at h
  rw [Bool.and_eq_true, List.all_eq_true] at h
  obtain ⟨hk, h⟩ := h
  refine ⟨eq_of_beq hk, fun y hy => ?_, fun y hy e => ?_, fun y hy e => ?_⟩
  · have q := h y hy
    simp only [Bool.and_eq_true, bne_iff_ne] at q
    exact q.1.1
  · have q := h y hy
    simp only [Bool.and_eq_true, Bool.or_eq_true, bne_iff_ne, beq_iff_eq] at q
    exact q.1.2.resolve_left fun z => z e
  · have q := h y hy
    simp only [Bool.and_eq_true, Bool.or_eq_true, bne_iff_ne, beq_iff_eq] at q
    rcases q.2 with (z | z) | z
    · exact absurd e z
    · exact .inl z
    · exact .inr z
structure NL (N M : List Str) (scope : Scope) : Prop where
  len : M.length = N.length
  loc : ∀ (j : Nat) x, M[j]? = some x -> scope.names.lookup x ≠ some .local
  free : ∀ (j : Nat) x, M[j]? = some x -> scope.names.lookup x = some .free -> N[j]? = some x
def nlB (scope : Scope) : List Str -> List Str -> Bool
  | [], [] => true
  | x :: M, y :: N => (scope.names.lookup x != some .local) && ((scope.names.lookup x != some .free) || x == y) && nlB scope M N
  | _, _ => false
theorem NL.of {scope : Scope} : ∀ {N M : List Str}, nlB scope M N = true -> NL N M scope
  | [], [], _ => ⟨rfl, fun j x h => by simp at h, fun j x h => by simp at h⟩
  | [], _ :: _, h => by cases h
  | _ :: _, [], h => by cases h
  | y :: N, x :: M, h => by
    have h' : ((scope.names.lookup x != some .local) && ((scope.names.lookup x != some .free) || x == y) && nlB scope M N) = true := h
    simp only [Bool.and_eq_true, Bool.or_eq_true, bne_iff_ne, beq_iff_eq] at h'
    obtain ⟨⟨h1, h2⟩, h3⟩ := h'
    have q := NL.of h3
    refine ⟨by simp [q.len], fun j z e => ?_, fun j z e f => ?_⟩
    · cases j with
      | zero => simp at e; subst e; exact h1
      | succ j => exact q.loc j z (by simpa using e)
    · cases j with
      | zero =>
        simp at e; subst e
        rcases h2 with w | w
        · exact absurd f w
        · simp [w]
      | succ j => simpa using q.free j z (by simpa using e) f
def cxComp (X : Cx) (ls M : List Str) (scope : Scope) (C : Addr) (fp : List Addr) (s : Shared) (H : Hp) : Cx where
  prog := X.prog
  w := X.w
  K := X.K
  mg := X.mg
  base := X.base
  A := X.A
  N := ls ++ M
  s₀ := s
  H₀ := H
  env := compEnvC scope (closL X.env scope.names []) C X.env
  outer := X.stack
  stack := X.stack
  ex := fp
  fn := fun _ => false
  calm := X.calm
  pn := []
  xe := fun _ _ => False
def PTs (Y : Cx) (ifs : List Expr) (c : TT) : Prop :=
  ∀ (pins : List (Addr × Obj)) (s : Shared) (σ : St) (H : Hp) (Q : Bool -> Hp -> Prop), Inv Y pins σ H s -> c σ H Q ->
    wpAny (model Y.prog Y.w) Y.A (forIn ifs true fun c r => if r = true then do let ok <- isTrue c Y.env (eval c Y.env); pure (ForInStep.yield ok) else pure (ForInStep.yield r)) (TP Y pins σ Q) Y.xe s
def tYes : TT := fun _ H Q => Q true H
theorem pts_nil {Y : Cx} : PTs Y [] tYes := fun _ _ _ H _ I h => wpAny_tests_nil ⟨H, I, h⟩
theorem pts_one {Y : Cx} {e : Expr} {c : TT} (h : PT Y e c) : PTs Y [e] c := fun pins s σ H Q I hw => wpAny_tests_one (h pins s σ H Q I hw)
def CompW (k : Nat) (J : It) (g : TG) (c : TT) (te : TE) (σ : St) (H1 : Hp) (D : Addr) (Q : VK) : Prop :=
  ∃ W : Nat -> Nat -> St -> Hp -> Prop, (∃ m, W 0 m (List.replicate k none ++ σ) (upd H1 D (.lst []))) /\ ∀ i m τ H, W i m τ H ->
    (J.stop i H /\ Q (.ref D) H) ∨ (J.go i H /\ ∀ x H', J.yld i H x H' -> g x τ H' fun τ2 H2 => c τ2 H2 fun b H3 => if b = true then te τ2 H3 fun y H4 => ∃ ys m', m' < m /\ H4 D = some (.lst ys) /\ ys.length < sizeLine /\ W (i + 1) m' τ2 (upd H4 D (.lst (ys ++ [y]))) else ∃ m', m' < m /\ W (i + 1) m' τ2 H3)
def tComp (k : Nat) (wi : TI) (g : TG) (c : TT) (te : TE) : TE := fun σ H Q => wi σ H fun J H1 => ∀ D, H1 D = none -> CompW k J g c te σ H1 D Q
structure COff (X : Cx) (pins : List (Addr × Obj)) (H : Hp) (C : Addr) (s : Shared) : Prop where
  ns : ∃ m, s.heap.Ns C m
  none : H C = none
  ne : C ≠ X.env.locals
  young : X.s₀.heap.objs.size <= C
  cells : ∀ x c, X.env.cells.lookup x = some c -> c ≠ C
  pins : ∀ p ∈ X.pn ++ pins, p.1 ≠ C
theorem Inv.gone {X : Cx} {pins : List (Addr × Obj)} {σ : St} {H : Hp} {C : Addr} {s : Shared} {h' : Heap} (I : Inv X pins σ H s) (o : COff X pins H C s) (hs : Heap.SameBut C s.heap h') : Inv X pins σ H { s with heap := h' } :=
  I.turned (t' := s.toks) (it := C) (fun b ob hb e => (hs.2 b hb).trans e) o.none o.ne (.inr o.young) o.cells o.pins
section
variable {X : Cx} {elt tg iter : Expr} {ifs : List Expr} {scope : Scope} {pos : Pos} {ls M : List Str} {g : TG} {c : TT} {te : TE}
theorem comp_core {J : It} {fp : List Addr} {tn : Nat -> Heap -> Prop} {it : Addr} {pins : List (Addr × Obj)} {σ : St} {H2 : Hp} {s2 : Shared} {Qe : VK} {RR : Value -> Addr -> Result -> Shared -> Prop} {E : Value -> Shared -> Prop}
    (hc : X.calm = true) (S : CompOk X.env.scope scope) (nl : NL X.N M scope)
    (hb : ∀ C fp s H, PG (cxComp X ls M scope C fp s H) tg g /\ PTs (cxComp X ls M scope C fp s H) ifs c /\ PE (cxComp X ls M scope C fp s H) elt te)
    (I2 : Inv X pins σ H2 s2) (T : Turn X.prog X.w X.K tg J fp it tn) (st2 : tn 0 s2.heap) (f2 : ∀ b ∈ fp, FpOk X pins H2 b)
    (hW : ∀ D, H2 D = none -> CompW ls.length J g c te σ H2 D Qe)
    (hRR : ∀ D C H' s', Inv X pins σ H' s' -> COff X pins H' C s' -> Qe (.ref D) H' -> RR (.ref D) C (.ok .next) s') :
    wpAny (model X.prog X.w) X.A (newList []) (fun acc s₃ => wpAny (model X.prog X.w) X.A (newFunctionEnv scope X.env.globals (closL X.env scope.names []) [] X.env.qual none .none (some X.env)) (fun cenv s₄ =>
      codeAny (model X.prog X.w) X.A (.compStart (.ListComp elt [⟨tg, iter, ifs, 0⟩] scope pos) 0 (.ref it) acc { cenv with scope := relabel scope X.env }) (RR acc cenv.locals) s₄) E s₃) E s2 := by
  refine wpAny_newObj_type (wpAny_newFunctionEnv S.nocell (by intro y hy; simp at hy) (fun h₁ hns₁ hsb₁ => ?_) S.kind)
  dsimp only at hns₁ hsb₁ ⊢
  have I3 : Inv X pins σ (upd H2 s2.heap.objs.size (.lst [])) { s2 with heap := s2.heap.push { cls := .type "list", dict := none, data := .seq ([] : List Value).toArray }, toks := s2.toks } :=
    I2.laid (fun _ _ q => Heap.get?_push_of_some _ q) (Nat.le_refl _) ⟨Nat.zero_le _, [], 0, .nil, Heap.get?_push_size _ rfl⟩
  have hfreshD : H2 s2.heap.objs.size = none := I2.hok.fresh (Nat.le_refl _)
  generalize hHH : s2.heap.push { cls := .type "list", dict := none, data := .seq ([] : List Value).toArray } = HH at hns₁ hsb₁ I3 ⊢
  have up : ∀ b o, s2.heap.get? b = some o -> HH.get? b = some o := fun b o e => by rw [<- hHH]; exact Heap.get?_push_of_some _ e
  have old : ∀ b o, HH.get? b = some o -> h₁.get? b = some o := fun b o e => hsb₁.extBut b o (Nat.ne_of_lt (Heap.lt_size e)) (Heap.get?_push_of_some _ e)
  generalize hH3 : upd H2 s2.heap.objs.size (.lst []) = H3 at I3
  have f3 : ∀ b ∈ fp, FpOk X pins H3 b := fun b hb => by
    obtain ⟨f0, fr⟩ := f2 b hb
    refine ⟨?_, fr⟩
    obtain ⟨o, e, _⟩ := T.obj 0 _ st2 b hb
    rw [<- hH3, upd_ne (Nat.ne_of_lt (Heap.lt_size e))]
    exact f0
  have fplt : ∀ b ∈ fp, b < HH.objs.size := fun b hb => by
    obtain ⟨o, e, _⟩ := T.obj 0 _ st2 b hb
    exact Heap.lt_size (up b o e)
  have sub : ∀ x a, (closL X.env scope.names []).lookup x = some a -> X.env.cells.lookup x = some a := fun x a e => by
    rcases closL_mem _ _ _ (PySem.mem_of_lookup e) with z | z
    · exact absurd z (by simp)
    · exact z
  have kin : ∀ x, scope.names.lookup x = some .free -> X.env.kindOf x = some .cell ∨ X.env.kindOf x = some .free := fun x e => S.free (x, .free) (PySem.mem_of_lookup e) rfl
  have has : ∀ x a, scope.names.lookup x = some .free -> X.env.cells.lookup x = some a -> (closL X.env scope.names []).lookup x = some a := fun x a e ec => by
    obtain ⟨d, hd⟩ := lookup_of_mem (closL_has ec scope.names [] (PySem.mem_of_lookup e))
    have := sub x d hd
    rw [ec] at this
    cases this
    exact hd
  have rel : ∀ x k, (relabel scope X.env).names.lookup x = some k -> (k = .cell ∨ k = .free) -> scope.names.lookup x = some .free := fun x k e hk => by
    obtain ⟨k', e1, e2⟩ := relabel_inv (show (scope.names.map fun (n, k) => if (k == NameKind.free && X.env.scope.kind == .function && X.env.kindOf n == some .cell) then (n, NameKind.cell) else (n, k)).lookup x = some k from e)
    rcases e2 with e2 | ⟨e2, _⟩
    · subst e2
      rcases hk with hk | hk
      · subst hk; exact absurd rfl (S.nocell _ (PySem.mem_of_lookup e1))
      · subst hk; exact e1
    · subst e2; exact e1
  have okY : (cxComp X ls M scope HH.objs.size fp { s2 with heap := HH, toks := s2.toks } H3).Ok := by
    refine ⟨I3.ok.mod, S.kind, I3.ok.glob, I3.ok.blt, Nat.le_refl _, fun x y a h1 h2 => I3.ok.inj x y a (sub x a h1) (sub y a h2), fun x hx => ?_, (fun x a h => nomatch h), I3.ok.hd, I3.ok.frames, .inl rfl, fun b hb' => ⟨Nat.ne_of_lt (fplt b hb'), fun x a e => (f3 b hb').2.2.2.2.1 x a (sub x a e)⟩,
      I3.bs, Nat.le_trans I3.ok.bsz I3.sz, fun b o e hb' => ?_, fun b hb' hs => ?_, I3.stack, I3.stkFree⟩
    · have hf : scope.names.lookup x = some .free := by
        rcases hx with hx | hx
        · exact rel x _ hx (.inl rfl)
        · exact rel x _ hx (.inr rfl)
      obtain ⟨a, ea⟩ := I3.ok.has x (kin x hf)
      exact ⟨a, has x a hf ea⟩
    · rcases (f3 b hb').2.2.2.1 with z | z
      · exact I3.ok.noex b o e z
      · exact absurd (Nat.lt_of_lt_of_le (Heap.lt_size e) (Nat.le_trans I3.ok.bsz z)) (Nat.lt_irrefl _)
    · rcases List.mem_cons.mp (I3.stkSub b hs) with z | z
      · exact (f3 b hb').2.1 z
      · exact (f3 b hb').2.2.1 z
  have IY : Inv (cxComp X ls M scope HH.objs.size fp { s2 with heap := HH, toks := s2.toks } H3) [] (List.replicate ls.length none ++ σ) H3 { s2 with heap := h₁, toks := s2.toks + ([] : List (Str × Value)).length } := by
    refine ⟨okY, rfl, I2.bare, Un.kept old, ⟨_, hns₁, fun i x v e1 e2 e3 => ?_⟩, fun x a e => ?_, I3.hok.fresh (Nat.le_refl _), fun x a e => I3.freeC x a (sub x a e), fun p hp => absurd (show p ∈ ([] : List (Addr × Obj)) from hp) (by simp), I3.hok.kept old, ?_⟩
    · have hi : ls.length <= i := by
        by_cases hi : ls.length <= i
        · exact hi
        · rw [List.getElem?_append_left (by simp; omega), List.getElem?_replicate] at e2
          split at e2 <;> cases e2
      rw [List.getElem?_append_right (by simpa using hi), List.length_replicate] at e2
      have e0 : M[i - ls.length]? = some x := by
        have z : (ls ++ M)[i]? = some x := e1
        rw [List.getElem?_append_right hi] at z
        exact z
      have hnl := nl.loc _ x e0
      have hf : scope.names.lookup x = some .free := by
        rcases e3 with e3 | e3 | e3
        · obtain ⟨k', q1, q2⟩ := relabel_inv (show (scope.names.map fun (n, k) => if (k == NameKind.free && X.env.scope.kind == .function && X.env.kindOf n == some .cell) then (n, NameKind.cell) else (n, k)).lookup x = some .local from e3)
          rcases q2 with q2 | ⟨_, q2⟩
          · subst q2; exact absurd q1 hnl
          · cases q2
        · exact rel x _ e3 (.inl rfl)
        · exact rel x _ e3 (.inr rfl)
      have e1' := nl.free _ x e0 hf
      have hk := kin x hf
      obtain ⟨m, hn, hl⟩ := I3.loc
      obtain ⟨u, ru, lk⟩ := hl (i - ls.length) x v e1' e2 (hk.elim (fun z => .inr (.inl z)) fun z => .inr (.inr z))
      refine ⟨u, ru, ?_⟩
      rcases lk with ⟨z, _⟩ | ⟨_, a, ea, hcell⟩
      · rcases hk with hk | hk <;> (rw [hk] at z; cases z)
      · obtain ⟨o, eo, hd⟩ := hcell
        refine .inr ⟨?_, a, has x a hf ea, ⟨o, old a o eo, hd⟩⟩
        rcases e3 with e3 | e3 | e3
        · obtain ⟨k', q1, q2⟩ := relabel_inv (show (scope.names.map fun (n, k) => if (k == NameKind.free && X.env.scope.kind == .function && X.env.kindOf n == some .cell) then (n, NameKind.cell) else (n, k)).lookup x = some .local from e3)
          rcases q2 with q2 | ⟨_, q2⟩
          · subst q2; exact absurd q1 hnl
          · cases q2
        · exact .inl e3
        · exact .inr e3
    · obtain ⟨v, o, eo, hd⟩ := I3.cell x a (sub x a e)
      exact ⟨v, o, old a o eo, hd⟩
    · show (List.replicate ls.length none ++ σ).length = (ls ++ M).length
      rw [List.length_append, List.length_append, List.length_replicate, I3.len, nl.len]
  have st1 : tn 0 h₁ := T.keep 0 _ _ st2 fun b _ o e => old b o (up b o e)
  obtain ⟨hPG, hPT, hPE⟩ := hb HH.objs.size fp { s2 with heap := HH, toks := s2.toks } H3
  obtain ⟨W, ⟨m0, w0⟩, turn⟩ := hW s2.heap.objs.size hfreshD
  rw [hH3] at w0
  have back : ∀ {τ : St} {H' : Hp} {s' : Shared}, Inv (cxComp X ls M scope HH.objs.size fp { s2 with heap := HH, toks := s2.toks } H3) [] τ H' s' -> Inv X pins σ H' s' /\ COff X pins H' HH.objs.size s' := fun {τ H' s'} J => by
    refine ⟨I3.call' (ch := fp) J.os J.base J.hok J.bare fun b hb' => ?_, ?_⟩
    · obtain ⟨_, g1, g2, g3, g4, g5⟩ := f3 b hb'
      exact ⟨g3, g1, g4, g5⟩
    · obtain ⟨m, hn, _⟩ := J.loc
      refine ⟨⟨m, hn⟩, J.free, Ne.symm (Nat.ne_of_lt I3.lt), I3.sz, fun x a e => ?_, fun p hp => Nat.ne_of_lt (Heap.lt_size (I3.pin p hp).1)⟩
      obtain ⟨v, q⟩ := I3.cell x a e
      exact Nat.ne_of_lt q.lt
  have stat : ∀ {H' : Hp}, (∀ b ∈ fp, H' b = none) -> ∀ b ∈ fp, FpOk (cxComp X ls M scope HH.objs.size fp { s2 with heap := HH, toks := s2.toks } H3) [] H' b := fun {H'} hn b hb' => by
    obtain ⟨_, g1, g2, g3, g4, g5⟩ := f3 b hb'
    refine ⟨hn b hb', Nat.ne_of_lt (fplt b hb'), fun hs => ?_, .inl hb', fun x a e => g4 x a (sub x a e), fun p hp => absurd (show p ∈ ([] : List (Addr × Obj)) from hp) (by simp)⟩
    rcases List.mem_cons.mp (I3.stkSub b hs) with z | z
    · exact g1 z
    · exact g2 z
  have loop : ∀ s₃ : Shared, s₃ = { s2 with heap := h₁, toks := s2.toks + ([] : List (Str × Value)).length } ->
      codeAny (model X.prog X.w) X.A (.compLoop (.ListComp elt [⟨tg, iter, ifs, 0⟩] scope pos) 0 (.ref it) (.ref s2.heap.objs.size) (compEnvC scope (closL X.env scope.names []) HH.objs.size X.env)) (RR (.ref s2.heap.objs.size) HH.objs.size) s₃ := by
    rintro s₃ rfl
    refine compLoop_any (fun n s' => ∃ i τ H', Inv (cxComp X ls M scope HH.objs.size fp { s2 with heap := HH, toks := s2.toks } H3) [] τ H' s' /\ tn i s'.heap /\ (∀ b ∈ fp, H' b = none) /\ W i n τ H') ?_ m0 ⟨0, _, H3, IY, st1, fun b hb' => (f3 b hb').1, w0⟩
    rintro n s3 ⟨i, τ, H', I4, st4, fr4, w4⟩ E'
    rcases turn i n τ H' w4 with ⟨stop, qn⟩ | ⟨go, step⟩
    · refine thn (T.done (cxComp X ls M scope HH.objs.size fp { s2 with heap := HH, toks := s2.toks } H3) rfl rfl rfl hc i [] s3 τ H' E' I4 (stat fr4) st4 stop) fun r s4 ⟨hr, I5⟩ => ?_
      subst hr
      obtain ⟨b1, b2⟩ := back I5
      exact hRR _ _ H' s4 b1 b2 qn
    · refine thn (T.item (cxComp X ls M scope HH.objs.size fp { s2 with heap := HH, toks := s2.toks } H3) rfl rfl rfl hc i [] s3 τ H' E' I4 (stat fr4) st4 go) fun r s4 ⟨u, hr, h4⟩ => ?_
      subst hr
      refine thn h4 fun _ s5 ⟨x, H5, I5, r5, y5, st5, fr5⟩ => ?_
      have I5' := I5.pinned (stat fr5) (T.obj _ _ st5)
      refine wpAny_mono (hPG _ s5 τ H5 x u _ I5' r5 (step x H5 y5)) (fun _ s6 ⟨σ6, H6, I6, q6⟩ => ?_) fun _ _ z => z.elim
      refine wpAny_mono (hPT _ s6 σ6 H6 _ I6 q6) (fun ok s7 ⟨H7, I7, q7⟩ => ?_) fun _ _ z => z.elim
      have again : ∀ {σ8 : St} {H8 : Hp} {s8 : Shared} {m' : Nat}, Inv (cxComp X ls M scope HH.objs.size fp { s2 with heap := HH, toks := s2.toks } H3) ([] ++ pinsAt fp s5.heap) σ8 H8 s8 -> m' < n -> W (i + 1) m' σ8 H8 ->
          ∃ m, m < n /\ ∃ i τ H', Inv (cxComp X ls M scope HH.objs.size fp { s2 with heap := HH, toks := s2.toks } H3) [] τ H' s8 /\ tn i s8.heap /\ (∀ b ∈ fp, H' b = none) /\ W i m τ H' := fun {σ8 H8 s8 m'} I8 hm w8 => by
        refine ⟨m', hm, i + 1, σ8, H8, I8.unpinned, T.keep _ _ _ st5 fun b hb' o e => (I8.pin (b, o) (List.mem_append_right _ (List.mem_append_right _ (mem_pinsAt hb' e)))).1, fun b hb' => ?_, w8⟩
        obtain ⟨o, e, d⟩ := T.obj _ _ st5 b hb'
        exact (I8.pin (b, o) (List.mem_append_right _ (List.mem_append_right _ (mem_pinsAt hb' e)))).2.1
      cases ok with
      | false =>
        rw [if_neg Bool.false_ne_true] at q7 ⊢
        obtain ⟨m', hm, w7⟩ := q7
        exact again I7 hm w7
      | true =>
        rw [if_pos rfl] at q7 ⊢
        refine wpAny_mono (hPE _ s7 σ6 H7 _ I7 q7) (fun yv s8 ⟨y, H8, I8, r8, ys, m', hm, hD, hz, w8⟩ => ?_) fun _ _ z => z.elim
        refine wpAny_mono (mt_append (X := (cxComp X ls M scope HH.objs.size fp { s2 with heap := HH, toks := s2.toks } H3)) _ s8 σ6 H8 (.ref s2.heap.objs.size) [y] (.ref s2.heap.objs.size) [yv] (fun _ H9 => W (i + 1) m' σ6 H9) I8 rfl (.cons r8 .nil) ⟨_, ys, y, rfl, rfl, hD, hz, w8⟩) (fun _ s9 ⟨_, H9, I9, _, w9⟩ => ?_) fun _ _ z => z.elim
        exact again I9 hm w9
  exact codeAny_compStart_list (loop _ rfl) (T.self _ 0 _ _ _ st1 (loop _ rfl))
theorem closOk (S : CompOk X.env.scope scope) (ok : X.Ok) : closureFor scope X.env = pure (closL X.env scope.names []) :=
  closureFor_closL fun y hy e => ok.has y.1 (S.free y hy e)
theorem pe_comp {wi : TI} (hc : X.calm = true) (S : CompOk X.env.scope scope) (nl : NL X.N M scope) (hi : PI X tg iter wi)
    (hb : ∀ C fp s H, PG (cxComp X ls M scope C fp s H) tg g /\ PTs (cxComp X ls M scope C fp s H) ifs c /\ PE (cxComp X ls M scope C fp s H) elt te)
    (hs : ∀ x, foldedSetIterable iter X.env x = pure x := by intro _; rfl) : PE X (.ListComp elt [⟨tg, iter, ifs, 0⟩] scope pos) (tComp ls.length wi g c te) := by
  intro pins s σ H Q I h
  rw [eval_ListComp]
  refine wpAny_comprehension_free (use := none) rfl hs (closOk S I.ok) S.kind S.loc (thn (hi pins s σ H _ I h) fun xv s1 h1 => thn h1 fun itv s2 h2 => ?_)
  obtain ⟨it, fp, tn, J, H2, e, I2, T, st2, f2, hW⟩ := h2
  subst e
  refine comp_core (RR := fun acc C => compPost (model X.prog X.w) X.A X.xe none (EP X pins σ Q) acc C) (Qe := Q) hc S nl hb I2 T st2 f2 hW fun D C H' s' I' o q => ?_
  exact ⟨o.ns.choose, o.ns.choose_spec, fun h' hs' => ⟨.ref D, H', I'.gone o hs', rfl, q⟩⟩
theorem ps_setC {wi : TI} {i : Nat} {y : Str} {py spos : Pos} (hc : X.calm = true) (S : CompOk X.env.scope scope) (nl : NL X.N M scope) (hN : X.N.Nodup) (hiy : X.N[i]? = some y) (hy : Loc X.env.scope y)
    (hi : PI X tg iter wi) (hb : ∀ C fp s H, PG (cxComp X ls M scope C fp s H) tg g /\ PTs (cxComp X ls M scope C fp s H) ifs c /\ PE (cxComp X ls M scope C fp s H) elt te)
    (hsw : swapsWith (.ListComp elt [⟨tg, iter, ifs, 0⟩] scope pos) (some (.Name y py)) spos.line X.env = pure true := by rfl)
    (hs : ∀ x, foldedSetIterable iter X.env x = pure x := by intro _; rfl) (hf : X.fn y = true ∨ X.env.scope.names.lookup y = some .local := by first | exact .inl rfl | exact .inr rfl) :
    PS X (.Assign [.Name y py] (.ListComp elt [⟨tg, iter, ifs, 0⟩] scope pos) spos) (tAsg (tComp ls.length wi g c te) (gName i)) := by
  intro pins s σ H D I h
  rw [exec_Assign_Name_used _ _ _ _ hsw]
  refine wpAny_bind (wpAny_standAt (wpAny_bind ?_))
  show wpAny _ X.A (do let _ <- comprehension (.ListComp elt [⟨tg, iter, ifs, 0⟩] scope pos) scope X.env _ (newList []) false (eval iter X.env) (some (assign (.Name y py) X.env))) _ _ s
  refine wpAny_bind (wpAny_mono (wpAny_comprehension_free (use := some (assign (.Name y py) X.env)) (Q := fun _ s' => SP X pins D .next s') rfl hs (closOk S I.ok) S.kind S.loc (thn (hi pins s σ H _ I h) fun xv s1 h1 => thn h1 fun itv s2 h2 => ?_)) (fun _ s' hq => wpAny_pure (wpAny_pure hq)) fun _ _ e => e)
  obtain ⟨it, fp, tn, J, H2, e, I2, T, st2, f2, hW⟩ := h2
  subst e
  refine comp_core (RR := fun acc C => compPost (model X.prog X.w) X.A X.xe (some (assign (.Name y py) X.env)) (fun _ s' => SP X pins D .next s') acc C) hc S nl hb I2 T st2 f2 hW fun Dl C H' s' I' o q => ?_
  show wpAny _ X.A (assign (.Name y py) X.env (.ref Dl)) _ _ _
  refine wpAny_assign_Name (store_ok2 I' hN hiy hy (v := .ref Dl) rfl (fun s'' I'' ⟨a, hsa, ha⟩ => ?_) hf)
  have hCa : C ≠ a := by
    rcases ha with z | z
    · rw [z]; exact o.ne
    · exact Ne.symm (o.cells y a z)
  obtain ⟨m, hm⟩ := o.ns
  have o2 : COff X pins H' C s'' := ⟨⟨m, hm.sameBut hsa hCa⟩, o.none, o.ne, o.young, o.cells, o.pins⟩
  exact ⟨m, hm.sameBut hsa hCa, fun h' hs' => ⟨_, H', I''.gone o2 hs', q⟩⟩
end
def CW (n : Nat) (Pv : Nat -> St -> Hp -> Prop) (i m : Nat) (τ : St) (H : Hp) : Prop := m = n - i /\ i <= n /\ Pv i τ H
theorem comp_next {n i m : Nat} {Pv : Nat -> St -> Hp -> Prop} {τ : St} {H4 : Hp} {D : Addr} {ys : List V} {y : V} (hm : m = n - i) (hi : i < n) (e1 : H4 D = some (.lst ys)) (e2 : ys.length < sizeLine) (p : Pv (i + 1) τ (upd H4 D (.lst (ys ++ [y])))) :
    ∃ ys m', m' < m /\ H4 D = some (.lst ys) /\ ys.length < sizeLine /\ CW n Pv (i + 1) m' τ (upd H4 D (.lst (ys ++ [y]))) := ⟨ys, n - (i + 1), by omega, e1, e2, rfl, hi, p⟩
theorem comp_skip {n i m : Nat} {Pv : Nat -> St -> Hp -> Prop} {τ : St} {H3 : Hp} (hm : m = n - i) (hi : i < n) (p : Pv (i + 1) τ H3) : ∃ m', m' < m /\ CW n Pv (i + 1) m' τ H3 := ⟨n - (i + 1), by omega, rfl, hi, p⟩
theorem comp_range {k : Nat} {lo : Int} {n : Nat} {g : TG} {c : TT} {te : TE} {σ : St} {H1 : Hp} {D : Addr} {Q : VK} (Pv : Nat -> St -> Hp -> Prop) (h0 : Pv 0 (List.replicate k none ++ σ) (upd H1 D (.lst [])))
    (hs : ∀ i m τ H, m = n - i -> i < n -> Pv i τ H -> g (.int (lo + i)) τ H fun τ2 H2 => c τ2 H2 fun b H3 => if b = true then te τ2 H3 fun y H4 => ∃ ys m', m' < m /\ H4 D = some (.lst ys) /\ ys.length < sizeLine /\ CW n Pv (i + 1) m' τ2 (upd H4 D (.lst (ys ++ [y]))) else ∃ m', m' < m /\ CW n Pv (i + 1) m' τ2 H3)
    (hd : ∀ τ H, Pv n τ H -> Q (.ref D) H) : CompW k (Itr lo n) g c te σ H1 D Q := by
  refine ⟨CW n Pv, ⟨n, rfl, Nat.zero_le _, h0⟩, ?_⟩
  rintro i m τ H ⟨hm, hi, p⟩
  by_cases hlt : i < n
  · refine .inr ⟨hlt, fun x H' y => ?_⟩
    obtain ⟨e, y⟩ := y
    subst e y
    exact hs i m τ _ hm hlt p
  · have e : i = n := by omega
    subst e
    exact .inl ⟨Nat.le_refl _, hd τ H p⟩
theorem comp_list {K : PySem.W.Frag} {a : Addr} {xs : List V} {k : Nat} {g : TG} {c : TT} {te : TE} {σ : St} {H1 : Hp} {D : Addr} {Q : VK} (Pv : Nat -> St -> Hp -> Prop) (h0 : Pv 0 (List.replicate k none ++ σ) (upd H1 D (.lst [])))
    (hl : ∀ i τ H, i <= xs.length -> Pv i τ H -> SqL K H a xs)
    (hs : ∀ i m x τ H, m = xs.length - i -> i < xs.length -> xs[i]? = some x -> Pv i τ H -> g x τ H fun τ2 H2 => c τ2 H2 fun b H3 => if b = true then te τ2 H3 fun y H4 => ∃ ys m', m' < m /\ H4 D = some (.lst ys) /\ ys.length < sizeLine /\ CW xs.length Pv (i + 1) m' τ2 (upd H4 D (.lst (ys ++ [y]))) else ∃ m', m' < m /\ CW xs.length Pv (i + 1) m' τ2 H3)
    (hd : ∀ τ H, Pv xs.length τ H -> Q (.ref D) H) : CompW k (Itl K a) g c te σ H1 D Q := by
  refine ⟨CW xs.length Pv, ⟨xs.length, rfl, Nat.zero_le _, h0⟩, ?_⟩
  rintro i m τ H ⟨hm, hi, p⟩
  have q := hl i τ H hi p
  by_cases hlt : i < xs.length
  · refine .inr ⟨⟨xs, xs[i], q, by simp [hlt]⟩, fun x H' y => ?_⟩
    obtain ⟨e, y⟩ := y
    subst e
    exact hs i m x τ _ hm hlt (y xs q) p
  · have e : i = xs.length := by omega
    subst e
    exact .inl ⟨⟨xs, q, Nat.le_refl _⟩, hd τ H p⟩
theorem tyes_if {τ : St} {H : Hp} {A B : Hp -> Prop} (h : A H) : tYes τ H (fun b H3 => if b = true then A H3 else B H3) := by
  show (if true = true then A H else B H)
  rw [if_pos rfl]
  exact h
theorem ifT {c : Bool} {A B : Prop} (h : c = true) (a : A) : if c = true then A else B := by
  rw [if_pos h]
  exact a
theorem ifF {c : Bool} {A B : Prop} (h : c = false) (b : B) : if c = true then A else B := by
  rw [if_neg (by rw [h]; exact Bool.false_ne_true)]
  exact b
theorem bt_int : bootBuiltins "int" = some (.type "int") := by decide +kernel
theorem bt_bool : bootBuiltins "bool" = some (.type "bool") := by decide +kernel
theorem bt_list : bootBuiltins "list" = some (.type "list") := by decide +kernel
theorem bt_tuple : bootBuiltins "tuple" = some (.type "tuple") := by decide +kernel
theorem bt_len : bootBuiltins "len" = some (.builtin "len") := by decide +kernel
theorem bt_abs : bootBuiltins "abs" = some (.builtin "abs") := by decide +kernel
theorem bt_isinstance : bootBuiltins "isinstance" = some (.builtin "isinstance") := by decide +kernel
theorem bt_sum : bootBuiltins "sum" = some (.builtin "sum") := by decide +kernel
theorem bt_max : bootBuiltins "max" = some (.builtin "max") := by decide +kernel
theorem bt_sorted : bootBuiltins "sorted" = some (.builtin "sorted") := by decide +kernel
theorem bt_all : bootBuiltins "all" = some (.builtin "all") := by decide +kernel
def nodupB : List Str -> Bool
  | [] => true
  | x :: r => (r.all fun y => x != y) && nodupB r
theorem nd_of : ∀ {l : List Str}, nodupB l = true -> l.Nodup
  | [], _ => .nil
  | x :: r, h => by
    have h' : ((r.all fun y => x != y) && nodupB r) = true := h
    rw [Bool.and_eq_true, List.all_eq_true] at h'
    refine List.nodup_cons.mpr ⟨fun z => ?_, nd_of h'.2⟩
    have := h'.1 x z
    simp at this
structure Cal (P : Program) (w : World) (K : PySem.W.Frag) (mg : Str -> Option Value) (base : Heap) (n : Nat) (x : Str) (ps : List Str) (sp : Sp) (g : Addr) (gd : FuncData) : Prop where
  ok : FnOk P w K mg base CX0 n g gd ps sp
  bi : Binds K gd ps []
  kp : PySem.W.keepIn K (.ref g) = true
  at_ : mg x = some (.ref g)
theorem Cal.up {P : Program} {w : World} {K : PySem.W.Frag} {mg : Str -> Option Value} {base : Heap} {n m : Nat} {x : Str} {ps : List Str} {sp : Sp} {g : Addr} {gd : FuncData} (c : Cal P w K mg base n x ps sp g gd) (h : n <= m) : Cal P w K mg base m x ps sp g gd := ⟨c.ok.mono h, c.bi, c.kp, c.at_⟩
theorem pe_callC {X : Cx} {n : Nat} {x : Str} {ps : List Str} {sp : Sp} {g : Addr} {gd : FuncData} {p pos : Pos} {e : Expr} {es : List Expr} {t : TA} (c : Cal X.prog X.w X.K X.mg X.base n x ps sp g gd) (hr : Room n X.A) (ha : PA X (e :: es) t) (hg : Gl X x := by rfl)
    (hd : (x == ("__debug__" : Str)) = false := by decide) (he : starEach (e :: es) X.env = (false, eval e X.env) :: starEach es X.env := by rfl) (hpl : (backTo pos (starEach es X.env)).any (·.1) = false := by rfl) :
    PE X (.Call (.Name x p) (e :: es) [] pos) (tCall sp [] E0 t) := pe_call c.ok hr hg c.at_ c.kp c.bi .nil pass0 ha hd he hpl
theorem Same.tup {K : PySem.W.Frag} {H H' : Hp} {a : Addr} {xs : List V} (e : Same H H') (h : SqT K H a xs) : SqT K H' a xs := by
  rcases h with (h | ⟨o, h⟩) | h
  · exact .inl (.inl (e _ _ h))
  · exact .inl (.inr ⟨o, e _ _ h⟩)
  · exact .inr h
theorem same_new {H : Hp} {p : Addr} (h : H p = none) (o : HO) : Same H (upd H p o) := fun b u q => by rw [upd_ne (ne_of_none q h)]; exact q
theorem Same.upd_new {H H' : Hp} {p : Addr} (s : Same H H') (h : H p = none) (o : HO) : Same H (upd H' p o) := fun b u q => by rw [upd_ne (ne_of_none q h)]; exact s b u q
theorem atI_ints {L : List Int} {i : Int} (h0 : 0 <= i) (h1 : i < (L.length : Int)) : atI (L.map V.int) i = some (.int (L.getD i.toNat 0)) := by
  have hi : i.toNat < L.length := by omega
  have e : i = ((i.toNat : Nat) : Int) := by omega
  have q : atI (L.map V.int) ((i.toNat : Nat) : Int) = some (.int (L.getD i.toNat 0)) := atI_nat (by rw [List.getElem?_map, List.getElem?_eq_getElem hi, getD_at hi] <;> rfl)
  rw [<- e] at q
  exact q
end L2
namespace L2
open PySem PySem.Spec PyProof.Rows
section
variable {X : Cx} {pins : List (Addr × Obj)} {σ : St} {H : Hp} {s : Shared}
theorem Inv.track {a : Addr} {o : HO} (I : Inv X pins σ H s) (f : FpOk X pins H a) (hy : X.s₀.heap.objs.size <= a) (new : ObjOk X.prog X.w (upd H a o) s.heap a o) : Inv X pins σ (upd H a o) s := by
  obtain ⟨f0, f1, f2, f3, f4, f5⟩ := f
  have ne : ∀ b u, H b = some u -> b ≠ a := fun b u e => ne_of_none e f0
  refine ⟨I.ok, I.os, I.bare, ⟨I.base.keep, I.base.slot, fun b ob e n hx => ?_, I.base.there, fun b xs e => ?_, fun b ob u e => ?_, fun b ps e => ?_⟩, I.loc, I.cell, ?_, fun x c e => ?_, fun p hp => ?_, fun b u e => ?_, I.len⟩
  · rw [upd_ne (Nat.ne_of_lt (Nat.lt_of_lt_of_le (Heap.lt_size e) hy))]
    exact I.base.free b ob e n hx
  · have q := I.base.tups b xs e
    rw [upd_ne (ne _ _ q)]; exact q
  · have q := I.base.frzs b ob u e
    rw [upd_ne (ne _ _ q)]; exact q
  · obtain ⟨m, q⟩ := I.base.tbls b ps e
    exact ⟨m, by rw [upd_ne (ne _ _ q)]; exact q⟩
  · rw [upd_ne (Ne.symm f1)]; exact I.free
  · rw [upd_ne (f4 x c e)]; exact I.freeC x c e
  · obtain ⟨g1, g2, g3, g4, g5⟩ := I.pin p hp
    exact ⟨g1, by rw [upd_ne (f5 p hp)]; exact g2, g3, g4, g5⟩
  · by_cases hb : b = a
    · subst hb; rw [upd_same] at e; cases e; exact new
    · rw [upd_ne hb] at e
      exact (I.hok b u e).stay (fun _ _ _ q => q) (fun c q => by rw [upd_ne (ne _ _ q)]; exact q) fun c xs q => by rw [upd_ne (ne _ _ q)]; exact q
theorem FpOk.pin {b : Addr} {o : Obj} (f : FpOk X pins H b) (e : s.heap.get? b = some o) (d : ∀ v, o.data ≠ .cell v) : s.heap.get? b = some o /\ H b = none /\ b ≠ X.env.locals /\ b ∉ X.fs /\ ∀ v, o.data ≠ .cell v := ⟨e, f.1, f.2.1, f.2.2.1, d⟩
def KeyT (X : Cx) (pins : List (Addr × Obj)) (σ : St) (H : Hp) (A : Around) (f v : Value) (k : Int) : Prop :=
  ∀ (more : List (Addr × Obj)) (s : Shared), Inv X (pins ++ more) σ H s -> wpAny (model X.prog X.w) A (call f [v]) (fun r s' => (∃ t, r = Value.int k t) /\ Inv X (pins ++ more) σ H s') (fun _ _ => False) s
variable {A : Around} {E : Value -> Shared -> Prop} {P : PySem.Fin -> Shared -> Prop} {a kS : Addr} {b : Bool} {vs : List Value} {kz : List Int} {keys : Array Value} {e e1 : Nat} {f : Value}
theorem srt_tail {st : SortSt} (I : Inv X pins σ H s) (fk : FpOk X pins H kS) (fa : FpOk X pins H a) (hka : kS ≠ a) (ek : s.heap.get? kS = some (seqObj "list" keys e)) (ea : s.heap.get? a = some (seqObj "list" #[] e1))
    (hk : IntsAre keys.toList kz) (hlen : kz.length = vs.length) (h64 : vs.length < 64) (hp : (arrOf st).Perm (keys.zip vs.toArray)) (hs : SortedTo (arrOf st) (arrOf st).size) (hfl : failedOf st = none)
    (done : ∀ s' out c, Inv X pins σ H s' -> s'.heap.get? a = some (seqObj "list" out c) -> KskOut b kz vs out.toList -> P (.done (.ret .none)) s') :
    wpAny (model X.prog X.w) A (ksk_tail a b e1 (.ref kS) st) P E s := by
  have hsz : keys.size = vs.length := by
    have h1 := hk.length
    rw [Array.length_toList] at h1
    omega
  have hsz2 : (arrOf st).size = vs.length := by
    have z : (arrOf st).size = (keys.zip vs.toArray).size := hp.size_eq
    have z2 : (keys.zip vs.toArray).size = vs.length := by rw [Array.size_zip, hsz]; simp
    exact z.trans z2
  have ko := ksk_out (b := b) hk hp hs
  have hout : (if b = true then ((arrOf st).map (·.2)).reverse else (arrOf st).map (·.2)).size = vs.length := by
    cases b <;> simp [hsz2]
  generalize hO : (if b = true then ((arrOf st).map (·.2)).reverse else (arrOf st).map (·.2)) = out at ko hout
  have I1 : Inv X pins σ H { s with heap := s.heap.update kS (Obj.mapSeq fun _ => (#[] : Array Value)) } :=
    I.turned (t' := s.toks) (fun b o hb q => ((Heap.SameBut.update s.heap kS _).2 b hb).trans q) fk.1 fk.2.1 fk.2.2.2.1 fk.2.2.2.2.1 fk.2.2.2.2.2
  have ea1 : (s.heap.update kS (Obj.mapSeq fun _ => (#[] : Array Value))).get? a = some (seqObj "list" #[] e1) := ((Heap.SameBut.update s.heap kS _).2 a (Ne.symm hka)).trans ea
  have I2 : Inv X pins σ H { s with heap := (s.heap.update kS (Obj.mapSeq fun _ => (#[] : Array Value))).update a (Obj.mapSeq fun _ => out) } :=
    I1.turned (t' := s.toks) (fun b o hb q => ((Heap.SameBut.update _ a _).2 b hb).trans q) fa.1 fa.2.1 fa.2.2.2.1 fa.2.2.2.2.1 fa.2.2.2.2.2
  unfold ksk_tail
  dsimp only
  refine wpAny_bind (listUpdate_at ek rfl ?_ (by rw [hsz]; exact Nat.le_trans (Nat.le_of_lt h64) (by decide)) (Nat.zero_le _))
  refine wpAny_bind (wpAny_letGo ?_)
  refine wpAny_bind (seqEpoch_at ea1 rfl ?_)
  rw [hO]
  refine wpAny_bind (listUpdate_at ea1 rfl ?_ (Nat.zero_le _) (by rw [hout]; exact Nat.le_trans (Nat.le_of_lt h64) (by decide)))
  rw [hfl]
  simp only [bne_self_eq_false, Bool.false_eq_true, if_false]
  exact wpAny_pure (done _ out _ I2 (get?_update_seq ea1 fun _ => out) ko)
theorem srt_end (I : Inv X pins σ H s) (fk : FpOk X pins H kS) (fa : FpOk X pins H a) (hka : kS ≠ a) (ek : s.heap.get? kS = some (seqObj "list" keys e)) (ea : s.heap.get? a = some (seqObj "list" #[] e1))
    (hk : IntsAre keys.toList kz) (hlen : kz.length = vs.length) (h64 : vs.length < 64)
    (done : ∀ s' out c, Inv X pins σ H s' -> s'.heap.get? a = some (seqObj "list" out c) -> KskOut false kz vs out.toList -> P (.done (.ret .none)) s') :
    wpAny (model X.prog X.w) A (ksk_end a false vs.toArray e1 (.ref kS) keys) P E s := by
  have hsz : keys.size = vs.length := by
    have h1 := hk.length
    rw [Array.length_toList] at h1
    omega
  have hzs : (keys.zip vs.toArray).size = vs.length := by rw [Array.size_zip, hsz, List.size_toArray]; omega
  unfold ksk_end
  dsimp only
  simp only [Bool.false_eq_true, if_false]
  by_cases h2 : vs.toArray.size < 2
  · rw [if_pos h2, if_pos h2]
    refine wpAny_bind (wpAny_pure ?_)
    rw [StateT.run_pure]
    refine wpAny_bind (wpAny_pure ?_)
    refine srt_tail (st := SortSt.mk' general' (keys.zip vs.toArray) #[] 7 none) I fk fa hka ek ea hk hlen h64 (Array.Perm.refl _) (fun i j hij hj => ?_) rfl done
    have hj' : j < (keys.zip vs.toArray).size := hj
    rw [hzs] at hj'
    rw [List.size_toArray] at h2
    have z : i = j := by omega
    rw [z]
    exact Int.le_refl _
  · rw [if_neg h2, if_neg h2]
    rw [List.size_toArray] at h2
    rw [ksk_kind hk (by omega)]
    refine wpAny_bind (wpAny_pure ?_)
    refine wpAny_bind (wpAny_mono (wpS_sortRuns (a₀ := keys.zip vs.toArray) (st := SortSt.mk' oneType' (keys.zip vs.toArray) #[] 7 none)
      (Q := fun _ t => (arrOf t).Perm (keys.zip vs.toArray) /\ failedOf t = none /\ SortedTo (arrOf t) (keys.zip vs.toArray).size)
      (ksk_intKeys hk) ⟨Array.Perm.refl _, rfl, rfl, rfl⟩ (by omega) (by omega) fun t z1 z2 z3 => ⟨z1, z2, z3⟩) ?_ fun _ _ z => z)
    rintro ⟨⟨⟩, t⟩ s2 ⟨rfl, p1, p2, p3⟩
    exact srt_tail I fk fa hka ek ea hk hlen h64 p1 (by rw [p1.size_eq]; exact p3) p2 done
theorem srt_rest (I : Inv X pins σ H s) (fk : FpOk X pins H kS) (fa : FpOk X pins H a) (hka : kS ≠ a) (ek : s.heap.get? kS = some (seqObj "list" #[] 0)) (ea : s.heap.get? a = some (seqObj "list" #[] e1))
    (hlen : kz.length = vs.length) (h64 : vs.length < 64) (turn : ∀ (i : Nat) v k, vs[i]? = some v -> kz[i]? = some k -> KeyT X pins σ H A f v k)
    (done : ∀ s' out c, Inv X pins σ H s' -> s'.heap.get? a = some (seqObj "list" out c) -> KskOut false kz vs out.toList -> P (.done (.ret .none)) s') :
    wpAny (model X.prog X.w) A (ksk_rest a f false vs.toArray e1 (.ref kS)) P E s := by
  unfold ksk_rest
  refine wpAny_bind (wpAny_rule ?_)
  rw [List.forIn_toArray]
  refine wpAny_bind (ksk_fold (fun i s' => Inv X pins σ H s' /\ s'.heap.get? a = some (seqObj "list" #[] e1) /\ ∃ kA e, s'.heap.get? kS = some (seqObj "list" kA e) /\ IntsAre kA.toList (kz.take i)) vs 0 s ⟨I, ea, #[], 0, ek, by simpa using IntsAre.nil⟩ ?step ?fin)
  case step =>
    rintro j x s1 hx ⟨I1, ea1, kA, e, ek1, hk⟩
    rw [Nat.zero_add] at hk ⊢
    have hj : j < vs.length := (List.getElem?_eq_some_iff.mp hx).1
    have hkj : kz[j]? = some kz[j] := List.getElem?_eq_getElem (by omega)
    have hz : kA.size <= vs.length := by
      have h1 := hk.length
      rw [Array.length_toList, List.length_take] at h1
      omega
    have I2 : Inv X (pins ++ [(kS, seqObj "list" kA e), (a, seqObj "list" #[] e1)]) σ H s1 := I1.pins_of fun p hp => by
      rcases List.mem_append.mp hp with z | z
      · exact I1.pin p (List.mem_append_right _ z)
      · rcases List.mem_cons.mp z with z | z
        · subst z; exact fk.pin ek1 fun v q => nomatch q
        · rw [List.mem_singleton.mp z]; exact fa.pin ea1 fun v q => nomatch q
    refine wpAny_bind (wpAny_attempt (wpAny_mono (turn j x _ hx hkj _ s1 I2) (fun v s2 h2 => ?_) fun _ _ z => z.elim))
    obtain ⟨⟨t, rfl⟩, I3⟩ := h2
    have ek2 := (I3.pin (kS, seqObj "list" kA e) (List.mem_append_right _ (List.mem_append_right _ (.head _)))).1
    have ea2 := (I3.pin (a, seqObj "list" #[] e1) (List.mem_append_right _ (List.mem_append_right _ (.tail _ (.head _))))).1
    have I4 := I3.unpinned
    refine wpAny_bind (listUpdate_at ek2 rfl ?_ (Nat.le_trans hz (Nat.le_trans (Nat.le_of_lt h64) (by decide))) (Nat.le_trans (Nat.le_of_eq (Array.size_push ..)) (Nat.succ_le_succ (Nat.le_trans hz (Nat.le_trans (Nat.le_of_lt h64) (by decide))))))
    refine wpAny_pure ⟨rfl, I4.turned (t' := s2.toks) (fun b o hb q => ((Heap.SameBut.update s2.heap kS _).2 b hb).trans q) fk.1 fk.2.1 fk.2.2.2.1 fk.2.2.2.2.1 fk.2.2.2.2.2, ((Heap.SameBut.update s2.heap kS _).2 a (Ne.symm hka)).trans ea2, kA.push (.int kz[j] t), _, get?_update_seq ek2 (·.push (.int kz[j] t)), ?_⟩
    have q1 : kz.take (j + 1) = kz.take j ++ [kz[j]] := by rw [List.take_add_one, hkj]; rfl
    rw [q1, Array.toList_push]
    exact ksk_snoc hk
  case fin =>
    rintro s1 ⟨I1, ea1, kA, e, ek1, hk⟩
    have hk' : IntsAre kA.toList kz := by
      rw [Nat.zero_add, <- hlen, List.take_length] at hk
      exact hk
    exact wpAny_bind (listItems_at ek1 rfl (srt_end I1 fk fa hka ek1 ea1 hk' hlen h64 done))
end
end L2
namespace L2
open PySem PySem.Spec PyProof.Rows
section
variable {X : Cx} {pins : List (Addr × Obj)} {σ : St} {H : Hp} {s : Shared} {A : Around} {E : Value -> Shared -> Prop} {P : PySem.Fin -> Shared -> Prop} {a : Addr} {vs : List Value} {kz : List Int} {n : Nat} {f : Value}
theorem srt_tree (I : Inv X pins σ H s) (fa : FpOk X pins H a) (ea : s.heap.get? a = some (seqObj "list" vs.toArray n)) (hlen : kz.length = vs.length) (h64 : vs.length < 64)
    (turn : ∀ (i : Nat) v k, vs[i]? = some v -> kz[i]? = some k -> KeyT X pins σ H A f v k)
    (done : ∀ s' out c, Inv X pins σ H s' -> s'.heap.get? a = some (seqObj "list" out c) -> KskOut false kz vs out.toList -> P (.done (.ret .none)) s') :
    wpAny (model X.prog X.w) A (ksk_tree a f false) P E s := by
  have I1 : Inv X pins σ H { s with heap := s.heap.update a (Obj.mapSeq fun _ => (#[] : Array Value)) } :=
    I.turned (t' := s.toks) (fun b o hb q => ((Heap.SameBut.update s.heap a _).2 b hb).trans q) fa.1 fa.2.1 fa.2.2.2.1 fa.2.2.2.2.1 fa.2.2.2.2.2
  have ea1 := get?_update_seq ea fun _ => (#[] : Array Value)
  generalize hh : s.heap.update a (Obj.mapSeq fun _ => (#[] : Array Value)) = h1 at I1 ea1
  have I2 : Inv X pins σ H { s with heap := (h1.push (seqObj "tuple" vs.toArray 0)).push (seqObj "list" #[] 0) } :=
    I1.kept (t' := s.toks) fun b o q => Heap.get?_push_of_some _ (Heap.get?_push_of_some _ q)
  have hlt : a < h1.objs.size := Heap.lt_size ea1
  have hsz : (h1.push (seqObj "tuple" vs.toArray 0)).objs.size = h1.objs.size + 1 := size_push' _ _
  have h64' : vs.length <= sizeLine := Nat.le_trans (Nat.le_of_lt h64) (by decide)
  unfold ksk_tree
  refine wpAny_bind (listItems_at ea rfl ?_)
  refine wpAny_bind (listUpdate_at ea rfl ?_ (by rw [List.size_toArray]; exact h64') (Nat.zero_le _))
  rw [hh]
  refine wpAny_bind (seqEpoch_at (s := { s with heap := h1 }) ea1 rfl ?_)
  refine wpAny_bind (wpAny_newTuple ?_ (by simpa using h64'))
  refine wpAny_bind (wpAny_newList ?_ (Nat.zero_le _))
  refine wpAny_holding ?_
  refine srt_rest (s := { s with heap := (h1.push (seqObj "tuple" vs.toArray 0)).push (seqObj "list" #[] 0) }) (kS := (h1.push (seqObj "tuple" vs.toArray 0)).objs.size) I2 ?_ fa ?_ (Heap.get?_push_size _ rfl) (Heap.get?_push_of_some _ (Heap.get?_push_of_some _ ea1)) hlen h64 turn done
  · exact I1.fpOk (by rw [hsz]; exact Nat.le_succ _) (I1.hok.fresh (by rw [hsz]; exact Nat.le_succ _))
  · rw [hsz]
    exact Nat.ne_of_gt (Nat.lt_succ_of_lt hlt)
def adr : Value -> Addr
  | .ref a => a
  | _ => 0
theorem vals_refs : ∀ {qs : List Addr} {vs : List Value}, Vals (qs.map V.ref) vs -> vs = qs.map Value.ref
  | [], _, h => by cases h; rfl
  | q :: qs, _, h => by
    cases h with
    | cons r t => rw [vals_refs t, show _ = Value.ref q from r]; rfl
theorem refs_vals : ∀ (qs : List Addr), Vals (qs.map V.ref) (qs.map Value.ref)
  | [] => .nil
  | q :: qs => .cons rfl (refs_vals qs)
theorem kout_refs {kz : List Int} {qs : List Addr} {out : List Value} (h : KskOut false kz (qs.map Value.ref) out) : ∃ ps : List (Int × Addr), ps.Perm (kz.zip qs) /\ out = ps.map (fun p => Value.ref p.2) /\ ps.Pairwise (fun p q => p.1 <= q.1) := by
  obtain ⟨ps, hp, ho, hs⟩ := h
  have e0 : kz.zip (qs.map Value.ref) = (kz.zip qs).map fun p => (p.1, Value.ref p.2) := by rw [List.zip_map_right]; exact List.map_congr_left fun ⟨x, y⟩ _ => rfl
  rw [e0] at hp
  have mem : ∀ p ∈ ps, p.2 = Value.ref (adr p.2) := fun p hm => by
    obtain ⟨q, _, rfl⟩ := List.mem_map.mp (hp.mem_iff.mp hm)
    rfl
  refine ⟨ps.map fun p => (p.1, adr p.2), ?_, ?_, ?_⟩
  · have z := hp.map fun p => (p.1, adr p.2)
    rw [List.map_map] at z
    have e1 : (kz.zip qs).map ((fun p => (p.1, adr p.2)) ∘ fun p => (p.1, Value.ref p.2)) = kz.zip qs := by
      conv => rhs; rw [<- List.map_id (kz.zip qs)]
      exact List.map_congr_left fun ⟨x, y⟩ _ => rfl
    rw [e1] at z
    exact z
  · rw [ho, List.map_map]
    exact List.map_congr_left fun p hm => mem p hm
  · rw [List.pairwise_map]
    exact hs
theorem srt_call {l fa : Addr} {qs : List Addr} {Q : VK} (I : Inv X pins σ H s) (hS : SqL X.K H l (qs.map V.ref)) (hlen : kz.length = qs.length) (h64 : qs.length < 64)
    (turn : ∀ (i : Nat) q k, qs[i]? = some q -> kz[i]? = some k -> KeyT X pins σ H X.A.in1.in1 (.ref fa) (.ref q) k)
    (done : ∀ D (ps : List (Int × Addr)), H D = none -> ps.Perm (kz.zip qs) -> ps.Pairwise (fun p q => p.1 <= q.1) -> Q (.ref D) (upd H D (.lst (ps.map fun p => V.ref p.2)))) :
    wpAny (model X.prog X.w) X.A (call (.builtin "sorted") [.ref l] [(Str.ofString "key", .ref fa)]) (EP X pins σ Q) E s := by
  obtain ⟨its, rv, pl, hz⟩ := I.list hS
  have ei := vals_refs rv
  subst ei
  have hl64 : (qs.map Value.ref).length < 64 := by rw [List.length_map]; exact h64
  have h64' : (qs.map Value.ref).length <= sizeLine := Nat.le_trans (Nat.le_of_lt hl64) (by decide)
  refine call_function_entry_kw kind_sorted plain_sorted entry_sorted (ksk_s1 _ _) ?_
  unfold Builtin.«sorted»
  refine wpAny_bind (m := checkCount "sorted" 1 1 _) (wpAny_pure ?_)
  refine wpAny_bind (collect_list pl.isList ?_ h64')
  refine wpAny_bind (wpAny_newList ?_ h64')
  have up : ∀ b o, s.heap.get? b = some o -> ((s.heap.push (seqObj "list" #[] 0)).update s.heap.objs.size (Obj.mapSeq (· ++ (qs.map Value.ref).toArray))).get? b = some o := fun b o q =>
    ((Heap.SameBut.update (s.heap.push (seqObj "list" #[] 0)) s.heap.objs.size _).2 b (Nat.ne_of_lt (Heap.lt_size q))).trans (Heap.get?_push_of_some _ q)
  have hsz : ((s.heap.push (seqObj "list" #[] 0)).update s.heap.objs.size (Obj.mapSeq (· ++ (qs.map Value.ref).toArray))).objs.size = s.heap.objs.size + 1 := by rw [Heap.size_update, size_push']
  generalize (s.heap.push (seqObj "list" #[] 0)).update s.heap.objs.size (Obj.mapSeq (· ++ (qs.map Value.ref).toArray)) = h1 at up hsz
  have I1 : Inv X pins σ H { s with heap := h1.push (seqObj "list" (qs.map Value.ref).toArray 0) } := I.kept (t' := s.toks) fun b o q => Heap.get?_push_of_some _ (up b o q)
  have fr : H h1.objs.size = none := I.hok.fresh (by rw [hsz]; exact Nat.le_succ _)
  have fp : FpOk X pins H h1.objs.size := I.fpOk (by rw [hsz]; exact Nat.le_succ _) fr
  have yo : X.s₀.heap.objs.size <= h1.objs.size := Nat.le_trans I.sz (by rw [hsz]; exact Nat.le_succ _)
  have ea : (h1.push (seqObj "list" (qs.map Value.ref).toArray 0)).get? h1.objs.size = some (seqObj "list" (qs.map Value.ref).toArray 0) := Heap.get?_push_size _ rfl
  refine wpAny_bind (wpAny_holding (wpAny_call_entry_kw PyProof.Rows.slot_list_sort ⟨_, ea, rfl⟩ PyProof.Rows.entry_list_sort ?body (ksk_l1 _ _)))
  case body =>
    show wpAny (model X.prog X.w) X.A.in1.in1 (Builtin.«list.sort» ⟨[.ref h1.objs.size], [(Str.ofString "key", .ref fa)]⟩) _ _ _
    rw [ksk_t1]
    refine srt_tree (kz := kz) (s := { s with heap := h1.push (seqObj "list" (qs.map Value.ref).toArray 0) }) I1 fp ea (by rw [List.length_map]; exact hlen) hl64 (fun i v k hv hk => ?_) fun s2 out c I2 e2 ko => ⟨_, rfl, ?_⟩
    · rw [List.getElem?_map] at hv
      cases eq : qs[i]? with
      | none => rw [eq] at hv; cases hv
      | some q =>
        rw [eq] at hv
        cases hv
        exact turn i q k eq hk
    · obtain ⟨ps, hp, ho, hs⟩ := kout_refs ko
      have hpl : ps.length = qs.length := by
        rw [hp.length_eq, List.length_zip, hlen, Nat.min_self]
      refine wpAny_pure ⟨_, rfl, .ref h1.objs.size, _, I2.track (o := .lst (ps.map fun p => V.ref p.2)) fp yo ⟨?_, out.toList, c, ?_, ?_⟩, rfl, done _ ps fr hp hs⟩
      · rw [List.length_map, hpl]
        exact Nat.le_trans (Nat.le_of_lt h64) (by decide)
      · rw [ho]
        have z := refs_vals (ps.map Prod.snd)
        rw [List.map_map, List.map_map] at z
        exact z
      · rw [Array.toArray_toList]
        exact e2
end
end L2
namespace L2
open PySem PySem.Spec PyProof.Rows
def cxLam (X : Cx) (A : Around) (p : Str) (M : List Str) (scope : Scope) (qual : Str) (f c' : Addr) (s : Shared) (H : Hp) : Cx where
  prog := X.prog
  w := X.w
  K := X.K
  mg := X.mg
  base := X.base
  A := A.deeper (PySem.W.envX qual scope s.heap.objs.size f (.ref c') (closL X.env scope.names []))
  N := p :: M
  s₀ := s
  H₀ := H
  env := PySem.W.envX qual scope s.heap.objs.size f (.ref c') (closL X.env scope.names [])
  outer := X.stack
  stack := PySem.W.envX qual scope s.heap.objs.size f (.ref c') (closL X.env scope.names []) :: X.stack
  ex := []
  fn := fun _ => false
  calm := true
  pn := []
  xe := fun _ _ => False
abbrev CodeO (c' : Addr) (qual : Str) : HO := .ext fun h => h.CodeRec (.ref c') qual
section
variable {X : Cx} {pins : List (Addr × Obj)} {σ : St} {H : Hp} {A : Around} {p qual : Str} {M : List Str} {scope : Scope} {params : Arguments} {body : Expr} {pm ctv : Value} {c' f : Addr} {te : TE}
theorem lam_key (hA : A.frames = some X.stack) (hd : A.handled = none) (hdep : A.depth < recursionLimit) (S : CompOk X.env.scope scope) (nl : NL X.N M scope) (hp : scope.names.lookup p = some .local)
    (hco : scope.isCoroutine = false) (hgen : scope.isGenerator = false) (hbind : ∀ (cl : List (Str × Addr)) (pm cdv ctv u : Value), bindArgs (PySem.W.kla_fn "<lambda>" qual params body scope cl pm cdv ctv) ⟨[u], []⟩ = pure [(p, u)])
    (hb : ∀ f c' s H, PE (cxLam X A p M scope qual f c' s H) body te) {x : V} {u : Value} {k : Int} (rx : RelV x u) (hf : (f, PySem.W.kla_obj "<lambda>" qual params body scope (closL X.env scope.names []) pm c' ctv) ∈ pins)
    (hcr : H c' = some (CodeO c' qual)) (h : te (some x :: σ) H fun r H' => r = .int k /\ H' = H) : KeyT X pins σ H A (.ref f) u k := by
  intro more s I
  have hcd : s.heap.CodeRec (.ref c') qual := (I.hok c' _ hcr).1
  have ho := (I.pin _ (List.mem_append_right _ (List.mem_append_left _ hf))).1
  have sub : ∀ x a, (closL X.env scope.names []).lookup x = some a -> X.env.cells.lookup x = some a := fun x a e => by
    rcases closL_mem _ _ _ (PySem.mem_of_lookup e) with z | z
    · exact absurd z (by simp)
    · exact z
  have kin : ∀ x, scope.names.lookup x = some .free -> X.env.kindOf x = some .cell ∨ X.env.kindOf x = some .free := fun x e => S.free (x, .free) (PySem.mem_of_lookup e) rfl
  have has : ∀ x a, scope.names.lookup x = some .free -> X.env.cells.lookup x = some a -> (closL X.env scope.names []).lookup x = some a := fun x a e ec => by
    obtain ⟨d, hd⟩ := lookup_of_mem (closL_has ec scope.names [] (PySem.mem_of_lookup e))
    have := sub x d hd
    rw [ec] at this
    cases this
    exact hd
  have nocell : ∀ x, scope.names.lookup x ≠ some .cell := fun x e => S.nocell _ (PySem.mem_of_lookup e) rfl
  refine wpAny_call (PySem.W.kla_callFunE hdep ho rfl hco hgen rfl hcd ?_)
  rw [hbind]
  refine wpAny_pure (wpAny_newFunctionEnv S.nocell (fun y hy => ?_) (fun h₁ hns hsb => ⟨?_, ?_⟩) S.kind)
  · rw [List.mem_singleton.mp hy]; exact hp
  · exact I.nolimit.keeps fun b o e => hsb.extBut b o (Nat.ne_of_lt (Heap.lt_size e)) (Heap.get?_push_of_some _ e)
  have old : ∀ b o, s.heap.get? b = some o -> h₁.get? b = some o := fun b o e => hsb.extBut b o (Nat.ne_of_lt (Heap.lt_size e)) (Heap.get?_push_of_some _ e)
  have okY : (cxLam X A p M scope qual f c' s H).Ok := by
    refine ⟨I.ok.mod, S.kind, rfl, rfl, Nat.le_refl _, fun x y a h1 h2 => I.ok.inj x y a (sub x a h1) (sub y a h2), fun x hx => ?_, (fun x a h => nomatch h), fun _ => hd, Around.frames_deeper hA, .inr ⟨rfl, rfl⟩, (fun b hb' => nomatch hb'),
      I.bs, Nat.le_trans I.ok.bsz I.sz, (fun b o e hb' => nomatch hb'), (fun b hb' => nomatch hb'), I.stack, I.stkFree⟩
    have hf : scope.names.lookup x = some .free := by
      rcases hx with hx | hx
      · exact absurd hx (nocell x)
      · exact hx
    obtain ⟨a, ea⟩ := I.ok.has x (kin x hf)
    exact ⟨a, has x a hf ea⟩
  have IY : Inv (cxLam X A p M scope qual f c' s H) [] (some x :: σ) H { s with heap := h₁, toks := s.toks + [(p, u)].length } := by
    refine ⟨okY, rfl, I.bare, Un.kept old, ⟨_, hns, fun i y v e1 e2 e3 => ?_⟩, fun y a e => ?_, I.hok.fresh (Nat.le_refl _), fun y a e => I.freeC y a (sub y a e), (fun q hq => nomatch hq), I.hok.kept old, ?_⟩
    · cases i with
      | zero =>
        have e1' : some p = some y := e1
        have e2' : some (some x) = some (some v) := e2
        cases e1'
        cases e2'
        refine ⟨u, rx, .inl ⟨hp, ?_⟩⟩
        show List.lookup p [(p, u)] = some u
        simp
      | succ i =>
        have e0 : M[i]? = some y := e1
        have e2' : σ[i]? = some (some v) := e2
        have hf : scope.names.lookup y = some .free := by
          rcases e3 with e3 | e3 | e3
          · exact absurd e3 (nl.loc _ y e0)
          · exact absurd e3 (nocell y)
          · exact e3
        have hk := kin y hf
        obtain ⟨m, hn, hl⟩ := I.loc
        obtain ⟨z, rz, lk⟩ := hl i y v (nl.free _ y e0 hf) e2' (hk.elim (fun z => .inr (.inl z)) fun z => .inr (.inr z))
        refine ⟨z, rz, .inr ⟨.inr hf, ?_⟩⟩
        rcases lk with ⟨q, _⟩ | ⟨_, a, ea, o, eo, hdd⟩
        · rcases hk with hk | hk <;> (rw [hk] at q; cases q)
        · exact ⟨a, has y a hf ea, o, old a o eo, hdd⟩
    · obtain ⟨v, o, eo, hdd⟩ := I.cell y a (sub y a e)
      exact ⟨v, o, old a o eo, hdd⟩
    · show σ.length + 1 = M.length + 1
      rw [I.len, nl.len]
  refine PySem.W.kla_codeExpr (wpAny_mono (hb f c' s H [] _ (some x :: σ) H _ IY h) (fun r s2 h2 => ?_) fun _ _ z => z.elim)
  obtain ⟨v, H2, J, rv, hv, hH⟩ := h2
  subst hv hH
  exact ⟨rv, I.call' (ch := []) J.os J.base J.hok J.bare (fun b hb' => nomatch hb')⟩
end
end L2
namespace L2
open PySem PySem.Spec PyProof.Rows
def tbN (pos : Pos) (c' : Addr) : Array Value := #[rawInt pos.line, rawInt pos.col, .ref c']
def Hit (P : Addr) (pos : Pos) (qual : Str) (c' : Addr) (H : Hp) : Prop := H P = some (.tbl (tbN pos c')) /\ H c' = some (CodeO c' qual)
def TbOk (P : Addr) (pos : Pos) (qual : Str) (H : Hp) : Prop := H P = some (.tbl #[]) ∨ ∃ c', Hit P pos qual c' H
def SameT (P : Addr) (H H' : Hp) : Prop := ∀ b o, b ≠ P -> H b = some o -> H' b = some o
theorem SameT.refl {P : Addr} (H : Hp) : SameT P H H := fun _ _ _ e => e
theorem SameT.trans {P : Addr} {H H1 H2 : Hp} (a : SameT P H H1) (b : SameT P H1 H2) : SameT P H H2 := fun c o n e => b c o n (a c o n e)
theorem Same.toT {P : Addr} {H H' : Hp} (a : Same H H') : SameT P H H' := fun b o _ e => a b o e
theorem SameT.free {P : Addr} {H H' : Hp} (a : SameT P H H') {l : Addr} (h : H' l = none) (hP : ∃ ps, H' P = some (.tbl ps)) : H l = none := by
  cases q : H l with
  | none => rfl
  | some o =>
    by_cases e : l = P
    · obtain ⟨ps, z⟩ := hP
      rw [e, z] at h; cases h
    · rw [a l o e q] at h; cases h
theorem SameT.upd_new {P : Addr} {H H' : Hp} {p : Addr} (s : SameT P H H') (h : H p = none) (o : HO) : SameT P H (upd H' p o) := fun b u n q => by rw [upd_ne (ne_of_none q h)]; exact s b u n q
theorem TbOk.at_ {P : Addr} {pos : Pos} {qual : Str} {H : Hp} (t : TbOk P pos qual H) : ∃ ps, H P = some (.tbl ps) := by
  rcases t with t | ⟨c, t, _⟩
  · exact ⟨_, t⟩
  · exact ⟨_, t⟩
theorem SameT.get {P : Addr} {pos : Pos} {qual : Str} {H H' : Hp} (a : SameT P H H') (t : TbOk P pos qual H) {b : Addr} {o : HO} (e : H b = some o) (n : ∀ ps, o ≠ .tbl ps) : H' b = some o := by
  obtain ⟨ps, z⟩ := t.at_
  exact a b o (ne_of e z (n ps)) e
theorem TbOk.same {P : Addr} {pos : Pos} {qual : Str} {H H' : Hp} (t : TbOk P pos qual H) (s : Same H H') : TbOk P pos qual H' := by
  rcases t with t | ⟨c, t, u⟩
  · exact .inl (s _ _ t)
  · exact .inr ⟨c, s _ _ t, s _ _ u⟩
theorem SameT.lst {K : PySem.W.Frag} {P : Addr} {pos : Pos} {qual : Str} {H H' : Hp} (a : SameT P H H') (t : TbOk P pos qual H) {b : Addr} {xs : List V} (h : SqL K H b xs) : SqL K H' b xs := by
  rcases h with (h | ⟨o, h⟩) | h
  · exact .inl (.inl (a.get t h fun _ z => nomatch z))
  · exact .inl (.inr ⟨o, a.get t h fun _ z => nomatch z⟩)
  · exact .inr h
theorem bat_keeps {h h' : Heap} {mg : Str -> Option Value} {P : Addr} (b : h.BuiltinsAt mg P) (k : ∀ a o, h.get? a = some o -> h'.get? a = some o) : h'.BuiltinsAt mg P := by
  obtain ⟨bm, o, b1, b2, b3, b4, b5, b6⟩ := b
  exact ⟨bm, o, b1, b2, b3, b4, k _ _ b5, b6⟩
theorem codeO_stable {c' : Addr} {qual : Str} : ∀ h1 h2 : Heap, h1.CodeRec (.ref c') qual -> (∀ o, h1.get? c' = some o -> h2.get? c' = some o) -> h2.CodeRec (.ref c') qual := fun h1 h2 ⟨c, oc, vs, t, e, g, r⟩ k => by
  cases e
  exact ⟨_, oc, vs, t, rfl, k _ g, r⟩
section
variable {X : Cx} {pins : List (Addr × Obj)} {σ : St} {H : Hp} {s : Shared} {E : Value -> Shared -> Prop} {c P : Addr} {pos : Pos} {params : Arguments} {body : Expr} {scope : Scope} {Q : Value -> Shared -> Prop}
theorem lam_made (I : Inv X pins σ H s) (hcode : X.env.code = .ref c) (C : PySem.W.CodeHd X.base c P) (B : X.base.BuiltinsAt X.mg P) (T : TbOk P pos (X.env.qual ++ "<lambda>") H) (S : CompOk X.env.scope scope) (hdef : defaultsOf params X.env = ([], []))
    (q : ∀ f c' pm ctv H' s', SameT P H H' -> Hit P pos (X.env.qual ++ "<lambda>") c' H' -> Inv X (pins ++ [(f, PySem.W.kla_obj "<lambda>" (X.env.qual ++ "<lambda>") params body scope (closL X.env scope.names []) pm c' ctv)]) σ H' s' -> Q (.ref f) s') :
    wpAny (model X.prog X.w) X.A (eval (.Lambda params body scope pos) X.env) Q E s := by
  have hcl := closOk S I.ok
  have hg := I.ok.mod.glob.keeps I.bk
  have hB := bat_keeps B I.bk
  obtain ⟨ps0, hP0⟩ := T.at_
  have hgP : mainGlobals ≠ P := fun z => by
    obtain ⟨o, es, ep, e, _⟩ := I.ok.mod.glob
    have := (I.bs _ o e).2
    rw [z, hP0] at this
    cases this
  refine PySem.W.kla_eval hdef ?_
  rcases T with T | ⟨c', T, U⟩
  · have hP : s.heap.get? P = some (PySem.W.tabObj #[]) := I.hok P _ T
    refine PySem.W.kla_makeFunction (mg := X.mg) hcl I.ok.glob hg hcode (C.keeps I.bk) hP trivial rfl hgP hB fun c' ctv h' tk hx hge hlt hrec htb => ?_
    have cn : H c' = none := I.hok.fresh hge
    have cP : c' ≠ P := Ne.symm (ne_of_none T cn)
    have new1 : ∀ b o, b ≠ P -> s.heap.get? b = some o -> (h'.push (PySem.W.kla_obj "<lambda>" (X.env.qual ++ "<lambda>") params body scope (closL X.env scope.names []) ((X.mg "__name__").getD .none) c' ctv)).get? b = some o := fun b o hb e => Heap.get?_push_of_some _ (hx b o hb e)
    have nP : ∀ b, H b = none -> b ≠ P := fun b n z => by rw [z, T] at n; cases n
    have ups : ∀ b u, H b = some u -> (∀ ps, u ≠ .tbl ps) -> upd (upd H P (.tbl (tbN pos c'))) c' (CodeO c' (X.env.qual ++ "<lambda>")) b = some u := fun b u e nt => by
      rw [upd_ne (ne_of_none e cn), upd_ne (ne_of e T (nt _))]; exact e
    have hfresh : H h'.objs.size = none := I.hok.fresh (Nat.le_trans hge (Nat.le_of_lt hlt))
    have I1 : Inv X pins σ (upd (upd H P (.tbl (tbN pos c'))) c' (CodeO c' (X.env.qual ++ "<lambda>"))) { s with heap := h'.push (PySem.W.kla_obj "<lambda>" (X.env.qual ++ "<lambda>") params body scope (closL X.env scope.names []) ((X.mg "__name__").getD .none) c' ctv), toks := tk } := by
      refine I.un (t' := tk) ⟨fun b o e n _ _ => new1 b o (nP b n) e, fun b o e n _ _ => ⟨o.slots, new1 b o (nP b n) e⟩, fun b o e n _ => ?_, fun b o e _ => ?_, fun b xs e => ups b _ e (fun _ z => nomatch z), fun b o u e => ups b _ e (fun _ z => nomatch z), fun b ps e => ?_⟩ fun b u e => ?_
      · rw [upd_ne (Nat.ne_of_lt (Nat.lt_of_lt_of_le (Heap.lt_size e) hge)), upd_ne (nP b n)]; exact n
      · by_cases z : b = P
        · rw [z]; exact ⟨_, Heap.get?_push_of_some _ htb⟩
        · exact ⟨o, new1 b o z e⟩
      · by_cases z : b = P
        · rw [z, T] at e
          cases e
          refine ⟨tbN pos c', ?_⟩
          rw [z, upd_ne (Ne.symm cP), upd_same]
          simp
        · exact ⟨#[], by rw [upd_ne (ne_of_none e cn), upd_ne z, e]; simp⟩
      · by_cases z : b = c'
        · subst z
          rw [upd_same] at e
          cases e
          obtain ⟨c2, oc, vs, t, e2, g2, r2⟩ := hrec
          cases e2
          exact ⟨⟨_, oc, vs, t, rfl, Heap.get?_push_of_some _ g2, r2⟩, ⟨oc, Heap.get?_push_of_some _ g2⟩, codeO_stable⟩
        · rw [upd_ne z] at e
          by_cases z2 : b = P
          · subst z2
            rw [upd_same] at e
            cases e
            have q2 := Heap.get?_push_of_some (PySem.W.kla_obj "<lambda>" (X.env.qual ++ "<lambda>") params body scope (closL X.env scope.names []) ((X.mg "__name__").getD .none) c' ctv) htb
            rw [Array.empty_append] at q2
            exact q2
          · rw [upd_ne z2] at e
            refine (I.hok b u e).stay (fun d v hd r => new1 d v ?_ r) (fun d r => ups d _ r fun _ z => nomatch z) fun d xs r => ups d _ r fun _ z => nomatch z
            rcases hd with z3 | z3
            · rw [z3]; exact z2
            · exact ne_of z3 T fun z => nomatch z
    refine q _ c' ((X.mg "__name__").getD .none) ctv _ _ (fun b o n e => ?_) ⟨?_, upd_same⟩ (I1.pins_of fun p hp => ?_)
    · rw [upd_ne (ne_of_none e cn), upd_ne n]; exact e
    · rw [upd_ne (Ne.symm cP), upd_same]
    · rcases List.mem_append.mp hp with z | z
      · exact I1.pin p (List.mem_append_right _ z)
      · rw [List.mem_singleton.mp z]
        have fp := I.fpOk (H' := upd (upd H P (.tbl (tbN pos c'))) c' (CodeO c' (X.env.qual ++ "<lambda>"))) (b := h'.objs.size) (Nat.le_trans hge (Nat.le_of_lt hlt)) (by rw [upd_ne (Nat.ne_of_gt hlt), upd_ne (nP _ hfresh)]; exact hfresh)
        exact ⟨Heap.get?_push_size _ rfl, fp.1, fp.2.1, fp.2.2.1, fun v z => nomatch z⟩
  · have hP : s.heap.get? P = some (PySem.W.tabObj (tbN pos c')) := I.hok P _ T
    have am : codeAmong pos (tbN pos c').toList = some (.ref c') := by
      show codeAmong pos [rawInt pos.line, rawInt pos.col, .ref c'] = some (.ref c')
      simp [codeAmong, rawInt]
    refine PySem.W.kla_makeFunctionHit (mg := X.mg) hcl I.ok.glob hg hcode (C.keeps I.bk) hP trivial am hB fun ctv h' tk hk hsz => ?_
    have I1 : Inv X pins σ H { s with heap := h'.push (PySem.W.kla_obj "<lambda>" (X.env.qual ++ "<lambda>") params body scope (closL X.env scope.names []) ((X.mg "__name__").getD .none) c' ctv), toks := tk } := I.kept (t' := tk) fun b o e => Heap.get?_push_of_some _ (hk b o e)
    refine q _ c' ((X.mg "__name__").getD .none) ctv H _ (SameT.refl H) ⟨T, U⟩ (I1.pins_of fun p hp => ?_)
    rcases List.mem_append.mp hp with z | z
    · exact I1.pin p (List.mem_append_right _ z)
    · rw [List.mem_singleton.mp z]
      have fp := I.fpOk (H' := H) (b := h'.objs.size) hsz (I.hok.fresh hsz)
      exact ⟨Heap.get?_push_size _ rfl, fp.1, fp.2.1, fp.2.2.1, fun v z => nomatch z⟩
end
end L2
namespace L2
open PySem PySem.Spec PyProof.Rows
def tSortK (K : PySem.W.Frag) (P : Addr) (pos : Pos) (qual : Str) (tl tb : TE) : TE := fun σ H Q => tl σ H fun x H1 => ∃ (l : Addr) (qs : List Addr) (kz : List Int), x = .ref l /\ SqL K H1 l (qs.map V.ref) /\ kz.length = qs.length /\ qs.length < 64 /\ TbOk P pos qual H1 ∧
  ∀ H2 c', SameT P H1 H2 -> Hit P pos qual c' H2 -> (∀ (i : Nat) q k, qs[i]? = some q -> kz[i]? = some k -> tb (some (.ref q) :: σ) H2 fun r H' => r = .int k /\ H' = H2) ∧
    ∀ D (ps : List (Int × Addr)), H2 D = none -> ps.Perm (kz.zip qs) -> ps.Pairwise (fun p q => p.1 <= q.1) -> Q (.ref D) (upd H2 D (.lst (ps.map fun p => V.ref p.2)))
theorem pe_sortK {X : Cx} {c P : Addr} {k : Nat} {p : Str} {M : List Str} {scope : Scope} {params : Arguments} {body e : Expr} {p0 pos lpos kpos : Pos} {tl tb : TE} (hr : Room k X.A) (hc : X.calm = true) (hg : Gl X "sorted") (hm : X.mg "sorted" = none)
    (hcode : X.env.code = .ref c) (C : PySem.W.CodeHd X.base c P) (B : X.base.BuiltinsAt X.mg P) (S : CompOk X.env.scope scope) (nl : NL X.N M scope) (hp : scope.names.lookup p = some .local) (hco : scope.isCoroutine = false) (hgen : scope.isGenerator = false)
    (he : PE X e tl) (hb : ∀ A f c' s H, PE (cxLam X A p M scope (X.env.qual ++ "<lambda>") f c' s H) body tb)
    (hdef : defaultsOf params X.env = ([], []) := by rfl)
    (hbind : ∀ (cl : List (Str × Addr)) (pm cdv ctv u : Value), bindArgs (PySem.W.kla_fn "<lambda>" (X.env.qual ++ "<lambda>") params body scope cl pm cdv ctv) ⟨[u], []⟩ = pure [(p, u)] := by intro _ _ _ _ _; rfl)
    (hs : starEach [e] X.env = [(false, eval e X.env)] := by rfl) :
    PE X (.Call (.Name "sorted" p0) [e] [⟨some "key", .Lambda params body scope lpos, kpos⟩] pos) (tSortK X.K P lpos (X.env.qual ++ "<lambda>") tl tb) := by
  intro pins s σ H Q I h
  refine wpAny_Call_Name_kw (ld_blt I hg hm bt_sorted ?_ (by decide) (by decide))
  refine callWith_kw (thn (pa_cons he pa_nil hs pos pins s σ H (fun vs H1 => ∃ x, vs = [x] /\ ∃ (l : Addr) (qs : List Addr) (kz : List Int), x = .ref l /\ SqL X.K H1 l (qs.map V.ref) /\ kz.length = qs.length /\ qs.length < 64 /\ TbOk P lpos (X.env.qual ++ "<lambda>") H1 ∧
    ∀ H2 c', SameT P H1 H2 -> Hit P lpos (X.env.qual ++ "<lambda>") c' H2 -> (∀ (i : Nat) q k, qs[i]? = some q -> kz[i]? = some k -> tb (some (.ref q) :: σ) H2 fun r H' => r = .int k /\ H' = H2) ∧
      ∀ D (ps : List (Int × Addr)), H2 D = none -> ps.Perm (kz.zip qs) -> ps.Pairwise (fun p q => p.1 <= q.1) -> Q (.ref D) (upd H2 D (.lst (ps.map fun p => V.ref p.2)))) I ?_) fun us s1 ⟨vs, H1, I1, r1, x, ev, l, qs, kz, ex, hS, hlen, h64, hT, q1⟩ => ?_) ?_ ?_ rfl rfl
  · show tl σ H fun x H1 => _
    have mono := h
    exact (show tl σ H fun x H1 => ∃ x', [x] = [x'] /\ _ from by
      have e1 : (fun (x : V) (H1 : Hp) => ∃ x', [x] = [x'] /\ ∃ (l : Addr) (qs : List Addr) (kz : List Int), x' = .ref l /\ SqL X.K H1 l (qs.map V.ref) /\ kz.length = qs.length /\ qs.length < 64 /\ TbOk P lpos (X.env.qual ++ "<lambda>") H1 ∧
    ∀ H2 c', SameT P H1 H2 -> Hit P lpos (X.env.qual ++ "<lambda>") c' H2 -> (∀ (i : Nat) q k, qs[i]? = some q -> kz[i]? = some k -> tb (some (.ref q) :: σ) H2 fun r H' => r = .int k /\ H' = H2) ∧
      ∀ D (ps : List (Int × Addr)), H2 D = none -> ps.Perm (kz.zip qs) -> ps.Pairwise (fun p q => p.1 <= q.1) -> Q (.ref D) (upd H2 D (.lst (ps.map fun p => V.ref p.2)))) = fun x H1 => ∃ (l : Addr) (qs : List Addr) (kz : List Int), x = .ref l /\ SqL X.K H1 l (qs.map V.ref) /\ kz.length = qs.length /\ qs.length < 64 /\ TbOk P lpos (X.env.qual ++ "<lambda>") H1 ∧
    ∀ H2 c', SameT P H1 H2 -> Hit P lpos (X.env.qual ++ "<lambda>") c' H2 -> (∀ (i : Nat) q k, qs[i]? = some q -> kz[i]? = some k -> tb (some (.ref q) :: σ) H2 fun r H' => r = .int k /\ H' = H2) ∧
      ∀ D (ps : List (Int × Addr)), H2 D = none -> ps.Perm (kz.zip qs) -> ps.Pairwise (fun p q => p.1 <= q.1) -> Q (.ref D) (upd H2 D (.lst (ps.map fun p => V.ref p.2))) := by
        funext x H1
        refine propext ⟨?_, ?_⟩
        · rintro ⟨x', z, r⟩
          injection z with z
          subst z
          exact r
        · intro r
          exact ⟨x, rfl, r⟩
      rw [e1]
      exact mono)
  · subst ev ex
    obtain ⟨u, rfl, ru⟩ := vals1 r1
    cases (show u = Value.ref l from ru)
    show wpAny _ _ (evalAll [do let v <- eval (.Lambda params body scope lpos) X.env; standAt pos; pure v]) _ _ s1
    refine wpAny_evalAll_cons (wpAny_bind (lam_made I1 hcode C B hT S hdef fun f c' pm ctv H2 s2 st hit I2 => wpAny_bind (wpAny_standAt (wpAny_pure (wpAny_evalAll_nil ?_)))))
    obtain ⟨q2, q3⟩ := q1 H2 c' st hit
    have fin := srt_call (E := X.xe) (Q := Q) (fa := f) (kz := kz) I2 (SameT.lst st hT hS) hlen h64 (fun i q k eq ek => lam_key (A := X.A.in1.in1) I2.ok.frames (I2.ok.hd hc) hr.depth S nl hp hco hgen hbind (hb X.A.in1.in1) (x := .ref q) rfl (List.mem_append_right _ (.head _)) hit.2 (q2 i q k eq ek)) fun D ps hD hp hs => q3 D ps hD hp hs
    exact thn fin fun r s3 ⟨v, H3, I3, rv, qv⟩ => ⟨v, H3, I3.unpinned, rv, qv⟩
  · show backTo pos (starEach [e] X.env) = (false, eval e X.env) :: _
    rw [hs]
    rfl
  · rw [hs]
    rfl
theorem Fun.okc {P : Program} {w : World} {K : PySem.W.Frag} {mg : Str -> Option Value} {base : Heap} {x qual : Str} {st : Stmt} {f c : Addr} {fd : FuncData} {N ps : List Str} {k : Nat} {sp : Sp} (F : Fun K x qual st f fd) (hc : fd.code = .ref c) (S : FnScope N ps (defScope st)) (len : ∀ vs H Q E, sp vs H Q E -> vs.length = ps.length)
    (hbody : ∀ (A : Around) (outer : List Env) (s : Shared) (H : Hp) (vs : List V) (Q : VK) (E : XK), Room k (A.deeper (envOfC qual (defScope st) s.heap.objs.size f (.ref c))) -> sp vs H Q E ->
      ∃ t, PSs (cxOf CX0 P w K mg base N qual (defScope st) f (.ref c) A outer s H E).nox (defBody st) t /\ t { nx := fun _ H' => Q .non H', rt := Q } (start N vs) H) : FnOk P w K mg base CX0 (k + 1) f fd ps sp := by
  obtain ⟨oc, od, kV, doc, pm, an, cdv, ct, osl, rfl, lk, hcd⟩ := F.ex
  cases (show cdv = Value.ref c from hc)
  refine fn_of lk hcd S len fun A outer s H vs Q E hr hsp => ?_
  obtain ⟨t, h, q⟩ := hbody A outer s H vs Q E hr hsp
  exact ⟨t, h.nox, q⟩
end L2
namespace L2
open PySem PySem.W
noncomputable def stT (T : BT) (n k : Nat) (os : OsState) : SharedT := ⟨T, n, {}, Array.mk [], boot_drawn, k, os⟩
theorem run_app {tb : String -> Option Builtin} {p : Program} {w : World} {m0 : Nat} {ann : Option Value} {env : Env} {q : Pos} {n N : Nat} {s s' : SharedT} {r : Shared} {l rest : List Stmt} {c : Code} {pos p' : Pos}
    (h : segRunT tb p w m0 ann 1 n s (piecesOf l env c pos [topFrame q]) = some (.next, s', c, p')) (k : topRun tb p w m0 ann N s'.abs (restOf rest env c p' [topFrame q]) = some r) : topRun tb p w m0 ann (n + N) s.abs (restOf (l ++ rest) env c pos [topFrame q]) = some r :=
  piece_app (segRun_of h) k
theorem left_run {p q : Program} {loose : List Str} {Xt : Shared -> Bool} {α : Type} {Yf : Shared -> α} {Ya : World -> α} {N : Nat} {Tb Tf : Params -> BT} {nb nf ka kf : Nat} {env : Env} {C : Code} {gs : List Stmt} {posA posB qp : Pos} {m0 : Nat} {ann : Option Value} {a b c : Nat}
    (e1 : opening p = plainProg p.main.scope.names) (h6 : Nat.ble 600 N = true) (e2 : ∀ s, fenceModules? p s = some s)
    (size : ∀ w : World, ((boot_heap w.params).isNs mainGlobals && (Array.mk [] : Array GenState).size == 0, (boot_heap w.params).objs.size, (boot_heap w.params).nsMap mainGlobals "__annotations__") = (true, m0, ann))
    (pre : ∀ (w : World) (os : OsState), topGo treeTable p w m0 ann a ⟨boot_heap w.params, Array.mk [], boot_drawn, boot_toks, os⟩ (topStub p) = some ((stT (Tb w.params) nb ka os).abs, ⟨denote treeTable (.body gs env), C, posA, [topFrame qp]⟩))
    (blk : ∀ (w : World) (os : OsState), segRun treeTable p w m0 ann 1 b (stT (Tb w.params) nb ka os).abs (blockOf gs env C posA [topFrame qp]) = some (.next, (stT (Tb w.params) nb ka os).abs, C, posB))
    (run : ∀ (w : World) (os : OsState), topRun treeTable p w m0 ann c (stT (Tb w.params) nb ka os).abs (restOf gs env C posB [topFrame qp]) = some (stT (Tf w.params) nf kf os).abs)
    (le : Nat.ble (a + (b + c)) N = true)
    (looks : ∀ w : World, (fun os => ((staticsOk (importedModules p.main.body) (boot_heap w.params) (absHeap (Tf w.params) nf {}) && namesBound p (absHeap (Tf w.params) nf {}) && gensDone ⟨absHeap (Tf w.params) nf {}, Array.mk [], boot_drawn, kf, os⟩ && laidKept (boot_heap w.params) (absHeap (Tf w.params) nf {})),
        openSeen q loose (importedModules p.main.body) Xt true ⟨absHeap (Tf w.params) nf {}, Array.mk [], boot_drawn, kf, os⟩, Yf ⟨absHeap (Tf w.params) nf {}, Array.mk [], boot_drawn, kf, os⟩)) = fun _ => (true, openGood q loose, Ya w)) : LeftO p q loose Xt Yf Ya N :=
  LeftO.of_pieces (H₁ := fun P => absHeap (Tf P) nf {}) (boot_open e1 h6 e2) size (fun w os => go_top (pre w os) (piece_block (blk w os) (run w os))) le looks
end L2
namespace L2
open PySem PySem.Spec PyProof.Rows
inductive DE (K : PySem.W.Frag) (H : Hp) : Nat -> V -> V -> Bool -> Prop
  | int (n : Nat) (i j : Int) : DE K H n (.int i) (.int j) (i == j)
  | bl (n : Nat) (i j : Bool) : DE K H n (.bl i) (.bl j) (i == j)
  | str (n : Nat) (i j : Str) : DE K H n (.str i) (.str j) (i == j)
  | tup {n : Nat} {a b : Addr} {xs ys : List V} (e : Nat -> Bool) (ha : SqT K H a xs) (hb : SqT K H b ys) (h : ∀ (j : Nat) x y, xs[j]? = some x -> ys[j]? = some y -> DE K H n x y (e j)) :
      DE K H (n + 1) (.ref a) (.ref b) ((List.range (min xs.length ys.length)).all e && xs.length == ys.length)
  | lst {n : Nat} {a b : Addr} {xs ys : List V} (e : Nat -> Bool) (ha : SqL K H a xs) (hb : SqL K H b ys) (hl : xs.length = ys.length) (h : ∀ (j : Nat) x y, xs[j]? = some x -> ys[j]? = some y -> DE K H n x y (e j)) :
      DE K H (n + 1) (.ref a) (.ref b) ((List.range xs.length).all e)
  | lstN {n : Nat} {a b : Addr} {xs ys : List V} (ha : SqL K H a xs) (hb : SqL K H b ys) (hl : xs.length ≠ ys.length) : DE K H (n + 1) (.ref a) (.ref b) false
section
variable {X : Cx} {pins : List (Addr × Obj)} {σ : St} {H : Hp} {s : Shared}
theorem DE.self (I : Inv X pins σ H s) {n : Nat} {x y : V} {k : Bool} (d : DE X.K H n x y k) : x = y -> k = true := by
  induction d with
  | int n i j => intro e; cases e; simp
  | bl n i j => intro e; cases e; simp
  | str n i j => intro e; cases e; simp
  | @tup n a b xs ys e ha hb h ih =>
    intro z
    cases z
    have q := I.tuple_inj ha hb
    subst q
    rw [Bool.and_eq_true]
    refine ⟨List.all_eq_true.mpr fun j hj => ?_, by simp⟩
    rw [List.mem_range, Nat.min_self] at hj
    exact ih j _ _ (List.getElem?_eq_getElem hj) (List.getElem?_eq_getElem hj) rfl
  | @lst n a b xs ys e ha hb hl h ih =>
    intro z
    cases z
    have q := I.list_inj ha hb
    subst q
    refine List.all_eq_true.mpr fun j hj => ?_
    rw [List.mem_range] at hj
    exact ih j _ _ (List.getElem?_eq_getElem hj) (List.getElem?_eq_getElem hj) rfl
  | @lstN n a b xs ys ha hb hl =>
    intro z
    cases z
    exact absurd (congrArg List.length (I.list_inj ha hb)) hl
theorem vals_at {xs : List V} {its : List Value} (r : Vals xs its) {j : Nat} (hj : j < its.length) : ∃ x, xs[j]? = some x /\ RelV x its[j] := by
  have hl := r.length
  obtain ⟨u, hu, ru⟩ := r.get (List.getElem?_eq_getElem (l := xs) (i := j) (by omega))
  rw [List.getElem?_eq_getElem hj] at hu
  cases hu
  exact ⟨_, List.getElem?_eq_getElem (by omega), ru⟩
theorem in1_units (A : Around) : A.in1.units = A.units + 1 := rfl
theorem DE.eqAt (I : Inv X pins σ H s) {n : Nat} {x y : V} {k : Bool} (d : DE X.K H n x y k) : ∀ (A : Around) (u v : Value), A.units + n < cLine -> RelV x u -> RelV y v -> PySem.SeqAt.EqAt A s u v k := by
  induction d with
  | int n i j =>
    intro A u v _ ru rv
    obtain ⟨t, rfl⟩ := ru
    obtain ⟨t', rfl⟩ := rv
    exact PySem.SeqAt.EqAt.int_int _ _ _ _
  | bl n i j =>
    intro A u v _ ru rv
    cases (show u = Value.bool i from ru)
    cases (show v = Value.bool j from rv)
    exact PySem.SeqAt.EqAt.bool_bool _ _
  | str n i j =>
    intro A u v _ ru rv
    obtain ⟨t, rfl⟩ := ru
    obtain ⟨t', rfl⟩ := rv
    exact PySem.SeqAt.EqAt.str_str _ _ _ _
  | @tup n a b xs ys e ha hb h ih =>
    intro A u v hu ru rv
    cases (show u = Value.ref a from ru)
    cases (show v = Value.ref b from rv)
    by_cases hab : a = b
    · have q := (DE.tup e ha hb h).self I (by rw [hab])
      rw [q]
      subst hab
      exact PySem.SeqAt.EqAt.same _
    · obtain ⟨its, r1, p1, _⟩ := I.tuple ha
      obtain ⟨its2, r2, p2, _⟩ := I.tuple hb
      refine PySem.SeqAt.EqAt.of_refs hab ?_
      have q := PySem.SeqAt.RcAt.tuples (A := A) (e := e) (show s.heap.IsTuple a its.toArray from p1) (show s.heap.IsTuple b its2.toArray from p2) (by omega) (fun j h1 h2 => by
        obtain ⟨x, ex, rx⟩ := vals_at r1 (j := j) (by simpa using h1)
        obtain ⟨y, ey, ry⟩ := vals_at r2 (j := j) (by simpa using h2)
        rw [List.getElem_toArray, List.getElem_toArray]
        exact ih j x y ex ey A.in1 _ _ (by rw [in1_units]; omega) rx ry)
      rw [List.size_toArray, List.size_toArray, <- r1.length, <- r2.length] at q
      exact q
  | @lst n a b xs ys e ha hb hl h ih =>
    intro A u v hu ru rv
    cases (show u = Value.ref a from ru)
    cases (show v = Value.ref b from rv)
    by_cases hab : a = b
    · have q := (DE.lst e ha hb hl h).self I (by rw [hab])
      rw [q]
      subst hab
      exact PySem.SeqAt.EqAt.same _
    · obtain ⟨its, r1, p1, _⟩ := I.list ha
      obtain ⟨its2, r2, p2, _⟩ := I.list hb
      refine PySem.SeqAt.EqAt.of_refs hab ?_
      have q := PySem.SeqAt.RcAt.lists (A := A) (e := e) p1.isList p2.isList (by rw [List.size_toArray, List.size_toArray, <- r1.length, <- r2.length]; exact hl) (by omega) (fun j h1 h2 => by
        obtain ⟨x, ex, rx⟩ := vals_at r1 (j := j) (by simpa using h1)
        obtain ⟨y, ey, ry⟩ := vals_at r2 (j := j) (by simpa using h2)
        rw [List.getElem_toArray, List.getElem_toArray]
        exact ih j x y ex ey A.in1 _ _ (by rw [in1_units]; omega) rx ry)
      rw [List.size_toArray, <- r1.length] at q
      exact q
  | @lstN n a b xs ys ha hb hl =>
    intro A u v hu ru rv
    cases (show u = Value.ref a from ru)
    cases (show v = Value.ref b from rv)
    have hab : a ≠ b := fun z => by subst z; exact hl (congrArg List.length (I.list_inj ha hb))
    obtain ⟨its, r1, p1, _⟩ := I.list ha
    obtain ⟨its2, r2, p2, _⟩ := I.list hb
    refine PySem.SeqAt.EqAt.of_refs hab (PySem.SeqAt.RcAt.lists_lengths p1.isList p2.isList ?_ (by omega))
    rw [List.size_toArray, List.size_toArray, <- r1.length, <- r2.length]
    simpa using hl
def rEqD (K : PySem.W.Frag) (n : Nat) : R2 := fun x y H Q => ∃ a b k, x = .ref a /\ y = .ref b /\ DE K H (n + 1) x y k /\ Q (.bl k) H
def rNeD (K : PySem.W.Frag) (n : Nat) : R2 := fun x y H Q => ∃ a b k, x = .ref a /\ y = .ref b /\ DE K H (n + 1) x y k /\ Q (.bl (!k)) H
theorem op_eqD {n : Nat} (hu : X.A.units + n + 1 < cLine) : OpR X (compareOp .Eq) (rEqD X.K n) := by
  intro pins s σ H x y v u Q I rx ry h
  obtain ⟨a, b, k, rfl, rfl, d, q⟩ := h
  cases (show v = Value.ref a from rx)
  cases (show u = Value.ref b from ry)
  cases d with
  | @tup n a b xs ys e ha hb h =>
    obtain ⟨its, r1, p1, _⟩ := I.tuple ha
    obtain ⟨its2, r2, p2, _⟩ := I.tuple hb
    refine PySem.SeqAt.eq_tupleAt (e := e) (show s.heap.IsTuple a its.toArray from p1) (show s.heap.IsTuple b its2.toArray from p2) (by omega) (fun j h1 h2 => by
        obtain ⟨x, ex, rx⟩ := vals_at r1 (j := j) (by simpa using h1)
        obtain ⟨y, ey, ry⟩ := vals_at r2 (j := j) (by simpa using h2)
        rw [List.getElem_toArray, List.getElem_toArray]
        exact (h j x y ex ey).eqAt I X.A.in1 _ _ (by rw [in1_units]; omega) rx ry) ?_
    rw [List.size_toArray, List.size_toArray, <- r1.length, <- r2.length]
    exact ⟨.bl _, H, I, rfl, q⟩
  | @lst n a b xs ys e ha hb hl h =>
    obtain ⟨its, r1, p1, _⟩ := I.list ha
    obtain ⟨its2, r2, p2, _⟩ := I.list hb
    refine PySem.SeqAt.eq_listAt (e := e) p1.isList p2.isList (by rw [List.size_toArray, List.size_toArray, <- r1.length, <- r2.length]; exact hl) (by omega) (fun j h1 h2 => by
        obtain ⟨x, ex, rx⟩ := vals_at r1 (j := j) (by simpa using h1)
        obtain ⟨y, ey, ry⟩ := vals_at r2 (j := j) (by simpa using h2)
        rw [List.getElem_toArray, List.getElem_toArray]
        exact (h j x y ex ey).eqAt I X.A.in1 _ _ (by rw [in1_units]; omega) rx ry) ?_
    rw [List.size_toArray, <- r1.length]
    exact ⟨.bl _, H, I, rfl, q⟩
  | @lstN n a b xs ys ha hb hl =>
    obtain ⟨its, r1, p1, _⟩ := I.list ha
    obtain ⟨its2, r2, p2, _⟩ := I.list hb
    exact PySem.SeqAt.eq_list_lengthsAt p1.isList p2.isList (by rw [List.size_toArray, List.size_toArray, <- r1.length, <- r2.length]; simpa using hl) (by omega) ⟨.bl _, H, I, rfl, q⟩
theorem op_neD {n : Nat} (hu : X.A.units + n + 1 < cLine) : OpR X (compareOp .NotEq) (rNeD X.K n) := by
  intro pins s σ H x y v u Q I rx ry h
  obtain ⟨a, b, k, rfl, rfl, d, q⟩ := h
  cases (show v = Value.ref a from rx)
  cases (show u = Value.ref b from ry)
  cases d with
  | @tup n a b xs ys e ha hb h =>
    obtain ⟨its, r1, p1, _⟩ := I.tuple ha
    obtain ⟨its2, r2, p2, _⟩ := I.tuple hb
    refine PySem.SeqAt.RcNeAt.tuples (e := e) (show s.heap.IsTuple a its.toArray from p1) (show s.heap.IsTuple b its2.toArray from p2) (by omega) (fun j h1 h2 => by
        obtain ⟨x, ex, rx⟩ := vals_at r1 (j := j) (by simpa using h1)
        obtain ⟨y, ey, ry⟩ := vals_at r2 (j := j) (by simpa using h2)
        rw [List.getElem_toArray, List.getElem_toArray]
        exact (h j x y ex ey).eqAt I X.A.in1 _ _ (by rw [in1_units]; omega) rx ry) X.prog X.w _ _ ?_
    rw [List.size_toArray, List.size_toArray, <- r1.length, <- r2.length]
    exact ⟨.bl _, H, I, rfl, q⟩
  | @lst n a b xs ys e ha hb hl h =>
    obtain ⟨its, r1, p1, _⟩ := I.list ha
    obtain ⟨its2, r2, p2, _⟩ := I.list hb
    refine PySem.SeqAt.RcNeAt.lists (e := e) p1.isList p2.isList (by rw [List.size_toArray, List.size_toArray, <- r1.length, <- r2.length]; exact hl) (by omega) (fun j h1 h2 => by
        obtain ⟨x, ex, rx⟩ := vals_at r1 (j := j) (by simpa using h1)
        obtain ⟨y, ey, ry⟩ := vals_at r2 (j := j) (by simpa using h2)
        rw [List.getElem_toArray, List.getElem_toArray]
        exact (h j x y ex ey).eqAt I X.A.in1 _ _ (by rw [in1_units]; omega) rx ry) X.prog X.w _ _ ?_
    rw [List.size_toArray, <- r1.length]
    exact ⟨.bl _, H, I, rfl, q⟩
  | @lstN n a b xs ys ha hb hl =>
    obtain ⟨its, r1, p1, _⟩ := I.list ha
    obtain ⟨its2, r2, p2, _⟩ := I.list hb
    exact PySem.SeqAt.RcNeAt.lists_lengths p1.isList p2.isList (by rw [List.size_toArray, List.size_toArray, <- r1.length, <- r2.length]; simpa using hl) (by omega) X.prog X.w _ _ ⟨.bl _, H, I, rfl, q⟩
end
end L2
namespace L2
open PySem PySem.Spec PyProof.Rows
section
variable {X : Cx}
theorem call_sum (hc : X.calm = true) : CallR X (.builtin "sum") (fun xs H Q => ∃ (a : Addr) (ns : List Int), xs = [.ref a] /\ SqL X.K H a (ns.map V.int) /\ Q (.int ns.sum) H) := by
  intro pins s σ H xs us Q I r h
  obtain ⟨a, ns, rfl, hS, q⟩ := h
  obtain ⟨u, rfl, ru⟩ := vals1 r
  cases (show u = Value.ref a from ru)
  obtain ⟨its, rv, p, hz⟩ := I.list hS
  have hi := intsAre_of rv
  obtain ⟨zs, e⟩ := (IntsAre.allInts hi).items
  have hl := p.isList
  rw [e] at hl
  refine sum_intListG (I.ok.hd hc) hl fun h' tk t' hk => ⟨.int ns.sum, H, I.kept hk, ⟨t', ?_⟩, q⟩
  have n1 := nums_intItems (xs := zs)
  rw [<- e, show its.toArray.toList = its from rfl, IntsAre.numsOf hi] at n1
  rw [preSum_eq, List.take_of_length_le (by simp), <- n1]
section
variable {prog : Program} {w : World} {A : Around} {E : Value -> Shared -> Prop} {s : Shared} {d it : Addr} {od : Obj} {es : Array DictEntry} {ep i : Nat}
theorem ents_iter {Q : Value -> Shared -> Prop} (hd : (d == sysModules) = false) (ho : s.heap.get? d = some od) (hx : od.ExactDict) (hdat : od.data = .dict es ep)
    (hQ : Q (.ref s.heap.objs.size) { s with heap := s.heap.push { cls := .type "dict_keyiterator", data := .fields #[.ref d, .int 0 0, .int es.size 0, .int ep 0] } }) :
    wpAny (model prog w) A (pyIter (.ref d)) Q E s := by
  have ty : s.TypeIs (.ref d) "dict" := ⟨od, ho, hx.1⟩
  apply wpAny_pyIter_slot ty F.slot_dict_iter
  refine wpAny_call_entry F.slot_dict_iter ty F.entry_dict_iter ?body (F.args_dict_iter_1 _)
  case body =>
    unfold Builtin.«dict.__iter__»
    apply wpAny_bind
    unfold Builtin.Dict.dictSlotNone
    refine wpAny_bind (wpAny_notOrdered_dict ty (wpAny_pure (a := Value.ref d) ?_))
    show wpAny _ _ (Builtin.Dict.showsAll d >>= fun _ => _) _ _ s
    unfold Builtin.Dict.showsAll
    rw [hd, if_neg Bool.false_ne_true]
    refine wpAny_bind (wpAny_pure (wpAny_bind (wpAny_dictEntries ho hdat (wpAny_bind (wpAny_dictEpoch ho hdat ?_)))))
    refine wpAny_bind (wpAny_newObj_type (wpAny_pure ⟨_, rfl, "dict_keyiterator", _, ⟨_, Heap.get?_push_size _ rfl, rfl⟩, F.slot_dict_keyiterator_next.lookup, ?_⟩))
    simpa only [rawInt] using hQ
theorem ents_next {e : DictEntry} {Q : Option Value -> Shared -> Prop} (hit : s.heap.IsKeyIter it d i es.size ep) (ho : s.heap.get? d = some od) (hdat : od.data = .dict es ep) (hx : es[i]? = some e)
    (hQ : ∀ h', h'.IsKeyIter it d (i + 1) es.size ep -> Heap.SameBut it s.heap h' -> Q (some e.key) { s with heap := h' }) : wpAny (model prog w) A (pyNext (.ref it)) Q E s := by
  obtain ⟨oi, hoi, hci, hdi⟩ := id hit
  have ty := hit.typeIs
  have own : Builtin.Dict_items.ownsTuple "dict_keyiterator" = false := by decide
  unfold pyNext
  apply wpAny_bind
  apply wpAny_attempt
  refine wpAny_callSpecial?_slot (name := Str.ofString "__next__") ty F.slot_dict_keyiterator_next ?call
  case call =>
    refine wpAny_call_entry F.slot_dict_keyiterator_next ty F.entry_dict_keyiterator_next ?body (F.args_dict_keyiterator_next_1 _)
    case body =>
      refine wpAny_bind (wpAny_pure (wpAny_bind (wpAny_bind ?_)))
      refine wpAny_bind (wpAny_typeNameOfWhole_keyiter ty (wpAny_pure (wpAny_bind (wpAny_fieldsOf hoi hdi ?_))))
      simp only [own, Bool.false_eq_true, if_false]
      show wpAny _ _ (if (Value.ref d == Value.none) = true then _ else _) _ _ s
      rw [if_neg (fun z : (Value.ref d == Value.none) = true => Bool.false_ne_true z)]
      refine wpAny_bind (wpAny_pure (wpAny_bind (wpAny_dictEntries ho hdat ?_)))
      rw [if_neg (by simp)]
      refine wpAny_bind (wpAny_pure (wpAny_bind (wpAny_dictEpoch ho hdat ?_)))
      rw [if_neg (by simp)]
      apply wpAny_pure
      have neg : ¬ ((i : Int) < 0) := by omega
      simp only [neg, if_false, Int.toNat_natCast, hx]
      refine wpAny_bind (wpAny_bind (wpAny_typeNameOfWhole_keyiter ty (wpAny_pure (wpAny_bind (wpAny_isOneOf_keyiter ty ?_)))))
      show wpAny _ _ (setField (.ref it) 1 (rawInt ((i : Int) + 1)) >>= fun _ => _) _ _ s
      refine wpAny_bind (wpAny_setField hoi hdi (by simp) ?_)
      have nx : (s.heap.update it (Obj.mapFields (·.setIfInBounds 1 (rawInt ((i : Int) + 1))))).IsKeyIter it d (i + 1) es.size ep :=
        ⟨_, Heap.get?_update_self _ hoi (Obj.isFreed_of_fields (Obj.data_mapFields hdi _)), (Obj.cls_mapFields ..).trans hci, by rw [Obj.data_mapFields hdi]; simp [rawInt]⟩
      refine wpAny_bind (wpAny_holding (wpAny_bind (wpAny_isOneOf_keyiter (s := { s with heap := s.heap.update it (Obj.mapFields (·.setIfInBounds 1 (rawInt ((i : Int) + 1)))) }) nx.typeIs ?_)))
      show wpAny _ _ (pure e.key) _ _ _
      exact wpAny_pure (wpAny_pure ⟨_, rfl, wpAny_pure (hQ _ nx (Heap.SameBut.update ..))⟩)
theorem ents_end {Q : Option Value -> Shared -> Prop} (hh : A.handled = none) (hit : s.heap.IsKeyIter it d i es.size ep) (ho : s.heap.get? d = some od) (hdat : od.data = .dict es ep) (hx : es.size <= i)
    (hQ : ∀ h', Heap.ExtBut it s.heap h' -> Q none { s with heap := h' }) : wpAny (model prog w) A (pyNext (.ref it)) Q E s := by
  obtain ⟨oi, hoi, hci, hdi⟩ := id hit
  have ty := hit.typeIs
  have own : Builtin.Dict_items.ownsTuple "dict_keyiterator" = false := by decide
  unfold pyNext
  apply wpAny_bind
  apply wpAny_attempt
  refine wpAny_callSpecial?_slot (name := Str.ofString "__next__") ty F.slot_dict_keyiterator_next ?call
  case call =>
    refine wpAny_call_entry F.slot_dict_keyiterator_next ty F.entry_dict_keyiterator_next ?body (F.args_dict_keyiterator_next_1 _)
    case body =>
      refine wpAny_bind (wpAny_pure (wpAny_bind (wpAny_bind ?_)))
      refine wpAny_bind (wpAny_typeNameOfWhole_keyiter ty (wpAny_pure (wpAny_bind (wpAny_fieldsOf hoi hdi ?_))))
      simp only [own, Bool.false_eq_true, if_false]
      show wpAny _ _ (if (Value.ref d == Value.none) = true then _ else _) _ _ s
      rw [if_neg (fun z : (Value.ref d == Value.none) = true => Bool.false_ne_true z)]
      refine wpAny_bind (wpAny_pure (wpAny_bind (wpAny_dictEntries ho hdat ?_)))
      rw [if_neg (by simp)]
      refine wpAny_bind (wpAny_pure (wpAny_bind (wpAny_dictEpoch ho hdat ?_)))
      rw [if_neg (by simp)]
      apply wpAny_pure
      have neg : ¬ ((i : Int) < 0) := by omega
      simp only [neg, if_false, Int.toNat_natCast, Array.getElem?_eq_none hx]
      refine wpAny_bind (wpAny_bind (wpAny_typeNameOfWhole_keyiter ty (wpAny_pure ?_)))
      show wpAny _ _ (setField (.ref it) 0 .none >>= fun _ => _) _ _ s
      refine wpAny_bind (wpAny_setField hoi hdi (by simp) ?_)
      show wpAny _ _ (newExc (.type "StopIteration") [] >>= fun _ => _) _ _ _
      apply wpAny_bind
      simp only [newExc, newTuple]
      refine wpAny_bind (wpAny_newObj_type (wpAny_bind (m := firstArgMember _ _) (wpAny_of_eq (a := Value.none) (by first | rfl | (simp only [firstArgMember]; rfl)) (wpAny_newObj_type ?_ (by size_fits)))) (by size_fits))
      simp only [raiseNew]
      refine wpAny_bind (wpAny_handled ?_)
      rw [show A.in1.handled = Option.none from hh]
      refine wpAny_bind (wpAny_pure (wpAny_throw ?thr))
      apply wpAny_bind
      refine wpAny_isInstance (T := "StopIteration") (b := true) ⟨_, Heap.get?_push_size _ rfl, rfl⟩ isSubtype_stop ?ends
      exact wpAny_pure (hQ _ (((Heap.SameBut.update ..).extBut.push _).push _))
end
def Itk (a : Addr) (o : Obj) (kvs : List (List Key × V)) : It :=
  ⟨fun i H => H a = some (.frz o (.dT kvs)) /\ i < kvs.length, fun i H x H' => H' = H /\ ∃ k v q, kvs[i]? = some (k, v) /\ x = .ref q /\ H q = some (.tup (k.map kV)), fun i H => H a = some (.frz o (.dT kvs)) /\ kvs.length <= i⟩
theorem frz_dT {P : Program} {w : World} {H : Hp} {h : Heap} {a : Addr} {o : Obj} {kvs : List (List Key × V)} (ok : HOk P w H h) (e : H a = some (.frz o (.dT kvs))) :
    h.get? a = some o /\ o.ExactDict /\ ∃ es ep, o.data = .dict es ep /\ es.size = kvs.length /\ ∀ (i : Nat) k v, kvs[i]? = some (k, v) -> ∃ q ent, es[i]? = some ent /\ ent.key = .ref q /\ H q = some (.tup (k.map kV)) := by
  obtain ⟨e1, z, y, xs, r, ob, es, ep, e2, ex, hd, he, nd⟩ := ok a _ e
  rw [e1] at e2
  cases e2
  have hl : kvs.length = xs.length := Paired.length r
  refine ⟨e1, ex, es, ep, hd, ?_, fun i k v hk => ?_⟩
  · rw [<- Array.length_toList, he, List.length_map, hl]
  · have get : ∀ {l1 : List (List Key × V)} {l2 : List (List Key × Addr × Value)} {i : Nat} {k : List Key} {v : V}, Paired (fun (p : List Key × V) (q : List Key × Addr × Value) => p.1 = q.1 /\ H q.2.1 = some (.tup (p.1.map kV)) /\ RelV p.2 q.2.2) l1 l2 -> l1[i]? = some (k, v) ->
        ∃ q : List Key × Addr × Value, l2[i]? = some q /\ H q.2.1 = some (.tup (k.map kV)) := by
      intro l1 l2 i k v r
      induction r generalizing i with
      | nil => intro z; simp at z
      | cons h t ih =>
        intro z
        cases i with
        | zero => simp at z; subst z; exact ⟨_, rfl, h.2.1⟩
        | succ j => exact ih (by simpa using z)
    obtain ⟨q, hq, ht⟩ := get r hk
    refine ⟨q.2.1, entryOfKey (tupleKind (mixKind P w)) q, ?_, rfl, ht⟩
    rw [<- Array.getElem?_toList, he, List.getElem?_map, hq]
    rfl
theorem turn_keys {P : Program} {w : World} {K : PySem.W.Frag} {tg : Expr} (a it : Addr) (o : Obj) (kvs : List (List Key × V)) (es : Array DictEntry) (ep : Nat) (hd : o.data = .dict es ep) :
    Turn P w K tg (Itk a o kvs) [it] it (fun i h => h.IsKeyIter it a i es.size ep) where
  mem := by simp
  obj := fun i h st b hb => by
    have e : b = it := by simpa using hb
    subst e
    obtain ⟨o, e, c, d⟩ := st
    exact ⟨o, e, fun v z => by rw [d] at z; cases z⟩
  keep := fun i h h' st k => st.at fun o e => k it (by simp) o e
  item := by
    intro X hP hw hK hc i pins s σ H E I hf st hg
    subst hP hw hK
    obtain ⟨hH, hi⟩ := hg
    obtain ⟨e1, ex, es', ep', hd', hsz, get⟩ := frz_dT I.hok hH
    rw [hd] at hd'
    cases hd'
    obtain ⟨q, ent, hent, hkey, ht⟩ := get i _ _ (List.getElem?_eq_getElem hi)
    obtain ⟨f0, f1, f2, f3, f4, f5⟩ := hf it (by simp)
    refine ents_next st e1 hd hent fun h' st' sb => ?_
    have I1 : Inv X pins σ H { s with heap := h' } := I.turned (t' := s.toks) (fun b o hb e => (sb.2 b hb).trans e) f0 f1 f3 f4 f5
    obtain ⟨oo, e, c, d⟩ := id st'
    exact ⟨_, rfl, go_of (s := { s with heap := h' }) e c d (by decide) ⟨.ref q, H, I1, hkey, ⟨rfl, _, _, q, List.getElem?_eq_getElem hi, rfl, ht⟩, st', fun b hb => (hf b hb).1⟩⟩
  done := by
    intro X hP hw hK hc i pins s σ H E I hf st hg
    subst hP hw hK
    obtain ⟨hH, hi⟩ := hg
    obtain ⟨e1, ex, es', ep', hd', hsz, get⟩ := frz_dT I.hok hH
    rw [hd] at hd'
    cases hd'
    obtain ⟨f0, f1, f2, f3, f4, f5⟩ := hf it (by simp)
    exact ents_end (I.ok.hd hc) st e1 hd (by omega) fun h' eb => ⟨rfl, I.turned (t' := s.toks) (fun b o hb e => eb b o hb e) f0 f1 f3 f4 f5⟩
  self := fun _ _ _ _ _ st h => wpAny_pyIter_keyiter st h
theorem Inv.freeze {pins : List (Addr × Obj)} {σ : St} {H : Hp} {s : Shared} {a : Addr} {kvs : List (List Key × V)} (I : Inv X pins σ H s) (e : H a = some (.dT kvs)) : ∃ o, s.heap.get? a = some o /\ Inv X pins σ (upd H a (.frz o (.dT kvs))) s := by
  have ok := I.hok a _ e
  obtain ⟨z, y, xs, r, ob, es, ep, e2, c⟩ := id ok
  refine ⟨ob, e2, ?_⟩
  refine I.write (x := a) (e := a) (h' := s.heap) (t' := s.toks) (by rw [e]; exact trivial) (.inl rfl) (fun _ _ _ q => q) ⟨_, e2⟩ ⟨e2, ?_⟩
  refine ok.stay (fun _ _ _ q => q) (fun b q => ?_) fun b ys q => ?_
  · rw [upd_ne (fun w => by rw [w, e] at q; cases q)]; exact q
  · rw [upd_ne (fun w => by rw [w, e] at q; cases q)]; exact q
def iKeys (tl : TE) : TI := fun σ H R => tl σ H fun x H1 => ∃ a kvs, x = .ref a /\ ((H1 a = some (.dT kvs) /\ ∀ o, R (Itk a o kvs) (upd H1 a (.frz o (.dT kvs)))) ∨ ∃ o, H1 a = some (.frz o (.dT kvs)) /\ R (Itk a o kvs) H1)
theorem keys_it {pins : List (Addr × Obj)} {σ : St} {H : Hp} {s : Shared} {tg : Expr} {a : Addr} {o : Obj} {kvs : List (List Key × V)} {R : It -> Hp -> Prop} (I : Inv X pins σ H s) (e : H a = some (.frz o (.dT kvs))) (q : R (Itk a o kvs) H) :
    wpAny (model X.prog X.w) X.A (pyIter (.ref a)) (PIE X pins σ tg R) X.xe s := by
  obtain ⟨e1, ex, es, ep, hd, hsz, get⟩ := frz_dT I.hok e
  obtain ⟨_, _, y, _⟩ := I.hok a _ e
  refine ents_iter y e1 ex hd ?_
  refine ⟨s.heap.objs.size, [s.heap.objs.size], _, _, H, rfl, I.kept (t' := s.toks) fun b o e => Heap.get?_push_of_some _ e, turn_keys a _ o kvs es ep hd, ⟨_, Heap.get?_push_size _ rfl, rfl, rfl⟩, fun b hb => ?_, q⟩
  have e : b = s.heap.objs.size := by simpa using hb
  subst e
  exact I.fpOk (Nat.le_refl _) (I.hok.fresh (Nat.le_refl _))
theorem pi_keys {tg l : Expr} {tl : TE} (hl : PE X l tl) : PI X tg l (iKeys tl) := by
  intro pins s σ H R I h
  refine thn (hl pins s σ H _ I h) fun v s1 ⟨x, H1, I1, r1, q1⟩ => ?_
  obtain ⟨a, kvs, rfl, q1⟩ := q1
  cases (show v = Value.ref a from r1)
  rcases q1 with ⟨e, q⟩ | ⟨o, e, q⟩
  · obtain ⟨o, _, I2⟩ := I1.freeze e
    exact keys_it I2 upd_same (q o)
  · exact keys_it I1 e q
def ItR (K : PySem.W.Frag) (a : Addr) (xs : List V) : It :=
  ⟨fun i H => i < xs.length /\ SqL K H a xs, fun i H x H' => H' = H /\ xs[xs.length - 1 - i]? = some x, fun i H => xs.length <= i⟩
theorem turn_rev {P : Program} {w : World} {K : PySem.W.Frag} {tg : Expr} (a it : Addr) (xs : List V) : Turn P w K tg (ItR K a xs) [it] it (fun i h => i <= xs.length /\ h.IsRevIter it a ((xs.length : Int) - 1 - (i : Int))) where
  mem := by simp
  obj := fun i h st b hb => by
    have e : b = it := by simpa using hb
    subst e
    obtain ⟨_, o, e, c, d⟩ := st
    exact ⟨o, e, fun v z => by rw [d] at z; cases z⟩
  keep := fun i h h' st k => ⟨st.1, st.2.at fun o e => k it (by simp) o e⟩
  item := by
    intro X hP hw hK hc i pins s σ H E I hf st hg
    subst hP hw hK
    obtain ⟨hi, hS⟩ := hg
    obtain ⟨_, st⟩ := st
    obtain ⟨its, rv, p, hz⟩ := I.list hS
    have hix : xs.length - 1 - i < xs.length := by omega
    obtain ⟨u, hu, ru⟩ := rv.get (List.getElem?_eq_getElem hix)
    have ei : (xs.length : Int) - 1 - (i : Int) = ((xs.length - 1 - i : Nat) : Int) := by omega
    rw [ei] at st
    obtain ⟨f0, f1, f2, f3, f4, f5⟩ := hf it (by simp)
    refine wpAny_pyNext_rev_item st p.isList (x := u) (by simpa using hu) fun h' st' sb => ?_
    have I1 : Inv X pins σ H { s with heap := h' } := I.turned (t' := s.toks) (fun b o hb e => (sb.2 b hb).trans e) f0 f1 f3 f4 f5
    obtain ⟨o, e, c, d⟩ := id st'
    refine ⟨u, rfl, go_of (s := { s with heap := h' }) e c d (by decide) ⟨_, H, I1, ru, ⟨rfl, List.getElem?_eq_getElem hix⟩, ⟨hi, ?_⟩, fun b hb => (hf b hb).1⟩⟩
    have ej : (xs.length : Int) - 1 - ((i + 1 : Nat) : Int) = ((xs.length - 1 - i : Nat) : Int) - 1 := by omega
    rw [ej]
    exact st'
  done := by
    intro X hP hw hK hc i pins s σ H E I hf st hg
    subst hP hw hK
    obtain ⟨hi, st⟩ := st
    have hg : xs.length <= i := hg
    have ei : (xs.length : Int) - 1 - (i : Int) = -1 := by omega
    rw [ei] at st
    obtain ⟨f0, f1, f2, f3, f4, f5⟩ := hf it (by simp)
    exact wpAny_pyNext_rev_end (I.ok.hd hc) st fun h' eb => ⟨rfl, I.turned (t' := s.toks) (fun b o hb e => eb b o hb e) f0 f1 f3 f4 f5⟩
  self := fun _ _ _ _ _ st h => wpAny_pyIter_revIter st.2 h
def iRev (K : PySem.W.Frag) (ta : TA) : TI := fun σ H R => ta σ H fun vs H1 => ∃ a xs, vs = [.ref a] /\ SqL K H1 a xs /\ R (ItR K a xs) H1
theorem bt_reversed : bootBuiltins "reversed" = some (.type "reversed") := by decide +kernel
theorem pi_rev {tg a : Expr} {ta : TA} {p pos : Pos} (hg : Gl X "reversed") (hm : X.mg "reversed" = none) (ha : PA X [a] ta) (hs : starEach [a] X.env = [(false, eval a X.env)] := by rfl) : PI X tg (.Call (.Name "reversed" p) [a] [] pos) (iRev X.K ta) := by
  intro pins s σ H R I h
  refine Call_ (ld_blt I hg hm bt_reversed (PyProof.Rows.callWith_type1 (thn (ha pos pins s σ H _ I h) fun us s1 ⟨vs, H1, I1, r1, q1⟩ => ?_) hs rfl))
  obtain ⟨b, xs, e, hS, q⟩ := q1
  subst e
  obtain ⟨u, rfl, ru⟩ := vals1 r1
  cases (show u = Value.ref b from ru)
  obtain ⟨its, rv, pl, hz⟩ := I1.list hS
  refine call_reversed_list pl.isList ?_
  have hsz : its.toArray.size = xs.length := by rw [List.size_toArray]; exact rv.length.symm
  rw [hsz]
  have st : Heap.IsRevIter (s1.heap.push (revObj b ((xs.length : Int) - 1))) s1.heap.objs.size b ((xs.length : Int) - 1 - ((0 : Nat) : Int)) := by
    rw [show (xs.length : Int) - 1 - ((0 : Nat) : Int) = (xs.length : Int) - 1 by omega]
    exact ⟨_, Heap.get?_push_size _ rfl, rfl, rfl⟩
  have I2 : Inv X pins σ H1 { s1 with heap := s1.heap.push (revObj b ((xs.length : Int) - 1)) } := I1.kept (t' := s1.toks) fun b o e => Heap.get?_push_of_some _ e
  refine wpAny_pyIter_revIter (s := { s1 with heap := s1.heap.push (revObj b ((xs.length : Int) - 1)) }) st ?_
  refine ⟨s1.heap.objs.size, [s1.heap.objs.size], _, _, H1, rfl, I2, turn_rev b _ xs, ⟨Nat.zero_le _, st⟩, fun c hc => ?_, q⟩
  have e : c = s1.heap.objs.size := by simpa using hc
  subst e
  exact I1.fpOk (Nat.le_refl _) (I1.hok.fresh (Nat.le_refl _))
end
theorem ix_tupK {X : Cx} {K : PySem.W.Frag} (h : X.K = K) : IxR X (rIxT K) := by subst h; exact ix_tup
theorem ix_listK {X : Cx} {K : PySem.W.Frag} (h : X.K = K) : IxR X (rIxL K) := by subst h; exact ix_list
theorem pg_tupK {X : Cx} {K : PySem.W.Frag} (hK : X.K = K) {pos : Pos} {es : List Expr} {k : Nat} {t : TGs} {n : Nat} (hc : X.calm = true) (h : PGs X es t)
    (hn : (assignEach es X.env).length = n := by rfl) (hst : (assignEach es X.env).findIdx? (·.1) = none := by rfl) : PG X (.Tuple es k pos) (gTup K n t) := by
  subst hK
  exact pg_tup hc h hn hst
theorem for_keys {a : Addr} {o : Obj} {kvs : List (List Key × V)} {g : TG} {tb : TS} {D : Ends} {σ : St} {H : Hp} (Pv : Nat -> St -> Hp -> Prop) (h0 : Pv 0 σ H) (hl : ∀ i σ H, i <= kvs.length -> Pv i σ H -> H a = some (.frz o (.dT kvs)))
    (hs : ∀ i k v q σ H, kvs[i]? = some (k, v) -> H q = some (.tup (k.map kV)) -> Pv i σ H -> g (.ref q) σ H fun σ2 H2 => tb { D with nx := Pv (i + 1), ct := Pv (i + 1), bk := D.nx } σ2 H2) (hd : ∀ σ H, Pv kvs.length σ H -> D.nx σ H) :
    ∃ W : Nat -> Nat -> St -> Hp -> Prop, (∃ m, W 0 m σ H) /\ ∀ i m σ H, W i m σ H ->
      ((Itk a o kvs).stop i H /\ D.nx σ H) ∨ ((Itk a o kvs).go i H /\ ∃ N : St -> Hp -> Prop, (∀ σ' H', N σ' H' -> ∃ m', m' < m /\ W (i + 1) m' σ' H') /\ ∀ x H', (Itk a o kvs).yld i H x H' -> g x σ H' fun σ2 H2 => tb { D with nx := N, ct := N, bk := D.nx } σ2 H2) := by
  refine ⟨fun i m σ H => m = kvs.length - i /\ i <= kvs.length /\ Pv i σ H, ⟨kvs.length, by simp, Nat.zero_le _, h0⟩, ?_⟩
  rintro i m σ H ⟨rfl, hi, p⟩
  have q := hl i σ H hi p
  by_cases hlt : i < kvs.length
  · refine .inr ⟨⟨q, hlt⟩, Pv (i + 1), fun σ' H' p' => ⟨kvs.length - (i + 1), by omega, rfl, hlt, p'⟩, fun x H' y => ?_⟩
    obtain ⟨e, k, v, z, hk, ex, ht⟩ := y
    subst e ex
    exact hs i k v z σ _ hk ht p
  · have e : i = kvs.length := by omega
    subst e
    exact .inl ⟨⟨q, Nat.le_refl _⟩, hd σ H p⟩
end L2
namespace L2
open PySem PySem.Spec PyProof.Rows
theorem law_callT {Pg : Program} {w : World} {K : PySem.W.Frag} {mg mb : Str -> Option Value} {CX : CXT} {k : Nat} {fa a P c : Addr} {fd : FuncData} {x : Str} {sp : Sp} {s₁ : Shared} {vs : List Value} {ns : List Int}
    (KX : K.In s₁.heap) (hns : s₁.heap.Ns mainGlobals mg) (hb : s₁.heap.Ns builtinsNs mb) (hbb : ∀ x : Str, x ≠ "__name__" -> mb x = bootBuiltins x) (hlim : s₁.heap.NoLimit) (hg : s₁.gens = #[])
    (ha : s₁.heap.get? a = some { cls := .type "list", data := .seq vs.toArray }) (hi : IntsAre vs ns) (hl : ns.length <= sizeLine) (hr : Room k callerA)
    (hP : s₁.heap.get? P = some (PySem.W.tabObj #[])) (hC : PySem.W.CodeHd s₁.heap c P) (hB : ∃ bm ob, mg "__builtins__" = some (.ref bm) /\ bm ≠ builtinsNs /\ s₁.heap.get? bm = some ob /\ ob.cls = .type "module" /\ ob.dict = some builtinsNs /\ ob.data = .plain)
    (hKP : K.lookup P = none) (hCK : ∀ h, K.In h -> PySem.W.CodeHd h c P)
    (F : ∀ base : Heap, K.In base -> base.Ns mainGlobals mg -> PySem.W.CodeHd base c P -> base.BuiltinsAt mg P -> FnOk Pg w K mg base CX k fa fd [x] sp) (hbind : ∀ (s : Shared) (u : Value), BindsTo s fd ⟨[u], []⟩ [(x, u)])
    (hsp : ∀ H : Hp, H P = some (.tbl #[]) -> SqL K H a (ns.map V.int) -> sp [.ref a] H (fun v _ => v = .bl true) fun _ _ _ => False)
    (hCX : ∀ H e s', CX [] H s₁ (fun _ _ _ => False) e s' -> False) :
    codeAny (model Pg w) callerA (.call (.ref fa) ⟨[.ref a], []⟩) (fun r s' => r = .ok (.ret (.bool true)) /\ OldK s₁.heap s'.heap /\ s'.os = s₁.os /\ AllBare s'.gens) s₁ := by
  have rv := vals_ints hi
  have lenV := hi.length
  have haP : a ≠ P := fun z => by rw [z, hP] at ha; cases ha
  have core : ∀ H : Hp, H P = some (.tbl #[]) -> (∀ b, b ≠ P -> H b = none ∨ ∃ xs, b = a /\ H b = some (.frz { cls := .type "list", data := .seq vs.toArray } (.lst xs))) -> SqL K H a (ns.map V.int) -> HOk Pg w H s₁.heap -> (H a ≠ none -> K.lookup a = none) ->
      codeAny (model Pg w) callerA (.call (.ref fa) ⟨[.ref a], []⟩) (fun r s' => r = .ok (.ret (.bool true)) /\ OldK s₁.heap s'.heap /\ s'.os = s₁.os /\ AllBare s'.gens) s₁ := by
    intro H hHP hO hS hok hK
    have base_of : ∀ {b : Addr} {o : Obj}, s₁.heap.get? b = some o -> H b = none -> (hidT s₁.heap H).get? b = some o := fun e n => hidT_get e n
    have free : ∀ {b : Addr} {o : Obj}, s₁.heap.get? b = some o -> (∀ xs n, o.data ≠ .seq xs n) -> b ≠ P -> H b = none := fun {b o} e d nP => by
      rcases hO b nP with z | ⟨xs, z, _⟩
      · exact z
      · rw [z, ha] at e
        cases e
        exact absurd rfl (d _ _)
    have ndP : ∀ {b : Addr} {o : Obj} {es : Array DictEntry} {ep : Nat}, s₁.heap.get? b = some o -> o.data = .dict es ep -> b ≠ P := fun {b o es ep} e d z => by
      rw [z, hP] at e
      cases e
      have d' : Data.fields #[] = Data.dict es ep := d
      cases d'
    have nsK : ∀ {b : Addr} {m : Str -> Option Value}, s₁.heap.Ns b m -> (hidT s₁.heap H).Ns b m := fun {b m} ⟨o, es, ep, e, d, r⟩ => ⟨o, es, ep, base_of e (free e (fun xs n z => by rw [d] at z; cases z) (ndP e d)), d, r⟩
    have hKb : K.In (hidT s₁.heap H) := fun b o e => base_of (KX b o e) (by
      by_cases z : b = P
      · rw [z, hKP] at e; cases e
      · rcases hO b z with q | ⟨xs, q, r⟩
        · exact q
        · subst q
          rw [hK (by rw [r]; simp)] at e; cases e)
    have hM : Mod K mg (hidT s₁.heap H) := ⟨hKb, nsK hns, ⟨mb, nsK hb, hbb⟩, let ⟨mc, h1, h2⟩ := hlim; ⟨mc, nsK h1, h2⟩⟩
    have e0 : Env0 Pg w K mg (hidT s₁.heap H) callerA [] s₁ H := ⟨rfl, hM, fun b o e => of_hidT e, Nat.le_of_eq (hidT_size _ _), trivial, fun b hb => absurd (show b ∈ ([] : List Addr) from hb) (by simp), hok, .of_eq hg⟩
    have hBA : (hidT s₁.heap H).BuiltinsAt mg P := by
      obtain ⟨bm, ob, b1, b2, b3, b4, b5, b6⟩ := hB
      have nP : bm ≠ P := fun z => by rw [z, hP] at b3; cases b3; cases b4
      have nG : bm ≠ mainGlobals := fun z => by
        obtain ⟨o, es, ep, e, d, _⟩ := hns
        rw [z, e] at b3
        cases b3
        rw [d] at b6
        cases b6
      exact ⟨bm, ob, b1, b2, nG, nP, base_of b3 (free b3 (fun xs n z => by rw [b6] at z; cases z) nP), b4, b5, b6⟩
    refine codeAny_mono ((F _ hKb (nsK hns) (hCK _ hKb) hBA).run callerA [] s₁ H ⟨[.ref a], []⟩ [.ref a] [.ref a] _ _ hr e0 (hbind s₁ (.ref a)) (.cons rfl .nil) (hsp H hHP hS)) fun r s' h => ?_
    cases r with
    | error e => exact (hCX H e s' h).elim
    | ok fl =>
      cases fl with
      | next => exact False.elim h
      | brk => exact False.elim h
      | cont => exact False.elim h
      | ret u =>
        obtain ⟨v, H', os, bare, un, hok', r', q⟩ := h
        have q' : v = .bl true := q
        subst q'
        obtain rfl : u = Value.bool true := r'
        have keep : ∀ b o, b ≠ P -> s₁.heap.get? b = some o -> s'.heap.get? b = some o := fun b o nP e => by
          rcases hO b nP with z | ⟨xs, z1, z⟩
          · exact un.keep b o e z (by intro z; exact absurd (show b ∈ ([] : List Addr) from z) (by simp)) (by simp)
          · obtain ⟨e1, _⟩ := hok b _ z
            obtain ⟨e2, _⟩ := hok' b _ (un.frzs b _ _ z)
            rw [e] at e1; cases e1
            exact e2
        obtain ⟨more, hm⟩ := un.tbls P #[] hHP
        have hP' : s'.heap.get? P = some { cls := .none, data := .fields (#[] ++ more) } := hok' P _ hm
        refine ⟨rfl, ⟨fun b o e => ?_, fun b o e => ?_⟩, os, bare⟩
        · by_cases z : b = P
          · subst z
            rw [hP] at e
            cases e
            exact .inr (.inl ⟨(hC.tab hP).isCodeTable, rfl, #[], more, rfl, hP'⟩)
          · exact .inl (keep b o z e)
        · by_cases z : b = P
          · subst z; exact ⟨_, hP'⟩
          · exact ⟨o, keep b o z e⟩
  cases hk : K.lookup a with
  | some o =>
    have e := KX a o hk
    rw [ha] at e
    cases e
    refine core (fun b => if b = P then some (.tbl #[]) else none) (if_pos rfl) (fun b z => .inl (if_neg z)) (.inr ⟨_, vs.toArray, _, hk, rfl, rfl, rfl, by rw [List.size_toArray, lenV]; exact hl, by simpa using rv⟩) (fun b u z => ?_) fun z => absurd (if_neg haP) z
    by_cases hb : b = P
    · have z' := (if_pos hb).symm.trans z
      cases z'
      subst hb
      exact hP
    · have z' := (if_neg hb).symm.trans z
      cases z'
  | none =>
    refine core (fun b => if b = P then some (.tbl #[]) else if b = a then some (.frz { cls := .type "list", data := .seq vs.toArray } (.lst (ns.map V.int))) else none) (if_pos rfl) (fun b z => ?_) (.inl (.inr ⟨{ cls := .type "list", data := .seq vs.toArray }, (if_neg haP).trans (if_pos rfl)⟩)) (fun b u z => ?_) fun _ => hk
    · by_cases hb : b = a
      · exact .inr ⟨_, hb, (if_neg z).trans (if_pos hb)⟩
      · exact .inl ((if_neg z).trans (if_neg hb))
    · by_cases hb : b = P
      · have z' := (if_pos hb).symm.trans z
        cases z'
        subst hb
        exact hP
      · have z1 := (if_neg hb).symm.trans z
        by_cases hb2 : b = a
        · have z' := (if_pos hb2).symm.trans z1
          cases z'
          subst hb2
          exact ⟨ha, by rw [List.length_map]; exact hl, vs, _, rv, ha⟩
        · have z' := (if_neg hb2).symm.trans z1
          cases z'
theorem walk_ofT {l : PySem.W.OpenLaw} {n k : Nat} {q : Program} {loose : List Str} {XP : (Str -> Option Value) -> Heap -> Prop} {YP : World -> Heap -> Prop} {d d0 : DefRec} {K : Params -> PySem.W.Frag} {CX : World -> CXT} {sp : World -> Addr -> Sp} {x x0 : Str}
    (hn : l.most = some n) (hn2 : n <= sizeLine) (hdf : d.params.defaults = []) (hr : Room k callerA)
    (h0 : (recsOf q).find? (fun e => e.name == x0) = some d0)
    (hY : ∀ (w : World) (h : Heap), YP w h -> (K w.params).In h)
    (F : ∀ (w : World) (mg : Str -> Option Value) (fa : Addr) (h : Heap), (K w.params).In h -> h.Ns mainGlobals mg -> mg d.name = some (.ref fa) ->
      ∃ (fd : FuncData) (c P : Addr), (∀ (s : Shared) (u : Value), BindsTo s fd ⟨[u], []⟩ [(x, u)]) /\ PySem.W.tabIn (K w.params) x0 = some (c, P) /\ PySem.W.codeHdIn (K w.params) c P = true /\ (K w.params).lookup P = none ∧
        ∀ base : Heap, (K w.params).In base -> base.Ns mainGlobals mg -> PySem.W.CodeHd base c P -> base.BuiltinsAt mg P -> FnOk l.prog w (K w.params) mg base (CX w) k fa fd [x] (sp w P))
    (hsp : ∀ (w : World) (H : Hp) (a P : Addr) (ns : List Int), ns.length <= n -> H P = some (.tbl #[]) -> SqL (K w.params) H a (ns.map V.int) -> sp w P [.ref a] H (fun v _ => v = .bl true) fun _ _ _ => False)
    (hCX : ∀ (w : World) (H : Hp) (s : Shared) (e : Value) (s' : Shared), CX w [] H s (fun _ _ _ => False) e s' -> False) :
    PySem.W.WalkO q loose XP YP l.row.toRowW d [] (fun f vs => PySem.call f vs) := by
  refine Att.attach_call hn hdf fun w s₀ s₁ mg mb fa o pm cd doc a vs ns G Y ho hd hcd hmg hobj hints hlen hg => ?_
  have KX := hY w _ Y
  obtain ⟨fd, c, P, hb, ht, hcd, hkp, hF⟩ := F w mg fa _ KX G.T.g hmg
  obtain ⟨hC, hP⟩ := PySem.W.tab_of G.T KX h0 ht
  exact law_callT KX G.T.g G.T.b G.T.builtins G.T.nolimit hg hobj hints (Nat.le_trans hlen hn2) hr hP hC G.T.bmain hkp (fun h X => PySem.W.codeHd_of_K X hcd) hF hb (fun H hO hS => hsp w H a P ns hlen hO hS) fun H e s' => hCX w H s₁ e s'
end L2
namespace L2
open PySem PySem.Spec PyProof.Rows
theorem call_maxL {X : Cx} (hc : X.calm = true) : CallR X (.builtin "max") (fun xs H Q => ∃ (a : Addr) (ns : List Int), xs = [.ref a] /\ SqL X.K H a (ns.map V.int) /\ ns ≠ [] /\ ∀ M, M ∈ ns -> (∀ n ∈ ns, n <= M) -> Q (.int M) H) := by
  intro pins s σ H xs us Q I r h
  obtain ⟨a, ns, rfl, hS, hne, q⟩ := h
  obtain ⟨u, rfl, ru⟩ := vals1 r
  cases (show u = Value.ref a from ru)
  obtain ⟨its, rv, p, hz⟩ := I.list hS
  have hi := intsAre_of rv
  obtain ⟨zs, e⟩ := (IntsAre.allInts hi).items
  have hl := p.isList
  rw [e] at hl
  have hns : ns = zs.toList.map (·.1) := by
    have n1 := nums_intItems (xs := zs)
    rw [<- e, show its.toArray.toList = its from rfl, IntsAre.numsOf hi] at n1
    exact n1
  have hsz : 0 < zs.size := by
    rcases Nat.eq_zero_or_pos zs.size with z | z
    · exfalso
      apply hne
      rw [hns]
      have : zs = #[] := Array.eq_empty_of_size_eq_zero z
      rw [this]
      rfl
    · exact z
  refine max_intList (I.ok.hd hc) hl hsz fun v h' tk hv hk => ?_
  obtain ⟨t, rfl⟩ := intItems_at hv
  obtain ⟨h1, h2⟩ := argBest_gt (numAt zs) (zs.size - 1)
  refine ⟨.int _, H, I.kept hk, ⟨t, rfl⟩, q _ ?_ fun n hn => ?_⟩
  · rw [hns, numAt_eq]; exact getD_mem (by rw [List.length_map, Array.length_toList]; omega)
  · rw [hns] at hn
    obtain ⟨j, hj, rfl⟩ := mem_getD hn
    rw [List.length_map, Array.length_toList] at hj
    rw [<- numAt_eq]; exact h2 j (by omega)
theorem dT_get {P : Program} {w : World} {H : Hp} {h : Heap} {a : Addr} {kvs : List (List Key × V)} (ok : ObjOk P w H h a (.dT kvs)) :
    (a == sysModules) = false /\ ∃ o, h.get? a = some o /\ o.ExactDict /\ ∃ es ep, o.data = .dict es ep /\ es.size = kvs.length /\ ∀ (i : Nat) k v, kvs[i]? = some (k, v) -> ∃ q ent, es[i]? = some ent /\ ent.key = .ref q /\ H q = some (.tup (k.map kV)) := by
  obtain ⟨z, y, xs, r, ob, es, ep, e2, ex, hd, he, nd⟩ := ok
  have hl : kvs.length = xs.length := Paired.length r
  refine ⟨y, ob, e2, ex, es, ep, hd, ?_, fun i k v hk => ?_⟩
  · rw [<- Array.length_toList, he, List.length_map, hl]
  · have get : ∀ {l1 : List (List Key × V)} {l2 : List (List Key × Addr × Value)} {i : Nat} {k : List Key} {v : V}, Paired (fun (p : List Key × V) (q : List Key × Addr × Value) => p.1 = q.1 /\ H q.2.1 = some (.tup (p.1.map kV)) /\ RelV p.2 q.2.2) l1 l2 -> l1[i]? = some (k, v) ->
        ∃ q : List Key × Addr × Value, l2[i]? = some q /\ H q.2.1 = some (.tup (k.map kV)) := by
      intro l1 l2 i k v r
      induction r generalizing i with
      | nil => intro z; simp at z
      | cons h t ih =>
        intro z
        cases i with
        | zero => simp at z; subst z; exact ⟨_, rfl, h.2.1⟩
        | succ j => exact ih (by simpa using z)
    obtain ⟨q, hq, ht⟩ := get r hk
    refine ⟨q.2.1, entryOfKey (tupleKind (mixKind P w)) q, ?_, rfl, ht⟩
    rw [<- Array.getElem?_toList, he, List.getElem?_map, hq]
    rfl
theorem keys_walk {P : Program} {w : World} {A : Around} (hh : A.handled = none) (it d : Addr) (hne : it ≠ d) (o : Obj) (es : Array DictEntry) (ep : Nat) (hd : o.data = .dict es ep) :
    Walks P w A it [it, d] [it] es.size (fun i v => ∃ ent, es[i]? = some ent /\ ent.key = v) (fun i h => h.IsKeyIter it d i es.size ep /\ h.get? d = some o) where
  sub := fun b hb => by rw [List.mem_singleton.mp hb]; exact .head _
  frame := fun i h h' st k => ⟨st.1.at fun o e => k it (.head _) o e, k d (.tail _ (.head _)) _ st.2⟩
  item := fun i s Q E hi st hQ => by
    refine ents_next st.1 st.2 hd (Array.getElem?_eq_getElem hi) fun h' st' sb => ?_
    exact hQ _ h' s.toks ⟨_, Array.getElem?_eq_getElem hi, rfl⟩ ⟨st', (sb.2 d (Ne.symm hne)).trans st.2⟩ fun b o hb e => (sb.2 b (fun z => hb (by rw [z]; exact .head _))).trans e
  done := fun s Q E st hQ => by
    refine ents_end hh st.1 st.2 hd (Nat.le_refl _) fun h' eb => ?_
    exact hQ h' s.toks fun b o hb e => eb b o (fun z => hb (by rw [z]; exact .head _)) e
  self := fun i s Q E st hQ => wpAny_pyIter_keyiter st.1 hQ
theorem keys_src {P : Program} {w : World} (d : Addr) (lo : (d == sysModules) = false) (o : Obj) (ex : o.ExactDict) (es : Array DictEntry) (ep : Nat) (hd : o.data = .dict es ep) :
    PySem.W.KdlSrc P w "dict" d d es.size (fun i v => ∃ ent, es[i]? = some ent /\ ent.key = v) (fun h => h.get? d = some o) where
  type := fun s e => ⟨o, e, ex.1⟩
  there := fun h e => ⟨Heap.lt_size e, Heap.lt_size e⟩
  keep := fun h h' e k => k d (.inl rfl) o e
  notList := by decide
  notTuple := by decide
  hint := fun A E s Q e hq => PySem.W.kdl_hint_dict ⟨o, e, ex.1⟩ hq
  iter := fun A s hh e => ⟨_, _, (fun E Q hq => ents_iter lo e ex hd hq), keys_walk hh _ d (Nat.ne_of_gt (Heap.lt_size e)) o es ep hd, ⟨⟨_, Heap.get?_push_size _ rfl, rfl, rfl⟩, Heap.get?_push_of_some _ e⟩⟩
theorem call_listK {X : Cx} (hc : X.calm = true) : CallR X (.type "list") (fun xs H Q => ∃ (d : Addr) (kvs : List (List Key × V)), xs = [.ref d] /\ (H d = some (.dT kvs) ∨ ∃ o, H d = some (.frz o (.dT kvs))) ∧
    ∀ (l : Addr) (qs : List Addr), H l = none -> qs.length = kvs.length -> (∀ (i : Nat) k v, kvs[i]? = some (k, v) -> ∃ q, qs[i]? = some q /\ H q = some (.tup (k.map kV))) -> Q (.ref l) (upd H l (.lst (qs.map V.ref)))) := by
  intro pins s σ H xs us Q I r h
  obtain ⟨d, kvs, rfl, hD, q⟩ := h
  obtain ⟨u, rfl, ru⟩ := vals1 r
  cases (show u = Value.ref d from ru)
  have ok : ObjOk X.prog X.w H s.heap d (.dT kvs) := by
    rcases hD with e | ⟨o, e⟩
    · exact I.hok d _ e
    · exact (I.hok d _ e).2
  have hz : kvs.length <= sizeLine := ok.1
  obtain ⟨lo, o, e, ex, es, ep, hd, hsz, get⟩ := dT_get ok
  refine PySem.W.kdl_call (keys_src d lo o ex es ep hd) (I.ok.hd hc) e (by rw [hsz]; exact hz) fun h' tk acc c hk hl hacc => ?_
  have key : ∀ (i : Nat), i < kvs.length -> ∃ q, acc.toList[i]? = some (Value.ref q) /\ ∀ k v, kvs[i]? = some (k, v) -> H q = some (.tup (k.map kV)) := fun i hi => by
    have hia : i < acc.size := by rw [hacc.1, hsz]; exact hi
    obtain ⟨ent, e1, e2⟩ := hacc.2 i _ (Array.getElem?_eq_getElem hia)
    obtain ⟨q, ent', e3, e4, e5⟩ := get i _ _ (List.getElem?_eq_getElem hi)
    rw [e1] at e3
    cases e3
    refine ⟨q, ?_, fun k v ek => ?_⟩
    · rw [Array.getElem?_toList, Array.getElem?_eq_getElem hia, <- e2, e4]
    · rw [List.getElem?_eq_getElem hi] at ek
      have ek := Option.some.inj ek
      have : kvs[i].1 = k := by rw [ek]
      rw [<- this]
      exact e5
  have hla : acc.toList.length = kvs.length := by rw [Array.length_toList, hacc.1, hsz]
  have eacc : acc.toList = (acc.toList.map adr).map Value.ref := by
    refine List.ext_getElem? fun i => ?_
    rw [List.getElem?_map, List.getElem?_map]
    by_cases hi : i < kvs.length
    · obtain ⟨q, e1, _⟩ := key i hi
      rw [e1]
      rfl
    · rw [List.getElem?_eq_none (by omega)]
      rfl
  refine ⟨.ref s.heap.objs.size, _, I.laid (t' := tk) hk (Nat.le_refl _) (show ObjOk X.prog X.w _ h' _ (.lst ((acc.toList.map adr).map V.ref)) from ⟨?_, acc.toList, c, ?_, ?_⟩), rfl, q _ (acc.toList.map adr) (I.hok.fresh (Nat.le_refl _)) (by rw [List.length_map, hla]) fun i k v ek => ?_⟩
  · rw [List.length_map, List.length_map, hla]; exact hz
  · have z := refs_vals (acc.toList.map adr)
    rw [<- eacc] at z
    exact z
  · rw [Array.toArray_toList]; exact hl
  · have hi := (List.getElem?_eq_some_iff.mp ek).1
    obtain ⟨q2, e1, e2⟩ := key i hi
    exact ⟨q2, by rw [List.getElem?_map, e1]; rfl, e2 k v ek⟩
end L2
namespace Fr
theorem gcd_turn (a b : Int) : Int.gcd b (a.fmod b) = Int.gcd a b := by
  rw [Int.fmod_def, Int.gcd_sub_mul_left_right, Int.gcd_comm]
theorem fmod_less {a b : Int} (hb : b ≠ 0) : (a.fmod b).natAbs < b.natAbs := by
  rcases Int.lt_or_gt_of_ne hb with h | h
  · have e : a.fmod b = -((-a).fmod (-b)) := by
      rw [Int.fmod_def, Int.fmod_def, Int.neg_fdiv_neg, Int.neg_mul]
      omega
    have h1 := Int.fmod_nonneg_of_pos (-a) (show (0 : Int) < -b by omega)
    have h2 := Int.fmod_lt_of_pos (-a) (show (0 : Int) < -b by omega)
    omega
  · have h1 := Int.fmod_nonneg_of_pos a h
    have h2 := Int.fmod_lt_of_pos a h
    omega
theorem gcd_abs (a b : Int) : Int.gcd a b = Int.gcd (if a < 0 then -a else a) (if b < 0 then -b else b) := by
  rw [Int.gcd_eq_natAbs_gcd_natAbs, Int.gcd_eq_natAbs_gcd_natAbs]
  congr 1
  · split <;> omega
  · split <;> omega
def dv (t b : Int) : Int := if b < 0 then -(Int.gcd t b : Int) else (Int.gcd t b : Int)
def sh (t b : Int) : Int × Int := (t.fdiv (dv t b), b.fdiv (dv t b))
structure IsFr (t b : Int) : Prop where
  pos : 0 < b
  red : Int.gcd t b = 1
theorem dv_natAbs (t b : Int) : (dv t b).natAbs = Int.gcd t b := by unfold dv; split <;> omega
theorem dv_ne {t b : Int} (hb : b ≠ 0) : dv t b ≠ 0 := by
  have := Int.gcd_pos_of_ne_zero_right t hb
  have e := dv_natAbs t b
  omega
theorem dv_dvd_left (t b : Int) : dv t b ∣ t := by
  have h := Int.gcd_dvd_left t b
  unfold dv
  split
  · exact Int.neg_dvd.mpr h
  · exact h
theorem dv_dvd_right (t b : Int) : dv t b ∣ b := by
  have h := Int.gcd_dvd_right t b
  unfold dv
  split
  · exact Int.neg_dvd.mpr h
  · exact h
theorem sh_fst (t b : Int) : (sh t b).1 * dv t b = t := Int.fdiv_mul_cancel (dv_dvd_left t b)
theorem sh_snd (t b : Int) : (sh t b).2 * dv t b = b := Int.fdiv_mul_cancel (dv_dvd_right t b)
theorem sh_cross (t b : Int) : (sh t b).1 * b = t * (sh t b).2 := by
  have h1 := sh_fst t b
  have h2 := sh_snd t b
  generalize (sh t b).1 = x at *
  generalize (sh t b).2 = y at *
  generalize dv t b = d at *
  rw [<- h1, <- h2]
  rw [Int.mul_assoc x d y, Int.mul_comm d y]
theorem sh_pos {t b : Int} (hb : b ≠ 0) : 0 < (sh t b).2 := by
  have h2 := sh_snd t b
  have g := Int.gcd_pos_of_ne_zero_right t hb
  rcases Int.lt_or_gt_of_ne hb with h | h
  · have e : dv t b < 0 := by unfold dv; rw [if_pos h]; omega
    rcases (by omega : 0 < (sh t b).2 ∨ (sh t b).2 <= 0) with q | q
    · exact q
    · have := Int.mul_nonneg_of_nonpos_of_nonpos q (Int.le_of_lt e)
      omega
  · have e : 0 < dv t b := by unfold dv; rw [if_neg (by omega)]; omega
    rcases (by omega : 0 < (sh t b).2 ∨ (sh t b).2 <= 0) with q | q
    · exact q
    · have := Int.mul_nonpos_of_nonpos_of_nonneg q (Int.le_of_lt e)
      omega
theorem sh_red {t b : Int} (hb : b ≠ 0) : Int.gcd (sh t b).1 (sh t b).2 = 1 := by
  have h := Int.gcd_mul_right (sh t b).1 (dv t b) (sh t b).2
  rw [sh_fst, sh_snd, dv_natAbs] at h
  have g := Int.gcd_pos_of_ne_zero_right t hb
  have : 1 * Int.gcd t b = Int.gcd (sh t b).1 (sh t b).2 * Int.gcd t b := by omega
  exact (Nat.eq_of_mul_eq_mul_right g this).symm
theorem sh_ok {t b : Int} (hb : b ≠ 0) : IsFr (sh t b).1 (sh t b).2 := ⟨sh_pos hb, sh_red hb⟩
theorem le_mul_abs {x d z : Int} (e : x * d = z) (hd : d ≠ 0) : x.natAbs <= z.natAbs := by
  rw [<- e, Int.natAbs_mul]
  have : 1 <= d.natAbs := by omega
  calc x.natAbs = x.natAbs * 1 := by omega
    _ <= x.natAbs * d.natAbs := Nat.mul_le_mul_left _ this
theorem sh_le1 {t b : Int} (hb : b ≠ 0) : (sh t b).1.natAbs <= t.natAbs := le_mul_abs (sh_fst t b) (dv_ne hb)
theorem sh_le2 {t b : Int} (hb : b ≠ 0) : (sh t b).2.natAbs <= b.natAbs := le_mul_abs (sh_snd t b) (dv_ne hb)
theorem cop {a b d : Int} (g : Int.gcd a b = 1) (h : b ∣ a * d) : b ∣ d := by
  have h1 := Int.natAbs_dvd_natAbs.mpr h
  rw [Int.natAbs_mul] at h1
  have h2 : Nat.Coprime b.natAbs a.natAbs := by
    show Nat.gcd b.natAbs a.natAbs = 1
    rw [Nat.gcd_comm]
    exact g
  exact Int.natAbs_dvd_natAbs.mp (h2.dvd_of_dvd_mul_left h1)
theorem unique {a b c d : Int} (p : IsFr a b) (q : IsFr c d) (e : a * d = c * b) : a = c /\ b = d := by
  have pp := p.pos
  have qp := q.pos
  have h1 : b ∣ d := by
    have : b ∣ a * d := ⟨c, by rw [e, Int.mul_comm]⟩
    exact cop p.red this
  have h2 : d ∣ b := by
    have : d ∣ c * b := ⟨a, by rw [<- e, Int.mul_comm]⟩
    exact cop q.red this
  have hbd : b = d := Int.dvd_antisymm (Int.le_of_lt pp) (Int.le_of_lt qp) h1 h2
  subst hbd
  exact ⟨Int.eq_of_mul_eq_mul_right (by omega) e, rfl⟩
end Fr
namespace Tb
structure Rw where
  t : Int
  b : Int
  w : Int
def T (B : Int) (r : Rw) : Int := r.t * (B / r.b)
def mx (x : Int) : Int := if 0 < x then x else 0
def S (B l0 l1 : Int) (rs : List Rw) : Int := (rs.map fun r => r.w * mx (T B r * l1 - l0 * B)).sum
def WT (B : Int) (rs : List Rw) : Int := (rs.map fun r => r.w * T B r).sum
def W (rs : List Rw) : Int := (rs.map (·.w)).sum
structure CM (B : Int) (rs : List Rw) : Prop where
  pos : 0 < B
  dv : ∀ r ∈ rs, 0 < r.b /\ r.b ∣ B
theorem W_cons (r : Rw) (rs : List Rw) : W (r :: rs) = r.w + W rs := by simp [W]
theorem WT_cons (B : Int) (r : Rw) (rs : List Rw) : WT B (r :: rs) = r.w * T B r + WT B rs := by simp [WT]
theorem S_cons (B l0 l1 : Int) (r : Rw) (rs : List Rw) : S B l0 l1 (r :: rs) = r.w * mx (T B r * l1 - l0 * B) + S B l0 l1 rs := by simp [S]
theorem S_append (B l0 l1 : Int) (xs ys : List Rw) : S B l0 l1 (xs ++ ys) = S B l0 l1 xs + S B l0 l1 ys := by simp [S]
theorem cof {B b : Int} (hb : 0 < b) (hB : 0 < B) (h : b ∣ B) : ∃ c, 0 < c /\ B = b * c /\ B / b = c := by
  obtain ⟨c, e⟩ := h
  have hc : 0 < c := by
    rcases (by omega : 0 < c ∨ c <= 0) with z | z
    · exact z
    · have := Int.mul_nonpos_of_nonneg_of_nonpos (Int.le_of_lt hb) z
      omega
  refine ⟨c, hc, e, ?_⟩
  rw [e, Int.mul_comm, Int.mul_ediv_cancel _ (by omega)]
theorem T_mul {B : Int} {r : Rw} (hb : 0 < r.b) (hB : 0 < B) (h : r.b ∣ B) : T B r * r.b = r.t * B := by
  obtain ⟨c, hc, e, q⟩ := cof hb hB h
  unfold T
  rw [q, e]
  grind
theorem mx_nn (x : Int) : 0 <= mx x := by unfold mx; split <;> omega
theorem mx_ge (x : Int) : x <= mx x := by unfold mx; split <;> omega
theorem S_hi {B l0 l1 ws tops : Int} (hw : 0 < ws) (hl : 0 < l1) (hc : l0 * (ws * B) = tops * l1) : ∀ {hi : List Rw}, (∀ r ∈ hi, tops <= T B r * ws) -> ws * S B l0 l1 hi = l1 * (ws * WT B hi - tops * W hi)
  | [], _ => by simp [S, WT, W]
  | r :: hi, h => by
    have ih := S_hi hw hl hc (fun x hx => h x (List.mem_cons_of_mem _ hx))
    have hr := h r List.mem_cons_self
    have e : ws * (T B r * l1 - l0 * B) = l1 * (T B r * ws - tops) := by grind
    have m : mx (T B r * l1 - l0 * B) = T B r * l1 - l0 * B := by
      unfold mx
      split
      · rfl
      · rename_i n
        have h1 : 0 <= l1 * (T B r * ws - tops) := Int.mul_nonneg (Int.le_of_lt hl) (by omega)
        rw [<- e] at h1
        rcases (by omega : T B r * l1 - l0 * B = 0 ∨ T B r * l1 - l0 * B < 0) with z | z
        · omega
        · have := Int.mul_neg_of_pos_of_neg hw z
          omega
    rw [S_cons, WT_cons, W_cons, m]
    have a1 : ws * (r.w * (T B r * l1 - l0 * B) + S B l0 l1 hi) = r.w * (ws * (T B r * l1 - l0 * B)) + ws * S B l0 l1 hi := by grind
    rw [a1, e, ih]
    grind
theorem S_lo {B l0 l1 ws tops : Int} (hw : 0 < ws) (hl : 0 < l1) (hc : l0 * (ws * B) = tops * l1) : ∀ {lo : List Rw}, (∀ r ∈ lo, T B r * ws <= tops) -> S B l0 l1 lo = 0
  | [], _ => by simp [S]
  | r :: lo, h => by
    have ih := S_lo hw hl hc (fun x hx => h x (List.mem_cons_of_mem _ hx))
    have hr := h r List.mem_cons_self
    have e : ws * (T B r * l1 - l0 * B) = l1 * (T B r * ws - tops) := by grind
    have m : mx (T B r * l1 - l0 * B) = 0 := by
      unfold mx
      split
      · rename_i n
        have h1 := Int.mul_pos hw n
        have h2 : l1 * (T B r * ws - tops) <= 0 := Int.mul_nonpos_of_nonneg_of_nonpos (Int.le_of_lt hl) (by omega)
        omega
      · rfl
    rw [S_cons, m, ih]
    simp
theorem level_has {B l0 l1 ws tops P : Int} {lo hi : List Rw} (hw : 0 < ws) (hl : 0 < l1) (hc : l0 * (ws * B) = tops * l1) (ew : ws = W hi) (et : tops = WT B hi - P) (h1 : ∀ r ∈ hi, tops <= T B r * ws) (h2 : ∀ r ∈ lo, T B r * ws <= tops) :
    S B l0 l1 (lo ++ hi) = P * l1 := by
  have a := S_hi hw hl hc h1
  have b := S_lo hw hl hc h2
  rw [S_append, b, Int.zero_add]
  have : ws * S B l0 l1 hi = ws * (P * l1) := by rw [a, <- ew]; grind
  exact Int.eq_of_mul_eq_mul_left (by omega) this
theorem S_ge (B m0 m1 : Int) : ∀ {hi : List Rw}, (∀ r ∈ hi, 0 <= r.w) -> m1 * WT B hi - m0 * B * W hi <= S B m0 m1 hi
  | [], _ => by simp [S, WT, W]
  | r :: hi, h => by
    have ih := S_ge B m0 m1 (fun x hx => h x (List.mem_cons_of_mem _ hx))
    have hr := h r List.mem_cons_self
    have g := Int.mul_le_mul_of_nonneg_left (mx_ge (T B r * m1 - m0 * B)) hr
    rw [S_cons, WT_cons, W_cons]
    have e : m1 * (r.w * T B r + WT B hi) - m0 * B * (r.w + W hi) = r.w * (T B r * m1 - m0 * B) + (m1 * WT B hi - m0 * B * W hi) := by grind
    rw [e]
    omega
theorem S_nn (B m0 m1 : Int) : ∀ {lo : List Rw}, (∀ r ∈ lo, 0 <= r.w) -> 0 <= S B m0 m1 lo
  | [], _ => by simp [S]
  | r :: lo, h => by
    have ih := S_nn B m0 m1 (fun x hx => h x (List.mem_cons_of_mem _ hx))
    have g := Int.mul_nonneg (h r List.mem_cons_self) (mx_nn (T B r * m1 - m0 * B))
    rw [S_cons]
    omega
theorem lower_more {B l0 l1 m0 m1 ws tops P : Int} {lo hi : List Rw} (hB : 0 < B) (hw : 0 < ws) (hl : 0 < l1) (hc : l0 * (ws * B) = tops * l1) (ew : ws = W hi) (et : tops = WT B hi - P)
    (hp : ∀ r ∈ lo ++ hi, 0 <= r.w) (lt : m0 * l1 < l0 * m1) : P * m1 < S B m0 m1 (lo ++ hi) := by
  have a := S_ge B m0 m1 (hi := hi) (fun r hr => hp r (List.mem_append_right _ hr))
  have b := S_nn B m0 m1 (lo := lo) (fun r hr => hp r (List.mem_append_left _ hr))
  rw [S_append]
  have q := Int.mul_lt_mul_of_pos_left lt (Int.mul_pos hw hB)
  have e1 : ws * B * (m0 * l1) = l1 * (m0 * B * ws) := by grind
  have e2 : ws * B * (l0 * m1) = l1 * (m1 * tops) := by grind
  rw [e1, e2] at q
  have q2 : m0 * B * ws < m1 * tops := Int.lt_of_mul_lt_mul_left q (Int.le_of_lt hl)
  have e3 : m1 * WT B hi - m0 * B * W hi = m1 * tops + P * m1 - m0 * B * ws := by rw [<- ew]; grind
  omega
def Le (x y : Rw) : Prop := x.t * y.b <= y.t * x.b
theorem T_mono {B : Int} {x y : Rw} (hB : 0 < B) (hx : 0 < x.b) (hy : 0 < y.b) (dx : x.b ∣ B) (dy : y.b ∣ B) (h : Le x y) : T B x <= T B y := by
  have e1 := T_mul hx hB dx
  have e2 := T_mul hy hB dy
  have g := Int.mul_le_mul_of_nonneg_left h (Int.le_of_lt hB)
  have k : (x.b * y.b) * T B x <= (x.b * y.b) * T B y := by
    have a1 : (x.b * y.b) * T B x = B * (x.t * y.b) := by grind
    have a2 : (x.b * y.b) * T B y = B * (y.t * x.b) := by grind
    rw [a1, a2]
    exact g
  exact Int.le_of_mul_le_mul_left k (Int.mul_pos hx hy)
structure Lp (B P : Int) (rs : List Rw) (i : Nat) (tops ws : Int) : Prop where
  le : i <= rs.length
  ew : ws = W (rs.drop (rs.length - i))
  et : tops = WT B (rs.drop (rs.length - i)) - P
  hi : 0 < i -> ∀ r ∈ rs.drop (rs.length - i), tops <= T B r * ws
  z : P = 0 -> i <= 1
theorem Lp.start {B P : Int} {rs : List Rw} (e : 0 <= P) : Lp B P rs 0 (-P) 0 := by
  refine ⟨Nat.zero_le _, ?_, ?_, fun h => absurd h (by omega), fun _ => by omega⟩
  · simp [W]
  · simp [WT]
structure Tab (B : Int) (rs : List Rw) : Prop where
  cm : CM B rs
  w : ∀ r ∈ rs, 1 <= r.w
  so : rs.Pairwise Le
theorem W_pos : ∀ {rs : List Rw}, (∀ r ∈ rs, 1 <= r.w) -> rs ≠ [] -> 0 < W rs
  | [], _, h => absurd rfl h
  | [r], h, _ => by
    have := h r List.mem_cons_self
    simp [W]
    omega
  | r :: s :: rs, h, _ => by
    have := h r List.mem_cons_self
    have q := W_pos (rs := s :: rs) (fun x hx => h x (List.mem_cons_of_mem _ hx)) (by simp)
    rw [W_cons]
    omega
theorem drop_next {rs : List Rw} {i : Nat} (h : i < rs.length) : ∃ r, rs[rs.length - 1 - i]? = some r /\ rs.drop (rs.length - (i + 1)) = r :: rs.drop (rs.length - i) /\ r ∈ rs := by
  have hk : rs.length - 1 - i < rs.length := by omega
  refine ⟨rs[rs.length - 1 - i], List.getElem?_eq_getElem hk, ?_, List.getElem_mem hk⟩
  have e1 : rs.length - (i + 1) = rs.length - 1 - i := by omega
  have e2 : rs.length - i = rs.length - 1 - i + 1 := by omega
  rw [e1, e2]
  exact List.drop_eq_getElem_cons hk
theorem Tab.mono {B : Int} {rs : List Rw} (tb : Tab B rs) {x y : Rw} (hx : x ∈ rs) (hy : y ∈ rs) (h : Le x y) : T B x <= T B y :=
  T_mono tb.cm.pos (tb.cm.dv x hx).1 (tb.cm.dv y hy).1 (tb.cm.dv x hx).2 (tb.cm.dv y hy).2 h
theorem Lp.ws_pos {B P tops ws : Int} {rs : List Rw} {i : Nat} (tb : Tab B rs) (l : Lp B P rs i tops ws) (h : 0 < i) : 0 < ws := by
  rw [l.ew]
  have := l.le
  refine W_pos (fun r hr => tb.w r (List.mem_of_mem_drop hr)) ?_
  intro e
  have := congrArg List.length e
  simp at this
  omega
theorem Lp.next {B P tops ws : Int} {rs : List Rw} {i : Nat} {r : Rw} (tb : Tab B rs) (hP : 0 <= P) (l : Lp B P rs i tops ws) (hi : i < rs.length) (hr : rs[rs.length - 1 - i]? = some r) (go : ¬ (0 < ws /\ T B r * ws <= tops)) :
    Lp B P rs (i + 1) (tops + r.w * T B r) (ws + r.w) := by
  obtain ⟨r', e1, e2, hm⟩ := drop_next hi
  rw [hr] at e1
  cases e1
  have hw := tb.w r hm
  have last : tops <= T B r * ws := by
    by_cases h0 : 0 < i
    · have := l.ws_pos tb h0
      omega
    · have z : i = 0 := by omega
      subst z
      have a := l.ew
      have b := l.et
      simp [W] at a
      simp [WT] at b
      rw [a, b]
      omega
  have mine : tops + r.w * T B r <= T B r * (ws + r.w) := by
    have : T B r * (ws + r.w) = T B r * ws + r.w * T B r := by grind
    omega
  have wp : 0 < ws + r.w := by
    by_cases h0 : 0 < i
    · have := l.ws_pos tb h0
      omega
    · have z : i = 0 := by omega
      subst z
      have a := l.ew
      simp [W] at a
      omega
  refine ⟨hi, ?_, ?_, fun _ x hx => ?_, fun p0 => ?_⟩
  · rw [e2, W_cons, <- l.ew]; omega
  · rw [e2, WT_cons, l.et]; omega
  · rw [e2] at hx
    rcases List.mem_cons.mp hx with z | z
    · subst z; exact mine
    · have pw : (r :: rs.drop (rs.length - i)).Pairwise Le := by
        rw [<- e2]
        exact tb.so.sublist (List.drop_sublist _ _)
      have le := (List.pairwise_cons.mp pw).1 x z
      have tm := tb.mono hm (List.mem_of_mem_drop z) le
      have := Int.mul_le_mul_of_nonneg_right tm (Int.le_of_lt wp)
      omega
  · have k := l.z p0
    rcases (by omega : i = 0 ∨ i = 1) with z | z
    · omega
    · exfalso
      subst z
      apply go
      have wp1 := l.ws_pos tb (by decide)
      refine ⟨wp1, ?_⟩
      obtain ⟨r2, f1, f2, fm⟩ := drop_next (rs := rs) (i := 0) (by omega)
      have f3 : rs.drop (rs.length - 1) = [r2] := by
        have : rs.drop (rs.length - 0) = [] := by simp
        rw [f2, this]
      have a := l.ew
      have b := l.et
      rw [f3] at a b
      simp [W] at a
      simp [WT] at b
      have pw : (r :: rs.drop (rs.length - 1)).Pairwise Le := by
        rw [<- e2]
        exact tb.so.sublist (List.drop_sublist _ _)
      have le := (List.pairwise_cons.mp pw).1 r2 (by rw [f3]; exact List.mem_cons_self)
      have tm := tb.mono hm fm le
      have := Int.mul_le_mul_of_nonneg_right tm (Int.le_of_lt wp1)
      rw [b, a] at *
      have e : T B r2 * r2.w = r2.w * T B r2 := Int.mul_comm _ _
      omega
structure Lv (B P l0 l1 : Int) (rs : List Rw) : Prop where
  pos : 0 < l1
  has : S B l0 l1 rs = P * l1
  more : ∀ m0 m1 : Int, m0 * l1 < l0 * m1 -> P * m1 < S B m0 m1 rs
theorem Lp.ends {B P tops ws l0 l1 : Int} {rs : List Rw} {i : Nat} (tb : Tab B rs) (l : Lp B P rs i tops ws) (h0 : 0 < i) (stop : i = rs.length ∨ ∃ r, rs[rs.length - 1 - i]? = some r /\ i < rs.length /\ T B r * ws <= tops)
    (hl : 0 < l1) (hc : l0 * (ws * B) = tops * l1) : Lv B P l0 l1 rs := by
  have wp := l.ws_pos tb h0
  have e : rs = rs.take (rs.length - i) ++ rs.drop (rs.length - i) := (List.take_append_drop _ _).symm
  have lo : ∀ r ∈ rs.take (rs.length - i), T B r * ws <= tops := by
    rcases stop with z | ⟨r, hr, hi, ht⟩
    · subst z
      simp
    · intro x hx
      obtain ⟨j, hj, ex⟩ := List.mem_iff_getElem.mp hx
      rw [List.length_take] at hj
      rw [List.getElem_take] at ex
      have hk : rs.length - 1 - i < rs.length := by omega
      rw [List.getElem?_eq_getElem hk] at hr
      have er := Option.some.inj hr
      have tm : T B x <= T B r := by
        by_cases ej : j = rs.length - 1 - i
        · subst ej
          rw [<- ex, <- er]
          exact Int.le_refl _
        · have le := List.pairwise_iff_getElem.mp tb.so j (rs.length - 1 - i) (by omega) hk (by omega)
          rw [ex, er] at le
          exact tb.mono (by rw [<- ex]; exact List.getElem_mem _) (by rw [<- er]; exact List.getElem_mem _) le
      have := Int.mul_le_mul_of_nonneg_right tm (Int.le_of_lt wp)
      omega
  refine ⟨hl, ?_, fun m0 m1 lt => ?_⟩
  · rw [e]
    exact level_has wp hl hc l.ew l.et (l.hi h0) lo
  · rw [e]
    exact lower_more tb.cm.pos wp hl hc l.ew l.et (fun r hr => by rw [<- e] at hr; have := tb.w r hr; omega) lt
theorem Lp.zero {B tops ws : Int} {rs : List Rw} {i : Nat} (tb : Tab B rs) (fr : ∀ r ∈ rs, Fr.IsFr r.t r.b) (l : Lp B 0 rs i tops ws) (h0 : 0 < i) : ∃ r, rs[rs.length - 1]? = some r /\ (Fr.sh tops (ws * B)) = (r.t, r.b) := by
  have k := l.z rfl
  have z : i = 1 := by omega
  subst z
  have hle := l.le
  obtain ⟨r2, f1, f2, fm⟩ := drop_next (rs := rs) (i := 0) (by omega)
  have f3 : rs.drop (rs.length - 1) = [r2] := by
    have : rs.drop (rs.length - 0) = [] := by simp
    rw [f2, this]
  have a := l.ew
  have b := l.et
  rw [f3] at a b
  simp [W] at a
  simp [WT] at b
  have hw := tb.w r2 fm
  have hB := tb.cm.pos
  have hb := (tb.cm.dv r2 fm).1
  refine ⟨r2, by simpa using f1, ?_⟩
  have ne : ws * B ≠ 0 := Int.ne_of_gt (Int.mul_pos (by omega) hB)
  have cr := Fr.sh_cross tops (ws * B)
  have tm := T_mul hb hB (tb.cm.dv r2 fm).2
  have ok := Fr.sh_ok (t := tops) ne
  have q : (Fr.sh tops (ws * B)).1 * r2.b = r2.t * (Fr.sh tops (ws * B)).2 := by
    generalize (Fr.sh tops (ws * B)).1 = x at *
    generalize (Fr.sh tops (ws * B)).2 = y at *
    rw [a, b] at cr
    have : (r2.w * B) * (x * r2.b) = (r2.w * B) * (r2.t * y) := by grind
    exact Int.eq_of_mul_eq_mul_left (Int.ne_of_gt (Int.mul_pos (by omega) hB)) this
  obtain ⟨u1, u2⟩ := Fr.unique ok (fr r2 fm) q
  exact Prod.ext u1 u2
end Tb
namespace Tb
def Wt (ps : List Rw) (t b : Int) : Int := (ps.map fun r => if r.t = t /\ r.b = b then r.w else 0).sum
def Has (ps : List Rw) (t b : Int) : Prop := ∃ p ∈ ps, p.t = t /\ p.b = b
def Lt (x y : Rw) : Prop := x.t * y.b < y.t * x.b
structure IsTab (ps ys : List Rw) : Prop where
  lt : ys.Pairwise Lt
  fr : ∀ y ∈ ys, Fr.IsFr y.t y.b
  has : ∀ t b, Has ys t b ↔ Has ps t b
  d : ∃ d, 0 < d /\ ∀ y ∈ ys, Wt ps y.t y.b = y.w * d
  one : ∀ e : Int, (∀ y ∈ ys, e ∣ y.w) -> e ∣ 1
theorem Wt_nil (t b : Int) : Wt [] t b = 0 := rfl
theorem Wt_cons (r : Rw) (ps : List Rw) (t b : Int) : Wt (r :: ps) t b = (if r.t = t /\ r.b = b then r.w else 0) + Wt ps t b := by simp [Wt]
theorem Wt_append (ps qs : List Rw) (t b : Int) : Wt (ps ++ qs) t b = Wt ps t b + Wt qs t b := by simp [Wt]
theorem Has_append {ps qs : List Rw} {t b : Int} : Has (ps ++ qs) t b ↔ Has ps t b ∨ Has qs t b := by
  constructor
  · rintro ⟨p, hp, e⟩
    rcases List.mem_append.mp hp with z | z
    · exact .inl ⟨p, z, e⟩
    · exact .inr ⟨p, z, e⟩
  · rintro (⟨p, hp, e⟩ | ⟨p, hp, e⟩)
    · exact ⟨p, List.mem_append_left _ hp, e⟩
    · exact ⟨p, List.mem_append_right _ hp, e⟩
theorem Has_cons {r : Rw} {ps : List Rw} {t b : Int} : Has (r :: ps) t b ↔ (r.t = t /\ r.b = b) ∨ Has ps t b := by
  constructor
  · rintro ⟨p, hp, e⟩
    rcases List.mem_cons.mp hp with z | z
    · subst z; exact .inl e
    · exact .inr ⟨p, z, e⟩
  · rintro (e | ⟨p, hp, e⟩)
    · exact ⟨r, List.mem_cons_self, e⟩
    · exact ⟨p, List.mem_cons_of_mem _ hp, e⟩
theorem Has_nil {t b : Int} : ¬ Has [] t b := by rintro ⟨p, hp, _⟩; cases hp
theorem Wt_zero : ∀ {ps : List Rw} {t b : Int}, ¬ Has ps t b -> Wt ps t b = 0
  | [], _, _, _ => rfl
  | r :: ps, t, b, h => by
    rw [Wt_cons, if_neg fun e => h (Has_cons.mpr (.inl e)), Wt_zero fun e => h (Has_cons.mpr (.inr e))]
    rfl
theorem Wt_nn : ∀ {ps : List Rw} (t b : Int), (∀ r ∈ ps, 1 <= r.w) -> 0 <= Wt ps t b
  | [], _, _, _ => Int.le_refl 0
  | r :: ps, t, b, h => by
    have := Wt_nn t b fun x hx => h x (List.mem_cons_of_mem _ hx)
    have hr := h r List.mem_cons_self
    rw [Wt_cons]
    split <;> omega
theorem Wt_pos : ∀ {ps : List Rw} {t b : Int}, (∀ r ∈ ps, 1 <= r.w) -> Has ps t b -> 1 <= Wt ps t b
  | [], _, _, _, h => absurd h Has_nil
  | r :: ps, t, b, h, q => by
    have hr := h r List.mem_cons_self
    have hn := Wt_nn t b fun x hx => h x (List.mem_cons_of_mem _ hx)
    rw [Wt_cons]
    split
    · omega
    · rename_i ne
      rcases Has_cons.mp q with z | z
      · exact absurd z ne
      · have := Wt_pos (fun x hx => h x (List.mem_cons_of_mem _ hx)) z
        omega
theorem Wt_le : ∀ {ps : List Rw} (t b : Int), (∀ r ∈ ps, 1 <= r.w) -> Wt ps t b <= W ps
  | [], _, _, _ => Int.le_refl 0
  | r :: ps, t, b, h => by
    have hr := h r List.mem_cons_self
    have := Wt_le t b fun x hx => h x (List.mem_cons_of_mem _ hx)
    rw [Wt_cons, W_cons]
    split <;> omega
theorem Lt_irr {x y : Rw} (h : Lt x y) (e1 : x.t = y.t) (e2 : x.b = y.b) : False := by
  unfold Lt at h
  rw [e1, e2] at h
  omega
theorem same_keys : ∀ {xs ys : List Rw}, xs.Pairwise Lt -> ys.Pairwise Lt -> (∀ t b, Has xs t b ↔ Has ys t b) -> xs.map (fun r => (r.t, r.b)) = ys.map fun r => (r.t, r.b)
  | [], [], _, _, _ => rfl
  | [], y :: ys, _, _, h => absurd ((h y.t y.b).mpr (Has_cons.mpr (.inl ⟨rfl, rfl⟩))) Has_nil
  | x :: xs, [], _, _, h => absurd ((h x.t x.b).mp (Has_cons.mpr (.inl ⟨rfl, rfl⟩))) Has_nil
  | x :: xs, y :: ys, hx, hy, h => by
    obtain ⟨x1, x2⟩ := List.pairwise_cons.mp hx
    obtain ⟨y1, y2⟩ := List.pairwise_cons.mp hy
    have e : y.t = x.t /\ y.b = x.b := by
      rcases Has_cons.mp ((h x.t x.b).mp (Has_cons.mpr (.inl ⟨rfl, rfl⟩))) with z | ⟨p, hp, p1, p2⟩
      · exact z
      · rcases Has_cons.mp ((h y.t y.b).mpr (Has_cons.mpr (.inl ⟨rfl, rfl⟩))) with z | ⟨q, hq, q1, q2⟩
        · exact ⟨z.1.symm, z.2.symm⟩
        · have a := y1 p hp
          have b := x1 q hq
          unfold Lt at a b
          rw [p1, p2] at a
          rw [q1, q2] at b
          omega
    have tl : ∀ t b, Has xs t b ↔ Has ys t b := fun t b => by
      constructor
      · rintro ⟨p, hp, p1, p2⟩
        rcases Has_cons.mp ((h t b).mp (Has_cons.mpr (.inr ⟨p, hp, p1, p2⟩))) with z | z
        · exact (Lt_irr (x1 p hp) (by rw [p1, <- z.1, e.1]) (by rw [p2, <- z.2, e.2])).elim
        · exact z
      · rintro ⟨p, hp, p1, p2⟩
        rcases Has_cons.mp ((h t b).mpr (Has_cons.mpr (.inr ⟨p, hp, p1, p2⟩))) with z | z
        · exact (Lt_irr (y1 p hp) (by rw [p1, <- z.1, e.1]) (by rw [p2, <- z.2, e.2])).elim
        · exact z
    rw [List.map_cons, List.map_cons, same_keys x2 y2 tl, e.1, e.2]
theorem prim_eq {α : Type} {l : List α} {u v : α -> Int} {A B : Int} (hA : 0 < A) (hB : 0 < B) (e : ∀ x ∈ l, A * u x = B * v x) (hu : ∀ d : Int, (∀ x ∈ l, d ∣ u x) -> d ∣ 1) (hv : ∀ d : Int, (∀ x ∈ l, d ∣ v x) -> d ∣ 1) : ∀ x ∈ l, u x = v x := by
  have ok := Fr.sh_ok (t := A) (Int.ne_of_gt hB)
  have f1 := Fr.sh_fst A B
  have f2 := Fr.sh_snd A B
  have dn := Fr.dv_ne (t := A) (Int.ne_of_gt hB)
  generalize (Fr.sh A B).1 = a at *
  generalize (Fr.sh A B).2 = b at *
  generalize Fr.dv A B = g at *
  have e2 : ∀ x ∈ l, a * u x = b * v x := fun x hx => by
    have := e x hx
    rw [<- f1, <- f2] at this
    have : g * (a * u x) = g * (b * v x) := by grind
    exact Int.eq_of_mul_eq_mul_left dn this
  have hb : b ∣ 1 := hu b fun x hx => Fr.cop ok.red ⟨v x, e2 x hx⟩
  have ha : a ∣ 1 := hv a fun x hx => Fr.cop (a := b) (by rw [Int.gcd_comm]; exact ok.red) ⟨u x, (e2 x hx).symm⟩
  have b1 : b = 1 := by
    have := Int.le_of_dvd (by decide) hb
    have := ok.pos
    omega
  have a1 : a = 1 := by
    have z : a = 1 ∨ a = -1 := by
      have := Int.natAbs_dvd_natAbs.mpr ha
      have := Nat.dvd_one.mp this
      omega
    rcases z with z | z
    · exact z
    · exfalso
      rw [z] at f1
      rw [b1] at f2
      omega
  intro x hx
  have := e2 x hx
  rw [a1, b1] at this
  omega
theorem unique_tab {ps ps' ys ys' : List Rw} {c c' : Int} (h : IsTab ps ys) (h' : IsTab ps' ys') (hc : 0 < c) (hc' : 0 < c') (hh : ∀ t b, Has ps t b ↔ Has ps' t b) (e : ∀ t b, c * Wt ps t b = c' * Wt ps' t b) : ys = ys' := by
  have ek := same_keys h.lt h'.lt fun t b => (h.has t b).trans ((hh t b).trans (h'.has t b).symm)
  have hl : ys.length = ys'.length := by simpa using congrArg List.length ek
  obtain ⟨d, d0, dd⟩ := h.d
  obtain ⟨d', d0', dd'⟩ := h'.d
  have kk : ∀ (i : Nat) (h1 : i < ys.length) (h2 : i < ys'.length), ys[i].t = ys'[i].t /\ ys[i].b = ys'[i].b := fun i h1 h2 => by
    have q : (ys.map fun r => (r.t, r.b))[i]? = (ys'.map fun r => (r.t, r.b))[i]? := by rw [ek]
    rw [List.getElem?_map, List.getElem?_map, List.getElem?_eq_getElem h1, List.getElem?_eq_getElem h2] at q
    injection q with q
    injection q with q1 q2
    exact ⟨q1, q2⟩
  have ww := prim_eq (l := List.range ys.length) (u := fun i => (ys.getD i ⟨0, 0, 0⟩).w) (v := fun i => (ys'.getD i ⟨0, 0, 0⟩).w) (A := c * d) (B := c' * d') (Int.mul_pos hc d0) (Int.mul_pos hc' d0') (fun i hi => by
    have h1 := List.mem_range.mp hi
    have h2 : i < ys'.length := by omega
    have g1 : ys.getD i ⟨0, 0, 0⟩ = ys[i] := by simp [h1]
    have g2 : ys'.getD i ⟨0, 0, 0⟩ = ys'[i] := by simp [h2]
    show c * d * (ys.getD i ⟨0, 0, 0⟩).w = c' * d' * (ys'.getD i ⟨0, 0, 0⟩).w
    rw [g1, g2]
    have a1 := dd ys[i] (List.getElem_mem h1)
    have a2 := dd' ys'[i] (List.getElem_mem h2)
    have a3 := e ys[i].t ys[i].b
    rw [a1] at a3
    rw [(kk i h1 h2).1, (kk i h1 h2).2, a2] at a3
    grind) (fun k hk => h.one k fun y hy => by
    obtain ⟨i, hi, ei⟩ := List.mem_iff_getElem.mp hy
    have := hk i (List.mem_range.mpr hi)
    have g1 : ys.getD i ⟨0, 0, 0⟩ = ys[i] := by simp [hi]
    rw [g1, ei] at this
    exact this) (fun k hk => h'.one k fun y hy => by
    obtain ⟨i, hi, ei⟩ := List.mem_iff_getElem.mp hy
    have := hk i (List.mem_range.mpr (by omega))
    have g1 : ys'.getD i ⟨0, 0, 0⟩ = ys'[i] := by simp [hi]
    rw [g1, ei] at this
    exact this)
  refine List.ext_getElem hl fun i h1 h2 => ?_
  have q := ww i (List.mem_range.mpr h1)
  have g1 : ys.getD i ⟨0, 0, 0⟩ = ys[i] := by simp [h1]
  have g2 : ys'.getD i ⟨0, 0, 0⟩ = ys'[i] := by simp [h2]
  simp only [g1, g2] at q
  have k := kk i h1 h2
  cases e1 : ys[i]
  cases e2 : ys'[i]
  rw [e1, e2] at q k
  simp_all
theorem key_mono {t b u c m : Int} (hb : 0 < b) (hc : 0 < c) (bm : b <= m) (cm : c <= m) (lt : t * c < u * b) : (t * (m * m)).fdiv b < (u * (m * m)).fdiv c := by
  have hm : 0 < m := by omega
  rw [Int.fdiv_eq_ediv_of_nonneg _ (Int.le_of_lt hb), Int.fdiv_eq_ediv_of_nonneg _ (Int.le_of_lt hc)]
  have k1 : (t * (m * m)) / b * b <= t * (m * m) := Int.ediv_mul_le _ (Int.ne_of_gt hb)
  have hbc : b * c <= m * m := Int.mul_le_mul bm cm (Int.le_of_lt hc) (Int.le_of_lt hm)
  have h1 : (t * c + 1) * (m * m) <= u * b * (m * m) := Int.mul_le_mul_of_nonneg_right (by omega) (Int.le_of_lt (Int.mul_pos hm hm))
  suffices h : (t * (m * m)) / b + 1 <= (u * (m * m)) / c by omega
  refine (Int.le_ediv_iff_mul_le hc).mpr ?_
  have h2 : b * (((t * (m * m)) / b + 1) * c) <= b * (u * (m * m)) := by
    have e1 : b * (((t * (m * m)) / b + 1) * c) = c * ((t * (m * m)) / b * b) + b * c := by grind
    have e2 : b * (u * (m * m)) = u * b * (m * m) := by grind
    have e3 : (t * c + 1) * (m * m) = c * (t * (m * m)) + m * m := by grind
    have h3 := Int.mul_le_mul_of_nonneg_left k1 (Int.le_of_lt hc)
    omega
  exact Int.le_of_mul_le_mul_left h2 hb
def gcdL (ns : List Int) : Int := ns.foldl (fun d n => ((Int.gcd d n : Nat) : Int)) 0
theorem gcdL_snoc (ns : List Int) (n : Int) : gcdL (ns ++ [n]) = ((Int.gcd (gcdL ns) n : Nat) : Int) := by unfold gcdL; rw [List.foldl_append]; rfl
theorem gcd_fold : ∀ (ns : List Int) (d : Int), (ns.foldl (fun d n => ((Int.gcd d n : Nat) : Int)) d ∣ d) /\ (∀ n ∈ ns, ns.foldl (fun d n => ((Int.gcd d n : Nat) : Int)) d ∣ n) /\ ∀ e : Int, e ∣ d -> (∀ n ∈ ns, e ∣ n) -> e ∣ ns.foldl (fun d n => ((Int.gcd d n : Nat) : Int)) d
  | [], d => ⟨Int.dvd_refl d, (fun _ h => nomatch h), fun e h _ => h⟩
  | n :: ns, d => by
    obtain ⟨a, b, c⟩ := gcd_fold ns ((Int.gcd d n : Nat) : Int)
    refine ⟨Int.dvd_trans a (Int.gcd_dvd_left d n), fun k hk => ?_, fun e he hn => c e (Int.dvd_coe_gcd he (hn n List.mem_cons_self)) fun k hk => hn k (List.mem_cons_of_mem _ hk)⟩
    rcases List.mem_cons.mp hk with z | z
    · subst z; exact Int.dvd_trans a (Int.gcd_dvd_right d k)
    · exact b k z
theorem gcdL_dvd {ns : List Int} {n : Int} (h : n ∈ ns) : gcdL ns ∣ n := (gcd_fold ns 0).2.1 n h
theorem gcdL_great {ns : List Int} {e : Int} (h : ∀ n ∈ ns, e ∣ n) : e ∣ gcdL ns := (gcd_fold ns 0).2.2 e (Int.dvd_zero e) h
theorem gcdL_nn : ∀ (ns : List Int) (d : Int), 0 <= d -> 0 <= ns.foldl (fun d n => ((Int.gcd d n : Nat) : Int)) d
  | [], _, h => h
  | n :: ns, d, _ => gcdL_nn ns _ (Int.natCast_nonneg _)
theorem gcdL_pos {ns : List Int} {n : Int} (h : n ∈ ns) (hn : 1 <= n) : 0 < gcdL ns := by
  have h0 : 0 <= gcdL ns := gcdL_nn ns 0 (Int.le_refl 0)
  rcases (by omega : 0 < gcdL ns ∨ gcdL ns = 0) with z | z
  · exact z
  · have := gcdL_dvd h
    rw [z] at this
    have := Int.zero_dvd.mp this
    omega
end Tb
set_option maxHeartbeats 4000000
namespace TD
open PySem L2
open Builtin.Int (intBits)
structure Row where
  p : Addr
  q : Addr
  t : Int
  b : Int
  w : Int
def Row.r (x : Row) : Tb.Rw := ⟨x.t, x.b, x.w⟩
def RowAt (H : Hp) (x : Row) : Prop := H x.p = some (.tup [.ref x.q, .int x.w]) /\ H x.q = some (.tup [.int x.t, .int x.b])
def refs (xs : List Row) : List V := xs.map fun x => V.ref x.p
structure TabAt (H : Hp) (a : Addr) (xs : List Row) : Prop where
  lst : H a = some (.lst (refs xs))
  rows : ∀ x ∈ xs, RowAt H x
def rws (xs : List Row) : List Tb.Rw := xs.map Row.r
theorem RowAt.same {H H' : Hp} {x : Row} (s : Same H H') (h : RowAt H x) : RowAt H' x := ⟨s _ _ h.1, s _ _ h.2⟩
theorem TabAt.same {H H' : Hp} {a : Addr} {xs : List Row} (s : Same H H') (h : TabAt H a xs) : TabAt H' a xs := ⟨s _ _ h.lst, fun x hx => (h.rows x hx).same s⟩
theorem RowAt.sameT {H H' : Hp} {P : Addr} {pos : Pos} {qual : Str} {x : Row} (s : SameT P H H') (t : TbOk P pos qual H) (h : RowAt H x) : RowAt H' x := ⟨s.get t h.1 (fun _ z => nomatch z), s.get t h.2 (fun _ z => nomatch z)⟩
theorem TabAt.sameT {H H' : Hp} {P : Addr} {pos : Pos} {qual : Str} {a : Addr} {xs : List Row} (s : SameT P H H') (t : TbOk P pos qual H) (h : TabAt H a xs) : TabAt H' a xs := ⟨s.get t h.lst (fun _ z => nomatch z), fun x hx => (h.rows x hx).sameT s t⟩
theorem refs_length (xs : List Row) : (refs xs).length = xs.length := List.length_map _
theorem rws_length (xs : List Row) : (rws xs).length = xs.length := List.length_map _
theorem refs_at {xs : List Row} {i : Nat} {v : V} (h : (refs xs)[i]? = some v) : ∃ x, xs[i]? = some x /\ v = .ref x.p := by
  unfold refs at h
  rw [List.getElem?_map] at h
  cases e : xs[i]? with
  | none => rw [e] at h; cases h
  | some x => rw [e] at h; cases h; exact ⟨x, rfl, rfl⟩
theorem refs_snoc (xs : List Row) (y : Row) : refs (xs ++ [y]) = refs xs ++ [V.ref y.p] := by unfold refs; rw [List.map_append]; rfl
theorem rws_snoc (xs : List Row) (y : Row) : rws (xs ++ [y]) = rws xs ++ [y.r] := by unfold rws; rw [List.map_append]; rfl
theorem take_snoc {α : Type} {xs : List α} {i : Nat} {x : α} (h : xs[i]? = some x) : xs.take (i + 1) = xs.take i ++ [x] := by
  rw [List.take_add_one, h]
  rfl
theorem RowAt.over {H : Hp} {a : Addr} {xs zs : List V} {x : Row} (h : RowAt H x) (e : H a = some (.lst xs)) : RowAt (upd H a (.lst zs)) x :=
  ⟨by rw [upd_ne (ne_of h.1 e fun z => nomatch z)]; exact h.1, by rw [upd_ne (ne_of h.2 e fun z => nomatch z)]; exact h.2⟩
theorem sz1 : 1 <= sizeLine := Nat.le_of_lt (small1000 (by decide))
theorem sz2 : 2 <= sizeLine := Nat.le_of_lt (small1000 (by decide))
theorem sz3 : 3 <= sizeLine := Nat.le_of_lt (small1000 (by decide))
theorem mulOk {m n : Nat} {x y : Int} (hx : intBits x <= m) (hy : intBits y <= n) (h : m + n <= 134217728) : CMulB x y := Nat.le_trans (Nat.add_le_add hx hy) h
theorem kit_same {K : PySem.W.Frag} (T : String) : PySem.W.kitOne K (.type T) (.type T) = some true := by
  unfold PySem.W.kitOne
  rw [if_pos (beq_self_eq_true _)]
theorem kit_int_bool {K : PySem.W.Frag} : PySem.W.kitOne K (.type "int") (.type "bool") = some false := by rfl
structure Rs where
  q : Addr
  t : Int
  b : Int
def rrefs (rs : List Rs) : List V := rs.map fun r => V.ref r.q
def LtR (x y : Rs) : Prop := x.t * y.b < y.t * x.b
def LeR (x y : Rs) : Prop := x.t * y.b <= y.t * x.b
def keyR (r : Rs) : List Key := [.inl r.t, .inl r.b]
def RsAt (H : Hp) (r : Rs) : Prop := H r.q = some (.tup [.int r.t, .int r.b])
theorem rrefs_length (rs : List Rs) : (rrefs rs).length = rs.length := List.length_map _
theorem rrefs_q (rs : List Rs) : rrefs rs = (rs.map (·.q)).map V.ref := by unfold rrefs; rw [List.map_map]; rfl
theorem rrefs_at {rs : List Rs} {i : Nat} {v : V} (h : (rrefs rs)[i]? = some v) : ∃ x, rs[i]? = some x /\ v = .ref x.q := by
  unfold rrefs at h
  rw [List.getElem?_map] at h
  cases e : rs[i]? with
  | none => rw [e] at h; cases h
  | some x => rw [e] at h; cases h; exact ⟨x, rfl, rfl⟩
theorem keyR_eq {x : Rs} {t b : Int} : keyR x = [.inl t, .inl b] ↔ x.t = t /\ x.b = b := by
  unfold keyR
  constructor
  · intro h
    injection h with h1 h2
    injection h2 with h2 _
    injection h1 with h1
    injection h2 with h2
    exact ⟨h1, h2⟩
  · rintro ⟨rfl, rfl⟩; rfl
theorem le_lt {x y : Rs} (fx : Fr.IsFr x.t x.b) (fy : Fr.IsFr y.t y.b) (h : LeR x y) (ne : keyR x ≠ keyR y) : LtR x y := by
  unfold LeR at h
  unfold LtR
  rcases (by omega : x.t * y.b < y.t * x.b ∨ x.t * y.b = y.t * x.b) with z | z
  · exact z
  · obtain ⟨e1, e2⟩ := Fr.unique fx fy z
    exact absurd (keyR_eq.mpr ⟨e1, e2⟩) ne
structure Dk (ps : List Tb.Rw) (kvs : List (List Key × V)) : Prop where
  nd : (kvs.map (·.1)).Nodup
  en : ∀ kv ∈ kvs, ∃ t b, kv = ([.inl t, .inl b], .int (Tb.Wt ps t b)) /\ Tb.Has ps t b
  all : ∀ t b, Tb.Has ps t b -> ([Sum.inl t, Sum.inl b] : List Key) ∈ kvs.map (·.1)
theorem Dk.nil : Dk [] [] := ⟨List.nodup_nil, (fun _ h => nomatch h), fun t b h => absurd h Tb.Has_nil⟩
theorem valV_mem {kvs : List (List Key × V)} {k : List Key} {v : V} (h : valV kvs k = some v) : (k, v) ∈ kvs := by
  unfold valV at h
  cases e : kvs.find? fun kv => decide (kv.1 = k) with
  | none => rw [e] at h; cases h
  | some kv =>
    rw [e] at h
    have h1 : kv.2 = v := Option.some.inj h
    have h2 := List.find?_some e
    have h3 : kv.1 = k := of_decide_eq_true h2
    rw [<- h1, <- h3]
    exact List.mem_of_find?_eq_some e
theorem key_inj {t b t' b' : Int} (h : ([Sum.inl t, Sum.inl b] : List Key) = [.inl t', .inl b']) : t = t' /\ b = b' := by
  injection h with h1 h2
  injection h2 with h2 _
  injection h1 with h1
  injection h2 with h2
  exact ⟨h1, h2⟩
theorem Dk.val {ps : List Tb.Rw} {kvs : List (List Key × V)} (d : Dk ps kvs) {t b : Int} (h : Tb.Has ps t b) : valV kvs [.inl t, .inl b] = some (.int (Tb.Wt ps t b)) := by
  cases e : valV kvs [.inl t, .inl b] with
  | none => exact absurd (d.all t b h) (valV_not e)
  | some v =>
    obtain ⟨t', b', e2, _⟩ := d.en _ (valV_mem e)
    injection e2 with e3 e4
    obtain ⟨rfl, rfl⟩ := key_inj e3
    rw [e4]
theorem Dk.get {ps : List Tb.Rw} {kvs : List (List Key × V)} (d : Dk ps kvs) (t b : Int) : (valV kvs [.inl t, .inl b]).getD (.int 0) = .int (Tb.Wt ps t b) := by
  by_cases h : Tb.Has ps t b
  · rw [d.val h]; rfl
  · cases e : valV kvs [.inl t, .inl b] with
    | none => rw [Tb.Wt_zero h]; rfl
    | some v =>
      obtain ⟨t', b', e2, h2⟩ := d.en _ (valV_mem e)
      injection e2 with e3 e4
      obtain ⟨rfl, rfl⟩ := key_inj e3
      exact absurd h2 h
theorem putK_mem {kvs : List (List Key × V)} {k : List Key} {v : V} {kv : List Key × V} (h : kv ∈ putK kvs k v) : kv = (k, v) ∨ (kv ∈ kvs /\ kv.1 ≠ k) := by
  unfold putK at h
  split at h
  · obtain ⟨x, hx, e⟩ := List.mem_map.mp h
    split at e
    · rename_i ek
      left
      rw [<- e, ek]
    · rename_i ek
      right
      rw [<- e]
      exact ⟨hx, ek⟩
  · rename_i na
    rcases List.mem_append.mp h with z | z
    · right
      refine ⟨z, fun ek => na ?_⟩
      exact List.any_eq_true.mpr ⟨kv, z, decide_eq_true ek⟩
    · exact .inl (by simpa using z)
theorem putK_keys {kvs : List (List Key × V)} {k : List Key} {v : V} : (putK kvs k v).map (·.1) = if (kvs.any fun kv => decide (kv.1 = k)) = true then kvs.map (·.1) else kvs.map (·.1) ++ [k] := by
  unfold putK
  split
  · rw [List.map_map]
    refine List.map_congr_left fun x _ => ?_
    show (if x.1 = k then (x.1, v) else x).1 = x.1
    split <;> rfl
  · rw [List.map_append]; rfl
theorem Dk.put {ps : List Tb.Rw} {kvs : List (List Key × V)} (d : Dk ps kvs) (x : Tb.Rw) : Dk (ps ++ [x]) (putK kvs [.inl x.t, .inl x.b] (.int (Tb.Wt ps x.t x.b + x.w))) := by
  have hx : ∀ t b, Tb.Wt [x] t b = if x.t = t /\ x.b = b then x.w else 0 := fun t b => by rw [Tb.Wt_cons, Tb.Wt_nil, Int.add_zero]
  refine ⟨?_, fun kv hkv => ?_, fun t b h => ?_⟩
  · rw [putK_keys]
    split
    · exact d.nd
    · rename_i na
      refine List.nodup_append.mpr ⟨d.nd, List.nodup_cons.mpr ⟨List.not_mem_nil, List.nodup_nil⟩, fun y hy z hz => ?_⟩
      rw [List.mem_singleton.mp hz]
      rintro rfl
      obtain ⟨kv, hkv, e⟩ := List.mem_map.mp hy
      exact na (List.any_eq_true.mpr ⟨kv, hkv, decide_eq_true e⟩)
  · rcases putK_mem hkv with z | ⟨z, ne⟩
    · refine ⟨x.t, x.b, ?_, Tb.Has_append.mpr (.inr ⟨x, List.mem_cons_self, rfl, rfl⟩)⟩
      rw [z, Tb.Wt_append, hx, if_pos ⟨rfl, rfl⟩]
    · obtain ⟨t, b, e, h⟩ := d.en kv z
      refine ⟨t, b, ?_, Tb.Has_append.mpr (.inl h)⟩
      rw [Tb.Wt_append, hx, if_neg ?_, Int.add_zero]
      · exact e
      · rintro ⟨rfl, rfl⟩
        exact ne (by rw [e])
  · rw [putK_keys]
    have key : ([Sum.inl t, Sum.inl b] : List Key) ∈ kvs.map (·.1) ∨ ([Sum.inl t, Sum.inl b] : List Key) = [.inl x.t, .inl x.b] := by
      rcases Tb.Has_append.mp h with z | ⟨p, hp, e1, e2⟩
      · exact .inl (d.all t b z)
      · right
        rw [List.mem_singleton.mp hp] at e1 e2
        rw [e1, e2]
    split
    · rename_i ya
      rcases key with z | z
      · exact z
      · obtain ⟨kv, hkv, e⟩ := List.any_eq_true.mp ya
        rw [z, <- of_decide_eq_true e]
        exact List.mem_map.mpr ⟨kv, hkv, rfl⟩
    · rcases key with z | z
      · exact List.mem_append_left _ z
      · rw [z]; exact List.mem_append_right _ (.head _)
def wOf (kv : List Key × V) : Int := match kv.2 with | .int w => w | _ => 0
def divOf (kvs : List (List Key × V)) : Int := Tb.gcdL (kvs.map wOf)
theorem Dk.wOf {ps : List Tb.Rw} {kvs : List (List Key × V)} (d : Dk ps kvs) {t b : Int} (h : Tb.Has ps t b) : Tb.Wt ps t b ∈ kvs.map TD.wOf := by
  have m := valV_mem (d.val h)
  exact List.mem_map.mpr ⟨_, m, rfl⟩
theorem Dk.ne {ps : List Tb.Rw} {kvs : List (List Key × V)} (d : Dk ps kvs) (h : ps ≠ []) : kvs ≠ [] := by
  cases ps with
  | nil => exact absurd rfl h
  | cons p ps =>
    intro e
    have := d.all p.t p.b (Tb.Has_cons.mpr (.inl ⟨rfl, rfl⟩))
    rw [e] at this
    cases this
theorem Dk.div_pos {ps : List Tb.Rw} {kvs : List (List Key × V)} (d : Dk ps kvs) (h : ps ≠ []) (hw : ∀ p ∈ ps, 1 <= p.w) : 0 < divOf kvs := by
  cases ps with
  | nil => exact absurd rfl h
  | cons p ps =>
    have hp : Tb.Has (p :: ps) p.t p.b := Tb.Has_cons.mpr (.inl ⟨rfl, rfl⟩)
    exact Tb.gcdL_pos (d.wOf hp) (Tb.Wt_pos hw hp)
theorem part_by {w d : Int} (hd : 0 < d) (hw : 1 <= w) (h : d ∣ w) : w = w.fdiv d * d /\ 1 <= w.fdiv d /\ w.fdiv d <= w := by
  obtain ⟨c, e⟩ := h
  have ec : w.fdiv d = c := by
    have h := Int.mul_fdiv_cancel_left (a := d) c (Int.ne_of_gt hd)
    rw [<- e] at h
    exact h
  rw [ec]
  have cp : 0 < c := by
    rcases (by omega : 0 < c ∨ c <= 0) with z | z
    · exact z
    · have := Int.mul_nonpos_of_nonneg_of_nonpos (Int.le_of_lt hd) z
      omega
  have := Int.mul_le_mul_of_nonneg_right (show (1 : Int) <= d by omega) (Int.le_of_lt cp)
  refine ⟨by rw [e, Int.mul_comm], by omega, by omega⟩
theorem mk_tab {ps : List Tb.Rw} {kvs : List (List Key × V)} {rs : List Rs} {ys : List Row} (d : Dk ps kvs) (hw : ∀ p ∈ ps, 1 <= p.w) (hf : ∀ p ∈ ps, Fr.IsFr p.t p.b) (hne : ps ≠ []) (pr : (rs.map keyR).Perm (kvs.map (·.1))) (so : rs.Pairwise LtR)
    (ey : ys.map (fun y => Rs.mk y.q y.t y.b) = rs) (yw : ∀ y ∈ ys, y.w = (Tb.Wt ps y.t y.b).fdiv (divOf kvs)) : Tb.IsTab ps (rws ys) /\ ∀ y ∈ ys, 1 <= y.w /\ y.w <= Tb.Wt ps y.t y.b := by
  have dp := d.div_pos hne hw
  have yk : ∀ y ∈ ys, Tb.Has ps y.t y.b := fun y hy => by
    have h1 : keyR (Rs.mk y.q y.t y.b) ∈ rs.map keyR := by
      rw [<- ey]
      exact List.mem_map.mpr ⟨_, List.mem_map.mpr ⟨y, hy, rfl⟩, rfl⟩
    obtain ⟨kv, hkv, e⟩ := List.mem_map.mp (pr.mem_iff.mp h1)
    obtain ⟨t, b, e2, h⟩ := d.en kv hkv
    rw [e2] at e
    obtain ⟨e3, e4⟩ := keyR_eq.mp e.symm
    have e3 : y.t = t := e3
    have e4 : y.b = b := e4
    rw [e3, e4]
    exact h
  have pb : ∀ y ∈ ys, Tb.Wt ps y.t y.b = y.w * divOf kvs /\ 1 <= y.w /\ y.w <= Tb.Wt ps y.t y.b := fun y hy => by
    rw [yw y hy]
    exact part_by dp (Tb.Wt_pos hw (yk y hy)) (Tb.gcdL_dvd (d.wOf (yk y hy)))
  have back : ∀ t b, Tb.Has ps t b -> ∃ y ∈ ys, y.t = t /\ y.b = b := fun t b h => by
    obtain ⟨r, hr, e⟩ := List.mem_map.mp (pr.mem_iff.mpr (d.all t b h))
    rw [<- ey] at hr
    obtain ⟨y, hy, rfl⟩ := List.mem_map.mp hr
    exact ⟨y, hy, keyR_eq.mp e⟩
  refine ⟨⟨?_, fun y hy => ?_, fun t b => ?_, ⟨divOf kvs, dp, fun y hy => ?_⟩, fun e he => ?_⟩, fun y hy => (pb y hy).2⟩
  · have h : (ys.map fun y => Rs.mk y.q y.t y.b).Pairwise LtR := by rw [ey]; exact so
    unfold rws
    rw [List.pairwise_map] at h ⊢
    exact h
  · obtain ⟨z, hz, rfl⟩ := List.mem_map.mp hy
    obtain ⟨p, hp, e1, e2⟩ := yk z hz
    have := hf p hp
    rw [e1, e2] at this
    exact this
  · constructor
    · rintro ⟨y, hy, rfl, rfl⟩
      obtain ⟨z, hz, rfl⟩ := List.mem_map.mp hy
      exact yk z hz
    · intro h
      obtain ⟨y, hy, e1, e2⟩ := back t b h
      exact ⟨y.r, List.mem_map.mpr ⟨y, hy, rfl⟩, e1, e2⟩
  · obtain ⟨z, hz, rfl⟩ := List.mem_map.mp hy
    exact (pb z hz).1
  · have g : e * divOf kvs ∣ divOf kvs := by
      refine Tb.gcdL_great fun n hn => ?_
      obtain ⟨kv, hkv, rfl⟩ := List.mem_map.mp hn
      obtain ⟨t, b, e2, h⟩ := d.en kv hkv
      obtain ⟨y, hy, rfl, rfl⟩ := back t b h
      have q := (pb y hy).1
      have q2 := he y.r (List.mem_map.mpr ⟨y, hy, rfl⟩)
      rw [e2]
      show e * divOf kvs ∣ Tb.Wt ps y.t y.b
      rw [q]
      exact Int.mul_dvd_mul_right _ q2
    have g2 : e * divOf kvs ∣ 1 * divOf kvs := by rw [Int.one_mul]; exact g
    exact Int.dvd_of_mul_dvd_mul_right (Int.ne_of_gt dp) g2
theorem perm_lift {α β : Type} {f : α -> β} : ∀ {x m : List β}, x.Perm m -> ∀ l : List α, x = l.map f -> ∃ l' : List α, l'.Perm l /\ m = l'.map f := by
  intro x m h
  induction h with
  | nil => intro l e; exact ⟨l, .refl _, e⟩
  | cons a p ih =>
    intro l e
    cases l with
    | nil => cases e
    | cons b l =>
      injection e with e1 e2
      obtain ⟨l', p', e'⟩ := ih l e2
      exact ⟨b :: l', p'.cons b, by rw [List.map_cons, <- e1, <- e']⟩
  | swap a b t =>
    intro l e
    match l, e with
    | c :: d :: l, e =>
      injection e with e1 e2
      injection e2 with e2 e3
      exact ⟨d :: c :: l, .swap .., by rw [List.map_cons, List.map_cons, <- e1, <- e2, <- e3]⟩
  | trans p q ih1 ih2 =>
    intro l e
    obtain ⟨l1, p1, e1⟩ := ih1 l e
    obtain ⟨l2, p2, e2⟩ := ih2 l1 e1
    exact ⟨l2, p2.trans p1, e2⟩
def keyN (m : Int) (r : Rs) : Int := (r.t * (m * m)).fdiv r.b
theorem zip_keys {β : Type} (f : Rs -> β) (g : Rs -> Addr) : ∀ rs : List Rs, (rs.map f).zip (rs.map g) = rs.map fun r => (f r, g r)
  | [] => rfl
  | r :: rs => by simp [zip_keys f g rs]
theorem rise_of {m : Int} {rs : List Rs} {ps : List (Int × Addr)} (hp : ps.Perm ((rs.map (keyN m)).zip (rs.map (·.q)))) (hs : ps.Pairwise fun p q => p.1 <= q.1) (nd : (rs.map keyR).Nodup) (fr : ∀ r ∈ rs, Fr.IsFr r.t r.b) (hm : ∀ r ∈ rs, r.b <= m) :
    ∃ rs' : List Rs, rs'.Perm rs /\ ps.map (fun p => V.ref p.2) = rrefs rs' /\ rs'.Pairwise LtR := by
  rw [zip_keys] at hp
  obtain ⟨rs', p', e⟩ := perm_lift hp.symm rs rfl
  refine ⟨rs', p', ?_, ?_⟩
  · rw [e, List.map_map]; rfl
  · have nd' : (rs'.map keyR).Nodup := (p'.map keyR).nodup_iff.mpr nd
    rw [e, List.pairwise_map] at hs
    have nd2 : rs'.Pairwise fun x y => keyR x ≠ keyR y := List.pairwise_map.mp nd'
    refine (hs.and nd2).imp_of_mem fun {x y} hx hy h => ?_
    have fx := fr x (p'.mem_iff.mp hx)
    have fy := fr y (p'.mem_iff.mp hy)
    refine le_lt fx fy ?_ h.2
    unfold LeR
    rcases (by omega : x.t * y.b <= y.t * x.b ∨ y.t * x.b < x.t * y.b) with z | z
    · exact z
    · have := Tb.key_mono fy.pos fx.pos (hm y (p'.mem_iff.mp hy)) (hm x (p'.mem_iff.mp hx)) z
      have h1 : keyN m x <= keyN m y := h.1
      unfold keyN at h1
      omega
end TD
namespace L2
open PySem PySem.Spec PyProof.Rows
theorem call_list_ofK {X : Cx} {K : PySem.W.Frag} (h : X.K = K) : CallR X (.type "list") (fun xs H Q => ∃ p ys, xs = [.ref p] /\ (SqL K H p ys ∨ SqT K H p ys) /\ ∀ l, H l = none -> Q (.ref l) (upd H l (.lst ys))) := by subst h; exact call_list_of
end L2
namespace TD
open PySem L2
open Builtin.Int (intBits)
def lcmStep (m n : Int) : Int := m * (n.fdiv ((Int.gcd m n : Nat) : Int))
def lcmL (ns : List Int) : Int := ns.foldl lcmStep 1
theorem lcmStep_ok {m n : Int} (hm : 0 < m) (hn : 0 < n) : 0 < lcmStep m n /\ m ∣ lcmStep m n /\ n ∣ lcmStep m n := by
  have hg : 0 < ((Int.gcd m n : Nat) : Int) := by have := Int.gcd_pos_of_ne_zero_right m (Int.ne_of_gt hn); omega
  obtain ⟨c, hc⟩ := Int.gcd_dvd_right m n
  obtain ⟨d, hd⟩ := Int.gcd_dvd_left m n
  have e : n.fdiv ((Int.gcd m n : Nat) : Int) = c := by
    have h := Int.mul_fdiv_cancel_left (a := ((Int.gcd m n : Nat) : Int)) c (by omega)
    rw [<- hc] at h
    exact h
  have cp : 0 < c := by
    rcases (by omega : 0 < c ∨ c <= 0) with z | z
    · exact z
    · have := Int.mul_nonpos_of_nonneg_of_nonpos (Int.le_of_lt hg) z
      omega
  unfold lcmStep
  rw [e]
  refine ⟨Int.mul_pos hm cp, ⟨c, rfl⟩, ⟨d, ?_⟩⟩
  generalize ((Int.gcd m n : Nat) : Int) = g at *
  rw [hc, hd]
  grind
theorem lcm_fold : ∀ (ns : List Int) (m : Int), 0 < m -> (∀ n ∈ ns, 0 < n) -> 0 < ns.foldl lcmStep m /\ m ∣ ns.foldl lcmStep m /\ ∀ n ∈ ns, n ∣ ns.foldl lcmStep m
  | [], m, hm, _ => ⟨hm, Int.dvd_refl m, fun _ h => nomatch h⟩
  | n :: ns, m, hm, h => by
    obtain ⟨a, b, c⟩ := lcmStep_ok hm (h n List.mem_cons_self)
    obtain ⟨x, y, z⟩ := lcm_fold ns (lcmStep m n) a fun k hk => h k (List.mem_cons_of_mem _ hk)
    refine ⟨x, Int.dvd_trans b y, fun k hk => ?_⟩
    rcases List.mem_cons.mp hk with e | e
    · subst e; exact Int.dvd_trans c y
    · exact z k e
theorem lcmL_ok {ns : List Int} (h : ∀ n ∈ ns, 0 < n) : 0 < lcmL ns /\ ∀ n ∈ ns, n ∣ lcmL ns := by
  obtain ⟨a, _, c⟩ := lcm_fold ns 1 (by decide) h
  exact ⟨a, c⟩
theorem lcm_bits : ∀ (ns : List Int) (m : Int) (k : Nat), intBits m <= k -> intBits (ns.foldl lcmStep m) <= k + (ns.map intBits).sum
  | [], m, k, h => by simpa using h
  | n :: ns, m, k, h => by
    have h1 : intBits (lcmStep m n) <= k + intBits n := PySem.intBits_mul_le h (PySem.intBits_fdiv_le (Nat.le_refl _))
    have := lcm_bits ns (lcmStep m n) _ h1
    simp only [List.map_cons, List.sum_cons]
    show intBits (ns.foldl lcmStep (lcmStep m n)) <= _
    omega
theorem lcmL_bits (ns : List Int) : intBits (lcmL ns) <= 1 + (ns.map intBits).sum := lcm_bits ns 1 1 (by decide)
theorem lcmL_snoc (ns : List Int) (n : Int) : lcmL (ns ++ [n]) = lcmStep (lcmL ns) n := by unfold lcmL; rw [List.foldl_append]; rfl
theorem sum_take_le (ns : List Int) (i : Nat) : ((ns.take i).map intBits).sum <= (ns.map intBits).sum := by
  have e : ns.map intBits = (ns.take i).map intBits ++ (ns.drop i).map intBits := by rw [<- List.map_append, List.take_append_drop]
  rw [e, List.sum_append]
  omega
theorem mem_sum_le {ns : List Int} {n : Int} (h : n ∈ ns) : intBits n <= (ns.map intBits).sum := by
  induction ns with
  | nil => cases h
  | cons m r ih =>
    simp only [List.map_cons, List.sum_cons]
    rcases List.mem_cons.mp h with e | e
    · subst e; omega
    · have := ih e; omega
theorem sum_nat_le {k : Nat} : ∀ {l : List Nat}, (∀ n ∈ l, n <= k) -> l.sum <= k * l.length
  | [], _ => by simp
  | n :: l, h => by
    have a := sum_nat_le (l := l) fun m hm => h m (List.mem_cons_of_mem _ hm)
    have b := h n List.mem_cons_self
    simp only [List.sum_cons, List.length_cons]
    rw [Nat.mul_add, Nat.mul_one]
    omega
def spCd : Sp := fun vs H Q _ => ∃ a b : Int, vs = [.int a, .int b] /\ Q (.int ((Int.gcd a b : Nat) : Int)) H
def spShare : Sp := fun vs H Q _ => ∃ t b : Int, vs = [.int t, .int b] /\ b ≠ 0 /\ intBits b <= 9000 /\ ∀ p H', Same H H' -> H' p = some (.tup [.int (Fr.sh t b).1, .int (Fr.sh t b).2]) -> Q (.ref p) H'
def spLow : Sp := fun vs H Q _ => ∃ t b : Int, vs = [.int t, .int b] /\ 0 < b /\ intBits b <= 9000 /\ ∀ p H', Same H H' -> H' p = some (.tup [.int (Fr.sh t b).1, .int (Fr.sh t b).2]) -> Q (.ref p) H'
structure Sz (a b c d : Int) : Prop where
  a : intBits a <= 10000
  b : intBits b <= 10000
  c : intBits c <= 10000
  d : intBits d <= 10000
def spBelow (K : PySem.W.Frag) : Sp := fun vs H Q _ => ∃ p q a b c d, vs = [.ref p, .ref q] /\ SqT K H p [.int a, .int b] /\ SqT K H q [.int c, .int d] /\ Sz a b c d /\ Q (.bl (decide (a * d < c * b))) H
def cellF (ns : List Int) (k : Int) : Int := if k < (ns.length : Int) then ns.getD k.toNat 0 else 7919 * k + 13
def spCell (K : PySem.W.Frag) : Sp := fun vs H Q _ => ∃ (a : Addr) (ns : List Int) (k : Int), vs = [.ref a, .int k] /\ SqL K H a (ns.map V.int) /\ 0 <= k /\ Q (.int (cellF ns k)) H
def spIsWhole : Sp := fun vs H Q _ => ∃ i : Int, vs = [.int i] /\ Q (.bl true) H
def spMix : Sp := fun vs H Q _ => ∃ c i : Int, vs = [.int c, .int i] /\ ∀ j, 0 <= j -> j < 2147483647 -> Q (.int j) H
def spCM (K : PySem.W.Frag) : Sp := fun vs H Q _ => ∃ (a : Addr) (ns : List Int), vs = [.ref a] /\ SqL K H a (ns.map V.int) /\ (∀ n ∈ ns, 0 < n) /\ (ns.map intBits).sum <= 4200 /\ Q (.int (lcmL ns)) H
def wsum (xs : List Row) : Int := (xs.map Row.w).sum
def lamQ : Str := ("rising" : Str) ++ ".<locals>." ++ "<lambda>"
def spRise (K : PySem.W.Frag) (P : Addr) (lp : Pos) : Sp := fun vs H Q _ => ∃ (a : Addr) (rs : List Rs), vs = [.ref a] /\ SqL K H a (rrefs rs) /\ rs ≠ [] /\ rs.length < 64 /\ (∀ r ∈ rs, RsAt H r /\ Fr.IsFr r.t r.b /\ intBits r.t <= 300 /\ intBits r.b <= 300) /\ (rs.map keyR).Nodup /\ TbOk P lp lamQ H ∧
  ∀ (D : Addr) (H' : Hp) (rs' : List Rs), SameT P H H' -> TbOk P lp lamQ H' -> H' D = some (.lst (rrefs rs')) -> rs'.Perm rs -> rs'.Pairwise LtR -> Q (.ref D) H'
def m300 : Int := 2 ^ 300
def PB (xs : List Row) : Prop := ∀ x ∈ xs, Fr.IsFr x.t x.b /\ intBits x.t <= 300 /\ intBits x.b <= 300 /\ 1 <= x.w /\ x.w <= m300
structure Out (ps : List Tb.Rw) (ys : List Row) : Prop where
  tab : Tb.IsTab ps (rws ys)
  w : ∀ y ∈ ys, 1 <= y.w /\ y.w <= Tb.Wt ps y.t y.b
def spForm (P : Addr) (lp : Pos) : Sp := fun vs H Q _ => ∃ (a : Addr) (xs : List Row), vs = [.ref a] /\ TabAt H a xs /\ xs ≠ [] /\ xs.length < 64 /\ PB xs /\ TbOk P lp lamQ H ∧
  ∀ (r : Addr) (H' : Hp) (ys : List Row), SameT P H H' -> TbOk P lp lamQ H' -> H r = none -> TabAt H' r ys -> Out (rws xs) ys -> ys.length <= xs.length -> Q (.ref r) H'
theorem PB.ps {xs : List Row} (h : PB xs) : (∀ p ∈ rws xs, 1 <= p.w) /\ ∀ p ∈ rws xs, Fr.IsFr p.t p.b := by
  refine ⟨fun p hp => ?_, fun p hp => ?_⟩ <;>
  · obtain ⟨x, hx, rfl⟩ := List.mem_map.mp hp
    first | exact (h x hx).2.2.2.1 | exact (h x hx).1
theorem W_le {m : Int} (hm : 0 <= m) : ∀ {ps : List Tb.Rw}, (∀ p ∈ ps, 1 <= p.w /\ p.w <= m) -> 0 <= Tb.W ps /\ Tb.W ps <= m * (ps.length : Int)
  | [], _ => by simp [Tb.W]
  | p :: ps, h => by
    obtain ⟨a, b⟩ := W_le hm (ps := ps) fun y hy => h y (List.mem_cons_of_mem _ hy)
    obtain ⟨c, d⟩ := h p List.mem_cons_self
    have f : m * ((p :: ps).length : Int) = m + m * (ps.length : Int) := by rw [List.length_cons]; grind
    rw [Tb.W_cons]
    omega
theorem Out.key {ps : List Tb.Rw} {ys : List Row} (o : Out ps ys) {y : Row} (hy : y ∈ ys) : ∃ p ∈ ps, p.t = y.t /\ p.b = y.b := (o.tab.has y.t y.b).mp ⟨y.r, List.mem_map.mpr ⟨y, hy, rfl⟩, rfl, rfl⟩
theorem Out.ne {ps : List Tb.Rw} {ys : List Row} (o : Out ps ys) (h : ps ≠ []) : ys ≠ [] := by
  rintro rfl
  cases ps with
  | nil => exact h rfl
  | cons p ps => exact Tb.Has_nil ((o.tab.has p.t p.b).mpr (Tb.Has_cons.mpr (.inl ⟨rfl, rfl⟩)))
theorem div_bits {ps : List Tb.Rw} {kvs : List (List Key × V)} (d : Dk ps kvs) (hne : ps ≠ []) (hw : ∀ p ∈ ps, 1 <= p.w /\ p.w <= m300) (hl : ps.length <= 1000) : intBits (divOf kvs) <= 9000 := by
  have dp := d.div_pos hne fun p hp => (hw p hp).1
  cases ps with
  | nil => exact absurd rfl hne
  | cons p ps =>
    have hp : Tb.Has (p :: ps) p.t p.b := Tb.Has_cons.mpr (.inl ⟨rfl, rfl⟩)
    have w1 := Tb.Wt_pos (fun p hp => (hw p hp).1) hp
    have w2 := Tb.Wt_le p.t p.b (ps := p :: ps) fun p hp => (hw p hp).1
    have w3 := (W_le (by decide) hw).2
    have dv := Int.le_of_dvd (by omega) (Tb.gcdL_dvd (d.wOf hp))
    have dv : divOf kvs <= Tb.Wt (p :: ps) p.t p.b := dv
    refine PySem.intBits_le_iff.mpr ?_
    have e : m300 * (((p :: ps).length : Nat) : Int) <= m300 * 1000 := Int.mul_le_mul_of_nonneg_left (by omega) (by decide)
    have e2 : m300 * 1000 < ((2 ^ 9000 : Nat) : Int) := by decide +kernel
    omega
end TD
namespace L2
open PySem PySem.Spec PyProof.Rows
section
variable {X : Cx}
theorem Inv.turnedLaid {pins : List (Addr × Obj)} {σ : St} {H : Hp} {s : Shared} {h' : Heap} {t' : Nat} {ch : List Addr} {a : Addr} {o : HO} (I : Inv X pins σ H s) (hf : ∀ b ∈ ch, FpOk X pins H b)
    (k : ∀ b u, b ∉ ch -> s.heap.get? b = some u -> h'.get? b = some u) (hp : s.heap.objs.size <= a) (new : ObjOk X.prog X.w (upd H a o) h' a o) : Inv X pins σ (upd H a o) { s with heap := h', toks := t' } := by
  have hn := I.hok.fresh hp
  have nit : ∀ b u, H b = some u -> b ∉ ch := fun b u e z => by rw [(hf b z).1] at e; cases e
  refine I.step (g' := s.gens) (d' := s.drawn) (ch := ch) (fun b hb => ?_) (fun b o _ _ hc e _ => k b o hc e) (fun b o _ _ hc e _ => ⟨o.slots, k b o hc e⟩) (fun b u hc e n => ?_) (fun b o hc e => ⟨o, k b o hc e⟩)
    (fun b xs e => by rw [upd_ne (ne_of_none e hn)]; exact e) (fun b o u e => by rw [upd_ne (ne_of_none e hn)]; exact e) (fun b ps e => ⟨#[], by rw [upd_ne (ne_of_none e hn), e]; simp⟩) (fun m hm => ?_) (fun b u e => ?_) I.bare
  · obtain ⟨_, f1, f2, f3, f4, f5⟩ := hf b hb
    exact ⟨f3, f1, f4, f5⟩
  · rw [upd_ne (Nat.ne_of_lt (Nat.lt_of_lt_of_le (Heap.lt_size e) hp))]
    exact n
  · obtain ⟨o, es, ep, ho, r⟩ := hm
    exact ⟨o, es, ep, k _ o (fun z => (hf _ z).2.1 rfl) ho, r⟩
  · by_cases hb : b = a
    · subst hb
      rw [upd_same] at e
      cases e
      exact new
    · rw [upd_ne hb] at e
      refine (I.hok b u e).stay (fun c v hc q => k c v ?_ q) (fun c q => by rw [upd_ne (ne_of_none q hn)]; exact q) fun c xs q => by rw [upd_ne (ne_of_none q hn)]; exact q
      rcases hc with z | z
      · rw [z]; exact nit b u e
      · exact nit c _ z
theorem Inv.turnedN {pins : List (Addr × Obj)} {σ : St} {H : Hp} {s : Shared} {h' : Heap} {t' : Nat} {ch : List Addr} (I : Inv X pins σ H s) (hf : ∀ b ∈ ch, FpOk X pins H b)
    (k : ∀ b u, b ∉ ch -> s.heap.get? b = some u -> h'.get? b = some u) : Inv X pins σ H { s with heap := h', toks := t' } := by
  have nit : ∀ b u, H b = some u -> b ∉ ch := fun b u e z => by rw [(hf b z).1] at e; cases e
  refine I.step (g' := s.gens) (d' := s.drawn) (ch := ch) (fun b hb => ?_) (fun b o _ _ hc e _ => k b o hc e) (fun b o _ _ hc e _ => ⟨o.slots, k b o hc e⟩) (fun _ _ _ _ n => n) (fun b o hc e => ⟨o, k b o hc e⟩)
    (fun _ _ e => e) (fun _ _ _ e => e) (fun b ps e => ⟨#[], by rw [e]; simp⟩) (fun m hm => ?_) (fun b u e => ?_) I.bare
  · obtain ⟨_, f1, f2, f3, f4, f5⟩ := hf b hb
    exact ⟨f3, f1, f4, f5⟩
  · obtain ⟨o, es, ep, ho, r⟩ := hm
    exact ⟨o, es, ep, k _ o (fun z => (hf _ z).2.1 rfl) ho, r⟩
  · refine (I.hok b u e).stay (fun c v hc q => k c v ?_ q) (fun _ q => q) fun _ _ q => q
    rcases hc with z | z
    · rw [z]; exact nit b u e
    · exact nit c _ z
def Itz (K : PySem.W.Frag) (a b : Addr) : It :=
  ⟨fun i H => ∃ xs ys x y, SqL K H a xs /\ SqL K H b ys /\ xs[i]? = some x /\ ys[i]? = some y,
   fun i H v H' => ∃ x y T, H T = none /\ v = .ref T /\ H' = upd H T (.tup [x, y]) /\ (∀ xs, SqL K H a xs -> xs[i]? = some x) /\ ∀ ys, SqL K H b ys -> ys[i]? = some y,
   fun i H => ∃ xs ys, SqL K H a xs /\ SqL K H b ys /\ (xs.length <= i ∨ ys.length <= i)⟩
theorem turn_zip {P : Program} {w : World} {K : PySem.W.Frag} {elts : List Expr} {kk : Nat} {tpos : Pos} {z TI TO i1 i2 a b : Addr} (D : ZipApart z TI TO i1 i2 a b) :
    Turn P w K (.Tuple elts kk tpos) (Itz K a b) [z, TI, TO, i1, i2] z (fun i h => IsZip h z TI TO .none /\ IsPair h TI (.ref i1) (.ref i2) /\ (∃ x y, IsPair h TO x y) /\ h.IsListIter i1 a i /\ h.IsListIter i2 b i) where
  mem := by simp
  obj := fun i h st c hc => by
    obtain ⟨hz, hTI, ⟨x, y, hTO⟩, ⟨o1, e1, c1, d1⟩, ⟨o2, e2, c2, d2⟩⟩ := st
    simp only [List.mem_cons, List.not_mem_nil, or_false] at hc
    rcases hc with rfl | rfl | rfl | rfl | rfl
    · exact ⟨_, hz, fun v z => nomatch z⟩
    · exact ⟨_, hTI, fun v z => nomatch z⟩
    · exact ⟨_, hTO, fun v z => nomatch z⟩
    · exact ⟨_, e1, fun v z => by rw [d1] at z; cases z⟩
    · exact ⟨_, e2, fun v z => by rw [d2] at z; cases z⟩
  keep := fun i h h' st k => by
    obtain ⟨hz, hTI, ⟨x, y, hTO⟩, h1, h2⟩ := st
    exact ⟨k z (by simp) _ hz, k TI (by simp) _ hTI, ⟨x, y, k TO (by simp) _ hTO⟩, h1.at fun o e => k i1 (by simp) o e, h2.at fun o e => k i2 (by simp) o e⟩
  item := by
    intro X hP hw hK hc i pins s σ H E I hf st hg
    subst hP hw hK
    obtain ⟨xs, ys, x, y, ha, hb, hx, hy⟩ := hg
    obtain ⟨hz, hTI, ⟨p, q, hTO⟩, h1, h2⟩ := st
    obtain ⟨its, rv, pl, _⟩ := I.list ha
    obtain ⟨its2, rv2, pl2, _⟩ := I.list hb
    obtain ⟨u, hu, ru⟩ := rv.get hx
    obtain ⟨u2, hu2, ru2⟩ := rv2.get hy
    refine wpAny_pyNext_zip_item (x := u) (y := u2) D hz hTI hTO h1 h2 pl.isList pl2.isList (by simpa using hu) (by simpa using hu2) fun h' a1 a2 a3 a4 a5 a6 hk => ?_
    refine ⟨_, rfl, ?_⟩
    refine wpAny_letOwnedTupleGo_zip (s := { s with heap := h' }) a1 fun h'' hz'' hs'' => ?_
    have ne : ∀ {c o}, s.heap.get? c = some o -> s.heap.objs.size ≠ c := fun e => Nat.ne_of_gt (Heap.lt_size e)
    have hT : IsPair h'' s.heap.objs.size u u2 := hs''.extBut _ _ (ne hz) a5
    have fr : H s.heap.objs.size = none := I.hok.fresh (Nat.le_refl _)
    refine ⟨.ref s.heap.objs.size, upd H s.heap.objs.size (.tup [x, y]), ?_, rfl, ⟨x, y, _, fr, rfl, rfl, fun zs h => by rw [I.list_inj h ha]; exact hx, fun zs h => by rw [I.list_inj h hb]; exact hy⟩, ⟨hz'', ?_, ?_, ?_, ?_⟩, fun c hc => ?_⟩
    · refine I.turnedLaid (t' := s.toks) (ch := [z, TO, i1, i2]) (fun c hc => hf c ?_) (fun c o hc e => ?_) (Nat.le_refl _) ⟨Nat.le_of_lt (small1000 (show 2 <= 1000 by decide)), [u, u2], .cons ru (.cons ru2 .nil), _, hT, rfl, _, rfl⟩
      · simp only [List.mem_cons, List.not_mem_nil, or_false] at hc ⊢
        rcases hc with z | z | z | z
        · exact .inl z
        · exact .inr (.inr (.inl z))
        · exact .inr (.inr (.inr (.inl z)))
        · exact .inr (.inr (.inr (.inr z)))
      · simp only [List.mem_cons, List.not_mem_nil, or_false, not_or] at hc
        exact hs''.extBut _ _ hc.1 (hk c o hc.1 hc.2.1 hc.2.2.1 hc.2.2.2 e)
    · exact hs''.extBut _ _ D.TIz (hk _ _ D.TIz D.TITO D.TIi1 D.TIi2 hTI)
    · exact ⟨u, u2, hs''.extBut _ _ D.TOz a2⟩
    · exact a3.extBut hs''.extBut D.i1z
    · exact a4.extBut hs''.extBut D.i2z
    · have lt : ∀ {c}, c ∈ [z, TI, TO, i1, i2] -> c ≠ s.heap.objs.size := fun {c} hc e => by
        obtain ⟨o1, e1, _⟩ := h1
        obtain ⟨o2, e2, _⟩ := h2
        simp only [List.mem_cons, List.not_mem_nil, or_false] at hc
        rcases hc with rfl | rfl | rfl | rfl | rfl
        · exact ne hz e.symm
        · exact ne hTI e.symm
        · exact ne hTO e.symm
        · exact ne e1 e.symm
        · exact ne e2 e.symm
      rw [upd_ne (lt hc)]
      exact (hf c hc).1
  done := by
    intro X hP hw hK hc i pins s σ H E I hf st hg
    subst hP hw hK
    obtain ⟨xs, ys, ha, hb, hx⟩ := hg
    obtain ⟨hz, hTI, ⟨p, q, hTO⟩, h1, h2⟩ := st
    obtain ⟨its, rv, pl, _⟩ := I.list ha
    obtain ⟨its2, rv2, pl2, _⟩ := I.list hb
    have l1 := rv.length
    have l2 := rv2.length
    refine wpAny_pyNext_zip_end (I.ok.hd hc) D hz hTI hTO h1 h2 pl.isList pl2.isList ?_ fun h' hk => ⟨rfl, I.turnedN (t' := s.toks) (ch := [z, TO, i1, i2]) (fun c hc => hf c ?_) fun c o hc e => ?_⟩
    · rcases hx with hx | hx
      · exact .inl (by simp; omega)
      · exact .inr (by simp; omega)
    · simp only [List.mem_cons, List.not_mem_nil, or_false] at hc ⊢
      rcases hc with z | z | z | z
      · exact .inl z
      · exact .inr (.inr (.inl z))
      · exact .inr (.inr (.inr (.inl z)))
      · exact .inr (.inr (.inr (.inr z)))
    · simp only [List.mem_cons, List.not_mem_nil, or_false, not_or] at hc
      exact hk c o hc.1 hc.2.1 hc.2.2.1 hc.2.2.2 e
  self := fun _ _ _ _ _ st h => wpAny_pyIter_zip st.1 h
def iZip (K : PySem.W.Frag) (ta : TA) : TI := fun σ H R => ta σ H fun vs H1 => ∃ a b xs ys, vs = [.ref a, .ref b] /\ SqL K H1 a xs /\ SqL K H1 b ys /\ R (Itz K a b) H1
theorem bt_zip : bootBuiltins "zip" = some (.type "zip") := by decide +kernel
theorem zip_apart (I l1 l2 : Nat) (h1 : l1 < I) (h2 : l2 < I) : ZipApart (I + 4) (I + 2) (I + 3) I (I + 1) l1 l2 := by
  constructor <;> (show (_ : Nat) ≠ _; omega)
theorem pi_zip {a b : Expr} {ta : TA} {p pos tpos : Pos} {elts : List Expr} {kk : Nat} (hg : Gl X "zip") (hm : X.mg "zip" = none) (ha : PA X [a, b] ta) (hs : starEach [a, b] X.env = [(false, eval a X.env), (false, eval b X.env)] := by rfl) (hs2 : starEach [b] X.env = [(false, eval b X.env)] := by rfl) :
    PI X (.Tuple elts kk tpos) (.Call (.Name "zip" p) [a, b] [] pos) (iZip X.K ta) := by
  intro pins s σ H R I h
  refine Call_ (ld_blt I hg hm bt_zip (PyProof.Rows.callWith_type1 (thn (ha pos pins s σ H _ I h) fun us s1 ⟨vs, H1, I1, r1, q1⟩ => ?_) (by rw [hs, hs2]) (by rw [hs2]; rfl)))
  obtain ⟨l1, l2, xs, ys, e, h1, h2, q⟩ := q1
  subst e
  obtain ⟨u, w', rfl, ru, rw'⟩ := vals2 r1
  cases (show u = Value.ref l1 from ru)
  cases (show w' = Value.ref l2 from rw')
  obtain ⟨its, rv, pl, _⟩ := I1.list h1
  obtain ⟨its2, rv2, pl2, _⟩ := I1.list h2
  have lt1 : l1 < s1.heap.objs.size := by obtain ⟨o, e, _⟩ := pl.isList; exact Heap.lt_size e
  have lt2 : l2 < s1.heap.objs.size := by obtain ⟨o, e, _⟩ := pl2.isList; exact Heap.lt_size e
  refine call_zip_2 pl.isList pl2.isList fun h' hz hTI hTO hi1 hi2 hsz hk => ?_
  refine wpAny_pyIter_zip hz ?_
  refine ⟨_, _, _, _, H1, rfl, I1.kept (t' := s1.toks) hk, turn_zip (zip_apart s1.heap.objs.size l1 l2 lt1 lt2), ⟨hz, hTI, ⟨_, _, hTO⟩, hi1, hi2⟩, fun c hc => ?_, q⟩
  have le : s1.heap.objs.size <= c := by
    simp only [List.mem_cons, List.not_mem_nil, or_false] at hc
    rcases hc with rfl | rfl | rfl | rfl | rfl <;> first | exact Nat.le_add_right _ _ | exact Nat.le_refl _
  exact I1.fpOk le (I1.hok.fresh le)
theorem comp_zip {K : PySem.W.Frag} {a b : Addr} {xs ys : List V} {k : Nat} {g : TG} {c : TT} {te : TE} {σ : St} {H1 : Hp} {D : Addr} {Q : VK} (Pv : Nat -> St -> Hp -> Prop) (hn : xs.length = ys.length) (h0 : Pv 0 (List.replicate k none ++ σ) (upd H1 D (.lst [])))
    (hl : ∀ i τ H, i <= xs.length -> Pv i τ H -> SqL K H a xs /\ SqL K H b ys)
    (hs : ∀ i m x y T τ H, m = xs.length - i -> i < xs.length -> xs[i]? = some x -> ys[i]? = some y -> H T = none -> Pv i τ H -> g (.ref T) τ (upd H T (.tup [x, y])) fun τ2 H2 => c τ2 H2 fun b H3 => if b = true then te τ2 H3 fun y H4 => ∃ ys m', m' < m /\ H4 D = some (.lst ys) /\ ys.length < sizeLine /\ CW xs.length Pv (i + 1) m' τ2 (upd H4 D (.lst (ys ++ [y]))) else ∃ m', m' < m /\ CW xs.length Pv (i + 1) m' τ2 H3)
    (hd : ∀ τ H, Pv xs.length τ H -> Q (.ref D) H) : CompW k (Itz K a b) g c te σ H1 D Q := by
  refine ⟨CW xs.length Pv, ⟨xs.length, rfl, Nat.zero_le _, h0⟩, ?_⟩
  rintro i m τ H ⟨hm, hi, p⟩
  obtain ⟨q1, q2⟩ := hl i τ H hi p
  by_cases hlt : i < xs.length
  · refine .inr ⟨⟨xs, ys, xs[i], ys[i]'(by omega), q1, q2, by simp [hlt], List.getElem?_eq_getElem (by omega)⟩, fun v H' y => ?_⟩
    obtain ⟨x, y, T, hT, rfl, rfl, e1, e2⟩ := y
    exact hs i m x y T τ _ hm hlt (e1 xs q1) (e2 ys q2) hT p
  · have e : i = xs.length := by omega
    subst e
    exact .inl ⟨⟨xs, ys, q1, q2, .inl (Nat.le_refl _)⟩, hd τ H p⟩
end
end L2
namespace L2
open PySem PySem.Spec PyProof.Rows
section
variable {X : Cx} {tg : Expr}
end
theorem for_zip {K : PySem.W.Frag} {a b : Addr} {xs ys : List V} {g : TG} {tb : TS} {D : Ends} {σ : St} {H : Hp} (Pv : Nat -> St -> Hp -> Prop) (hn : xs.length = ys.length) (h0 : Pv 0 σ H) (hl : ∀ i σ H, i <= xs.length -> Pv i σ H -> SqL K H a xs /\ SqL K H b ys)
    (hs : ∀ i x y T σ H, xs[i]? = some x -> ys[i]? = some y -> H T = none -> Pv i σ H -> g (.ref T) σ (upd H T (.tup [x, y])) fun σ2 H2 => tb { D with nx := Pv (i + 1), ct := Pv (i + 1), bk := D.nx } σ2 H2) (hd : ∀ σ H, Pv xs.length σ H -> D.nx σ H) :
    ∃ W : Nat -> Nat -> St -> Hp -> Prop, (∃ m, W 0 m σ H) /\ ∀ i m σ H, W i m σ H ->
      ((Itz K a b).stop i H /\ D.nx σ H) ∨ ((Itz K a b).go i H /\ ∃ N : St -> Hp -> Prop, (∀ σ' H', N σ' H' -> ∃ m', m' < m /\ W (i + 1) m' σ' H') /\ ∀ x H', (Itz K a b).yld i H x H' -> g x σ H' fun σ2 H2 => tb { D with nx := N, ct := N, bk := D.nx } σ2 H2) := by
  refine ⟨fun i m σ H => m = xs.length - i /\ i <= xs.length /\ Pv i σ H, ⟨xs.length, by simp, Nat.zero_le _, h0⟩, ?_⟩
  rintro i m σ H ⟨rfl, hi, p⟩
  obtain ⟨q1, q2⟩ := hl i σ H hi p
  by_cases hlt : i < xs.length
  · refine .inr ⟨⟨xs, ys, xs[i], ys[i]'(by omega), q1, q2, by simp [hlt], List.getElem?_eq_getElem (by omega)⟩, Pv (i + 1), fun σ' H' p' => ⟨xs.length - (i + 1), by omega, rfl, hlt, p'⟩, fun x H' y => ?_⟩
    obtain ⟨x, y, T, hT, rfl, rfl, e1, e2⟩ := y
    exact hs i x y T σ _ (e1 xs q1) (e2 ys q2) hT p
  · have e : i = xs.length := by omega
    subst e
    exact .inl ⟨⟨xs, ys, q1, q2, .inl (Nat.le_refl _)⟩, hd σ H p⟩
end L2
namespace PySem
namespace F
theorem own_rev_nolen : typeLookup (.type "list_reverseiterator") "__len__" = pure none := by rw [typeLookup_type, builtinLookup_eq_fast]; kernel_rfl
theorem own_rev_hint : typeLookup (.type "list_reverseiterator") "__length_hint__" = pure (some (.builtin "list_reverseiterator.__length_hint__")) := by rw [typeLookup_type, builtinLookup_eq_fast]; kernel_rfl
end F
theorem rev_hint {prog : Program} {w : World} {A : Around} {E : Value -> Shared -> Prop} {s : Shared} {r : Addr} {Q : Bool -> Shared -> Prop} (ty : s.TypeIs (.ref r) "list_reverseiterator") (h : Q false s) : wpAny (model prog w) A (Builtin.List.listLengthHint (.ref r)) Q E s := by
  unfold Builtin.List.listLengthHint
  refine wpAny_bind (wpAny_specialOf ty F.own_rev_nolen ?_)
  show wpAny _ A (specialOf (Value.ref r) (Str.ofString "__length_hint__") >>= _) _ _ _
  refine wpAny_bind (wpAny_specialOf ty F.own_rev_hint ?_)
  have sp : splitId "list_reverseiterator.__length_hint__" = some ("list_reverseiterator", "__length_hint__") := by decide +kernel
  generalize he : ("list_reverseiterator.__length_hint__" : String) = e0 at sp
  wp_delta
  rw [sp]
  subst he
  refine wpAny_bind (wpAny_isInstance (b := true) ty (by rw [isSubtype_type]; kernel_rfl) (wpAny_pure h))
theorem rev_walks {prog : Program} {w : World} {A : Around} (hh : A.handled = none) (it l : Addr) (ne : it ≠ l) (xs : Array Value) :
    Walks prog w A it [it, l] [it] xs.size (fun i v => xs[xs.size - 1 - i]? = some v) (fun i h => i <= xs.size /\ h.IsRevIter it l ((xs.size : Int) - 1 - (i : Int)) /\ h.IsList l xs) where
  sub := fun b hb => by rw [List.mem_singleton.mp hb]; exact .head _
  frame := fun i h h' st k => ⟨st.1, st.2.1.at fun o e => k it (.head _) o e, st.2.2.at fun o e => k l (.tail _ (.head _)) o e⟩
  item := fun i s Q E hi st hQ => by
    have ei : (xs.size : Int) - 1 - (i : Int) = ((xs.size - 1 - i : Nat) : Int) := by omega
    have ej : (xs.size : Int) - 1 - ((i + 1 : Nat) : Int) = ((xs.size - 1 - i : Nat) : Int) - 1 := by omega
    have st1 := st.2.1
    rw [ei] at st1
    have hx : xs[xs.size - 1 - i]? = some xs[xs.size - 1 - i] := Array.getElem?_eq_getElem (by omega)
    refine wpAny_pyNext_rev_item st1 st.2.2 hx fun h' st' sb => ?_
    exact hQ _ h' s.toks hx ⟨hi, by rw [ej]; exact st', st.2.2.at fun o e => (sb.2 l (Ne.symm ne)).trans e⟩ fun b o hb e => (sb.2 b (fun z => hb (by rw [z]; exact .head _))).trans e
  done := fun s Q E st hQ => by
    have ei : (xs.size : Int) - 1 - (xs.size : Int) = -1 := by omega
    have st1 := st.2.1
    rw [ei] at st1
    refine wpAny_pyNext_rev_end hh st1 fun h' eb => ?_
    exact hQ h' s.toks fun b o hb e => eb b o (fun z => hb (by rw [z]; exact .head _)) e
  self := fun i s Q E st hQ => wpAny_pyIter_revIter st.2.1 hQ
theorem list_of_rev {prog : Program} {w : World} {A : Around} {E : Value -> Shared -> Prop} {s : Shared} {it l : Addr} {xs : Array Value} {Q : Value -> Shared -> Prop} (hh : A.handled = none) (ne : it ≠ l) (hit : s.heap.IsRevIter it l ((xs.size : Int) - 1)) (hl : s.heap.IsList l xs) (hn : xs.size <= sizeLine)
    (hQ : ∀ h' tk acc c, (∀ b o, b ≠ it -> s.heap.get? b = some o -> h'.get? b = some o) -> h'.get? s.heap.objs.size = some { cls := .type "list", dict := none, data := .seq acc c, slots := #[] } -> ItemsOf (fun i v => xs[xs.size - 1 - i]? = some v) acc xs.size -> Q (.ref s.heap.objs.size) { s with heap := h', toks := tk }) :
    wpAny (model prog w) A (call (.type "list") [.ref it]) Q E s := by
  have ilt : it < s.heap.objs.size := by obtain ⟨o, e, _⟩ := hit; exact Heap.lt_size e
  have llt : l < s.heap.objs.size := by obtain ⟨o, e, _⟩ := hl; exact Heap.lt_size e
  refine callType_codes (Q₁ := fun obj s₁ => obj = .ref s.heap.objs.size /\ s₁ = { s with heap := s.heap.push { cls := .type "list", data := .seq #[] } }) F.called_list (F.typeCall_list_1 _) F.entry_list_init (code_list_new _ ⟨rfl, rfl⟩) fun obj s₁ z => ?_
  obtain ⟨rfl, rfl⟩ := z
  have hS : (s.heap.push { cls := .type "list", data := .seq #[] }).get? s.heap.objs.size = some { cls := .type "list", data := .seq #[] } := Heap.get?_push_size _ rfl
  refine ⟨⟨_, hS, rfl⟩, F.args_list_init_2 _ _, ?_⟩
  show wpAny _ _ (do let old <- Builtin.List.listItems (.ref s.heap.objs.size); Builtin.List.listUpdate (.ref s.heap.objs.size) (fun _ => #[]); letGo old.toList.reverse; Builtin.List.listExtendWith (.ref s.heap.objs.size) (.ref it) .none) _ _ _
  unfold Builtin.List.listItems
  refine wpAny_bind (wpAny_bind (wpAny_seqItems hS rfl (wpAny_pure ?_)))
  refine wpAny_bind (wpAny_updateSeq hS rfl (wpAny_bind (wpAny_letGo ?_)))
  have hS2 := Heap.get?_update_self (Obj.mapSeq (fun _ => (#[] : Array Value))) hS rfl
  have old : ∀ b o, s.heap.get? b = some o -> ((s.heap.push { cls := .type "list", data := .seq #[] }).update s.heap.objs.size (Obj.mapSeq (fun _ => (#[] : Array Value)))).get? b = some o := fun b o e =>
    (Heap.get?_update_other _ _ (Nat.ne_of_gt (Heap.lt_size e))).trans (Heap.get?_push_of_some _ e)
  generalize (s.heap.push { cls := .type "list", data := .seq #[] }).update s.heap.objs.size (Obj.mapSeq (fun _ => (#[] : Array Value))) = h2 at hS2 old ⊢
  have hit2 : h2.IsRevIter it l ((xs.size : Int) - 1 - ((0 : Nat) : Int)) := by
    rw [show (xs.size : Int) - 1 - ((0 : Nat) : Int) = (xs.size : Int) - 1 by omega]
    exact hit.at fun o e => old it o e
  have hl2 : h2.IsList l xs := hl.at fun o e => old l o e
  have ty : ({ s with heap := h2 } : Shared).TypeIs (.ref it) "list_reverseiterator" := hit2.typeIs (s := { s with heap := h2 })
  have Sf : s.heap.objs.size ∉ [it, l] := by
    simp only [List.mem_cons, List.not_mem_nil, or_false, not_or]
    exact ⟨Nat.ne_of_gt ilt, Nat.ne_of_gt llt⟩
  unfold Builtin.List.listExtendWith
  refine wpAny_bind (wpAny_typeOf ty ?_)
  have r1 : Builtin.List.listSameRef (.ref s.heap.objs.size) (.ref it) = false := by simp [Builtin.List.listSameRef, Nat.ne_of_gt ilt]
  rw [if_neg (by rw [r1]; decide)]
  refine wpAny_bind (wpAny_pyIter_revIter (s := { s with heap := h2 }) hit2 ?_)
  refine wpAny_bind (wpAny_holding (rev_hint ty ?_))
  rw [if_neg (by decide)]
  refine wpAny_pure ⟨plainId_quiet F.plain_extend_loop _, codeAny_extend_loopS (rev_walks (A := A.in1.in1) hh it l ne xs).toS hn _ Sf _ xs.size 0 _ _ _ rfl (Nat.zero_le _) ⟨Nat.zero_le _, hit2, hl2⟩ hS2 (ItemsOf.nil _) fun s' acc' c' hm hS' hacc => ?_⟩
  rw [Moved.eq_with hm]
  refine ⟨rfl, hQ s'.heap s'.toks acc' c' (fun b o hb e => hm.heap b o (fun z => ?_) (old b o e)) hS' hacc⟩
  rcases List.mem_cons.mp z with z | z
  · exact absurd (Heap.lt_size e) (by rw [z]; exact Nat.lt_irrefl _)
  · exact hb (List.mem_singleton.mp z)
end PySem
namespace L2
open PySem PySem.Spec PyProof.Rows
section
variable {X : Cx}
def tListRev (K : PySem.W.Frag) (ta : TA) : TE := fun σ H Q => ta σ H fun vs H1 => ∃ a xs, vs = [.ref a] /\ SqL K H1 a xs /\ ∀ l, H1 l = none -> Q (.ref l) (upd H1 l (.lst xs.reverse))
theorem pe_listRev {a : Expr} {ta : TA} {p p2 pos pos2 : Pos} (hc : X.calm = true) (hg : Gl X "list") (hm : X.mg "list" = none) (hg2 : Gl X "reversed") (hm2 : X.mg "reversed" = none) (ha : PA X [a] ta) (hs : starEach [a] X.env = [(false, eval a X.env)] := by rfl)
    (hs2 : starEach [.Call (.Name "reversed" p2) [a] [] pos2] X.env = [(false, eval (.Call (.Name "reversed" p2) [a] [] pos2) X.env)] := by rfl) :
    PE X (.Call (.Name "list" p) [.Call (.Name "reversed" p2) [a] [] pos2] [] pos) (tListRev X.K ta) := by
  intro pins s σ H Q I h
  refine wpAny_Call_Name_kw (ld_blt I hg hm bt_list ?_)
  refine PyProof.Rows.callWith_type1 ?_ hs2 rfl
  rw [hs2]
  show wpAny _ _ (spliced [(false, eval (.Call (.Name "reversed" p2) [a] [] pos2) X.env)]) _ _ _
  refine Calls.spliced_cons ?_
  refine Call_ (ld_blt I hg2 hm2 bt_reversed (PyProof.Rows.callWith_type1 (thn (ha pos2 pins s σ H _ I h) fun us s1 ⟨vs, H1, I1, r1, q1⟩ => ?_) hs rfl))
  obtain ⟨b, xs, e, hS, q⟩ := q1
  subst e
  obtain ⟨u, rfl, ru⟩ := vals1 r1
  cases (show u = Value.ref b from ru)
  obtain ⟨its, rv, pl, hz⟩ := I1.list hS
  have hlen := rv.length
  refine call_reversed_list pl.isList (Calls.spliced_nil ?_)
  have I2 : Inv X pins σ H1 { s1 with heap := s1.heap.push (revObj b (((its.toArray.size : Nat) : Int) - 1)) } := I1.kept (t' := s1.toks) fun b o e => Heap.get?_push_of_some _ e
  have lt : b < s1.heap.objs.size := by obtain ⟨o, e, _⟩ := pl.isList; exact Heap.lt_size e
  obtain ⟨its2, rv2, pl2, _⟩ := I2.list hS
  have f := I1.fpOk (H' := H1) (b := s1.heap.objs.size) (Nat.le_refl _) (I1.hok.fresh (Nat.le_refl _))
  have hl2 : (s1.heap.push (revObj b (((its.toArray.size : Nat) : Int) - 1))).IsList b its.toArray := pl.isList.push _
  refine list_of_rev (it := s1.heap.objs.size) (l := b) (xs := its.toArray) (I1.ok.hd hc) (Nat.ne_of_gt lt) ⟨_, Heap.get?_push_size _ rfl, rfl, rfl⟩ hl2 (by rw [List.size_toArray]; omega) fun h' tk acc c hk hD hacc => ?_
  have nsz : (s1.heap.push (revObj b (((its.toArray.size : Nat) : Int) - 1))).objs.size = s1.heap.objs.size + 1 := Heap.size_push ..
  have ac : acc.toList = its.reverse := by
    refine List.ext_getElem? fun i => ?_
    rw [Array.getElem?_toList]
    by_cases hi : i < its.length
    · have ha : i < acc.size := by rw [hacc.1, List.size_toArray]; exact hi
      have z := hacc.2 i _ (Array.getElem?_eq_getElem ha)
      rw [Array.getElem?_eq_getElem ha, List.getElem?_reverse hi, <- z, List.size_toArray]
      simp
    · rw [Array.getElem?_eq_none (by rw [hacc.1, List.size_toArray]; omega), List.getElem?_eq_none (by rw [List.length_reverse]; omega)]
  have rr : ∀ {us : List V} {ws : List Value}, Vals us ws -> Vals us.reverse ws.reverse := by
    intro us ws r
    induction r with
    | nil => exact .nil
    | cons h t ih => rw [List.reverse_cons, List.reverse_cons]; exact ih.append (.cons h .nil)
  have D0 : H1 (s1.heap.objs.size + 1) = none := I1.hok.fresh (Nat.le_succ _)
  rw [nsz] at hD
  refine ⟨.ref (s1.heap.push (revObj b (((its.toArray.size : Nat) : Int) - 1))).objs.size, upd H1 (s1.heap.push (revObj b (((its.toArray.size : Nat) : Int) - 1))).objs.size (.lst xs.reverse), ?_, rfl, q _ (by rw [nsz]; exact D0)⟩
  refine I2.turnedLaid (t' := tk) (ch := [s1.heap.objs.size]) (fun c hc => by rw [List.mem_singleton.mp hc]; exact f) (fun c o hc e => hk c o (fun z => hc (by rw [z]; exact .head _)) e) (Nat.le_refl _) ⟨by rw [List.length_reverse]; exact hz, its.reverse, c, rr rv, ?_⟩
  rw [nsz, <- ac, Array.toArray_toList]
  exact hD
end
end L2
namespace Rk
abbrev Fc := Int × Int
def hd (l : List Fc) : Fc := match l with | [] => (0, 1) | p :: _ => p
def tk (many place : Int) (p : Fc) : Fc := if p.1 * many > place * p.2 then p else (place, many)
def onStep (many place : Int) (p : Fc) : Fc := Fr.sh ((tk many place p).1 * p.2 + (place - 1) * p.1 * (tk many place p).2) (place * (tk many place p).2 * p.2)
def onR (many : Int) : Nat -> List Fc
  | 0 => [(0, 1)]
  | i + 1 => onStep many (many - i) (hd (onR many i)) :: onR many i
def goodP (p : Fc) : Bool := decide (0 < p.2) && decide (p.1.natAbs < 2 ^ 1000) && decide (p.2.natAbs < 2 ^ 1000)
def turns (f : Nat -> Fc -> Fc) : Nat -> List Fc
  | 0 => [(0, 1)]
  | i + 1 => (fun l => f i (hd l) :: l) (turns f i)
theorem onR_turns (many : Int) : ∀ n, onR many n = turns (fun i p => onStep many (many - i) p) n
  | 0 => rfl
  | n + 1 => by
    show onStep many (many - n) (hd (onR many n)) :: onR many n = onStep many (many - n) (hd (turns _ n)) :: turns _ n
    rw [onR_turns many n]
def pl (x y : Fc) : Fc := Fr.sh (x.1 * y.2 + y.1 * x.2) (x.2 * y.2)
def mi (x y : Fc) : Fc := Fr.sh (x.1 * y.2 - y.1 * x.2) (x.2 * y.2)
def ti (x y : Fc) : Fc := Fr.sh (x.1 * y.1) (x.2 * y.2)
def ov (x y : Fc) : Fc := Fr.sh (x.1 * y.2) (x.2 * y.1)
def lt (x y : Fc) : Bool := decide (x.1 * y.2 < y.1 * x.2)
def gr (x y : Fc) : Fc := if lt x y then y else x
def rwStep (many place : Int) (p : Fc) : Fc := pl (ov (gr (Fr.sh place many) p) (place, 1)) (ti p (Fr.sh (place - 1) place))
def fbT (gone : Int) : Nat -> List Fc := turns fun i p => pl p (Fr.sh 1 (gone + i))
def fb (many gone : Int) : Fc := if gone = 0 then Fr.sh 1 many else ti (Fr.sh gone many) (hd (fbT gone (many - gone).toNat))
def bgF (many : Int) : Nat -> Int × Fc
  | 0 => (0, fb many 0)
  | i + 1 => (fun r f => if lt r.2 f then (1 + (i : Int), f) else r) (bgF many i) (fb many (1 + i))
def chk (m : Nat) : Bool := (fun l => l.all goodP && decide (turns (fun i p => rwStep ((m : Int) + 1) ((m : Int) + 1 - i) p) (m + 1) = l) && (fun r => decide (0 <= r.1) && decide (r.1 < (m : Int) + 1) && decide (fb ((m : Int) + 1) r.1 = hd l) && goodP r.2) (bgF ((m : Int) + 1) m)) (turns (fun i p => onStep ((m : Int) + 1) ((m : Int) + 1 - i) p) (m + 1))
theorem chk_all : ∀ m : Fin 60, chk m.val = true := by decide +kernel
structure Gd (p : Fc) : Prop where
  pos : 0 < p.2
  t : p.1.natAbs < 2 ^ 1000
  b : p.2.natAbs < 2 ^ 1000
theorem Gd.of {p : Fc} (h : goodP p = true) : Gd p := by
  unfold goodP at h
  simp only [Bool.and_eq_true, decide_eq_true_eq] at h
  exact ⟨h.1.1, h.1.2, h.2⟩
structure Ck (m : Int) : Prop where
  good : ∀ p ∈ onR m m.toNat, Gd p
  rw : turns (fun i p => rwStep m (m - i) p) m.toNat = onR m m.toNat
  g0 : 0 <= (bgF m (m.toNat - 1)).1
  g1 : (bgF m (m.toNat - 1)).1 < m
  best : fb m (bgF m (m.toNat - 1)).1 = hd (onR m m.toNat)
theorem Ck.of {m : Int} (h1 : 1 <= m) (h2 : m <= 60) : Ck m := by
  obtain ⟨k, hk⟩ : ∃ k : Nat, m = (k : Int) + 1 := ⟨(m - 1).toNat, by omega⟩
  have c := chk_all ⟨k, by omega⟩
  have c : chk k = true := c
  have e1 : m.toNat = k + 1 := by omega
  unfold chk at c
  rw [<- hk, <- e1, <- onR_turns] at c
  simp only [Bool.and_eq_true, List.all_eq_true, decide_eq_true_eq] at c
  have e2 : m.toNat - 1 = k := by omega
  refine ⟨fun p hp => Gd.of (c.1.1 p hp), c.1.2, ?_, ?_, ?_⟩
  · rw [e2]; exact c.2.1.1.1
  · rw [e2]; exact c.2.1.1.2
  · rw [e2]; exact c.2.1.2
end Rk
namespace TD
open PySem L2
open Builtin.Int (intBits)
def vals (rs : List Rs) : List Rk.Fc := rs.map fun r => (r.t, r.b)
structure FrsAt (H : Hp) (a : Addr) (rs : List Rs) : Prop where
  lst : H a = some (.lst (rrefs rs))
  at_ : ∀ r ∈ rs, RsAt H r
theorem FrsAt.same {H H' : Hp} {a : Addr} {rs : List Rs} (s : Same H H') (h : FrsAt H a rs) : FrsAt H' a rs := ⟨s _ _ h.lst, fun r hr => s _ _ (h.at_ r hr)⟩
theorem vals_length (rs : List Rs) : (vals rs).length = rs.length := List.length_map _
theorem rrefs_snoc (xs : List Rs) (y : Rs) : rrefs (xs ++ [y]) = rrefs xs ++ [V.ref y.q] := by unfold rrefs; rw [List.map_append]; rfl
theorem FrsAt.push {H : Hp} {D : Addr} {rs : List Rs} {r : Rs} (h : FrsAt H D rs) (hr : RsAt H r) : FrsAt (upd H D (.lst (rrefs rs ++ [.ref r.q]))) D (rs ++ [r]) := by
  have one : ∀ x : Rs, RsAt H x -> RsAt (upd H D (.lst (rrefs rs ++ [.ref r.q]))) x := fun x hx => by
    unfold RsAt at hx ⊢
    rw [upd_ne (ne_of hx h.lst fun z => nomatch z)]
    exact hx
  refine ⟨by rw [upd_same, rrefs_snoc], fun x hx => ?_⟩
  rcases List.mem_append.mp hx with z | z
  · exact one x (h.at_ x z)
  · rw [List.mem_singleton.mp z]; exact one r hr
def FcAt (H : Hp) (p : Addr) (f : Rk.Fc) : Prop := H p = some (.tup [.int f.1, .int f.2])
structure SzS (a b c d : Int) : Prop where
  a : intBits a <= 4400
  b : intBits b <= 4400
  c : intBits c <= 4400
  d : intBits d <= 4400
def mT (a b c d : Int) : Int := a * d - c * b
def tT (a _b c _d : Int) : Int := a * c
def pB (_a b _c d : Int) : Int := b * d
def spFr (K : PySem.W.Frag) (tp bt : Int -> Int -> Int -> Int -> Int) : Sp := fun vs H Q _ => ∃ p q a b c d, vs = [.ref p, .ref q] /\ SqT K H p [.int a, .int b] /\ SqT K H q [.int c, .int d] /\ SzS a b c d /\ bt a b c d ≠ 0 ∧
  ∀ r H', Same H H' -> FcAt H' r (Fr.sh (tp a b c d) (bt a b c d)) -> Q (.ref r) H'
def spGr (K : PySem.W.Frag) : Sp := fun vs H Q _ => ∃ p q a b c d, vs = [.ref p, .ref q] /\ SqT K H p [.int a, .int b] /\ SqT K H q [.int c, .int d] /\ Sz a b c d /\ (a * d < c * b -> Q (.ref q) H) /\ (¬ a * d < c * b -> Q (.ref p) H)
def spWh : Sp := fun vs H Q _ => ∃ i : Int, vs = [.int i] /\ ∀ p H', Same H H' -> FcAt H' p (i, 1) -> Q (.ref p) H'
def spIsW : Sp := fun vs H Q _ => ∃ i lo hi : Int, vs = [.int i, .int lo, .int hi] /\ lo <= i /\ i <= hi /\ Q (.bl true) H
def spSame : Sp := fun vs H Q _ => ∃ p q f, vs = [.ref p, .ref q] /\ FcAt H p f /\ FcAt H q f /\ Q (.bl true) H
theorem sq_fc {K : PySem.W.Frag} {H : Hp} {p : Addr} {f : Rk.Fc} (h : FcAt H p f) : SqT K H p [.int f.1, .int f.2] := SqT.of h
end TD
namespace Rk
def v (p : Fc) : Rat := (p.1 : Rat) / (p.2 : Rat)
theorem cast_ne {b : Int} (h : b ≠ 0) : (b : Rat) ≠ 0 := by exact_mod_cast h
theorem div_eq {a b c d : Int} (hb : b ≠ 0) (hd : d ≠ 0) : (a : Rat) / b = (c : Rat) / d ↔ a * d = c * b := by
  have hb' := cast_ne hb
  have hd' := cast_ne hd
  constructor
  · intro h
    have h' : (a : Rat) * d = c * b := by grind
    exact_mod_cast h'
  · intro h
    have h' : (a : Rat) * d = c * b := by exact_mod_cast h
    grind
theorem v_sh {t b : Int} (hb : b ≠ 0) : v (Fr.sh t b) = (t : Rat) / b :=
  (div_eq (Int.ne_of_gt (Fr.sh_pos hb)) hb).mpr (Fr.sh_cross t b)
theorem v_inj {p q : Fc} (hp : Fr.IsFr p.1 p.2) (hq : Fr.IsFr q.1 q.2) (e : v p = v q) : p = q := by
  obtain ⟨a, b⟩ := Fr.unique hp hq ((div_eq (Int.ne_of_gt hp.pos) (Int.ne_of_gt hq.pos)).mp e)
  exact Prod.ext a b
theorem v_int (i : Int) : v (i, 1) = (i : Rat) := by
  unfold v
  have : ((1 : Int) : Rat) = 1 := by norm_cast
  grind
theorem v_pl {x y : Fc} (hx : x.2 ≠ 0) (hy : y.2 ≠ 0) : v (pl x y) = v x + v y := by
  have hx' := cast_ne hx
  have hy' := cast_ne hy
  unfold pl
  rw [v_sh (Int.mul_ne_zero hx hy)]
  unfold v
  push_cast
  grind
theorem v_mi {x y : Fc} (hx : x.2 ≠ 0) (hy : y.2 ≠ 0) : v (mi x y) = v x - v y := by
  have hx' := cast_ne hx
  have hy' := cast_ne hy
  unfold mi
  rw [v_sh (Int.mul_ne_zero hx hy)]
  unfold v
  push_cast
  grind
theorem v_ti {x y : Fc} (hx : x.2 ≠ 0) (hy : y.2 ≠ 0) : v (ti x y) = v x * v y := by
  have hx' := cast_ne hx
  have hy' := cast_ne hy
  unfold ti
  rw [v_sh (Int.mul_ne_zero hx hy)]
  unfold v
  push_cast
  grind
end Rk
namespace TD
open PySem L2
open Builtin.Int (intBits)
theorem gyes {i : Nat} {v : V} {τ : St} {H : Hp} {A B : St -> Hp -> Prop} (h : A (τ.set i (some v)) H) : gName i v τ H (fun τ2 H2 => tYes τ2 H2 (fun b H3 => if b = true then A τ2 H3 else B τ2 H3)) := tyes_if (τ := τ.set i (some v)) (A := A (τ.set i (some v))) (B := B (τ.set i (some v))) h
theorem div_rat {m b : Int} (hb : 0 < b) (h : b ∣ m) : ((m.fdiv b : Int) : Rat) = (m : Rat) / (b : Rat) := by
  obtain ⟨c, rfl⟩ := h
  rw [Int.mul_fdiv_cancel_left c (Int.ne_of_gt hb)]
  have hb' := Rk.cast_ne (Int.ne_of_gt hb)
  push_cast
  grind
structure TotB (rs : List Rs) : Prop where
  len : rs.length <= 1000
  b : ∀ r ∈ rs, 0 < r.b
  t : ∀ r ∈ rs, intBits r.t <= 2500
  z : ((rs.map Rs.b).map intBits).sum <= 4200
end TD
namespace Lg
open Rk TD
open PySem.Builtin.Int (intBits)
structure Ld where
  pt : Int
  pb : Int
  h : Int
  lt : Int
  lb : Int
  mt : Int
  mb : Int
structure Gd (d : Ld) : Prop where
  p : 0 < d.pb
  l : 0 < d.lb
  m : 0 < d.mb
  p1 : intBits d.pt <= 64
  p2 : intBits d.pb <= 40
  h1 : intBits d.h <= 64
  l1 : intBits d.lt <= 64
  l2 : intBits d.lb <= 40
  m1 : intBits d.mt <= 64
  m2 : intBits d.mb <= 40
theorem sh_bits {t b : Int} {x y : Nat} (hb : b ≠ 0) (h1 : intBits t <= x) (h2 : intBits b <= y) : intBits (Fr.sh t b).1 <= x /\ intBits (Fr.sh t b).2 <= y :=
  ⟨PySem.intBits_le_of_natAbs (Fr.sh_le1 hb) h1, PySem.intBits_le_of_natAbs (Fr.sh_le2 hb) h2⟩
structure Fb (f : Fc) (x y : Nat) : Prop where
  pos : 0 < f.2
  t : intBits f.1 <= x
  b : intBits f.2 <= y
theorem Fb.le {f : Fc} {x y x' y' : Nat} (h : Fb f x y) (h1 : x <= x') (h2 : y <= y') : Fb f x' y' := ⟨h.pos, Nat.le_trans h.t h1, Nat.le_trans h.b h2⟩
theorem Fb.pl {f g : Fc} {x y z w n : Nat} (h : Fb f x y) (k : Fb g z w) (h1 : x + w + 1 <= n) (h2 : z + y + 1 <= n) : Fb (pl f g) n (y + w) := by
  have hb : f.2 * g.2 ≠ 0 := Int.ne_of_gt (Int.mul_pos h.pos k.pos)
  have z1 := PySem.intBits_add_le (PySem.intBits_mul_le h.t k.b) (PySem.intBits_mul_le k.t h.b)
  have z2 := sh_bits hb (Nat.le_trans z1 (show max (x + w) (z + y) + 1 <= n by omega)) (PySem.intBits_mul_le h.b k.b)
  exact ⟨Fr.sh_pos hb, z2.1, z2.2⟩
theorem Fb.ti {f g : Fc} {x y z w : Nat} (h : Fb f x y) (k : Fb g z w) : Fb (ti f g) (x + z) (y + w) := by
  have hb : f.2 * g.2 ≠ 0 := Int.ne_of_gt (Int.mul_pos h.pos k.pos)
  have z2 := sh_bits hb (PySem.intBits_mul_le h.t k.t) (PySem.intBits_mul_le h.b k.b)
  exact ⟨Fr.sh_pos hb, z2.1, z2.2⟩
theorem Gd.fp {d : Ld} (g : Gd d) : Fb (d.pt, d.pb) 64 40 := ⟨g.p, g.p1, g.p2⟩
theorem Gd.fl {d : Ld} (g : Gd d) : Fb (d.lt, d.lb) 64 40 := ⟨g.l, g.l1, g.l2⟩
theorem Gd.fm {d : Ld} (g : Gd d) : Fb (d.mt, d.mb) 64 40 := ⟨g.m, g.m1, g.m2⟩
theorem one_b : Fb ((1 : Int), (1 : Int)) 1 1 := ⟨by decide, by decide, by decide⟩
theorem nought_b : Fb ((0 : Int), (1 : Int)) 1 1 := ⟨by decide, by decide, by decide⟩
theorem v0 : v (0, 1) = 0 := by rw [v_int]; rfl
theorem v1 : v (1, 1) = 1 := by rw [v_int]; rfl
end Lg
namespace Of
open Rk TD
open PySem.Builtin.Int (intBits)
abbrev Tab := List (Int × Int)
structure GT (T : Tab) : Prop where
  ne : T ≠ []
  len : T.length <= 8
  v : ∀ r ∈ T, 0 <= r.1 /\ r.1 <= 1000000000
  w : ∀ r ∈ T, 1 <= r.2 /\ r.2 <= 8000
def W (T : Tab) : Int := (T.map (·.2)).sum
def onTop (T : Tab) (f : Fc) : Int := (T.map fun r => r.2 * (if f.1 > r.1 * f.2 then f.1 else r.1 * f.2)).sum
def onStep (T : Tab) (f : Fc) : Fc := Fr.sh (onTop T f) (W T * f.2)
def onF : List Tab -> List Fc
  | [] => [(0, 1)]
  | T :: Ts => onStep T (hd (onF Ts)) :: onF Ts
def lcmR (rs : List (Fc × Int)) : Int := lcmL (rs.map fun r => r.1.2)
def byF (rs : List (Fc × Int)) (w : Int) : Fc := Fr.sh ((rs.map fun r => r.2 * r.1.1 * (lcmR rs).fdiv r.1.2).sum) (lcmR rs * w)
def grRows (T : Tab) (f : Fc) : List (Fc × Int) := T.map fun r => (gr (r.1, 1) f, r.2)
theorem W_pos {T : Tab} (h : ∀ r ∈ T, 1 <= r.2) : (T.length : Int) <= W T := by
  unfold W
  induction T with
  | nil => simp
  | cons r T ih =>
    have a := ih fun x hx => h x (List.mem_cons_of_mem _ hx)
    have b := h r List.mem_cons_self
    simp only [List.map_cons, List.sum_cons, List.length_cons]
    omega
theorem W_le {T : Tab} (h : ∀ r ∈ T, r.2 <= 8000) : W T <= 8000 * (T.length : Int) := by
  unfold W
  induction T with
  | nil => simp
  | cons r T ih =>
    have a := ih fun x hx => h x (List.mem_cons_of_mem _ hx)
    have b := h r List.mem_cons_self
    simp only [List.map_cons, List.sum_cons, List.length_cons]
    omega
theorem GT.W1 {T : Tab} (g : GT T) : 1 <= W T /\ W T <= 64000 := by
  have a := W_pos fun r hr => (g.w r hr).1
  have b := W_le fun r hr => (g.w r hr).2
  have c := g.len
  have d : 0 < T.length := List.length_pos_iff.mpr g.ne
  omega
theorem by_sum {m : Int} (hm : 0 < m) : ∀ rs : List (Fc × Int), (∀ r ∈ rs, 0 < r.1.2 /\ r.1.2 ∣ m) -> (((rs.map fun r => r.2 * r.1.1 * m.fdiv r.1.2).sum : Int) : Rat) / (m : Rat) = (rs.map fun r => (r.2 : Rat) * v r.1).sum
  | [], _ => by simp; grind
  | r :: rs, h => by
    have ih := by_sum hm rs fun g hg => h g (List.mem_cons_of_mem _ hg)
    obtain ⟨a, b⟩ := h r List.mem_cons_self
    simp only [List.map_cons, List.sum_cons]
    rw [<- ih]
    have hm' := cast_ne (Int.ne_of_gt hm)
    have hf' := cast_ne (Int.ne_of_gt a)
    unfold v
    push_cast
    rw [div_rat a b]
    grind
theorem lcmR_ok {rs : List (Fc × Int)} (h : ∀ r ∈ rs, 0 < r.1.2) : 0 < lcmR rs /\ ∀ r ∈ rs, r.1.2 ∣ lcmR rs := by
  obtain ⟨a, b⟩ := lcmL_ok (ns := rs.map fun r => r.1.2) fun n hn => by
    obtain ⟨f, hf, rfl⟩ := List.mem_map.mp hn
    exact h f hf
  exact ⟨a, fun f hf => b _ (List.mem_map.mpr ⟨f, hf, rfl⟩)⟩
theorem v_byF {rs : List (Fc × Int)} {w : Int} (h : ∀ r ∈ rs, 0 < r.1.2) (hw : 0 < w) : v (byF rs w) = (rs.map fun r => (r.2 : Rat) * v r.1).sum / (w : Rat) := by
  obtain ⟨a, b⟩ := lcmR_ok h
  unfold byF
  rw [v_sh (Int.ne_of_gt (Int.mul_pos a hw)), <- by_sum a rs fun r hr => ⟨h r hr, b r hr⟩]
  have ha' := cast_ne (Int.ne_of_gt a)
  have hw' := cast_ne (Int.ne_of_gt hw)
  push_cast
  grind
theorem byF_fr {rs : List (Fc × Int)} {w : Int} (h : ∀ r ∈ rs, 0 < r.1.2) (hw : 0 < w) : Fr.IsFr (byF rs w).1 (byF rs w).2 := Fr.sh_ok (Int.ne_of_gt (Int.mul_pos (lcmR_ok h).1 hw))
theorem on_sum {f : Fc} (hf : 0 < f.2) : ∀ T : Tab, ((onTop T f : Int) : Rat) / (f.2 : Rat) = ((grRows T f).map fun r => (r.2 : Rat) * v r.1).sum
  | [] => by unfold onTop grRows; simp; grind
  | r :: T => by
    have ih := on_sum hf T
    have hf' := cast_ne (Int.ne_of_gt hf)
    unfold onTop grRows at ih ⊢
    simp only [List.map_cons, List.sum_cons]
    rw [<- ih]
    by_cases c : f.1 > r.1 * f.2
    · have e : gr (r.1, 1) f = f := if_pos (show lt (r.1, 1) f = true from decide_eq_true (show r.1 * f.2 < f.1 * 1 by omega))
      rw [if_pos c, e]
      unfold v
      push_cast
      grind
    · have e : gr (r.1, 1) f = (r.1, 1) := if_neg (show ¬ lt (r.1, 1) f = true by unfold lt; rw [decide_eq_false (show ¬ r.1 * f.2 < f.1 * 1 by omega)]; exact Bool.false_ne_true)
      rw [if_neg c, e, v_int]
      push_cast
      grind
theorem on_eq {T : Tab} {f : Fc} (g : GT T) (hf : 0 < f.2) : byF (grRows T f) (W T) = onStep T f := by
  have hw : 0 < W T := by have := g.W1; omega
  have hp : ∀ r ∈ grRows T f, 0 < r.1.2 := fun r hr => by
    obtain ⟨x, hx, rfl⟩ := List.mem_map.mp hr
    show 0 < (gr (x.1, 1) f).2
    unfold gr
    split
    · exact hf
    · show (0 : Int) < 1; decide
  refine v_inj (byF_fr hp hw) (Fr.sh_ok (Int.ne_of_gt (Int.mul_pos hw hf))) ?_
  unfold onStep
  rw [v_byF hp hw, v_sh (Int.ne_of_gt (Int.mul_pos hw hf)), <- on_sum hf]
  have hf' := cast_ne (Int.ne_of_gt hf)
  have hw' := cast_ne (Int.ne_of_gt hw)
  push_cast
  grind
def takenOf (T : Tab) (R : List Bool) : List (Fc × Int) := ((T.zip R).filter (·.2)).map fun x => ((x.1.1, 1), x.1.2)
def had (T : Tab) (R : List Bool) : Int := (((T.zip R).filter (·.2)).map fun x => x.1.1 * x.1.2).sum
def wYes (T : Tab) (R : List Bool) : Int := (((T.zip R).filter (·.2)).map fun x => x.1.2).sum
def wNo (T : Tab) (R : List Bool) : Int := (((T.zip R).filter (fun x => !x.2)).map fun x => x.1.2).sum
theorem yes_no : ∀ (T : Tab) (R : List Bool), T.length = R.length -> wYes T R + wNo T R = W T
  | [], [], _ => rfl
  | [], _ :: _, h => by simp at h
  | _ :: _, [], h => by simp at h
  | r :: T, b :: R, h => by
    have ih := yes_no T R (by simpa using h)
    unfold wYes wNo W at ih ⊢
    cases b <;> simp only [List.zip_cons_cons, List.filter_cons, Bool.not_true, Bool.not_false, if_true, if_false, Bool.false_eq_true, List.map_cons, List.sum_cons] <;> omega
def meanS (T : Tab) (R : List Bool) : Fc := byF (takenOf T R) (W T)
def shareS (T : Tab) (R : List Bool) : Fc := Fr.sh (wYes T R) (W T)
theorem had_v : ∀ l : List ((Int × Int) × Bool), ((l.map fun x => (((x.1.1, 1) : Fc), x.1.2)).map fun r => (r.2 : Rat) * v r.1).sum = (((l.map fun x => x.1.1 * x.1.2).sum : Int) : Rat)
  | [] => by simp
  | x :: l => by
    have ih := had_v l
    simp only [List.map_cons, List.sum_cons]
    rw [ih, v_int]
    push_cast
    grind
theorem v_meanS {T : Tab} {R : List Bool} (g : GT T) : v (meanS T R) = (had T R : Rat) / (W T : Rat) := by
  have hw : 0 < W T := by have := g.W1; omega
  have hp : ∀ r ∈ takenOf T R, 0 < r.1.2 := fun r hr => by
    obtain ⟨x, hx, rfl⟩ := List.mem_map.mp hr
    show (0 : Int) < 1; decide
  unfold meanS
  rw [v_byF hp hw]
  unfold takenOf had
  rw [had_v]
structure St where
  f : Fc
  r : Fc
def mStep (s : St) (T : Tab) (R : List Bool) : St := ⟨pl s.f (ti s.r (meanS T R)), ti s.r (mi (1, 1) (shareS T R))⟩
def mF (l : List (Tab × List Bool)) : St := l.foldl (fun s x => mStep s x.1 x.2) ⟨(0, 1), (1, 1)⟩
structure Sl where
  f : Fc
  t : Int
  b : Int
def tStep (s : Sl) (T : Tab) (R : List Bool) : Sl := ⟨Fr.sh (s.f.1 * (s.b * W T) + s.t * had T R * s.f.2) (s.f.2 * (s.b * W T)), s.t * wNo T R, s.b * W T⟩
structure Alike (s : St) (z : Sl) : Prop where
  eq : s.f = z.f
  fr : Fr.IsFr s.f.1 s.f.2
  rp : 0 < s.r.2
  bp : 0 < z.b
  re : v s.r = (z.t : Rat) / (z.b : Rat)
theorem Alike.step {s : St} {z : Sl} {T : Tab} {R : List Bool} (a : Alike s z) (g : GT T) (hl : T.length = R.length) : Alike (mStep s T R) (tStep z T R) := by
  have hw : 0 < W T := by have := g.W1; omega
  have hp : ∀ r ∈ takenOf T R, 0 < r.1.2 := fun r hr => by
    obtain ⟨x, hx, rfl⟩ := List.mem_map.mp hr
    show (0 : Int) < 1; decide
  have m2 : 0 < (meanS T R).2 := (byF_fr hp hw).pos
  have s2 : 0 < (shareS T R).2 := Fr.sh_pos (Int.ne_of_gt hw)
  have t2 : 0 < (ti s.r (meanS T R)).2 := Fr.sh_pos (Int.ne_of_gt (Int.mul_pos a.rp m2))
  have i2 : 0 < (mi (1, 1) (shareS T R)).2 := Fr.sh_pos (Int.ne_of_gt (Int.mul_pos (show (0 : Int) < 1 by decide) s2))
  have fp := a.fr.pos
  have bw : 0 < z.b * W T := Int.mul_pos a.bp hw
  have zf : 0 < z.f.2 := by rw [<- a.eq]; exact fp
  have hb' := cast_ne (Int.ne_of_gt a.bp)
  have hw' := cast_ne (Int.ne_of_gt hw)
  have ok : Fr.IsFr (pl s.f (ti s.r (meanS T R))).1 (pl s.f (ti s.r (meanS T R))).2 := Fr.sh_ok (Int.ne_of_gt (Int.mul_pos fp t2))
  refine ⟨v_inj ok (Fr.sh_ok (Int.ne_of_gt (Int.mul_pos zf bw))) ?_, ok, Fr.sh_pos (Int.ne_of_gt (Int.mul_pos a.rp i2)), bw, ?_⟩
  · show v (pl s.f (ti s.r (meanS T R))) = v (Fr.sh (z.f.1 * (z.b * W T) + z.t * had T R * z.f.2) (z.f.2 * (z.b * W T)))
    rw [v_pl (Int.ne_of_gt fp) (Int.ne_of_gt t2), v_ti (Int.ne_of_gt a.rp) (Int.ne_of_gt m2), v_meanS g, a.re, a.eq, v_sh (Int.ne_of_gt (Int.mul_pos zf bw))]
    have hz' := cast_ne (Int.ne_of_gt zf)
    unfold v
    push_cast
    grind
  · show v (ti s.r (mi (1, 1) (shareS T R))) = ((z.t * wNo T R : Int) : Rat) / ((z.b * W T : Int) : Rat)
    have e := yes_no T R hl
    have e' : (wYes T R : Rat) + (wNo T R : Rat) = (W T : Rat) := by exact_mod_cast e
    rw [v_ti (Int.ne_of_gt a.rp) (Int.ne_of_gt i2), v_mi (show (1 : Int) ≠ 0 by decide) (Int.ne_of_gt s2), Lg.v1, a.re]
    unfold shareS
    rw [v_sh (Int.ne_of_gt hw)]
    push_cast
    grind
open Lg (Fb)
theorem sum_abs {k : Nat} : ∀ l : List Int, (∀ x ∈ l, intBits x <= k) -> l.sum.natAbs <= l.length * 2 ^ k
  | [], _ => by simp
  | x :: l, h => by
    have a := sum_abs l fun y hy => h y (List.mem_cons_of_mem _ hy)
    have b := PySem.intBits_le_iff.mp (h x List.mem_cons_self)
    simp only [List.sum_cons, List.length_cons]
    have c := Int.natAbs_add_le x l.sum
    rw [Nat.add_mul, Nat.one_mul]
    omega
theorem sum8 {k : Nat} {l : List Int} (hl : l.length <= 8) (h : ∀ x ∈ l, intBits x <= k) : intBits l.sum <= k + 4 := by
  refine PySem.intBits_le_iff.mpr ?_
  have a := sum_abs l h
  have b : l.length * 2 ^ k <= 8 * 2 ^ k := Nat.mul_le_mul_right _ hl
  have c : 8 * 2 ^ k < 2 ^ (k + 4) := by
    rw [Nat.pow_add]
    have : 0 < 2 ^ k := Nat.two_pow_pos k
    omega
  omega
theorem bits_of {x : Int} {k : Nat} (h1 : -(2 ^ k : Int) < x) (h2 : x < 2 ^ k) : intBits x <= k := by
  refine PySem.intBits_le_iff.mpr ?_
  have : ((x.natAbs : Nat) : Int) < ((2 ^ k : Nat) : Int) := by push_cast; omega
  omega
theorem GT.wb {T : Tab} (g : GT T) : intBits (W T) <= 16 := by
  have := g.W1
  exact bits_of (by omega) (by omega)
theorem GT.vb {T : Tab} (g : GT T) {r : Int × Int} (hr : r ∈ T) : intBits r.1 <= 30 /\ intBits r.2 <= 13 := by
  have a := g.v r hr
  have b := g.w r hr
  exact ⟨bits_of (by omega) (by omega), bits_of (by omega) (by omega)⟩
theorem onTop_b {T : Tab} {f : Fc} {x y : Nat} (g : GT T) (h : Fb f x y) : intBits (onTop T f) <= max x (30 + y) + 17 := by
  unfold onTop
  refine Nat.le_trans (sum8 (k := 13 + max x (30 + y)) (by rw [List.length_map]; exact g.len) fun z hz => ?_) (by omega)
  obtain ⟨r, hr, rfl⟩ := List.mem_map.mp hz
  obtain ⟨a, b⟩ := g.vb hr
  refine PySem.intBits_mul_le b ?_
  split
  · exact Nat.le_trans h.t (by omega)
  · exact Nat.le_trans (PySem.intBits_mul_le a h.b) (by omega)
theorem onStep_b {T : Tab} {f : Fc} {x y : Nat} (g : GT T) (h : Fb f x y) : Fb (onStep T f) (max x (30 + y) + 17) (16 + y) := by
  have hw : 0 < W T := by have := g.W1; omega
  have hb : W T * f.2 ≠ 0 := Int.ne_of_gt (Int.mul_pos hw h.pos)
  have z := Lg.sh_bits hb (onTop_b g h) (PySem.intBits_mul_le g.wb h.b)
  exact ⟨Fr.sh_pos hb, z.1, z.2⟩
theorem onF_b : ∀ Ts : List Tab, (∀ T ∈ Ts, GT T) -> Fb (hd (onF Ts)) (17 * Ts.length + 48) (16 * Ts.length + 1)
  | [], _ => Lg.nought_b.le (by omega) (by omega)
  | T :: Ts, h => by
    have a := onF_b Ts fun y hy => h y (List.mem_cons_of_mem _ hy)
    have b := onStep_b (h T List.mem_cons_self) a
    simp only [List.length_cons]
    exact b.le (by omega) (by omega)
end Of
namespace Of
open Rk TD
open Lg (Fb)
open PySem.Builtin.Int (intBits)
theorem meanS_eq {T : Tab} {R : List Bool} (g : GT T) : meanS T R = Fr.sh (had T R) (W T) := by
  have hw : 0 < W T := by have := g.W1; omega
  have hp : ∀ r ∈ takenOf T R, 0 < r.1.2 := fun r hr => by
    obtain ⟨x, hx, rfl⟩ := List.mem_map.mp hr
    show (0 : Int) < 1; decide
  refine v_inj (byF_fr hp hw) (Fr.sh_ok (Int.ne_of_gt hw)) ?_
  rw [v_meanS g, v_sh (Int.ne_of_gt hw)]
theorem zip_mem {T : Tab} {R : List Bool} {p : (Int × Int) × Bool -> Bool} {x : (Int × Int) × Bool} (h : x ∈ (T.zip R).filter p) : x.1 ∈ T := (List.of_mem_zip (show (x.1, x.2) ∈ T.zip R from (List.mem_filter.mp h).1)).1
theorem zip_len {T : Tab} {R : List Bool} {p : (Int × Int) × Bool -> Bool} (h : T.length <= 8) : ((T.zip R).filter p).length <= 8 := by
  have a := List.length_filter_le p (T.zip R)
  rw [List.length_zip] at a
  omega
theorem had_b {T : Tab} {R : List Bool} (g : GT T) : intBits (had T R) <= 47 := by
  unfold had
  refine sum8 (k := 43) (by rw [List.length_map]; exact zip_len g.len) fun z hz => ?_
  obtain ⟨x, hx, rfl⟩ := List.mem_map.mp hz
  obtain ⟨a, b⟩ := g.vb (zip_mem hx)
  exact PySem.intBits_mul_le a b
theorem wsum_b {T : Tab} {R : List Bool} {p : (Int × Int) × Bool -> Bool} (g : GT T) : intBits ((((T.zip R).filter p).map fun x => x.1.2).sum) <= 17 := by
  refine sum8 (k := 13) (by rw [List.length_map]; exact zip_len g.len) fun z hz => ?_
  obtain ⟨x, hx, rfl⟩ := List.mem_map.mp hz
  exact (g.vb (zip_mem hx)).2
theorem meanS_b {T : Tab} {R : List Bool} (g : GT T) : Fb (meanS T R) 47 16 := by
  have hw : 0 < W T := by have := g.W1; omega
  rw [meanS_eq g]
  have z := Lg.sh_bits (Int.ne_of_gt hw) (had_b (R := R) g) g.wb
  exact ⟨Fr.sh_pos (Int.ne_of_gt hw), z.1, z.2⟩
theorem shareS_b {T : Tab} {R : List Bool} (g : GT T) : Fb (shareS T R) 17 16 := by
  have hw : 0 < W T := by have := g.W1; omega
  have z := Lg.sh_bits (Int.ne_of_gt hw) (wsum_b (R := R) (p := (·.2)) g) g.wb
  exact ⟨Fr.sh_pos (Int.ne_of_gt hw), z.1, z.2⟩
theorem Fb.mi1 {f : Fc} {x y n : Nat} (h : Fb f x y) (h1 : y + 2 <= n) (h2 : x + 2 <= n) : Fb (mi (1, 1) f) n (y + 1) := by
  have hb : (1 : Int) * f.2 ≠ 0 := Int.ne_of_gt (Int.mul_pos (by decide) h.pos)
  have e : (1 : Int) * f.2 - f.1 * 1 = f.2 + -f.1 := by omega
  have z := Lg.sh_bits (t := 1 * f.2 - f.1 * 1) (x := n) (y := y + 1) hb (by
    rw [e]
    have a := h.b
    have b := h.t
    have c : intBits (-f.1) <= x := PySem.intBits_le_iff.mpr (by rw [Int.natAbs_neg]; exact PySem.intBits_le_iff.mp b)
    have d := PySem.intBits_add_le (Nat.le_trans a (by omega : y <= n - 1)) (Nat.le_trans c (by omega : x <= n - 1))
    omega) (by
    rw [Int.one_mul]
    exact Nat.le_trans h.b (by omega))
  exact ⟨Fr.sh_pos hb, z.1, z.2⟩
structure SB (s : St) (n : Nat) : Prop where
  r : Fb s.r (20 * n + 1) (17 * n + 1)
  f : Fb s.f (400 * n + 400) (200 * n + 1)
theorem SB.step {s : St} {n : Nat} {T : Tab} {R : List Bool} (h : SB s n) (hn : n <= 8) (g : GT T) : SB (mStep s T R) (n + 1) := by
  refine ⟨?_, ?_⟩
  · exact (h.r.ti (Fb.mi1 (shareS_b (R := R) g) (n := 19) (by decide) (by decide))).le (by omega) (by omega)
  · exact (h.f.pl (h.r.ti (meanS_b (R := R) g)) (n := 400 * (n + 1) + 400) (by omega) (by omega)).le (Nat.le_refl _) (by omega)
theorem mF_snoc (l : List (Tab × List Bool)) (x : Tab × List Bool) : mF (l ++ [x]) = mStep (mF l) x.1 x.2 := by unfold mF; rw [List.foldl_append]; rfl
theorem mF_b : ∀ (n : Nat) (l : List (Tab × List Bool)), l.length = n -> n <= 8 -> (∀ x ∈ l, GT x.1) -> SB (mF l) n
  | 0, l, e, _, _ => by
    cases l with
    | nil => exact ⟨Lg.one_b.le (by decide) (by decide), Lg.nought_b.le (by decide) (by decide)⟩
    | cons => simp at e
  | n + 1, l, e, hn, h => by
    obtain ⟨l', x, rfl⟩ : ∃ l' x, l = l' ++ [x] := ⟨l.dropLast, l.getLast (by rintro rfl; simp at e), (List.dropLast_concat_getLast _).symm⟩
    rw [mF_snoc]
    have a := mF_b n l' (by simpa using e) (by omega) fun y hy => h y (List.mem_append_left _ hy)
    exact a.step (by omega) (h x (List.mem_append_right _ (List.mem_singleton.mpr rfl)))
structure TB (s : Sl) (n : Nat) : Prop where
  f : Fb s.f (400 * n + 400) (200 * n + 1)
  b0 : 0 < s.b
  t : intBits s.t <= 17 * n + 1
  b : intBits s.b <= 17 * n + 1
theorem onF_pos : ∀ Ts : List Tab, (∀ T ∈ Ts, GT T) -> 0 < (hd (onF Ts)).2 := fun Ts h => (onF_b Ts h).pos
end Of
namespace Of
open Rk TD
open Lg (Fb)
open PySem.Builtin.Int (intBits)
def mx (v : Int) (f : Fc) : Int := if f.1 > v * f.2 then f.1 else v * f.2
def ownT (v : Int) (b : Bool) (f : Fc) : Int := if b = true then v * f.2 else f.1
def ownRows (T : Tab) (R : List Bool) (f : Fc) : List (Fc × Int) := (T.zip R).map fun x => (if x.2 = true then ((x.1.1, 1) : Fc) else f, x.1.2)
def ownTop (T : Tab) (R : List Bool) (f : Fc) : Int := ((T.zip R).map fun x => x.1.2 * ownT x.1.1 x.2 f).sum
def lossTop (T : Tab) (R : List Bool) (f : Fc) : Int := ((T.zip R).map fun x => x.1.2 * (mx x.1.1 f - ownT x.1.1 x.2 f)).sum
def lossP (T : Tab) (R : List Bool) (f : Fc) : Fc := mi (byF (grRows T f) (W T)) (byF (ownRows T R f) (W T))
def lossL (T : Tab) (R : List Bool) (f : Fc) : Fc := Fr.sh (lossTop T R f) (W T * f.2)
theorem own_list {f : Fc} (hf : 0 < f.2) : ∀ l : List ((Int × Int) × Bool), (((l.map fun x => x.1.2 * ownT x.1.1 x.2 f).sum : Int) : Rat) / (f.2 : Rat) = ((l.map fun x => ((if x.2 = true then ((x.1.1, 1) : Fc) else f), x.1.2)).map fun r => (r.2 : Rat) * v r.1).sum
  | [] => by simp; grind
  | x :: l => by
    have ih := own_list hf l
    have hf' := cast_ne (Int.ne_of_gt hf)
    simp only [List.map_cons, List.sum_cons]
    rw [<- ih]
    unfold ownT
    by_cases c : x.2 = true
    · rw [if_pos c, if_pos c, v_int]
      push_cast
      grind
    · rw [if_neg c, if_neg c]
      unfold v
      push_cast
      grind
theorem own_pos {T : Tab} {R : List Bool} {f : Fc} (hf : 0 < f.2) : ∀ r ∈ ownRows T R f, 0 < r.1.2 := fun r hr => by
  obtain ⟨x, hx, rfl⟩ := List.mem_map.mp hr
  show 0 < (if x.2 = true then ((x.1.1, 1) : Fc) else f).2
  split
  · show (0 : Int) < 1; decide
  · exact hf
theorem own_eq {T : Tab} {R : List Bool} {f : Fc} (g : GT T) (hf : 0 < f.2) : byF (ownRows T R f) (W T) = Fr.sh (ownTop T R f) (W T * f.2) := by
  have hw : 0 < W T := by have := g.W1; omega
  refine v_inj (byF_fr (own_pos hf) hw) (Fr.sh_ok (Int.ne_of_gt (Int.mul_pos hw hf))) ?_
  rw [v_byF (own_pos hf) hw, v_sh (Int.ne_of_gt (Int.mul_pos hw hf))]
  have e := own_list hf (T.zip R)
  unfold ownRows ownTop
  rw [<- e]
  have hf' := cast_ne (Int.ne_of_gt hf)
  have hw' := cast_ne (Int.ne_of_gt hw)
  push_cast
  grind
theorem loss_sum (f : Fc) : ∀ (T : Tab) (R : List Bool), T.length = R.length -> lossTop T R f = onTop T f - ownTop T R f
  | [], [], _ => rfl
  | [], _ :: _, h => by simp at h
  | _ :: _, [], h => by simp at h
  | r :: T, b :: R, h => by
    have ih := loss_sum f T R (by simpa using h)
    unfold lossTop onTop ownTop at ih ⊢
    simp only [List.zip_cons_cons, List.map_cons, List.sum_cons]
    rw [ih]
    unfold mx
    rw [Int.mul_sub]
    omega
theorem own_sum (f : Fc) : ∀ (T : Tab) (R : List Bool), ownTop T R f = had T R * f.2 + wNo T R * f.1
  | [], [] => by unfold ownTop had wNo; simp
  | [], _ :: _ => by unfold ownTop had wNo; simp
  | _ :: _, [] => by unfold ownTop had wNo; simp
  | r :: T, b :: R => by
    have ih := own_sum f T R
    unfold ownTop had wNo ownT at ih ⊢
    cases b <;> simp only [List.zip_cons_cons, List.filter_cons, Bool.not_true, Bool.not_false, if_true, if_false, Bool.false_eq_true, List.map_cons, List.sum_cons] <;> rw [ih] <;> grind
theorem v_on {T : Tab} {f : Fc} (g : GT T) (hf : 0 < f.2) : v (onStep T f) = (onTop T f : Rat) / ((W T : Rat) * (f.2 : Rat)) := by
  have hw : 0 < W T := by have := g.W1; omega
  unfold onStep
  rw [v_sh (Int.ne_of_gt (Int.mul_pos hw hf))]
  push_cast
  rfl
theorem v_loss {T : Tab} {R : List Bool} {f : Fc} (g : GT T) (hf : 0 < f.2) : v (lossL T R f) = (lossTop T R f : Rat) / ((W T : Rat) * (f.2 : Rat)) := by
  have hw : 0 < W T := by have := g.W1; omega
  unfold lossL
  rw [v_sh (Int.ne_of_gt (Int.mul_pos hw hf))]
  push_cast
  rfl
theorem loss_eq {T : Tab} {R : List Bool} {f : Fc} (g : GT T) (hl : T.length = R.length) (hf : 0 < f.2) : lossP T R f = lossL T R f := by
  have hw : 0 < W T := by have := g.W1; omega
  have hwf := Int.ne_of_gt (Int.mul_pos hw hf)
  unfold lossP
  rw [on_eq g hf, own_eq g hf]
  have o2 : 0 < (onStep T f).2 := Fr.sh_pos hwf
  have w2 : 0 < (Fr.sh (ownTop T R f) (W T * f.2)).2 := Fr.sh_pos hwf
  refine v_inj (Fr.sh_ok (Int.ne_of_gt (Int.mul_pos o2 w2))) (Fr.sh_ok hwf) ?_
  have a : v (mi (onStep T f) (Fr.sh (ownTop T R f) (W T * f.2))) = v (onStep T f) - v (Fr.sh (ownTop T R f) (W T * f.2)) := v_mi (Int.ne_of_gt o2) (Int.ne_of_gt w2)
  have b : v (lossL T R f) = _ := v_loss g hf
  show v (mi (onStep T f) (Fr.sh (ownTop T R f) (W T * f.2))) = v (lossL T R f)
  rw [a, b, v_on g hf, v_sh hwf, loss_sum f T R hl]
  have hf' := cast_ne (Int.ne_of_gt hf)
  have hw' := cast_ne (Int.ne_of_gt hw)
  push_cast
  grind
theorem loss_nn {T : Tab} {R : List Bool} {f : Fc} (g : GT T) (hf : 0 < f.2) : 0 <= (lossL T R f).1 := by
  have hw : 0 < W T := by have := g.W1; omega
  have hwf := Int.mul_pos hw hf
  have top : 0 <= lossTop T R f := by
    unfold lossTop
    have key : ∀ l : List Int, (∀ x ∈ l, 0 <= x) -> 0 <= l.sum := fun l => by
      induction l with
      | nil => intro _; simp
      | cons x l ih =>
        intro h
        have a := ih fun y hy => h y (List.mem_cons_of_mem _ hy)
        have b := h x List.mem_cons_self
        simp only [List.sum_cons]
        omega
    refine key _ fun z hz => ?_
    obtain ⟨x, hx, rfl⟩ := List.mem_map.mp hz
    have m := (List.of_mem_zip (show (x.1, x.2) ∈ T.zip R from hx)).1
    have w := (g.w _ m).1
    refine Int.mul_nonneg (by omega) ?_
    unfold mx ownT
    split <;> split <;> omega
  have c := Fr.sh_cross (lossTop T R f) (W T * f.2)
  have p : 0 < (lossL T R f).2 := Fr.sh_pos (Int.ne_of_gt hwf)
  have c : (lossL T R f).1 * (W T * f.2) = lossTop T R f * (lossL T R f).2 := c
  rcases Int.lt_or_le (lossL T R f).1 0 with z | z
  · have a := Int.mul_neg_of_neg_of_pos z hwf
    have b := Int.mul_nonneg top (Int.le_of_lt p)
    omega
  · exact z
def best (T : Tab) (f : Fc) : List Bool := T.map fun r => decide (f.1 <= r.1 * f.2)
theorem best_top (f : Fc) : ∀ T : Tab, lossTop T (best T f) f = 0
  | [] => rfl
  | r :: T => by
    have ih := best_top f T
    unfold lossTop best at ih ⊢
    simp only [List.map_cons, List.zip_cons_cons, List.sum_cons]
    rw [ih]
    have e : mx r.1 f - ownT r.1 (decide (f.1 <= r.1 * f.2)) f = 0 := by
      unfold mx ownT
      by_cases c : f.1 <= r.1 * f.2
      · rw [decide_eq_true c, if_pos rfl, if_neg (by omega)]
        omega
      · rw [decide_eq_false c, if_neg Bool.false_ne_true, if_pos (by omega)]
        omega
    rw [e]
    simp
theorem best_loss {T : Tab} {f : Fc} (g : GT T) (hf : 0 < f.2) : lossL T (best T f) f = (0, 1) := by
  have hw : 0 < W T := by have := g.W1; omega
  have hwf := Int.ne_of_gt (Int.mul_pos hw hf)
  refine v_inj (Fr.sh_ok hwf) (q := (0, 1)) ⟨by decide, by decide⟩ ?_
  have b : v (lossL T (best T f) f) = _ := v_loss g hf
  show v (lossL T (best T f) f) = _
  rw [b, best_top]
  unfold v
  simp
  rw [Rat.div_def, Rat.div_def, Rat.zero_mul, Rat.zero_mul]
theorem reach_eq {T : Tab} {R : List Bool} {r : Fc} (g : GT T) (hl : T.length = R.length) (hr : 0 < r.2) : ti r (mi (1, 1) (shareS T R)) = Fr.sh (r.1 * wNo T R) (r.2 * W T) := by
  have hw : 0 < W T := by have := g.W1; omega
  have s2 : 0 < (shareS T R).2 := Fr.sh_pos (Int.ne_of_gt hw)
  have i2 : 0 < (mi (1, 1) (shareS T R)).2 := Fr.sh_pos (Int.ne_of_gt (Int.mul_pos (show (0 : Int) < 1 by decide) s2))
  have hrw := Int.ne_of_gt (Int.mul_pos hr hw)
  refine v_inj (Fr.sh_ok (Int.ne_of_gt (Int.mul_pos hr i2))) (Fr.sh_ok hrw) ?_
  have e' : (wYes T R : Rat) + (wNo T R : Rat) = (W T : Rat) := by exact_mod_cast yes_no T R hl
  have hw' := cast_ne (Int.ne_of_gt hw)
  have hr' := cast_ne (Int.ne_of_gt hr)
  have a : v (ti r (mi (1, 1) (shareS T R))) = v r * v (mi (1, 1) (shareS T R)) := v_ti (Int.ne_of_gt hr) (Int.ne_of_gt i2)
  show v (ti r (mi (1, 1) (shareS T R))) = v (Fr.sh (r.1 * wNo T R) (r.2 * W T))
  rw [a, v_mi (show (1 : Int) ≠ 0 by decide) (Int.ne_of_gt s2), Lg.v1, v_sh hrw]
  unfold shareS
  rw [v_sh (Int.ne_of_gt hw)]
  unfold v
  push_cast
  grind
def wF (f r : Fc) (T : Tab) (R : List Bool) (o : Fc) : Fc := pl (pl f (r.1 * had T R, r.2 * W T)) (r.1 * (lossL T R o).1, r.2 * (lossL T R o).2)
theorem walk_step {f r o : Fc} {T : Tab} {R : List Bool} {c : Rat} (g : GT T) (hl : T.length = R.length) (hf : 0 < f.2) (hr : 0 < r.2) (ho : 0 < o.2) (e : v f + v r * v (onStep T o) = c) :
    Fr.IsFr (wF f r T R o).1 (wF f r T R o).2 /\ v (wF f r T R o) + v (ti r (mi (1, 1) (shareS T R))) * v o = c := by
  have hw : 0 < W T := by have := g.W1; omega
  have l2 : 0 < (lossL T R o).2 := Fr.sh_pos (Int.ne_of_gt (Int.mul_pos hw ho))
  have rw2 := Int.mul_pos hr hw
  have rl2 := Int.mul_pos hr l2
  have p2 : 0 < (pl f (r.1 * had T R, r.2 * W T)).2 := Fr.sh_pos (Int.ne_of_gt (Int.mul_pos hf rw2))
  refine ⟨Fr.sh_ok (Int.ne_of_gt (Int.mul_pos p2 rl2)), ?_⟩
  rw [reach_eq g hl hr, v_sh (Int.ne_of_gt rw2)]
  unfold wF
  rw [v_pl (Int.ne_of_gt p2) (Int.ne_of_gt rl2), v_pl (Int.ne_of_gt hf) (Int.ne_of_gt rw2), <- e, v_on g ho]
  have vl : v (r.1 * (lossL T R o).1, r.2 * (lossL T R o).2) = v r * v (lossL T R o) := by
    have a := cast_ne (Int.ne_of_gt hr)
    have b := cast_ne (Int.ne_of_gt l2)
    unfold v
    push_cast
    grind
  rw [vl, v_loss g ho, loss_sum o T R hl, own_sum o T R]
  have hw' := cast_ne (Int.ne_of_gt hw)
  have hr' := cast_ne (Int.ne_of_gt hr)
  have ho' := cast_ne (Int.ne_of_gt ho)
  unfold v
  push_cast
  grind
theorem mx_b {v : Int} {f : Fc} (hv : intBits v <= 30) (h : Fb f 200 200) : intBits (mx v f) <= 230 := by
  unfold mx
  split
  · exact Nat.le_trans h.t (by decide)
  · exact PySem.intBits_mul_le hv h.b
theorem ownT_b {v : Int} {b : Bool} {f : Fc} (hv : intBits v <= 30) (h : Fb f 200 200) : intBits (ownT v b f) <= 230 := by
  unfold ownT
  split
  · exact PySem.intBits_mul_le hv h.b
  · exact Nat.le_trans h.t (by decide)
theorem sub_b {x y : Int} {k : Nat} (h1 : intBits x <= k) (h2 : intBits y <= k) : intBits (x - y) <= k + 1 := by
  have c : intBits (-y) <= k := PySem.intBits_le_iff.mpr (by rw [Int.natAbs_neg]; exact PySem.intBits_le_iff.mp h2)
  have d := PySem.intBits_add_le h1 c
  rw [Int.sub_eq_add_neg]
  omega
theorem zlen {T : Tab} {R : List Bool} (h : T.length <= 8) : (T.zip R).length <= 8 := by
  rw [List.length_zip]
  omega
theorem ownTop_b {T : Tab} {R : List Bool} {f : Fc} (g : GT T) (h : Fb f 200 200) : intBits (ownTop T R f) <= 247 := by
  unfold ownTop
  refine sum8 (k := 243) (by rw [List.length_map]; exact zlen g.len) fun z hz => ?_
  obtain ⟨x, hx, rfl⟩ := List.mem_map.mp hz
  obtain ⟨a, b⟩ := g.vb (List.of_mem_zip (show (x.1, x.2) ∈ T.zip R from hx)).1
  exact PySem.intBits_mul_le b (ownT_b a h)
theorem lossTop_b {T : Tab} {R : List Bool} {f : Fc} (g : GT T) (h : Fb f 200 200) : intBits (lossTop T R f) <= 248 := by
  unfold lossTop
  refine sum8 (k := 244) (by rw [List.length_map]; exact zlen g.len) fun z hz => ?_
  obtain ⟨x, hx, rfl⟩ := List.mem_map.mp hz
  obtain ⟨a, b⟩ := g.vb (List.of_mem_zip (show (x.1, x.2) ∈ T.zip R from hx)).1
  exact PySem.intBits_mul_le b (sub_b (mx_b a h) (ownT_b a h))
theorem own_b {T : Tab} {R : List Bool} {f : Fc} (g : GT T) (h : Fb f 200 200) : Fb (byF (ownRows T R f) (W T)) 247 216 := by
  have hw : 0 < W T := by have := g.W1; omega
  have hwf := Int.ne_of_gt (Int.mul_pos hw h.pos)
  rw [own_eq g h.pos]
  have z := Lg.sh_bits hwf (ownTop_b (R := R) g h) (PySem.intBits_mul_le g.wb h.b)
  exact ⟨Fr.sh_pos hwf, z.1, z.2⟩
theorem gr_b {T : Tab} {f : Fc} (g : GT T) (h : Fb f 200 200) : Fb (byF (grRows T f) (W T)) 247 216 := by
  rw [on_eq g h.pos]
  exact (onStep_b g h).le (by decide) (by decide)
theorem lossL_b {T : Tab} {R : List Bool} {f : Fc} (g : GT T) (h : Fb f 200 200) : Fb (lossL T R f) 248 216 := by
  have hw : 0 < W T := by have := g.W1; omega
  have hwf := Int.ne_of_gt (Int.mul_pos hw h.pos)
  have z := Lg.sh_bits hwf (lossTop_b (R := R) g h) (PySem.intBits_mul_le g.wb h.b)
  exact ⟨Fr.sh_pos hwf, z.1, z.2⟩
theorem Fb.mul {r g : Fc} {x y z w : Nat} (h : Fb r x y) (k : Fb g z w) : Fb (r.1 * g.1, r.2 * g.2) (x + z) (y + w) := ⟨Int.mul_pos h.pos k.pos, PySem.intBits_mul_le h.t k.t, PySem.intBits_mul_le h.b k.b⟩
theorem had_f {T : Tab} {R : List Bool} (g : GT T) : Fb (had T R, W T) 47 16 := ⟨by have := g.W1; show 0 < W T; omega, had_b g, g.wb⟩
structure WB (f r : Fc) (T : Tab) (R : List Bool) (o : Fc) (i : Nat) : Prop where
  a : Fb (r.1 * had T R, r.2 * W T) (20 * i + 48) (17 * i + 17)
  b : Fb (pl f (r.1 * had T R, r.2 * W T)) (497 * i + 218) (497 * i + 18)
  c : Fb (r.1 * (lossL T R o).1, r.2 * (lossL T R o).2) (20 * i + 249) (17 * i + 217)
  d : Fb (wF f r T R o) (480 * (i + 1) + 200) (480 * (i + 1) + 1)
theorem walk_b {f r o : Fc} {T : Tab} {R : List Bool} {i : Nat} (hi : i <= 7) (g : GT T) (hf : Fb f (480 * i + 200) (480 * i + 1)) (hr : Fb r (20 * i + 1) (17 * i + 1)) (ho : Fb o 200 200) : WB f r T R o i := by
  have a : Fb (r.1 * had T R, r.2 * W T) (20 * i + 48) (17 * i + 17) := (Fb.mul hr (had_f (R := R) g)).le (by omega) (by omega)
  have b := (hf.pl a (n := 497 * i + 218) (by omega) (by omega)).le (Nat.le_refl _) (show 480 * i + 1 + (17 * i + 17) <= 497 * i + 18 by omega)
  have c := (Fb.mul hr (lossL_b (R := R) g ho)).le (show 20 * i + 1 + 248 <= 20 * i + 249 by omega) (show 17 * i + 1 + 216 <= 17 * i + 217 by omega)
  have d := (b.pl c (n := 480 * (i + 1) + 200) (by omega) (by omega)).le (Nat.le_refl _) (show 497 * i + 18 + (17 * i + 217) <= 480 * (i + 1) + 1 by omega)
  exact ⟨a, b, c, d⟩
theorem onF_at : ∀ (Ts : List Tab) (j : Nat), j <= Ts.length -> (onF Ts)[j]? = some (hd (onF (Ts.drop j)))
  | [], 0, _ => rfl
  | [], j + 1, h => by simp at h
  | T :: Ts, 0, _ => rfl
  | T :: Ts, j + 1, h => by
    have ih := onF_at Ts j (by simpa using h)
    show (onF Ts)[j]? = _
    rw [ih]
    rfl
theorem onF_cons {Ts : List Tab} {T : Tab} {i : Nat} (h : Ts[i]? = some T) : hd (onF (Ts.drop i)) = onStep T (hd (onF (Ts.drop (i + 1)))) := by
  have l := (List.getElem?_eq_some_iff.mp h).1
  have e := (List.getElem?_eq_some_iff.mp h).2
  rw [List.drop_eq_getElem_cons l, e]
  rfl
theorem onF_200 {Ts : List Tab} (h : ∀ T ∈ Ts, GT T) (hl : Ts.length <= 8) (i : Nat) : Fb (hd (onF (Ts.drop i))) 200 200 := by
  have a := onF_b (Ts.drop i) fun T hT => h T (List.mem_of_mem_drop hT)
  have b : (Ts.drop i).length <= 8 := by rw [List.length_drop]; omega
  exact a.le (by omega) (by omega)
theorem onF_fr : ∀ Ts : List Tab, (∀ T ∈ Ts, GT T) -> Fr.IsFr (hd (onF Ts)).1 (hd (onF Ts)).2
  | [], _ => ⟨by decide, by decide⟩
  | T :: Ts, h => by
    have hw : 0 < W T := by have := (h T List.mem_cons_self).W1; omega
    exact Fr.sh_ok (Int.ne_of_gt (Int.mul_pos hw (onF_pos Ts fun y hy => h y (List.mem_cons_of_mem _ hy))))
theorem mF_r {l : List (Tab × List Bool)} {T : Tab} {R : List Bool} : (mF (l ++ [(T, R)])).r = ti (mF l).r (mi (1, 1) (shareS T R)) := by rw [mF_snoc]; rfl
theorem v_nought : v (0, 1) = 0 := by rw [v_int]; rfl
end Of
namespace L2
open PySem PySem.Spec PyProof.Rows
def cSq (tp : Bool) : String := if tp then "tuple" else "list"
def cIt (tp : Bool) : String := if tp then "tuple_iterator" else "list_iterator"
def SqIs (tp : Bool) (h : Heap) (l : Addr) (its : Array Value) : Prop := ∃ o, h.get? l = some o /\ o.cls = .type (cSq tp) /\ ∃ n, o.data = .seq its n
def SqIt (tp : Bool) (h : Heap) (it l : Addr) (i : Nat) : Prop := ∃ o, h.get? it = some o /\ o.cls = .type (cIt tp) /\ o.data = .fields #[.ref l, .int i 0]
theorem SqIs.keep {tp : Bool} {h h' : Heap} {l : Addr} {its : Array Value} (x : SqIs tp h l its) (k : ∀ o, h.get? l = some o -> h'.get? l = some o) : SqIs tp h' l its := let ⟨o, e, r⟩ := x; ⟨o, k o e, r⟩
theorem SqIt.keep {tp : Bool} {h h' : Heap} {it l : Addr} {i : Nat} (x : SqIt tp h it l i) (k : ∀ o, h.get? it = some o -> h'.get? it = some o) : SqIt tp h' it l i := let ⟨o, e, r⟩ := x; ⟨o, k o e, r⟩
theorem SqIs.lt {tp : Bool} {h : Heap} {l : Addr} {its : Array Value} (x : SqIs tp h l its) : l < h.objs.size := let ⟨_, e, _⟩ := x; Heap.lt_size e
def SqK (tp : Bool) (K : PySem.W.Frag) (H : Hp) (a : Addr) (xs : List V) : Prop := match tp with | true => SqT K H a xs | false => SqL K H a xs
section
variable {X : Cx} {pins : List (Addr × Obj)} {σ : St} {H : Hp} {s : Shared}
theorem Inv.sqk {tp : Bool} {a : Addr} {xs : List V} (I : Inv X pins σ H s) (h : SqK tp X.K H a xs) : ∃ its : List Value, Vals xs its /\ SqIs tp s.heap a its.toArray /\ xs.length <= sizeLine := by
  cases tp
  · obtain ⟨its, r, pl, z⟩ := I.list h
    exact ⟨its, r, pl.isList, z⟩
  · obtain ⟨its, r, pl, z⟩ := I.tuple h
    exact ⟨its, r, pl, z⟩
theorem Inv.sqk_inj {tp : Bool} {a : Addr} {xs ys : List V} (I : Inv X pins σ H s) (h : SqK tp X.K H a xs) (g : SqK tp X.K H a ys) : xs = ys := by
  cases tp
  · exact I.list_inj h g
  · exact I.tuple_inj h g
end
section
variable {prog : Program} {w : World} {A : Around} {E : Value -> Shared -> Prop} {s : Shared}
theorem sq_iter {tp : Bool} {l : Addr} {its : Array Value} {Q : Value -> Shared -> Prop} (x : SqIs tp s.heap l its)
    (q : Q (.ref s.heap.objs.size) { s with heap := s.heap.push { cls := .type (cIt tp), data := .fields #[.ref l, .int 0 0] } }) : wpAny (model prog w) A (pyIter (.ref l)) Q E s := by
  cases tp
  · exact wpAny_pyIter_list (items := its) x q
  · exact iter_tuple (items := its) x q
theorem sq_next {tp : Bool} {it l : Addr} {i : Nat} {its : Array Value} {v : Value} {Q : Value -> Shared -> Prop} (hi : SqIt tp s.heap it l i) (hl : SqIs tp s.heap l its) (hv : its[i]? = some v)
    (q : ∀ h', SqIt tp h' it l (i + 1) -> Heap.SameBut it s.heap h' -> Q v { s with heap := h' }) : wpAny (model prog w) A (Builtin.SmallTypes.nextOf (.ref it)) Q E s := by
  cases tp
  · exact wpAny_nextOf_list_item (l := l) (items := its) hi hl hv q
  · have ti : s.TypeIs (.ref it) "tuple_iterator" := IsTupIter.typeIs (t := l) (i := i) hi
    obtain ⟨o, ho, hc, hd⟩ := id hi
    obtain ⟨p, hp, _, m, hm⟩ := hl
    unfold Builtin.SmallTypes.nextOf
    refine wpAny_bind (wpAny_callSpecial?_slot (name := Str.ofString "__next__") ti slot_tupleiter_next (wpAny_call_entry slot_tupleiter_next ti entry_tupleiter_next ?_ (args_tupleiter_next _)))
    show wpAny _ _ (field (.ref it) 0 >>= _) _ _ s
    refine wpAny_bind (wpAny_field ho hd (x := .ref l) rfl ?_)
    show wpAny _ _ (if (Value.ref l == Value.none) = true then _ else _) _ _ s
    rw [if_neg (show ¬ ((Value.ref l == Value.none) = true) from Bool.false_ne_true)]
    show wpAny _ _ (field (.ref it) 1 >>= _) _ _ s
    refine wpAny_bind (wpAny_field ho hd (x := .int i 0) rfl ?_)
    show wpAny _ _ (seqItems? (.ref l) >>= _) _ _ s
    refine wpAny_bind (wpAny_seqItems hp hm ?_)
    simp only [Int.toNat_natCast, hv]
    refine wpAny_bind (wpAny_setField ho hd (by simp) (wpAny_pure ⟨v, rfl, wpAny_pure (q _ ?_ (Heap.SameBut.update ..))⟩))
    exact ⟨_, Heap.get?_update_self _ ho (Obj.isFreed_of_fields (Obj.data_mapFields hd _)), (Obj.cls_mapFields ..).trans hc, by rw [Obj.data_mapFields hd]; simp [rawInt]⟩
theorem sq_stop {tp : Bool} {it l : Addr} {i : Nat} {its : Array Value} {Q : Value -> Shared -> Prop} (hh : A.handled = none) (hi : SqIt tp s.heap it l i) (hl : SqIs tp s.heap l its) (hv : its[i]? = none)
    (q : ∀ h' e, Heap.ExtBut it s.heap h' -> (∃ o, h'.get? e = some o /\ o.cls = .type "StopIteration") -> E (.ref e) { s with heap := h' }) : wpAny (model prog w) A (Builtin.SmallTypes.nextOf (.ref it)) Q E s := by
  cases tp
  · exact wpAny_nextOf_list_end (l := l) (items := its) hh hi hl hv q
  · have ti : s.TypeIs (.ref it) "tuple_iterator" := IsTupIter.typeIs (t := l) (i := i) hi
    obtain ⟨o, ho, hc, hd⟩ := id hi
    obtain ⟨p, hp, _, m, hm⟩ := hl
    unfold Builtin.SmallTypes.nextOf
    refine wpAny_bind (wpAny_callSpecial?_slot (name := Str.ofString "__next__") ti slot_tupleiter_next (wpAny_call_entry slot_tupleiter_next ti entry_tupleiter_next ?_ (args_tupleiter_next _)))
    show wpAny _ _ (field (.ref it) 0 >>= _) _ _ s
    refine wpAny_bind (wpAny_field ho hd (x := .ref l) rfl ?_)
    show wpAny _ _ (if (Value.ref l == Value.none) = true then _ else _) _ _ s
    rw [if_neg (show ¬ ((Value.ref l == Value.none) = true) from Bool.false_ne_true)]
    show wpAny _ _ (field (.ref it) 1 >>= _) _ _ s
    refine wpAny_bind (wpAny_field ho hd (x := .int i 0) rfl ?_)
    show wpAny _ _ (seqItems? (.ref l) >>= _) _ _ s
    refine wpAny_bind (wpAny_seqItems hp hm ?_)
    simp only [Int.toNat_natCast, hv]
    refine wpAny_bind (wpAny_rule (wpAny_bind (wpAny_setField ho hd (by simp) ?_)))
    show wpAny _ _ (newExc (.type "StopIteration") [] >>= _) _ _ _
    refine wpAny_bind ?_
    simp only [newExc, newTuple]
    refine wpAny_bind (wpAny_newObj_type ?_ (by size_fits))
    refine wpAny_bind (m := firstArgMember _ _) (wpAny_of_eq (a := Value.none) (by first | rfl | (simp only [firstArgMember]; rfl)) ?_)
    refine wpAny_newObj_type ?_ (by size_fits)
    simp only [raiseNew]
    refine wpAny_bind (wpAny_handled ?_)
    first | rw [show A.in1.handled = none from hh] | rw [hh]
    refine wpAny_bind (wpAny_pure (wpAny_throw ?_))
    exact q _ _ (((Heap.SameBut.update ..).extBut.push _).push _) ⟨_, Heap.get?_push_size _ rfl, rfl⟩
end
end L2
namespace L2
open PySem PySem.Spec PyProof.Rows
structure ZAt (p q : Bool) (h : Heap) (z ti to a b l m : Addr) (i : Nat) : Prop where
  zip : IsZip h z ti to .none
  its : IsPair h ti (.ref a) (.ref b)
  own : ∃ x y, IsPair h to x y
  one : SqIt p h a l i
  two : SqIt q h b m i
structure ZNe (z ti to a b l m : Addr) : Prop where
  tz : ti ≠ z
  oz : to ≠ z
  az : a ≠ z
  bz : b ≠ z
  ot : to ≠ ti
  ta : ti ≠ a
  tb : ti ≠ b
  oa : to ≠ a
  ob : to ≠ b
  ab : a ≠ b
  lz : l ≠ z
  lo : l ≠ to
  la : l ≠ a
  lb : l ≠ b
  mz : m ≠ z
  mo : m ≠ to
  ma : m ≠ a
  mb : m ≠ b
section
variable {prog : Program} {w : World} {A : Around} {E : Value -> Shared -> Prop} {s : Shared} {p q : Bool} {z ti to a b l m : Addr} {i : Nat} {xs ys : Array Value}
def ZKeep (z to a b : Addr) (h h' : Heap) : Prop := ∀ c o, c ≠ z -> c ≠ to -> c ≠ a -> c ≠ b -> h.get? c = some o -> h'.get? c = some o
theorem put_pair {x y v : Value} {k : Nat} {Q : Unit -> Shared -> Prop} (hT : IsPair s.heap to x y)
    (h : ∀ h', h'.get? to = some { cls := .type "tuple", data := .seq ((#[x, y] : Array Value).setIfInBounds k v) } -> Heap.SameBut to s.heap h' -> Q () { s with heap := h' }) :
    wpAny (model prog w) A (updateSeq to (·.setIfInBounds k v)) Q E s := wpAny_updateSeq_pair hT h
theorem zs_item {x y : Value} {Q : Value -> Shared -> Prop} (N : ZNe z ti to a b l m) (Z : ZAt p q s.heap z ti to a b l m i) (hl : SqIs p s.heap l xs) (hm : SqIs q s.heap m ys) (hx : xs[i]? = some x) (hy : ys[i]? = some y)
    (k : ∀ h', IsZip h' z ti to (rawInt s.heap.objs.size) -> (∃ u v, IsPair h' to u v) -> SqIt p h' a l (i + 1) -> SqIt q h' b m (i + 1) -> IsPair h' s.heap.objs.size x y -> ZKeep z to a b s.heap h' -> Q (.ref s.heap.objs.size) { s with heap := h' }) :
    wpAny (model prog w) A (Builtin.«zip.__next__» ⟨[.ref z], []⟩) (fun fin s' => ∃ v, fin = .done (.ret v) /\ Q v s') E s := by
  obtain ⟨hz, ht, ⟨u, v, ho⟩, h1, h2⟩ := Z
  show wpAny _ _ (field (.ref z) 2 >>= _) _ _ _
  refine wpAny_bind (wpAny_field hz rfl (x := .bool false) rfl (show wpAny _ _ (field (.ref z) 3 >>= _) _ _ _ from wpAny_bind (wpAny_field hz rfl (x := .ref ti) rfl (wpAny_bind (wpAny_seqItems ht rfl ?_)))))
  show wpAny _ _ (Builtin.SmallTypes.ownedTupleIsFree (.ref z) >>= _) _ _ _
  unfold Builtin.SmallTypes.ownedTupleIsFree
  refine wpAny_bind (wpAny_bind (wpAny_field hz rfl (x := .none) rfl (wpAny_pure ?_)))
  rw [if_pos rfl]
  refine wpAny_bind (wpAny_rule (wpAny_bind (wpAny_field hz rfl (x := .ref to) rfl (wpAny_bind (wpAny_setField_rec hz (by simp) fun k1 z1 e1 => ?_)))))
  have z1 : IsZip k1 z ti to .ellipsis := z1
  simp only [List.zipIdx_cons, List.zipIdx_nil, List.forIn_cons, List.forIn_nil]
  refine wpAny_bind (wpAny_bind (wpAny_bind (wpAny_onRaise (show wpAny _ _ (Builtin.SmallTypes.nextOf (.ref a) >>= _) _ _ _ from wpAny_bind (sq_next (h1.keep fun o e => e1.extBut _ _ N.az e) (hl.keep fun o e => e1.extBut _ _ N.lz e) hx fun k2 a2 e2 => wpAny_pure ?_)))))
  have o2 : IsPair k2 to u v := e2.extBut _ _ N.oa (e1.extBut _ _ N.oz ho)
  refine wpAny_bind (wpAny_seqItems o2 rfl (wpAny_bind (put_pair o2 fun k3 o3 e3 => wpAny_bind (wpAny_letGo (wpAny_pure ?_)))))
  have o3 : IsPair k3 to x v := o3
  have b3 : SqIt q k3 b m i := h2.keep fun o e => e3.extBut _ _ N.ob.symm (e2.extBut _ _ N.ab.symm (e1.extBut _ _ N.bz e))
  have m3 : SqIs q k3 m ys := hm.keep fun o e => e3.extBut _ _ N.mo (e2.extBut _ _ N.ma (e1.extBut _ _ N.mz e))
  refine wpAny_bind (wpAny_bind (wpAny_onRaise (show wpAny _ _ (Builtin.SmallTypes.nextOf (.ref b) >>= _) _ _ _ from wpAny_bind (sq_next b3 m3 hy fun k4 b4 e4 => wpAny_pure ?_))))
  have o4 : IsPair k4 to x v := e4.extBut _ _ N.ob o3
  refine wpAny_bind (wpAny_seqItems o4 rfl (wpAny_bind (put_pair o4 fun k5 o5 e5 => wpAny_bind (wpAny_letGo (wpAny_pure (wpAny_pure ?_))))))
  have o5 : IsPair k5 to x y := o5
  have sz : k5.objs.size = s.heap.objs.size := by rw [e5.1, e4.1, e3.1, e2.1, e1.1]
  have z5 : IsZip k5 z ti to .ellipsis := e5.extBut _ _ N.oz.symm (e4.extBut _ _ N.bz.symm (e3.extBut _ _ N.oz.symm (e2.extBut _ _ N.az.symm z1)))
  have a5 : SqIt p k5 a l (i + 1) := a2.keep fun o e => e5.extBut _ _ N.oa.symm (e4.extBut _ _ N.ab (e3.extBut _ _ N.oa.symm e))
  have b5 : SqIt q k5 b m (i + 1) := b4.keep fun o e => e5.extBut _ _ N.ob.symm e
  have zl : z < k5.objs.size := Heap.lt_size z5
  refine wpAny_bind (wpAny_seqItems o5 rfl (wpAny_bind (wpAny_newTuple ?_)))
  show wpAny _ _ (Builtin.SmallTypes.ownedTupleHandOut (.ref z) (.ref k5.objs.size) >>= _) _ _ _
  unfold Builtin.SmallTypes.ownedTupleHandOut
  have z6 : IsZip (k5.push { cls := .type "tuple", data := .seq #[x, y] }) z ti to .ellipsis := Heap.get?_push_of_some _ z5
  refine wpAny_bind (wpAny_bind (wpAny_setField_rec z6 (by simp) fun k7 z7 e7 => ?_))
  have z7 : IsZip k7 z ti to (rawInt k5.objs.size) := z7
  refine wpAny_setField_rec z7 (by simp) fun k8 z8 e8 => wpAny_pure ⟨_, rfl, ?_⟩
  have z8 : IsZip k8 z ti to (rawInt k5.objs.size) := z8
  have up : ∀ c o, c ≠ z -> k5.get? c = some o -> k8.get? c = some o := fun c o n e => e8.extBut _ _ n (e7.extBut _ _ n (Heap.get?_push_of_some _ e))
  have t8 : IsPair k8 k5.objs.size x y := e8.extBut _ _ (Nat.ne_of_gt zl) (e7.extBut _ _ (Nat.ne_of_gt zl) (Heap.get?_push_size _ rfl))
  rw [sz] at z8 t8
  show Q (.ref k5.objs.size) _
  rw [sz]
  exact k k8 z8 ⟨_, _, up _ _ N.oz o5⟩ (a5.keep fun o e => up _ o N.az e) (b5.keep fun o e => up _ o N.bz e) t8 fun c o n1 n2 n3 n4 e => up c o n1 (e5.extBut _ _ n2 (e4.extBut _ _ n4 (e3.extBut _ _ n2 (e2.extBut _ _ n3 (e1.extBut _ _ n1 e)))))
theorem zs_end {Q : Fin -> Shared -> Prop} (hh : A.handled = none) (N : ZNe z ti to a b l m) (Z : ZAt p q s.heap z ti to a b l m i) (hl : SqIs p s.heap l xs) (hm : SqIs q s.heap m ys) (hn : xs[i]? = none ∨ ys[i]? = none)
    (k : ∀ h' e, ZKeep z to a b s.heap h' -> (∃ o, h'.get? e = some o /\ o.cls = .type "StopIteration") -> E (.ref e) { s with heap := h' }) : wpAny (model prog w) A (Builtin.«zip.__next__» ⟨[.ref z], []⟩) Q E s := by
  obtain ⟨hz, ht, ⟨u, v, ho⟩, h1, h2⟩ := Z
  show wpAny _ _ (field (.ref z) 2 >>= _) _ _ _
  refine wpAny_bind (wpAny_field hz rfl (x := .bool false) rfl (show wpAny _ _ (field (.ref z) 3 >>= _) _ _ _ from wpAny_bind (wpAny_field hz rfl (x := .ref ti) rfl (wpAny_bind (wpAny_seqItems ht rfl ?_)))))
  show wpAny _ _ (Builtin.SmallTypes.ownedTupleIsFree (.ref z) >>= _) _ _ _
  unfold Builtin.SmallTypes.ownedTupleIsFree
  refine wpAny_bind (wpAny_bind (wpAny_field hz rfl (x := .none) rfl (wpAny_pure ?_)))
  rw [if_pos rfl]
  refine wpAny_bind (wpAny_rule (wpAny_bind (wpAny_field hz rfl (x := .ref to) rfl (wpAny_bind (wpAny_setField_rec hz (by simp) fun k1 z1 e1 => ?_)))))
  have z1 : IsZip k1 z ti to .ellipsis := z1
  simp only [List.zipIdx_cons, List.zipIdx_nil, List.forIn_cons, List.forIn_nil]
  have a1 : SqIt p k1 a l i := h1.keep fun o e => e1.extBut _ _ N.az e
  have l1 : SqIs p k1 l xs := hl.keep fun o e => e1.extBut _ _ N.lz e
  have fin : ∀ (k2 : Heap) (e : Addr), IsZip k2 z ti to .ellipsis -> ZKeep z to a b s.heap k2 -> (∃ o, k2.get? e = some o /\ o.cls = .type "StopIteration") -> wpAny (model prog w) A (setField (.ref z) 0 .none) (fun _ s' => E (.ref e) s') E { s with heap := k2 } := fun k2 e z2 kk he => by
    obtain ⟨o, eo, co⟩ := he
    have ne : e ≠ z := fun x => by subst x; rw [z2] at eo; cases eo; simp at co
    exact wpAny_setField_rec z2 (by simp) fun k3 _ e3 => k k3 e (fun c o n1 n2 n3 n4 x => e3.extBut _ _ n1 (kk c o n1 n2 n3 n4 x)) ⟨o, e3.extBut _ _ ne eo, co⟩
  refine wpAny_bind (wpAny_bind (wpAny_bind (wpAny_onRaise ?_)))
  show wpAny _ _ (Builtin.SmallTypes.nextOf (.ref a) >>= _) _ _ _
  cases hx : xs[i]? with
  | none => exact wpAny_bind (sq_stop hh a1 l1 hx fun k2 e e2 he => fin k2 e (e2 _ _ N.az.symm z1) (fun c o n1 _ n3 _ x => e2 _ _ n3 (e1.extBut _ _ n1 x)) he)
  | some x =>
    have hy : ys[i]? = none := by rcases hn with h | h; rw [hx] at h; cases h; exact h
    refine wpAny_bind (sq_next a1 l1 hx fun k2 a2 e2 => wpAny_pure ?_)
    have o2 : IsPair k2 to u v := e2.extBut _ _ N.oa (e1.extBut _ _ N.oz ho)
    refine wpAny_bind (wpAny_seqItems o2 rfl (wpAny_bind (put_pair o2 fun k3 o3 e3 => wpAny_bind (wpAny_letGo (wpAny_pure ?_)))))
    have b3 : SqIt q k3 b m i := h2.keep fun o e => e3.extBut _ _ N.ob.symm (e2.extBut _ _ N.ab.symm (e1.extBut _ _ N.bz e))
    have m3 : SqIs q k3 m ys := hm.keep fun o e => e3.extBut _ _ N.mo (e2.extBut _ _ N.ma (e1.extBut _ _ N.mz e))
    refine wpAny_bind (wpAny_bind (wpAny_onRaise ?_))
    show wpAny _ _ (Builtin.SmallTypes.nextOf (.ref b) >>= _) _ _ _
    exact wpAny_bind (sq_stop hh b3 m3 hy fun k4 e e4 he => fin k4 e (e4 _ _ N.bz.symm (e3.extBut _ _ N.oz.symm (e2.extBut _ _ N.az.symm z1))) (fun c o n1 n2 n3 n4 x => e4 _ _ n4 (e3.extBut _ _ n2 (e2.extBut _ _ n3 (e1.extBut _ _ n1 x)))) he)
end
end L2
namespace L2
open PySem PySem.Spec PyProof.Rows
section
variable {prog : Program} {w : World} {A : Around} {E : Value -> Shared -> Prop} {s : Shared} {p q : Bool} {z ti to a b l m : Addr} {i : Nat} {xs ys : Array Value}
theorem zs_nextI {x y : Value} {Q : Option Value -> Shared -> Prop} (N : ZNe z ti to a b l m) (Z : ZAt p q s.heap z ti to a b l m i) (hl : SqIs p s.heap l xs) (hm : SqIs q s.heap m ys) (hx : xs[i]? = some x) (hy : ys[i]? = some y)
    (k : ∀ h', IsZip h' z ti to (rawInt s.heap.objs.size) -> (∃ u v, IsPair h' to u v) -> SqIt p h' a l (i + 1) -> SqIt q h' b m (i + 1) -> IsPair h' s.heap.objs.size x y -> ZKeep z to a b s.heap h' -> Q (some (.ref s.heap.objs.size)) { s with heap := h' }) :
    wpAny (model prog w) A (pyNext (.ref z)) Q E s := by
  have t : s.TypeIs (.ref z) "zip" := ⟨_, Z.zip, rfl⟩
  unfold pyNext
  refine wpAny_bind (wpAny_attempt (wpAny_callSpecial?_slot (name := Str.ofString "__next__") t F.slot_zip_next (wpAny_call_entry F.slot_zip_next t F.entry_zip_next ?_ (F.args_zip_next_1 _))))
  exact zs_item N Z hl hm hx hy fun h' c1 c2 c3 c4 c5 c6 => wpAny_pure (k h' c1 c2 c3 c4 c5 c6)
theorem zs_nextE {Q : Option Value -> Shared -> Prop} (hh : A.handled = none) (N : ZNe z ti to a b l m) (Z : ZAt p q s.heap z ti to a b l m i) (hl : SqIs p s.heap l xs) (hm : SqIs q s.heap m ys) (hn : xs[i]? = none ∨ ys[i]? = none)
    (k : ∀ h', ZKeep z to a b s.heap h' -> Q none { s with heap := h' }) : wpAny (model prog w) A (pyNext (.ref z)) Q E s := by
  have t : s.TypeIs (.ref z) "zip" := ⟨_, Z.zip, rfl⟩
  unfold pyNext
  refine wpAny_bind (wpAny_attempt (wpAny_callSpecial?_slot (name := Str.ofString "__next__") t F.slot_zip_next (wpAny_call_entry F.slot_zip_next t F.entry_zip_next ?_ (F.args_zip_next_1 _))))
  refine zs_end hh N Z hl hm hn fun h' e kk he => ?_
  obtain ⟨o, eo, co⟩ := he
  exact wpAny_bind (wpAny_isInstance (T := "StopIteration") (b := true) ⟨o, eo, co⟩ isSubtype_stop (wpAny_pure (k _ kk)))
end
def itOb (tp : Bool) (l : Addr) : Obj := { cls := .type (cIt tp), data := .fields #[.ref l, .int 0 0] }
def zA (p q : Bool) (h : Heap) (l m : Addr) : Heap := (h.push (itOb p l)).push (itOb q m)
def zB (p q : Bool) (h : Heap) (l m : Addr) : Heap := ((zA p q h l m).push { cls := .type "tuple", data := .seq #[.ref h.objs.size, .ref (h.push (itOb p l)).objs.size] }).push { cls := .type "tuple", data := .seq #[.none, .none] }
def zC (p q : Bool) (h : Heap) (l m : Addr) : Heap := (zB p q h l m).push { cls := .type "zip", data := .fields #[.none, .bool false, .bool false, .ref (zA p q h l m).objs.size, .ref ((zA p q h l m).push { cls := .type "tuple", data := .seq #[.ref h.objs.size, .ref (h.push (itOb p l)).objs.size] }).objs.size] }
theorem SqIs.push {tp : Bool} {h : Heap} {l : Addr} {its : Array Value} (x : SqIs tp h l its) (o : Obj) : SqIs tp (h.push o) l its := x.keep fun _ e => Heap.get?_push_of_some _ e
theorem zip_made (p q : Bool) (l m : Addr) (xs ys : Array Value) :
    Meets (Builtin.«zip.__new__» ⟨[.type "zip", .ref l, .ref m], []⟩) (fun _ R s => SqIs p s.heap l xs /\ SqIs q s.heap m ys /\ R (.ok (.ret (.ref (zB p q s.heap l m).objs.size))) { s with heap := zC p q s.heap l m }) :=
  .of_wp fun prog w A R s h => by
    obtain ⟨hp, g, d, tk, os⟩ := s
    obtain ⟨h1, h2, h⟩ := h
    have hsub := sub_zip
    have k1 : SqIs p (Shared.heap ⟨hp, g, d, tk, os⟩) l xs := h1
    have k2 : SqIs q (Shared.heap ⟨hp.push { cls := .type (cIt p), data := .fields #[.ref l, .int 0 0] }, g, d, tk, os⟩) m ys := SqIs.push h2 _
    wp_walk using sq_iter k1, sq_iter k2
    exact ⟨_, rfl, h⟩
section
variable {prog : Program} {w : World} {A : Around} {E : Value -> Shared -> Prop} {s : Shared} {p q : Bool} {l m : Addr} {xs ys : Array Value}
theorem zip_call {Q : Value -> Shared -> Prop} (h1 : SqIs p s.heap l xs) (h2 : SqIs q s.heap m ys)
    (k : ∀ h', ZAt p q h' (s.heap.objs.size + 4) (s.heap.objs.size + 2) (s.heap.objs.size + 3) s.heap.objs.size (s.heap.objs.size + 1) l m 0 -> (∀ c o, s.heap.get? c = some o -> h'.get? c = some o) -> Q (.ref (s.heap.objs.size + 4)) { s with heap := h' }) :
    wpAny (model prog w) A (call (.type "zip") [.ref l, .ref m]) Q E s := by
  refine callType_new F.called_zip (by decide) (F.typeCall_zip_2 _ _) (F.newCall_zip_2 _ _) (fun obj => F.args_object_init_3 obj _ _) F.entry_zip_new (zip_made p q l m xs ys) ⟨h1, h2, ?_⟩
  have n1 : (s.heap.push (itOb p l)).objs.size = s.heap.objs.size + 1 := Heap.size_push ..
  have n2 : (zA p q s.heap l m).objs.size = s.heap.objs.size + 2 := by unfold zA; rw [Heap.size_push, n1]
  have n4 : (zB p q s.heap l m).objs.size = s.heap.objs.size + 4 := by unfold zB; rw [Heap.size_push, Heap.size_push, n2]
  have e5 : (zC p q s.heap l m).get? (zB p q s.heap l m).objs.size = some _ := Heap.get?_push_size _ rfl
  have e4 : (zC p q s.heap l m).get? ((zA p q s.heap l m).push { cls := .type "tuple", data := .seq #[.ref s.heap.objs.size, .ref (s.heap.push (itOb p l)).objs.size] }).objs.size = some _ := Heap.get?_push_of_some _ (Heap.get?_push_size _ rfl)
  have e3 : (zC p q s.heap l m).get? (zA p q s.heap l m).objs.size = some _ := Heap.get?_push_of_some _ (Heap.get?_push_of_some _ (Heap.get?_push_size _ rfl))
  have e2 : (zC p q s.heap l m).get? (s.heap.push (itOb p l)).objs.size = some (itOb q m) := Heap.get?_push_of_some _ (Heap.get?_push_of_some _ (Heap.get?_push_of_some _ (Heap.get?_push_size _ rfl)))
  have e1 : (zC p q s.heap l m).get? s.heap.objs.size = some (itOb p l) := Heap.get?_push_of_some _ (Heap.get?_push_of_some _ (Heap.get?_push_of_some _ (Heap.get?_push_of_some _ (Heap.get?_push_size _ rfl))))
  rw [Heap.size_push, n2] at e4
  rw [n2, n1] at e3
  rw [n1] at e2
  rw [Heap.size_push, n4, n2] at e5
  show _ /\ _
  rw [n4]
  exact ⟨⟨_, e5, rfl⟩, k _ ⟨e5, e3, ⟨_, _, e4⟩, ⟨_, e1, rfl, rfl⟩, ⟨_, e2, rfl, rfl⟩⟩ fun c o e => Heap.get?_push_of_some _ (Heap.get?_push_of_some _ (Heap.get?_push_of_some _ (Heap.get?_push_of_some _ (Heap.get?_push_of_some _ e))))⟩
end
end L2
namespace L2
open PySem PySem.Spec PyProof.Rows
section
variable {X : Cx}
def Itzs (p q : Bool) (K : PySem.W.Frag) (l m : Addr) : It :=
  ⟨fun i H => ∃ xs ys x y, SqK p K H l xs /\ SqK q K H m ys /\ xs[i]? = some x /\ ys[i]? = some y,
   fun i H v H' => ∃ x y T, H T = none /\ v = .ref T /\ H' = upd H T (.tup [x, y]) /\ (∀ xs, SqK p K H l xs -> xs[i]? = some x) /\ ∀ ys, SqK q K H m ys -> ys[i]? = some y,
   fun i H => ∃ xs ys, SqK p K H l xs /\ SqK q K H m ys /\ (xs.length <= i ∨ ys.length <= i)⟩
theorem mem4 {z ti to a b c : Addr} (hc : c ∈ [z, to, a, b]) : c ∈ [z, ti, to, a, b] := by
  simp only [List.mem_cons, List.not_mem_nil, or_false] at hc ⊢
  rcases hc with e | e | e | e
  · exact .inl e
  · exact .inr (.inr (.inl e))
  · exact .inr (.inr (.inr (.inl e)))
  · exact .inr (.inr (.inr (.inr e)))
theorem turn_zs {P : Program} {w : World} {K : PySem.W.Frag} {p q : Bool} {elts : List Expr} {kk : Nat} {tpos : Pos} {z ti to a b l m : Addr} (N : ZNe z ti to a b l m) :
    Turn P w K (.Tuple elts kk tpos) (Itzs p q K l m) [z, ti, to, a, b] z (fun i h => ZAt p q h z ti to a b l m i) where
  mem := by simp
  obj := fun i h Z c hc => by
    obtain ⟨hz, ht, ⟨x, y, ho⟩, ⟨o1, e1, c1, d1⟩, ⟨o2, e2, c2, d2⟩⟩ := Z
    simp only [List.mem_cons, List.not_mem_nil, or_false] at hc
    rcases hc with rfl | rfl | rfl | rfl | rfl
    · exact ⟨_, hz, fun v z => nomatch z⟩
    · exact ⟨_, ht, fun v z => nomatch z⟩
    · exact ⟨_, ho, fun v z => nomatch z⟩
    · exact ⟨_, e1, fun v z => by rw [d1] at z; cases z⟩
    · exact ⟨_, e2, fun v z => by rw [d2] at z; cases z⟩
  keep := fun i h h' Z k => by
    obtain ⟨hz, ht, ⟨x, y, ho⟩, h1, h2⟩ := Z
    exact ⟨k z (by simp) _ hz, k ti (by simp) _ ht, ⟨x, y, k to (by simp) _ ho⟩, h1.keep fun o e => k a (by simp) o e, h2.keep fun o e => k b (by simp) o e⟩
  item := by
    intro X hP hw hK hc i pins s σ H E I hf Z hg
    subst hP hw hK
    obtain ⟨xs, ys, x, y, hl, hm, hx, hy⟩ := hg
    obtain ⟨its, rv, pl, _⟩ := I.sqk hl
    obtain ⟨its2, rv2, pl2, _⟩ := I.sqk hm
    obtain ⟨u, hu, ru⟩ := rv.get hx
    obtain ⟨u2, hu2, ru2⟩ := rv2.get hy
    refine zs_nextI (x := u) (y := u2) N Z pl pl2 (by simpa using hu) (by simpa using hu2) fun h' g1 g2 g3 g4 g5 g6 => ?_
    refine ⟨_, rfl, ?_⟩
    refine wpAny_letOwnedTupleGo_zip (s := { s with heap := h' }) g1 fun h2 z2 e2 => ?_
    have ne : ∀ {c o}, s.heap.get? c = some o -> s.heap.objs.size ≠ c := fun e => Nat.ne_of_gt (Heap.lt_size e)
    have hT : IsPair h2 s.heap.objs.size u u2 := e2.extBut _ _ (ne Z.zip) g5
    have fr : H s.heap.objs.size = none := I.hok.fresh (Nat.le_refl _)
    obtain ⟨x', y', g2⟩ := g2
    refine ⟨.ref s.heap.objs.size, upd H s.heap.objs.size (.tup [x, y]), ?_, rfl, ⟨x, y, _, fr, rfl, rfl, fun zs h => by rw [I.sqk_inj h hl]; exact hx, fun zs h => by rw [I.sqk_inj h hm]; exact hy⟩, ⟨z2, ?_, ⟨x', y', e2.extBut _ _ N.oz g2⟩, ?_, ?_⟩, fun c hc => ?_⟩
    · refine I.turnedLaid (t' := s.toks) (ch := [z, to, a, b]) (fun c hc => hf c (mem4 hc)) (fun c o hc e => ?_) (Nat.le_refl _) ⟨Nat.le_of_lt (small1000 (show 2 <= 1000 by decide)), [u, u2], .cons ru (.cons ru2 .nil), _, hT, rfl, _, rfl⟩
      simp only [List.mem_cons, List.not_mem_nil, or_false, not_or] at hc
      exact e2.extBut _ _ hc.1 (g6 c o hc.1 hc.2.1 hc.2.2.1 hc.2.2.2 e)
    · exact e2.extBut _ _ N.tz (g6 _ _ N.tz N.ot.symm N.ta N.tb Z.its)
    · exact g3.keep fun o e => e2.extBut _ _ N.az e
    · exact g4.keep fun o e => e2.extBut _ _ N.bz e
    · have lt : c ≠ s.heap.objs.size := fun e => by
        obtain ⟨hz, ht, ⟨x, y, ho⟩, ⟨o1, e1, _⟩, ⟨o2, e3, _⟩⟩ := Z
        simp only [List.mem_cons, List.not_mem_nil, or_false] at hc
        rcases hc with rfl | rfl | rfl | rfl | rfl
        · exact ne hz e.symm
        · exact ne ht e.symm
        · exact ne ho e.symm
        · exact ne e1 e.symm
        · exact ne e3 e.symm
      rw [upd_ne lt]
      exact (hf c hc).1
  done := by
    intro X hP hw hK hc i pins s σ H E I hf Z hg
    subst hP hw hK
    obtain ⟨xs, ys, hl, hm, hx⟩ := hg
    obtain ⟨its, rv, pl, _⟩ := I.sqk hl
    obtain ⟨its2, rv2, pl2, _⟩ := I.sqk hm
    have l1 := rv.length
    have l2 := rv2.length
    refine zs_nextE (I.ok.hd hc) N Z pl pl2 ?_ fun h' g => ⟨rfl, I.turnedN (t' := s.toks) (ch := [z, to, a, b]) (fun c hc => hf c (mem4 hc)) fun c o hc e => ?_⟩
    · rcases hx with hx | hx
      · exact .inl (by simp; omega)
      · exact .inr (by simp; omega)
    · simp only [List.mem_cons, List.not_mem_nil, or_false, not_or] at hc
      exact g c o hc.1 hc.2.1 hc.2.2.1 hc.2.2.2 e
  self := fun _ _ _ _ _ Z h => wpAny_pyIter_zip Z.zip h
def iZips (p q : Bool) (K : PySem.W.Frag) (ta : TA) : TI := fun σ H R => ta σ H fun vs H1 => ∃ l m xs ys, vs = [.ref l, .ref m] /\ SqK p K H1 l xs /\ SqK q K H1 m ys /\ R (Itzs p q K l m) H1
theorem zne_new (n l m : Nat) (h1 : l < n) (h2 : m < n) : ZNe (n + 4) (n + 2) (n + 3) n (n + 1) l m := by constructor <;> (show (_ : Nat) ≠ _; omega)
theorem pi_zips {a b : Expr} {ta : TA} {p q : Bool} {pp pos tpos : Pos} {elts : List Expr} {kk : Nat} (hg : Gl X "zip") (hm : X.mg "zip" = none) (ha : PA X [a, b] ta) (hs : starEach [a, b] X.env = [(false, eval a X.env), (false, eval b X.env)] := by rfl) (hs2 : starEach [b] X.env = [(false, eval b X.env)] := by rfl) :
    PI X (.Tuple elts kk tpos) (.Call (.Name "zip" pp) [a, b] [] pos) (iZips p q X.K ta) := by
  intro pins s σ H R I h
  refine Call_ (ld_blt I hg hm bt_zip (PyProof.Rows.callWith_type1 (thn (ha pos pins s σ H _ I h) fun us s1 ⟨vs, H1, I1, r1, q1⟩ => ?_) (by rw [hs, hs2]) (by rw [hs2]; rfl)))
  obtain ⟨l1, l2, xs, ys, e, h1, h2, k⟩ := q1
  subst e
  obtain ⟨u, w', rfl, ru, rw'⟩ := vals2 r1
  cases (show u = Value.ref l1 from ru)
  cases (show w' = Value.ref l2 from rw')
  obtain ⟨its, rv, pl, _⟩ := I1.sqk h1
  obtain ⟨its2, rv2, pl2, _⟩ := I1.sqk h2
  refine zip_call pl pl2 fun h' Z hk => ?_
  refine wpAny_pyIter_zip Z.zip ?_
  refine ⟨_, _, _, _, H1, rfl, I1.kept (t' := s1.toks) hk, turn_zs (zne_new s1.heap.objs.size l1 l2 pl.lt pl2.lt), Z, fun c hc => ?_, k⟩
  have le : s1.heap.objs.size <= c := by
    simp only [List.mem_cons, List.not_mem_nil, or_false] at hc
    rcases hc with rfl | rfl | rfl | rfl | rfl <;> first | exact Nat.le_add_right _ _ | exact Nat.le_refl _
  exact I1.fpOk le (I1.hok.fresh le)
theorem comp_zips {K : PySem.W.Frag} {p q : Bool} {a b : Addr} {xs ys : List V} {k : Nat} {g : TG} {c : TT} {te : TE} {σ : St} {H1 : Hp} {D : Addr} {Q : VK} (Pv : Nat -> St -> Hp -> Prop) (hn : xs.length = ys.length) (h0 : Pv 0 (List.replicate k none ++ σ) (upd H1 D (.lst [])))
    (hl : ∀ i τ H, i <= xs.length -> Pv i τ H -> SqK p K H a xs /\ SqK q K H b ys)
    (hs : ∀ i m x y T τ H, m = xs.length - i -> i < xs.length -> xs[i]? = some x -> ys[i]? = some y -> H T = none -> Pv i τ H -> g (.ref T) τ (upd H T (.tup [x, y])) fun τ2 H2 => c τ2 H2 fun b H3 => if b = true then te τ2 H3 fun y H4 => ∃ ys m', m' < m /\ H4 D = some (.lst ys) /\ ys.length < sizeLine /\ CW xs.length Pv (i + 1) m' τ2 (upd H4 D (.lst (ys ++ [y]))) else ∃ m', m' < m /\ CW xs.length Pv (i + 1) m' τ2 H3)
    (hd : ∀ τ H, Pv xs.length τ H -> Q (.ref D) H) : CompW k (Itzs p q K a b) g c te σ H1 D Q := by
  refine ⟨CW xs.length Pv, ⟨xs.length, rfl, Nat.zero_le _, h0⟩, ?_⟩
  rintro i m τ H ⟨hm, hi, pv⟩
  obtain ⟨q1, q2⟩ := hl i τ H hi pv
  by_cases hlt : i < xs.length
  · refine .inr ⟨⟨xs, ys, xs[i], ys[i]'(by omega), q1, q2, by simp [hlt], List.getElem?_eq_getElem (by omega)⟩, fun v H' y => ?_⟩
    obtain ⟨x, y, T, hT, rfl, rfl, e1, e2⟩ := y
    exact hs i m x y T τ _ hm hlt (e1 xs q1) (e2 ys q2) hT pv
  · have e : i = xs.length := by omega
    subst e
    exact .inl ⟨⟨xs, ys, q1, q2, .inl (Nat.le_refl _)⟩, hd τ H pv⟩
end
end L2
namespace L2
open PySem PySem.Spec PyProof.Rows
theorem ow_rev : Manifest.owners.lookup (String.ofList ['d', 'e', 's', 'r', 'e', 'v', 'e', 'r'].reverse) = some Manifest.sig_reversed := by kernel_rfl
theorem sl_rev_next : Slot "reversed" "__next__" "reversed.__next__" :=
  .of (owner := "reversed") (n := "__next__") (by rw [typeLookup_type, builtinLookup_eq_fast]; kernel_rfl) (by decide +kernel) (by decide +kernel) (by decide +kernel) (by first | exact .inl (by decide +kernel) | exact .inr (by decide +kernel)) (by rw [isSubtype_type]; kernel_rfl)
theorem en_rev_next : entryFor table "reversed.__next__" = some Builtin.«reversed.__next__» := entryFor_of_tree (by kernel_rfl)
theorem ar_rev_next (a : Value) : argsOk "reversed.__next__" ⟨[a], []⟩ := by
  unfold argsOk; rw [signature?_of (id := "reversed.__next__") (n := ['_', '_', 't', 'x', 'e', 'n', '_', '_']) (o := ['d', 'e', 's', 'r', 'e', 'v', 'e', 'r']) (by kernel_rfl) ow_rev]; kernel_rfl
theorem sl_rev_iter : Slot "reversed" "__iter__" "reversed.__iter__" :=
  .of (owner := "reversed") (n := "__iter__") (by rw [typeLookup_type, builtinLookup_eq_fast]; kernel_rfl) (by decide +kernel) (by decide +kernel) (by decide +kernel) (by first | exact .inl (by decide +kernel) | exact .inr (by decide +kernel)) (by rw [isSubtype_type]; kernel_rfl)
theorem ar_rev_iter (a : Value) : argsOk "reversed.__iter__" ⟨[a], []⟩ := by
  unfold argsOk; rw [signature?_of (id := "reversed.__iter__") (n := ['_', '_', 'r', 'e', 't', 'i', '_', '_']) (o := ['d', 'e', 's', 'r', 'e', 'v', 'e', 'r']) (by kernel_rfl) ow_rev]; kernel_rfl
theorem en_rev_iter : entryFor table "reversed.__iter__" = some Builtin.«dict_keyiterator.__iter__» :=
  entryFor_alias (id' := "dict_keyiterator.__iter__") (by kernel_rfl) (by first | rfl | decide +kernel | (unfold String.splitOn; simp +decide [String.splitOnAux])) (by decide +kernel) (by kernel_rfl)
theorem sl_rev_init : Slot "reversed" "__init__" "object.__init__" :=
  .of (owner := "object") (n := "__init__") (by rw [typeLookup_type, builtinLookup_eq_fast]; kernel_rfl) (by decide +kernel) (by decide +kernel) (by decide +kernel) (by first | exact .inl (by decide +kernel) | exact .inr (by decide +kernel)) (by rw [isSubtype_type]; kernel_rfl)
theorem cd_rev : TypeCalled "reversed" "reversed.__new__" "object.__init__" := ⟨by decide +kernel, F.create_reversed, ⟨_, _, F.mro_reversed⟩, F.made_reversed, F.plain_reversed_new, F.sub_reversed_self, sl_rev_init⟩
theorem tl_tup_rev : typeLookup (.type "tuple") "__reversed__" = pure none := by rw [typeLookup_type, builtinLookup_eq_fast]; kernel_rfl
theorem sub_tup_dict : isSubtype (.type "tuple") (.type "dict") = pure false := by rw [isSubtype_type]; kernel_rfl
def rvOb (t : Addr) (i : Int) : Obj := { cls := .type "reversed", data := .fields #[.ref t, .int i 0] }
theorem rev_made (t : Addr) (xs : Array Value) (hz : (xs.size : Int) < 2 ^ 63) :
    Meets (Builtin.«reversed.__new__» ⟨[.type "reversed", .ref t], []⟩) (fun _ R s => IsTup s.heap t xs /\ R (.ok (.ret (.ref s.heap.objs.size))) { s with heap := s.heap.push (rvOb t ((xs.size : Int) - 1)), toks := s.toks + 2 }) :=
  .of_wp fun prog w A R s h => by
    obtain ⟨ht, h⟩ := h
    unfold Builtin.«reversed.__new__»
    refine wpAny_bind (wpAny_of_eq (newClass_reversed _) ?_)
    refine wpAny_bind (m := Builtin.SmallTypes.refuseKeywords _ _ _) (wpAny_pure ?_)
    refine wpAny_bind (m := checkCount _ _ _ _) (wpAny_pure ?_)
    refine wpAny_bind (wpAny_specialOf ht.typeIs tl_tup_rev ?_)
    refine wpAny_bind (wpAny_bind (wpAny_isInstance ht.typeIs sub_tup_dict ?_))
    simp only [Bool.false_eq_true, if_false]
    refine wpAny_bind (wpAny_specialOf ht.typeIs slot_tuple_getitem.lookup ?_)
    refine wpAny_pure (a := true) ?_
    refine wpAny_bind (len_tuple ht hz ?_)
    refine wpAny_bind (m := asInt? _) (wpAny_pure ?_)
    show wpAny _ _ (newObj (.type "reversed") (.fields #[.ref t, rawInt ((xs.size : Int) - 1)]) >>= _) _ _ _
    exact wpAny_bind (wpAny_newObj_type (wpAny_pure ⟨_, rfl, h⟩))
def RvAt (h : Heap) (r t : Addr) (i : Int) : Prop := ∃ o, h.get? r = some o /\ o.cls = .type "reversed" /\ o.data = .fields #[.ref t, .int i 0]
section
variable {prog : Program} {w : World} {A : Around} {E : Value -> Shared -> Prop} {s : Shared} {r t : Addr} {xs : Array Value}
theorem rv_item {i : Nat} {x : Value} {Q : Option Value -> Shared -> Prop} (hr : RvAt s.heap r t i) (ht : IsTup s.heap t xs) (hx : xs[i]? = some x) (hz : (xs.size : Int) < 2 ^ 63)
    (k : ∀ h', RvAt h' r t ((i : Int) - 1) -> Heap.SameBut r s.heap h' -> Q (some x) { s with heap := h', toks := s.toks + 1 }) : wpAny (model prog w) A (pyNext (.ref r)) Q E s := by
  obtain ⟨o, ho, hc, hd⟩ := id hr
  have il : i < xs.size := by
    rcases Nat.lt_or_ge i xs.size with z | z
    · exact z
    · rw [Array.getElem?_eq_none z] at hx; cases hx
  have ty : s.TypeIs (.ref r) "reversed" := ⟨o, ho, hc⟩
  unfold pyNext
  refine wpAny_bind (wpAny_attempt (wpAny_callSpecial?_slot (name := Str.ofString "__next__") ty sl_rev_next (wpAny_call_entry sl_rev_next ty en_rev_next ?_ (ar_rev_next _))))
  show wpAny _ _ (field (.ref r) 0 >>= _) _ _ s
  refine wpAny_bind (wpAny_field ho hd (x := .ref t) rfl ?_)
  show wpAny _ _ (field (.ref r) 1 >>= _) _ _ s
  refine wpAny_bind (wpAny_field ho hd (x := .int i 0) rfl ?_)
  dsimp only
  rw [if_neg (show ¬ (i : Int) < 0 by omega)]
  refine wpAny_bind (wpAny_specialOf ht.typeIs slot_tuple_getitem.lookup ?_)
  simp only [Option.isNone_some, Bool.false_eq_true, if_false]
  refine wpAny_bind (wpAny_mkInt ?_)
  refine wpAny_bind (wpAny_attempt (getItem_tuple (s := { s with toks := s.toks + 1 }) ht (by omega) (by omega) (j := i) ?_ hx ?_))
  · have e : ixN xs.size (i : Int) = some i := by
      unfold ixN
      rw [if_pos (Int.natCast_nonneg i), if_pos (by omega), Int.toNat_natCast]
    exact (ixN_seq e).1
  dsimp only
  refine wpAny_bind (wpAny_field (s := { s with toks := s.toks + 1 }) ho hd (x := .int i 0) rfl ?_)
  dsimp only
  refine wpAny_bind (wpAny_setField (s := { s with toks := s.toks + 1 }) ho hd (by simp) (wpAny_pure ⟨x, rfl, wpAny_pure (k _ ?_ (Heap.SameBut.update ..))⟩))
  exact ⟨_, Heap.get?_update_self _ ho (Obj.isFreed_of_fields (Obj.data_mapFields hd _)), (Obj.cls_mapFields ..).trans hc, by rw [Obj.data_mapFields hd]; simp [rawInt]⟩
theorem rv_end {i : Int} {Q : Option Value -> Shared -> Prop} (hh : A.handled = none) (hr : RvAt s.heap r t i) (hi : i < 0) (k : ∀ h', Heap.ExtBut r s.heap h' -> Q none { s with heap := h' }) : wpAny (model prog w) A (pyNext (.ref r)) Q E s := by
  obtain ⟨o, ho, hc, hd⟩ := id hr
  have ty : s.TypeIs (.ref r) "reversed" := ⟨o, ho, hc⟩
  unfold pyNext
  refine wpAny_bind (wpAny_attempt (wpAny_callSpecial?_slot (name := Str.ofString "__next__") ty sl_rev_next (wpAny_call_entry sl_rev_next ty en_rev_next ?_ (ar_rev_next _))))
  show wpAny _ _ (field (.ref r) 0 >>= _) _ _ s
  refine wpAny_bind (wpAny_field ho hd (x := .ref t) rfl ?_)
  show wpAny _ _ (field (.ref r) 1 >>= _) _ _ s
  refine wpAny_bind (wpAny_field ho hd (x := .int i 0) rfl ?_)
  dsimp only
  rw [if_pos hi]
  refine wpAny_bind (wpAny_rule (wpAny_bind ?_))
  show wpAny _ _ (setField (.ref r) 1 (rawInt (-1)) >>= _) _ _ _
  refine wpAny_bind (wpAny_setField ho hd (by simp) ?_)
  have ho2 := Heap.get?_update_self (Obj.mapFields (fun a => a.setIfInBounds 1 (rawInt (-1)))) ho (Obj.isFreed_of_fields (Obj.data_mapFields hd _))
  have hd2 := Obj.data_mapFields hd (fun a => a.setIfInBounds 1 (rawInt (-1)))
  refine wpAny_setField (s := { s with heap := s.heap.update r (Obj.mapFields (fun a => a.setIfInBounds 1 (rawInt (-1)))) }) ho2 hd2 (by simp) ?_
  refine wpAny_bind ?_
  unfold Builtin.SmallTypes.stopIteration
  refine wpAny_bind ?_
  simp only [newExc, newTuple]
  refine wpAny_bind (wpAny_newObj_type ?_ (by size_fits))
  refine wpAny_bind (m := firstArgMember _ _) (wpAny_of_eq (a := Value.none) (by first | rfl | (simp only [firstArgMember]; rfl)) ?_)
  refine wpAny_newObj_type ?_ (by size_fits)
  simp only [raiseNew]
  refine wpAny_bind (wpAny_handled ?_)
  first | rw [show A.in1.handled = none from hh] | rw [hh]
  refine wpAny_bind (wpAny_pure (wpAny_throw ?_))
  refine wpAny_bind (wpAny_isInstance (T := "StopIteration") (b := true) ⟨_, Heap.get?_push_size _ rfl, rfl⟩ isSubtype_stop ?_)
  refine wpAny_pure (k _ fun b o' n e => ?_)
  exact Heap.get?_push_of_some _ (Heap.get?_push_of_some _ ((Heap.SameBut.update ..).extBut _ _ n ((Heap.SameBut.update ..).extBut _ _ n e)))
theorem rv_iter {i : Int} {Q : Value -> Shared -> Prop} (hr : RvAt s.heap r t i) (h : Q (.ref r) s) : wpAny (model prog w) A (pyIter (.ref r)) Q E s := by
  obtain ⟨o, ho, hc, hd⟩ := hr
  have ty : s.TypeIs (.ref r) "reversed" := ⟨o, ho, hc⟩
  refine wpAny_pyIter_slot ty sl_rev_iter (wpAny_call_entry sl_rev_iter ty en_rev_iter ?_ (ar_rev_iter _))
  show wpAny _ _ (ret (.ref r)) _ _ s
  exact wpAny_pure ⟨_, rfl, "reversed", _, ty, sl_rev_next.lookup, h⟩
theorem rv_call {Q : Value -> Shared -> Prop} (ht : IsTup s.heap t xs) (hz : (xs.size : Int) < 2 ^ 63) (h : Q (.ref s.heap.objs.size) { s with heap := s.heap.push (rvOb t ((xs.size : Int) - 1)), toks := s.toks + 2 }) : wpAny (model prog w) A (call (.type "reversed") [.ref t]) Q E s := by
  refine callType_new cd_rev (by decide) (F.typeCall_reversed_1 _) (F.newCall_reversed_1 _) (fun obj => F.args_object_init_2 obj _) F.entry_reversed_new (rev_made t xs hz) ⟨ht, ?_⟩
  exact ⟨⟨_, Heap.get?_push_size _ rfl, rfl⟩, h⟩
end
section
variable {X : Cx}
def ItRT (K : PySem.W.Frag) (a : Addr) (xs : List V) : It :=
  ⟨fun i H => i < xs.length /\ SqT K H a xs, fun i H x H' => H' = H /\ xs[xs.length - 1 - i]? = some x, fun i H => xs.length <= i⟩
theorem turn_revT {P : Program} {w : World} {K : PySem.W.Frag} {tg : Expr} (a it : Addr) (xs : List V) : Turn P w K tg (ItRT K a xs) [it] it (fun i h => i <= xs.length /\ RvAt h it a ((xs.length : Int) - 1 - (i : Int))) where
  mem := by simp
  obj := fun i h st b hb => by
    have e : b = it := by simpa using hb
    subst e
    obtain ⟨_, o, e, c, d⟩ := st
    exact ⟨o, e, fun v z => by rw [d] at z; cases z⟩
  keep := fun i h h' st k => by
    obtain ⟨l, o, e, r⟩ := st
    exact ⟨l, o, k it (by simp) o e, r⟩
  item := by
    intro X hP hw hK hc i pins s σ H E I hf st hg
    subst hP hw hK
    obtain ⟨hi, hS⟩ := hg
    obtain ⟨_, st⟩ := st
    obtain ⟨its, rv, p, hz⟩ := I.tuple hS
    have hix : xs.length - 1 - i < xs.length := by omega
    obtain ⟨u, hu, ru⟩ := rv.get (List.getElem?_eq_getElem hix)
    have ei : (xs.length : Int) - 1 - (i : Int) = ((xs.length - 1 - i : Nat) : Int) := by omega
    rw [ei] at st
    obtain ⟨f0, f1, f2, f3, f4, f5⟩ := hf it (by simp)
    have lz : (its.toArray.size : Int) < 2 ^ 63 := by
      have := rv.length
      have z2 : sizeLine < 2 ^ 62 := by decide
      rw [List.size_toArray]
      omega
    refine rv_item st p (x := u) (by simpa using hu) lz fun h' st' sb => ?_
    have I1 : Inv X pins σ H { s with heap := h', toks := s.toks + 1 } := I.turned (t' := s.toks + 1) (fun b o hb e => (sb.2 b hb).trans e) f0 f1 f3 f4 f5
    obtain ⟨o, e, c, d⟩ := id st'
    refine ⟨u, rfl, go_of (s := { s with heap := h', toks := s.toks + 1 }) e c d (by decide) ⟨_, H, I1, ru, ⟨rfl, List.getElem?_eq_getElem hix⟩, ⟨hi, ?_⟩, fun b hb => (hf b hb).1⟩⟩
    have ej : (xs.length : Int) - 1 - ((i + 1 : Nat) : Int) = ((xs.length - 1 - i : Nat) : Int) - 1 := by omega
    rw [ej]
    exact st'
  done := by
    intro X hP hw hK hc i pins s σ H E I hf st hg
    subst hP hw hK
    obtain ⟨hi, st⟩ := st
    have hg : xs.length <= i := hg
    obtain ⟨f0, f1, f2, f3, f4, f5⟩ := hf it (by simp)
    exact rv_end (I.ok.hd hc) st (by omega) fun h' eb => ⟨rfl, I.turned (t' := s.toks) (fun b o hb e => eb b o hb e) f0 f1 f3 f4 f5⟩
  self := fun _ _ _ _ _ st h => rv_iter st.2 h
def iRevT (K : PySem.W.Frag) (ta : TA) : TI := fun σ H R => ta σ H fun vs H1 => ∃ a xs, vs = [.ref a] /\ SqT K H1 a xs /\ R (ItRT K a xs) H1
theorem pi_revT {tg a : Expr} {ta : TA} {p pos : Pos} (hg : Gl X "reversed") (hm : X.mg "reversed" = none) (ha : PA X [a] ta) (hs : starEach [a] X.env = [(false, eval a X.env)] := by rfl) : PI X tg (.Call (.Name "reversed" p) [a] [] pos) (iRevT X.K ta) := by
  intro pins s σ H R I h
  refine Call_ (ld_blt I hg hm bt_reversed (PyProof.Rows.callWith_type1 (thn (ha pos pins s σ H _ I h) fun us s1 ⟨vs, H1, I1, r1, q1⟩ => ?_) hs rfl))
  obtain ⟨b, xs, e, hS, q⟩ := q1
  subst e
  obtain ⟨u, rfl, ru⟩ := vals1 r1
  cases (show u = Value.ref b from ru)
  obtain ⟨its, rv, pl, hz⟩ := I1.tuple hS
  have hsz : its.toArray.size = xs.length := by rw [List.size_toArray]; exact rv.length.symm
  have lz : (its.toArray.size : Int) < 2 ^ 63 := by
    have z2 : sizeLine < 2 ^ 62 := by decide
    rw [hsz]
    omega
  refine rv_call pl lz ?_
  rw [hsz]
  have st : RvAt (s1.heap.push (rvOb b ((xs.length : Int) - 1))) s1.heap.objs.size b ((xs.length : Int) - 1 - ((0 : Nat) : Int)) := by
    rw [show (xs.length : Int) - 1 - ((0 : Nat) : Int) = (xs.length : Int) - 1 by omega]
    exact ⟨_, Heap.get?_push_size _ rfl, rfl, rfl⟩
  have I2 : Inv X pins σ H1 { s1 with heap := s1.heap.push (rvOb b ((xs.length : Int) - 1)), toks := s1.toks + 2 } := I1.kept (t' := s1.toks + 2) fun b o e => Heap.get?_push_of_some _ e
  refine rv_iter (s := { s1 with heap := s1.heap.push (rvOb b ((xs.length : Int) - 1)), toks := s1.toks + 2 }) st ?_
  refine ⟨s1.heap.objs.size, [s1.heap.objs.size], _, _, H1, rfl, I2, turn_revT b _ xs, ⟨Nat.zero_le _, st⟩, fun c hc => ?_, q⟩
  have e : c = s1.heap.objs.size := by simpa using hc
  subst e
  exact I1.fpOk (Nat.le_refl _) (I1.hok.fresh (Nat.le_refl _))
end
end L2
namespace L2
open PySem PySem.Spec PyProof.Rows
section
variable {X : Cx}
def ItEn (a : Addr) : It :=
  ⟨fun i H => ∃ xs x, H a = some (.lst xs) /\ xs[i]? = some x,
   fun i H v H' => ∃ x T, H T = none /\ v = .ref T /\ H' = upd H T (.tup [.int i, x]) /\ ∀ xs, H a = some (.lst xs) -> xs[i]? = some x,
   fun i H => ∃ xs, H a = some (.lst xs) /\ xs.length <= i⟩
theorem turn_en {P : Program} {w : World} {K : PySem.W.Frag} {elts : List Expr} {kk : Nat} {tpos : Pos} {e it a : Addr} (n1 : e ≠ it) (n2 : a ≠ it) (n3 : e ≠ a) :
    Turn P w K (.Tuple elts kk tpos) (ItEn a) [e, it] e (fun i h => ∃ old, IsEnum h e it i old /\ h.IsListIter it a i) where
  mem := by simp
  obj := fun i h st c hc => by
    obtain ⟨old, he, ⟨o1, e1, c1, d1⟩⟩ := st
    simp only [List.mem_cons, List.not_mem_nil, or_false] at hc
    rcases hc with rfl | rfl
    · exact ⟨_, he, fun v z => nomatch z⟩
    · exact ⟨_, e1, fun v z => by rw [d1] at z; cases z⟩
  keep := fun i h h' st k => by
    obtain ⟨old, he, h1⟩ := st
    exact ⟨old, k e (by simp) _ he, h1.at fun o e => k it (by simp) o e⟩
  item := by
    intro X hP hw hK hc i pins s σ H E I hf st hg
    subst hP hw hK
    obtain ⟨xs, x, ha, hx⟩ := hg
    obtain ⟨old, he, h1⟩ := st
    obtain ⟨hz, its, n, rv, hl, ea⟩ := I.lstM ha
    obtain ⟨u, hu, ru⟩ := rv.get hx
    have il : i < its.toArray.size := by
      have := (List.getElem?_eq_some_iff.mp hu).1
      simpa using this
    refine wpAny_pyNext_enum_itemD (Draws.list (by rw [show X.A.in1.handled = X.A.handled from rfl]; exact I.ok.hd hc) it a n2 its.toArray) he ⟨h1, ⟨_, ea, rfl, n, rfl⟩⟩ il n1 (by simp [n1, n3]) fun y h' tk hy g1 g2 g3 g4 g5 => ?_
    have ey : y = u := by
      have hy : its.toArray[i]? = some y := hy
      rw [List.getElem?_toArray, hu] at hy
      cases hy
      rfl
    subst ey
    refine ⟨_, rfl, ?_⟩
    refine wpAny_letOwnedTupleGo_enum (s := { s with heap := h', toks := tk + 1 }) g1 fun h2 e2 k2 => ?_
    have lt : ∀ {c o}, s.heap.get? c = some o -> s.heap.objs.size ≠ c := fun q => Nat.ne_of_gt (Heap.lt_size q)
    have fr : H s.heap.objs.size = none := I.hok.fresh (Nat.le_refl _)
    have hT : h2.get? s.heap.objs.size = some { cls := .type "tuple", data := .seq #[.int i tk, y] } := k2.extBut _ _ (lt he) g3
    obtain ⟨o1, e1, r1⟩ := id h1
    refine ⟨.ref s.heap.objs.size, upd H s.heap.objs.size (.tup [.int i, x]), ?_, rfl, ⟨x, _, fr, rfl, rfl, fun zs h => by rw [ha] at h; cases h; exact hx⟩, ⟨y, by simpa using e2, g2.1.extBut k2.extBut n1.symm⟩, fun c hc => ?_⟩
    · refine I.turnedLaid (t' := tk + 1) (ch := [e, it]) hf (fun c o hc q => ?_) (Nat.le_refl _) ⟨Nat.le_of_lt (small1000 (show 2 <= 1000 by decide)), [.int i tk, y], .cons ⟨_, rfl⟩ (.cons ru .nil), _, hT, rfl, _, rfl⟩
      simp only [List.mem_cons, List.not_mem_nil, or_false, not_or] at hc
      exact k2.extBut _ _ hc.1 (g5 c o hc.1 hc.2 q)
    · have ne : c ≠ s.heap.objs.size := fun z => by
        simp only [List.mem_cons, List.not_mem_nil, or_false] at hc
        rcases hc with rfl | rfl
        · exact lt he z.symm
        · exact lt e1 z.symm
      rw [upd_ne ne]
      exact (hf c hc).1
  done := by
    intro X hP hw hK hc i pins s σ H E I hf st hg
    subst hP hw hK
    obtain ⟨xs, ha, hx⟩ := hg
    obtain ⟨old, he, h1⟩ := st
    obtain ⟨hz, its, n, rv, hl, ea⟩ := I.lstM ha
    refine wpAny_pyNext_enum_end (I.ok.hd hc) he h1 ⟨_, ea, rfl, n, rfl⟩ (by rw [List.getElem?_toArray, List.getElem?_eq_none (by omega)]) fun h' g => ⟨rfl, I.turnedN (t' := s.toks) (ch := [e, it]) hf fun c o hc q => ?_⟩
    simp only [List.mem_cons, List.not_mem_nil, or_false, not_or] at hc
    exact g c o hc.2 q
  self := fun _ _ _ _ _ st h => by
    obtain ⟨old, he, _⟩ := st
    exact wpAny_pyIter_enum he h
def iEn (ta : TA) : TI := fun σ H R => ta σ H fun vs H1 => ∃ a xs, vs = [.ref a] /\ H1 a = some (.lst xs) /\ R (ItEn a) H1
theorem bt_enumerate : bootBuiltins "enumerate" = some (.type "enumerate") := by decide +kernel
theorem pi_enum {a : Expr} {ta : TA} {p pos tpos : Pos} {elts : List Expr} {kk : Nat} (hg : Gl X "enumerate") (hm : X.mg "enumerate" = none) (ha : PA X [a] ta) (hs : starEach [a] X.env = [(false, eval a X.env)] := by rfl) : PI X (.Tuple elts kk tpos) (.Call (.Name "enumerate" p) [a] [] pos) (iEn ta) := by
  intro pins s σ H R I h
  refine Call_ (ld_blt I hg hm bt_enumerate (PyProof.Rows.callWith_type1 (thn (ha pos pins s σ H _ I h) fun us s1 ⟨vs, H1, I1, r1, q1⟩ => ?_) hs rfl))
  obtain ⟨b, xs, e, hS, q⟩ := q1
  subst e
  obtain ⟨u, rfl, ru⟩ := vals1 r1
  cases (show u = Value.ref b from ru)
  obtain ⟨hz, its, n, rv, hl, ea⟩ := I1.lstM hS
  have lb : b < s1.heap.objs.size := Heap.lt_size ea
  refine call_enumerate_1 ea fun h' g1 g2 g3 g4 => ?_
  refine wpAny_pyIter_enum g1 ?_
  refine ⟨s1.heap.objs.size + 1, [s1.heap.objs.size + 1, s1.heap.objs.size], _, _, H1, rfl, I1.kept (t' := s1.toks) g4, turn_en (by show (_ : Nat) ≠ _; omega) (by show (_ : Nat) ≠ _; exact Nat.ne_of_lt lb) (by show (_ : Nat) ≠ _; exact Nat.ne_of_gt (Nat.lt_succ_of_lt lb)), ⟨_, g1, g2⟩, fun c hc => ?_, q⟩
  have le : s1.heap.objs.size <= c := by
    simp only [List.mem_cons, List.not_mem_nil, or_false] at hc
    rcases hc with rfl | rfl <;> first | exact Nat.le_add_right _ _ | exact Nat.le_refl _
  exact I1.fpOk le (I1.hok.fresh le)
theorem for_enum {a : Addr} {xs : List V} {g : TG} {tb : TS} {D : Ends} {σ : St} {H : Hp} (Pv : Nat -> St -> Hp -> Prop) (h0 : Pv 0 σ H) (hl : ∀ i σ H, i <= xs.length -> Pv i σ H -> H a = some (.lst xs))
    (hs : ∀ i x T σ H, xs[i]? = some x -> H T = none -> Pv i σ H -> g (.ref T) σ (upd H T (.tup [.int (i : Int), x])) fun σ2 H2 => tb { D with nx := Pv (i + 1), ct := Pv (i + 1), bk := D.nx } σ2 H2) (hd : ∀ σ H, Pv xs.length σ H -> D.nx σ H) :
    ∃ W : Nat -> Nat -> St -> Hp -> Prop, (∃ m, W 0 m σ H) /\ ∀ i m σ H, W i m σ H ->
      ((ItEn a).stop i H /\ D.nx σ H) ∨ ((ItEn a).go i H /\ ∃ N : St -> Hp -> Prop, (∀ σ' H', N σ' H' -> ∃ m', m' < m /\ W (i + 1) m' σ' H') /\ ∀ x H', (ItEn a).yld i H x H' -> g x σ H' fun σ2 H2 => tb { D with nx := N, ct := N, bk := D.nx } σ2 H2) := by
  refine ⟨fun i m σ H => m = xs.length - i /\ i <= xs.length /\ Pv i σ H, ⟨xs.length, by simp, Nat.zero_le _, h0⟩, ?_⟩
  rintro i m σ H ⟨rfl, hi, pv⟩
  have q1 := hl i σ H hi pv
  by_cases hlt : i < xs.length
  · refine .inr ⟨⟨xs, xs[i], q1, by simp [hlt]⟩, Pv (i + 1), fun σ' H' p' => ⟨xs.length - (i + 1), by omega, rfl, hlt, p'⟩, fun x H' y => ?_⟩
    obtain ⟨x, T, hT, rfl, rfl, e1⟩ := y
    exact hs i x T σ _ (e1 xs q1) hT pv
  · have e : i = xs.length := by omega
    subst e
    exact .inl ⟨⟨xs, q1, Nat.le_refl _⟩, hd σ H pv⟩
end
end L2
namespace L2
open PySem PySem.Spec PyProof.Rows
theorem pairs_at {P : Program} {w : World} {es : List DictEntry} {kvs : List (Key × Value)} (h : Pairs (mixKind P w) es kvs) : es.length = kvs.length /\ ∀ (i : Nat) k v, kvs[i]? = some (k, v) -> ∃ e, es[i]? = some e /\ keyIs k e.key = true := by
  induction h with
  | nil => exact ⟨rfl, fun i k v h => by simp at h⟩
  | cons h1 h2 h3 ih =>
    obtain ⟨a, b⟩ := ih
    refine ⟨by simp [a], fun i k' v' hi => ?_⟩
    cases i with
    | zero => simp at hi; subst hi; exact ⟨_, rfl, h1⟩
    | succ j => exact b j k' v' (by simpa using hi)
theorem key_rel {k : Key} {u : Value} (h : keyIs k u = true) : RelV (kV k) u := by
  rcases keyIs_shape h with ⟨i, t, rfl, rfl⟩ | ⟨x, t, rfl, rfl⟩
  · exact ⟨t, rfl⟩
  · exact ⟨t, rfl⟩
theorem kv_at {kvs : List (Key × V)} {vs : List (Key × Value)} (r : KV kvs vs) : kvs.length = vs.length /\ ∀ (i : Nat) k v, kvs[i]? = some (k, v) -> ∃ u, vs[i]? = some (k, u) := by
  unfold KV at r
  induction r with
  | nil => exact ⟨rfl, fun i k v h => by simp at h⟩
  | cons h t ih =>
    refine ⟨by simp [ih.1], fun i k v hi => ?_⟩
    cases i with
    | zero =>
      simp at hi
      rename_i p q _ _
      subst hi
      obtain ⟨q1, q2⟩ := q
      have : k = q1 := h.1
      subst this
      exact ⟨q2, rfl⟩
    | succ j => exact ih.2 j k v (by simpa using hi)
theorem dK_get {P : Program} {w : World} {H : Hp} {h : Heap} {a : Addr} {kvs : List (Key × V)} (ok : ObjOk P w H h a (.dK kvs)) :
    (a == sysModules) = false /\ ∃ o, h.get? a = some o /\ o.ExactDict /\ ∃ es ep, o.data = .dict es ep /\ es.size = kvs.length /\ ∀ (i : Nat) k v, kvs[i]? = some (k, v) -> ∃ ent, es[i]? = some ent /\ RelV (kV k) ent.key := by
  obtain ⟨z, y, vs, r, o, es, ep, e1, ex, hd, _, pr, _⟩ := ok
  obtain ⟨l1, g1⟩ := kv_at r
  obtain ⟨l2, g2⟩ := pairs_at pr
  refine ⟨y, o, e1, ex, es, ep, hd, by rw [<- Array.length_toList]; omega, fun i k v hk => ?_⟩
  obtain ⟨u, hu⟩ := g1 i k v hk
  obtain ⟨e, he, hq⟩ := g2 i k u hu
  exact ⟨e, by rw [<- Array.getElem?_toList]; exact he, key_rel hq⟩
theorem vals_get : ∀ {xs : List V} {us : List Value}, xs.length = us.length -> (∀ (i : Nat) x, xs[i]? = some x -> ∃ u, us[i]? = some u /\ RelV x u) -> Vals xs us
  | [], [], _, _ => .nil
  | [], _ :: _, h, _ => by simp at h
  | _ :: _, [], h, _ => by simp at h
  | x :: xs, u :: us, h, k => by
    obtain ⟨v, e, r⟩ := k 0 x rfl
    cases e
    exact .cons r (vals_get (by simpa using h) fun i y hy => k (i + 1) y (by simpa using hy))
section
variable {X : Cx}
def ItkI (a : Addr) (o : Obj) (kvs : List (Key × V)) : It :=
  ⟨fun i H => H a = some (.frz o (.dK kvs)) /\ i < kvs.length, fun i H x H' => H' = H /\ ∃ k v, kvs[i]? = some (k, v) /\ x = kV k, fun i H => H a = some (.frz o (.dK kvs)) /\ kvs.length <= i⟩
theorem frz_dK {P : Program} {w : World} {H : Hp} {h : Heap} {a : Addr} {o : Obj} {kvs : List (Key × V)} (ok : HOk P w H h) (e : H a = some (.frz o (.dK kvs))) :
    h.get? a = some o /\ (a == sysModules) = false /\ o.ExactDict /\ ∃ es ep, o.data = .dict es ep /\ es.size = kvs.length /\ ∀ (i : Nat) k v, kvs[i]? = some (k, v) -> ∃ ent, es[i]? = some ent /\ RelV (kV k) ent.key := by
  obtain ⟨e1, ok2⟩ := ok a _ e
  obtain ⟨y, o', e2, r⟩ := dK_get ok2
  rw [e1] at e2
  cases e2
  exact ⟨e1, y, r⟩
theorem turn_keysI {P : Program} {w : World} {K : PySem.W.Frag} {tg : Expr} (a it : Addr) (o : Obj) (kvs : List (Key × V)) (es : Array DictEntry) (ep : Nat) (hd : o.data = .dict es ep) :
    Turn P w K tg (ItkI a o kvs) [it] it (fun i h => h.IsKeyIter it a i es.size ep) where
  mem := by simp
  obj := fun i h st b hb => by
    have e : b = it := by simpa using hb
    subst e
    obtain ⟨o, e, c, d⟩ := st
    exact ⟨o, e, fun v z => by rw [d] at z; cases z⟩
  keep := fun i h h' st k => st.at fun o e => k it (by simp) o e
  item := by
    intro X hP hw hK hc i pins s σ H E I hf st hg
    subst hP hw hK
    obtain ⟨hH, hi⟩ := hg
    obtain ⟨e1, _, ex, es', ep', hd', hsz, get⟩ := frz_dK I.hok hH
    rw [hd] at hd'
    cases hd'
    obtain ⟨ent, hent, hkey⟩ := get i _ _ (List.getElem?_eq_getElem hi)
    obtain ⟨f0, f1, f2, f3, f4, f5⟩ := hf it (by simp)
    refine ents_next st e1 hd hent fun h' st' sb => ?_
    have I1 : Inv X pins σ H { s with heap := h' } := I.turned (t' := s.toks) (fun b o hb e => (sb.2 b hb).trans e) f0 f1 f3 f4 f5
    obtain ⟨oo, e, c, d⟩ := id st'
    exact ⟨_, rfl, go_of (s := { s with heap := h' }) e c d (by decide) ⟨_, H, I1, hkey, ⟨rfl, _, _, List.getElem?_eq_getElem hi, rfl⟩, st', fun b hb => (hf b hb).1⟩⟩
  done := by
    intro X hP hw hK hc i pins s σ H E I hf st hg
    subst hP hw hK
    obtain ⟨hH, hi⟩ := hg
    obtain ⟨e1, _, ex, es', ep', hd', hsz, get⟩ := frz_dK I.hok hH
    rw [hd] at hd'
    cases hd'
    obtain ⟨f0, f1, f2, f3, f4, f5⟩ := hf it (by simp)
    exact ents_end (I.ok.hd hc) st e1 hd (by omega) fun h' eb => ⟨rfl, I.turned (t' := s.toks) (fun b o hb e => eb b o hb e) f0 f1 f3 f4 f5⟩
  self := fun _ _ _ _ _ st h => wpAny_pyIter_keyiter st h
theorem Inv.freezeI {pins : List (Addr × Obj)} {σ : St} {H : Hp} {s : Shared} {a : Addr} {kvs : List (Key × V)} (I : Inv X pins σ H s) (e : H a = some (.dK kvs)) : ∃ o, s.heap.get? a = some o /\ Inv X pins σ (upd H a (.frz o (.dK kvs))) s := by
  have ok := I.hok a _ e
  obtain ⟨_, ob, e2, _⟩ := dK_get ok
  refine ⟨ob, e2, ?_⟩
  refine I.write (x := a) (e := a) (h' := s.heap) (t' := s.toks) (by rw [e]; exact trivial) (.inl rfl) (fun _ _ _ q => q) ⟨_, e2⟩ ⟨e2, ?_⟩
  refine ok.stay (fun _ _ _ q => q) (fun b q => ?_) fun b ys q => ?_
  · rw [upd_ne (fun w => by rw [w, e] at q; cases q)]; exact q
  · rw [upd_ne (fun w => by rw [w, e] at q; cases q)]; exact q
def iKeysI (tl : TE) : TI := fun σ H R => tl σ H fun x H1 => ∃ a kvs, x = .ref a /\ ((H1 a = some (.dK kvs) /\ ∀ o, R (ItkI a o kvs) (upd H1 a (.frz o (.dK kvs)))) ∨ ∃ o, H1 a = some (.frz o (.dK kvs)) /\ R (ItkI a o kvs) H1)
theorem keysI_it {pins : List (Addr × Obj)} {σ : St} {H : Hp} {s : Shared} {tg : Expr} {a : Addr} {o : Obj} {kvs : List (Key × V)} {R : It -> Hp -> Prop} (I : Inv X pins σ H s) (e : H a = some (.frz o (.dK kvs))) (q : R (ItkI a o kvs) H) :
    wpAny (model X.prog X.w) X.A (pyIter (.ref a)) (PIE X pins σ tg R) X.xe s := by
  obtain ⟨e1, y, ex, es, ep, hd, hsz, get⟩ := frz_dK I.hok e
  refine ents_iter y e1 ex hd ?_
  refine ⟨s.heap.objs.size, [s.heap.objs.size], _, _, H, rfl, I.kept (t' := s.toks) fun b o e => Heap.get?_push_of_some _ e, turn_keysI a _ o kvs es ep hd, ⟨_, Heap.get?_push_size _ rfl, rfl, rfl⟩, fun b hb => ?_, q⟩
  have e : b = s.heap.objs.size := by simpa using hb
  subst e
  exact I.fpOk (Nat.le_refl _) (I.hok.fresh (Nat.le_refl _))
theorem pi_keysI {tg l : Expr} {tl : TE} (hl : PE X l tl) : PI X tg l (iKeysI tl) := by
  intro pins s σ H R I h
  refine thn (hl pins s σ H _ I h) fun v s1 ⟨x, H1, I1, r1, a, kvs, e, q⟩ => ?_
  subst e
  cases r1
  rcases q with ⟨e, q⟩ | ⟨o, e, q⟩
  · obtain ⟨o, e1, I2⟩ := I1.freezeI e
    exact keysI_it I2 upd_same (q o)
  · exact keysI_it I1 e q
theorem for_keysI {a : Addr} {o : Obj} {kvs : List (Key × V)} {g : TG} {tb : TS} {D : Ends} {σ : St} {H : Hp} (Pv : Nat -> St -> Hp -> Prop) (h0 : Pv 0 σ H) (hl : ∀ i σ H, i <= kvs.length -> Pv i σ H -> H a = some (.frz o (.dK kvs)))
    (hs : ∀ i k v σ H, kvs[i]? = some (k, v) -> Pv i σ H -> g (kV k) σ H fun σ2 H2 => tb { D with nx := Pv (i + 1), ct := Pv (i + 1), bk := D.nx } σ2 H2) (hd : ∀ σ H, Pv kvs.length σ H -> D.nx σ H) :
    ∃ W : Nat -> Nat -> St -> Hp -> Prop, (∃ m, W 0 m σ H) /\ ∀ i m σ H, W i m σ H ->
      ((ItkI a o kvs).stop i H /\ D.nx σ H) ∨ ((ItkI a o kvs).go i H /\ ∃ N : St -> Hp -> Prop, (∀ σ' H', N σ' H' -> ∃ m', m' < m /\ W (i + 1) m' σ' H') /\ ∀ x H', (ItkI a o kvs).yld i H x H' -> g x σ H' fun σ2 H2 => tb { D with nx := N, ct := N, bk := D.nx } σ2 H2) := by
  refine ⟨fun i m σ H => m = kvs.length - i /\ i <= kvs.length /\ Pv i σ H, ⟨kvs.length, by simp, Nat.zero_le _, h0⟩, ?_⟩
  rintro i m σ H ⟨rfl, hi, p⟩
  have q := hl i σ H hi p
  by_cases hlt : i < kvs.length
  · refine .inr ⟨⟨q, hlt⟩, Pv (i + 1), fun σ' H' p' => ⟨kvs.length - (i + 1), by omega, rfl, hlt, p'⟩, fun x H' y => ?_⟩
    obtain ⟨e, k, v, hk, ex⟩ := y
    subst e ex
    exact hs i k v σ _ hk p
  · have e : i = kvs.length := by omega
    subst e
    exact .inl ⟨⟨q, Nat.le_refl _⟩, hd σ H p⟩
theorem call_sortedD (hc : X.calm = true) : CallR X (.builtin "sorted") (fun xs H Q => ∃ (d : Addr) (kvs : List (Key × V)) (ns : List Int), xs = [.ref d] /\ Rd H d (.dK kvs) /\ kvs.map (·.1) = ns.map Sum.inl /\ ns.length < 64 ∧
    ∀ (l : Addr) (ms : List Int), H l = none -> ms.Perm ns -> ms.Pairwise (· <= ·) -> Q (.ref l) (upd H l (.lst (ms.map V.int)))) := by
  intro pins s σ H xs us Q I r h
  obtain ⟨d, kvs, ns, rfl, hD, ek, h64, q⟩ := h
  obtain ⟨u, rfl, ru⟩ := vals1 r
  cases (show u = Value.ref d from ru)
  have ok : ObjOk X.prog X.w H s.heap d (.dK kvs) := by
    rcases hD with e | ⟨o, e⟩
    · exact I.hok d _ e
    · exact (I.hok d _ e).2
  have hz : kvs.length <= sizeLine := ok.1
  obtain ⟨lo, o, e, ex, es, ep, hd, hsz, get⟩ := dK_get ok
  have hl : kvs.length = ns.length := by
    have h := congrArg List.length ek
    rw [List.length_map, List.length_map] at h
    exact h
  refine Calls.call_function_entry kind_sorted plain_sorted entry_sorted (args_sorted1 _) ?_
  unfold Builtin.«sorted»
  refine wpAny_bind (m := checkCount "sorted" 1 1 _) (wpAny_pure ?_)
  refine wpAny_bind (PySem.W.kdu_collect (keys_src d lo o ex es ep hd) (by first | exact I.ok.hd hc | (rw [show X.A.in1.handled = X.A.handled from rfl]; exact I.ok.hd hc)) e (by rw [hsz]; exact hz) fun h' tk acc hk hacc => ?_)
  have hla : acc.toList.length = kvs.length := by rw [Array.length_toList, hacc.1, hsz]
  have ia : IntsAre acc.toList ns := by
    refine intsAre_of (vals_get (by rw [List.length_map]; omega) fun i x hx => ?_)
    have hi : i < ns.length := by
      have := (List.getElem?_eq_some_iff.mp hx).1
      rw [List.length_map] at this
      exact this
    rw [List.getElem?_map, List.getElem?_eq_getElem hi] at hx
    cases hx
    have hik : i < kvs.length := by omega
    have hia : i < acc.size := by rw [hacc.1, hsz]; exact hik
    obtain ⟨ent, e1, e2⟩ := hacc.2 i _ (Array.getElem?_eq_getElem hia)
    obtain ⟨ent', e3, e4⟩ := get i _ _ (List.getElem?_eq_getElem hik)
    rw [e1] at e3
    cases e3
    have ky : kvs[i].1 = Sum.inl ns[i] := by
      have h : (kvs.map (·.1))[i]? = (ns.map Sum.inl)[i]? := by rw [ek]
      rw [List.getElem?_map, List.getElem?_map, List.getElem?_eq_getElem hik, List.getElem?_eq_getElem hi] at h
      exact Option.some.inj h
    refine ⟨acc[i], by rw [Array.getElem?_toList, Array.getElem?_eq_getElem hia], ?_⟩
    rw [<- e2]
    have e5 : RelV (kV kvs[i].1) ent.key := e4
    rw [ky] at e5
    exact e5
  refine wpAny_bind (wpAny_newList ?_ (by rw [hla]; exact hz))
  have hoL : (h'.push (seqObj "list" acc.toList.toArray 0)).get? h'.objs.size = some (seqObj "list" acc.toList.toArray 0) := Heap.get?_push_size _ rfl
  refine wpAny_bind (wpAny_holding (wpAny_call_entry slot_list_sort ⟨_, hoL, rfl⟩ entry_list_sort (list_sort_tree hoL ia (by omega) fun out ns' a1 a2 a3 => ⟨_, rfl, ?_⟩) (args_list_sort _)))
  refine wpAny_pure ⟨_, rfl, ?_⟩
  have I1 : Inv X pins σ H { s with heap := h', toks := tk } := I.kept (t' := tk) hk
  have fr : H h'.objs.size = none := I1.hok.fresh (Nat.le_refl _)
  obtain ⟨ep2, eo⟩ := sortedHeap_at (out := out) hoL
  have hlo : out.toList.length = ns'.length := a1.length
  have hln : ns'.length = ns.length := a2.length_eq
  refine ⟨.ref h'.objs.size, upd H h'.objs.size (.lst (ns'.map V.int)), I1.laid (t' := tk) (fun b u q => ?_) (Nat.le_refl _) ⟨by rw [List.length_map]; omega, out.toList, ep2, vals_ints a1, by rw [Array.toArray_toList]; exact eo⟩, rfl, q _ _ fr a2 a3⟩
  rw [sortedHeap_old (Nat.ne_of_lt (Heap.lt_size q)) (by rw [Heap.size_push]; exact Nat.lt_succ_of_lt (Heap.lt_size q))]
  exact Heap.get?_push_of_some _ q
end
end L2
namespace L2
open PySem PySem.Spec PyProof.Rows
theorem range_all (bs : List Bool) : (List.range bs.length).all (fun i => bs.getD i false) = bs.all id := by
  rw [Bool.eq_iff_iff]
  simp only [List.all_eq_true, List.mem_range]
  constructor
  · intro h b hb
    obtain ⟨i, hi, e⟩ := List.mem_iff_getElem.mp hb
    have q := h i hi
    rw [getD_at hi, e] at q
    exact q
  · intro h i hi
    rw [getD_at hi]
    exact h _ (List.getElem_mem hi)
section
variable {X : Cx} {K : PySem.W.Frag}
theorem bls_at {us : List Value} {bs : List Bool} (h : Vals (bs.map V.bl) us) {i : Nat} {v : Value} (e : us[i]? = some v) : v = .bool (bs.getD i false) := by
  have hl := h.length
  rw [List.length_map] at hl
  have hi : i < us.length := (List.getElem?_eq_some_iff.mp e).1
  have e2 : (bs.map V.bl)[i]? = some (.bl (bs.getD i false)) := by
    rw [List.getElem?_map, List.getElem?_eq_getElem (by omega), getD_at (by omega)]
    rfl
  obtain ⟨u, hu, r⟩ := h.get e2
  rw [e] at hu
  cases hu
  exact r
theorem call_allL (hK : X.K = K) (hc : X.calm = true) : CallR X (.builtin "all") (fun xs H Q => ∃ (a : Addr) (bs : List Bool), xs = [.ref a] /\ SqL K H a (bs.map V.bl) /\ Q (.bl (bs.all id)) H) := by
  subst hK
  intro pins s σ H xs us Q I r h
  obtain ⟨a, bs, rfl, hS, q⟩ := h
  obtain ⟨u, rfl, ru⟩ := vals1 r
  cases (show u = Value.ref a from ru)
  obtain ⟨its, rv, pl, hz⟩ := I.list hS
  have lt : a < s.heap.objs.size := by obtain ⟨o, e, _⟩ := pl.isList; exact Heap.lt_size e
  have hl := rv.length
  rw [List.length_map] at hl
  refine call_all_walk (wpAny_pyIter_list pl.isList ⟨s.heap.objs.size, _, _, _, _, _, fun i => bs.getD i false, rfl, Walks.list (A := X.A.in1) (I.ok.hd hc) s.heap.objs.size a (Nat.ne_of_lt lt) its.toArray, ⟨⟨_, Heap.get?_push_size _ rfl, rfl, rfl⟩, pl.isList.push _⟩, ?_, fun h' tk hk => ?_⟩)
  · intro i v s' Q' E' hv hQ
    have e := bls_at rv (i := i) (v := v) (by simpa using hv)
    rw [e]
    exact wpAny_truthy_bool hQ
  · refine ⟨.bl (bs.all id), H, I.kept (t' := tk) fun b o e => hk b o (fun z => ?_) (Heap.get?_push_of_some _ e), ?_, q⟩
    · rw [List.mem_singleton.mp z] at e
      exact absurd (Heap.lt_size e) (Nat.lt_irrefl _)
    · show Value.bool _ = Value.bool _
      rw [List.size_toArray, <- hl, range_all]
end
end L2
namespace L2
open PySem PySem.Spec PyProof.Rows
structure ClsM (K : PySem.W.Frag) (C : Addr) (m : Str) (f : Addr) : Prop where
  ga : PySem.W.specialIn K (.ref C) "__getattribute__" = some (some (.builtin "type.__getattribute__"))
  rd : PySem.W.readsIn K C (.type "type") = true
  at_ : PySem.W.findCls K (.ref C) (.type "type") m = some (.val (.ref f))
  hd : PySem.W.handedIn (.ref f) = true
  kp : PySem.W.keepIn K (.ref f) = true
section
variable {X : Cx} {CX : CXT} {C f : Addr} {fd : FuncData} {k : Nat} {x m : Str} {ps : List Str} {ds : List Value} {dvs : List V} {sp : Sp} {E : XK} {e : Expr} {es : List Expr} {t : TA} {p apos pos : Pos}
end
end L2
namespace L2
open PySem PySem.Spec PySem.Calls PyProof.Rows
section
variable {X : Cx}
end
end L2
namespace L2
open PySem PySem.Spec PyProof.Rows
theorem call_tuple_ofK {X : Cx} {K : PySem.W.Frag} (h : X.K = K) : CallR X (.type "tuple") (fun xs H Q => ∃ p ys, xs = [.ref p] /\ ((SqL K H p ys /\ ∀ l, H l = none -> Q (.ref l) (upd H l (.tup ys))) ∨ (SqT K H p ys /\ Q (.ref p) H))) := by subst h; exact call_tuple_of
end L2
namespace L2
open PySem PySem.Spec PyProof.Rows
structure MkN (K : PySem.W.Frag) (C : Addr) : Prop where
  makes : PySem.W.makesIn K C = true
  init : PySem.W.findIn K (.ref C) "__init__" = some (some (.builtin "object.__init__"))
  kp : PySem.W.keepIn K (.ref C) = true
section
variable {X : Cx} {C : Addr} {x : Str} {p pos : Pos}
end
end L2
namespace L2
open PySem PySem.Spec PyProof.Rows
theorem pi_either {X : Cx} {tg e : Expr} {a b : TI} (h1 : PI X tg e a) (h2 : PI X tg e b) : PI X tg e (fun σ H R => a σ H R ∨ b σ H R) := fun pins s σ H R I h => h.elim (h1 pins s σ H R I) (h2 pins s σ H R I)
theorem comp_tup {K : PySem.W.Frag} {a : Addr} {xs : List V} {k : Nat} {g : TG} {c : TT} {te : TE} {σ : St} {H1 : Hp} {D : Addr} {Q : VK} (Pv : Nat -> St -> Hp -> Prop) (h0 : Pv 0 (List.replicate k none ++ σ) (upd H1 D (.lst [])))
    (hl : ∀ i τ H, i <= xs.length -> Pv i τ H -> SqT K H a xs)
    (hs : ∀ i m x τ H, m = xs.length - i -> i < xs.length -> xs[i]? = some x -> Pv i τ H -> g x τ H fun τ2 H2 => c τ2 H2 fun b H3 => if b = true then te τ2 H3 fun y H4 => ∃ ys m', m' < m /\ H4 D = some (.lst ys) /\ ys.length < sizeLine /\ CW xs.length Pv (i + 1) m' τ2 (upd H4 D (.lst (ys ++ [y]))) else ∃ m', m' < m /\ CW xs.length Pv (i + 1) m' τ2 H3)
    (hd : ∀ τ H, Pv xs.length τ H -> Q (.ref D) H) : CompW k (Itt K a) g c te σ H1 D Q := by
  refine ⟨CW xs.length Pv, ⟨xs.length, rfl, Nat.zero_le _, h0⟩, ?_⟩
  rintro i m τ H ⟨hm, hi, p⟩
  have q := hl i τ H hi p
  by_cases hlt : i < xs.length
  · refine .inr ⟨⟨xs, xs[i], q, by simp [hlt]⟩, fun x H' y => ?_⟩
    obtain ⟨e, y⟩ := y
    subst e
    exact hs i m x τ _ hm hlt (y xs q) p
  · have e : i = xs.length := by omega
    subst e
    exact .inl ⟨⟨xs, q, Nat.le_refl _⟩, hd τ H p⟩
theorem for_revT {K : PySem.W.Frag} {a : Addr} {xs : List V} {g : TG} {tb : TS} {D : Ends} {σ : St} {H : Hp} (Pv : Nat -> St -> Hp -> Prop) (h0 : Pv 0 σ H) (hl : ∀ i σ H, i <= xs.length -> Pv i σ H -> SqT K H a xs)
    (hs : ∀ i x σ H, i < xs.length -> xs[xs.length - 1 - i]? = some x -> Pv i σ H -> g x σ H fun σ2 H2 => tb { D with nx := Pv (i + 1), ct := Pv (i + 1), bk := D.nx } σ2 H2) (hd : ∀ σ H, Pv xs.length σ H -> D.nx σ H) :
    ∃ W : Nat -> Nat -> St -> Hp -> Prop, (∃ m, W 0 m σ H) /\ ∀ i m σ H, W i m σ H ->
      ((ItRT K a xs).stop i H /\ D.nx σ H) ∨ ((ItRT K a xs).go i H /\ ∃ N : St -> Hp -> Prop, (∀ σ' H', N σ' H' -> ∃ m', m' < m /\ W (i + 1) m' σ' H') /\ ∀ x H', (ItRT K a xs).yld i H x H' -> g x σ H' fun σ2 H2 => tb { D with nx := N, ct := N, bk := D.nx } σ2 H2) := by
  refine ⟨fun i m σ H => m = xs.length - i /\ i <= xs.length /\ Pv i σ H, ⟨xs.length, by simp, Nat.zero_le _, h0⟩, ?_⟩
  rintro i m σ H ⟨rfl, hi, p⟩
  have q := hl i σ H hi p
  by_cases hlt : i < xs.length
  · refine .inr ⟨⟨hlt, q⟩, Pv (i + 1), fun σ' H' p' => ⟨xs.length - (i + 1), by omega, rfl, hlt, p'⟩, fun x H' y => ?_⟩
    obtain ⟨e, y⟩ := y
    subst e
    exact hs i x σ _ hlt y p
  · have e : i = xs.length := by omega
    subst e
    exact .inl ⟨Nat.le_refl _, hd σ H p⟩
end L2
namespace TD
open PySem L2
open Builtin.Int (intBits)
structure Ir where
  p : Addr
  v : Int
  w : Int
def IrAt (H : Hp) (x : Ir) : Prop := H x.p = some (.tup [.int x.v, .int x.w])
def irefs (xs : List Ir) : List V := xs.map fun x => V.ref x.p
structure IrsAt (H : Hp) (a : Addr) (xs : List Ir) : Prop where
  lst : H a = some (.lst (irefs xs))
  rows : ∀ x ∈ xs, IrAt H x
def rw0 (xs : List Ir) : List Tb.Rw := xs.map fun x => ⟨x.v, 1, x.w⟩
def tab (xs : List Ir) : Of.Tab := xs.map fun x => (x.v, x.w)
theorem IrsAt.same {H H' : Hp} {a : Addr} {xs : List Ir} (s : Same H H') (h : IrsAt H a xs) : IrsAt H' a xs := ⟨s _ _ h.lst, fun x hx => s _ _ (h.rows x hx)⟩
theorem irefs_length (xs : List Ir) : (irefs xs).length = xs.length := List.length_map _
theorem rw0_length (xs : List Ir) : (rw0 xs).length = xs.length := List.length_map _
theorem irefs_at {xs : List Ir} {i : Nat} {v : V} (h : (irefs xs)[i]? = some v) : ∃ x, xs[i]? = some x /\ v = .ref x.p := by
  unfold irefs at h
  rw [List.getElem?_map] at h
  cases e : xs[i]? with
  | none => rw [e] at h; cases h
  | some x => rw [e] at h; cases h; exact ⟨x, rfl, rfl⟩
theorem irefs_snoc (xs : List Ir) (y : Ir) : irefs (xs ++ [y]) = irefs xs ++ [V.ref y.p] := by unfold irefs; rw [List.map_append]; rfl
theorem rw0_snoc (xs : List Ir) (y : Ir) : rw0 (xs ++ [y]) = rw0 xs ++ [⟨y.v, 1, y.w⟩] := by unfold rw0; rw [List.map_append]; rfl
theorem IrsAt.push {H : Hp} {a : Addr} {xs : List Ir} {y : Ir} (h : IrsAt H a xs) (hy : IrAt H y) : IrsAt (upd H a (.lst (irefs xs ++ [.ref y.p]))) a (xs ++ [y]) := by
  have one : ∀ x : Ir, IrAt H x -> IrAt (upd H a (.lst (irefs xs ++ [.ref y.p]))) x := fun x hx => by unfold IrAt at hx ⊢; rw [upd_ne (ne_of hx h.lst fun z => nomatch z)]; exact hx
  refine ⟨by rw [upd_same, irefs_snoc], fun x hx => ?_⟩
  rcases List.mem_append.mp hx with z | z
  · exact one x (h.rows x z)
  · rw [List.mem_singleton.mp z]; exact one y hy
structure GI (xs : List Ir) : Prop where
  ne : xs ≠ []
  len : xs.length <= 8
  v : ∀ x ∈ xs, 0 <= x.v /\ x.v <= 1000000000
  w : ∀ x ∈ xs, 1 <= x.w /\ x.w <= 1000
structure Ls where
  a : Addr
  xs : List Ir
def lsrefs (ls : List Ls) : List V := ls.map fun l => V.ref l.a
structure LsAt (H : Hp) (a : Addr) (ls : List Ls) : Prop where
  lst : H a = some (.lst (lsrefs ls))
  each : ∀ l ∈ ls, IrsAt H l.a l.xs
theorem LsAt.same {H H' : Hp} {a : Addr} {ls : List Ls} (s : Same H H') (h : LsAt H a ls) : LsAt H' a ls := ⟨s _ _ h.lst, fun l hl => (h.each l hl).same s⟩
theorem lsrefs_length (ls : List Ls) : (lsrefs ls).length = ls.length := List.length_map _
theorem lsrefs_at {ls : List Ls} {i : Nat} {v : V} (h : (lsrefs ls)[i]? = some v) : ∃ x, ls[i]? = some x /\ v = .ref x.a := by
  unfold lsrefs at h
  rw [List.getElem?_map] at h
  cases e : ls[i]? with
  | none => rw [e] at h; cases h
  | some x => rw [e] at h; cases h; exact ⟨x, rfl, rfl⟩
theorem lsrefs_snoc (ls : List Ls) (y : Ls) : lsrefs (ls ++ [y]) = lsrefs ls ++ [V.ref y.a] := by unfold lsrefs; rw [List.map_append]; rfl
structure Tn where
  a : Addr
  ys : List Row
def trefs (ts : List Tn) : List V := ts.map fun t => V.ref t.a
structure TpAt (H : Hp) (a : Addr) (ys : List Row) : Prop where
  tp : H a = some (.tup (refs ys))
  rows : ∀ y ∈ ys, RowAt H y
structure KAt (H : Hp) (k : Addr) (ts : List Tn) : Prop where
  tp : H k = some (.tup (trefs ts))
  each : ∀ t ∈ ts, TpAt H t.a t.ys
theorem TpAt.same {H H' : Hp} {a : Addr} {ys : List Row} (s : Same H H') (h : TpAt H a ys) : TpAt H' a ys := ⟨s _ _ h.tp, fun y hy => (h.rows y hy).same s⟩
theorem KAt.same {H H' : Hp} {k : Addr} {ts : List Tn} (s : Same H H') (h : KAt H k ts) : KAt H' k ts := ⟨s _ _ h.tp, fun t ht => (h.each t ht).same s⟩
theorem trefs_length (ts : List Tn) : (trefs ts).length = ts.length := List.length_map _
theorem trefs_at {ts : List Tn} {i : Nat} {v : V} (h : (trefs ts)[i]? = some v) : ∃ x, ts[i]? = some x /\ v = .ref x.a := by
  unfold trefs at h
  rw [List.getElem?_map] at h
  cases e : ts[i]? with
  | none => rw [e] at h; cases h
  | some x => rw [e] at h; cases h; exact ⟨x, rfl, rfl⟩
theorem trefs_snoc (xs : List Tn) (y : Tn) : trefs (xs ++ [y]) = trefs xs ++ [V.ref y.a] := by unfold trefs; rw [List.map_append]; rfl
def tabY (ys : List Row) : Of.Tab := ys.map fun y => (y.t, y.w)
structure GY (ys : List Row) : Prop where
  g : Of.GT (tabY ys)
  one : ∀ y ∈ ys, y.b = 1
def lift (kvs : List (Key × V)) : List (List Key × V) := kvs.map fun kv => ([kv.1, Sum.inl 1], kv.2)
theorem lift_key {a b : Key} : ([a, Sum.inl 1] : List Key) = [b, Sum.inl 1] ↔ a = b := ⟨fun h => by injection h, fun h => by rw [h]⟩
theorem lift_val (kvs : List (Key × V)) (k : Key) : valV (lift kvs) [k, Sum.inl 1] = valV kvs k := by
  unfold valV lift
  rw [List.find?_map]
  have e : ((fun kv : List Key × V => decide (kv.1 = [k, Sum.inl 1])) ∘ fun kv : Key × V => ([kv.1, Sum.inl 1], kv.2)) = fun kv : Key × V => decide (kv.1 = k) := by
    funext kv
    show decide (([kv.1, Sum.inl 1] : List Key) = [k, Sum.inl 1]) = decide (kv.1 = k)
    by_cases h : kv.1 = k
    · rw [decide_eq_true h, decide_eq_true (lift_key.mpr h)]
    · rw [decide_eq_false h, decide_eq_false fun z => h (lift_key.mp z)]
  rw [e, Option.map_map]
  rfl
theorem lift_put (kvs : List (Key × V)) (k : Key) (v : V) : lift (putK kvs k v) = putK (lift kvs) [k, Sum.inl 1] v := by
  have e : (lift kvs).any (fun kv => decide (kv.1 = [k, Sum.inl 1])) = kvs.any fun kv => decide (kv.1 = k) := by
    unfold lift
    rw [List.any_map]
    congr 1
    funext kv
    show decide (([kv.1, Sum.inl 1] : List Key) = [k, Sum.inl 1]) = decide (kv.1 = k)
    by_cases h : kv.1 = k
    · rw [decide_eq_true h, decide_eq_true (lift_key.mpr h)]
    · rw [decide_eq_false h, decide_eq_false fun z => h (lift_key.mp z)]
  unfold putK
  rw [e]
  split
  · unfold lift
    rw [List.map_map, List.map_map]
    refine List.map_congr_left fun kv _ => ?_
    show (fun kv : Key × V => ([kv.1, Sum.inl 1], kv.2)) (if kv.1 = k then (kv.1, v) else kv) = if ([kv.1, Sum.inl 1] : List Key) = [k, Sum.inl 1] then ([kv.1, Sum.inl 1], v) else ([kv.1, Sum.inl 1], kv.2)
    by_cases h : kv.1 = k
    · rw [if_pos h, if_pos (lift_key.mpr h)]
    · rw [if_neg h, if_neg fun z => h (lift_key.mp z)]
  · unfold lift
    rw [List.map_append]
    rfl
structure BRows (xs : List Row) : Prop where
  len : xs.length <= 1000
  b : ∀ x ∈ xs, 0 < x.b
  t : ∀ x ∈ xs, intBits x.t <= 2500
  w : ∀ x ∈ xs, intBits x.w <= 64
  z : ((xs.map Row.b).map intBits).sum <= 4200
def rwF (xs : List Row) : List (Rk.Fc × Int) := xs.map fun x => ((x.t, x.b), x.w)
def spAWe : Sp := fun vs H Q _ => ∃ (a : Addr) (xs : List Row), vs = [.ref a] /\ (TabAt H a xs ∨ TpAt H a xs) /\ xs.length <= 1000 /\ ∀ H', Same H H' -> Q (.int (wsum xs)) H'
def spBWf : Sp := fun vs H Q _ => ∃ (a : Addr) (xs : List Row) (W : Int), vs = [.ref a, .int W] /\ TabAt H a xs /\ BRows xs /\ 0 < W /\ intBits W <= 64 /\ ∀ p H', Same H H' -> FcAt H' p (Of.byF (rwF xs) W) -> Q (.ref p) H'
def spRow1 : Sp := fun vs H Q _ => ∃ x : Ir, vs = [.ref x.p] /\ IrAt H x /\ 0 <= x.v /\ x.v <= 1000000000 /\ 1 <= x.w /\ x.w <= 1000 /\ Q (.bl true) H
def spRows1 : Sp := fun vs H Q _ => ∃ (a : Addr) (xs : List Ir), vs = [.ref a] /\ IrsAt H a xs /\ GI xs /\ ∀ H', Same H H' -> Q (.bl true) H'
def spLists1 : Sp := fun vs H Q _ => ∃ (a : Addr) (ls : List Ls), vs = [.ref a] /\ LsAt H a ls /\ ls ≠ [] /\ ls.length <= 8 /\ (∀ l ∈ ls, GI l.xs) /\ ∀ H', Same H H' -> Q (.bl true) H'
def spTO (P : Addr) (lp : Pos) : Sp := fun vs H Q _ => ∃ (a : Addr) (xs : List Ir), vs = [.ref a] /\ IrsAt H a xs /\ GI xs /\ TbOk P lp lamQ H ∧
  ∀ (r : Addr) (H' : Hp) (ys : List Row), SameT P H H' -> TbOk P lp lamQ H' -> H r = none -> TabAt H' r ys -> Out (rw0 xs) ys -> ys.length <= xs.length -> Q (.ref r) H'
end TD
namespace L2
open PySem
theorem call_isinstK {X : Cx} {K : PySem.W.Frag} {T : String} (h : X.K = K) : CallR X (.builtin "isinstance") (fun xs H Q => ∃ x t b, xs = [x, .ty T] /\ TyOf K H x t /\ PySem.W.kitOne K t (.type T) = some b /\ Q (.bl b) H) := by subst h; exact call_isinst
theorem call_len_seqK {X : Cx} {K : PySem.W.Frag} (h : X.K = K) : CallR X (.builtin "len") (fun xs H Q => ∃ p ys, xs = [.ref p] /\ (SqL K H p ys ∨ SqT K H p ys) /\ Q (.int ys.length) H) := by subst h; exact call_len_seq
end L2
namespace TD
open PySem L2
open Builtin.Int (intBits)
theorem tabY_of {ys : List Row} {zs : List Ir} (h : rws ys = rw0 zs) : tabY ys = tab zs := by
  have a : tabY ys = (rws ys).map fun r => (r.t, r.w) := by unfold tabY rws; rw [List.map_map]; rfl
  have b : tab zs = (rw0 zs).map fun r => (r.t, r.w) := by unfold tab rw0; rw [List.map_map]; rfl
  rw [a, b, h]
theorem Wt_le {ps : List Tb.Rw} (t b : Int) (h : ∀ p ∈ ps, 1 <= p.w /\ p.w <= 1000) : Tb.Wt ps t b <= 1000 * (ps.length : Int) /\ 0 <= Tb.Wt ps t b := by
  induction ps with
  | nil => simp [Tb.Wt]
  | cons p ps ih =>
    obtain ⟨a1, a2⟩ := ih fun x hx => h x (List.mem_cons_of_mem _ hx)
    obtain ⟨b1, b2⟩ := h p List.mem_cons_self
    have e : 1000 * ((p :: ps).length : Int) = 1000 + 1000 * (ps.length : Int) := by rw [List.length_cons]; grind
    rw [Tb.Wt_cons]
    split <;> omega
theorem gy_of {xs : List Ir} {ys : List Row} (g : GI xs) (o : Out (rw0 xs) ys) (l : ys.length <= xs.length) : GY ys := by
  have key : ∀ y ∈ ys, ∃ x ∈ xs, y.t = x.v /\ y.b = 1 := fun y hy => by
    obtain ⟨p, hp, e1, e2⟩ := o.key hy
    obtain ⟨x, hx, rfl⟩ := List.mem_map.mp hp
    exact ⟨x, hx, e1.symm, e2.symm⟩
  have pw : ∀ p ∈ rw0 xs, 1 <= p.w /\ p.w <= 1000 := fun p hp => by
    obtain ⟨x, hx, rfl⟩ := List.mem_map.mp hp
    exact g.w x hx
  have gl := g.len
  refine ⟨⟨?_, ?_, fun r hr => ?_, fun r hr => ?_⟩, fun y hy => (key y hy).elim fun _ h => h.2.2⟩
  · intro e
    exact o.ne (fun e => g.ne (List.map_eq_nil_iff.mp e)) (List.map_eq_nil_iff.mp e)
  · unfold tabY
    rw [List.length_map]
    omega
  · obtain ⟨y, hy, rfl⟩ := List.mem_map.mp hr
    obtain ⟨x, hx, e, _⟩ := key y hy
    show 0 <= y.t /\ y.t <= 1000000000
    rw [e]
    exact g.v x hx
  · obtain ⟨y, hy, rfl⟩ := List.mem_map.mp hr
    obtain ⟨a, b⟩ := o.w y hy
    have c := (Wt_le y.t y.b pw).1
    rw [rw0_length] at c
    exact ⟨a, by show y.w <= 8000; omega⟩
theorem tabY_length (ys : List Row) : (tabY ys).length = ys.length := List.length_map _
theorem tab_length (xs : List Ir) : (tab xs).length = xs.length := List.length_map _
theorem wsum_tabY (ys : List Row) : wsum ys = Of.W (tabY ys) := by unfold wsum Of.W tabY; rw [List.map_map]; rfl
theorem rws_of_tab {ps : List Tb.Rw} {ys : List Row} {zs : List Tb.Rw} (o : Out ps ys) (h : Tb.IsTab ps zs) : rws ys = zs := Tb.unique_tab o.tab h (show (0 : Int) < 1 by decide) (show (0 : Int) < 1 by decide) (fun _ _ => Iff.rfl) fun _ _ => rfl
structure OF (K : PySem.W.Frag) (C : Addr) : Prop where
  cl : Cls K C
  nk : NoAttr K C "kinds"
def OAt (C : Addr) (H : Hp) (x : Addr) (ts : List Tn) : Prop := ∃ dx k, H x = some (.ins C dx [("kinds", .ref k)]) /\ KAt H k ts
theorem OAt.same {C : Addr} {H H' : Hp} {x : Addr} {ts : List Tn} (s : Same H H') (h : OAt C H x ts) : OAt C H' x ts := by
  obtain ⟨dx, k, a, b⟩ := h
  exact ⟨dx, k, s _ _ a, b.same s⟩
structure GK (ts : List Tn) : Prop where
  len : ts.length <= 8
  each : ∀ t ∈ ts, GY t.ys
def tabs (ts : List Tn) : List Of.Tab := ts.map fun t => tabY t.ys
theorem GK.gt {ts : List Tn} (g : GK ts) : ∀ T ∈ tabs ts, Of.GT T := fun T hT => by
  obtain ⟨t, ht, rfl⟩ := List.mem_map.mp hT
  exact (g.each t ht).g
structure KOut (ls : List Ls) (ts : List Tn) : Prop where
  len : ls.length = ts.length
  each : ∀ (i : Nat) l t, ls[i]? = some l -> ts[i]? = some t -> Out (rw0 l.xs) t.ys /\ t.ys.length <= l.xs.length
def spOin (C P : Addr) (lp : Pos) : Sp := fun vs H Q _ => ∃ (x dx a : Addr) (ls : List Ls), vs = [.ref x, .ref a] /\ H x = some (.ins C dx []) /\ LsAt H a ls /\ ls ≠ [] /\ ls.length <= 8 /\ (∀ l ∈ ls, GI l.xs) /\ TbOk P lp lamQ H ∧
  ∀ (k : Addr) (H' : Hp) (ts : List Tn), SameT P H H' -> TbOk P lp lamQ H' -> H' x = some (.ins C dx []) -> KAt H' k ts -> KOut ls ts -> Q .non (upd H' x (.ins C dx [("kinds", .ref k)]))
def spWOn (C : Addr) : Sp := fun vs H Q _ => ∃ (x : Addr) (ts : List Tn), vs = [.ref x] /\ OAt C H x ts /\ GK ts /\ ∀ (r : Addr) (H' : Hp) (rs : List Rs), Same H H' -> H r = none -> FrsAt H' r rs -> vals rs = Of.onF (tabs ts) -> Q (.ref r) H'
structure Rl where
  a : Addr
  bs : List Bool
def rlrefs (rs : List Rl) : List V := rs.map fun r => V.ref r.a
structure RlAt (H : Hp) (a : Addr) (rs : List Rl) : Prop where
  lst : H a = some (.lst (rlrefs rs))
  each : ∀ r ∈ rs, H r.a = some (.lst (r.bs.map V.bl))
theorem RlAt.same {H H' : Hp} {a : Addr} {rs : List Rl} (s : Same H H') (h : RlAt H a rs) : RlAt H' a rs := ⟨s _ _ h.lst, fun r hr => s _ _ (h.each r hr)⟩
theorem rlrefs_length (rs : List Rl) : (rlrefs rs).length = rs.length := List.length_map _
theorem rlrefs_at {rs : List Rl} {i : Nat} {v : V} (h : (rlrefs rs)[i]? = some v) : ∃ x, rs[i]? = some x /\ v = .ref x.a := by
  unfold rlrefs at h
  rw [List.getElem?_map] at h
  cases e : rs[i]? with
  | none => rw [e] at h; cases h
  | some x => rw [e] at h; cases h; exact ⟨x, rfl, rfl⟩
theorem rlrefs_snoc (xs : List Rl) (y : Rl) : rlrefs (xs ++ [y]) = rlrefs xs ++ [V.ref y.a] := by unfold rlrefs; rw [List.map_append]; rfl
structure RT (rs : List Rl) (Ts : List Of.Tab) : Prop where
  len : rs.length = Ts.length
  each : ∀ (i : Nat) r T, rs[i]? = some r -> Ts[i]? = some T -> T.length = r.bs.length
def prs (Ts : List Of.Tab) (rs : List Rl) : List (Of.Tab × List Bool) := Ts.zip (rs.map Rl.bs)
theorem prs_length {Ts : List Of.Tab} {rs : List Rl} (h : RT rs Ts) : (prs Ts rs).length = Ts.length := by
  unfold prs
  rw [List.length_zip, List.length_map, h.len, Nat.min_self]
theorem prs_at {Ts : List Of.Tab} {rs : List Rl} {i : Nat} {r : Rl} {T : Of.Tab} (h1 : rs[i]? = some r) (h2 : Ts[i]? = some T) : (prs Ts rs)[i]? = some (T, r.bs) := by
  unfold prs
  rw [List.getElem?_zip_eq_some]
  exact ⟨h2, by rw [List.getElem?_map, h1]; rfl⟩
theorem prs_mem {Ts : List Of.Tab} {rs : List Rl} (h : RT rs Ts) {x : Of.Tab × List Bool} (hx : x ∈ prs Ts rs) : x.1 ∈ Ts /\ x.1.length = x.2.length := by
  obtain ⟨i, hi⟩ := List.getElem?_of_mem hx
  unfold prs at hi
  rw [List.getElem?_zip_eq_some] at hi
  obtain ⟨a, b⟩ := hi
  rw [List.getElem?_map] at b
  cases e : rs[i]? with
  | none => rw [e] at b; cases b
  | some r =>
    rw [e] at b
    have b : r.bs = x.2 := by injection b
    exact ⟨List.mem_of_getElem? a, by rw [<- b]; exact h.each i r _ e a⟩
def spTru : Sp := fun vs H Q _ => ∃ (a : Addr) (bs : List Bool) (n : Int), vs = [.ref a, .int n] /\ H a = some (.lst (bs.map V.bl)) /\ (bs.length : Int) = n /\ bs.length <= 8 /\ ∀ H', Same H H' -> Q (.bl true) H'
def spRul : Sp := fun vs H Q _ => ∃ (a k : Addr) (rs : List Rl) (ts : List Tn), vs = [.ref a, .ref k] /\ RlAt H a rs /\ KAt H k ts /\ GK ts /\ RT rs (tabs ts) /\ ∀ H', Same H H' -> Q (.bl true) H'
def some_ (ys : List Row) (bs : List Bool) : List Row := ((ys.zip bs).filter (·.2)).map (·.1)
theorem some_snoc {ys : List Row} {bs : List Bool} {i : Nat} {y : Row} {b : Bool} (h1 : ys[i]? = some y) (h2 : bs[i]? = some b) : some_ (ys.take (i + 1)) (bs.take (i + 1)) = if b = true then some_ (ys.take i) (bs.take i) ++ [y] else some_ (ys.take i) (bs.take i) := by
  unfold some_
  have l1 := (List.getElem?_eq_some_iff.mp h1).1
  have l2 := (List.getElem?_eq_some_iff.mp h2).1
  have e : (ys.take i).length = (bs.take i).length := by rw [List.length_take, List.length_take]; omega
  rw [take_snoc h1, take_snoc h2, List.zip_append e, List.filter_append, List.map_append]
  cases b <;> simp
theorem some_len (ys : List Row) (bs : List Bool) : (some_ ys bs).length <= ys.length := by
  unfold some_
  rw [List.length_map]
  have a := List.length_filter_le (·.2) (ys.zip bs)
  rw [List.length_zip] at a
  omega
theorem some_mem {ys : List Row} {bs : List Bool} {y : Row} (h : y ∈ some_ ys bs) : y ∈ ys := by
  obtain ⟨x, hx, rfl⟩ := List.mem_map.mp h
  exact (List.of_mem_zip (show (x.1, x.2) ∈ ys.zip bs from (List.mem_filter.mp hx).1)).1
theorem some_w : ∀ (ys : List Row) (bs : List Bool), wsum (some_ ys bs) = Of.wYes (tabY ys) bs
  | [], _ => rfl
  | _ :: _, [] => rfl
  | y :: ys, b :: bs => by
    have ih := some_w ys bs
    unfold some_ wsum Of.wYes tabY at ih ⊢
    cases b
    · simpa using ih
    · simp only [List.zip_cons_cons, List.map_cons, List.filter_cons, if_true, List.sum_cons]
      rw [ih]
def spSS : Sp := fun vs H Q _ => ∃ (a b : Addr) (ys : List Row) (bs : List Bool), vs = [.ref a, .ref b] /\ TpAt H a ys /\ H b = some (.lst (bs.map V.bl)) /\ GY ys /\ ys.length = bs.length /\ ∀ p H', Same H H' -> FcAt H' p (Of.shareS (tabY ys) bs) -> Q (.ref p) H'
def spNR (C : Addr) : Sp := fun vs H Q _ => ∃ (x a : Addr) (ts : List Tn) (rs : List Rl), vs = [.ref x, .ref a] /\ OAt C H x ts /\ RlAt H a rs /\ GK ts /\ RT rs (tabs ts) /\ ∀ H', Same H H' -> Q .non H'
def spLL (K : PySem.W.Frag) : Sp := fun vs H Q _ => ∃ (a : Addr) (ns : List Int), vs = [.ref a, .int 8, .int 3] /\ SqL K H a (ns.map V.int) /\ ∀ (r : Addr) (H' : Hp) (ls : List Ls), Same H H' -> LsAt H' r ls -> ls ≠ [] -> ls.length <= 8 -> (∀ l ∈ ls, GI l.xs) -> Q (.ref r) H'
def spLR : Sp := fun vs H Q _ => ∃ (a : Addr) (xs : List Ir), vs = [.ref a] /\ IrsAt H a xs /\ GI xs /\ ∀ (r : Addr) (H' : Hp) (zs : List Ir), Same H H' -> H r = none -> IrsAt H' r zs -> Tb.IsTab (rw0 xs) (rw0 zs) -> Q (.ref r) H'
def ltabs (ls : List Ls) : List Of.Tab := ls.map fun l => tab l.xs
structure GL (ls : List Ls) : Prop where
  len : ls.length <= 8
  each : ∀ l ∈ ls, Of.GT (tab l.xs)
def spLOn : Sp := fun vs H Q _ => ∃ (a : Addr) (ls : List Ls), vs = [.ref a] /\ LsAt H a ls /\ GL ls /\ ∀ (r : Addr) (H' : Hp) (rs : List Rs), Same H H' -> H r = none -> FrsAt H' r rs -> vals rs = Of.onF (ltabs ls) -> Q (.ref r) H'
def spLA : Sp := fun vs H Q _ => ∃ (p q : Addr) (f g : Rk.Fc), vs = [.ref p, .ref q] /\ FcAt H p f /\ FcAt H q g /\ 0 < f.2 /\ 0 < g.2 /\ SzS f.1 f.2 g.1 g.2 /\ ∀ r H', Same H H' -> FcAt H' r (Rk.pl f g) -> Q (.ref r) H'
end TD
namespace TD
open PySem L2
theorem TbOk_over {P : Addr} {pos : Pos} {qual : Str} {H : Hp} {a : Addr} {xs zs : List V} (t : TbOk P pos qual H) (e : H a = some (.lst xs)) : TbOk P pos qual (upd H a (.lst zs)) := by
  rcases t with z | ⟨c', z1, z2⟩
  · exact .inl (by rw [upd_ne (ne_of z e fun h => nomatch h)]; exact z)
  · exact .inr ⟨c', by rw [upd_ne (ne_of z1 e fun h => nomatch h)]; exact z1, by rw [upd_ne (ne_of z2 e fun h => nomatch h)]; exact z2⟩
theorem TpAt.sameT {H H' : Hp} {P : Addr} {pos : Pos} {qual : Str} {a : Addr} {ys : List Row} (s : SameT P H H') (t : TbOk P pos qual H) (h : TpAt H a ys) : TpAt H' a ys := ⟨s.get t h.tp (fun _ z => nomatch z), fun y hy => (h.rows y hy).sameT s t⟩
theorem TpAt.over {H : Hp} {D a : Addr} {ys : List Row} {xs zs : List V} (h : TpAt H a ys) (e : H D = some (.lst xs)) : TpAt (upd H D (.lst zs)) a ys := ⟨by rw [upd_ne (ne_of h.tp e fun z => nomatch z)]; exact h.tp, fun y hy => (h.rows y hy).over e⟩
theorem IrsAt.sameT {H H' : Hp} {P : Addr} {pos : Pos} {qual : Str} {a : Addr} {xs : List Ir} (s : SameT P H H') (t : TbOk P pos qual H) (h : IrsAt H a xs) : IrsAt H' a xs := ⟨s.get t h.lst (fun _ z => nomatch z), fun y hy => s.get t (h.rows y hy) (fun _ z => nomatch z)⟩
theorem LsAt.sameT {H H' : Hp} {P : Addr} {pos : Pos} {qual : Str} {a : Addr} {ls : List Ls} (s : SameT P H H') (t : TbOk P pos qual H) (h : LsAt H a ls) : LsAt H' a ls := ⟨s.get t h.lst (fun _ z => nomatch z), fun l hl => (h.each l hl).sameT s t⟩
theorem KAt.over_ins {H : Hp} {k x C dx : Addr} {ts : List Tn} {fs gs : List (Str × V)} (h : KAt H k ts) (e : H x = some (.ins C dx fs)) : KAt (upd H x (.ins C dx gs)) k ts := by
  refine ⟨by rw [upd_ne (ne_of h.tp e fun z => nomatch z)]; exact h.tp, fun t ht => ⟨by rw [upd_ne (ne_of (h.each t ht).tp e fun z => nomatch z)]; exact (h.each t ht).tp, fun y hy => ⟨?_, ?_⟩⟩⟩
  · have a := ((h.each t ht).rows y hy).1
    rw [upd_ne (ne_of a e fun z => nomatch z)]; exact a
  · have a := ((h.each t ht).rows y hy).2
    rw [upd_ne (ne_of a e fun z => nomatch z)]; exact a
end TD
namespace TD
open PySem L2
theorem IrsAt.over {H : Hp} {D a : Addr} {xs : List Ir} {us zs : List V} (h : IrsAt H a xs) (e : H D = some (.lst us)) (n : a ≠ D) : IrsAt (upd H D (.lst zs)) a xs := ⟨by rw [upd_ne n]; exact h.lst, fun x hx => by have z := h.rows x hx; unfold IrAt at z ⊢; rw [upd_ne (ne_of z e fun w => nomatch w)]; exact z⟩
theorem LsAt.push {H : Hp} {D : Addr} {ls : List Ls} {l : Ls} (h : LsAt H D ls) (hl : IrsAt H l.a l.xs) (hn : ∀ x ∈ ls, x.a ≠ D) (n : l.a ≠ D) : LsAt (upd H D (.lst (lsrefs ls ++ [.ref l.a]))) D (ls ++ [l]) := by
  refine ⟨by rw [upd_same, lsrefs_snoc], fun x hx => ?_⟩
  rcases List.mem_append.mp hx with z | z
  · exact (h.each x z).over h.lst (hn x z)
  · rw [List.mem_singleton.mp z]; exact hl.over h.lst n
theorem at3 (n a b c : Int) (ha : 0 <= a /\ a <= 1000000000) (hb : 0 <= b /\ b <= 1000000000) (hc : 0 <= c /\ c <= 1000000000) : ∃ x : Int, atI [V.int a, V.int b, V.int c] (n % 3) = some (.int x) /\ 0 <= x /\ x <= 1000000000 := by
  have h1 := Int.emod_nonneg n (show (3 : Int) ≠ 0 by decide)
  have h2 := Int.emod_lt_of_pos n (show (0 : Int) < 3 by decide)
  rcases (by omega : n % 3 = 0 ∨ n % 3 = 1 ∨ n % 3 = 2) with e | e | e <;> rw [e]
  · exact ⟨a, atI_nat (j := 0) rfl, ha⟩
  · exact ⟨b, atI_nat (j := 1) rfl, hb⟩
  · exact ⟨c, atI_nat (j := 2) rfl, hc⟩
theorem at2 (n : Int) : ∃ x : Int, atI [V.int 3, V.int 1000] (n % 2) = some (.int x) /\ 0 < x /\ x <= 1000 := by
  have h1 := Int.emod_nonneg n (show (2 : Int) ≠ 0 by decide)
  have h2 := Int.emod_lt_of_pos n (show (0 : Int) < 2 by decide)
  rcases (by omega : n % 2 = 0 ∨ n % 2 = 1) with e | e <;> rw [e]
  · exact ⟨3, atI_nat (j := 0) rfl, by decide, by decide⟩
  · exact ⟨1000, atI_nat (j := 1) rfl, by decide, by decide⟩
end TD
namespace L2
open PySem
theorem for_revL {K : PySem.W.Frag} {a : Addr} {xs : List V} {g : TG} {tb : TS} {D : Ends} {σ : St} {H : Hp} (Pv : Nat -> St -> Hp -> Prop) (h0 : Pv 0 σ H) (hl : ∀ i σ H, i <= xs.length -> Pv i σ H -> SqL K H a xs)
    (hs : ∀ i x σ H, i < xs.length -> xs[xs.length - 1 - i]? = some x -> Pv i σ H -> g x σ H fun σ2 H2 => tb { D with nx := Pv (i + 1), ct := Pv (i + 1), bk := D.nx } σ2 H2) (hd : ∀ σ H, Pv xs.length σ H -> D.nx σ H) :
    ∃ W : Nat -> Nat -> St -> Hp -> Prop, (∃ m, W 0 m σ H) /\ ∀ i m σ H, W i m σ H ->
      ((ItR K a xs).stop i H /\ D.nx σ H) ∨ ((ItR K a xs).go i H /\ ∃ N : St -> Hp -> Prop, (∀ σ' H', N σ' H' -> ∃ m', m' < m /\ W (i + 1) m' σ' H') /\ ∀ x H', (ItR K a xs).yld i H x H' -> g x σ H' fun σ2 H2 => tb { D with nx := N, ct := N, bk := D.nx } σ2 H2) := by
  refine ⟨fun i m σ H => m = xs.length - i /\ i <= xs.length /\ Pv i σ H, ⟨xs.length, by simp, Nat.zero_le _, h0⟩, ?_⟩
  rintro i m σ H ⟨rfl, hi, p⟩
  have q := hl i σ H hi p
  by_cases hlt : i < xs.length
  · refine .inr ⟨⟨hlt, q⟩, Pv (i + 1), fun σ' H' p' => ⟨xs.length - (i + 1), by omega, rfl, hlt, p'⟩, fun x H' y => ?_⟩
    obtain ⟨e, y⟩ := y
    subst e
    exact hs i x σ _ hlt y p
  · have e : i = xs.length := by omega
    subst e
    exact .inl ⟨Nat.le_refl _, hd σ H p⟩
theorem atI_end (xs : List V) (v : V) : atI (xs ++ [v]) (-1) = some v := by
  have h : (xs ++ [v])[(xs ++ [v]).length - 1]? = some v := by simp
  have hl := (List.getElem?_eq_some_iff.mp h).1
  unfold atI ixN
  rw [if_neg (by decide), if_pos (by omega)]
  show (xs ++ [v])[((-1 : Int) + ((xs ++ [v]).length : Int)).toNat]? = some v
  rw [show ((-1 : Int) + ((xs ++ [v]).length : Int)).toNat = (xs ++ [v]).length - 1 by omega]
  exact h
end L2
namespace TD
open PySem L2
theorem onTop_snoc (T : Of.Tab) (r : Int × Int) (f : Rk.Fc) : Of.onTop (T ++ [r]) f = Of.onTop T f + r.2 * (if f.1 > r.1 * f.2 then f.1 else r.1 * f.2) := by
  unfold Of.onTop
  rw [List.map_append, List.sum_append]
  simp
theorem W_snoc (T : Of.Tab) (r : Int × Int) : Of.W (T ++ [r]) = Of.W T + r.2 := by
  unfold Of.W
  rw [List.map_append, List.sum_append]
  simp
theorem tab_snoc (xs : List Ir) (x : Ir) : tab (xs ++ [x]) = tab xs ++ [(x.v, x.w)] := by unfold tab; rw [List.map_append]; rfl
theorem rrefs_rev (rs : List Rs) : rrefs rs.reverse = (rrefs rs).reverse := by unfold rrefs; rw [List.map_reverse]
theorem vals_rev (rs : List Rs) : vals rs.reverse = (vals rs).reverse := by unfold vals; rw [List.map_reverse]
theorem RlAt.push {H : Hp} {D : Addr} {rs : List Rl} {r : Rl} (h : RlAt H D rs) (hr : H r.a = some (.lst (r.bs.map V.bl))) (hn : ∀ x ∈ rs, x.a ≠ D) (n : r.a ≠ D) : RlAt (upd H D (.lst (rlrefs rs ++ [.ref r.a]))) D (rs ++ [r]) := by
  refine ⟨by rw [upd_same, rlrefs_snoc], fun x hx => ?_⟩
  rcases List.mem_append.mp hx with z | z
  · rw [upd_ne (hn x z)]; exact h.each x z
  · rw [List.mem_singleton.mp z, upd_ne n]; exact hr
def selI (f : Ir -> Int) (p : Bool -> Bool) (xs : List Ir) (bs : List Bool) : List Int := ((xs.zip bs).filter fun x => p x.2).map fun x => f x.1
theorem selI_snoc {f : Ir -> Int} {p : Bool -> Bool} {xs : List Ir} {bs : List Bool} {i : Nat} {y : Ir} {b : Bool} (h1 : xs[i]? = some y) (h2 : bs[i]? = some b) : selI f p (xs.take (i + 1)) (bs.take (i + 1)) = if p b = true then selI f p (xs.take i) (bs.take i) ++ [f y] else selI f p (xs.take i) (bs.take i) := by
  unfold selI
  have l1 := (List.getElem?_eq_some_iff.mp h1).1
  have l2 := (List.getElem?_eq_some_iff.mp h2).1
  have e : (xs.take i).length = (bs.take i).length := by rw [List.length_take, List.length_take]; omega
  rw [take_snoc h1, take_snoc h2, List.zip_append e, List.filter_append, List.map_append]
  by_cases c : p b = true
  · simp [c]
  · simp [c]
theorem selI_len (f : Ir -> Int) (p : Bool -> Bool) (xs : List Ir) (bs : List Bool) : (selI f p xs bs).length <= xs.length := by
  unfold selI
  rw [List.length_map]
  have a := List.length_filter_le (fun x : Ir × Bool => p x.2) (xs.zip bs)
  rw [List.length_zip] at a
  omega
theorem selI_tab (F : Int × Int -> Int) (p : Bool -> Bool) : ∀ (xs : List Ir) (bs : List Bool), selI (fun x => F (x.v, x.w)) p xs bs = (((tab xs).zip bs).filter fun x => p x.2).map fun x => F x.1
  | [], _ => rfl
  | _ :: _, [] => rfl
  | x :: xs, b :: bs => by
    have ih := selI_tab F p xs bs
    unfold selI tab at ih ⊢
    by_cases c : p b = true
    · simp only [List.zip_cons_cons, List.map_cons, List.filter_cons, c, if_true]
      rw [ih]
    · simp only [List.zip_cons_cons, List.map_cons, List.filter_cons, c]
      simpa using ih
theorem had_sel (xs : List Ir) (bs : List Bool) : (selI (fun x => x.v * x.w) id xs bs).sum = Of.had (tab xs) bs := by
  rw [selI_tab (fun r => r.1 * r.2) id xs bs]
  rfl
theorem no_sel (xs : List Ir) (bs : List Bool) : (selI (fun x => x.w) not xs bs).sum = Of.wNo (tab xs) bs := by
  rw [selI_tab (fun r => r.2) not xs bs]
  rfl
theorem w_sum (xs : List Ir) : (xs.map Ir.w).sum = Of.W (tab xs) := by unfold Of.W tab; rw [List.map_map]; rfl
end TD
namespace TD
open PySem L2
def spLaw5 (K : PySem.W.Frag) (P : Addr) : Sp := fun vs H Q _ => ∃ (a : Addr) (ns : List Int), vs = [.ref a] /\ SqL K H a (ns.map V.int) /\ ns.length <= 63 /\ H P = some (.tbl #[]) /\ ∀ H', Q (.bl true) H'
theorem at_of_map {α β : Type} {f : α -> β} {xs ys : List α} (h : xs.map f = ys.map f) {i : Nat} {y : α} (hy : ys[i]? = some y) : ∃ x, xs[i]? = some x /\ f x = f y := by
  have e := congrArg (fun l => l[i]?) h
  simp only [List.getElem?_map] at e
  rw [hy] at e
  cases hx : xs[i]? with
  | none => rw [hx] at e; cases e
  | some x =>
    rw [hx] at e
    exact ⟨x, rfl, by injection e⟩
theorem tabs_ltabs {ls cs zs : List Ls} {ts : List Tn} (ec : cs.map Ls.xs = ls.map Ls.xs) (ko : KOut cs ts) (zl : zs.length = ls.length) (tz : ∀ (j : Nat) l z, ls[j]? = some l -> zs[j]? = some z -> Tb.IsTab (rw0 l.xs) (rw0 z.xs)) : tabs ts = ltabs zs := by
  have cl : cs.length = ls.length := by simpa using congrArg List.length ec
  have kl := ko.len
  refine List.ext_getElem? fun i => ?_
  unfold tabs ltabs
  rw [List.getElem?_map, List.getElem?_map]
  by_cases hi : i < ts.length
  · have e1 : ts[i]? = some ts[i] := List.getElem?_eq_getElem hi
    have e2 : zs[i]? = some (zs[i]'(by omega)) := List.getElem?_eq_getElem _
    have e3 : ls[i]? = some (ls[i]'(by omega)) := List.getElem?_eq_getElem _
    obtain ⟨c, hc, ex⟩ := at_of_map ec e3
    obtain ⟨o, _⟩ := ko.each i c _ hc e1
    rw [ex] at o
    rw [e1, e2]
    exact congrArg some (tabY_of (rws_of_tab o (tz i _ _ e3 e2)))
  · rw [List.getElem?_eq_none (by omega), List.getElem?_eq_none (by omega)]
    rfl
theorem gk_of {cs : List Ls} {ts : List Tn} (h8 : cs.length <= 8) (gs : ∀ c ∈ cs, GI c.xs) (ko : KOut cs ts) : GK ts := by
  have kl := ko.len
  refine ⟨by omega, fun t ht => ?_⟩
  obtain ⟨i, hi⟩ := List.getElem?_of_mem ht
  have hl := (List.getElem?_eq_some_iff.mp hi).1
  have e : cs[i]? = some (cs[i]'(by omega)) := List.getElem?_eq_getElem _
  obtain ⟨o, l⟩ := ko.each i _ t e hi
  exact gy_of (gs _ (List.mem_of_getElem? e)) o l
theorem gl_of {zs : List Ls} {ts : List Tn} (e : tabs ts = ltabs zs) (g : GK ts) : GL zs := by
  refine ⟨?_, fun z hz => ?_⟩
  · have h := congrArg List.length e
    unfold tabs ltabs at h
    rw [List.length_map, List.length_map] at h
    have := g.len
    omega
  · have h : tab z.xs ∈ ltabs zs := List.mem_map.mpr ⟨z, hz, rfl⟩
    rw [<- e] at h
    exact g.gt _ h
theorem rows_rows {cs ls : List Ls} (e : cs.map Ls.xs = ls.map Ls.xs) (gs : ∀ l ∈ ls, GI l.xs) : ∀ c ∈ cs, GI c.xs := fun c hc => by
  have h : c.xs ∈ ls.map Ls.xs := by rw [<- e]; exact List.mem_map.mpr ⟨c, hc, rfl⟩
  obtain ⟨l, hl, el⟩ := List.mem_map.mp h
  rw [<- el]
  exact gs l hl
theorem all_true (n : Nat) : (List.range n).all (fun _ => true) = true := by simp
theorem bls_eq {K : PySem.W.Frag} {H : Hp} {a b : Addr} {bs : List Bool} {n : Nat} (h1 : H a = some (.lst (bs.map V.bl))) (h2 : H b = some (.lst (bs.map V.bl))) : DE K H (n + 1) (.ref a) (.ref b) true := by
  have z := DE.lst (K := K) (H := H) (n := n) (fun _ => true) (SqL.of h1) (SqL.of h2) rfl fun j x y hx hy => by
    rw [hx] at hy
    cases hy
    rw [List.getElem?_map] at hx
    cases e : bs[j]? with
    | none => rw [e] at hx; cases hx
    | some c =>
      rw [e] at hx
      cases hx
      have := DE.bl (K := K) (H := H) n c c
      rw [beq_self_eq_true] at this
      exact this
  rw [all_true] at z
  exact z
theorem rl_eq {K : PySem.W.Frag} {H : Hp} {a b : Addr} {hs rs : List Rl} (h1 : RlAt H a hs) (h2 : RlAt H b rs) (e : hs.map Rl.bs = rs.map Rl.bs) : DE K H 2 (.ref a) (.ref b) true := by
  have el : hs.length = rs.length := by simpa using congrArg List.length e
  have z := DE.lst (K := K) (H := H) (n := 1) (fun _ => true) (SqL.of h1.lst) (SqL.of h2.lst) (by rw [rlrefs_length, rlrefs_length, el]) fun j x y hx hy => by
    obtain ⟨u, hu, rfl⟩ := rlrefs_at hx
    obtain ⟨v, hv, rfl⟩ := rlrefs_at hy
    obtain ⟨u', hu', eb⟩ := at_of_map e hv
    rw [hu] at hu'
    cases hu'
    have a1 := h1.each u (List.mem_of_getElem? hu)
    have a2 := h2.each v (List.mem_of_getElem? hv)
    rw [<- eb] at a2
    exact bls_eq a1 a2
  rw [all_true] at z
  exact z
theorem fc_eq {K : PySem.W.Frag} {H : Hp} {a b : Addr} {t u : Int} {n : Nat} (h1 : H a = some (.tup [.int t, .int u])) (h2 : H b = some (.tup [.int t, .int u])) : DE K H (n + 1) (.ref a) (.ref b) true := by
  have z := DE.tup (K := K) (H := H) (n := n) (fun _ => true) (SqT.of h1) (SqT.of h2) fun j x y hx hy => by
    rw [hx] at hy
    cases hy
    have : x = .int t ∨ x = .int u := by
      have m := List.mem_of_getElem? hx
      simpa using m
    rcases this with rfl | rfl
    · have := DE.int (K := K) (H := H) n t t
      rw [beq_self_eq_true] at this
      exact this
    · have := DE.int (K := K) (H := H) n u u
      rw [beq_self_eq_true] at this
      exact this
  rw [all_true] at z
  exact z
theorem map_take_snoc {α β : Type} {f : α -> β} {xs ys : List α} {x y : α} {i : Nat} (e : xs.map f = (ys.take i).map f) (h : ys[i]? = some y) (hf : f x = f y) : (xs ++ [x]).map f = (ys.take (i + 1)).map f := by
  rw [List.map_append, e, take_snoc h, List.map_append]
  show _ ++ [f x] = _ ++ [f y]
  rw [hf]
end TD
namespace L2
open PySem PySem.Spec PyProof.Rows
def enOb (a : Addr) : Obj := { cls := .type "enumerate", data := .fields #[.none, .bool false, .ref a, rawInt 0, .none, .none] }
def eC (tp : Bool) (h : Heap) (l : Addr) : Heap := (h.push (itOb tp l)).push (enOb h.objs.size)
theorem enum_made (tp : Bool) (l : Addr) (xs : Array Value) :
    Meets (Builtin.«enumerate.__new__» ⟨[.type "enumerate", .ref l], []⟩) (fun _ R s => SqIs tp s.heap l xs /\ R (.ok (.ret (.ref (s.heap.push (itOb tp l)).objs.size))) { s with heap := eC tp s.heap l }) :=
  .of_wp fun prog w A R s h => by
    obtain ⟨hp, g, d, tk, os⟩ := s
    obtain ⟨h1, h⟩ := h
    have hsub := sub_enumerate
    have k1 : SqIs tp (Shared.heap ⟨hp, g, d, tk, os⟩) l xs := h1
    wp_walk
    refine wpAny_stack_any fun st => wpAny_pure ?_
    split
    · rename_i c _ _ _ _ _
      cases (c == Value.type "enumerate") <;> (wp_walk using sq_iter k1; exact ⟨_, rfl, h⟩)
    · (wp_walk using sq_iter k1; exact ⟨_, rfl, h⟩)
section
variable {prog : Program} {w : World} {A : Around} {E : Value -> Shared -> Prop} {s : Shared} {tp : Bool} {l : Addr} {xs : Array Value}
theorem enum_call {Q : Value -> Shared -> Prop} (h1 : SqIs tp s.heap l xs)
    (k : ∀ h', IsEnum h' (s.heap.objs.size + 1) s.heap.objs.size 0 .none -> SqIt tp h' s.heap.objs.size l 0 -> (∀ c o, s.heap.get? c = some o -> h'.get? c = some o) -> Q (.ref (s.heap.objs.size + 1)) { s with heap := h' }) :
    wpAny (model prog w) A (call (.type "enumerate") [.ref l]) Q E s := by
  refine callType_new F.called_enumerate (by decide) (F.typeCall_enumerate_1 _) (F.newCall_enumerate_1 _) (fun obj => F.args_object_init_2 obj _) F.entry_enumerate_new (enum_made tp l xs) ⟨h1, ?_⟩
  have n1 : (s.heap.push (itOb tp l)).objs.size = s.heap.objs.size + 1 := Heap.size_push ..
  have e2 : (eC tp s.heap l).get? (s.heap.push (itOb tp l)).objs.size = some (enOb s.heap.objs.size) := Heap.get?_push_size _ rfl
  have e1 : (eC tp s.heap l).get? s.heap.objs.size = some (itOb tp l) := Heap.get?_push_of_some _ (Heap.get?_push_size _ rfl)
  rw [n1] at e2
  show _ /\ _
  rw [n1]
  exact ⟨⟨_, e2, rfl⟩, k _ e2 ⟨_, e1, rfl, rfl⟩ fun c o e => Heap.get?_push_of_some _ (Heap.get?_push_of_some _ e)⟩
end
theorem draws_sq {prog : Program} {w : World} {A : Around} {tp : Bool} (hh : A.handled = none) (it l : Addr) (hne : l ≠ it) (its : Array Value) :
    Draws prog w A it [it, l] its.size (fun i v => its[i]? = some v) (fun i h => SqIt tp h it l i /\ SqIs tp h l its) where
  live := fun _ _ st => by
    obtain ⟨⟨o, ho, _⟩, _⟩ := st
    exact ⟨o, ho⟩
  frame := fun _ _ _ st hk => ⟨st.1.keep fun o e => hk it List.mem_cons_self o e, st.2.keep fun o e => hk l (List.mem_cons_of_mem _ List.mem_cons_self) o e⟩
  item := fun i s Q E hi st hQ => sq_next st.1 st.2 (v := its[i]) (by simp [hi]) fun h' a b => hQ _ h' s.toks (by simp [hi]) ⟨a, st.2.keep fun o e => b.extBut _ _ hne e⟩ b
  done := fun s Q E st hE => sq_stop hh st.1 st.2 (by simp) hE
section
variable {X : Cx}
def ItEt (K : PySem.W.Frag) (a : Addr) : It :=
  ⟨fun i H => ∃ xs x, SqT K H a xs /\ xs[i]? = some x,
   fun i H v H' => ∃ x T, H T = none /\ v = .ref T /\ H' = upd H T (.tup [.int i, x]) /\ ∀ xs, SqT K H a xs -> xs[i]? = some x,
   fun i H => ∃ xs, SqT K H a xs /\ xs.length = i⟩
theorem turn_et {P : Program} {w : World} {K : PySem.W.Frag} {elts : List Expr} {kk : Nat} {tpos : Pos} {e it a : Addr} (n1 : e ≠ it) (n2 : a ≠ it) (n3 : e ≠ a) :
    Turn P w K (.Tuple elts kk tpos) (ItEt K a) [e, it] e (fun i h => ∃ old, IsEnum h e it i old /\ SqIt true h it a i) where
  mem := by simp
  obj := fun i h st c hc => by
    obtain ⟨old, he, ⟨o1, e1, c1, d1⟩⟩ := st
    simp only [List.mem_cons, List.not_mem_nil, or_false] at hc
    rcases hc with rfl | rfl
    · exact ⟨_, he, fun v z => nomatch z⟩
    · exact ⟨_, e1, fun v z => by rw [d1] at z; cases z⟩
  keep := fun i h h' st k => by
    obtain ⟨old, he, h1⟩ := st
    exact ⟨old, k e (by simp) _ he, h1.keep fun o e => k it (by simp) o e⟩
  item := by
    intro X hP hw hK hc i pins s σ H E I hf st hg
    subst hP hw hK
    obtain ⟨xs, x, ha, hx⟩ := hg
    obtain ⟨old, he, h1⟩ := st
    obtain ⟨its, rv, pl, _⟩ := I.sqk (tp := true) ha
    obtain ⟨u, hu, ru⟩ := rv.get hx
    have il : i < its.toArray.size := by
      have := (List.getElem?_eq_some_iff.mp hu).1
      simpa using this
    refine wpAny_pyNext_enum_itemD (draws_sq (tp := true) (by rw [show X.A.in1.handled = X.A.handled from rfl]; exact I.ok.hd hc) it a n2 its.toArray) he ⟨h1, pl⟩ il n1 (by simp [n1, n3]) fun y h' tk hy g1 g2 g3 g4 g5 => ?_
    have ey : y = u := by
      have hy : its.toArray[i]? = some y := hy
      rw [List.getElem?_toArray, hu] at hy
      cases hy
      rfl
    subst ey
    refine ⟨_, rfl, ?_⟩
    refine wpAny_letOwnedTupleGo_enum (s := { s with heap := h', toks := tk + 1 }) g1 fun h2 e2 k2 => ?_
    have lt : ∀ {c o}, s.heap.get? c = some o -> s.heap.objs.size ≠ c := fun q => Nat.ne_of_gt (Heap.lt_size q)
    have fr : H s.heap.objs.size = none := I.hok.fresh (Nat.le_refl _)
    have hT : h2.get? s.heap.objs.size = some { cls := .type "tuple", data := .seq #[.int i tk, y] } := k2.extBut _ _ (lt he) g3
    obtain ⟨o1, e1, r1⟩ := id h1
    refine ⟨.ref s.heap.objs.size, upd H s.heap.objs.size (.tup [.int i, x]), ?_, rfl, ⟨x, _, fr, rfl, rfl, fun zs h => by rw [I.sqk_inj (tp := true) h ha]; exact hx⟩, ⟨y, by simpa using e2, g2.1.keep fun o e => k2.extBut _ _ n1.symm e⟩, fun c hc => ?_⟩
    · refine I.turnedLaid (t' := tk + 1) (ch := [e, it]) hf (fun c o hc q => ?_) (Nat.le_refl _) ⟨Nat.le_of_lt (small1000 (show 2 <= 1000 by decide)), [.int i tk, y], .cons ⟨_, rfl⟩ (.cons ru .nil), _, hT, rfl, _, rfl⟩
      simp only [List.mem_cons, List.not_mem_nil, or_false, not_or] at hc
      exact k2.extBut _ _ hc.1 (g5 c o hc.1 hc.2 q)
    · have ne : c ≠ s.heap.objs.size := fun z => by
        simp only [List.mem_cons, List.not_mem_nil, or_false] at hc
        rcases hc with rfl | rfl
        · exact lt he z.symm
        · exact lt e1 z.symm
      rw [upd_ne ne]
      exact (hf c hc).1
  done := by
    intro X hP hw hK hc i pins s σ H E I hf st hg
    subst hP hw hK
    obtain ⟨xs, ha, hx⟩ := hg
    obtain ⟨old, he, h1⟩ := st
    obtain ⟨its, rv, pl, _⟩ := I.sqk (tp := true) ha
    have li : its.toArray.size = i := by
      have := rv.length
      rw [List.size_toArray]
      omega
    subst li
    refine wpAny_pyNext_enum_endD (draws_sq (tp := true) (by rw [show X.A.in1.handled = X.A.handled from rfl]; exact I.ok.hd hc) it a n2 its.toArray) he ⟨h1, pl⟩ fun h' g => ⟨rfl, I.turnedN (t' := s.toks) (ch := [e, it]) hf fun c o hc q => ?_⟩
    simp only [List.mem_cons, List.not_mem_nil, or_false, not_or] at hc
    exact g c o hc.2 q
  self := fun _ _ _ _ _ st h => by
    obtain ⟨old, he, _⟩ := st
    exact wpAny_pyIter_enum he h
def iEt (K : PySem.W.Frag) (ta : TA) : TI := fun σ H R => ta σ H fun vs H1 => ∃ a xs, vs = [.ref a] /\ SqT K H1 a xs /\ R (ItEt K a) H1
theorem pi_enumT {K : PySem.W.Frag} {a : Expr} {ta : TA} {p pos tpos : Pos} {elts : List Expr} {kk : Nat} (hK : X.K = K) (hg : Gl X "enumerate") (hm : X.mg "enumerate" = none) (ha : PA X [a] ta) (hs : starEach [a] X.env = [(false, eval a X.env)] := by rfl) : PI X (.Tuple elts kk tpos) (.Call (.Name "enumerate" p) [a] [] pos) (iEt K ta) := by
  subst hK
  intro pins s σ H R I h
  refine Call_ (ld_blt I hg hm bt_enumerate (PyProof.Rows.callWith_type1 (thn (ha pos pins s σ H _ I h) fun us s1 ⟨vs, H1, I1, r1, q1⟩ => ?_) hs rfl))
  obtain ⟨b, xs, e, hS, q⟩ := q1
  subst e
  obtain ⟨u, rfl, ru⟩ := vals1 r1
  cases (show u = Value.ref b from ru)
  obtain ⟨its, rv, pl, _⟩ := I1.sqk (tp := true) hS
  have lb : b < s1.heap.objs.size := pl.lt
  refine enum_call pl fun h' g1 g2 g4 => ?_
  refine wpAny_pyIter_enum g1 ?_
  refine ⟨s1.heap.objs.size + 1, [s1.heap.objs.size + 1, s1.heap.objs.size], _, _, H1, rfl, I1.kept (t' := s1.toks) g4, turn_et (by show (_ : Nat) ≠ _; omega) (by show (_ : Nat) ≠ _; exact Nat.ne_of_lt lb) (by show (_ : Nat) ≠ _; exact Nat.ne_of_gt (Nat.lt_succ_of_lt lb)), ⟨_, g1, g2⟩, fun c hc => ?_, q⟩
  have le : s1.heap.objs.size <= c := by
    simp only [List.mem_cons, List.not_mem_nil, or_false] at hc
    rcases hc with rfl | rfl <;> first | exact Nat.le_add_right _ _ | exact Nat.le_refl _
  exact I1.fpOk le (I1.hok.fresh le)
theorem for_enumT {K : PySem.W.Frag} {a : Addr} {xs : List V} {g : TG} {tb : TS} {D : Ends} {σ : St} {H : Hp} (Pv : Nat -> St -> Hp -> Prop) (h0 : Pv 0 σ H) (hl : ∀ i σ H, i <= xs.length -> Pv i σ H -> SqT K H a xs)
    (hs : ∀ i x T σ H, xs[i]? = some x -> H T = none -> Pv i σ H -> g (.ref T) σ (upd H T (.tup [.int (i : Int), x])) fun σ2 H2 => tb { D with nx := Pv (i + 1), ct := Pv (i + 1), bk := D.nx } σ2 H2) (hd : ∀ σ H, Pv xs.length σ H -> D.nx σ H) :
    ∃ W : Nat -> Nat -> St -> Hp -> Prop, (∃ m, W 0 m σ H) /\ ∀ i m σ H, W i m σ H ->
      ((ItEt K a).stop i H /\ D.nx σ H) ∨ ((ItEt K a).go i H /\ ∃ N : St -> Hp -> Prop, (∀ σ' H', N σ' H' -> ∃ m', m' < m /\ W (i + 1) m' σ' H') /\ ∀ x H', (ItEt K a).yld i H x H' -> g x σ H' fun σ2 H2 => tb { D with nx := N, ct := N, bk := D.nx } σ2 H2) := by
  refine ⟨fun i m σ H => m = xs.length - i /\ i <= xs.length /\ Pv i σ H, ⟨xs.length, by simp, Nat.zero_le _, h0⟩, ?_⟩
  rintro i m σ H ⟨rfl, hi, pv⟩
  have q1 := hl i σ H hi pv
  by_cases hlt : i < xs.length
  · refine .inr ⟨⟨xs, xs[i], q1, by simp [hlt]⟩, Pv (i + 1), fun σ' H' p' => ⟨xs.length - (i + 1), by omega, rfl, hlt, p'⟩, fun x H' y => ?_⟩
    obtain ⟨x, T, hT, rfl, rfl, e1⟩ := y
    exact hs i x T σ _ (e1 xs q1) hT pv
  · have e : i = xs.length := by omega
    subst e
    exact .inl ⟨⟨xs, q1, rfl⟩, hd σ H pv⟩
end
end L2
namespace TD
open PySem L2
open Builtin.Int (intBits)
structure Lo where
  q : Addr
  a : Addr
  b : Addr
  r : Rk.Fc
  l : Rk.Fc
def lorefs (us : List Lo) : List V := us.map fun u => V.ref u.q
structure LoRow (H : Hp) (u : Lo) : Prop where
  q : H u.q = some (.tup [.ref u.a, .ref u.b])
  r : FcAt H u.a u.r
  l : FcAt H u.b u.l
structure LoAt (H : Hp) (a : Addr) (us : List Lo) : Prop where
  lst : H a = some (.lst (lorefs us))
  rows : ∀ u ∈ us, LoRow H u
theorem LoRow.same {H H' : Hp} {u : Lo} (s : Same H H') (h : LoRow H u) : LoRow H' u := ⟨s _ _ h.q, s _ _ h.r, s _ _ h.l⟩
theorem LoAt.same {H H' : Hp} {a : Addr} {us : List Lo} (s : Same H H') (h : LoAt H a us) : LoAt H' a us := ⟨s _ _ h.lst, fun u hu => (h.rows u hu).same s⟩
theorem lorefs_length (us : List Lo) : (lorefs us).length = us.length := List.length_map _
theorem lorefs_snoc (us : List Lo) (u : Lo) : lorefs (us ++ [u]) = lorefs us ++ [V.ref u.q] := by unfold lorefs; rw [List.map_append]; rfl
theorem lorefs_at {us : List Lo} {i : Nat} {v : V} (h : (lorefs us)[i]? = some v) : ∃ u, us[i]? = some u /\ v = .ref u.q := by
  unfold lorefs at h
  rw [List.getElem?_map] at h
  cases e : us[i]? with
  | none => rw [e] at h; cases h
  | some x => rw [e] at h; cases h; exact ⟨x, rfl, rfl⟩
theorem LoRow.over {H : Hp} {D : Addr} {u : Lo} {xs zs : List V} (h : LoRow H u) (e : H D = some (.lst xs)) : LoRow (upd H D (.lst zs)) u := by
  refine ⟨?_, ?_, ?_⟩
  · rw [upd_ne (ne_of h.q e fun z => nomatch z)]; exact h.q
  · have z := h.r
    unfold FcAt at z ⊢
    rw [upd_ne (ne_of z e fun z => nomatch z)]; exact z
  · have z := h.l
    unfold FcAt at z ⊢
    rw [upd_ne (ne_of z e fun z => nomatch z)]; exact z
theorem LoAt.push {H : Hp} {a : Addr} {us : List Lo} {u : Lo} (h : LoAt H a us) (hu : LoRow H u) : LoAt (upd H a (.lst (lorefs us ++ [.ref u.q]))) a (us ++ [u]) := by
  refine ⟨by rw [upd_same, lorefs_snoc], fun x hx => ?_⟩
  rcases List.mem_append.mp hx with z | z
  · exact (h.rows x z).over h.lst
  · rw [List.mem_singleton.mp z]; exact hu.over h.lst
structure LOut (Ts : List Of.Tab) (rs : List Rl) (us : List Lo) : Prop where
  len : us.length = Ts.length
  each : ∀ (i : Nat) u T R, us[i]? = some u -> (prs Ts rs)[i]? = some (T, R) -> u.r = (Of.mF ((prs Ts rs).take i)).r /\ u.l = Of.lossL T R (Rk.hd (Of.onF (Ts.drop (i + 1))))
theorem frs_get {fs : List Rs} {Ts : List Of.Tab} {j : Nat} (e : vals fs = Of.onF Ts) (h : j <= Ts.length) : ∃ r, fs[j]? = some r /\ (r.t, r.b) = Rk.hd (Of.onF (Ts.drop j)) := by
  have a := Of.onF_at Ts j h
  rw [<- e] at a
  unfold vals at a
  rw [List.getElem?_map] at a
  cases z : fs[j]? with
  | none => rw [z] at a; cases a
  | some r =>
    rw [z] at a
    exact ⟨r, rfl, by injection a⟩
theorem rrefs_get {fs : List Rs} {j : Nat} {r : Rs} (h : fs[j]? = some r) : (rrefs fs)[j]? = some (.ref r.q) := by unfold rrefs; rw [List.getElem?_map, h]; rfl
theorem rlrefs_get {rs : List Rl} {j : Nat} {r : Rl} (h : rs[j]? = some r) : (rlrefs rs)[j]? = some (.ref r.a) := by unfold rlrefs; rw [List.getElem?_map, h]; rfl
theorem lsrefs_get {ls : List Ls} {j : Nat} {l : Ls} (h : ls[j]? = some l) : (lsrefs ls)[j]? = some (.ref l.a) := by unfold lsrefs; rw [List.getElem?_map, h]; rfl
theorem atS {xs : List V} {i : Nat} {v : V} (h : xs[i + 1]? = some v) : atI xs ((i : Int) + 1) = some v := by
  have e : ((i : Int) + 1) = ((i + 1 : Nat) : Int) := by omega
  rw [e]
  exact atI_nat h
def spML : Sp := fun vs H Q _ => ∃ (a b c : Addr) (ys : List Row) (bs : List Bool) (f : Rk.Fc), vs = [.ref a, .ref b, .ref c] /\ TpAt H a ys /\ H b = some (.lst (bs.map V.bl)) /\ FcAt H c f /\ GY ys /\ ys.length = bs.length /\ Lg.Fb f 200 200 /\ ∀ p H', Same H H' -> FcAt H' p (Of.lossL (tabY ys) bs f) -> Q (.ref p) H'
def spRLo (C : Addr) : Sp := fun vs H Q _ => ∃ (x a : Addr) (ts : List Tn) (rs : List Rl), vs = [.ref x, .ref a] /\ OAt C H x ts /\ RlAt H a rs /\ GK ts /\ RT rs (tabs ts) /\ ∀ (r : Addr) (H' : Hp) (us : List Lo), Same H H' -> LoAt H' r us -> LOut (tabs ts) rs us -> Q (.ref r) H'
def Best (Ts : List Of.Tab) (rs : List Rl) : Prop := ∀ (i : Nat) r T, rs[i]? = some r -> Ts[i]? = some T -> r.bs = Of.best T (Rk.hd (Of.onF (Ts.drop (i + 1))))
def spLRu6 (K : PySem.W.Frag) : Sp := fun vs H Q _ => ∃ (s a o : Addr) (ns : List Int) (ls : List Ls) (fs : List Rs), vs = [.ref s, .ref a, .ref o] /\ SqL K H s (ns.map V.int) /\ LsAt H a ls /\ FrsAt H o fs /\ GL ls /\ vals fs = Of.onF (ltabs ls) /\ ∀ (r : Addr) (H' : Hp) (rs : List Rl), Same H H' -> RlAt H' r rs -> RT rs (ltabs ls) -> (cellF ns 61 % 3 = 1 -> Best (ltabs ls) rs) -> Q (.ref r) H'
def spLo6 : Sp := fun vs H Q _ => ∃ (a b c : Addr) (xs : List Ir) (bs : List Bool) (f : Rk.Fc), vs = [.ref a, .ref b, .ref c] /\ IrsAt H a xs /\ H b = some (.lst (bs.map V.bl)) /\ FcAt H c f /\ Of.GT (tab xs) /\ xs.length = bs.length /\ Lg.Fb f 200 200 /\ ∀ p H', Same H H' -> FcAt H' p (Of.lossL (tab xs) bs f) -> Q (.ref p) H'
def spWk : Sp := fun vs H Q _ => ∃ (a b t o : Addr) (ls : List Ls) (rs : List Rl) (us : List Lo) (fs : List Rs), vs = [.ref a, .ref b, .ref t, .ref o] /\ LsAt H a ls /\ RlAt H b rs /\ LoAt H t us /\ FrsAt H o fs /\ GL ls /\ RT rs (ltabs ls) /\ LOut (ltabs ls) rs us /\ vals fs = Of.onF (ltabs ls) /\ ∀ p H', Same H H' -> FcAt H' p (Rk.hd (Of.onF (ltabs ls))) -> Q (.ref p) H'
theorem ltab_at {ls : List Ls} {i : Nat} {l : Ls} (h : ls[i]? = some l) : (ltabs ls)[i]? = some (tab l.xs) := by unfold ltabs; rw [List.getElem?_map, h]; rfl
theorem GL.gt {ls : List Ls} (g : GL ls) : ∀ T ∈ ltabs ls, Of.GT T := fun T hT => by
  obtain ⟨t, ht, rfl⟩ := List.mem_map.mp hT
  exact g.each t ht
theorem ltabs_length (ls : List Ls) : (ltabs ls).length = ls.length := List.length_map _
theorem tabs_length (ts : List Tn) : (tabs ts).length = ts.length := List.length_map _
end TD
namespace K76
open PySem L2 TD
def top (i : Nat) : Stmt := PySem.Challenge.pw_lidprice_k76_whole_any_rule_and_its_loss.main.body.getD i (.Pass ⟨0, 0, 0, 0⟩)
def lamP : Pos := ⟨57, 30, 57, 72⟩
theorem sc_is_whole : FnScope ["thing", "least", "most"] ["thing", "least", "most"] (defScope (top 7)) := ⟨rfl, rfl, rfl, by decide +kernel, rfl, by decide +kernel, by decide +kernel⟩
theorem sc_common_divisor : FnScope ["one", "other", "rest"] ["one", "other"] (defScope (top 8)) := ⟨rfl, rfl, rfl, by decide +kernel, rfl, by decide +kernel, by decide +kernel⟩
theorem sc_common_multiple : FnScope ["numbers", "multiple", "number"] ["numbers"] (defScope (top 9)) := ⟨rfl, rfl, rfl, by decide +kernel, rfl, by decide +kernel, by decide +kernel⟩
theorem sc_share : FnScope ["top", "bottom", "divisor"] ["top", "bottom"] (defScope (top 10)) := ⟨rfl, rfl, rfl, by decide +kernel, rfl, by decide +kernel, by decide +kernel⟩
theorem sc_whole : FnScope ["number"] ["number"] (defScope (top 11)) := ⟨rfl, rfl, rfl, by decide +kernel, rfl, by decide +kernel, by decide +kernel⟩
theorem sc_minus : FnScope ["one", "other"] ["one", "other"] (defScope (top 12)) := ⟨rfl, rfl, rfl, by decide +kernel, rfl, by decide +kernel, by decide +kernel⟩
theorem sc_times : FnScope ["one", "other"] ["one", "other"] (defScope (top 13)) := ⟨rfl, rfl, rfl, by decide +kernel, rfl, by decide +kernel, by decide +kernel⟩
theorem sc_below : FnScope ["one", "other"] ["one", "other"] (defScope (top 14)) := ⟨rfl, rfl, rfl, by decide +kernel, rfl, by decide +kernel, by decide +kernel⟩
theorem sc_greater : FnScope ["one", "other"] ["one", "other"] (defScope (top 15)) := ⟨rfl, rfl, rfl, by decide +kernel, rfl, by decide +kernel, by decide +kernel⟩
theorem sc_is_row : FnScope ["row"] ["row"] (defScope (top 20)) := ⟨rfl, rfl, rfl, by decide +kernel, rfl, by decide +kernel, by decide +kernel⟩
theorem sc_is_rows : FnScope ["rows"] ["rows"] (defScope (top 21)) := ⟨rfl, rfl, rfl, by decide +kernel, rfl, by decide +kernel, by decide +kernel⟩
theorem sc_rising : FnScope ["worths", "most", "scale"] ["worths"] (defScope (top 22)) := ⟨rfl, rfl, rfl, by decide +kernel, rfl, by decide +kernel, by decide +kernel⟩
theorem sc_in_form : FnScope ["rows", "weights", "worth", "weight", "divisor"] ["rows"] (defScope (top 23)) := ⟨rfl, rfl, rfl, by decide +kernel, rfl, by decide +kernel, by decide +kernel⟩
theorem sc_table_of : FnScope ["rows"] ["rows"] (defScope (top 24)) := ⟨rfl, rfl, rfl, by decide +kernel, rfl, by decide +kernel, by decide +kernel⟩
theorem sc_all_weights : FnScope ["table"] ["table"] (defScope (top 25)) := ⟨rfl, rfl, rfl, by decide +kernel, rfl, by decide +kernel, by decide +kernel⟩
theorem sc_by_weights : FnScope ["rows", "weights", "bottom", "top"] ["rows", "weights"] (defScope (top 26)) := ⟨rfl, rfl, rfl, by decide +kernel, rfl, by decide +kernel, by decide +kernel⟩
theorem sc_is_lists : FnScope ["lists"] ["lists"] (defScope (top 29)) := ⟨rfl, rfl, rfl, by decide +kernel, rfl, by decide +kernel, by decide +kernel⟩
theorem sc_is_truths : FnScope ["truths", "many"] ["truths", "many"] (defScope (top 30)) := ⟨rfl, rfl, rfl, by decide +kernel, rfl, by decide +kernel, by decide +kernel⟩
theorem sc_is_rule : FnScope ["rule", "tables"] ["rule", "tables"] (defScope (top 31)) := ⟨rfl, rfl, rfl, by decide +kernel, rfl, by decide +kernel, by decide +kernel⟩
theorem sc_share_of_some : FnScope ["table", "truths", "taken"] ["table", "truths"] (defScope (top 32)) := ⟨rfl, rfl, rfl, by decide +kernel, rfl, by decide +kernel, by decide +kernel⟩
theorem sc_moment_loss : FnScope ["table", "truths", "worth_on", "weights", "most", "own"] ["table", "truths", "worth_on"] (defScope (top 33)) := ⟨rfl, rfl, rfl, by decide +kernel, rfl, by decide +kernel, by decide +kernel⟩
theorem sc__law_cell : FnScope ["_law_script", "_law_k"] ["_law_script", "_law_k"] (defScope (top 36)) := ⟨rfl, rfl, rfl, by decide +kernel, rfl, by decide +kernel, by decide +kernel⟩
theorem sc__law_mix : FnScope ["_law_cell_here", "_law_k", "_law_number"] ["_law_cell_here", "_law_k"] (defScope (top 37)) := ⟨rfl, rfl, rfl, by decide +kernel, rfl, by decide +kernel, by decide +kernel⟩
theorem sc__law_common : FnScope ["_law_one", "_law_other", "_law_rest"] ["_law_one", "_law_other"] (defScope (top 38)) := ⟨rfl, rfl, rfl, by decide +kernel, rfl, by decide +kernel, by decide +kernel⟩
theorem sc__law_whole : FnScope ["_law_found"] ["_law_found"] (defScope (top 39)) := ⟨rfl, rfl, rfl, by decide +kernel, rfl, by decide +kernel, by decide +kernel⟩
theorem sc__law_lists : FnScope ["_law_script", "_law_most", "_law_wide", "_law_lists_here", "_law_k", "_law_cell_here", "_law_rows_here", "_law_j", "_law_number", "_law_value", "_law_weight"] ["_law_script", "_law_most", "_law_wide"] (defScope (top 40)) := ⟨rfl, rfl, rfl, by decide +kernel, rfl, by decide +kernel, by decide +kernel⟩
theorem sc__law_rows : FnScope ["_law_rows_here", "_law_sums", "_law_value", "_law_weight", "_law_by"] ["_law_rows_here"] (defScope (top 41)) := ⟨rfl, rfl, rfl, by decide +kernel, rfl, by decide +kernel, by decide +kernel⟩
theorem sc__law_lowest : FnScope ["_law_top", "_law_bottom", "_law_by"] ["_law_top", "_law_bottom"] (defScope (top 42)) := ⟨rfl, rfl, rfl, by decide +kernel, rfl, by decide +kernel, by decide +kernel⟩
theorem sc__law_added : FnScope ["_law_one", "_law_other"] ["_law_one", "_law_other"] (defScope (top 43)) := ⟨rfl, rfl, rfl, by decide +kernel, rfl, by decide +kernel, by decide +kernel⟩
theorem sc__law_same : FnScope ["_law_found", "_law_due"] ["_law_found", "_law_due"] (defScope (top 45)) := ⟨rfl, rfl, rfl, by decide +kernel, rfl, by decide +kernel, by decide +kernel⟩
theorem sc__law_on : FnScope ["_law_tables", "_law_found", "_law_table", "_law_on_here", "_law_top", "_law_total", "_law_value", "_law_weight"] ["_law_tables"] (defScope (top 46)) := ⟨rfl, rfl, rfl, by decide +kernel, rfl, by decide +kernel, by decide +kernel⟩
theorem sc__law_rule : FnScope ["_law_script", "_law_tables", "_law_on_here", "_law_rule_here", "_law_k", "_law_table", "_law_number", "_law_truths"] ["_law_script", "_law_tables", "_law_on_here"] (defScope (top 47)) := ⟨rfl, rfl, rfl, by decide +kernel, rfl, by decide +kernel, by decide +kernel⟩
theorem sc__law_loss : FnScope ["_law_table", "_law_truths", "_law_on_here", "_law_top", "_law_total", "_law_pair", "_law_yes", "_law_had"] ["_law_table", "_law_truths", "_law_on_here"] (defScope (top 48)) := ⟨rfl, rfl, rfl, by decide +kernel, rfl, by decide +kernel, by decide +kernel⟩
theorem sc__law_walked : FnScope ["_law_tables", "_law_rule_here", "_law_told", "_law_on_here", "_law_found", "_law_reached", "_law_k", "_law_row", "_law_table", "_law_truths", "_law_total", "_law_had", "_law_left"] ["_law_tables", "_law_rule_here", "_law_told", "_law_on_here"] (defScope (top 49)) := ⟨rfl, rfl, rfl, by decide +kernel, rfl, by decide +kernel, by decide +kernel⟩
theorem sc_law : FnScope ["_law_script", "_law_lists_here", "_law_tables", "_law_offers", "_law_on_here", "_law_rule_here", "_law_handed", "_law_told"] ["_law_script"] (defScope (top 50)) := ⟨rfl, rfl, rfl, by decide +kernel, rfl, by decide +kernel, by decide +kernel⟩
theorem sc_Offers___init__ : FnScope ["self", "lists"] ["self", "lists"] (defScope (inClass (top 34) 0)) := ⟨rfl, rfl, rfl, by decide +kernel, rfl, by decide +kernel, by decide +kernel⟩
theorem sc_Offers_worths_on : FnScope ["self", "found", "table", "rows"] ["self"] (defScope (inClass (top 34) 7)) := ⟨rfl, rfl, rfl, by decide +kernel, rfl, by decide +kernel, by decide +kernel⟩
theorem sc_Offers_need_rule : FnScope ["self", "rule"] ["self", "rule"] (defScope (inClass (top 34) 8)) := ⟨rfl, rfl, rfl, by decide +kernel, rfl, by decide +kernel, by decide +kernel⟩
theorem sc_Offers_rule_losses : FnScope ["self", "rule", "worths", "reached", "found", "offer", "table"] ["self", "rule"] (defScope (inClass (top 34) 10)) := ⟨rfl, rfl, rfl, by decide +kernel, rfl, by decide +kernel, by decide +kernel⟩
end K76
namespace K76
open PySem L2 TD
open Builtin.Int (intBits)
section
variable {P : Program} {w : World} {K : PySem.W.Frag} {mg : Str -> Option Value} {base : Heap} {Pt : Addr}
theorem ok_common_divisor {n : Nat} {f : Addr} {fd : FuncData} (F : Fun K "common_divisor" "common_divisor" (top 8) f fd) (z_abs : mg "abs" = none) : FnOk P w K mg base CX0 (n + 1) f fd ["one", "other"] spCd := by
  refine F.ok sc_common_divisor (fun vs H Q E h => ?_) (fun cdv A outer s H vs Q E hr h => ?_)
  · obtain ⟨a, b, rfl, _⟩ := h
    rfl
  obtain ⟨a, b, rfl, q⟩ := h
  have nd := sc_common_divisor.nd
  refine ⟨_, (pss_cons (ps_while PassesOwn.never (pt_cmpR op_ne (pv 1) pe_int (nomark _)) (pss_cons (ps_set (i := 2) nd rfl (Or.inl rfl) (pe_op op_modN (pv 0) (pv 1))) (pss_cons (ps_set (i := 0) nd rfl (Or.inl rfl) (pv 1)) (pss_one (ps_set (i := 1) nd rfl (Or.inl rfl) (pv 2)))))) (pss_one (ps_ret (pe_callB call_abs rfl z_abs bt_abs (pa_cons (pv 0) pa_nil))))), ?_⟩
  refine while_by (fun σ H' => ∃ x y r, σ = [some (.int x), some (.int y), r] /\ Int.gcd x y = Int.gcd a b /\ H' = H) (fun σ _ => match σ with | [_, some (.int y), _] => y.natAbs | _ => 0) ⟨a, b, none, rfl, rfl, rfl⟩ (fun σ H' ⟨x, y, r, e, hg, eH⟩ => ?_) (fun σ H Q Q' hQ ⟨v, e, hs, k, ek, q⟩ => ⟨v, e, hs, k, ek, hQ _ _ q⟩)
  subst e eH
  refine ⟨_, rfl, rfl, _, rfl, ?_⟩
  by_cases hy : y = 0
  · subst hy
    refine ifF (by simp) ?_
    refine ⟨_, rfl, _, rfl, ?_⟩
    have e : (if x < 0 then -x else x) = ((Int.gcd a b : Nat) : Int) := by
      rw [<- hg, Int.gcd_zero]
      split <;> omega
    rw [e]
    exact q
  · refine ifT (by simp [hy]) ?_
    refine ⟨_, rfl, _, rfl, x, y, rfl, rfl, hy, ?_⟩
    refine ⟨_, rfl, ?_⟩
    refine ⟨_, rfl, ?_⟩
    exact ⟨⟨y, x.fmod y, _, rfl, (Fr.gcd_turn x y).trans hg, rfl⟩, Fr.fmod_less hy⟩
theorem ok__law_common {n : Nat} {f : Addr} {fd : FuncData} (F : Fun K "_law_common" "_law_common" (top 38) f fd) (z_abs : mg "abs" = none) : FnOk P w K mg base CX0 (n + 1) f fd ["_law_one", "_law_other"] spCd := by
  refine F.ok sc__law_common (fun vs H Q E h => ?_) (fun cdv A outer s H vs Q E hr h => ?_)
  · obtain ⟨a, b, rfl, _⟩ := h
    rfl
  obtain ⟨a, b, rfl, q⟩ := h
  have nd := sc__law_common.nd
  refine ⟨_, (pss_cons (ps_set (i := 0) nd rfl (Or.inl rfl) (pe_callB call_abs rfl z_abs bt_abs (pa_cons (pv 0) pa_nil))) (pss_cons (ps_set (i := 1) nd rfl (Or.inl rfl) (pe_callB call_abs rfl z_abs bt_abs (pa_cons (pv 1) pa_nil))) (pss_cons (ps_while PassesOwn.never (pt_cmpR op_gt (pv 1) pe_int (nomark _)) (pss_cons (ps_set (i := 2) nd rfl (Or.inl rfl) (pe_op op_modN (pv 0) (pv 1))) (pss_cons (ps_set (i := 0) nd rfl (Or.inl rfl) (pv 1)) (pss_one (ps_set (i := 1) nd rfl (Or.inl rfl) (pv 2)))))) (pss_one (ps_ret (pv 0)))))), ?_⟩
  refine ⟨_, rfl, _, rfl, ?_⟩
  refine ⟨_, rfl, _, rfl, ?_⟩
  have h0 : Int.gcd (if a < 0 then -a else a) (if b < 0 then -b else b) = Int.gcd a b := (Fr.gcd_abs a b).symm
  have h1 : 0 <= (if a < 0 then -a else a) := by split <;> omega
  have h2 : 0 <= (if b < 0 then -b else b) := by split <;> omega
  refine while_by (fun σ H' => ∃ x y r, σ = [some (.int x), some (.int y), r] /\ Int.gcd x y = Int.gcd a b /\ 0 <= x /\ 0 <= y /\ H' = H) (fun σ _ => match σ with | [_, some (.int y), _] => y.natAbs | _ => 0) ⟨_, _, none, rfl, h0, h1, h2, rfl⟩ (fun σ H' ⟨x, y, r, e, hg, x0, y0, eH⟩ => ?_) (fun σ H Q Q' hQ ⟨v, e, i, j, e1, e2, k, ek, q⟩ => ⟨v, e, i, j, e1, e2, k, ek, hQ _ _ q⟩)
  subst e eH
  refine ⟨_, rfl, _, _, rfl, rfl, _, rfl, ?_⟩
  by_cases hy : 0 < y
  · refine ifT (decide_eq_true hy) ?_
    refine ⟨_, rfl, _, rfl, x, y, rfl, rfl, Int.ne_of_gt hy, ?_⟩
    refine ⟨_, rfl, ?_⟩
    refine ⟨_, rfl, ?_⟩
    exact ⟨⟨y, x.fmod y, _, rfl, (Fr.gcd_turn x y).trans hg, y0, Int.fmod_nonneg_of_pos x hy, rfl⟩, Fr.fmod_less (Int.ne_of_gt hy)⟩
  · refine ifF (decide_eq_false hy) ?_
    have e : y = 0 := by omega
    subst e
    refine ⟨_, rfl, ?_⟩
    have e : x = ((Int.gcd a b : Nat) : Int) := by
      rw [<- hg, Int.gcd_zero]
      omega
    rw [<- e] at q
    exact q
theorem ok_share {n : Nat} {f : Addr} {fd : FuncData} (F : Fun K "share" "share" (top 10) f fd) {g_common_divisor : Addr} {gd_common_divisor : FuncData} (c_common_divisor : Cal P w K mg base n "common_divisor" ["one", "other"] spCd g_common_divisor gd_common_divisor) : FnOk P w K mg base CX0 (n + 1) f fd ["top", "bottom"] spShare := by
  refine F.ok sc_share (fun vs H Q E h => ?_) (fun cdv A outer s H vs Q E hr h => ?_)
  · obtain ⟨t, b, rfl, _⟩ := h
    rfl
  obtain ⟨t, b, rfl, hb, hz, q⟩ := h
  have nd := sc_share.nd
  refine ⟨_, (pss_cons (ps_set (i := 2) nd rfl (Or.inl rfl) (pe_callC c_common_divisor hr (pa_cons (pv 0) (pa_cons (pv 1) pa_nil)))) (pss_cons (ps_if (pt_cmpR op_lt (pv 1) pe_int (nomark _)) (pss_one (ps_set (i := 2) nd rfl (Or.inl rfl) (pe_un un_neg (pv 2)))) pss_nil) (pss_one (ps_ret (pe_tup (pa_cons (pe_op op_fdivB (pv 0) (pv 2)) (pa_cons (pe_op op_fdivB (pv 1) (pv 2)) pa_nil))))))), ?_⟩
  have hdz : intBits (Fr.dv t b) <= 9000 := PySem.intBits_le_of_natAbs (by rw [Fr.dv_natAbs]; exact Int.gcd_le_natAbs_right t hb) hz
  have hdn := Fr.dv_ne (t := t) hb
  refine ⟨_, rfl, _, rfl, t, b, rfl, ?_⟩
  refine ⟨_, rfl, _, _, rfl, rfl, _, rfl, ?_⟩
  refine ite2 (fun c => ?_) (fun c => ?_)
  · have e : -((Int.gcd t b : Nat) : Int) = Fr.dv t b := by unfold Fr.dv; rw [if_pos (of_decide_eq_true c)]
    unfold Fr.sh at q
    rw [<- e] at q hdz hdn
    refine ⟨_, rfl, _, rfl, ?_⟩
    refine ⟨_, rfl, _, rfl, _, _, rfl, rfl, ⟨hdn, hdz⟩, _, rfl, _, rfl, _, _, rfl, rfl, ⟨hdn, hdz⟩, sz2, fun p hp => ?_⟩
    exact q p _ (same_new hp _) upd_same
  · have e : ((Int.gcd t b : Nat) : Int) = Fr.dv t b := by unfold Fr.dv; rw [if_neg (of_decide_eq_false (Bool.eq_false_iff.mpr c))]
    unfold Fr.sh at q
    rw [<- e] at q hdz hdn
    refine ⟨_, rfl, _, rfl, _, _, rfl, rfl, ⟨hdn, hdz⟩, _, rfl, _, rfl, _, _, rfl, rfl, ⟨hdn, hdz⟩, sz2, fun p hp => ?_⟩
    exact q p _ (same_new hp _) upd_same
theorem ok__law_lowest {n : Nat} {f : Addr} {fd : FuncData} (F : Fun K "_law_lowest" "_law_lowest" (top 42) f fd) {g__law_common : Addr} {gd__law_common : FuncData} (c__law_common : Cal P w K mg base n "_law_common" ["_law_one", "_law_other"] spCd g__law_common gd__law_common) : FnOk P w K mg base CX0 (n + 1) f fd ["_law_top", "_law_bottom"] spLow := by
  refine F.ok sc__law_lowest (fun vs H Q E h => ?_) (fun cdv A outer s H vs Q E hr h => ?_)
  · obtain ⟨t, b, rfl, _⟩ := h
    rfl
  obtain ⟨t, b, rfl, hb, hz, q⟩ := h
  have nd := sc__law_lowest.nd
  refine ⟨_, (pss_cons (ps_set (i := 2) nd rfl (Or.inl rfl) (pe_callC c__law_common hr (pa_cons (pv 0) (pa_cons (pv 1) pa_nil)))) (pss_one (ps_ret (pe_tup (pa_cons (pe_op op_fdivB (pv 0) (pv 2)) (pa_cons (pe_op op_fdivB (pv 1) (pv 2)) pa_nil)))))), ?_⟩
  have hb0 : b ≠ 0 := Int.ne_of_gt hb
  have hdz : intBits (Fr.dv t b) <= 9000 := PySem.intBits_le_of_natAbs (by rw [Fr.dv_natAbs]; exact Int.gcd_le_natAbs_right t hb0) hz
  have hdn := Fr.dv_ne (t := t) hb0
  refine ⟨_, rfl, _, rfl, t, b, rfl, ?_⟩
  have e : ((Int.gcd t b : Nat) : Int) = Fr.dv t b := by unfold Fr.dv; rw [if_neg (by omega)]
  unfold Fr.sh at q
  rw [<- e] at q hdz hdn
  refine ⟨_, rfl, _, rfl, _, _, rfl, rfl, ⟨hdn, hdz⟩, _, rfl, _, rfl, _, _, rfl, rfl, ⟨hdn, hdz⟩, sz2, fun p hp => ?_⟩
  exact q p _ (same_new hp _) upd_same
theorem ok_below {n : Nat} {f : Addr} {fd : FuncData} (F : Fun K "below" "below" (top 14) f fd) : FnOk P w K mg base CX0 (n + 1) f fd ["one", "other"] (spBelow K) := by
  refine F.ok sc_below (fun vs H Q E h => ?_) (fun cdv A outer s H vs Q E hr h => ?_)
  · obtain ⟨p, q, a, b, c, d, rfl, _⟩ := h
    rfl
  obtain ⟨p, q, a, b, c, d, rfl, hp, hq, z, k⟩ := h
  have nd := sc_below.nd
  refine ⟨_, (pss_one (ps_ret (pe_cmpR op_lt (pe_op op_mulB (pe_ix ix_tup (pv 0) pe_int (fun _ _ => rfl)) (pe_ix ix_tup (pv 1) pe_int (fun _ _ => rfl))) (pe_op op_mulB (pe_ix ix_tup (pv 1) pe_int (fun _ _ => rfl)) (pe_ix ix_tup (pv 0) pe_int (fun _ _ => rfl))) (nomark _)))), ?_⟩
  exact ⟨_, rfl, p, _, _, _, rfl, rfl, hp, rfl, _, rfl, q, _, _, _, rfl, rfl, hq, rfl, _, _, rfl, rfl, mulOk z.a z.d (by decide), _, rfl, q, _, _, _, rfl, rfl, hq, rfl, _, rfl, p, _, _, _, rfl, rfl, hp, rfl, _, _, rfl, rfl, mulOk z.c z.b (by decide), _, _, rfl, rfl, k⟩
theorem ok__law_cell {n : Nat} {f : Addr} {fd : FuncData} (F : Fun K "_law_cell" "_law_cell" (top 36) f fd) (z_len : mg "len" = none) : FnOk P w K mg base CX0 (n + 1) f fd ["_law_script", "_law_k"] (spCell K) := by
  refine F.ok sc__law_cell (fun vs H Q E h => ?_) (fun cdv A outer s H vs Q E hr h => ?_)
  · obtain ⟨a, ns, k, rfl, _⟩ := h
    rfl
  obtain ⟨a, ns, k, rfl, hS, h0, q⟩ := h
  have nd := sc__law_cell.nd
  refine ⟨_, (pss_cons (ps_if (pt_cmpR op_lt (pv 1) (pe_callB call_len_seq rfl z_len bt_len (pa_cons (pv 0) pa_nil)) (nomark _)) (pss_one (ps_ret (pe_ix ix_list (pv 0) (pv 1) (fun _ _ => rfl)))) pss_nil) (pss_one (ps_ret (pe_op op_add (pe_op op_mul pe_int (pv 1)) pe_int)))), ?_⟩
  have hl : (ns.map V.int).length = ns.length := List.length_map _
  refine ⟨_, rfl, _, rfl, a, _, rfl, .inl hS, _, _, rfl, rfl, _, rfl, ?_⟩
  refine ite2 (fun c => ?_) (fun c => ?_)
  · have c' : k < (((ns.map V.int).length : Nat) : Int) := of_decide_eq_true c
    rw [hl] at c'
    refine ⟨_, rfl, _, rfl, a, _, _, _, rfl, rfl, hS, atI_ints h0 c', ?_⟩
    unfold cellF at q
    rw [if_pos c'] at q
    exact q
  · have c' : ¬ k < (((ns.map V.int).length : Nat) : Int) := of_decide_eq_false (Bool.eq_false_iff.mpr c)
    rw [hl] at c'
    unfold cellF at q
    rw [if_neg c'] at q
    exact ⟨_, rfl, _, _, rfl, rfl, .inl ⟨by decide, by decide⟩, _, _, rfl, rfl, q⟩
theorem ok__law_whole {n : Nat} {f : Addr} {fd : FuncData} (F : Fun K "_law_whole" "_law_whole" (top 39) f fd) (z_isinstance : mg "isinstance" = none) (z_bool : mg "bool" = none) (z_int : mg "int" = none) : FnOk P w K mg base CX0 (n + 1) f fd ["_law_found"] spIsWhole := by
  refine F.ok sc__law_whole (fun vs H Q E h => ?_) (fun cdv A outer s H vs Q E hr h => ?_)
  · obtain ⟨i, rfl, _⟩ := h
    rfl
  obtain ⟨i, rfl, q⟩ := h
  have nd := sc__law_whole.nd
  refine ⟨_, (pss_one (ps_ret (pe_and (pe_callB (call_isinst (T := "int")) rfl z_isinstance bt_isinstance (pa_cons (pv 0) (pa_cons (pe_bltn (v := .ty "int") rfl z_int bt_int rfl) pa_nil))) (pe_one (pe_not (pe_callB (call_isinst (T := "bool")) rfl z_isinstance bt_isinstance (pa_cons (pv 0) (pa_cons (pe_bltn (v := .ty "bool") rfl z_bool bt_bool rfl) pa_nil)))))))), ?_⟩
  refine ⟨_, rfl, _, _, _, rfl, .int i, kit_same _, _, rfl, ?_⟩
  refine iteT ?_
  refine ⟨_, rfl, _, _, _, rfl, .int i, kit_int_bool, _, rfl, ?_⟩
  exact q
theorem ok__law_mix {n : Nat} {f : Addr} {fd : FuncData} (F : Fun K "_law_mix" "_law_mix" (top 37) f fd) : FnOk P w K mg base CX0 (n + 1) f fd ["_law_cell_here", "_law_k"] spMix := by
  refine F.ok sc__law_mix (fun vs H Q E h => ?_) (fun cdv A outer s H vs Q E hr h => ?_)
  · obtain ⟨c, i, rfl, _⟩ := h
    rfl
  obtain ⟨c, i, rfl, q⟩ := h
  have nd := sc__law_mix.nd
  refine ⟨_, (pss_cons (ps_set (i := 2) nd rfl (Or.inl rfl) (pe_op op_mod (pe_op op_add (pe_op op_add (pe_op op_mulB (pe_op op_mod (pv 0) pe_int) pe_int) (pe_op op_mul pe_int (pv 1))) pe_int) pe_int)) (pss_cons (ps_set (i := 2) nd rfl (Or.inl rfl) (pe_op op_mod (pe_op op_mulB (pv 2) (pv 2)) pe_int)) (pss_one (ps_ret (pe_op op_mod (pe_op op_mulB (pv 2) (pe_op op_add (pv 2) pe_int)) pe_int))))), ?_⟩
  have b1 : ∀ x : Int, 0 <= x -> x < 2147483648 -> intBits x <= 64 := fun x h1 h2 => PySem.intBits_le_64 (by omega) (by omega)
  have m1 := Int.emod_nonneg c (show (2147483647 : Int) ≠ 0 by decide)
  have m2 := Int.emod_lt_of_pos c (show (0 : Int) < 2147483647 by decide)
  refine ⟨_, rfl, _, _, rfl, rfl, (by show (0 : Int) < 2147483647; decide), _, _, rfl, rfl, mulOk (b1 _ m1 (by omega)) (b1 48271 (by decide) (by decide)) (by decide), _, rfl, _, _, rfl, rfl, .inl ⟨by decide, by decide⟩, _, _, rfl, rfl, _, _, rfl, rfl, _, _, rfl, rfl, (by show (0 : Int) < 2147483647; decide), ?_⟩
  have n1 := Int.emod_nonneg (c % 2147483647 * 48271 + 7919 * i + 1) (show (2147483647 : Int) ≠ 0 by decide)
  have n2 := Int.emod_lt_of_pos (c % 2147483647 * 48271 + 7919 * i + 1) (show (0 : Int) < 2147483647 by decide)
  have nb := b1 _ n1 (Int.lt_trans n2 (by decide))
  refine ⟨_, rfl, _, rfl, _, _, rfl, rfl, mulOk nb nb (by decide), _, _, rfl, rfl, (by show (0 : Int) < 2147483629; decide), ?_⟩
  have k1 := Int.emod_nonneg ((c % 2147483647 * 48271 + 7919 * i + 1) % 2147483647 * ((c % 2147483647 * 48271 + 7919 * i + 1) % 2147483647)) (show (2147483629 : Int) ≠ 0 by decide)
  have k2 := Int.emod_lt_of_pos ((c % 2147483647 * 48271 + 7919 * i + 1) % 2147483647 * ((c % 2147483647 * 48271 + 7919 * i + 1) % 2147483647)) (show (0 : Int) < 2147483629 by decide)
  have kb := b1 _ k1 (Int.lt_trans k2 (by decide))
  have kc := b1 _ (Int.add_nonneg k1 (show (0 : Int) <= 13 by decide)) (Int.lt_of_lt_of_le (Int.add_lt_add_right k2 13) (by decide))
  refine ⟨_, rfl, _, rfl, _, _, rfl, rfl, _, _, rfl, rfl, mulOk kb kc (by decide), _, _, rfl, rfl, (by show (0 : Int) < 2147483647; decide), ?_⟩
  exact q _ (Int.emod_nonneg _ (by decide)) (Int.emod_lt_of_pos _ (by decide))
theorem ok_common_multiple {n : Nat} {f : Addr} {fd : FuncData} (F : Fun K "common_multiple" "common_multiple" (top 9) f fd) {g_common_divisor : Addr} {gd_common_divisor : FuncData} (c_common_divisor : Cal P w K mg base n "common_divisor" ["one", "other"] spCd g_common_divisor gd_common_divisor) : FnOk P w K mg base CX0 (n + 1) f fd ["numbers"] (spCM K) := by
  refine F.ok sc_common_multiple (fun vs H Q E h => ?_) (fun cdv A outer s H vs Q E hr h => ?_)
  · obtain ⟨a, ns, rfl, _⟩ := h
    rfl
  obtain ⟨a, ns, rfl, hS, hp, hz, q⟩ := h
  have nd := sc_common_multiple.nd
  refine ⟨_, (pss_cons (ps_set (i := 1) nd rfl (Or.inl rfl) pe_int) (pss_cons (ps_for PassesOwn.never rfl (pi_list (pv 0)) (pg_name (i := 2) nd rfl (Or.inl rfl)) (pss_one (ps_set (i := 1) nd rfl (Or.inl rfl) (pe_op op_mulB (pv 1) (pe_op op_fdivB (pv 2) (pe_callC c_common_divisor hr (pa_cons (pv 1) (pa_cons (pv 2) pa_nil)))))))) (pss_one (ps_ret (pv 1))))), ?_⟩
  have hl : (ns.map V.int).length = ns.length := List.length_map _
  refine ⟨_, rfl, a, rfl, ⟨_, hS⟩, ?_⟩
  refine for_list (xs := ns.map V.int) (fun i σ H' => ∃ r, σ = [some (.ref a), some (.int (lcmL (ns.take i))), r] /\ H' = H) ⟨none, rfl, rfl⟩ (fun i σ H' _ ⟨r, _, e⟩ => by subst e; exact hS) ?turn ?done
  case turn =>
    rintro i x σ H' hx ⟨r, rfl, rfl⟩
    rw [List.getElem?_map] at hx
    cases e : ns[i]? with
    | none => rw [e] at hx; cases hx
    | some n =>
      rw [e] at hx
      cases hx
      have hm := List.mem_of_getElem? e
      have hn := hp n hm
      have nz := mem_sum_le hm
      have gz : intBits ((Int.gcd (lcmL (ns.take i)) n : Nat) : Int) <= 9000 := Nat.le_trans (PySem.intBits_le_of_natAbs (y := n) (by have := Int.gcd_le_natAbs_right (lcmL (ns.take i)) (Int.ne_of_gt hn); omega) (Nat.le_refl _)) (by omega)
      have gn : ((Int.gcd (lcmL (ns.take i)) n : Nat) : Int) ≠ 0 := by have := Int.gcd_pos_of_ne_zero_right (lcmL (ns.take i)) (Int.ne_of_gt hn); omega
      have lz := lcmL_bits (ns.take i)
      have lt := sum_take_le ns i
      refine ⟨_, rfl, _, rfl, _, rfl, _, rfl, _, _, rfl, _, _, rfl, rfl, ⟨gn, gz⟩, _, _, rfl, rfl, mulOk (m := 4201) (n := 4200) (by omega) (Nat.le_trans (PySem.intBits_fdiv_le (Nat.le_refl _)) (by omega)) (by decide), ?_⟩
      refine ⟨some (V.int n), ?_, rfl⟩
      rw [List.take_add_one, e]
      show _ = [some (V.ref a), some (V.int (lcmL (ns.take i ++ [n]))), some (V.int n)]
      rw [lcmL_snoc]
      rfl
  case done =>
    rintro σ H' ⟨r, rfl, rfl⟩
    refine ⟨_, rfl, ?_⟩
    rw [hl, List.take_length]
    exact q
theorem ok_whole {n : Nat} {f : Addr} {fd : FuncData} (F : Fun K "whole" "whole" (top 11) f fd) : FnOk P w K mg base CX0 (n + 1) f fd ["number"] spWh := by
  refine F.ok sc_whole (fun vs H Q E h => ?_) (fun cdv A outer s H vs Q E hr h => ?_)
  · obtain ⟨t, rfl, _⟩ := h
    rfl
  obtain ⟨t, rfl, q⟩ := h
  have nd := sc_whole.nd
  refine ⟨_, (pss_one (ps_ret (pe_tup (pa_cons (pv 0) (pa_cons pe_int pa_nil))))), ?_⟩
  refine ⟨_, rfl, sz2, fun p hp => ?_⟩
  exact q p _ (same_new hp _) upd_same
theorem ok_minus {n : Nat} {f : Addr} {fd : FuncData} (F : Fun K "minus" "minus" (top 12) f fd) {g_share : Addr} {gd_share : FuncData} (c_share : Cal P w K mg base n "share" ["top", "bottom"] spShare g_share gd_share) : FnOk P w K mg base CX0 (n + 1) f fd ["one", "other"] (spFr K mT pB) := by
  refine F.ok sc_minus (fun vs H Q E h => ?_) (fun cdv A outer s H vs Q E hr h => ?_)
  · obtain ⟨p, q, a, b, c, d, rfl, _⟩ := h
    rfl
  obtain ⟨p, q, a, b, c, d, rfl, hp, hq, z, hb, k⟩ := h
  have nd := sc_minus.nd
  refine ⟨_, (pss_one (ps_ret (pe_callC c_share hr (pa_cons (pe_op op_sub (pe_op op_mulB (pe_ix ix_tup (pv 0) pe_int (fun _ _ => rfl)) (pe_ix ix_tup (pv 1) pe_int (fun _ _ => rfl))) (pe_op op_mulB (pe_ix ix_tup (pv 1) pe_int (fun _ _ => rfl)) (pe_ix ix_tup (pv 0) pe_int (fun _ _ => rfl)))) (pa_cons (pe_op op_mulB (pe_ix ix_tup (pv 0) pe_int (fun _ _ => rfl)) (pe_ix ix_tup (pv 1) pe_int (fun _ _ => rfl))) pa_nil))))), ?_⟩
  refine ⟨_, rfl, p, _, _, _, rfl, rfl, hp, rfl, _, rfl, q, _, _, _, rfl, rfl, hq, rfl, _, _, rfl, rfl, mulOk z.a z.d (by decide), _, rfl, q, _, _, _, rfl, rfl, hq, rfl, _, rfl, p, _, _, _, rfl, rfl, hp, rfl, _, _, rfl, rfl, mulOk z.c z.b (by decide), _, _, rfl, rfl, _, rfl, p, _, _, _, rfl, rfl, hp, rfl, _, rfl, q, _, _, _, rfl, rfl, hq, rfl, _, _, rfl, rfl, mulOk z.b z.d (by decide), _, _, rfl, hb, Nat.le_trans (PySem.intBits_mul_le z.b z.d) (by decide), k⟩
theorem ok_times {n : Nat} {f : Addr} {fd : FuncData} (F : Fun K "times" "times" (top 13) f fd) {g_share : Addr} {gd_share : FuncData} (c_share : Cal P w K mg base n "share" ["top", "bottom"] spShare g_share gd_share) : FnOk P w K mg base CX0 (n + 1) f fd ["one", "other"] (spFr K tT pB) := by
  refine F.ok sc_times (fun vs H Q E h => ?_) (fun cdv A outer s H vs Q E hr h => ?_)
  · obtain ⟨p, q, a, b, c, d, rfl, _⟩ := h
    rfl
  obtain ⟨p, q, a, b, c, d, rfl, hp, hq, z, hb, k⟩ := h
  have nd := sc_times.nd
  refine ⟨_, (pss_one (ps_ret (pe_callC c_share hr (pa_cons (pe_op op_mulB (pe_ix ix_tup (pv 0) pe_int (fun _ _ => rfl)) (pe_ix ix_tup (pv 1) pe_int (fun _ _ => rfl))) (pa_cons (pe_op op_mulB (pe_ix ix_tup (pv 0) pe_int (fun _ _ => rfl)) (pe_ix ix_tup (pv 1) pe_int (fun _ _ => rfl))) pa_nil))))), ?_⟩
  refine ⟨_, rfl, p, _, _, _, rfl, rfl, hp, rfl, _, rfl, q, _, _, _, rfl, rfl, hq, rfl, _, _, rfl, rfl, mulOk z.a z.c (by decide), _, rfl, p, _, _, _, rfl, rfl, hp, rfl, _, rfl, q, _, _, _, rfl, rfl, hq, rfl, _, _, rfl, rfl, mulOk z.b z.d (by decide), _, _, rfl, hb, Nat.le_trans (PySem.intBits_mul_le z.b z.d) (by decide), k⟩
theorem ok_greater {n : Nat} {f : Addr} {fd : FuncData} (F : Fun K "greater" "greater" (top 15) f fd) {g_below : Addr} {gd_below : FuncData} (c_below : Cal P w K mg base n "below" ["one", "other"] (spBelow K) g_below gd_below) : FnOk P w K mg base CX0 (n + 1) f fd ["one", "other"] (spGr K) := by
  refine F.ok sc_greater (fun vs H Q E h => ?_) (fun cdv A outer s H vs Q E hr h => ?_)
  · obtain ⟨p, q, a, b, c, d, rfl, _⟩ := h
    rfl
  obtain ⟨p, q, a, b, c, d, rfl, hp, hq, z, k1, k2⟩ := h
  have nd := sc_greater.nd
  refine ⟨_, (pss_one (ps_ret (pe_ifExp (pt_val (pe_callC c_below hr (pa_cons (pv 0) (pa_cons (pv 1) pa_nil)))) (pv 1) (pv 0)))), ?_⟩
  refine ⟨_, rfl, _, rfl, p, q, a, b, c, d, rfl, hp, hq, z, _, rfl, ?_⟩
  exact ite2 (fun e => ⟨_, rfl, k1 (of_decide_eq_true e)⟩) (fun e => ⟨_, rfl, k2 (of_decide_eq_false (Bool.eq_false_iff.mpr e))⟩)
theorem ok_is_whole {n : Nat} {f : Addr} {fd : FuncData} (F : Fun K "is_whole" "is_whole" (top 7) f fd) (z_isinstance : mg "isinstance" = none) (z_bool : mg "bool" = none) (z_int : mg "int" = none) : FnOk P w K mg base CX0 (n + 1) f fd ["thing", "least", "most"] spIsW := by
  refine F.ok sc_is_whole (fun vs H Q E h => ?_) (fun cdv A outer s H vs Q E hr h => ?_)
  · obtain ⟨i, lo, hi, rfl, _⟩ := h
    rfl
  obtain ⟨i, lo, hi, rfl, h1, h2, q⟩ := h
  have nd := sc_is_whole.nd
  refine ⟨_, (pss_one (ps_ret (pe_and (pe_callB (call_isinst (T := "int")) rfl z_isinstance bt_isinstance (pa_cons (pv 0) (pa_cons (pe_bltn (v := .ty "int") rfl z_int bt_int rfl) pa_nil))) (pe_and (pe_not (pe_callB (call_isinst (T := "bool")) rfl z_isinstance bt_isinstance (pa_cons (pv 0) (pa_cons (pe_bltn (v := .ty "bool") rfl z_bool bt_bool rfl) pa_nil)))) (pe_one (pe_chain op_le op_le (pv 1) (pv 0) (pv 2))))))), ?_⟩
  refine ⟨_, rfl, _, _, _, rfl, .int i, kit_same _, _, rfl, ?_⟩
  refine iteT ?_
  refine ⟨_, rfl, _, _, _, rfl, .int i, kit_int_bool, _, rfl, ?_⟩
  refine ⟨_, rfl, ?_⟩
  refine iteT ?_
  refine ⟨_, rfl, _, rfl, _, _, rfl, rfl, _, rfl, ?_⟩
  refine ifT (decide_eq_true h1) ?_
  refine ⟨_, rfl, _, _, rfl, rfl, ?_⟩
  show Q (.bl (decide (i <= hi))) H
  rw [decide_eq_true h2]
  exact q
end
end K76
namespace K76
open PySem L2 TD
open Builtin.Int (intBits)
section
variable {P : Program} {w : World} {K : PySem.W.Frag} {mg : Str -> Option Value} {base : Heap} {Pt : Addr}
theorem ok_rising {n : Nat} {f c : Addr} {fd : FuncData} (F : Fun K "rising" "rising" (top 22) f fd) (hc : fd.code = .ref c) (hC : PySem.W.CodeHd base c Pt) (hB : base.BuiltinsAt mg Pt) (z_sorted : mg "sorted" = none) (z_max : mg "max" = none) : FnOk P w K mg base CX0 (n + 1) f fd ["worths"] (spRise K Pt lamP) := by
  refine F.okc hc sc_rising (fun vs H Q E h => ?_) (fun A outer s H vs Q E hr h => ?_)
  · obtain ⟨a, rs, rfl, _⟩ := h
    rfl
  obtain ⟨a, rs, rfl, hS, hne, h64, hrs, nd0, hT, q⟩ := h
  have nd := sc_rising.nd
  refine ⟨_, (pss_cons (ps_set (i := 1) nd rfl (Or.inl rfl) (pe_callB (call_maxL rfl) rfl z_max bt_max (pa_cons (pe_comp (ls := ["worth"]) (M := ["worths", "most", "scale"]) rfl (CompOk.of (by rfl)) (NL.of (by rfl)) (pi_list (pv 0)) (fun _ _ _ _ => ⟨(pg_name (i := 0) (nd_of (by rfl)) rfl (Or.inl rfl)), pts_nil, (pe_ix (ix_tupK (K := K) rfl) (pv 0) pe_int (fun _ _ => rfl))⟩)) pa_nil))) (pss_cons (ps_set (i := 2) nd rfl (Or.inr rfl) (pe_op op_mulB (pv 1) (pv 1))) (pss_one (ps_ret (pe_sortK (p := "worth") (M := ["worths", "most", "scale"]) hr rfl rfl z_sorted rfl hC hB (CompOk.of (by rfl)) (NL.of (by rfl)) rfl rfl rfl (pv 0) (fun _ _ _ _ _ => (pe_op op_fdivB (pe_op op_mulB (pe_ix (ix_tupK (K := K) rfl) (pv 0) pe_int (fun _ _ => rfl)) (pv 3)) (pe_ix (ix_tupK (K := K) rfl) (pv 0) pe_int (fun _ _ => rfl))))))))), ?_⟩
  have hlr := rrefs_length rs
  refine ⟨_, rfl, a, rfl, ⟨_, hS⟩, fun D hD => ?_⟩
  refine comp_list (xs := rrefs rs) (fun i τ H' => ∃ v0, τ = [v0, some (.ref a), none, none] /\ Same H H' /\ H' D = some (.lst ((rs.take i).map fun r => V.int r.b))) ⟨none, rfl, same_new hD _, upd_same⟩ ?keep ?turn ?done
  case keep =>
    rintro i τ H' hi ⟨v0, rfl, hs, _⟩
    exact hs.seq hS
  case turn =>
    rintro i m v τ H' hm hi hv ⟨v0, rfl, hs, hD'⟩
    obtain ⟨x, hx, rfl⟩ := rrefs_at hv
    have hr2 := hs _ _ (hrs x (List.mem_of_getElem? hx)).1
    unfold gName
    refine tyes_if ?_
    refine ⟨_, rfl, x.q, _, _, _, rfl, rfl, SqT.of hr2, rfl, ?_⟩
    refine comp_next hm hi hD' (by rw [List.length_map]; exact small1000 (Nat.le_trans (List.length_take_le _ _) (by omega))) ⟨_, rfl, hs.upd_new hD _, ?_⟩
    rw [upd_same, take_snoc hx, List.map_append]
    rfl
  case done =>
  rintro τ H1 ⟨v0, rfl, s1, hD1⟩
  rw [hlr, List.take_length] at hD1
  refine ⟨D, rs.map Rs.b, rfl, SqL.of (by rw [hD1, List.map_map]; rfl), fun e => hne (List.map_eq_nil_iff.mp e), fun mx hmx hmax => ?_⟩
  obtain ⟨r0, hr0, rfl⟩ := List.mem_map.mp hmx
  have z0 := (hrs r0 hr0).2.2.2
  refine ⟨_, rfl, _, rfl, _, _, rfl, rfl, mulOk z0 z0 (by decide), ?_⟩
  have zz : intBits (r0.b * r0.b) <= 600 := PySem.intBits_mul_le z0 z0
  refine ⟨_, rfl, a, rs.map Rs.q, rs.map (keyN r0.b), rfl, by rw [<- rrefs_q]; exact s1.seq hS, by rw [List.length_map, List.length_map], by rw [List.length_map]; exact h64, hT.same s1, fun H2 c' st hit => ⟨fun i qa kk eq ek => ?_, fun D2 ps hD2 hp hs => ?_⟩⟩
  · rw [List.getElem?_map] at eq ek
    cases er : rs[i]? with
    | none => rw [er] at eq; cases eq
    | some r =>
      rw [er] at eq ek
      cases eq
      cases ek
      obtain ⟨ra, rf, rt, rb⟩ := hrs r (List.mem_of_getElem? er)
      have ra2 : H2 r.q = some (.tup [.int r.t, .int r.b]) := st.get (hT.same s1) (s1 _ _ ra) fun _ z => nomatch z
      exact ⟨_, rfl, r.q, _, _, _, rfl, rfl, (SqT.of ra2), rfl, _, rfl, _, _, rfl, rfl, mulOk rt zz (by decide), _, rfl, r.q, _, _, _, rfl, rfl, (SqT.of ra2), rfl, _, _, rfl, rfl, ⟨Int.ne_of_gt rf.pos, Nat.le_trans rb (by decide)⟩, rfl, rfl⟩
  · obtain ⟨rs', pm, e, so⟩ := rise_of hp hs nd0 (fun r hr => (hrs r hr).2.1) (fun r hr => hmax _ (List.mem_map.mpr ⟨r, hr, rfl⟩))
    rw [e]
    have tb2 : TbOk Pt lamP lamQ H2 := .inr ⟨c', hit⟩
    exact q D2 _ rs' (((s1.toT).trans st).trans (Same.toT (same_new hD2 _))) (tb2.same (same_new hD2 _)) upd_same pm so
end
end K76
namespace K76
open PySem L2 TD
open Builtin.Int (intBits)
section
variable {P : Program} {w : World} {K : PySem.W.Frag} {mg : Str -> Option Value} {base : Heap} {Pt : Addr}
theorem rs_of {H : Hp} : ∀ {kvs : List (List Key × V)} {qs : List Addr}, qs.length = kvs.length -> (∀ kv ∈ kvs, ∃ t b : Int, kv.1 = [.inl t, .inl b]) -> (∀ (i : Nat) k v, kvs[i]? = some (k, v) -> ∃ q, qs[i]? = some q /\ H q = some (.tup (k.map kV))) ->
    ∃ rs : List Rs, rrefs rs = qs.map V.ref /\ rs.map keyR = kvs.map (·.1) /\ ∀ r ∈ rs, RsAt H r
  | [], [], _, _, _ => ⟨[], rfl, rfl, fun _ h => nomatch h⟩
  | [], _ :: _, h, _, _ => by simp at h
  | _ :: _, [], h, _, _ => by simp at h
  | kv :: kvs, q :: qs, hl, hk, hq => by
    obtain ⟨rs, e1, e2, e3⟩ := rs_of (kvs := kvs) (qs := qs) (by simpa using hl) (fun x hx => hk x (List.mem_cons_of_mem _ hx)) fun i k v e => by
      obtain ⟨z, z1, z2⟩ := hq (i + 1) k v (by simpa using e)
      exact ⟨z, by simpa using z1, z2⟩
    obtain ⟨t, b, ek⟩ := hk kv List.mem_cons_self
    obtain ⟨z, z1, z2⟩ := hq 0 kv.1 kv.2 rfl
    have z1 : q = z := by simpa using z1
    subst z1
    refine ⟨⟨q, t, b⟩ :: rs, ?_, ?_, fun r hr => ?_⟩
    · show V.ref q :: rrefs rs = V.ref q :: qs.map V.ref
      rw [e1]
    · show keyR ⟨q, t, b⟩ :: rs.map keyR = kv.1 :: kvs.map (·.1)
      rw [e2, ek]
      rfl
    · rcases List.mem_cons.mp hr with e | e
      · subst e
        rw [ek] at z2
        exact z2
      · exact e3 r e
theorem key_good {xs : List Row} {kvs : List (List Key × V)} (pb : PB xs) (d : Dk (rws xs) kvs) {r : Rs} (h : keyR r ∈ kvs.map (·.1)) : Tb.Has (rws xs) r.t r.b /\ Fr.IsFr r.t r.b /\ intBits r.t <= 300 /\ intBits r.b <= 300 := by
  obtain ⟨kv, hkv, e⟩ := List.mem_map.mp h
  obtain ⟨t, b, e2, hh⟩ := d.en kv hkv
  rw [e2] at e
  obtain ⟨e3, e4⟩ := keyR_eq.mp e.symm
  rw [e3, e4]
  refine ⟨hh, ?_⟩
  obtain ⟨p, hp, e5, e6⟩ := hh
  obtain ⟨x, hx, rfl⟩ := List.mem_map.mp hp
  have g := pb x hx
  have e5 : x.t = t := e5
  have e6 : x.b = b := e6
  rw [<- e5, <- e6]
  exact ⟨g.1, g.2.1, g.2.2.1⟩
theorem ok_in_form {n : Nat} {f : Addr} {fd : FuncData} (F : Fun K "in_form" "in_form" (top 23) f fd) {g_rising : Addr} {gd_rising : FuncData} (c_rising : Cal P w K mg base n "rising" ["worths"] (spRise K Pt lamP) g_rising gd_rising) {g_common_divisor : Addr} {gd_common_divisor : FuncData} (c_common_divisor : Cal P w K mg base n "common_divisor" ["one", "other"] spCd g_common_divisor gd_common_divisor) (z_list : mg "list" = none) : FnOk P w K mg base CX0 (n + 1) f fd ["rows"] (spForm Pt lamP) := by
  refine F.ok sc_in_form (fun vs H Q E h => ?_) (fun cdv A outer s H vs Q E hr h => ?_)
  · obtain ⟨a, xs, rfl, _⟩ := h
    rfl
  obtain ⟨a, xs, rfl, hT, xne, xlen, pb, hTb, q⟩ := h
  have nd := sc_in_form.nd
  have hu := hu_of hr
  refine ⟨_, (pss_cons (ps_set (i := 1) nd rfl (Or.inr rfl) pe_dnewT) (pss_cons (ps_for PassesOwn.never rfl (pi_list (pv 0)) (pg_tup rfl (pgs_cons (pg_name (i := 2) nd rfl (Or.inl rfl)) (pgs_cons (pg_name (i := 3) nd rfl (Or.inl rfl)) pgs_nil))) (pss_one (ps_dput hu (pv 1) (pv 2) (pe_op op_add (pe_dget2 hu (pv 1) (pv 2) pe_int ⟨rfl, rfl, rfl, rfl⟩) (pv 3)) rfl))) (pss_cons (ps_set (i := 4) nd rfl (Or.inr rfl) pe_int) (pss_cons (ps_for PassesOwn.never rfl (pi_keys (pv 1)) (pg_name (i := 2) nd rfl (Or.inl rfl)) (pss_one (ps_set (i := 4) nd rfl (Or.inr rfl) (pe_callC c_common_divisor hr (pa_cons (pv 4) (pa_cons (pe_dget hu (pv 1) (pv 2) (fun _ _ => rfl)) pa_nil)))))) (pss_one (ps_ret (pe_comp (ls := ["worth"]) (M := ["rows", "weights", "worth#", "weight", "divisor"]) rfl (CompOk.of (by rfl)) (NL.of (by rfl)) (pi_list (pe_callC c_rising hr (pa_cons (pe_callTy (call_listK rfl) rfl z_list bt_list (pa_cons (pv 1) pa_nil)) pa_nil))) (fun _ _ _ _ => ⟨(pg_name (i := 0) (nd_of (by rfl)) rfl (Or.inl rfl)), pts_nil, (pe_tup (pa_cons (pv 0) (pa_cons (pe_op op_fdivB (pe_dget hu (pv 2) (pv 0) (fun _ _ => rfl)) (pv 5)) pa_nil)))⟩)))))))), ?_⟩
  have hlr := refs_length xs
  intro Dd hDd
  have n0 := same_new hDd (.dT [])
  refine ⟨_, rfl, a, rfl, ⟨_, SqL.of (hT.same n0).lst⟩, ?_⟩
  refine for_list (xs := refs xs) (fun i σ H' => ∃ kvs v2 v3, σ = [some (.ref a), some (.ref Dd), v2, v3, none] /\ Same H H' /\ H' Dd = some (.dT kvs) /\ Dk (rws (xs.take i)) kvs /\ kvs.length <= i) ⟨[], none, none, rfl, n0, upd_same, Dk.nil, Nat.le_refl _⟩ ?keep ?turn ?done
  case keep =>
    rintro i σ H' hi ⟨kvs, v2, v3, rfl, hs, _⟩
    exact SqL.of (hT.same hs).lst
  case turn =>
    rintro i v σ H' hv ⟨kvs, v2, v3, rfl, hs, hd, dk, kl⟩
    obtain ⟨x, hx, rfl⟩ := refs_at hv
    have hmem := List.mem_of_getElem? hx
    have hi := (List.getElem?_eq_some_iff.mp hx).1
    have hr := (hT.same hs).rows x hmem
    have hq : H' x.q = some (.tup (([.inl x.t, .inl x.b] : List Key).map kV)) := hr.2
    refine ⟨x.p, _, rfl, SqT.of hr.1, rfl, _, _, rfl, _, _, rfl, rfl, ?_⟩
    refine ⟨_, rfl, Dd, rfl, .inr ⟨_, .inl hd⟩, _, rfl, _, DGet.t hd hq, _, rfl, Tb.Wt (rws (xs.take i)) x.t x.b, x.w, dk.get x.t x.b, rfl, ?_⟩
    refine ⟨_, rfl, _, rfl, Dd, _, rfl, DPut.t hd hq (small1000 (by omega)), ?_⟩
    refine ⟨_, _, _, rfl, hs.upd_new hDd _, upd_same, ?_, ?_⟩
    · rw [take_snoc hx, rws_snoc]
      exact dk.put x.r
    · have := length_putK kvs [.inl x.t, .inl x.b] (.int (Tb.Wt (rws (xs.take i)) x.t x.b + x.w))
      exact Nat.le_trans this (by omega)
  case done =>
  rintro σ H1 ⟨kvs, v2, v3, rfl, s1, hd1, dk, kl⟩
  rw [hlr, List.take_length] at dk
  rw [hlr] at kl
  obtain ⟨hw1, hf1⟩ := pb.ps
  have pne : rws xs ≠ [] := fun e => xne (List.map_eq_nil_iff.mp e)
  have plen : (rws xs).length <= 1000 := by rw [rws_length]; omega
  have dpos := dk.div_pos pne hw1
  have dbits := div_bits dk pne (fun p hp => by obtain ⟨x, hx, rfl⟩ := List.mem_map.mp hp; exact ⟨(pb x hx).2.2.2.1, (pb x hx).2.2.2.2⟩) plen
  refine ⟨_, rfl, Dd, kvs, rfl, .inl ⟨hd1, fun o => ?_⟩⟩
  have s2 : Same H (upd H1 Dd (.frz o (.dT kvs))) := s1.upd_new hDd _
  have hfz : upd H1 Dd (.frz o (.dT kvs)) Dd = some (.frz o (.dT kvs)) := upd_same
  generalize upd H1 Dd (.frz o (.dT kvs)) = H2 at s2 hfz ⊢
  refine for_keys (fun i σ H' => ∃ d v2, σ = [some (.ref a), some (.ref Dd), v2, v3, some (.int d)] /\ H' = H2 /\ d = Tb.gcdL ((kvs.take i).map wOf)) ⟨0, _, rfl, rfl, rfl⟩ (fun i σ H' _ ⟨_, _, _, e, _⟩ => by rw [e]; exact hfz) ?turn3 ?done3
  case turn3 =>
    rintro i k v kq σ H' hk hkt ⟨d, v2, rfl, rfl, ed⟩
    obtain ⟨t, b, ekv, hh⟩ := dk.en _ (List.mem_of_getElem? hk)
    injection ekv with ek1 ek2
    subst ek1 ek2
    refine ⟨_, rfl, _, rfl, _, rfl, Dd, .int (Tb.Wt (rws xs) t b), rfl, .inr ⟨kvs, [.inl t, .inl b], kq, .inr ⟨o, hfz⟩, rfl, hkt, (dk.val hh).symm⟩, d, Tb.Wt (rws xs) t b, rfl, ?_⟩
    refine ⟨_, _, rfl, rfl, ?_⟩
    rw [take_snoc hk, List.map_append, ed]
    exact (Tb.gcdL_snoc _ _).symm
  case done3 =>
  rintro σ H3 ⟨d, v2, rfl, rfl, ed⟩
  rw [List.take_length] at ed
  have ed : d = divOf kvs := ed
  subst ed
  have kb : ∀ kv ∈ kvs, ∃ t b : Int, kv.1 = [.inl t, .inl b] := fun kv hkv => by
    obtain ⟨t, b, e, _⟩ := dk.en kv hkv
    exact ⟨t, b, by rw [e]⟩
  refine ⟨_, rfl, Dd, kvs, rfl, .inr ⟨o, hfz⟩, fun l qs hl hql hqs => ?_⟩
  obtain ⟨rs0, er1, er2, er3⟩ := rs_of hql kb hqs
  have n3 := same_new hl (.lst (qs.map V.ref))
  have s3 := s2.trans n3
  have rl0 : rs0.length = kvs.length := by simpa using congrArg List.length er2
  have kin0 : ∀ r ∈ rs0, keyR r ∈ kvs.map (·.1) := fun r hr => by rw [<- er2]; exact List.mem_map.mpr ⟨r, hr, rfl⟩
  refine ⟨l, rs0, rfl, SqL.of (by rw [er1]; exact upd_same), ?_, by omega, fun r hr => ⟨n3 _ _ (er3 r hr), (key_good pb dk (kin0 r hr)).2⟩, by rw [er2]; exact dk.nd, hTb.same s3, fun R H4 rs st4 tb4 hR pm so => ?_⟩
  · rintro rfl
    exact dk.ne pne (List.length_eq_zero_iff.mp rl0.symm)
  have tb3 := hTb.same s3
  have hfz4 : H4 Dd = some (.frz o (.dT kvs)) := st4.get tb3 (n3 _ _ hfz) fun _ z => nomatch z
  have pmk : (rs.map keyR).Perm (kvs.map (·.1)) := by rw [<- er2]; exact pm.map keyR
  have kin : ∀ r ∈ rs, keyR r ∈ kvs.map (·.1) := fun r hr => pmk.mem_iff.mp (List.mem_map.mpr ⟨r, hr, rfl⟩)
  have rat : ∀ r ∈ rs, RsAt H4 r := fun r hr => st4.get tb3 (n3 _ _ (er3 r (pm.mem_iff.mp hr))) fun _ z => nomatch z
  have rlen : rs.length = kvs.length := by rw [pm.length_eq, rl0]
  have sT : SameT Pt H H4 := (s3.toT).trans st4
  refine ⟨R, rfl, ⟨_, SqL.of hR⟩, fun D hD => ?_⟩
  refine comp_list (xs := rrefs rs) (fun i τ H' => ∃ v0 ys, τ = [v0, some (.ref a), some (.ref Dd), v2, v3, some (.int (divOf kvs))] /\ Same H4 H' /\ TabAt H' D ys /\ ys.map (fun y => Rs.mk y.q y.t y.b) = rs.take i /\ ∀ y ∈ ys, y.w = (Tb.Wt (rws xs) y.t y.b).fdiv (divOf kvs)) ⟨none, [], rfl, same_new hD _, ⟨upd_same, fun _ h => nomatch h⟩, rfl, (fun _ h => nomatch h)⟩ ?keep4 ?turn4 ?done4
  case keep4 =>
    rintro i τ H' hi ⟨v0, ys, rfl, hs, _⟩
    exact SqL.of (hs _ _ hR)
  case turn4 =>
    rintro i m v τ H' hm hi hv ⟨v0, ys, rfl, hs, hY, ey, yw⟩
    obtain ⟨r, hr, rfl⟩ := rrefs_at hv
    have hmem := List.mem_of_getElem? hr
    have hh := (key_good pb dk (kin r hmem)).1
    have rq : H' r.q = some (.tup [.int r.t, .int r.b]) := hs _ _ (rat r hmem)
    have ylen : ys.length <= 1000 := by
      have h := congrArg List.length ey
      rw [List.length_map, List.length_take] at h
      omega
    unfold gName
    refine tyes_if ?_
    refine ⟨_, rfl, _, rfl, _, rfl, Dd, .int (Tb.Wt (rws xs) r.t r.b), rfl, .inr ⟨kvs, [.inl r.t, .inl r.b], r.q, .inr ⟨o, hs _ _ hfz4⟩, rfl, rq, (dk.val hh).symm⟩, _, rfl, _, _, rfl, rfl, ⟨Int.ne_of_gt dpos, dbits⟩, sz2, fun p hp => ?_⟩
    have n1 := same_new hp (.tup [.ref r.q, .int ((Tb.Wt (rws xs) r.t r.b).fdiv (divOf kvs))])
    have hY1 := hY.same n1
    refine comp_next hm hi hY1.lst (by rw [refs_length]; exact small1000 ylen) ⟨_, ys ++ [⟨p, r.q, r.t, r.b, (Tb.Wt (rws xs) r.t r.b).fdiv (divOf kvs)⟩], rfl, (hs.trans n1).upd_new hD _, ⟨?_, ?_⟩, ?_, ?_⟩
    · rw [upd_same, refs_snoc]
    · intro y hy
      rcases List.mem_append.mp hy with z | z
      · exact (hY1.rows y z).over hY1.lst
      · rw [List.mem_singleton.mp z]
        exact RowAt.over ⟨upd_same, n1 _ _ rq⟩ hY1.lst
    · rw [List.map_append, ey, take_snoc hr]
      rfl
    · intro y hy
      rcases List.mem_append.mp hy with z | z
      · exact yw y z
      · rw [List.mem_singleton.mp z]
  case done4 =>
    rintro τ H5 ⟨v0, ys, rfl, s5, hY, ey, yw⟩
    rw [rrefs_length, List.take_length] at ey
    obtain ⟨tab, wok⟩ := mk_tab dk hw1 hf1 pne pmk so ey yw
    have yl : ys.length = rs.length := by rw [<- ey, List.length_map]
    refine q D H5 ys (sT.trans (s5.toT)) (tb4.same s5) (sT.free hD tb4.at_) hY ⟨tab, wok⟩ (by omega)
end
end K76
namespace K76
open PySem L2 TD
open Builtin.Int (intBits)
section
variable {P : Program} {w : World} {K : PySem.W.Frag} {mg : Str -> Option Value} {base : Heap} {Pt : Addr}
theorem ok_is_row {n : Nat} {f : Addr} {fd : FuncData} (F : Fun K "is_row" "is_row" (top 20) f fd) {g_is_whole : Addr} {gd_is_whole : FuncData} (c_is_whole : Cal P w K mg base n "is_whole" ["thing", "least", "most"] spIsW g_is_whole gd_is_whole) (z_len : mg "len" = none) (z_isinstance : mg "isinstance" = none) (z_tuple : mg "tuple" = none) {u_MOST_WEIGHT : Value} (g_MOST_WEIGHT : mg "MOST_WEIGHT" = some u_MOST_WEIGHT) (r_MOST_WEIGHT : RelV (.int 1000) u_MOST_WEIGHT) {u_MOST_WORTH : Value} (g_MOST_WORTH : mg "MOST_WORTH" = some u_MOST_WORTH) (r_MOST_WORTH : RelV (.int 1000000000) u_MOST_WORTH) : FnOk P w K mg base CX0 (n + 1) f fd ["row"] spRow1 := by
  refine F.ok sc_is_row (fun vs H Q E h => ?_) (fun cdv A outer s H vs Q E hr h => ?_)
  · obtain ⟨x, rfl, _⟩ := h
    rfl
  obtain ⟨x, rfl, hx, v1, v2, w1, w2, q⟩ := h
  have nd := sc_is_row.nd
  refine ⟨_, (pss_cons (ps_if (PW.pt (pw_or (pt_not (pt_val (pe_callB (call_isinst (T := "tuple")) rfl z_isinstance bt_isinstance (pa_cons (pv 0) (pa_cons (pe_bltn (v := .ty "tuple") rfl z_tuple bt_tuple rfl) pa_nil))))) (pw_or1 (pt_cmpR op_ne (pe_callB call_len_seq rfl z_len bt_len (pa_cons (pv 0) pa_nil)) pe_int (nomark _))))) (pss_one (ps_ret pe_bl)) pss_nil) (pss_one (ps_ret (pe_and (pe_callC c_is_whole hr (pa_cons (pe_ix ix_tup (pv 0) pe_int (fun _ _ => rfl)) (pa_cons pe_int (pa_cons (pe_glob (v := .int 1000000000) rfl g_MOST_WORTH r_MOST_WORTH) pa_nil)))) (pe_one (pe_callC c_is_whole hr (pa_cons (pe_ix ix_tup (pv 0) pe_int (fun _ _ => rfl)) (pa_cons pe_int (pa_cons (pe_glob (v := .int 1000) rfl g_MOST_WEIGHT r_MOST_WEIGHT) pa_nil))))))))), ?_⟩
  refine ⟨_, rfl, _, _, _, rfl, .tup hx, kit_same _, _, rfl, ?_⟩
  refine iteF ?_
  refine ⟨_, rfl, x.p, _, rfl, .inr (SqT.of hx), rfl, _, rfl, ?_⟩
  refine iteF ?_
  refine ⟨_, rfl, x.p, _, _, _, rfl, rfl, SqT.of hx, rfl, x.v, 0, 1000000000, rfl, v1, v2, _, rfl, ?_⟩
  refine iteT ?_
  exact ⟨_, rfl, x.p, _, _, _, rfl, rfl, SqT.of hx, rfl, x.w, 1, 1000, rfl, w1, w2, q⟩
theorem ok_is_rows {n : Nat} {f : Addr} {fd : FuncData} (F : Fun K "is_rows" "is_rows" (top 21) f fd) {g_is_row : Addr} {gd_is_row : FuncData} (c_is_row : Cal P w K mg base n "is_row" ["row"] spRow1 g_is_row gd_is_row) (z_all : mg "all" = none) (z_len : mg "len" = none) (z_isinstance : mg "isinstance" = none) (z_list : mg "list" = none) {u_MOST_ROWS : Value} (g_MOST_ROWS : mg "MOST_ROWS" = some u_MOST_ROWS) (r_MOST_ROWS : RelV (.int 8) u_MOST_ROWS) : FnOk P w K mg base CX0 (n + 1) f fd ["rows"] spRows1 := by
  refine F.ok sc_is_rows (fun vs H Q E h => ?_) (fun cdv A outer s H vs Q E hr h => ?_)
  · obtain ⟨a, xs, rfl, _⟩ := h
    rfl
  obtain ⟨a, xs, rfl, hL, g, q⟩ := h
  have nd := sc_is_rows.nd
  refine ⟨_, (pss_cons (ps_if (PW.pt (pw_or (pt_not (pt_val (pe_callB (call_isinst (T := "list")) rfl z_isinstance bt_isinstance (pa_cons (pv 0) (pa_cons (pe_bltn (v := .ty "list") rfl z_list bt_list rfl) pa_nil))))) (pw_or1 (pt_not (pt_chain op_le op_le pe_int (pe_callB call_len_seq rfl z_len bt_len (pa_cons (pv 0) pa_nil)) (pe_glob (v := .int 8) rfl g_MOST_ROWS r_MOST_ROWS)))))) (pss_one (ps_ret pe_bl)) pss_nil) (pss_one (ps_ret (pe_callB (call_allL rfl rfl) rfl z_all bt_all (pa_cons (pe_comp (ls := ["row"]) (M := ["rows"]) rfl (CompOk.of (by rfl)) (NL.of (by rfl)) (pi_list (pv 0)) (fun _ _ _ _ => ⟨(pg_name (i := 0) (nd_of (by rfl)) rfl (Or.inl rfl)), pts_nil, (pe_callC c_is_row hr (pa_cons (pv 0) pa_nil))⟩)) pa_nil))))), ?_⟩
  have l1 : 1 <= xs.length := List.length_pos_iff.mpr g.ne
  have l2 := g.len
  have hlr := irefs_length xs
  refine ⟨_, rfl, _, _, _, rfl, .lst hL.lst, kit_same _, _, rfl, ?_⟩
  refine iteF ?_
  refine ⟨_, rfl, a, _, rfl, .inl (SqL.of hL.lst), _, _, rfl, rfl, _, rfl, ?_⟩
  refine ifT (decide_eq_true (show (1 : Int) <= _ by rw [hlr]; omega)) ?_
  refine ⟨_, _, rfl, rfl, _, rfl, ?_⟩
  refine ifF (by rw [decide_eq_true (show (_ : Int) <= 8 by rw [hlr]; omega)]; rfl) ?_
  refine ⟨_, rfl, a, rfl, ⟨_, SqL.of hL.lst⟩, fun D hD => ?_⟩
  refine comp_list (xs := irefs xs) (fun i τ H' => ∃ v0, τ = [v0, some (.ref a)] /\ Same H H' /\ H' D = some (.lst ((List.replicate i true).map V.bl))) ⟨none, rfl, same_new hD _, upd_same⟩ ?keep ?turn ?done
  case keep =>
    rintro i τ H' hi ⟨v0, rfl, hs, _⟩
    exact SqL.of (hL.same hs).lst
  case turn =>
    rintro i m v τ H' hm hi hv ⟨v0, rfl, hs, hD'⟩
    obtain ⟨x, hx, rfl⟩ := irefs_at hv
    have hmem := List.mem_of_getElem? hx
    refine gyes ?_
    refine ⟨_, rfl, x, rfl, hs _ _ (hL.rows x hmem), (g.v x hmem).1, (g.v x hmem).2, (g.w x hmem).1, (g.w x hmem).2, ?_⟩
    refine comp_next hm hi hD' (by rw [List.length_map, List.length_replicate]; exact small1000 (by rw [hlr] at hi; omega)) ⟨_, rfl, (hs).upd_new hD _, ?_⟩
    rw [upd_same, List.replicate_succ', List.map_append]
    rfl
  case done =>
    rintro τ H' ⟨v0, rfl, hs, hD'⟩
    refine ⟨D, _, rfl, SqL.of hD', ?_⟩
    have e : (List.replicate (irefs xs).length true).all id = true := by simp
    rw [e]
    exact q H' hs
theorem ok_is_lists {n : Nat} {f : Addr} {fd : FuncData} (F : Fun K "is_lists" "is_lists" (top 29) f fd) {g_is_rows : Addr} {gd_is_rows : FuncData} (c_is_rows : Cal P w K mg base n "is_rows" ["rows"] spRows1 g_is_rows gd_is_rows) (z_all : mg "all" = none) (z_len : mg "len" = none) (z_isinstance : mg "isinstance" = none) (z_list : mg "list" = none) {u_MOST_OFFERS : Value} (g_MOST_OFFERS : mg "MOST_OFFERS" = some u_MOST_OFFERS) (r_MOST_OFFERS : RelV (.int 8) u_MOST_OFFERS) : FnOk P w K mg base CX0 (n + 1) f fd ["lists"] spLists1 := by
  refine F.ok sc_is_lists (fun vs H Q E h => ?_) (fun cdv A outer s H vs Q E hr h => ?_)
  · obtain ⟨a, ls, rfl, _⟩ := h
    rfl
  obtain ⟨a, ls, rfl, hL, lne, l2, gs, q⟩ := h
  have nd := sc_is_lists.nd
  refine ⟨_, (pss_cons (ps_if (PW.pt (pw_or (pt_not (pt_val (pe_callB (call_isinst (T := "list")) rfl z_isinstance bt_isinstance (pa_cons (pv 0) (pa_cons (pe_bltn (v := .ty "list") rfl z_list bt_list rfl) pa_nil))))) (pw_or1 (pt_not (pt_chain op_le op_le pe_int (pe_callB call_len_seq rfl z_len bt_len (pa_cons (pv 0) pa_nil)) (pe_glob (v := .int 8) rfl g_MOST_OFFERS r_MOST_OFFERS)))))) (pss_one (ps_ret pe_bl)) pss_nil) (pss_one (ps_ret (pe_callB (call_allL rfl rfl) rfl z_all bt_all (pa_cons (pe_comp (ls := ["rows"]) (M := ["lists"]) rfl (CompOk.of (by rfl)) (NL.of (by rfl)) (pi_list (pv 0)) (fun _ _ _ _ => ⟨(pg_name (i := 0) (nd_of (by rfl)) rfl (Or.inl rfl)), pts_nil, (pe_callC c_is_rows hr (pa_cons (pv 0) pa_nil))⟩)) pa_nil))))), ?_⟩
  have l1 : 1 <= ls.length := List.length_pos_iff.mpr lne
  have hlr := lsrefs_length ls
  refine ⟨_, rfl, _, _, _, rfl, .lst hL.lst, kit_same _, _, rfl, ?_⟩
  refine iteF ?_
  refine ⟨_, rfl, a, _, rfl, .inl (SqL.of hL.lst), _, _, rfl, rfl, _, rfl, ?_⟩
  refine ifT (decide_eq_true (show (1 : Int) <= _ by rw [hlr]; omega)) ?_
  refine ⟨_, _, rfl, rfl, _, rfl, ?_⟩
  refine ifF (by rw [decide_eq_true (show (_ : Int) <= 8 by rw [hlr]; omega)]; rfl) ?_
  refine ⟨_, rfl, a, rfl, ⟨_, SqL.of hL.lst⟩, fun D hD => ?_⟩
  refine comp_list (xs := lsrefs ls) (fun i τ H' => ∃ v0, τ = [v0, some (.ref a)] /\ Same H H' /\ H' D = some (.lst ((List.replicate i true).map V.bl))) ⟨none, rfl, same_new hD _, upd_same⟩ ?keep ?turn ?done
  case keep =>
    rintro i τ H' hi ⟨v0, rfl, hs, _⟩
    exact SqL.of (hL.same hs).lst
  case turn =>
    rintro i m v τ H' hm hi hv ⟨v0, rfl, hs, hD'⟩
    obtain ⟨x, hx, rfl⟩ := lsrefs_at hv
    have hmem := List.mem_of_getElem? hx
    refine gyes ?_
    refine ⟨_, rfl, x.a, x.xs, rfl, (hL.each x hmem).same hs, gs x hmem, fun H1 s1 => ?_⟩
    refine comp_next hm hi (s1 _ _ hD') (by rw [List.length_map, List.length_replicate]; exact small1000 (by rw [hlr] at hi; omega)) ⟨_, rfl, (hs.trans s1).upd_new hD _, ?_⟩
    rw [upd_same, List.replicate_succ', List.map_append]
    rfl
  case done =>
    rintro τ H' ⟨v0, rfl, hs, hD'⟩
    refine ⟨D, _, rfl, SqL.of hD', ?_⟩
    have e : (List.replicate (lsrefs ls).length true).all id = true := by simp
    rw [e]
    exact q H' hs
end
end K76
namespace K76
open PySem L2 TD
open Builtin.Int (intBits)
section
variable {P : Program} {w : World} {K : PySem.W.Frag} {mg : Str -> Option Value} {base : Heap} {Pt : Addr}
theorem pb_of {xs : List Ir} {ys : List Row} (g : GI xs) (e : rws ys = rw0 xs) : PB ys := fun y hy => by
  have h1 : y.r ∈ rw0 xs := by rw [<- e]; exact List.mem_map.mpr ⟨y, hy, rfl⟩
  obtain ⟨x, hx, ex⟩ := List.mem_map.mp h1
  have et : y.t = x.v := (congrArg Tb.Rw.t ex).symm
  have eb : y.b = 1 := (congrArg Tb.Rw.b ex).symm
  have ew : y.w = x.w := (congrArg Tb.Rw.w ex).symm
  have v := g.v x hx
  have w := g.w x hx
  rw [et, eb, ew]
  refine ⟨⟨by decide, ?_⟩, Nat.le_trans (Of.bits_of (k := 30) (by omega) (by omega)) (by decide), by decide, w.1, Int.le_trans w.2 (by decide)⟩
  first | exact Int.gcd_one_right _ | simp
theorem ok_table_of {n : Nat} {f : Addr} {fd : FuncData} (F : Fun K "table_of" "table_of" (top 24) f fd) {g_in_form : Addr} {gd_in_form : FuncData} (c_in_form : Cal P w K mg base n "in_form" ["rows"] (spForm Pt lamP) g_in_form gd_in_form) {g_whole : Addr} {gd_whole : FuncData} (c_whole : Cal P w K mg base n "whole" ["number"] spWh g_whole gd_whole) {g_is_rows : Addr} {gd_is_rows : FuncData} (c_is_rows : Cal P w K mg base n "is_rows" ["rows"] spRows1 g_is_rows gd_is_rows) : FnOk P w K mg base CX0 (n + 1) f fd ["rows"] (spTO Pt lamP) := by
  refine F.ok sc_table_of (fun vs H Q E h => ?_) (fun cdv A outer s H vs Q E hr h => ?_)
  · obtain ⟨a, xs, rfl, _⟩ := h
    rfl
  obtain ⟨a, xs, rfl, hL, g, hT, q⟩ := h
  have nd := sc_table_of.nd
  refine ⟨_, (pss_cons (ps_if (pt_not (pt_val (pe_callC c_is_rows hr (pa_cons (pv 0) pa_nil)))) (pss_one ps_never) pss_nil) (pss_one (ps_ret (pe_callC c_in_form hr (pa_cons (pe_comp (ls := ["worth", "weight"]) (M := ["rows"]) rfl (CompOk.of (by rfl)) (NL.of (by rfl)) (pi_list (pv 0)) (fun _ _ _ _ => ⟨(pg_tupK (K := K) (n := 2) rfl rfl (pgs_cons (pg_name (i := 0) (nd_of (by rfl)) rfl (Or.inl rfl)) (pgs_cons (pg_name (i := 1) (nd_of (by rfl)) rfl (Or.inl rfl)) pgs_nil))), pts_nil, (pe_tup (pa_cons (pe_callC c_whole hr (pa_cons (pv 0) pa_nil)) (pa_cons (pv 1) pa_nil)))⟩)) pa_nil))))), ?_⟩
  have hlr := irefs_length xs
  have hlen := g.len
  refine ⟨_, rfl, a, xs, rfl, hL, g, fun H0 s0 => ?_⟩
  refine ⟨_, rfl, ?_⟩
  refine iteF ?_
  have hL0 := hL.same s0
  refine ⟨_, rfl, a, rfl, ⟨_, SqL.of hL0.lst⟩, fun D hD => ?_⟩
  refine comp_list (xs := irefs xs) (fun i τ H' => ∃ v0 v1 ys, τ = [v0, v1, some (.ref a)] /\ Same H0 H' /\ TabAt H' D ys /\ rws ys = rw0 (xs.take i)) ⟨none, none, [], rfl, same_new hD _, ⟨upd_same, fun _ h => nomatch h⟩, rfl⟩ ?keep ?turn ?done
  case keep =>
    rintro i τ H' hi ⟨v0, v1, ys, rfl, hs, _⟩
    exact SqL.of (hL0.same hs).lst
  case turn =>
    rintro i m v τ H' hm hi hv ⟨v0, v1, ys, rfl, hs, hY, ey⟩
    obtain ⟨x, hx, rfl⟩ := irefs_at hv
    have hmem := List.mem_of_getElem? hx
    have hr2 : H' x.p = some (.tup [.int x.v, .int x.w]) := hs _ _ (hL0.rows x hmem)
    have ylen : ys.length <= 1000 := by
      have h := congrArg List.length ey
      unfold rws rw0 at h
      rw [List.length_map, List.length_map, List.length_take] at h
      omega
    refine ⟨x.p, _, rfl, SqT.of hr2, rfl, _, _, rfl, _, _, rfl, rfl, ?_⟩
    refine tyes_if ?_
    refine ⟨_, rfl, _, rfl, fun pq H1 s1 hpq => ?_⟩
    refine ⟨_, rfl, sz2, fun p hp => ?_⟩
    have n1 := same_new hp (.tup [.ref pq, .int x.w])
    have hY1 := hY.same (s1.trans n1)
    refine comp_next hm hi hY1.lst (by rw [refs_length]; exact small1000 ylen) ⟨_, _, ys ++ [⟨p, pq, x.v, 1, x.w⟩], rfl, ((hs.trans s1).trans n1).upd_new hD _, ⟨?_, ?_⟩, ?_⟩
    · rw [upd_same, refs_snoc]
    · intro y hy
      rcases List.mem_append.mp hy with z | z
      · exact (hY1.rows y z).over hY1.lst
      · rw [List.mem_singleton.mp z]
        exact RowAt.over ⟨upd_same, n1 _ _ hpq⟩ hY1.lst
    · rw [rws_snoc, ey, take_snoc hx, rw0_snoc]
      rfl
  case done =>
  rintro τ H1 ⟨v0, v1, ys, rfl, s1, hY, ey⟩
  rw [hlr, List.take_length] at ey
  have yl : ys.length = xs.length := by
    have h := congrArg List.length ey
    unfold rws rw0 at h
    rw [List.length_map, List.length_map] at h
    exact h
  refine ⟨D, ys, rfl, hY, ?_, by omega, pb_of g ey, hT.same (s0.trans s1), fun r H2 zs st tb hf hz out zl => ?_⟩
  · rintro rfl
    exact g.ne (List.length_eq_zero_iff.mp yl.symm)
  · rw [ey] at out
    exact q r H2 zs (((s0.trans s1).toT).trans st) tb ((s0.trans s1).free hf) hz out (by omega)
theorem ok_all_weights {n : Nat} {f : Addr} {fd : FuncData} (F : Fun K "all_weights" "all_weights" (top 25) f fd) (z_sum : mg "sum" = none) : FnOk P w K mg base CX0 (n + 1) f fd ["table"] spAWe := by
  refine F.ok sc_all_weights (fun vs H Q E h => ?_) (fun cdv A outer s H vs Q E hr h => ?_)
  · obtain ⟨a, xs, rfl, _⟩ := h
    rfl
  obtain ⟨a, xs, rfl, hT, hl, q⟩ := h
  have nd := sc_all_weights.nd
  refine ⟨_, (pss_one (ps_ret (pe_callB (call_sum rfl) rfl z_sum bt_sum (pa_cons (pe_comp (ls := ["worth", "weight"]) (M := ["table"]) rfl (CompOk.of (by rfl)) (NL.of (by rfl)) (pi_either (pi_list (pv 0)) (pi_tup (pv 0))) (fun _ _ _ _ => ⟨(pg_tupK (K := K) (n := 2) rfl rfl (pgs_cons (pg_name (i := 0) (nd_of (by rfl)) rfl (Or.inl rfl)) (pgs_cons (pg_name (i := 1) (nd_of (by rfl)) rfl (Or.inl rfl)) pgs_nil))), pts_nil, (pv 1)⟩)) pa_nil)))), ?_⟩
  have hlr := refs_length xs
  rcases hT with hT | hT
  · refine .inl ⟨_, rfl, a, rfl, ⟨_, SqL.of hT.lst⟩, fun D hD => ?_⟩
    refine comp_list (xs := refs xs) (fun i τ H' => ∃ v0 v1, τ = [v0, v1, some (.ref a)] /\ Same H H' /\ H' D = some (.lst ((xs.take i).map fun x => V.int x.w))) ⟨none, none, rfl, same_new hD _, upd_same⟩ ?keep1 ?turn1 ?done1
    case keep1 =>
      rintro i τ H' hi ⟨v0, v1, rfl, hs, _⟩
      exact SqL.of (hT.same hs).lst
    case turn1 =>
      rintro i m v τ H' hm hi hv ⟨v0, v1, rfl, hs, hD'⟩
      obtain ⟨x, hx, rfl⟩ := refs_at hv
      have hr := (hT.same hs).rows x (List.mem_of_getElem? hx)
      refine ⟨x.p, _, rfl, SqT.of hr.1, rfl, _, _, rfl, _, _, rfl, rfl, ?_⟩
      refine tyes_if ?_
      refine ⟨_, rfl, ?_⟩
      refine comp_next hm hi hD' (by rw [List.length_map]; exact small1000 (Nat.le_trans (List.length_take_le _ _) (by omega))) ⟨_, _, rfl, hs.upd_new hD _, ?_⟩
      rw [upd_same, take_snoc hx, List.map_append]
      rfl
    case done1 =>
      rintro τ H' ⟨v0, v1, rfl, hs, hD'⟩
      rw [hlr, List.take_length] at hD'
      refine ⟨D, xs.map Row.w, rfl, SqL.of (by rw [hD', List.map_map]; rfl), ?_⟩
      exact q H' hs
  · refine .inr ⟨_, rfl, a, rfl, ⟨_, SqT.of hT.tp⟩, fun D hD => ?_⟩
    refine comp_tup (xs := refs xs) (fun i τ H' => ∃ v0 v1, τ = [v0, v1, some (.ref a)] /\ Same H H' /\ H' D = some (.lst ((xs.take i).map fun x => V.int x.w))) ⟨none, none, rfl, same_new hD _, upd_same⟩ ?keep2 ?turn2 ?done2
    case keep2 =>
      rintro i τ H' hi ⟨v0, v1, rfl, hs, _⟩
      exact SqT.of (hT.same hs).tp
    case turn2 =>
      rintro i m v τ H' hm hi hv ⟨v0, v1, rfl, hs, hD'⟩
      obtain ⟨x, hx, rfl⟩ := refs_at hv
      have hr := (hT.same hs).rows x (List.mem_of_getElem? hx)
      refine ⟨x.p, _, rfl, SqT.of hr.1, rfl, _, _, rfl, _, _, rfl, rfl, ?_⟩
      refine tyes_if ?_
      refine ⟨_, rfl, ?_⟩
      refine comp_next hm hi hD' (by rw [List.length_map]; exact small1000 (Nat.le_trans (List.length_take_le _ _) (by omega))) ⟨_, _, rfl, hs.upd_new hD _, ?_⟩
      rw [upd_same, take_snoc hx, List.map_append]
      rfl
    case done2 =>
      rintro τ H' ⟨v0, v1, rfl, hs, hD'⟩
      rw [hlr, List.take_length] at hD'
      refine ⟨D, xs.map Row.w, rfl, SqL.of (by rw [hD', List.map_map]; rfl), ?_⟩
      exact q H' hs
def lcmB (xs : List Row) : Int := lcmL (xs.map Row.b)
theorem by_is (xs : List Row) (W : Int) : Of.byF (rwF xs) W = Fr.sh ((xs.map fun x => x.w * x.t * (lcmB xs).fdiv x.b).sum) (lcmB xs * W) := by
  unfold Of.byF Of.lcmR rwF lcmB
  rw [List.map_map, List.map_map]
  rfl
theorem ok_by_weights {n : Nat} {f : Addr} {fd : FuncData} (F : Fun K "by_weights" "by_weights" (top 26) f fd) {g_share : Addr} {gd_share : FuncData} (c_share : Cal P w K mg base n "share" ["top", "bottom"] spShare g_share gd_share) {g_common_multiple : Addr} {gd_common_multiple : FuncData} (c_common_multiple : Cal P w K mg base n "common_multiple" ["numbers"] (spCM K) g_common_multiple gd_common_multiple) (z_sum : mg "sum" = none) : FnOk P w K mg base CX0 (n + 1) f fd ["rows", "weights"] spBWf := by
  refine F.ok sc_by_weights (fun vs H Q E h => ?_) (fun cdv A outer s H vs Q E hr h => ?_)
  · obtain ⟨a, xs, W, rfl, _⟩ := h
    rfl
  obtain ⟨a, xs, W, rfl, hT, hb, hW, hWz, q⟩ := h
  have nd := sc_by_weights.nd
  refine ⟨_, (pss_cons (ps_set (i := 2) nd rfl (Or.inr rfl) (pe_callC c_common_multiple hr (pa_cons (pe_comp (ls := ["worth", "weight"]) (M := ["rows", "weights", "bottom", "top"]) rfl (CompOk.of (by rfl)) (NL.of (by rfl)) (pi_list (pv 0)) (fun _ _ _ _ => ⟨(pg_tupK (K := K) (n := 2) rfl rfl (pgs_cons (pg_name (i := 0) (nd_of (by rfl)) rfl (Or.inl rfl)) (pgs_cons (pg_name (i := 1) (nd_of (by rfl)) rfl (Or.inl rfl)) pgs_nil))), pts_nil, (pe_ix (ix_tupK (K := K) rfl) (pv 0) pe_int (fun _ _ => rfl))⟩)) pa_nil))) (pss_cons (ps_set (i := 3) nd rfl (Or.inl rfl) (pe_callB (call_sum rfl) rfl z_sum bt_sum (pa_cons (pe_comp (ls := ["worth", "weight"]) (M := ["rows", "weights", "bottom", "top"]) rfl (CompOk.of (by rfl)) (NL.of (by rfl)) (pi_list (pv 0)) (fun _ _ _ _ => ⟨(pg_tupK (K := K) (n := 2) rfl rfl (pgs_cons (pg_name (i := 0) (nd_of (by rfl)) rfl (Or.inl rfl)) (pgs_cons (pg_name (i := 1) (nd_of (by rfl)) rfl (Or.inl rfl)) pgs_nil))), pts_nil, (pe_op op_mulB (pe_op op_mulB (pv 1) (pe_ix (ix_tupK (K := K) rfl) (pv 0) pe_int (fun _ _ => rfl))) (pe_op op_fdivB (pv 4) (pe_ix (ix_tupK (K := K) rfl) (pv 0) pe_int (fun _ _ => rfl))))⟩)) pa_nil))) (pss_one (ps_ret (pe_callC c_share hr (pa_cons (pv 3) (pa_cons (pe_op op_mulB (pv 2) (pv 1)) pa_nil))))))), ?_⟩
  have hlr := refs_length xs
  have hlen := hb.len
  have bpos : ∀ n ∈ xs.map Row.b, 0 < n := fun n hn => by
    obtain ⟨x, hx, rfl⟩ := List.mem_map.mp hn
    exact hb.b x hx
  obtain ⟨lp, ld⟩ := lcmL_ok bpos
  have lz := lcmL_bits (xs.map Row.b)
  have bz := hb.z
  refine ⟨_, rfl, a, rfl, ⟨_, SqL.of hT.lst⟩, fun D hD => ?_⟩
  refine comp_list (xs := refs xs) (fun i τ H' => ∃ v0 v1, τ = [v0, v1, some (.ref a), some (.int W), none, none] /\ Same H H' /\ H' D = some (.lst ((xs.take i).map fun x => V.int x.b))) ⟨none, none, rfl, same_new hD _, upd_same⟩ ?keep ?turn ?done
  case keep =>
    rintro i τ H' hi ⟨v0, v1, rfl, hs, _⟩
    exact SqL.of (hT.same hs).lst
  case turn =>
    rintro i m v τ H' hm hi hv ⟨v0, v1, rfl, hs, hD'⟩
    obtain ⟨x, hx, rfl⟩ := refs_at hv
    have hr := (hT.same hs).rows x (List.mem_of_getElem? hx)
    refine ⟨x.p, _, rfl, SqT.of hr.1, rfl, _, _, rfl, _, _, rfl, rfl, ?_⟩
    refine tyes_if ?_
    refine ⟨_, rfl, x.q, _, _, _, rfl, rfl, SqT.of hr.2, rfl, ?_⟩
    refine comp_next hm hi hD' (by rw [List.length_map]; exact small1000 (Nat.le_trans (List.length_take_le _ _) (by omega))) ⟨_, _, rfl, hs.upd_new hD _, ?_⟩
    rw [upd_same, take_snoc hx, List.map_append]
    rfl
  case done =>
  rintro τ H1 ⟨v0, v1, rfl, s1, hD1⟩
  rw [hlr, List.take_length] at hD1
  refine ⟨D, xs.map Row.b, rfl, SqL.of (by rw [hD1, List.map_map]; rfl), bpos, bz, ?_⟩
  have hT1 := hT.same s1
  refine ⟨_, rfl, a, rfl, ⟨_, SqL.of hT1.lst⟩, fun E2 hE => ?_⟩
  refine comp_list (xs := refs xs) (fun i τ H' => ∃ v0 v1, τ = [v0, v1, some (.ref a), some (.int W), some (.int (lcmB xs)), none] /\ Same H1 H' /\ H' E2 = some (.lst ((xs.take i).map fun x => V.int (x.w * x.t * (lcmB xs).fdiv x.b)))) ⟨none, none, rfl, same_new hE _, upd_same⟩ ?keep2 ?turn2 ?done2
  case keep2 =>
    rintro i τ H' hi ⟨v0, v1, rfl, hs, _⟩
    exact SqL.of (hT1.same hs).lst
  case turn2 =>
    rintro i m v τ H' hm hi hv ⟨v0, v1, rfl, hs, hD'⟩
    obtain ⟨x, hx, rfl⟩ := refs_at hv
    have hmem := List.mem_of_getElem? hx
    have hr := (hT1.same hs).rows x hmem
    have xb := hb.b x hmem
    have xt := hb.t x hmem
    have xw := hb.w x hmem
    have xz := mem_sum_le (List.mem_map.mpr ⟨x, hmem, rfl⟩ : x.b ∈ xs.map Row.b)
    refine ⟨x.p, _, rfl, SqT.of hr.1, rfl, _, _, rfl, _, _, rfl, rfl, ?_⟩
    refine tyes_if ?_
    refine ⟨_, rfl, _, rfl, x.q, _, _, _, rfl, rfl, SqT.of hr.2, rfl, _, _, rfl, rfl, mulOk xw xt (by decide), _, rfl, _, rfl, x.q, _, _, _, rfl, rfl, SqT.of hr.2, rfl, _, _, rfl, rfl, ⟨Int.ne_of_gt xb, by omega⟩, _, _, rfl, rfl, mulOk (m := 2564) (n := 4201) (PySem.intBits_mul_le xw xt) (PySem.intBits_fdiv_le (Nat.le_trans lz (by omega))) (by decide), ?_⟩
    refine comp_next hm hi hD' (by rw [List.length_map]; exact small1000 (Nat.le_trans (List.length_take_le _ _) (by omega))) ⟨_, _, rfl, hs.upd_new hE _, ?_⟩
    rw [upd_same, take_snoc hx, List.map_append]
    rfl
  case done2 =>
  rintro τ H2 ⟨v0, v1, rfl, s2, hE2⟩
  rw [hlr, List.take_length] at hE2
  refine ⟨E2, xs.map fun x => x.w * x.t * (lcmB xs).fdiv x.b, rfl, SqL.of (by rw [hE2, List.map_map]; rfl), ?_⟩
  have zz : intBits (lcmB xs) <= 4201 := Nat.le_trans lz (by omega)
  refine ⟨_, rfl, _, rfl, _, rfl, _, _, rfl, rfl, mulOk zz hWz (by decide), ?_⟩
  refine ⟨_, _, rfl, Int.ne_of_gt (Int.mul_pos lp hW), Nat.le_trans (PySem.intBits_mul_le zz hWz) (by decide), fun p H' s' hp => ?_⟩
  exact q p H' ((s1.trans s2).trans s') (by rw [by_is]; exact hp)
end
end K76
namespace K76
open PySem L2 TD
open Builtin.Int (intBits)
section
variable {P : Program} {w : World} {K : PySem.W.Frag} {mg : Str -> Option Value} {base : Heap} {Pt : Addr}
theorem onF_length : ∀ Ts : List Of.Tab, (Of.onF Ts).length = Ts.length + 1
  | [] => rfl
  | T :: Ts => by
    show (Of.onF Ts).length + 1 = _
    rw [onF_length Ts]
    rfl
theorem ok_Offers___init__ {n : Nat} {f : Addr} {fd : FuncData} (F : Fun K "__init__" "Offers.__init__" (inClass (top 34) 0) f fd) {C : Addr} (cf : OF K C) {g_table_of : Addr} {gd_table_of : FuncData} (c_table_of : Cal P w K mg base n "table_of" ["rows"] (spTO Pt lamP) g_table_of gd_table_of) {g_is_lists : Addr} {gd_is_lists : FuncData} (c_is_lists : Cal P w K mg base n "is_lists" ["lists"] spLists1 g_is_lists gd_is_lists) (z_tuple : mg "tuple" = none) : FnOk P w K mg base CX0 (n + 1) f fd ["self", "lists"] (spOin C Pt lamP) := by
  refine F.ok sc_Offers___init__ (fun vs H Q E h => ?_) (fun cdv A outer s H vs Q E hr h => ?_)
  · obtain ⟨x, dx, a, ls, rfl, _⟩ := h
    rfl
  obtain ⟨x, dx, a, ls, rfl, hx, hL, lne, l2, gs, hT, q⟩ := h
  have nd := sc_Offers___init__.nd
  refine ⟨_, (pss_cons (ps_if (pt_not (pt_val (pe_callC c_is_lists hr (pa_cons (pv 1) pa_nil)))) (pss_one ps_never) pss_nil) (pss_one (ps_fld (pv 0) (pe_callTy (call_tuple_ofK (K := K) rfl) rfl z_tuple bt_tuple (pa_cons (pe_comp (ls := ["rows"]) (M := ["self", "lists"]) rfl (CompOk.of (by rfl)) (NL.of (by rfl)) (pi_list (pv 1)) (fun _ _ _ _ => ⟨(pg_name (i := 0) (nd_of (by rfl)) rfl (Or.inl rfl)), pts_nil, (pe_callTy (call_tuple_ofK (K := K) rfl) rfl z_tuple bt_tuple (pa_cons (pe_callC c_table_of hr (pa_cons (pv 0) pa_nil)) pa_nil))⟩)) pa_nil)) rfl))), ?_⟩
  have hlr := lsrefs_length ls
  refine ⟨_, rfl, a, ls, rfl, hL, lne, l2, gs, fun H0 s0 => ?_⟩
  refine ⟨_, rfl, ?_⟩
  refine iteF ?_
  have hL0 := hL.same s0
  have hT0 := hT.same s0
  refine ⟨_, rfl, a, rfl, ⟨_, SqL.of hL0.lst⟩, fun D hD => ?_⟩
  refine comp_list (xs := lsrefs ls) (fun i τ H' => ∃ v0 ts, τ = [v0, some (.ref x), some (.ref a)] /\ SameT Pt H0 H' /\ TbOk Pt lamP lamQ H' /\ H' D = some (.lst (trefs ts)) /\ (∀ t ∈ ts, TpAt H' t.a t.ys) /\ ts.length = i /\ (∀ (j : Nat) l t, ls[j]? = some l -> ts[j]? = some t -> Out (rw0 l.xs) t.ys /\ t.ys.length <= l.xs.length)) ⟨none, [], rfl, (same_new hD _).toT, hT0.same (same_new hD _), upd_same, (fun _ h => nomatch h), rfl, fun j l t _ h => by simp at h⟩ ?keep ?turn ?done
  case keep =>
    rintro i τ H' hi ⟨v0, ts, rfl, hs, _⟩
    exact SqL.of (hL0.sameT hs hT0).lst
  case turn =>
    rintro i m v τ H' hm hi hv ⟨v0, ts, rfl, hs, tb, hD', hY, tl, to⟩
    obtain ⟨l, hl, rfl⟩ := lsrefs_at hv
    have hmem := List.mem_of_getElem? hl
    refine gyes ?_
    refine ⟨_, rfl, l.a, l.xs, rfl, (hL0.sameT hs hT0).each l hmem, gs l hmem, tb, fun r H1 ys st tb1 hr0 hy out yl => ?_⟩
    refine ⟨r, _, rfl, .inl ⟨SqL.of hy.lst, fun u hu => ?_⟩⟩
    have hD1 : H1 D = some (.lst (trefs ts)) := st.get tb hD' fun _ z => nomatch z
    have n1 := same_new hu (.tup (refs ys))
    have hD2 := n1 _ _ hD1
    refine comp_next hm hi hD2 (by rw [trefs_length]; exact small1000 (by omega)) ⟨_, ts ++ [⟨u, ys⟩], rfl, ((hs.trans st).trans n1.toT).upd_new hD _, TbOk_over (tb1.same n1) hD2, ?_, ?_, ?_, ?_⟩
    · rw [upd_same, trefs_snoc]
    · intro t ht
      rcases List.mem_append.mp ht with z | z
      · exact (((hY t z).sameT st tb).same n1).over hD2
      · rw [List.mem_singleton.mp z]
        exact TpAt.over ⟨upd_same, fun y hy' => (hy.rows y hy').same n1⟩ hD2
    · rw [List.length_append, tl]; rfl
    · intro j l' t' h1 h2
      by_cases hj : j < ts.length
      · rw [List.getElem?_append_left hj] at h2
        exact to j l' t' h1 h2
      · have hj2 := (List.getElem?_eq_some_iff.mp h2).1
        rw [List.length_append, List.length_singleton] at hj2
        have ej : j = i := by omega
        subst ej
        rw [List.getElem?_append_right (by omega), tl, Nat.sub_self] at h2
        rw [hl] at h1
        cases h1
        cases h2
        exact ⟨out, yl⟩
  case done =>
  rintro τ H1 ⟨v0, ts, rfl, s1, tb, hD', hY, tl, to⟩
  rw [hlr] at tl
  refine ⟨D, _, rfl, .inl ⟨SqL.of hD', fun u hu => ?_⟩⟩
  have n1 := same_new hu (.tup (trefs ts))
  have hx1 := n1 _ _ (s1.get hT0 (s0 _ _ hx) fun _ z => nomatch z)
  refine ⟨_, rfl, x, C, dx, [], rfl, hx1, cf.cl, cf.nk, (by show 0 < 1000; decide), ?_⟩
  exact q u _ ts ((s0.toT.trans s1).trans n1.toT) (tb.same n1) hx1 ⟨upd_same, fun t ht => (hY t ht).same n1⟩ ⟨tl.symm, to⟩
theorem gr_rows {ys : List Row} {f : Rk.Fc} {zs : List Row} (one : ∀ y ∈ ys, y.b = 1) (e : rwF zs = ys.map fun y => (Rk.gr (y.t, y.b) f, y.w)) : rwF zs = Of.grRows (tabY ys) f := by
  rw [e]
  unfold Of.grRows tabY
  rw [List.map_map]
  refine List.map_congr_left fun y hy => ?_
  rw [one y hy]
  rfl
theorem rwF_snoc (xs : List Row) (y : Row) : rwF (xs ++ [y]) = rwF xs ++ [((y.t, y.b), y.w)] := by unfold rwF; rw [List.map_append]; rfl
theorem rwF_length (xs : List Row) : (rwF xs).length = xs.length := List.length_map _
theorem mem_rwF {xs : List Row} {y : Row} (h : y ∈ xs) : ((y.t, y.b), y.w) ∈ rwF xs := List.mem_map.mpr ⟨y, h, rfl⟩
theorem brows_gr {T : Of.Tab} {f : Rk.Fc} {zs : List Row} (g : Of.GT T) (hf : Lg.Fb f 200 200) (e : rwF zs = Of.grRows T f) : BRows zs := by
  have hl : zs.length <= 8 := by
    have := congrArg List.length e
    rw [rwF_length] at this
    unfold Of.grRows at this
    rw [List.length_map] at this
    have := g.len
    omega
  have key : ∀ z ∈ zs, 0 < z.b /\ intBits z.t <= 200 /\ intBits z.b <= 200 /\ intBits z.w <= 13 := fun z hz => by
    have h1 := mem_rwF hz
    rw [e] at h1
    obtain ⟨r, hr, er⟩ := List.mem_map.mp h1
    have e1 : Rk.gr (r.1, 1) f = (z.t, z.b) := congrArg Prod.fst er
    have e2 : r.2 = z.w := congrArg Prod.snd er
    obtain ⟨a, b⟩ := g.vb hr
    rw [<- e2]
    unfold Rk.gr at e1
    split at e1
    · have h2 : f.2 = z.b := congrArg Prod.snd e1
      have h1 : f.1 = z.t := congrArg Prod.fst e1
      rw [<- h1, <- h2]
      exact ⟨hf.pos, hf.t, hf.b, b⟩
    · have h2 : (1 : Int) = z.b := congrArg Prod.snd e1
      have h1 : r.1 = z.t := congrArg Prod.fst e1
      rw [<- h1, <- h2]
      exact ⟨by decide, Nat.le_trans a (by decide), by decide, b⟩
  refine ⟨by omega, fun z hz => (key z hz).1, fun z hz => Nat.le_trans (key z hz).2.1 (by decide), fun z hz => Nat.le_trans (key z hz).2.2.2 (by decide), ?_⟩
  have := sum_nat_le (k := 200) (l := (zs.map Row.b).map intBits) fun n hn => by
    obtain ⟨b, hb, rfl⟩ := List.mem_map.mp hn
    obtain ⟨z, hz, rfl⟩ := List.mem_map.mp hb
    exact (key z hz).2.2.1
  rw [List.length_map, List.length_map] at this
  omega
theorem drop_cons {α : Type} {xs : List α} {n i : Nat} {x : α} (hn : n = xs.length) (hi : i < n) (h : xs[n - 1 - i]? = some x) : xs.drop (n - (i + 1)) = x :: xs.drop (n - i) := by
  have e : n - (i + 1) = n - 1 - i := by omega
  have l := (List.getElem?_eq_some_iff.mp h).1
  have v := (List.getElem?_eq_some_iff.mp h).2
  rw [e, List.drop_eq_getElem_cons l, v, show n - 1 - i + 1 = n - i by omega]
theorem ok_Offers_worths_on {n : Nat} {f : Addr} {fd : FuncData} (F : Fun K "worths_on" "Offers.worths_on" (inClass (top 34) 7) f fd) {C : Addr} (cf : OF K C) {g_by_weights : Addr} {gd_by_weights : FuncData} (c_by_weights : Cal P w K mg base n "by_weights" ["rows", "weights"] spBWf g_by_weights gd_by_weights) {g_all_weights : Addr} {gd_all_weights : FuncData} (c_all_weights : Cal P w K mg base n "all_weights" ["table"] spAWe g_all_weights gd_all_weights) {g_greater : Addr} {gd_greater : FuncData} (c_greater : Cal P w K mg base n "greater" ["one", "other"] (spGr K) g_greater gd_greater) {g_whole : Addr} {gd_whole : FuncData} (c_whole : Cal P w K mg base n "whole" ["number"] spWh g_whole gd_whole) (z_reversed : mg "reversed" = none) : FnOk P w K mg base CX0 (n + 1) f fd ["self"] (spWOn C) := by
  refine F.ok sc_Offers_worths_on (fun vs H Q E h => ?_) (fun cdv A outer s H vs Q E hr h => ?_)
  · obtain ⟨x, ts, rfl, _⟩ := h
    rfl
  obtain ⟨x, ts, rfl, hO, g, q⟩ := h
  have nd := sc_Offers_worths_on.nd
  refine ⟨_, (pss_cons (ps_set (i := 1) nd rfl (Or.inr rfl) (pe_lst (pa_cons (pe_callC c_whole hr (pa_cons pe_int pa_nil)) pa_nil))) (pss_cons (ps_for PassesOwn.never rfl (pi_revT rfl z_reversed (pa_cons (pe_fld (pv 0) rfl) pa_nil)) (pg_name (i := 2) nd rfl (Or.inl rfl)) (pss_cons (ps_setC (i := 3) (ls := ["worth", "weight"]) (M := ["self", "found", "table", "rows"]) rfl (CompOk.of (by rfl)) (NL.of (by rfl)) nd rfl (Or.inl rfl) (pi_tup (pv 2)) (fun _ _ _ _ => ⟨(pg_tupK (K := K) (n := 2) rfl rfl (pgs_cons (pg_name (i := 0) (nd_of (by rfl)) rfl (Or.inl rfl)) (pgs_cons (pg_name (i := 1) (nd_of (by rfl)) rfl (Or.inl rfl)) pgs_nil))), pts_nil, (pe_tup (pa_cons (pe_callC c_greater hr (pa_cons (pv 0) (pa_cons (pe_ix (ix_listK (K := K) rfl) (pv 3) pe_int (fun _ _ => rfl)) pa_nil))) (pa_cons (pv 1) pa_nil)))⟩)) (pss_one (ps_set (i := 1) nd rfl (Or.inr rfl) (pe_op op_cat (pe_lst (pa_cons (pe_callC c_by_weights hr (pa_cons (pv 3) (pa_cons (pe_callC c_all_weights hr (pa_cons (pv 2) pa_nil)) pa_nil))) pa_nil)) (pv 1)))))) (pss_one (ps_ret (pv 1))))), ?_⟩
  have htl := trefs_length ts
  have hlen := g.len
  refine ⟨_, rfl, fun p0 H0 s0 h0 => ?_⟩
  refine ⟨Nat.le_trans sz1 (Nat.le_refl _), fun F0 hF0 => ?_⟩
  have n0 := same_new hF0 (.lst [.ref p0])
  have sA := s0.trans n0
  obtain ⟨dx, k, hx, hK⟩ := hO
  refine ⟨_, rfl, x, C, dx, _, _, rfl, sA _ _ hx, cf.cl, cf.nk, rfl, k, _, rfl, SqT.of (hK.same sA).tp, ?_⟩
  refine for_revT (xs := trefs ts) (fun i σ H' => ∃ F rs v2 v3, σ = [some (.ref x), some (.ref F), v2, v3] /\ Same H H' /\ H F = none /\ FrsAt H' F rs /\ vals rs = Of.onF (tabs (ts.drop (ts.length - i)))) ⟨F0, [⟨p0, 0, 1⟩], none, none, rfl, sA, s0.free hF0, ⟨upd_same, fun r hr => by rw [List.mem_singleton.mp hr]; exact n0 _ _ h0⟩, by rw [Nat.sub_zero, List.drop_length]; rfl⟩ ?keep ?turn ?done
  case keep =>
    rintro i σ H' hi ⟨F, rs, v2, v3, rfl, hs, _⟩
    exact SqT.of (hK.same hs).tp
  case turn =>
    rintro i v σ H' hi hv ⟨F, rs, v2, v3, rfl, hs, hFn, hF, ev⟩
    obtain ⟨t, ht, rfl⟩ := trefs_at hv
    rw [htl] at hi ht
    have hmem := List.mem_of_getElem? ht
    have gy := g.each t hmem
    have hTp := (hK.each t hmem).same hs
    have yl : t.ys.length <= 8 := by have := gy.g.len; rw [tabY_length] at this; exact this
    obtain ⟨r0, rs', er⟩ : ∃ r0 rs', rs = r0 :: rs' := by
      cases rs with
      | nil =>
        exfalso
        cases hz : tabs (ts.drop (ts.length - i)) with
        | nil => rw [hz] at ev; cases ev
        | cons T Ts => rw [hz] at ev; cases ev
      | cons r0 rs' => exact ⟨r0, rs', rfl⟩
    subst er
    have efd : Rk.hd (Of.onF (tabs (ts.drop (ts.length - i)))) = (r0.t, r0.b) := by rw [<- ev]; rfl
    have gd : ∀ T ∈ tabs (ts.drop (ts.length - i)), Of.GT T := fun T hT => by
      obtain ⟨u, hu, rfl⟩ := List.mem_map.mp hT
      exact (g.each u (List.mem_of_mem_drop hu)).g
    have fb : Lg.Fb (r0.t, r0.b) 200 200 := by
      rw [<- efd]
      refine (Of.onF_b _ gd).le ?_ ?_ <;>
      · unfold tabs
        rw [List.length_map, List.length_drop]
        omega
    have hr0 : H' r0.q = some (.tup [.int r0.t, .int r0.b]) := hF.at_ r0 List.mem_cons_self
    refine ⟨_, rfl, t.a, rfl, ⟨_, SqT.of hTp.tp⟩, fun D hD => ?_⟩
    refine comp_tup (xs := refs t.ys) (fun j τ H2 => ∃ w0 w1 zs, τ = [w0, w1, some (.ref x), some (.ref F), some (.ref t.a), v3] /\ Same H' H2 /\ TabAt H2 D zs /\ rwF zs = (t.ys.take j).map fun y => (Rk.gr (y.t, y.b) (r0.t, r0.b), y.w)) ⟨none, none, [], rfl, same_new hD _, ⟨upd_same, fun _ h => nomatch h⟩, rfl⟩ ?keep2 ?turn2 ?done2
    case keep2 =>
      rintro j τ H2 hj ⟨w0, w1, zs, rfl, s2, _⟩
      exact SqT.of (hTp.same s2).tp
    case turn2 =>
      rintro j m v τ H2 hm hj hv ⟨w0, w1, zs, rfl, s2, hZ, ez⟩
      obtain ⟨y, hy, rfl⟩ := refs_at hv
      have ymem := List.mem_of_getElem? hy
      have hr2 := (hTp.same s2).rows y ymem
      have gv := gy.g.vb (List.mem_map.mpr ⟨y, ymem, rfl⟩ : (y.t, y.w) ∈ tabY t.ys)
      have y1 := gy.one y ymem
      have zl : zs.length <= 1000 := by
        have h := congrArg List.length ez
        rw [rwF_length, List.length_map, List.length_take] at h
        omega
      have go : ∀ (pq : Addr) (a b : Int), H2 pq = some (.tup [.int a, .int b]) -> Rk.gr (y.t, y.b) (r0.t, r0.b) = (a, b) -> ∀ p, H2 p = none -> ∃ ys m', m' < m /\ upd H2 p (.tup [.ref pq, .int y.w]) D = some (.lst ys) /\ ys.length < sizeLine /\ CW (refs t.ys).length (fun j τ H2 => ∃ w0 w1 zs, τ = [w0, w1, some (.ref x), some (.ref F), some (.ref t.a), v3] /\ Same H' H2 /\ TabAt H2 D zs /\ rwF zs = (t.ys.take j).map fun y => (Rk.gr (y.t, y.b) (r0.t, r0.b), y.w)) (j + 1) m' [some (.ref y.q), some (.int y.w), some (.ref x), some (.ref F), some (.ref t.a), v3] (upd (upd H2 p (.tup [.ref pq, .int y.w])) D (.lst (ys ++ [.ref p]))) := fun pq a b hpq eg p hp => by
        have n1 := same_new hp (.tup [.ref pq, .int y.w])
        have hZ1 := hZ.same n1
        refine comp_next hm hj hZ1.lst (by rw [refs_length]; exact small1000 zl) ⟨_, _, zs ++ [⟨p, pq, a, b, y.w⟩], rfl, (s2.trans n1).upd_new hD _, ⟨?_, ?_⟩, ?_⟩
        · rw [upd_same, refs_snoc]
        · intro z hz
          rcases List.mem_append.mp hz with u | u
          · exact (hZ1.rows z u).over hZ1.lst
          · rw [List.mem_singleton.mp u]
            exact RowAt.over ⟨upd_same, n1 _ _ hpq⟩ hZ1.lst
        · rw [rwF_snoc, ez, take_snoc hy, List.map_append]
          show _ = _ ++ [(Rk.gr (y.t, y.b) (r0.t, r0.b), y.w)]
          rw [eg]
      refine ⟨y.p, _, rfl, SqT.of hr2.1, rfl, _, _, rfl, _, _, rfl, rfl, ?_⟩
      refine tyes_if ?_
      refine ⟨_, rfl, _, rfl, F, _, _, _, rfl, rfl, SqL.of (hF.same s2).lst, atI_nat (j := 0) rfl, y.q, r0.q, y.t, y.b, r0.t, r0.b, rfl, SqT.of hr2.2, SqT.of (s2 _ _ hr0), ⟨Nat.le_trans gv.1 (by decide), by rw [y1]; decide, Nat.le_trans fb.t (by decide), Nat.le_trans fb.b (by decide)⟩, fun hlt => ?_, fun hnl => ?_⟩
      · refine ⟨_, rfl, sz2, fun p hp => go r0.q r0.t r0.b (s2 _ _ hr0) ?_ p hp⟩
        unfold Rk.gr
        exact if_pos (decide_eq_true hlt)
      · refine ⟨_, rfl, sz2, fun p hp => go y.q y.t y.b hr2.2 ?_ p hp⟩
        unfold Rk.gr
        refine if_neg ?_
        unfold Rk.lt
        rw [decide_eq_false hnl]
        exact Bool.false_ne_true
    case done2 =>
    rintro τ H2 ⟨w0, w1, zs, rfl, s2, hZ, ez⟩
    rw [refs_length, List.take_length] at ez
    have ez2 := gr_rows gy.one ez
    have hw1 := gy.g.W1
    refine ⟨_, rfl, _, rfl, t.a, t.ys, rfl, .inr (hTp.same s2), by omega, fun H3 s3 => ?_⟩
    refine ⟨D, zs, _, rfl, hZ.same s3, brows_gr gy.g fb ez2, by rw [wsum_tabY]; omega, by rw [wsum_tabY]; exact Nat.le_trans gy.g.wb (by decide), fun p H4 s4 hp4 => ?_⟩
    have eon : Of.byF (rwF zs) (wsum t.ys) = Of.onStep (tabY t.ys) (r0.t, r0.b) := by rw [ez2, wsum_tabY]; exact Of.on_eq gy.g fb.pos
    rw [eon] at hp4
    refine ⟨sz1, fun G1 hG1 => ?_⟩
    have n1 := same_new hG1 (.lst [.ref p])
    have s5 := ((s2.trans s3).trans s4).trans n1
    have hF5 := hF.same s5
    refine ⟨_, rfl, G1, F, _, _, rfl, rfl, upd_same, hF5.lst, ?_, fun G2 hG2 => ?_⟩
    · refine Nat.le_of_lt (small1000 ?_)
      have h := congrArg List.length ev
      rw [vals_length] at h
      have h2 : (Of.onF (tabs (ts.drop (ts.length - i)))).length = (tabs (ts.drop (ts.length - i))).length + 1 := onF_length _
      unfold tabs at h2
      rw [List.length_map, List.length_drop] at h2
      rw [rrefs_length]
      show 1 + _ <= 1000
      rw [h, show (Of.onF (tabs (ts.drop (ts.length - i)))).length = ts.length - (ts.length - i) + 1 from h2]
      omega
    · have n2 := same_new hG2 (.lst ([.ref p] ++ rrefs (r0 :: rs')))
      have hF6 := hF5.same n2
      refine ⟨G2, ⟨p, (Of.onStep (tabY t.ys) (r0.t, r0.b)).1, (Of.onStep (tabY t.ys) (r0.t, r0.b)).2⟩ :: r0 :: rs', _, _, rfl, (hs.trans s5).trans n2, (hs.trans s5).free hG2, ⟨upd_same, fun r hr => ?_⟩, ?_⟩
      · rcases List.mem_cons.mp hr with z | z
        · rw [z]
          exact n2 _ _ (n1 _ _ hp4)
        · exact hF6.at_ r z
      · rw [drop_cons (xs := ts) rfl hi ht]
        show Of.onStep (tabY t.ys) (r0.t, r0.b) :: vals (r0 :: rs') = Of.onStep (tabY t.ys) (Rk.hd (Of.onF (tabs (ts.drop (ts.length - i))))) :: Of.onF (tabs (ts.drop (ts.length - i)))
        rw [efd, ev]
  case done =>
    rintro σ H' ⟨F, rs, v2, v3, rfl, hs, hFn, hF, ev⟩
    rw [htl, Nat.sub_self, List.drop_zero] at ev
    exact ⟨_, rfl, q F H' rs hs hFn hF ev⟩
end
end K76
namespace K76
open PySem L2 TD
open Builtin.Int (intBits)
section
variable {P : Program} {w : World} {K : PySem.W.Frag} {mg : Str -> Option Value} {base : Heap} {Pt : Addr}
theorem ok_is_truths {n : Nat} {f : Addr} {fd : FuncData} (F : Fun K "is_truths" "is_truths" (top 30) f fd) (z_all : mg "all" = none) (z_isinstance : mg "isinstance" = none) (z_bool : mg "bool" = none) (z_len : mg "len" = none) (z_list : mg "list" = none) : FnOk P w K mg base CX0 (n + 1) f fd ["truths", "many"] spTru := by
  refine F.ok sc_is_truths (fun vs H Q E h => ?_) (fun cdv A outer s H vs Q E hr h => ?_)
  · obtain ⟨a, bs, m, rfl, _⟩ := h
    rfl
  obtain ⟨a, bs, m, rfl, ha, hm, hl, q⟩ := h
  have nd := sc_is_truths.nd
  refine ⟨_, (pss_cons (ps_if (PW.pt (pw_or (pt_not (pt_val (pe_callB (call_isinst (T := "list")) rfl z_isinstance bt_isinstance (pa_cons (pv 0) (pa_cons (pe_bltn (v := .ty "list") rfl z_list bt_list rfl) pa_nil))))) (pw_or1 (pt_cmpR op_ne (pe_callB call_len_seq rfl z_len bt_len (pa_cons (pv 0) pa_nil)) (pv 1) (nomark _))))) (pss_one (ps_ret pe_bl)) pss_nil) (pss_one (ps_ret (pe_callB (call_allL rfl rfl) rfl z_all bt_all (pa_cons (pe_comp (ls := ["truth"]) (M := ["truths", "many"]) rfl (CompOk.of (by rfl)) (NL.of (by rfl)) (pi_list (pv 0)) (fun _ _ _ _ => ⟨(pg_name (i := 0) (nd_of (by rfl)) rfl (Or.inl rfl)), pts_nil, (pe_callB (call_isinstK (K := K) (T := "bool") rfl) rfl z_isinstance bt_isinstance (pa_cons (pv 0) (pa_cons (pe_bltn (v := .ty "bool") rfl z_bool bt_bool rfl) pa_nil)))⟩)) pa_nil))))), ?_⟩
  refine ⟨_, rfl, _, _, _, rfl, .lst ha, kit_same _, _, rfl, ?_⟩
  refine iteF ?_
  refine ⟨_, rfl, a, _, rfl, .inl (SqL.of ha), _, rfl, rfl, _, rfl, ?_⟩
  refine ifF (by rw [List.length_map, hm]; simp) ?_
  refine ⟨_, rfl, a, rfl, ⟨_, SqL.of ha⟩, fun D hD => ?_⟩
  refine comp_list (xs := bs.map V.bl) (fun i τ H' => ∃ v0, τ = [v0, some (.ref a), some (.int m)] /\ Same H H' /\ H' D = some (.lst ((List.replicate i true).map V.bl))) ⟨none, rfl, same_new hD _, upd_same⟩ ?keep ?turn ?done
  case keep =>
    rintro i τ H' hi ⟨v0, rfl, hs, _⟩
    exact SqL.of (hs _ _ ha)
  case turn =>
    rintro i m' v τ H' hm' hi hv ⟨v0, rfl, hs, hD'⟩
    rw [List.getElem?_map] at hv
    cases eb : bs[i]? with
    | none => rw [eb] at hv; cases hv
    | some b =>
      rw [eb] at hv
      cases hv
      refine gyes ?_
      refine ⟨_, rfl, _, _, _, rfl, .bl _, kit_same _, ?_⟩
      rw [List.length_map] at hi
      refine comp_next hm' (by rw [List.length_map]; exact hi) hD' (by rw [List.length_map, List.length_replicate]; exact small1000 (by omega)) ⟨_, rfl, hs.upd_new hD _, ?_⟩
      rw [upd_same, List.replicate_succ', List.map_append]
      rfl
  case done =>
    rintro τ H' ⟨v0, rfl, hs, hD'⟩
    refine ⟨D, _, rfl, SqL.of hD', ?_⟩
    have e : (List.replicate (bs.map V.bl).length true).all id = true := by simp
    rw [e]
    exact q H' hs
theorem ok_is_rule {n : Nat} {f : Addr} {fd : FuncData} (F : Fun K "is_rule" "is_rule" (top 31) f fd) {g_is_truths : Addr} {gd_is_truths : FuncData} (c_is_truths : Cal P w K mg base n "is_truths" ["truths", "many"] spTru g_is_truths gd_is_truths) (z_all : mg "all" = none) (z_zip : mg "zip" = none) (z_len : mg "len" = none) (z_isinstance : mg "isinstance" = none) (z_list : mg "list" = none) : FnOk P w K mg base CX0 (n + 1) f fd ["rule", "tables"] spRul := by
  refine F.ok sc_is_rule (fun vs H Q E h => ?_) (fun cdv A outer s H vs Q E hr h => ?_)
  · obtain ⟨a, k, rs, ts, rfl, _⟩ := h
    rfl
  obtain ⟨a, k, rs, ts, rfl, hR, hK, g, rt, q⟩ := h
  have nd := sc_is_rule.nd
  refine ⟨_, (pss_cons (ps_if (PW.pt (pw_or (pt_not (pt_val (pe_callB (call_isinst (T := "list")) rfl z_isinstance bt_isinstance (pa_cons (pv 0) (pa_cons (pe_bltn (v := .ty "list") rfl z_list bt_list rfl) pa_nil))))) (pw_or1 (pt_cmpR op_ne (pe_callB call_len_seq rfl z_len bt_len (pa_cons (pv 0) pa_nil)) (pe_callB call_len_seq rfl z_len bt_len (pa_cons (pv 1) pa_nil)) (nomark _))))) (pss_one (ps_ret pe_bl)) pss_nil) (pss_one (ps_ret (pe_callB (call_allL rfl rfl) rfl z_all bt_all (pa_cons (pe_comp (ls := ["truths", "table"]) (M := ["rule", "tables"]) rfl (CompOk.of (by rfl)) (NL.of (by rfl)) (pi_zips (p := false) (q := true) rfl z_zip (pa_cons (pv 0) (pa_cons (pv 1) pa_nil))) (fun _ _ _ _ => ⟨(pg_tupK (K := K) (n := 2) rfl rfl (pgs_cons (pg_name (i := 0) (nd_of (by rfl)) rfl (Or.inl rfl)) (pgs_cons (pg_name (i := 1) (nd_of (by rfl)) rfl (Or.inl rfl)) pgs_nil))), pts_nil, (pe_callC c_is_truths hr (pa_cons (pv 0) (pa_cons (pe_callB (call_len_seqK (K := K) rfl) rfl z_len bt_len (pa_cons (pv 1) pa_nil)) pa_nil)))⟩)) pa_nil))))), ?_⟩
  have hlr := rlrefs_length rs
  have hlt := trefs_length ts
  have ll : rs.length = ts.length := by rw [rt.len]; exact List.length_map _
  have gl := g.len
  refine ⟨_, rfl, _, _, _, rfl, .lst hR.lst, kit_same _, _, rfl, ?_⟩
  refine iteF ?_
  refine ⟨_, rfl, a, _, rfl, .inl (SqL.of hR.lst), _, rfl, k, _, rfl, .inr (SqT.of hK.tp), rfl, _, rfl, ?_⟩
  refine ifF (by rw [hlr, hlt, ll]; simp) ?_
  refine ⟨_, rfl, _, rfl, a, k, _, _, rfl, SqL.of hR.lst, SqT.of hK.tp, fun D hD => ?_⟩
  refine comp_zips (xs := rlrefs rs) (ys := trefs ts) (fun i τ H' => ∃ v0 v1, τ = [v0, v1, some (.ref a), some (.ref k)] /\ Same H H' /\ H' D = some (.lst ((List.replicate i true).map V.bl))) (by rw [hlr, hlt, ll]) ⟨none, none, rfl, same_new hD _, upd_same⟩ ?keep ?turn ?done
  case keep =>
    rintro i τ H' hi ⟨v0, v1, rfl, hs, _⟩
    exact ⟨SqL.of (hR.same hs).lst, SqT.of (hK.same hs).tp⟩
  case turn =>
    rintro i m x y T τ H' hm hi hx hy hT ⟨v0, v1, rfl, hs, hD'⟩
    obtain ⟨r, hr1, rfl⟩ := rlrefs_at hx
    obtain ⟨t, ht1, rfl⟩ := trefs_at hy
    have n1 := same_new hT (.tup [.ref r.a, .ref t.a])
    have s1 := hs.trans n1
    have tm := List.mem_of_getElem? ht1
    have hb := (hR.same s1).each r (List.mem_of_getElem? hr1)
    have ht := (hK.same s1).each t tm
    have el := rt.each i r (tabY t.ys) hr1 (by unfold tabs; rw [List.getElem?_map, ht1]; rfl)
    rw [tabY_length] at el
    have yl : t.ys.length <= 8 := by have := (g.each t tm).g.len; rw [tabY_length] at this; exact this
    refine ⟨T, _, rfl, SqT.of upd_same, rfl, _, _, rfl, _, _, rfl, rfl, ?_⟩
    refine tyes_if ?_
    refine ⟨_, rfl, _, rfl, t.a, _, rfl, .inr (SqT.of ht.tp), r.a, r.bs, _, rfl, hb, by rw [refs_length, el], by omega, fun H2 s2 => ?_⟩
    refine comp_next hm hi (s2 _ _ (n1 _ _ hD')) (by rw [List.length_map, List.length_replicate]; exact small1000 (by rw [hlr] at hi; omega)) ⟨_, _, rfl, (s1.trans s2).upd_new hD _, ?_⟩
    rw [upd_same, List.replicate_succ', List.map_append]
    rfl
  case done =>
    rintro τ H' ⟨v0, v1, rfl, hs, hD'⟩
    refine ⟨D, _, rfl, SqL.of hD', ?_⟩
    have e : (List.replicate (rlrefs rs).length true).all id = true := by simp
    rw [e]
    exact q H' hs
theorem ok_share_of_some {n : Nat} {f : Addr} {fd : FuncData} (F : Fun K "share_of_some" "share_of_some" (top 32) f fd) {g_share : Addr} {gd_share : FuncData} (c_share : Cal P w K mg base n "share" ["top", "bottom"] spShare g_share gd_share) {g_all_weights : Addr} {gd_all_weights : FuncData} (c_all_weights : Cal P w K mg base n "all_weights" ["table"] spAWe g_all_weights gd_all_weights) (z_zip : mg "zip" = none) : FnOk P w K mg base CX0 (n + 1) f fd ["table", "truths"] spSS := by
  refine F.ok sc_share_of_some (fun vs H Q E h => ?_) (fun cdv A outer s H vs Q E hr h => ?_)
  · obtain ⟨a, b, ys, bs, rfl, _⟩ := h
    rfl
  obtain ⟨a, b, ys, bs, rfl, hT, hb, gy, el, q⟩ := h
  have nd := sc_share_of_some.nd
  refine ⟨_, (pss_cons (ps_setC (i := 2) (ls := ["row", "truth"]) (M := ["table", "truths", "taken"]) rfl (CompOk.of (by rfl)) (NL.of (by rfl)) nd rfl (Or.inl rfl) (pi_zips (p := true) (q := false) rfl z_zip (pa_cons (pv 0) (pa_cons (pv 1) pa_nil))) (fun _ _ _ _ => ⟨(pg_tupK (K := K) (n := 2) rfl rfl (pgs_cons (pg_name (i := 0) (nd_of (by rfl)) rfl (Or.inl rfl)) (pgs_cons (pg_name (i := 1) (nd_of (by rfl)) rfl (Or.inl rfl)) pgs_nil))), (pts_one (pt_val (pv 1))), (pv 0)⟩)) (pss_one (ps_ret (pe_callC c_share hr (pa_cons (pe_callC c_all_weights hr (pa_cons (pv 2) pa_nil)) (pa_cons (pe_callC c_all_weights hr (pa_cons (pv 0) pa_nil)) pa_nil)))))), ?_⟩
  have hlr := refs_length ys
  have yl : ys.length <= 8 := by have := gy.g.len; rw [tabY_length] at this; exact this
  have hw1 := gy.g.W1
  refine ⟨_, rfl, _, rfl, a, b, _, _, rfl, SqT.of hT.tp, SqL.of hb, fun D hD => ?_⟩
  refine comp_zips (xs := refs ys) (ys := bs.map V.bl) (fun i τ H' => ∃ v0 v1, τ = [v0, v1, some (.ref a), some (.ref b), none] /\ Same H H' /\ H' D = some (.lst (refs (some_ (ys.take i) (bs.take i))))) (by rw [hlr, List.length_map, el]) ⟨none, none, rfl, same_new hD _, upd_same⟩ ?keep ?turn ?done
  case keep =>
    rintro i τ H' hi ⟨v0, v1, rfl, hs, _⟩
    exact ⟨SqT.of (hT.same hs).tp, SqL.of (hs _ _ hb)⟩
  case turn =>
    rintro i m x v T τ H' hm hi hx hv hTn ⟨v0, v1, rfl, hs, hD'⟩
    obtain ⟨y, hy, rfl⟩ := refs_at hx
    rw [List.getElem?_map] at hv
    cases eb : bs[i]? with
    | none => rw [eb] at hv; cases hv
    | some c =>
      rw [eb] at hv
      cases hv
      have n1 := same_new hTn (.tup [.ref y.p, .bl c])
      refine ⟨T, _, rfl, SqT.of upd_same, rfl, _, _, rfl, _, _, rfl, rfl, ?_⟩
      have sn := some_snoc hy eb
      refine ⟨_, rfl, c, rfl, ?_⟩
      cases c with
      | false =>
        refine ifF rfl ?_
        refine comp_skip hm hi ⟨_, _, rfl, hs.trans n1, ?_⟩
        rw [sn]
        exact n1 _ _ hD'
      | true =>
        refine ifT rfl ?_
        refine ⟨_, rfl, ?_⟩
        refine comp_next hm hi (n1 _ _ hD') (by rw [refs_length]; exact small1000 (Nat.le_trans (some_len _ _) (Nat.le_trans (List.length_take_le _ _) (by omega)))) ⟨_, _, rfl, (hs.trans n1).upd_new hD _, ?_⟩
        rw [upd_same, sn]
        exact congrArg (fun l => some (HO.lst l)) (refs_snoc _ _).symm
  case done =>
  rintro τ H1 ⟨v0, v1, rfl, s1, hD1⟩
  rw [hlr, List.take_length, el, List.take_length] at hD1
  have hY : TabAt H1 D (some_ ys bs) := ⟨hD1, fun y hy => ((hT.rows y (some_mem hy)).same s1)⟩
  have sl := some_len ys bs
  refine ⟨_, rfl, D, _, rfl, .inl hY, by omega, fun H2 s2 => ?_⟩
  refine ⟨_, rfl, a, ys, rfl, .inr (hT.same (s1.trans s2)), by omega, fun H3 s3 => ?_⟩
  refine ⟨_, _, rfl, by rw [wsum_tabY]; omega, by rw [wsum_tabY]; exact Nat.le_trans gy.g.wb (by decide), fun p H4 s4 h4 => ?_⟩
  refine q p H4 (((s1.trans s2).trans s3).trans s4) ?_
  rw [some_w, wsum_tabY] at h4
  exact h4
end
end K76
namespace K76
open PySem L2 TD
open Builtin.Int (intBits)
section
variable {P : Program} {w : World} {K : PySem.W.Frag} {mg : Str -> Option Value} {base : Heap} {Pt : Addr}
theorem szs {f g : Rk.Fc} {x y z u : Nat} (h : Lg.Fb f x y) (k : Lg.Fb g z u) (h1 : x <= 4400) (h2 : y <= 4400) (h3 : z <= 4400) (h4 : u <= 4400) : SzS f.1 f.2 g.1 g.2 := ⟨Nat.le_trans h.t h1, Nat.le_trans h.b h2, Nat.le_trans k.t h3, Nat.le_trans k.b h4⟩
theorem mulne {f g : Rk.Fc} {x y z u : Nat} (h : Lg.Fb f x y) (k : Lg.Fb g z u) : f.2 * g.2 ≠ 0 := Int.ne_of_gt (Int.mul_pos h.pos k.pos)
theorem ok_Offers_need_rule {n : Nat} {f : Addr} {fd : FuncData} (F : Fun K "need_rule" "Offers.need_rule" (inClass (top 34) 8) f fd) {C : Addr} (cf : OF K C) {g_is_rule : Addr} {gd_is_rule : FuncData} (c_is_rule : Cal P w K mg base n "is_rule" ["rule", "tables"] spRul g_is_rule gd_is_rule) : FnOk P w K mg base CX0 (n + 1) f fd ["self", "rule"] (spNR C) := by
  refine F.ok sc_Offers_need_rule (fun vs H Q E h => ?_) (fun cdv A outer s H vs Q E hr h => ?_)
  · obtain ⟨x, a, ts, rs, rfl, _⟩ := h
    rfl
  obtain ⟨x, a, ts, rs, rfl, hO, hR, g, rt, q⟩ := h
  have nd := sc_Offers_need_rule.nd
  refine ⟨_, (pss_one (ps_if (pt_not (pt_val (pe_callC c_is_rule hr (pa_cons (pv 1) (pa_cons (pe_fld (pv 0) rfl) pa_nil))))) (pss_one ps_never) pss_nil)), ?_⟩
  obtain ⟨dx, k, hx, hK⟩ := hO
  refine ⟨_, rfl, _, rfl, x, C, dx, _, _, rfl, hx, cf.cl, cf.nk, rfl, a, k, rs, ts, rfl, hR, hK, g, rt, fun H1 s1 => ?_⟩
  refine ⟨_, rfl, ?_⟩
  refine iteF ?_
  exact q H1 s1
theorem ownrow {ys : List Row} {bs : List Bool} {f : Rk.Fc} {zs : List Row} (one : ∀ y ∈ ys, y.b = 1) (e : rwF zs = (ys.zip bs).map fun x => ((if x.2 = true then (x.1.t, x.1.b) else f), x.1.w)) : rwF zs = Of.ownRows (tabY ys) bs f := by
  rw [e]
  clear e zs
  unfold Of.ownRows tabY
  induction ys generalizing bs with
  | nil => rfl
  | cons y ys ih =>
    cases bs with
    | nil => rfl
    | cons b bs =>
      simp only [List.map_cons, List.zip_cons_cons]
      rw [ih fun z hz => one z (List.mem_cons_of_mem _ hz), one y List.mem_cons_self]
theorem zip_snoc {ys : List Row} {bs : List Bool} {i : Nat} {y : Row} {b : Bool} (h1 : ys[i]? = some y) (h2 : bs[i]? = some b) : (ys.take (i + 1)).zip (bs.take (i + 1)) = (ys.take i).zip (bs.take i) ++ [(y, b)] := by
  have l1 := (List.getElem?_eq_some_iff.mp h1).1
  have l2 := (List.getElem?_eq_some_iff.mp h2).1
  have e : (ys.take i).length = (bs.take i).length := by rw [List.length_take, List.length_take]; omega
  rw [take_snoc h1, take_snoc h2, List.zip_append e]
  rfl
theorem brows_own {T : Of.Tab} {R : List Bool} {f : Rk.Fc} {zs : List Row} (g : Of.GT T) (hf : Lg.Fb f 200 200) (e : rwF zs = Of.ownRows T R f) : BRows zs := by
  have hl : zs.length <= 8 := by
    have := congrArg List.length e
    rw [rwF_length] at this
    unfold Of.ownRows at this
    rw [List.length_map] at this
    have := Of.zlen (R := R) g.len
    omega
  have key : ∀ z ∈ zs, 0 < z.b /\ intBits z.t <= 200 /\ intBits z.b <= 200 /\ intBits z.w <= 13 := fun z hz => by
    have h1 := mem_rwF hz
    rw [e] at h1
    obtain ⟨r, hr, er⟩ := List.mem_map.mp h1
    have e1 : (if r.2 = true then ((r.1.1, 1) : Rk.Fc) else f) = (z.t, z.b) := congrArg Prod.fst er
    have e2 : r.1.2 = z.w := congrArg Prod.snd er
    obtain ⟨a, b⟩ := g.vb (List.of_mem_zip (show (r.1, r.2) ∈ T.zip R from hr)).1
    rw [<- e2]
    split at e1
    · have h2 : (1 : Int) = z.b := congrArg Prod.snd e1
      have h1 : r.1.1 = z.t := congrArg Prod.fst e1
      rw [<- h1, <- h2]
      exact ⟨by decide, Nat.le_trans a (by decide), by decide, b⟩
    · have h2 : f.2 = z.b := congrArg Prod.snd e1
      have h1 : f.1 = z.t := congrArg Prod.fst e1
      rw [<- h1, <- h2]
      exact ⟨hf.pos, hf.t, hf.b, b⟩
  refine ⟨by omega, fun z hz => (key z hz).1, fun z hz => Nat.le_trans (key z hz).2.1 (by decide), fun z hz => Nat.le_trans (key z hz).2.2.2 (by decide), ?_⟩
  have := sum_nat_le (k := 200) (l := (zs.map Row.b).map intBits) fun n hn => by
    obtain ⟨b, hb, rfl⟩ := List.mem_map.mp hn
    obtain ⟨z, hz, rfl⟩ := List.mem_map.mp hb
    exact (key z hz).2.2.1
  rw [List.length_map, List.length_map] at this
  omega
theorem ok_moment_loss {n : Nat} {f : Addr} {fd : FuncData} (F : Fun K "moment_loss" "moment_loss" (top 33) f fd) {g_minus : Addr} {gd_minus : FuncData} (c_minus : Cal P w K mg base n "minus" ["one", "other"] (spFr K mT pB) g_minus gd_minus) {g_by_weights : Addr} {gd_by_weights : FuncData} (c_by_weights : Cal P w K mg base n "by_weights" ["rows", "weights"] spBWf g_by_weights gd_by_weights) {g_greater : Addr} {gd_greater : FuncData} (c_greater : Cal P w K mg base n "greater" ["one", "other"] (spGr K) g_greater gd_greater) {g_all_weights : Addr} {gd_all_weights : FuncData} (c_all_weights : Cal P w K mg base n "all_weights" ["table"] spAWe g_all_weights gd_all_weights) (z_zip : mg "zip" = none) : FnOk P w K mg base CX0 (n + 1) f fd ["table", "truths", "worth_on"] spML := by
  refine F.ok sc_moment_loss (fun vs H Q E h => ?_) (fun cdv A outer s H vs Q E hr h => ?_)
  · obtain ⟨a, b, c, ys, bs, f, rfl, _⟩ := h
    rfl
  obtain ⟨a, b, c, ys, bs, f, rfl, hT, hb, hc, gy, el, fb, q⟩ := h
  have nd := sc_moment_loss.nd
  refine ⟨_, (pss_cons (ps_set (i := 3) nd rfl (Or.inl rfl) (pe_callC c_all_weights hr (pa_cons (pv 0) pa_nil))) (pss_cons (ps_setC (i := 4) (ls := ["worth", "weight"]) (M := ["table", "truths", "worth_on", "weights", "most", "own"]) rfl (CompOk.of (by rfl)) (NL.of (by rfl)) nd rfl (Or.inl rfl) (pi_tup (pv 0)) (fun _ _ _ _ => ⟨(pg_tupK (K := K) (n := 2) rfl rfl (pgs_cons (pg_name (i := 0) (nd_of (by rfl)) rfl (Or.inl rfl)) (pgs_cons (pg_name (i := 1) (nd_of (by rfl)) rfl (Or.inl rfl)) pgs_nil))), pts_nil, (pe_tup (pa_cons (pe_callC c_greater hr (pa_cons (pv 0) (pa_cons (pv 4) pa_nil))) (pa_cons (pv 1) pa_nil)))⟩)) (pss_cons (ps_setC (i := 5) (ls := ["row", "truth"]) (M := ["table", "truths", "worth_on", "weights", "most", "own"]) rfl (CompOk.of (by rfl)) (NL.of (by rfl)) nd rfl (Or.inl rfl) (pi_zips (p := true) (q := false) rfl z_zip (pa_cons (pv 0) (pa_cons (pv 1) pa_nil))) (fun _ _ _ _ => ⟨(pg_tupK (K := K) (n := 2) rfl rfl (pgs_cons (pg_name (i := 0) (nd_of (by rfl)) rfl (Or.inl rfl)) (pgs_cons (pg_name (i := 1) (nd_of (by rfl)) rfl (Or.inl rfl)) pgs_nil))), pts_nil, (pe_tup (pa_cons (pe_ifExp (pt_val (pv 1)) (pe_ix (ix_tupK (K := K) rfl) (pv 0) pe_int (fun _ _ => rfl)) (pv 4)) (pa_cons (pe_ix (ix_tupK (K := K) rfl) (pv 0) pe_int (fun _ _ => rfl)) pa_nil)))⟩)) (pss_one (ps_ret (pe_callC c_minus hr (pa_cons (pe_callC c_by_weights hr (pa_cons (pv 4) (pa_cons (pv 3) pa_nil))) (pa_cons (pe_callC c_by_weights hr (pa_cons (pv 5) (pa_cons (pv 3) pa_nil))) pa_nil)))))))), ?_⟩
  have hlr := refs_length ys
  have yl : ys.length <= 8 := by have := gy.g.len; rw [tabY_length] at this; exact this
  have hw1 := gy.g.W1
  refine ⟨_, rfl, a, ys, rfl, .inr hT, by omega, fun H0 s0 => ?_⟩
  have hT0 := hT.same s0
  have hb0 := s0 _ _ hb
  have hc0 : FcAt H0 c f := s0 _ _ hc
  refine ⟨_, rfl, a, rfl, ⟨_, SqT.of hT0.tp⟩, fun D hD => ?_⟩
  refine comp_tup (xs := refs ys) (fun j τ H2 => ∃ w0 w1 zs, τ = [w0, w1, some (.ref a), some (.ref b), some (.ref c), some (.int (wsum ys)), none, none] /\ Same H0 H2 /\ TabAt H2 D zs /\ rwF zs = (ys.take j).map fun y => (Rk.gr (y.t, y.b) f, y.w)) ⟨none, none, [], rfl, same_new hD _, ⟨upd_same, fun _ h => nomatch h⟩, rfl⟩ ?keep2 ?turn2 ?done2
  case keep2 =>
    rintro j τ H2 hj ⟨w0, w1, zs, rfl, s2, _⟩
    exact SqT.of (hT0.same s2).tp
  case turn2 =>
    rintro j m v τ H2 hm hj hv ⟨w0, w1, zs, rfl, s2, hZ, ez⟩
    obtain ⟨y, hy, rfl⟩ := refs_at hv
    have ymem := List.mem_of_getElem? hy
    have hr2 := (hT0.same s2).rows y ymem
    have gv := gy.g.vb (List.mem_map.mpr ⟨y, ymem, rfl⟩ : (y.t, y.w) ∈ tabY ys)
    have y1 := gy.one y ymem
    have zl : zs.length <= 1000 := by
      have h := congrArg List.length ez
      rw [rwF_length, List.length_map, List.length_take] at h
      omega
    have go : ∀ (pq : Addr) (x1 x2 : Int), H2 pq = some (.tup [.int x1, .int x2]) -> Rk.gr (y.t, y.b) f = (x1, x2) -> ∀ p, H2 p = none -> ∃ us m', m' < m /\ upd H2 p (.tup [.ref pq, .int y.w]) D = some (.lst us) /\ us.length < sizeLine /\ CW (refs ys).length (fun j τ H2 => ∃ w0 w1 zs, τ = [w0, w1, some (.ref a), some (.ref b), some (.ref c), some (.int (wsum ys)), none, none] /\ Same H0 H2 /\ TabAt H2 D zs /\ rwF zs = (ys.take j).map fun y => (Rk.gr (y.t, y.b) f, y.w)) (j + 1) m' [some (.ref y.q), some (.int y.w), some (.ref a), some (.ref b), some (.ref c), some (.int (wsum ys)), none, none] (upd (upd H2 p (.tup [.ref pq, .int y.w])) D (.lst (us ++ [.ref p]))) := fun pq x1 x2 hpq eg p hp => by
      have n1 := same_new hp (.tup [.ref pq, .int y.w])
      have hZ1 := hZ.same n1
      refine comp_next hm hj hZ1.lst (by rw [refs_length]; exact small1000 zl) ⟨_, _, zs ++ [⟨p, pq, x1, x2, y.w⟩], rfl, (s2.trans n1).upd_new hD _, ⟨?_, ?_⟩, ?_⟩
      · rw [upd_same, refs_snoc]
      · intro z hz
        rcases List.mem_append.mp hz with u | u
        · exact (hZ1.rows z u).over hZ1.lst
        · rw [List.mem_singleton.mp u]
          exact RowAt.over ⟨upd_same, n1 _ _ hpq⟩ hZ1.lst
      · rw [rwF_snoc, ez, take_snoc hy, List.map_append]
        show _ = _ ++ [(Rk.gr (y.t, y.b) f, y.w)]
        rw [eg]
    refine ⟨y.p, _, rfl, SqT.of hr2.1, rfl, _, _, rfl, _, _, rfl, rfl, ?_⟩
    refine tyes_if ?_
    refine ⟨_, rfl, _, rfl, y.q, c, y.t, y.b, f.1, f.2, rfl, SqT.of hr2.2, sq_fc (s2 _ _ hc0), ⟨Nat.le_trans gv.1 (by decide), by rw [y1]; decide, Nat.le_trans fb.t (by decide), Nat.le_trans fb.b (by decide)⟩, fun hlt => ?_, fun hnl => ?_⟩
    · refine ⟨_, rfl, sz2, fun p hp => go c f.1 f.2 (s2 _ _ hc0) ?_ p hp⟩
      unfold Rk.gr
      exact if_pos (decide_eq_true hlt)
    · refine ⟨_, rfl, sz2, fun p hp => go y.q y.t y.b hr2.2 ?_ p hp⟩
      unfold Rk.gr
      refine if_neg ?_
      unfold Rk.lt
      rw [decide_eq_false hnl]
      exact Bool.false_ne_true
  case done2 =>
  rintro τ H2 ⟨w0, w1, zs, rfl, s2, hZ, ez⟩
  rw [hlr, List.take_length] at ez
  have ez2 := gr_rows gy.one ez
  have hT2 := hT0.same s2
  have hb2 := s2 _ _ hb0
  have hc2 : FcAt H2 c f := s2 _ _ hc0
  refine ⟨_, rfl, _, rfl, a, b, _, _, rfl, SqT.of hT2.tp, SqL.of hb2, fun D3 hD3 => ?_⟩
  refine comp_zips (xs := refs ys) (ys := bs.map V.bl) (fun i τ H' => ∃ v0 v1 us, τ = [v0, v1, some (.ref a), some (.ref b), some (.ref c), some (.int (wsum ys)), some (.ref D), none] /\ Same H2 H' /\ TabAt H' D3 us /\ rwF us = ((ys.take i).zip (bs.take i)).map fun x => ((if x.2 = true then (x.1.t, x.1.b) else f), x.1.w)) (by rw [hlr, List.length_map, el]) ⟨none, none, [], rfl, same_new hD3 _, ⟨upd_same, fun _ h => nomatch h⟩, rfl⟩ ?keep3 ?turn3 ?done3
  case keep3 =>
    rintro i τ H' hi ⟨v0, v1, us, rfl, hs, _⟩
    exact ⟨SqT.of (hT2.same hs).tp, SqL.of (hs _ _ hb2)⟩
  case turn3 =>
    rintro i m x v T τ H' hm hi hx hv hTn ⟨v0, v1, us, rfl, hs, hU, eu⟩
    obtain ⟨y, hy, rfl⟩ := refs_at hx
    rw [List.getElem?_map] at hv
    cases eb : bs[i]? with
    | none => rw [eb] at hv; cases hv
    | some d =>
      rw [eb] at hv
      cases hv
      have n1 := same_new hTn (.tup [.ref y.p, .bl d])
      have hr2 := ((hT2.same hs).same n1).rows y (List.mem_of_getElem? hy)
      have hc3 : FcAt (upd H' T (.tup [.ref y.p, .bl d])) c f := n1 _ _ (hs _ _ hc2)
      have hU1 := hU.same n1
      have ul : us.length <= 1000 := by
        have h := congrArg List.length eu
        rw [rwF_length, List.length_map, List.length_zip, List.length_take] at h
        omega
      have zn := zip_snoc hy eb
      refine ⟨T, _, rfl, SqT.of upd_same, rfl, _, _, rfl, _, _, rfl, rfl, ?_⟩
      refine tyes_if ?_
      generalize upd H' T (.tup [.ref y.p, .bl d]) = H1 at n1 hr2 hc3 hU1 ⊢
      have go : ∀ (pq : Addr) (x1 x2 : Int), H1 pq = some (.tup [.int x1, .int x2]) -> (if d = true then (y.t, y.b) else f) = (x1, x2) -> ∀ p, H1 p = none -> ∃ ks m', m' < m /\ upd H1 p (.tup [.ref pq, .int y.w]) D3 = some (.lst ks) /\ ks.length < sizeLine /\ CW (refs ys).length (fun i τ H' => ∃ v0 v1 us, τ = [v0, v1, some (.ref a), some (.ref b), some (.ref c), some (.int (wsum ys)), some (.ref D), none] /\ Same H2 H' /\ TabAt H' D3 us /\ rwF us = ((ys.take i).zip (bs.take i)).map fun x => ((if x.2 = true then (x.1.t, x.1.b) else f), x.1.w)) (i + 1) m' [some (.ref y.p), some (.bl d), some (.ref a), some (.ref b), some (.ref c), some (.int (wsum ys)), some (.ref D), none] (upd (upd H1 p (.tup [.ref pq, .int y.w])) D3 (.lst (ks ++ [.ref p]))) := fun pq x1 x2 hpq eg p hp => by
        have n2 := same_new hp (.tup [.ref pq, .int y.w])
        have hU2 := hU1.same n2
        refine comp_next hm hi hU2.lst (by rw [refs_length]; exact small1000 ul) ⟨_, _, us ++ [⟨p, pq, x1, x2, y.w⟩], rfl, ((hs.trans n1).trans n2).upd_new hD3 _, ⟨?_, ?_⟩, ?_⟩
        · rw [upd_same, refs_snoc]
        · intro z hz
          rcases List.mem_append.mp hz with u | u
          · exact (hU2.rows z u).over hU2.lst
          · rw [List.mem_singleton.mp u]
            exact RowAt.over ⟨upd_same, n2 _ _ hpq⟩ hU2.lst
        · rw [rwF_snoc, eu, zn, List.map_append]
          show _ = _ ++ [((if d = true then (y.t, y.b) else f), y.w)]
          rw [eg]
      refine ⟨_, rfl, d, rfl, ?_⟩
      cases d with
      | false =>
        refine ifF rfl ?_
        exact ⟨_, rfl, _, rfl, y.p, _, _, _, rfl, rfl, SqT.of hr2.1, rfl, sz2, fun p hp => go c f.1 f.2 hc3 rfl p hp⟩
      | true =>
        refine ifT rfl ?_
        exact ⟨_, rfl, y.p, _, _, _, rfl, rfl, SqT.of hr2.1, rfl, _, rfl, y.p, _, _, _, rfl, rfl, SqT.of hr2.1, rfl, sz2, fun p hp => go y.q y.t y.b hr2.2 rfl p hp⟩
  case done3 =>
  rintro τ H3 ⟨v0, v1, us, rfl, s3, hU, eu⟩
  rw [hlr, List.take_length, el, List.take_length] at eu
  have eu2 := ownrow gy.one eu
  have wp : 0 < wsum ys := by rw [wsum_tabY]; omega
  have wq : intBits (wsum ys) <= 64 := by rw [wsum_tabY]; exact Nat.le_trans gy.g.wb (by decide)
  refine ⟨_, rfl, _, rfl, D, zs, _, rfl, hZ.same s3, brows_gr gy.g fb ez2, wp, wq, fun p1 H4 s4 h4 => ?_⟩
  refine ⟨_, rfl, _, rfl, D3, us, _, rfl, hU.same s4, brows_own gy.g fb eu2, wp, wq, fun p2 H5 s5 h5 => ?_⟩
  rw [ez2, wsum_tabY] at h4
  rw [eu2, wsum_tabY] at h5
  have gb := Of.gr_b gy.g fb
  have ob := Of.own_b (R := bs) gy.g fb
  refine ⟨p1, p2, _, _, _, _, rfl, sq_fc (s5 _ _ h4), sq_fc h5, szs gb ob (by decide) (by decide) (by decide) (by decide), mulne gb ob, fun p H6 s6 h6 => ?_⟩
  refine q p H6 (((((s0.trans s2).trans s3).trans s4).trans s5).trans s6) ?_
  rw [<- Of.loss_eq gy.g (by rw [tabY_length]; exact el) fb.pos]
  exact h6
end
end K76
namespace K76
open PySem L2 TD
open Builtin.Int (intBits)
section
variable {P : Program} {w : World} {K : PySem.W.Frag} {mg : Str -> Option Value} {base : Heap} {Pt : Addr}
theorem powOk (e : Int) (h1 : 0 <= e) (h2 : e <= 1000000) : CPow 10 e := ⟨h1, h2, by decide⟩
theorem div44 : CDivB 0 (10 ^ (44 : Int).toNat) := ⟨by decide +kernel, by decide +kernel⟩
theorem ok__law_lists {n : Nat} {f : Addr} {fd : FuncData} (F : Fun K "_law_lists" "_law_lists" (top 40) f fd) {g__law_cell : Addr} {gd__law_cell : FuncData} (c__law_cell : Cal P w K mg base n "_law_cell" ["_law_script", "_law_k"] (spCell K) g__law_cell gd__law_cell) {g__law_mix : Addr} {gd__law_mix : FuncData} (c__law_mix : Cal P w K mg base n "_law_mix" ["_law_cell_here", "_law_k"] spMix g__law_mix gd__law_mix) (z_range : mg "range" = none) : FnOk P w K mg base CX0 (n + 1) f fd ["_law_script", "_law_most", "_law_wide"] (spLL K) := by
  refine F.ok sc__law_lists (fun vs H Q E h => ?_) (fun cdv A outer s H vs Q E hr h => ?_)
  · obtain ⟨a, ns, rfl, _⟩ := h
    rfl
  obtain ⟨a, ns, rfl, hS, q⟩ := h
  have nd := sc__law_lists.nd
  refine ⟨_, (pss_cons (ps_set (i := 3) nd rfl (Or.inl rfl) (pe_lst pa_nil)) (pss_cons (ps_for PassesOwn.never rfl (pi_range1 rfl z_range (pa_cons (pe_op op_add pe_int (pe_op op_mod (pe_callC c__law_cell hr (pa_cons (pv 0) (pa_cons pe_int pa_nil))) (pv 1))) pa_nil)) (pg_name (i := 4) nd rfl (Or.inl rfl)) (pss_cons (ps_set (i := 5) nd rfl (Or.inl rfl) (pe_callC c__law_cell hr (pa_cons (pv 0) (pa_cons (pe_op op_add pe_int (pv 4)) pa_nil)))) (pss_cons (ps_set (i := 6) nd rfl (Or.inl rfl) (pe_lst pa_nil)) (pss_cons (ps_for PassesOwn.never rfl (pi_range1 rfl z_range (pa_cons (pe_op op_add pe_int (pe_op op_mod (pv 5) (pv 2))) pa_nil)) (pg_name (i := 7) nd rfl (Or.inl rfl)) (pss_cons (ps_set (i := 8) nd rfl (Or.inl rfl) (pe_callC c__law_cell hr (pa_cons (pv 0) (pa_cons (pe_op op_add (pe_op op_add pe_int (pe_op op_mul (pv 2) (pv 4))) (pv 7)) pa_nil)))) (pss_cons (ps_set (i := 9) nd rfl (Or.inl rfl) (pe_ix ix_list (pe_lst (pa_cons (pe_op op_mod (pe_op op_fdiv (pv 8) pe_int) pe_int) (pa_cons (pe_op op_mod (pe_op op_fdiv (pv 8) pe_int) (pe_op op_add (pe_op op_pow pe_int pe_int) pe_int)) (pa_cons (pe_op op_mod (pe_callC c__law_mix hr (pa_cons (pv 5) (pa_cons (pv 7) pa_nil))) pe_int) pa_nil)))) (pe_op op_mod (pv 8) pe_int) (fun _ _ => rfl))) (pss_cons (ps_set (i := 10) nd rfl (Or.inl rfl) (pe_op op_mod (pe_op op_add (pe_callC c__law_mix hr (pa_cons (pv 8) (pa_cons (pv 7) pa_nil))) (pe_op op_fdivB (pv 8) (pe_op op_pow pe_int pe_int))) (pe_ix ix_list (pe_lst (pa_cons pe_int (pa_cons pe_int pa_nil))) (pe_op op_mod (pe_op op_fdiv (pv 5) pe_int) pe_int) (fun _ _ => rfl)))) (pss_one (ps_expr (pe_bm PySem.F.plainAttrs_list PySem.F.slot_list_append PySem.F.type_list_append mt_append (pv 6) (pa_cons (pe_tup (pa_cons (pv 9) (pa_cons (pe_op op_add pe_int (pv 10)) pa_nil))) pa_nil)))))))) (pss_one (ps_expr (pe_bm PySem.F.plainAttrs_list PySem.F.slot_list_append PySem.F.type_list_append mt_append (pv 3) (pa_cons (pv 6) pa_nil)))))))) (pss_one (ps_ret (pv 3))))), ?_⟩
  have d1 := Int.emod_nonneg (cellF ns 0) (show (8 : Int) ≠ 0 by decide)
  have d2 := Int.emod_lt_of_pos (cellF ns 0) (show (0 : Int) < 8 by decide)
  refine ⟨Nat.zero_le _, fun D hD => ?_⟩
  have nD := same_new hD (.lst [])
  refine ⟨_, rfl, a, ns, 0, rfl, nD.seq hS, by decide, _, rfl, _, _, rfl, rfl, (by show (0 : Int) < 8; decide), _, _, rfl, rfl, (1 + cellF ns 0 % 8), rfl, by omega, by omega, ?_⟩
  refine for_range (n := (1 + cellF ns 0 % 8).toNat) (fun i σ H' => ∃ ls v4 v5 v6 v7 v8 v9 v10, σ = [some (.ref a), some (.int 8), some (.int 3), some (.ref D), v4, v5, v6, v7, v8, v9, v10] /\ Same H H' /\ LsAt H' D ls /\ ls.length = i /\ (∀ l ∈ ls, GI l.xs) /\ (∀ l ∈ ls, l.a ≠ D)) ⟨[], none, none, none, none, none, none, none, rfl, nD, ⟨upd_same, fun _ h => nomatch h⟩, rfl, (fun _ h => nomatch h), fun _ h => nomatch h⟩ ?_ ?_
  · rintro i σ H' hi ⟨ls, v4, v5, v6, v7, v8, v9, v10, rfl, hs, hE, hl, ge, nn⟩
    refine ⟨_, rfl, _, rfl, _, _, rfl, rfl, a, ns, 1 + (0 + (i : Int)), rfl, hs.seq hS, by omega, ?_⟩
    generalize cellF ns (1 + (0 + (i : Int))) = c
    refine ⟨Nat.zero_le _, fun R hR => ?_⟩
    have c1 := Int.emod_nonneg c (show (3 : Int) ≠ 0 by decide)
    have c2 := Int.emod_lt_of_pos c (show (0 : Int) < 3 by decide)
    have nR := same_new hR (.lst [])
    refine ⟨_, rfl, _, rfl, _, _, rfl, rfl, (by show (0 : Int) < 3; decide), _, _, rfl, rfl, (1 + c % 3), rfl, by omega, by omega, ?_⟩
    refine for_range (n := (1 + c % 3).toNat) (fun j σ H'' => ∃ xs v7 v8 v9 v10, σ = [some (.ref a), some (.int 8), some (.int 3), some (.ref D), some (.int (0 + (i : Int))), some (.int c), some (.ref R), v7, v8, v9, v10] /\ Same H' H'' /\ IrsAt H'' R xs /\ xs.length = j /\ (∀ x ∈ xs, (0 <= x.v /\ x.v <= 1000000000) /\ 1 <= x.w /\ x.w <= 1000)) ⟨[], v7, v8, v9, v10, rfl, nR, ⟨upd_same, fun _ h => nomatch h⟩, rfl, fun _ h => nomatch h⟩ ?_ ?_
    · rintro jj σ H'' hj ⟨xs, v7, v8, v9, v10, rfl, hs2, hT, hl2, pr⟩
      refine ⟨_, rfl, _, rfl, _, rfl, _, _, rfl, rfl, .inl ⟨by decide, by decide⟩, _, _, rfl, rfl, _, rfl, _, _, rfl, rfl, a, ns, 9 + 3 * (0 + (i : Int)) + (0 + (jj : Int)), rfl, (hs.trans hs2).seq hS, by omega, ?_⟩
      generalize cellF ns (9 + 3 * (0 + (i : Int)) + (0 + (jj : Int))) = nu
      refine ⟨_, rfl, _, _, rfl, rfl, ⟨by decide, by decide⟩, _, _, rfl, rfl, (by show (0 : Int) < 7; decide), _, rfl, _, _, rfl, rfl, ⟨by decide, by decide⟩, _, _, rfl, rfl, powOk 9 (by decide) (by decide), _, _, rfl, rfl, _, _, rfl, rfl, (by show (0 : Int) < 1000000001; decide), _, rfl, _, rfl, _, _, rfl, fun m k0 k1 => ?_⟩
      have a1 := Int.emod_nonneg (nu / 3) (show (7 : Int) ≠ 0 by decide)
      have a2 := Int.emod_lt_of_pos (nu / 3) (show (0 : Int) < 7 by decide)
      have b1 := Int.emod_nonneg (nu / 3) (show (1000000001 : Int) ≠ 0 by decide)
      have b2 := Int.emod_lt_of_pos (nu / 3) (show (0 : Int) < 1000000001 by decide)
      have e1 := Int.emod_nonneg m (show (40 : Int) ≠ 0 by decide)
      have e2 := Int.emod_lt_of_pos m (show (0 : Int) < 40 by decide)
      obtain ⟨va, hva, va0, va1⟩ := at3 nu (nu / 3 % 7) (nu / 3 % 1000000001) (m % 40) ⟨by omega, by omega⟩ ⟨by omega, by omega⟩ ⟨by omega, by omega⟩
      refine ⟨_, _, rfl, rfl, (by show (0 : Int) < 40; decide), sz3, fun l hl3 => ⟨_, rfl, _, _, rfl, rfl, (by show (0 : Int) < 3; decide), l, _, _, _, rfl, rfl, SqL.of upd_same, hva, ?_⟩⟩
      have nL := same_new hl3 (.lst [V.int (nu / 3 % 7), V.int (nu / 3 % 1000000001), V.int (m % 40)])
      obtain ⟨M, hM, M0, M1⟩ := at2 (c / 4)
      refine ⟨_, rfl, _, rfl, _, _, rfl, fun j j0 jx => ⟨_, rfl, _, _, rfl, rfl, powOk 44 (by decide) (by decide), _, _, rfl, rfl, div44, _, _, rfl, rfl, sz2, fun l2 hl4 => ⟨_, rfl, _, _, rfl, rfl, ⟨by decide, by decide⟩, _, _, rfl, rfl, (by show (0 : Int) < 2; decide), l2, _, _, _, rfl, rfl, SqL.of upd_same, hM, _, _, rfl, rfl, M0, ?_⟩⟩⟩
      have nM := same_new hl4 (.lst [V.int 3, V.int 1000])
      have w1 := Int.emod_nonneg (j + nu.fdiv (10 ^ (44 : Int).toNat)) (Int.ne_of_gt M0)
      have w2 := Int.emod_lt_of_pos (j + nu.fdiv (10 ^ (44 : Int).toNat)) M0
      have sL := nL.trans nM
      have hT1 := hT.same sL
      refine ⟨_, rfl, .inl ⟨rfl, _, SqL.of hT1.lst⟩, _, rfl, _, rfl, _, _, rfl, rfl, sz2, fun p2 hp2 => ?_⟩
      have n2 := same_new hp2 (.tup [.int va, .int (1 + (j + nu.fdiv (10 ^ (44 : Int).toNat)) % M)])
      have hT2 := hT1.same n2
      refine ⟨R, irefs xs, .ref p2, rfl, rfl, hT2.lst, by rw [irefs_length]; exact small1000 (by omega), ?_⟩
      refine ⟨xs ++ [⟨p2, va, 1 + (j + nu.fdiv (10 ^ (44 : Int).toNat)) % M⟩], _, _, _, _, rfl, ((hs2.trans sL).trans n2).upd_new hR _, hT2.push (y := ⟨p2, va, 1 + (j + nu.fdiv (10 ^ (44 : Int).toNat)) % M⟩) upd_same, ?_, ?_⟩
      · rw [List.length_append, hl2]
        rfl
      · intro y hy
        rcases List.mem_append.mp hy with z | z
        · exact pr y z
        · rw [List.mem_singleton.mp z]
          exact ⟨⟨va0, va1⟩, by show 1 <= 1 + (j + nu.fdiv (10 ^ (44 : Int).toNat)) % M; omega, by show 1 + (j + nu.fdiv (10 ^ (44 : Int).toNat)) % M <= 1000; omega⟩
    · rintro σ H'' ⟨xs, v7, v8, v9, v10, rfl, hs2, hT, hl2, pr⟩
      have hE2 := hE.same hs2
      have gx : GI xs := ⟨by
        rintro rfl
        have : (1 + c % 3).toNat = 0 := hl2.symm
        omega, by omega, fun x hx => (pr x hx).1, fun x hx => (pr x hx).2⟩
      refine ⟨_, rfl, .inl ⟨rfl, _, SqL.of hE2.lst⟩, _, rfl, ?_⟩
      refine ⟨D, lsrefs ls, .ref R, rfl, rfl, hE2.lst, by rw [lsrefs_length]; exact small1000 (by omega), ?_⟩
      have nRD : R ≠ D := fun e => by rw [e, hE.lst] at hR; cases hR
      refine ⟨ls ++ [⟨R, xs⟩], _, _, _, _, _, _, _, rfl, (hs.trans hs2).upd_new hD _, hE2.push (l := ⟨R, xs⟩) hT nn nRD, ?_, fun x hx => ?_, fun x hx => ?_⟩
      · rw [List.length_append, hl]
        rfl
      · rcases List.mem_append.mp hx with z | z
        · exact ge x z
        · rw [List.mem_singleton.mp z]
          exact gx
      · rcases List.mem_append.mp hx with z | z
        · exact nn x z
        · rw [List.mem_singleton.mp z]
          exact nRD
  · rintro σ H' ⟨ls, v4, v5, v6, v7, v8, v9, v10, rfl, hs, hE, hl, ge, nn⟩
    refine ⟨_, rfl, q D H' ls hs hE ?_ (by omega) ge⟩
    rintro rfl
    have : (1 + cellF ns 0 % 8).toNat = 0 := hl.symm
    omega
end
end K76
namespace K76
open PySem L2 TD
open Builtin.Int (intBits)
section
variable {P : Program} {w : World} {K : PySem.W.Frag} {mg : Str -> Option Value} {base : Heap} {Pt : Addr}
theorem lift_length (kvs : List (Key × V)) : (lift kvs).length = kvs.length := List.length_map _
theorem lift_at {kvs : List (Key × V)} {i : Nat} {k : Key} {v : V} (h : kvs[i]? = some (k, v)) : (lift kvs)[i]? = some ([k, Sum.inl 1], v) := by unfold lift; rw [List.getElem?_map, h]; rfl
theorem ints_of : ∀ {kvs : List (Key × V)}, (∀ kv ∈ lift kvs, ∃ t b : Int, kv.1 = [Sum.inl t, Sum.inl b]) -> ∃ ns : List Int, kvs.map (·.1) = ns.map Sum.inl /\ (lift kvs).map (·.1) = ns.map fun n => [Sum.inl n, Sum.inl 1]
  | [], _ => ⟨[], rfl, rfl⟩
  | (k, v) :: kvs, h => by
    obtain ⟨ns, e1, e2⟩ := ints_of (kvs := kvs) fun kv hkv => h kv (List.mem_cons_of_mem _ hkv)
    obtain ⟨t, b, e⟩ := h ([k, Sum.inl 1], v) List.mem_cons_self
    have ek : k = Sum.inl t := by injection e
    refine ⟨t :: ns, ?_, ?_⟩
    · rw [List.map_cons, List.map_cons, e1, ek]
    · show [k, Sum.inl 1] :: (lift kvs).map (·.1) = _
      rw [e2, ek]
      rfl
def mkR (zs : List Ir) : List Row := zs.map fun z => ⟨z.p, z.p, z.v, 1, z.w⟩
theorem rws_mkR (zs : List Ir) : rws (mkR zs) = rw0 zs := by unfold rws mkR rw0; rw [List.map_map]; rfl
theorem irs_v_snoc (zs : List Ir) (z : Ir) : (zs ++ [z]).map Ir.v = zs.map Ir.v ++ [z.v] := by rw [List.map_append]; rfl
theorem ok__law_rows {n : Nat} {f : Addr} {fd : FuncData} (F : Fun K "_law_rows" "_law_rows" (top 41) f fd) {g__law_common : Addr} {gd__law_common : FuncData} (c__law_common : Cal P w K mg base n "_law_common" ["_law_one", "_law_other"] spCd g__law_common gd__law_common) (z_sorted : mg "sorted" = none) : FnOk P w K mg base CX0 (n + 1) f fd ["_law_rows_here"] spLR := by
  refine F.ok sc__law_rows (fun vs H Q E h => ?_) (fun cdv A outer s H vs Q E hr h => ?_)
  · obtain ⟨a, xs, rfl, _⟩ := h
    rfl
  obtain ⟨a, xs, rfl, hL, g, q⟩ := h
  have nd := sc__law_rows.nd
  have hu := hu_of hr
  refine ⟨_, (pss_cons (ps_set (i := 1) nd rfl (Or.inr rfl) pe_dnewK) (pss_cons (ps_for PassesOwn.never rfl (pi_list (pv 0)) (pg_tup rfl (pgs_cons (pg_name (i := 2) nd rfl (Or.inl rfl)) (pgs_cons (pg_name (i := 3) nd rfl (Or.inl rfl)) pgs_nil))) (pss_one (ps_dput hu (pv 1) (pv 2) (pe_op op_add (pe_dget2 hu (pv 1) (pv 2) pe_int ⟨rfl, rfl, rfl, rfl⟩) (pv 3)) rfl))) (pss_cons (ps_set (i := 4) nd rfl (Or.inr rfl) pe_int) (pss_cons (ps_for PassesOwn.never rfl (pi_keysI (pv 1)) (pg_name (i := 2) nd rfl (Or.inl rfl)) (pss_one (ps_set (i := 4) nd rfl (Or.inr rfl) (pe_callC c__law_common hr (pa_cons (pv 4) (pa_cons (pe_dget hu (pv 1) (pv 2) (fun _ _ => rfl)) pa_nil)))))) (pss_one (ps_ret (pe_comp (ls := ["_law_value"]) (M := ["_law_rows_here", "_law_sums", "_law_value#", "_law_weight", "_law_by"]) rfl (CompOk.of (by rfl)) (NL.of (by rfl)) (pi_list (pe_callB (call_sortedD rfl) rfl z_sorted bt_sorted (pa_cons (pv 1) pa_nil))) (fun _ _ _ _ => ⟨(pg_name (i := 0) (nd_of (by rfl)) rfl (Or.inl rfl)), pts_nil, (pe_tup (pa_cons (pv 0) (pa_cons (pe_op op_fdivB (pe_dget hu (pv 2) (pv 0) (fun _ _ => rfl)) (pv 5)) pa_nil)))⟩)))))))), ?_⟩
  have hlr := irefs_length xs
  have hlen := g.len
  intro Dd hDd
  have n0 := same_new hDd (.dK [])
  refine ⟨_, rfl, a, rfl, ⟨_, SqL.of (hL.same n0).lst⟩, ?_⟩
  refine for_list (xs := irefs xs) (fun i σ H' => ∃ kvs v2 v3, σ = [some (.ref a), some (.ref Dd), v2, v3, none] /\ Same H H' /\ H' Dd = some (.dK kvs) /\ Dk (rw0 (xs.take i)) (lift kvs) /\ kvs.length <= i) ⟨[], none, none, rfl, n0, upd_same, Dk.nil, Nat.le_refl _⟩ ?keep ?turn ?done
  case keep =>
    rintro i σ H' hi ⟨kvs, v2, v3, rfl, hs, _⟩
    exact SqL.of (hL.same hs).lst
  case turn =>
    rintro i v σ H' hv ⟨kvs, v2, v3, rfl, hs, hd, dk, kl⟩
    obtain ⟨x, hx, rfl⟩ := irefs_at hv
    have hmem := List.mem_of_getElem? hx
    have hi := (List.getElem?_eq_some_iff.mp hx).1
    have hr2 : H' x.p = some (.tup [.int x.v, .int x.w]) := (hL.same hs).rows x hmem
    have gv : (valV kvs (Sum.inl x.v)).getD (.int 0) = .int (Tb.Wt (rw0 (xs.take i)) x.v 1) := by rw [<- lift_val]; exact dk.get x.v 1
    refine ⟨x.p, _, rfl, SqT.of hr2, rfl, _, _, rfl, _, _, rfl, rfl, ?_⟩
    refine ⟨_, rfl, Dd, rfl, .inl ⟨_, .inl hd⟩, _, rfl, _, DGet.k (k := Sum.inl x.v) hd, _, rfl, Tb.Wt (rw0 (xs.take i)) x.v 1, x.w, gv, rfl, ?_⟩
    refine ⟨_, rfl, _, rfl, Dd, _, rfl, DPut.k (k := Sum.inl x.v) hd (small1000 (by omega)), ?_⟩
    refine ⟨_, _, _, rfl, hs.upd_new hDd _, upd_same, ?_, ?_⟩
    · rw [take_snoc hx, rw0_snoc, lift_put]
      exact dk.put ⟨x.v, 1, x.w⟩
    · have e := congrArg List.length (lift_put kvs (Sum.inl x.v) (.int (Tb.Wt (rw0 (xs.take i)) x.v 1 + x.w)))
      rw [lift_length] at e
      have h2 := length_putK (lift kvs) [Sum.inl x.v, Sum.inl 1] (.int (Tb.Wt (rw0 (xs.take i)) x.v 1 + x.w))
      rw [<- e, lift_length] at h2
      exact Nat.le_trans h2 (by omega)
  case done =>
  rintro σ H1 ⟨kvs, v2, v3, rfl, s1, hd1, dk, kl⟩
  rw [hlr, List.take_length] at dk
  rw [hlr] at kl
  have pw : ∀ p ∈ rw0 xs, 1 <= p.w /\ p.w <= 1000 := fun p hp => by
    obtain ⟨x, hx, rfl⟩ := List.mem_map.mp hp
    exact g.w x hx
  have pf : ∀ p ∈ rw0 xs, Fr.IsFr p.t p.b := fun p hp => by
    obtain ⟨x, hx, rfl⟩ := List.mem_map.mp hp
    exact ⟨by show (0 : Int) < 1; decide, Int.gcd_one_right _⟩
  have pne : rw0 xs ≠ [] := fun e => g.ne (List.map_eq_nil_iff.mp e)
  have plen : (rw0 xs).length <= 1000 := by rw [rw0_length]; omega
  have hw1 : ∀ p ∈ rw0 xs, 1 <= p.w := fun p hp => (pw p hp).1
  have dpos := dk.div_pos pne hw1
  have dbits := div_bits dk pne (fun p hp => ⟨(pw p hp).1, Int.le_trans (pw p hp).2 (by decide)⟩) plen
  refine ⟨_, rfl, Dd, kvs, rfl, .inl ⟨hd1, fun o => ?_⟩⟩
  have s2 : Same H (upd H1 Dd (.frz o (.dK kvs))) := s1.upd_new hDd _
  have hfz : upd H1 Dd (.frz o (.dK kvs)) Dd = some (.frz o (.dK kvs)) := upd_same
  generalize upd H1 Dd (.frz o (.dK kvs)) = H2 at s2 hfz ⊢
  refine for_keysI (fun i σ H' => ∃ d v2, σ = [some (.ref a), some (.ref Dd), v2, v3, some (.int d)] /\ H' = H2 /\ d = Tb.gcdL (((lift kvs).take i).map wOf)) ⟨0, _, rfl, rfl, rfl⟩ (fun i σ H' _ ⟨_, _, _, e, _⟩ => by rw [e]; exact hfz) ?turn3 ?done3
  case turn3 =>
    rintro i k v σ H' hk ⟨d, v2, rfl, rfl, ed⟩
    have hk2 := lift_at hk
    obtain ⟨t, b, ekv, hh⟩ := dk.en _ (List.mem_of_getElem? hk2)
    injection ekv with ek1 ek2
    obtain ⟨rfl, rfl⟩ : k = Sum.inl t /\ b = 1 := by
      injection ek1 with e1 e2
      injection e2 with e2 _
      injection e2 with e2
      exact ⟨e1, e2.symm⟩
    subst ek2
    have vv : valV kvs (Sum.inl t) = some (.int (Tb.Wt (rw0 xs) t 1)) := by rw [<- lift_val]; exact dk.val hh
    refine ⟨_, rfl, _, rfl, _, rfl, Dd, .int (Tb.Wt (rw0 xs) t 1), rfl, .inl ⟨kvs, Sum.inl t, .inr ⟨o, hfz⟩, rfl, vv.symm⟩, d, Tb.Wt (rw0 xs) t 1, rfl, ?_⟩
    refine ⟨_, _, rfl, rfl, ?_⟩
    rw [take_snoc hk2, List.map_append, ed]
    exact (Tb.gcdL_snoc _ _).symm
  case done3 =>
  rintro σ H3 ⟨d, v2, rfl, rfl, ed⟩
  have ed : d = divOf (lift kvs) := by rw [ed, <- lift_length kvs, List.take_length]; rfl
  subst ed
  obtain ⟨ns, en1, en2⟩ := ints_of (kvs := kvs) fun kv hkv => by
    obtain ⟨t, b, e, _⟩ := dk.en kv hkv
    exact ⟨t, b, by rw [e]⟩
  have nl : ns.length = kvs.length := by simpa using (congrArg List.length en1).symm
  have nnd : ns.Nodup := by
    have h := dk.nd
    rw [en2] at h
    exact (List.pairwise_map.mp h).imp fun hne e => hne (by rw [e])
  refine ⟨_, rfl, Dd, kvs, ns, rfl, .inr ⟨o, hfz⟩, en1, by omega, fun l ms hl pm so => ?_⟩
  have nL := same_new hl (.lst (ms.map V.int))
  have s3 := s2.trans nL
  have hl2 : upd H3 l (.lst (ms.map V.int)) l = some (.lst (ms.map V.int)) := upd_same
  have hfz2 := nL _ _ hfz
  generalize upd H3 l (.lst (ms.map V.int)) = H4 at s3 hl2 hfz2 ⊢
  have mlen : ms.length = ns.length := pm.length_eq
  have mhas : ∀ t ∈ ms, Tb.Has (rw0 xs) t 1 := fun t ht => by
    have h1 : ([Sum.inl t, Sum.inl 1] : List Key) ∈ (lift kvs).map (·.1) := by rw [en2]; exact List.mem_map.mpr ⟨t, pm.mem_iff.mp ht, rfl⟩
    obtain ⟨kv, hkv, ekv⟩ := List.mem_map.mp h1
    obtain ⟨t', b', e, hh⟩ := dk.en kv hkv
    rw [e] at ekv
    injection ekv with e1 e2
    injection e1 with e1
    injection e2 with e2 _
    injection e2 with e2
    rw [<- e1, <- e2]
    exact hh
  refine ⟨l, rfl, ⟨_, SqL.of hl2⟩, fun D hD => ?_⟩
  refine comp_list (xs := ms.map V.int) (fun i τ H' => ∃ v0 zs, τ = [v0, some (.ref a), some (.ref Dd), v2, v3, some (.int (divOf (lift kvs)))] /\ Same H4 H' /\ IrsAt H' D zs /\ zs.map Ir.v = ms.take i /\ ∀ z ∈ zs, z.w = (Tb.Wt (rw0 xs) z.v 1).fdiv (divOf (lift kvs))) ⟨none, [], rfl, same_new hD _, ⟨upd_same, fun _ h => nomatch h⟩, rfl, (fun _ h => nomatch h)⟩ ?keep4 ?turn4 ?done4
  case keep4 =>
    rintro i τ H' hi ⟨v0, zs, rfl, hs, _⟩
    exact SqL.of (hs _ _ hl2)
  case turn4 =>
    rintro i m v τ H' hm hi hv ⟨v0, zs, rfl, hs, hZ, ez, zw⟩
    rw [List.getElem?_map] at hv
    cases et : ms[i]? with
    | none => rw [et] at hv; cases hv
    | some t =>
      rw [et] at hv
      cases hv
      have hh := mhas t (List.mem_of_getElem? et)
      have vv : valV kvs (Sum.inl t) = some (.int (Tb.Wt (rw0 xs) t 1)) := by rw [<- lift_val]; exact dk.val hh
      have zlen : zs.length <= 1000 := by
        have h := congrArg List.length ez
        rw [List.length_map, List.length_take] at h
        omega
      refine gyes ?_
      refine ⟨_, rfl, _, rfl, _, rfl, Dd, .int (Tb.Wt (rw0 xs) t 1), rfl, .inl ⟨kvs, Sum.inl t, .inr ⟨o, hs _ _ hfz2⟩, rfl, vv.symm⟩, _, rfl, _, _, rfl, rfl, ⟨Int.ne_of_gt dpos, dbits⟩, sz2, fun p hp => ?_⟩
      have n1 := same_new hp (.tup [.int t, .int ((Tb.Wt (rw0 xs) t 1).fdiv (divOf (lift kvs)))])
      have hZ1 := hZ.same n1
      refine comp_next hm hi hZ1.lst (by rw [irefs_length]; exact small1000 zlen) ⟨_, zs ++ [⟨p, t, (Tb.Wt (rw0 xs) t 1).fdiv (divOf (lift kvs))⟩], rfl, (hs.trans n1).upd_new hD _, hZ1.push (y := ⟨p, t, _⟩) upd_same, ?_, ?_⟩
      · rw [irs_v_snoc, ez, take_snoc et]
      · intro z hz
        rcases List.mem_append.mp hz with u | u
        · exact zw z u
        · rw [List.mem_singleton.mp u]
  case done4 =>
    rintro τ H5 ⟨v0, zs, rfl, s5, hZ, ez, zw⟩
    rw [List.length_map, List.take_length] at ez
    have pmk : (((mkR zs).map fun y => Rs.mk y.q y.t y.b).map keyR).Perm ((lift kvs).map (·.1)) := by
      have e : ((mkR zs).map fun y => Rs.mk y.q y.t y.b).map keyR = ms.map fun n => [Sum.inl n, Sum.inl 1] := by
        rw [<- ez]
        unfold mkR
        rw [List.map_map, List.map_map, List.map_map]
        rfl
      rw [e, en2]
      exact pm.map _
    have mst : ms.Pairwise (· < ·) := by
      have h1 : ms.Nodup := pm.nodup_iff.mpr nnd
      have h2 := List.Pairwise.and so h1
      exact h2.imp fun h => by omega
    have srt : ((mkR zs).map fun y => Rs.mk y.q y.t y.b).Pairwise LtR := by
      rw [<- ez] at mst
      unfold mkR
      rw [List.map_map, List.pairwise_map]
      rw [List.pairwise_map] at mst
      refine mst.imp fun {x y} h => ?_
      show x.v * 1 < y.v * 1
      omega
    have fin := mk_tab dk hw1 pf pne pmk srt rfl (fun y hy => by
      obtain ⟨z, hz, rfl⟩ := List.mem_map.mp hy
      exact zw z hz)
    rw [rws_mkR] at fin
    exact q D H5 zs (s3.trans s5) (s3.free hD) hZ fin.1
theorem ok__law_added {n : Nat} {f : Addr} {fd : FuncData} (F : Fun K "_law_added" "_law_added" (top 43) f fd) {g__law_lowest : Addr} {gd__law_lowest : FuncData} (c__law_lowest : Cal P w K mg base n "_law_lowest" ["_law_top", "_law_bottom"] spLow g__law_lowest gd__law_lowest) : FnOk P w K mg base CX0 (n + 1) f fd ["_law_one", "_law_other"] spLA := by
  refine F.ok sc__law_added (fun vs H Q E h => ?_) (fun cdv A outer s H vs Q E hr h => ?_)
  · obtain ⟨p, q, x, y, rfl, _⟩ := h
    rfl
  obtain ⟨p, q, x, y, rfl, hp, hq, xp, yp, z, k⟩ := h
  have nd := sc__law_added.nd
  refine ⟨_, (pss_one (ps_ret (pe_callC c__law_lowest hr (pa_cons (pe_op op_add (pe_op op_mulB (pe_ix ix_tup (pv 0) pe_int (fun _ _ => rfl)) (pe_ix ix_tup (pv 1) pe_int (fun _ _ => rfl))) (pe_op op_mulB (pe_ix ix_tup (pv 1) pe_int (fun _ _ => rfl)) (pe_ix ix_tup (pv 0) pe_int (fun _ _ => rfl)))) (pa_cons (pe_op op_mulB (pe_ix ix_tup (pv 0) pe_int (fun _ _ => rfl)) (pe_ix ix_tup (pv 1) pe_int (fun _ _ => rfl))) pa_nil))))), ?_⟩
  have ip := sq_fc (K := K) hp
  have iq := sq_fc (K := K) hq
  refine ⟨_, rfl, p, _, _, _, rfl, rfl, ip, rfl, _, rfl, q, _, _, _, rfl, rfl, iq, rfl, _, _, rfl, rfl, mulOk z.a z.d (by decide), _, rfl, q, _, _, _, rfl, rfl, iq, rfl, _, rfl, p, _, _, _, rfl, rfl, ip, rfl, _, _, rfl, rfl, mulOk z.c z.b (by decide), _, _, rfl, rfl, _, rfl, p, _, _, _, rfl, rfl, ip, rfl, _, rfl, q, _, _, _, rfl, rfl, iq, rfl, _, _, rfl, rfl, mulOk z.b z.d (by decide), ?_⟩
  refine ⟨_, _, rfl, Int.mul_pos xp yp, Nat.le_trans (PySem.intBits_mul_le z.b z.d) (by decide), fun r H' s h => k r H' s h⟩
theorem ok__law_same {n : Nat} {f : Addr} {fd : FuncData} (F : Fun K "_law_same" "_law_same" (top 45) f fd) {g__law_whole : Addr} {gd__law_whole : FuncData} (c__law_whole : Cal P w K mg base n "_law_whole" ["_law_found"] spIsWhole g__law_whole gd__law_whole) (z_len : mg "len" = none) (z_isinstance : mg "isinstance" = none) (z_tuple : mg "tuple" = none) : FnOk P w K mg base CX0 (n + 1) f fd ["_law_found", "_law_due"] spSame := by
  refine F.ok sc__law_same (fun vs H Q E h => ?_) (fun cdv A outer s H vs Q E hr h => ?_)
  · obtain ⟨p, q, f, rfl, _⟩ := h
    rfl
  obtain ⟨p, q, f, rfl, hp, hq, k⟩ := h
  have nd := sc__law_same.nd
  have hu0 := Room.units0 hr
  refine ⟨_, (pss_cons (ps_if (PW.pt (pw_or (pt_not (pt_val (pe_callB (call_isinst (T := "tuple")) rfl z_isinstance bt_isinstance (pa_cons (pv 0) (pa_cons (pe_bltn (v := .ty "tuple") rfl z_tuple bt_tuple rfl) pa_nil))))) (pw_or (pt_cmpR op_ne (pe_callB call_len_seq rfl z_len bt_len (pa_cons (pv 0) pa_nil)) pe_int (nomark _)) (pw_or (pt_not (pt_val (pe_callC c__law_whole hr (pa_cons (pe_ix ix_tup (pv 0) pe_int (fun _ _ => rfl)) pa_nil)))) (pw_or1 (pt_not (pt_val (pe_callC c__law_whole hr (pa_cons (pe_ix ix_tup (pv 0) pe_int (fun _ _ => rfl)) pa_nil))))))))) (pss_one (ps_ret pe_bl)) pss_nil) (pss_one (ps_ret (pe_cmpR (op_eqT hu0) (pv 0) (pv 1) (nomark _))))), ?_⟩
  refine ⟨_, rfl, _, _, _, rfl, .tup hp, kit_same _, _, rfl, ?_⟩
  refine iteF ?_
  refine ⟨_, rfl, p, _, rfl, .inr (SqT.of hp), rfl, _, rfl, ?_⟩
  refine iteF ?_
  refine ⟨_, rfl, p, _, _, _, rfl, rfl, SqT.of hp, rfl, _, rfl, _, rfl, ?_⟩
  refine iteF ?_
  refine ⟨_, rfl, p, _, _, _, rfl, rfl, SqT.of hp, rfl, _, rfl, _, rfl, ?_⟩
  refine iteF ?_
  refine ⟨_, rfl, _, rfl, p, q, [f.1, f.2], [f.1, f.2], rfl, rfl, SqT.of hp, SqT.of hq, ?_⟩
  rw [decide_eq_true rfl]
  exact k
end
end K76
namespace K76
open PySem L2 TD
open Builtin.Int (intBits)
section
variable {P : Program} {w : World} {K : PySem.W.Frag} {mg : Str -> Option Value} {base : Heap} {Pt : Addr}
theorem ok__law_on {n : Nat} {f : Addr} {fd : FuncData} (F : Fun K "_law_on" "_law_on" (top 46) f fd) {g__law_lowest : Addr} {gd__law_lowest : FuncData} (c__law_lowest : Cal P w K mg base n "_law_lowest" ["_law_top", "_law_bottom"] spLow g__law_lowest gd__law_lowest) (z_list : mg "list" = none) (z_reversed : mg "reversed" = none) (z_max : mg "max" = none) : FnOk P w K mg base CX0 (n + 1) f fd ["_law_tables"] spLOn := by
  refine F.ok sc__law_on (fun vs H Q E h => ?_) (fun cdv A outer s H vs Q E hr h => ?_)
  · obtain ⟨a, ls, rfl, _⟩ := h
    rfl
  obtain ⟨a, ls, rfl, hL, g, q⟩ := h
  have nd := sc__law_on.nd
  refine ⟨_, (pss_cons (ps_set (i := 1) nd rfl (Or.inl rfl) (pe_lst (pa_cons (pe_tup (pa_cons pe_int (pa_cons pe_int pa_nil))) pa_nil))) (pss_cons (ps_for PassesOwn.never rfl (pi_rev rfl z_reversed (pa_cons (pv 0) pa_nil)) (pg_name (i := 2) nd rfl (Or.inl rfl)) (pss_cons (ps_set (i := 3) nd rfl (Or.inl rfl) (pe_ix ix_list (pv 1) (pe_un un_neg pe_int) (fun _ _ => rfl))) (pss_cons (ps_set (i := 4) nd rfl (Or.inl rfl) pe_int) (pss_cons (ps_set (i := 5) nd rfl (Or.inl rfl) pe_int) (pss_cons (ps_for PassesOwn.never rfl (pi_list (pv 2)) (pg_tup rfl (pgs_cons (pg_name (i := 6) nd rfl (Or.inl rfl)) (pgs_cons (pg_name (i := 7) nd rfl (Or.inl rfl)) pgs_nil))) (pss_cons (ps_set (i := 4) nd rfl (Or.inl rfl) (pe_op op_add (pv 4) (pe_op op_mulB (pv 7) (pe_callB (call_max2 rfl) rfl z_max bt_max (pa_cons (pe_op op_mulB (pv 6) (pe_ix ix_tup (pv 3) pe_int (fun _ _ => rfl))) (pa_cons (pe_ix ix_tup (pv 3) pe_int (fun _ _ => rfl)) pa_nil)))))) (pss_one (ps_set (i := 5) nd rfl (Or.inl rfl) (pe_op op_add (pv 5) (pv 7)))))) (pss_one (ps_expr (pe_bm PySem.F.plainAttrs_list PySem.F.slot_list_append PySem.F.type_list_append mt_append (pv 1) (pa_cons (pe_callC c__law_lowest hr (pa_cons (pv 4) (pa_cons (pe_op op_mulB (pv 5) (pe_ix ix_tup (pv 3) pe_int (fun _ _ => rfl))) pa_nil))) pa_nil))))))))) (pss_one (ps_ret (pe_listRev rfl rfl z_list rfl z_reversed (pa_cons (pv 1) pa_nil)))))), ?_⟩
  have hll := lsrefs_length ls
  have hlen := g.len
  refine ⟨sz2, fun p0 hp0 => ⟨sz1, fun D hD => ?_⟩⟩
  have n0 := same_new hp0 (.tup [V.int 0, V.int 1])
  have n1 := same_new hD (.lst [V.ref p0])
  have hDn : H D = none := n0.free hD
  refine ⟨_, rfl, a, _, rfl, SqL.of (hL.same (n0.trans n1)).lst, ?_⟩
  refine for_revL (xs := lsrefs ls) (fun i σ H' => ∃ rs v2 v3 v4 v5 v6 v7, σ = [some (.ref a), some (.ref D), v2, v3, v4, v5, v6, v7] /\ Same H H' /\ FrsAt H' D rs /\ vals rs = (Of.onF (ltabs (ls.drop (ls.length - i)))).reverse) ⟨[⟨p0, 0, 1⟩], none, none, none, none, none, none, rfl, n0.trans n1, ⟨upd_same, fun r hr => by rw [List.mem_singleton.mp hr]; exact n1 _ _ upd_same⟩, by rw [Nat.sub_zero, List.drop_length]; rfl⟩ ?keep ?turn ?done
  case keep =>
    rintro i σ H' hi ⟨rs, v2, v3, v4, v5, v6, v7, rfl, hs, _⟩
    exact SqL.of (hL.same hs).lst
  case turn =>
    rintro i v σ H' hi hv ⟨rs, v2, v3, v4, v5, v6, v7, rfl, hs, hF, ev⟩
    obtain ⟨l, hl, rfl⟩ := lsrefs_at hv
    rw [hll] at hi hl
    have hmem := List.mem_of_getElem? hl
    have gl := g.each l hmem
    have hI := (hL.each l hmem).same hs
    obtain ⟨fs, el⟩ : ∃ fs, Of.onF (ltabs (ls.drop (ls.length - i))) = Rk.hd (Of.onF (ltabs (ls.drop (ls.length - i)))) :: fs := by
      cases ltabs (ls.drop (ls.length - i)) with
      | nil => exact ⟨[], rfl⟩
      | cons T Ts => exact ⟨_, rfl⟩
    have fl : (Of.onF (ltabs (ls.drop (ls.length - i)))).length = i + 1 := by
      rw [onF_length]
      unfold ltabs
      rw [List.length_map, List.length_drop]
      omega
    have lenr : rs.length = i + 1 := by
      have h := congrArg List.length ev
      rw [vals_length, List.length_reverse, fl] at h
      exact h
    obtain ⟨rs0, x, rfl⟩ : ∃ rs0 x, rs = rs0 ++ [x] := ⟨rs.dropLast, rs.getLast (by intro z; rw [z] at lenr; simp at lenr), (List.dropLast_concat_getLast _).symm⟩
    have ehd : (x.t, x.b) = Rk.hd (Of.onF (ltabs (ls.drop (ls.length - i)))) := by
      have h := ev
      rw [el, List.reverse_cons] at h
      unfold vals at h
      rw [List.map_append] at h
      have h2 := (List.append_inj_right' h rfl)
      have h3 : [(x.t, x.b)] = [Rk.hd (Of.onF (ltabs (ls.drop (ls.length - i))))] := h2
      injection h3
    have gd : ∀ T ∈ ltabs (ls.drop (ls.length - i)), Of.GT T := fun T hT => by
      obtain ⟨u, hu, rfl⟩ := List.mem_map.mp hT
      exact g.each u (List.mem_of_mem_drop hu)
    have fb : Lg.Fb (x.t, x.b) 200 200 := by
      rw [ehd]
      refine (Of.onF_b _ gd).le ?_ ?_ <;>
      · unfold ltabs
        rw [List.length_map, List.length_drop]
        omega
    have hx : H' x.q = some (.tup [.int x.t, .int x.b]) := hF.at_ x (List.mem_append_right _ (.head _))
    refine ⟨_, rfl, _, rfl, D, _, _, _, rfl, rfl, SqL.of hF.lst, (by rw [rrefs_snoc]; exact atI_end _ _), ?_⟩
    refine ⟨_, rfl, l.a, rfl, ⟨_, SqL.of hI.lst⟩, ?_⟩
    refine for_list (xs := irefs l.xs) (fun j σ H2 => ∃ v6 v7, σ = [some (.ref a), some (.ref D), some (.ref l.a), some (.ref x.q), some (.int (Of.onTop (tab (l.xs.take j)) (x.t, x.b))), some (.int (Of.W (tab (l.xs.take j)))), v6, v7] /\ H2 = H') ⟨v6, v7, rfl, rfl⟩ ?keep2 ?turn2 ?done2
    case keep2 =>
      rintro j σ H2 hj ⟨v6, v7, rfl, rfl⟩
      exact SqL.of hI.lst
    case turn2 =>
      rintro j v σ H2 hv ⟨v6, v7, rfl, rfl⟩
      obtain ⟨y, hy, rfl⟩ := irefs_at hv
      have ymem := List.mem_of_getElem? hy
      have hr2 : H2 y.p = some (.tup [.int y.v, .int y.w]) := hI.rows y ymem
      have gv := gl.vb (List.mem_map.mpr ⟨y, ymem, rfl⟩ : (y.v, y.w) ∈ tab l.xs)
      have vb : intBits (y.v * x.b) <= 230 := PySem.intBits_mul_le gv.1 fb.b
      have mb : intBits (if x.t > y.v * x.b then x.t else y.v * x.b) <= 230 := by
        split
        · exact Nat.le_trans fb.t (by decide)
        · exact vb
      refine ⟨y.p, _, rfl, SqT.of hr2, rfl, _, _, rfl, _, _, rfl, rfl, ?_⟩
      refine ⟨_, rfl, _, rfl, _, rfl, _, rfl, x.q, _, _, _, rfl, rfl, (SqT.of hx), rfl, _, _, rfl, rfl, mulOk gv.1 fb.b (by decide), _, rfl, x.q, _, _, _, rfl, rfl, (SqT.of hx), rfl, _, _, rfl, _, _, rfl, rfl, mulOk gv.2 mb (by decide), _, _, rfl, rfl, ?_⟩
      refine ⟨_, rfl, _, rfl, _, _, rfl, rfl, ?_⟩
      rw [take_snoc hy, tab_snoc, onTop_snoc, W_snoc]
      exact ⟨_, _, rfl, rfl⟩
    case done2 =>
    rintro σ H2 ⟨v6, v7, rfl, rfl⟩
    rw [irefs_length, List.take_length]
    have hw1 := gl.W1
    refine ⟨_, rfl, .inl ⟨rfl, _, SqL.of hF.lst⟩, _, rfl, _, rfl, _, rfl, x.q, _, _, _, rfl, rfl, (SqT.of hx), rfl, _, _, rfl, rfl, mulOk gl.wb fb.b (by decide), _, _, rfl, Int.mul_pos (by omega) fb.pos, Nat.le_trans (PySem.intBits_mul_le gl.wb fb.b) (by decide), fun p H3 s3 h3 => ?_⟩
    have hF3 := hF.same s3
    refine ⟨D, _, .ref p, rfl, rfl, hF3.lst, by rw [rrefs_length]; exact small1000 (by omega), ?_⟩
    refine ⟨(rs0 ++ [x]) ++ [⟨p, (Of.onStep (tab l.xs) (x.t, x.b)).1, (Of.onStep (tab l.xs) (x.t, x.b)).2⟩], _, _, _, _, _, _, rfl, (hs.trans s3).upd_new hDn _, hF3.push (r := ⟨p, _, _⟩) h3, ?_⟩
    rw [drop_cons (xs := ls) rfl hi hl]
    show vals _ = (Of.onStep (tab l.xs) (Rk.hd (Of.onF (ltabs (ls.drop (ls.length - i))))) :: Of.onF (ltabs (ls.drop (ls.length - i)))).reverse
    rw [<- ehd, List.reverse_cons, <- ev]
    unfold vals
    rw [List.map_append]
    rfl
  case done =>
    rintro σ H' ⟨rs, v2, v3, v4, v5, v6, v7, rfl, hs, hF, ev⟩
    rw [hll, Nat.sub_self, List.drop_zero] at ev
    refine ⟨_, rfl, D, _, rfl, SqL.of hF.lst, fun l hl => ?_⟩
    have n2 := same_new hl (.lst (rrefs rs).reverse)
    refine q l _ rs.reverse (hs.trans n2) (hs.free hl) ⟨by rw [rrefs_rev]; exact upd_same, fun r hr => n2 _ _ (hF.at_ r (List.mem_reverse.mp hr))⟩ ?_
    rw [vals_rev, ev, List.reverse_reverse]
end
end K76
namespace K76
open PySem L2 TD
open Builtin.Int (intBits)
section
variable {P : Program} {w : World} {K : PySem.W.Frag} {mg : Str -> Option Value} {base : Heap} {Pt : Addr}
theorem best_snoc {xs : List Ir} {f : Rk.Fc} {i : Nat} {y : Ir} (h : xs[i]? = some y) : Of.best (tab (xs.take (i + 1))) f = Of.best (tab (xs.take i)) f ++ [decide (f.1 <= y.v * f.2)] := by
  rw [take_snoc h, tab_snoc]
  unfold Of.best
  rw [List.map_append]
  rfl
theorem ok__law_rule {n : Nat} {f : Addr} {fd : FuncData} (F : Fun K "_law_rule" "_law_rule" (top 47) f fd) {g__law_cell : Addr} {gd__law_cell : FuncData} (c__law_cell : Cal P w K mg base n "_law_cell" ["_law_script", "_law_k"] (spCell K) g__law_cell gd__law_cell) {g__law_mix : Addr} {gd__law_mix : FuncData} (c__law_mix : Cal P w K mg base n "_law_mix" ["_law_cell_here", "_law_k"] spMix g__law_mix gd__law_mix) (z_enumerate : mg "enumerate" = none) (z_range : mg "range" = none) (z_len : mg "len" = none) : FnOk P w K mg base CX0 (n + 1) f fd ["_law_script", "_law_tables", "_law_on_here"] (spLRu6 K) := by
  refine F.ok sc__law_rule (fun vs H Q E h => ?_) (fun cdv A outer s H vs Q E hr h => ?_)
  · obtain ⟨s0, a, o, ns, ls, fs, rfl, _⟩ := h
    rfl
  obtain ⟨s0, a, o, ns, ls, fs, rfl, hS, hL, hF, g, ev, q⟩ := h
  have nd := sc__law_rule.nd
  refine ⟨_, (pss_cons (ps_set (i := 3) nd rfl (Or.inl rfl) (pe_lst pa_nil)) (pss_cons (ps_for PassesOwn.never rfl (pi_enum rfl z_enumerate (pa_cons (pv 1) pa_nil)) (pg_tup rfl (pgs_cons (pg_name (i := 4) nd rfl (Or.inr rfl)) (pgs_cons (pg_name (i := 5) nd rfl (Or.inl rfl)) pgs_nil))) (pss_cons (ps_set (i := 6) nd rfl (Or.inr rfl) (pe_callC c__law_mix hr (pa_cons (pe_callC c__law_cell hr (pa_cons (pv 0) (pa_cons pe_int pa_nil))) (pa_cons (pv 4) pa_nil)))) (pss_cons (ps_if (pt_cmpR op_eq (pe_op op_mod (pe_op op_fdiv (pe_callC c__law_cell hr (pa_cons (pv 0) (pa_cons pe_int pa_nil))) pe_int) pe_int) pe_int (nomark _)) (pss_one (ps_set (i := 6) nd rfl (Or.inr rfl) (pe_op op_shr (pe_callC c__law_cell hr (pa_cons (pv 0) (pa_cons pe_int pa_nil))) (pe_op op_mul pe_int (pv 4))))) pss_nil) (pss_cons (ps_setC (i := 7) (ls := ["_law_j"]) (M := ["_law_script", "_law_tables", "_law_on_here", "_law_rule_here", "_law_k", "_law_table", "_law_number", "_law_truths"]) rfl (CompOk.of (by rfl)) (NL.of (by rfl)) nd rfl (Or.inl rfl) (pi_range1 rfl z_range (pa_cons (pe_callB call_len_seq rfl z_len bt_len (pa_cons (pv 5) pa_nil)) pa_nil)) (fun _ _ _ _ => ⟨(pg_name (i := 0) (nd_of (by rfl)) rfl (Or.inl rfl)), pts_nil, (pe_cmpR op_eq (pe_op op_and (pe_op op_shr (pv 7) (pv 0)) pe_int) pe_int (nomark _))⟩)) (pss_cons (ps_if (pt_cmpR op_eq (pe_op op_mod (pe_callC c__law_cell hr (pa_cons (pv 0) (pa_cons pe_int pa_nil))) pe_int) pe_int (nomark _)) (pss_one (ps_setC (i := 7) (ls := ["_law_value", "_law_weight"]) (M := ["_law_script", "_law_tables", "_law_on_here", "_law_rule_here", "_law_k", "_law_table", "_law_number", "_law_truths"]) rfl (CompOk.of (by rfl)) (NL.of (by rfl)) nd rfl (Or.inl rfl) (pi_list (pv 5)) (fun _ _ _ _ => ⟨(pg_tupK (K := K) (n := 2) rfl rfl (pgs_cons (pg_name (i := 0) (nd_of (by rfl)) rfl (Or.inl rfl)) (pgs_cons (pg_name (i := 1) (nd_of (by rfl)) rfl (Or.inl rfl)) pgs_nil))), pts_nil, (pe_cmpR op_ge (pe_op op_mulB (pv 0) (pe_ix (ix_tupK (K := K) rfl) (pe_ix (ix_listK (K := K) rfl) (pv 4) (pe_op op_add (pv 6) pe_int) (fun _ _ => rfl)) pe_int (fun _ _ => rfl))) (pe_ix (ix_tupK (K := K) rfl) (pe_ix (ix_listK (K := K) rfl) (pv 4) (pe_op op_add (pv 6) pe_int) (fun _ _ => rfl)) pe_int (fun _ _ => rfl)) (nomark _))⟩))) pss_nil) (pss_one (ps_expr (pe_bm PySem.F.plainAttrs_list PySem.F.slot_list_append PySem.F.type_list_append mt_append (pv 3) (pa_cons (pv 7) pa_nil))))))))) (pss_one (ps_ret (pv 3))))), ?_⟩
  have hll := lsrefs_length ls
  have hlen := g.len
  have tl := ltabs_length ls
  refine ⟨Nat.zero_le _, fun D hD => ?_⟩
  have nD := same_new hD (.lst [])
  have hDn := hD
  refine ⟨_, rfl, a, _, rfl, (hL.same nD).lst, ?_⟩
  refine for_enum (xs := lsrefs ls) (fun i σ H' => ∃ rs v4 v5 v6 v7, σ = [some (.ref s0), some (.ref a), some (.ref o), some (.ref D), v4, v5, v6, v7] /\ Same H H' /\ RlAt H' D rs /\ rs.length = i /\ (∀ (j : Nat) r l, rs[j]? = some r -> ls[j]? = some l -> (tab l.xs).length = r.bs.length /\ (cellF ns 61 % 3 = 1 -> r.bs = Of.best (tab l.xs) (Rk.hd (Of.onF ((ltabs ls).drop (j + 1)))))) /\ (∀ r ∈ rs, r.a ≠ D)) ⟨[], none, none, none, none, rfl, nD, ⟨upd_same, fun _ h => nomatch h⟩, rfl, (fun j r l h => by simp at h), fun _ h => nomatch h⟩ ?keep ?turn ?done
  case keep =>
    rintro i σ H' hi ⟨rs, v4, v5, v6, v7, rfl, hs, _⟩
    exact (hL.same hs).lst
  case turn =>
    rintro i v T σ H' hv hT ⟨rs, v4, v5, v6, v7, rfl, hs, hR, rl, re, nn⟩
    obtain ⟨l, hl, rfl⟩ := lsrefs_at hv
    have hmem := List.mem_of_getElem? hl
    have hi := (List.getElem?_eq_some_iff.mp hl).1
    have n1 := same_new hT (.tup [.int (i : Int), .ref l.a])
    have s2 := hs.trans n1
    have gl := (g.each l hmem).len
    rw [tab_length] at gl
    obtain ⟨wr, hw1, hw2⟩ := frs_get (j := i + 1) ev (by omega)
    have fb := Of.onF_200 (Ts := ltabs ls) g.gt (by omega) (i + 1)
    rw [<- hw2] at fb
    refine ⟨T, _, rfl, SqT.of upd_same, rfl, _, _, rfl, _, _, rfl, rfl, ?_⟩
    generalize upd H' T (.tup [.int (i : Int), .ref l.a]) = H2 at n1 s2 ⊢
    have hS2 := s2.seq hS
    have hI := (hL.each l hmem).same s2
    have hD2 := hR.same n1
    have hF2 := hF.same s2
    have hw3 : H2 wr.q = some (.tup [.int wr.t, .int wr.b]) := hF2.at_ wr (List.mem_of_getElem? hw1)
    have fin : ∀ (E : Addr) (bs : List Bool) (H5 : Hp), E ≠ D -> Same H H5 -> RlAt H5 D rs -> H5 E = some (.lst (bs.map V.bl)) -> l.xs.length = bs.length -> (cellF ns 61 % 3 = 1 -> bs = Of.best (tab l.xs) (Rk.hd (Of.onF ((ltabs ls).drop (i + 1))))) -> ∀ u4 u5 u6 u7 : Option V, ∃ rs2 v4 v5 v6 v7, [some (V.ref s0), some (.ref a), some (.ref o), some (.ref D), u4, u5, u6, u7] = [some (V.ref s0), some (.ref a), some (.ref o), some (.ref D), v4, v5, v6, v7] /\ Same H (upd H5 D (.lst (rlrefs rs ++ [.ref E]))) /\ RlAt (upd H5 D (.lst (rlrefs rs ++ [.ref E]))) D rs2 /\ rs2.length = i + 1 /\ (∀ (j : Nat) r l, rs2[j]? = some r -> ls[j]? = some l -> (tab l.xs).length = r.bs.length /\ (cellF ns 61 % 3 = 1 -> r.bs = Of.best (tab l.xs) (Rk.hd (Of.onF ((ltabs ls).drop (j + 1)))))) /\ (∀ r ∈ rs2, r.a ≠ D) := by
      intro E bs H5 nED s5 hD5 hE5 bl bb u4 u5 u6 u7
      refine ⟨rs ++ [⟨E, bs⟩], _, _, _, _, rfl, s5.upd_new hDn _, hD5.push (r := ⟨E, bs⟩) hE5 nn nED, by rw [List.length_append, rl]; rfl, ?_, ?_⟩
      · intro j r l' h1 h2
        by_cases hj : j < rs.length
        · rw [List.getElem?_append_left hj] at h1
          exact re j r l' h1 h2
        · have hj2 := (List.getElem?_eq_some_iff.mp h1).1
          rw [List.length_append, List.length_singleton] at hj2
          have ej : j = i := by omega
          subst ej
          rw [List.getElem?_append_right (by omega), rl, Nat.sub_self] at h1
          rw [hl] at h2
          cases h1
          cases h2
          rw [tab_length]
          exact ⟨bl, bb⟩
      · intro r hr2
        rcases List.mem_append.mp hr2 with z | z
        · exact nn r z
        · rw [List.mem_singleton.mp z]
          exact nED
    refine ⟨_, rfl, s0, ns, 62, rfl, hS2, by decide, _, rfl, _, _, rfl, fun nu k0 k1 => ?_⟩
    refine ⟨_, rfl, s0, ns, 61, rfl, hS2, by decide, _, _, rfl, rfl, ⟨by decide, by decide⟩, _, _, rfl, rfl, (by show (0 : Int) < 2; decide), rfl, _, rfl, ?_⟩
    refine ite2 (fun _ => ?_) (fun _ => ?_)
    · refine ⟨_, rfl, s0, ns, 62, rfl, hS2, by decide, _, rfl, _, _, rfl, rfl, .inl ⟨by decide, by decide⟩, _, _, rfl, rfl, (by show (0 : Int) <= 3 * (i : Int); omega), ?_⟩
      refine ⟨_, rfl, l.a, _, rfl, .inl (SqL.of hI.lst), (l.xs.length : Int), by rw [irefs_length], by omega, by omega, fun E hE => ?_⟩
      refine comp_range (n := (l.xs.length : Int).toNat) (fun j τ H3 => ∃ v0 bs, τ = [v0, some (.ref s0), some (.ref a), some (.ref o), some (.ref D), some (.int (i : Int)), some (.ref l.a), some (.int (cellF ns 62 / 2 ^ (3 * (i : Int)).toNat)), v7] /\ Same H2 H3 /\ H3 E = some (.lst (bs.map V.bl)) /\ bs.length = j) ⟨none, [], rfl, same_new hE _, upd_same, rfl⟩ ?turn1 ?done1
      case turn1 =>
        rintro j m τ H3 hm hj ⟨v0, bs, rfl, s3, hE3, bl⟩
        refine gyes ?_
        refine ⟨_, rfl, _, rfl, _, _, rfl, rfl, (by show (0 : Int) <= 0 + (j : Int); omega), _, _, rfl, rfl, rfl, ?_⟩
        refine comp_next hm hj hE3 (by rw [List.length_map]; exact small1000 (by omega)) ⟨_, bs ++ [decide (V.int (Builtin.bitAnd ((cellF ns 62 / 2 ^ (3 * (i : Int)).toNat) / 2 ^ (0 + (j : Int)).toNat) 1) = V.int 1)], rfl, s3.upd_new hE _, ?_, by rw [List.length_append, bl]; rfl⟩
        rw [upd_same, List.map_append]
        rfl
      case done1 =>
        rintro τ H3 ⟨v0, bs, rfl, s3, hE3, bl⟩
        have nED : E ≠ D := fun e => by rw [e, hD2.lst] at hE; cases hE
        refine ⟨_, rfl, s0, ns, 61, rfl, s3.seq hS2, by decide, _, _, rfl, rfl, (by show (0 : Int) < 3; decide), rfl, _, rfl, ?_⟩
        refine ite2 (fun yes => ?_) (fun no => ?_)
        · have hI3 := hI.same s3
          refine ⟨_, rfl, l.a, rfl, ⟨_, SqL.of hI3.lst⟩, fun G hG => ?_⟩
          refine comp_list (xs := irefs l.xs) (fun j τ H4 => ∃ w0 w1, τ = [w0, w1, some (.ref s0), some (.ref a), some (.ref o), some (.ref D), some (.int (i : Int)), some (.ref l.a), some (.int (cellF ns 62 / 2 ^ (3 * (i : Int)).toNat)), some (.ref E)] /\ Same H3 H4 /\ H4 G = some (.lst ((Of.best (tab (l.xs.take j)) (wr.t, wr.b)).map V.bl))) ⟨none, none, rfl, same_new hG _, upd_same⟩ ?keepG1 ?turnG1 ?doneG1
          case keepG1 =>
            rintro j τ H4 hj ⟨w0, w1, rfl, s4, _⟩
            exact SqL.of (hI3.same s4).lst
          case turnG1 =>
            rintro j m v τ H4 hm hj hv ⟨w0, w1, rfl, s4, hG4⟩
            obtain ⟨y, hy, rfl⟩ := irefs_at hv
            have hr2 : H4 y.p = some (.tup [.int y.v, .int y.w]) := (hI3.same s4).rows y (List.mem_of_getElem? hy)
            have gv := (g.each l hmem).vb (List.mem_map.mpr ⟨y, List.mem_of_getElem? hy, rfl⟩ : (y.v, y.w) ∈ tab l.xs)
            have hwq : H4 wr.q = some (.tup [.int wr.t, .int wr.b]) := (s3.trans s4) _ _ hw3
            have jl : j < l.xs.length := by rw [irefs_length] at hj; exact hj
            refine ⟨y.p, _, rfl, SqT.of hr2, rfl, _, _, rfl, _, _, rfl, rfl, ?_⟩
            refine tyes_if ?_
            refine ⟨_, rfl, _, rfl, _, rfl, _, _, rfl, rfl, o, _, _, _, rfl, rfl, SqL.of (hF2.same (s3.trans s4)).lst, atS (rrefs_get hw1), wr.q, _, _, _, rfl, rfl, SqT.of hwq, rfl, _, _, rfl, rfl, mulOk gv.1 fb.b (by decide), _, rfl, _, rfl, _, _, rfl, rfl, o, _, _, _, rfl, rfl, SqL.of (hF2.same (s3.trans s4)).lst, atS (rrefs_get hw1), wr.q, _, _, _, rfl, rfl, SqT.of hwq, rfl, _, _, rfl, rfl, ?_⟩
            refine comp_next hm hj hG4 (by rw [List.length_map]; unfold Of.best; rw [List.length_map, tab_length]; exact small1000 (Nat.le_trans (List.length_take_le _ _) (by omega))) ⟨_, _, rfl, s4.upd_new hG _, ?_⟩
            rw [upd_same, best_snoc hy, List.map_append]
            rfl
          case doneG1 =>
          rintro τ H4 ⟨w0, w1, rfl, s4, hG4⟩
          rw [irefs_length, List.take_length] at hG4
          have nGD : G ≠ D := fun e => by rw [e, (hD2.same s3).lst] at hG; cases hG
          have hD4 := hD2.same (s3.trans s4)
          refine ⟨_, rfl, .inl ⟨rfl, _, SqL.of hD4.lst⟩, _, rfl, D, _, .ref G, rfl, rfl, hD4.lst, by rw [rlrefs_length]; exact small1000 (by omega), ?_⟩
          exact fin G _ _ nGD ((s2.trans s3).trans s4) hD4 hG4 (by unfold Of.best; rw [List.length_map, tab_length]) (fun _ => by rw [hw2]) _ _ _ _
        · have hD4 := hD2.same s3
          refine ⟨_, rfl, .inl ⟨rfl, _, SqL.of hD4.lst⟩, _, rfl, D, _, .ref E, rfl, rfl, hD4.lst, by rw [rlrefs_length]; exact small1000 (by omega), ?_⟩
          exact fin E _ _ nED (s2.trans s3) hD4 hE3 (by omega) (fun yes => absurd (decide_eq_true (congrArg V.int yes)) no) _ _ _ _
    · skip
      refine ⟨_, rfl, l.a, _, rfl, .inl (SqL.of hI.lst), (l.xs.length : Int), by rw [irefs_length], by omega, by omega, fun E hE => ?_⟩
      refine comp_range (n := (l.xs.length : Int).toNat) (fun j τ H3 => ∃ v0 bs, τ = [v0, some (.ref s0), some (.ref a), some (.ref o), some (.ref D), some (.int (i : Int)), some (.ref l.a), some (.int nu), v7] /\ Same H2 H3 /\ H3 E = some (.lst (bs.map V.bl)) /\ bs.length = j) ⟨none, [], rfl, same_new hE _, upd_same, rfl⟩ ?turn2 ?done2
      case turn2 =>
        rintro j m τ H3 hm hj ⟨v0, bs, rfl, s3, hE3, bl⟩
        refine gyes ?_
        refine ⟨_, rfl, _, rfl, _, _, rfl, rfl, (by show (0 : Int) <= 0 + (j : Int); omega), _, _, rfl, rfl, rfl, ?_⟩
        refine comp_next hm hj hE3 (by rw [List.length_map]; exact small1000 (by omega)) ⟨_, bs ++ [decide (V.int (Builtin.bitAnd (nu / 2 ^ (0 + (j : Int)).toNat) 1) = V.int 1)], rfl, s3.upd_new hE _, ?_, by rw [List.length_append, bl]; rfl⟩
        rw [upd_same, List.map_append]
        rfl
      case done2 =>
        rintro τ H3 ⟨v0, bs, rfl, s3, hE3, bl⟩
        have nED : E ≠ D := fun e => by rw [e, hD2.lst] at hE; cases hE
        refine ⟨_, rfl, s0, ns, 61, rfl, s3.seq hS2, by decide, _, _, rfl, rfl, (by show (0 : Int) < 3; decide), rfl, _, rfl, ?_⟩
        refine ite2 (fun yes => ?_) (fun no => ?_)
        · have hI3 := hI.same s3
          refine ⟨_, rfl, l.a, rfl, ⟨_, SqL.of hI3.lst⟩, fun G hG => ?_⟩
          refine comp_list (xs := irefs l.xs) (fun j τ H4 => ∃ w0 w1, τ = [w0, w1, some (.ref s0), some (.ref a), some (.ref o), some (.ref D), some (.int (i : Int)), some (.ref l.a), some (.int nu), some (.ref E)] /\ Same H3 H4 /\ H4 G = some (.lst ((Of.best (tab (l.xs.take j)) (wr.t, wr.b)).map V.bl))) ⟨none, none, rfl, same_new hG _, upd_same⟩ ?keepG2 ?turnG2 ?doneG2
          case keepG2 =>
            rintro j τ H4 hj ⟨w0, w1, rfl, s4, _⟩
            exact SqL.of (hI3.same s4).lst
          case turnG2 =>
            rintro j m v τ H4 hm hj hv ⟨w0, w1, rfl, s4, hG4⟩
            obtain ⟨y, hy, rfl⟩ := irefs_at hv
            have hr2 : H4 y.p = some (.tup [.int y.v, .int y.w]) := (hI3.same s4).rows y (List.mem_of_getElem? hy)
            have gv := (g.each l hmem).vb (List.mem_map.mpr ⟨y, List.mem_of_getElem? hy, rfl⟩ : (y.v, y.w) ∈ tab l.xs)
            have hwq : H4 wr.q = some (.tup [.int wr.t, .int wr.b]) := (s3.trans s4) _ _ hw3
            have jl : j < l.xs.length := by rw [irefs_length] at hj; exact hj
            refine ⟨y.p, _, rfl, SqT.of hr2, rfl, _, _, rfl, _, _, rfl, rfl, ?_⟩
            refine tyes_if ?_
            refine ⟨_, rfl, _, rfl, _, rfl, _, _, rfl, rfl, o, _, _, _, rfl, rfl, SqL.of (hF2.same (s3.trans s4)).lst, atS (rrefs_get hw1), wr.q, _, _, _, rfl, rfl, SqT.of hwq, rfl, _, _, rfl, rfl, mulOk gv.1 fb.b (by decide), _, rfl, _, rfl, _, _, rfl, rfl, o, _, _, _, rfl, rfl, SqL.of (hF2.same (s3.trans s4)).lst, atS (rrefs_get hw1), wr.q, _, _, _, rfl, rfl, SqT.of hwq, rfl, _, _, rfl, rfl, ?_⟩
            refine comp_next hm hj hG4 (by rw [List.length_map]; unfold Of.best; rw [List.length_map, tab_length]; exact small1000 (Nat.le_trans (List.length_take_le _ _) (by omega))) ⟨_, _, rfl, s4.upd_new hG _, ?_⟩
            rw [upd_same, best_snoc hy, List.map_append]
            rfl
          case doneG2 =>
          rintro τ H4 ⟨w0, w1, rfl, s4, hG4⟩
          rw [irefs_length, List.take_length] at hG4
          have nGD : G ≠ D := fun e => by rw [e, (hD2.same s3).lst] at hG; cases hG
          have hD4 := hD2.same (s3.trans s4)
          refine ⟨_, rfl, .inl ⟨rfl, _, SqL.of hD4.lst⟩, _, rfl, D, _, .ref G, rfl, rfl, hD4.lst, by rw [rlrefs_length]; exact small1000 (by omega), ?_⟩
          exact fin G _ _ nGD ((s2.trans s3).trans s4) hD4 hG4 (by unfold Of.best; rw [List.length_map, tab_length]) (fun _ => by rw [hw2]) _ _ _ _
        · have hD4 := hD2.same s3
          refine ⟨_, rfl, .inl ⟨rfl, _, SqL.of hD4.lst⟩, _, rfl, D, _, .ref E, rfl, rfl, hD4.lst, by rw [rlrefs_length]; exact small1000 (by omega), ?_⟩
          exact fin E _ _ nED (s2.trans s3) hD4 hE3 (by omega) (fun yes => absurd (decide_eq_true (congrArg V.int yes)) no) _ _ _ _
  case done =>
    rintro σ H' ⟨rs, v4, v5, v6, v7, rfl, hs, hR, rl, re, nn⟩
    rw [hll] at rl
    have get : ∀ (j : Nat) T, (ltabs ls)[j]? = some T -> ∃ l, ls[j]? = some l /\ T = tab l.xs := fun j T h => by
      unfold ltabs at h
      rw [List.getElem?_map] at h
      cases e : ls[j]? with
      | none => rw [e] at h; cases h
      | some l => rw [e] at h; cases h; exact ⟨l, rfl, rfl⟩
    refine ⟨_, rfl, q D H' rs hs hR ⟨by rw [rl]; exact tl.symm, fun j r T h1 h2 => ?_⟩ fun yes j r T h1 h2 => ?_⟩
    · obtain ⟨l, hl, rfl⟩ := get j T h2
      exact (re j r l h1 hl).1
    · obtain ⟨l, hl, rfl⟩ := get j T h2
      exact (re j r l h1 hl).2 yes
end
end K76
namespace K76
open PySem L2 TD
open Builtin.Int (intBits)
section
variable {P : Program} {w : World} {K : PySem.W.Frag} {mg : Str -> Option Value} {base : Heap} {Pt : Addr}
theorem fc_over {H : Hp} {D p : Addr} {f : Rk.Fc} {xs zs : List V} (h : FcAt H p f) (e : H D = some (.lst xs)) : FcAt (upd H D (.lst zs)) p f := by
  unfold FcAt at h ⊢
  rw [upd_ne (ne_of h e fun z => nomatch z)]
  exact h
theorem ok_Offers_rule_losses {n : Nat} {f : Addr} {fd : FuncData} (F : Fun K "rule_losses" "Offers.rule_losses" (inClass (top 34) 10) f fd) {C : Addr} (cf : OF K C) {f_nr f_wo : Addr} {fd_nr fd_wo : FuncData} (m_nr : Meth K C "need_rule" f_nr) (G_nr : FnOk P w K mg base CX0 n f_nr fd_nr ["self", "rule"] (spNR C)) (b_nr : Binds K fd_nr ["self", "rule"] []) (m_wo : Meth K C "worths_on" f_wo) (G_wo : FnOk P w K mg base CX0 n f_wo fd_wo ["self"] (spWOn C)) (b_wo : Binds K fd_wo ["self"] []) {g_times : Addr} {gd_times : FuncData} (c_times : Cal P w K mg base n "times" ["one", "other"] (spFr K tT pB) g_times gd_times) {g_minus : Addr} {gd_minus : FuncData} (c_minus : Cal P w K mg base n "minus" ["one", "other"] (spFr K mT pB) g_minus gd_minus) {g_share_of_some : Addr} {gd_share_of_some : FuncData} (c_share_of_some : Cal P w K mg base n "share_of_some" ["table", "truths"] spSS g_share_of_some gd_share_of_some) {g_whole : Addr} {gd_whole : FuncData} (c_whole : Cal P w K mg base n "whole" ["number"] spWh g_whole gd_whole) {g_moment_loss : Addr} {gd_moment_loss : FuncData} (c_moment_loss : Cal P w K mg base n "moment_loss" ["table", "truths", "worth_on"] spML g_moment_loss gd_moment_loss) (z_enumerate : mg "enumerate" = none) : FnOk P w K mg base CX0 (n + 1) f fd ["self", "rule"] (spRLo C) := by
  refine F.ok sc_Offers_rule_losses (fun vs H Q E h => ?_) (fun cdv A outer s H vs Q E hr h => ?_)
  · obtain ⟨x, a, ts, rs, rfl, _⟩ := h
    rfl
  obtain ⟨x, a, ts, rs, rfl, hO, hR, g, rt, q⟩ := h
  have nd := sc_Offers_rule_losses.nd
  refine ⟨_, (pss_cons (ps_expr (pe_meth (pv 0) cf.cl m_nr G_nr hr b_nr .nil pass0 (pa_cons (pv 1) pa_nil))) (pss_cons (ps_set (i := 2) nd rfl (Or.inl rfl) (pe_meth0 (pv 0) cf.cl m_wo G_wo hr b_wo .nil pass0)) (pss_cons (ps_set (i := 3) nd rfl (Or.inl rfl) (pe_callC c_whole hr (pa_cons pe_int pa_nil))) (pss_cons (ps_set (i := 4) nd rfl (Or.inl rfl) (pe_lst pa_nil)) (pss_cons (ps_for PassesOwn.never rfl (pi_enumT (K := K) rfl rfl z_enumerate (pa_cons (pe_fld (pv 0) rfl) pa_nil)) (pg_tup rfl (pgs_cons (pg_name (i := 5) nd rfl (Or.inl rfl)) (pgs_cons (pg_name (i := 6) nd rfl (Or.inl rfl)) pgs_nil))) (pss_cons (ps_expr (pe_bm PySem.F.plainAttrs_list PySem.F.slot_list_append PySem.F.type_list_append mt_append (pv 4) (pa_cons (pe_tup (pa_cons (pv 3) (pa_cons (pe_callC c_moment_loss hr (pa_cons (pv 6) (pa_cons (pe_ix ix_list (pv 1) (pv 5) (fun _ _ => rfl)) (pa_cons (pe_ix ix_list (pv 2) (pe_op op_add (pv 5) pe_int) (fun _ _ => rfl)) pa_nil)))) pa_nil))) pa_nil))) (pss_one (ps_set (i := 3) nd rfl (Or.inl rfl) (pe_callC c_times hr (pa_cons (pv 3) (pa_cons (pe_callC c_minus hr (pa_cons (pe_callC c_whole hr (pa_cons pe_int pa_nil)) (pa_cons (pe_callC c_share_of_some hr (pa_cons (pv 6) (pa_cons (pe_ix ix_list (pv 1) (pv 5) (fun _ _ => rfl)) pa_nil))) pa_nil))) pa_nil))))))) (pss_one (ps_ret (pv 4)))))))), ?_⟩
  obtain ⟨dx, k, hx, hK⟩ := hO
  have hlt := trefs_length ts
  have tl := tabs_length ts
  have ll : rs.length = ts.length := by rw [rt.len]; exact tl
  have gl := g.len
  have pl := prs_length rt
  rw [tl] at pl
  refine ⟨_, rfl, x, dx, _, rfl, hx, rfl, _, rfl, x, a, ts, rs, rfl, ⟨dx, k, hx, hK⟩, hR, g, rt, fun H1 s1 => ?_⟩
  refine ⟨_, rfl, x, dx, _, rfl, s1 _ _ hx, rfl, x, ts, rfl, ⟨dx, k, s1 _ _ hx, hK.same s1⟩, g, fun F H2 fs s2 hFn hF ev => ?_⟩
  refine ⟨_, rfl, fun p0 H3 s3 h3 => ?_⟩
  have sA := (s1.trans s2).trans s3
  have hF3 := hF.same s3
  have hR3 := hR.same sA
  have hK3 := hK.same sA
  refine ⟨Nat.zero_le _, fun D hD => ?_⟩
  have nD := same_new hD (.lst [])
  refine ⟨_, rfl, x, C, dx, _, _, rfl, nD _ _ (sA _ _ hx), cf.cl, cf.nk, rfl, k, _, rfl, SqT.of (hK3.same nD).tp, ?_⟩
  refine for_enumT (xs := trefs ts) (fun i σ H' => ∃ pr us v5 v6, σ = [some (.ref x), some (.ref a), some (.ref F), some (.ref pr), some (.ref D), v5, v6] /\ Same H3 H' /\ FcAt H' pr (Of.mF ((prs (tabs ts) rs).take i)).r /\ LoAt H' D us /\ us.length = i /\ ∀ (j : Nat) u T R, us[j]? = some u -> (prs (tabs ts) rs)[j]? = some (T, R) -> u.r = (Of.mF ((prs (tabs ts) rs).take j)).r /\ u.l = Of.lossL T R (Rk.hd (Of.onF ((tabs ts).drop (j + 1))))) ⟨p0, [], none, none, rfl, nD, nD _ _ h3, ⟨upd_same, fun _ h => nomatch h⟩, rfl, fun j u T R h => by simp at h⟩ ?keep ?turn ?done
  case keep =>
    rintro i σ H' hi ⟨pr, us, v5, v6, rfl, hs, _⟩
    exact SqT.of (hK3.same hs).tp
  case turn =>
    rintro i v T σ H' hv hTn ⟨pr, us, v5, v6, rfl, hs, hp, hU, ul, ue⟩
    obtain ⟨t, ht1, rfl⟩ := trefs_at hv
    have tm := List.mem_of_getElem? ht1
    have hi := (List.getElem?_eq_some_iff.mp ht1).1
    obtain ⟨r, hr1⟩ : ∃ r, rs[i]? = some r := ⟨_, List.getElem?_eq_getElem (by omega)⟩
    have eT : (tabs ts)[i]? = some (tabY t.ys) := by unfold tabs; rw [List.getElem?_map, ht1]; rfl
    have el := rt.each i r (tabY t.ys) hr1 eT
    rw [tabY_length] at el
    have gy := g.each t tm
    have ep := prs_at hr1 eT
    have sb := Of.mF_b i ((prs (tabs ts) rs).take i) (by rw [List.length_take]; omega) (by omega) fun z hz => by
      obtain ⟨w1, _⟩ := prs_mem rt (List.mem_of_mem_take hz)
      exact g.gt _ w1
    obtain ⟨wr, hw1, hw2⟩ := frs_get (j := i + 1) ev (by omega)
    have fb := Of.onF_200 (Ts := tabs ts) g.gt (by omega) (i + 1)
    rw [<- hw2] at fb
    have shb := Of.shareS_b (R := r.bs) gy.g
    have mib := Of.Fb.mi1 shb (n := 19) (by decide) (by decide)
    have n1 := same_new hTn (.tup [.int (i : Int), .ref t.a])
    have s4 := hs.trans n1
    refine ⟨T, _, rfl, SqT.of upd_same, rfl, _, _, rfl, _, _, rfl, rfl, ?_⟩
    generalize upd H' T (.tup [.int (i : Int), .ref t.a]) = H4 at n1 s4 ⊢
    have hU4 := hU.same n1
    have hp4 : FcAt H4 pr _ := n1 _ _ hp
    refine ⟨_, rfl, .inl ⟨rfl, _, SqL.of hU4.lst⟩, _, rfl, _, rfl, _, rfl, _, rfl, a, _, _, _, rfl, rfl, SqL.of (hR3.same s4).lst, atI_nat (rlrefs_get hr1), _, rfl, _, rfl, _, _, rfl, rfl, F, _, _, _, rfl, rfl, SqL.of (hF3.same s4).lst, atS (rrefs_get hw1), t.a, r.a, wr.q, t.ys, r.bs, (wr.t, wr.b), rfl, (hK3.same s4).each t tm, (hR3.same s4).each r (List.mem_of_getElem? hr1), (hF3.same s4).at_ wr (List.mem_of_getElem? hw1), gy, el, fb, fun pl2 H5 s5 h5 => ?_⟩
    refine ⟨sz2, fun u hu => ?_⟩
    have n2 := same_new hu (.tup [.ref pr, .ref pl2])
    have s6 := s5.trans n2
    have hU6 := hU4.same s6
    have row : LoRow (upd H5 u (.tup [.ref pr, .ref pl2])) ⟨u, pr, pl2, (Of.mF ((prs (tabs ts) rs).take i)).r, Of.lossL (tabY t.ys) r.bs (wr.t, wr.b)⟩ := ⟨upd_same, s6 _ _ hp4, n2 _ _ h5⟩
    refine ⟨D, lorefs us, .ref u, rfl, rfl, hU6.lst, by rw [lorefs_length]; exact small1000 (by omega), ?_⟩
    have hU7 := hU6.push row
    have hp7 : FcAt (upd (upd H5 u (.tup [.ref pr, .ref pl2])) D (.lst (lorefs us ++ [.ref u]))) pr _ := fc_over (s6 _ _ hp4) hU6.lst
    have s7 : Same H3 (upd (upd H5 u (.tup [.ref pr, .ref pl2])) D (.lst (lorefs us ++ [.ref u]))) := (s4.trans s6).upd_new hD _
    generalize upd (upd H5 u (.tup [.ref pr, .ref pl2])) D (.lst (lorefs us ++ [.ref u])) = H7 at hU7 hp7 s7 ⊢
    refine ⟨_, rfl, _, rfl, fun pw H8 s8 h8 => ?_⟩
    have s9 := s7.trans s8
    refine ⟨_, rfl, _, rfl, _, rfl, a, _, _, _, rfl, rfl, SqL.of (hR3.same s9).lst, atI_nat (rlrefs_get hr1), t.a, r.a, t.ys, r.bs, rfl, (hK3.same s9).each t tm, (hR3.same s9).each r (List.mem_of_getElem? hr1), gy, el, fun pq H9 s10 h9 => ?_⟩
    refine ⟨pw, pq, _, _, _, _, rfl, sq_fc (s10 _ _ h8), sq_fc h9, szs Lg.one_b shb (by decide) (by decide) (by decide) (by decide), mulne Lg.one_b shb, fun pi H10 s11 h10 => ?_⟩
    refine ⟨pr, pi, _, _, _, _, rfl, sq_fc (((s8.trans s10).trans s11) _ _ hp7), sq_fc (f := Rk.mi _ _) h10, szs sb.r mib (by omega) (by omega) (by decide) (by decide), mulne sb.r mib, fun pr' H11 s12 h11 => ?_⟩
    have s13 := ((s8.trans s10).trans s11).trans s12
    refine ⟨pr', us ++ [⟨u, pr, pl2, (Of.mF ((prs (tabs ts) rs).take i)).r, Of.lossL (tabY t.ys) r.bs (wr.t, wr.b)⟩], _, _, rfl, s7.trans s13, ?_, hU7.same s13, by rw [List.length_append, ul]; rfl, ?_⟩
    · rw [take_snoc ep, Of.mF_r]
      exact h11
    · intro j u' T' R' h1 h2
      by_cases hj : j < us.length
      · rw [List.getElem?_append_left hj] at h1
        exact ue j u' T' R' h1 h2
      · have hj2 := (List.getElem?_eq_some_iff.mp h1).1
        rw [List.length_append, List.length_singleton] at hj2
        have ej : j = i := by omega
        subst ej
        rw [List.getElem?_append_right (by omega), ul, Nat.sub_self] at h1
        rw [ep] at h2
        cases h1
        cases h2
        exact ⟨rfl, by show Of.lossL (tabY t.ys) r.bs (wr.t, wr.b) = _; rw [hw2]⟩
  case done =>
    rintro σ H' ⟨pr, us, v5, v6, rfl, hs, hp, hU, ul, ue⟩
    rw [hlt] at ul
    exact ⟨_, rfl, q D H' us (sA.trans hs) hU ⟨by rw [ul, tl], ue⟩⟩
end
end K76
namespace K76
open PySem L2 TD
open Builtin.Int (intBits)
section
variable {P : Program} {w : World} {K : PySem.W.Frag} {mg : Str -> Option Value} {base : Heap} {Pt : Addr}
theorem loss_snoc {xs : List Ir} {bs : List Bool} {f : Rk.Fc} {i : Nat} {y : Ir} {c : Bool} (h1 : xs[i]? = some y) (h2 : bs[i]? = some c) : Of.lossTop (tab (xs.take (i + 1))) (bs.take (i + 1)) f = Of.lossTop (tab (xs.take i)) (bs.take i) f + y.w * (Of.mx y.v f - Of.ownT y.v c f) := by
  have l1 := (List.getElem?_eq_some_iff.mp h1).1
  have l2 := (List.getElem?_eq_some_iff.mp h2).1
  have e : (tab (xs.take i)).length = (bs.take i).length := by rw [tab_length, List.length_take, List.length_take]; omega
  rw [take_snoc h1, take_snoc h2, tab_snoc]
  unfold Of.lossTop
  rw [List.zip_append e, List.map_append, List.sum_append]
  simp
theorem ok__law_loss {n : Nat} {f : Addr} {fd : FuncData} (F : Fun K "_law_loss" "_law_loss" (top 48) f fd) {g__law_lowest : Addr} {gd__law_lowest : FuncData} (c__law_lowest : Cal P w K mg base n "_law_lowest" ["_law_top", "_law_bottom"] spLow g__law_lowest gd__law_lowest) (z_zip : mg "zip" = none) (z_max : mg "max" = none) (z_int : mg "int" = none) : FnOk P w K mg base CX0 (n + 1) f fd ["_law_table", "_law_truths", "_law_on_here"] spLo6 := by
  refine F.ok sc__law_loss (fun vs H Q E h => ?_) (fun cdv A outer s H vs Q E hr h => ?_)
  · obtain ⟨a, b, c, xs, bs, f, rfl, _⟩ := h
    rfl
  obtain ⟨a, b, c, xs, bs, f, rfl, hI, hb, hc, gl, el, fb, q⟩ := h
  have nd := sc__law_loss.nd
  refine ⟨_, (pss_cons (ps_set (i := 3) nd rfl (Or.inl rfl) pe_int) (pss_cons (ps_set (i := 4) nd rfl (Or.inl rfl) pe_int) (pss_cons (ps_for PassesOwn.never rfl (pi_zip rfl z_zip (pa_cons (pv 0) (pa_cons (pv 1) pa_nil))) (pg_tup rfl (pgs_cons (pg_name (i := 5) nd rfl (Or.inl rfl)) (pgs_cons (pg_name (i := 6) nd rfl (Or.inl rfl)) pgs_nil))) (pss_cons (ps_set (i := 7) nd rfl (Or.inl rfl) (pe_ix ix_list (pe_lst (pa_cons (pe_ix ix_tup (pv 2) pe_int (fun _ _ => rfl)) (pa_cons (pe_op op_mulB (pe_ix ix_tup (pv 5) pe_int (fun _ _ => rfl)) (pe_ix ix_tup (pv 2) pe_int (fun _ _ => rfl))) pa_nil))) (pe_callTy call_int1 rfl z_int bt_int (pa_cons (pv 6) pa_nil)) (fun _ _ => rfl))) (pss_cons (ps_set (i := 3) nd rfl (Or.inl rfl) (pe_op op_add (pv 3) (pe_op op_mulB (pe_ix ix_tup (pv 5) pe_int (fun _ _ => rfl)) (pe_op op_sub (pe_callB (call_max2 rfl) rfl z_max bt_max (pa_cons (pe_op op_mulB (pe_ix ix_tup (pv 5) pe_int (fun _ _ => rfl)) (pe_ix ix_tup (pv 2) pe_int (fun _ _ => rfl))) (pa_cons (pe_ix ix_tup (pv 2) pe_int (fun _ _ => rfl)) pa_nil))) (pv 7))))) (pss_one (ps_set (i := 4) nd rfl (Or.inl rfl) (pe_op op_add (pv 4) (pe_ix ix_tup (pv 5) pe_int (fun _ _ => rfl)))))))) (pss_one (ps_ret (pe_callC c__law_lowest hr (pa_cons (pv 3) (pa_cons (pe_op op_mulB (pv 4) (pe_ix ix_tup (pv 2) pe_int (fun _ _ => rfl))) pa_nil)))))))), ?_⟩
  have hil := irefs_length xs
  refine ⟨_, rfl, _, rfl, a, b, _, _, rfl, SqL.of hI.lst, SqL.of hb, ?_⟩
  refine for_zip (xs := irefs xs) (ys := bs.map V.bl) (fun i σ H' => ∃ v5 v6 v7, σ = [some (.ref a), some (.ref b), some (.ref c), some (.int (Of.lossTop (tab (xs.take i)) (bs.take i) f)), some (.int (Of.W (tab (xs.take i)))), v5, v6, v7] /\ Same H H') (by rw [hil, List.length_map, el]) ⟨none, none, none, rfl, Same.refl _⟩ ?keep ?turn ?done
  case keep =>
    rintro i σ H' hi ⟨v5, v6, v7, rfl, hs⟩
    exact ⟨SqL.of (hI.same hs).lst, SqL.of (hs _ _ hb)⟩
  case turn =>
    rintro i x v T σ H' hx hv hT ⟨v5, v6, v7, rfl, hs⟩
    obtain ⟨y, hy, rfl⟩ := irefs_at hx
    rw [List.getElem?_map] at hv
    cases eb : bs[i]? with
    | none => rw [eb] at hv; cases hv
    | some d =>
      rw [eb] at hv
      cases hv
      have ymem := List.mem_of_getElem? hy
      have gv := gl.vb (List.mem_map.mpr ⟨y, ymem, rfl⟩ : (y.v, y.w) ∈ tab xs)
      have n1 := same_new hT (.tup [.ref y.p, .bl d])
      refine ⟨T, _, rfl, SqT.of upd_same, rfl, _, _, rfl, _, _, rfl, rfl, ?_⟩
      generalize upd H' T (.tup [.ref y.p, .bl d]) = H1 at n1 ⊢
      have s1 := hs.trans n1
      have hr2 : H1 y.p = some (.tup [.int y.v, .int y.w]) := (hI.same s1).rows y ymem
      have hc1 : FcAt H1 c f := s1 _ _ hc
      have at_ : atI [V.int f.1, V.int (y.v * f.2)] (if d = true then 1 else 0) = some (V.int (Of.ownT y.v d f)) := by cases d <;> rfl
      refine ⟨_, rfl, c, _, _, _, rfl, rfl, sq_fc hc1, rfl, _, rfl, y.p, _, _, _, rfl, rfl, SqT.of hr2, rfl, _, rfl, c, _, _, _, rfl, rfl, sq_fc hc1, rfl, _, _, rfl, rfl, mulOk gv.1 fb.b (by decide), sz2, fun l hl => ⟨_, rfl, .inr ⟨d, rfl, l, _, _, _, rfl, rfl, SqL.of upd_same, at_, ?_⟩⟩⟩
      have n2 := same_new hl (.lst [V.int f.1, V.int (y.v * f.2)])
      have hr2 := n2 _ _ hr2
      have hc1 : FcAt (upd H1 l (.lst [V.int f.1, V.int (y.v * f.2)])) c f := n2 _ _ hc1
      have sb := Of.sub_b (Of.mx_b gv.1 fb) (Of.ownT_b (b := d) gv.1 fb)
      refine ⟨_, rfl, _, rfl, y.p, _, _, _, rfl, rfl, SqT.of hr2, rfl, _, rfl, y.p, _, _, _, rfl, rfl, SqT.of hr2, rfl, _, rfl, c, _, _, _, rfl, rfl, sq_fc hc1, rfl, _, _, rfl, rfl, mulOk gv.1 fb.b (by decide), _, rfl, c, _, _, _, rfl, rfl, sq_fc hc1, rfl, _, _, rfl, _, rfl, _, _, rfl, rfl, _, _, rfl, rfl, mulOk gv.2 (show intBits (Of.mx y.v f - Of.ownT y.v d f) <= 231 from sb) (by decide), _, _, rfl, rfl, ?_⟩
      refine ⟨_, rfl, _, rfl, y.p, _, _, _, rfl, rfl, SqT.of hr2, rfl, _, _, rfl, rfl, ?_⟩
      refine ⟨some (.ref y.p), some (.bl d), some (.int (Of.ownT y.v d f)), ?_, s1.trans n2⟩
      rw [loss_snoc hy eb, take_snoc hy, tab_snoc, W_snoc]
      rfl
  case done =>
    rintro σ H' ⟨v5, v6, v7, rfl, hs⟩
    rw [hil, List.take_length, el, List.take_length]
    have hc1 : FcAt H' c f := hs _ _ hc
    have hw1 := gl.W1
    refine ⟨_, rfl, _, rfl, _, rfl, c, _, _, _, rfl, rfl, sq_fc hc1, rfl, _, _, rfl, rfl, mulOk gl.wb fb.b (by decide), _, _, rfl, Int.mul_pos (by omega) fb.pos, Nat.le_trans (PySem.intBits_mul_le gl.wb fb.b) (by decide), fun p H3 s3 h3 => q p H3 (hs.trans s3) h3⟩
end
end K76
namespace K76
open PySem L2 TD
open Builtin.Int (intBits)
section
variable {P : Program} {w : World} {K : PySem.W.Frag} {mg : Str -> Option Value} {base : Heap} {Pt : Addr}
theorem ok__law_walked {n : Nat} {f : Addr} {fd : FuncData} (F : Fun K "_law_walked" "_law_walked" (top 49) f fd) {g__law_lowest : Addr} {gd__law_lowest : FuncData} (c__law_lowest : Cal P w K mg base n "_law_lowest" ["_law_top", "_law_bottom"] spLow g__law_lowest gd__law_lowest) {g__law_added : Addr} {gd__law_added : FuncData} (c__law_added : Cal P w K mg base n "_law_added" ["_law_one", "_law_other"] spLA g__law_added gd__law_added) {g__law_same : Addr} {gd__law_same : FuncData} (c__law_same : Cal P w K mg base n "_law_same" ["_law_found", "_law_due"] spSame g__law_same gd__law_same) {g__law_loss : Addr} {gd__law_loss : FuncData} (c__law_loss : Cal P w K mg base n "_law_loss" ["_law_table", "_law_truths", "_law_on_here"] spLo6 g__law_loss gd__law_loss) (z_enumerate : mg "enumerate" = none) (z_sum : mg "sum" = none) (z_zip : mg "zip" = none) (z_len : mg "len" = none) (z_isinstance : mg "isinstance" = none) (z_tuple : mg "tuple" = none) : FnOk P w K mg base CX0 (n + 1) f fd ["_law_tables", "_law_rule_here", "_law_told", "_law_on_here"] spWk := by
  refine F.ok sc__law_walked (fun vs H Q E h => ?_) (fun cdv A outer s H vs Q E hr h => ?_)
  · obtain ⟨a, b, t, o, ls, rs, us, fs, rfl, _⟩ := h
    rfl
  obtain ⟨a, b, t, o, ls, rs, us, fs, rfl, hL, hR, hU, hF, g, rt, lo, ev, q⟩ := h
  have nd := sc__law_walked.nd
  refine ⟨_, (pss_cons (ps_set (i := 4) nd rfl (Or.inl rfl) (pe_tup (pa_cons pe_int (pa_cons pe_int pa_nil)))) (pss_cons (ps_set (i := 5) nd rfl (Or.inl rfl) (pe_tup (pa_cons pe_int (pa_cons pe_int pa_nil)))) (pss_cons (ps_for PassesOwn.never rfl (pi_enum rfl z_enumerate (pa_cons (pv 2) pa_nil)) (pg_tup rfl (pgs_cons (pg_name (i := 6) nd rfl (Or.inl rfl)) (pgs_cons (pg_name (i := 7) nd rfl (Or.inl rfl)) pgs_nil))) (pss_cons (ps_set (i := 8) nd rfl (Or.inl rfl) (pe_ix ix_list (pv 0) (pv 6) (fun _ _ => rfl))) (pss_cons (ps_set (i := 9) nd rfl (Or.inl rfl) (pe_ix ix_list (pv 1) (pv 6) (fun _ _ => rfl))) (pss_cons (ps_if (PW.pt (pw_or (pt_not (pt_val (pe_callB (call_isinst (T := "tuple")) rfl z_isinstance bt_isinstance (pa_cons (pv 7) (pa_cons (pe_bltn (v := .ty "tuple") rfl z_tuple bt_tuple rfl) pa_nil))))) (pw_or (pt_cmpR op_ne (pe_callB call_len_seq rfl z_len bt_len (pa_cons (pv 7) pa_nil)) pe_int (nomark _)) (pw_or1 (pt_not (pt_val (pe_callC c__law_same hr (pa_cons (pe_ix ix_tup (pv 7) pe_int (fun _ _ => rfl)) (pa_cons (pv 5) pa_nil))))))))) (pss_one (ps_ret pe_non)) pss_nil) (pss_cons (ps_if (PW.pt (pw_or (pt_not (pt_val (pe_callC c__law_same hr (pa_cons (pe_ix ix_tup (pv 7) pe_int (fun _ _ => rfl)) (pa_cons (pe_callC c__law_loss hr (pa_cons (pv 8) (pa_cons (pv 9) (pa_cons (pe_ix ix_list (pv 3) (pe_op op_add (pv 6) pe_int) (fun _ _ => rfl)) pa_nil)))) pa_nil))))) (pw_or1 (pt_cmpR op_lt (pe_ix ix_tup (pe_ix ix_tup (pv 7) pe_int (fun _ _ => rfl)) pe_int (fun _ _ => rfl)) pe_int (nomark _))))) (pss_one (ps_ret pe_non)) pss_nil) (pss_cons (ps_set (i := 10) nd rfl (Or.inl rfl) (pe_callB (call_sum rfl) rfl z_sum bt_sum (pa_cons (pe_comp (ls := ["_law_value", "_law_weight"]) (M := ["_law_tables", "_law_rule_here", "_law_told", "_law_on_here", "_law_found", "_law_reached", "_law_k", "_law_row", "_law_table", "_law_truths", "_law_total", "_law_had", "_law_left"]) rfl (CompOk.of (by rfl)) (NL.of (by rfl)) (pi_list (pv 8)) (fun _ _ _ _ => ⟨(pg_tupK (K := K) (n := 2) rfl rfl (pgs_cons (pg_name (i := 0) (nd_of (by rfl)) rfl (Or.inl rfl)) (pgs_cons (pg_name (i := 1) (nd_of (by rfl)) rfl (Or.inl rfl)) pgs_nil))), pts_nil, (pv 1)⟩)) pa_nil))) (pss_cons (ps_set (i := 11) nd rfl (Or.inl rfl) (pe_callB (call_sum rfl) rfl z_sum bt_sum (pa_cons (pe_comp (ls := ["_law_pair", "_law_yes"]) (M := ["_law_tables", "_law_rule_here", "_law_told", "_law_on_here", "_law_found", "_law_reached", "_law_k", "_law_row", "_law_table", "_law_truths", "_law_total", "_law_had", "_law_left"]) rfl (CompOk.of (by rfl)) (NL.of (by rfl)) (pi_zip rfl z_zip (pa_cons (pv 8) (pa_cons (pv 9) pa_nil))) (fun _ _ _ _ => ⟨(pg_tupK (K := K) (n := 2) rfl rfl (pgs_cons (pg_name (i := 0) (nd_of (by rfl)) rfl (Or.inl rfl)) (pgs_cons (pg_name (i := 1) (nd_of (by rfl)) rfl (Or.inl rfl)) pgs_nil))), (pts_one (pt_val (pv 1))), (pe_op op_mulB (pe_ix (ix_tupK (K := K) rfl) (pv 0) pe_int (fun _ _ => rfl)) (pe_ix (ix_tupK (K := K) rfl) (pv 0) pe_int (fun _ _ => rfl)))⟩)) pa_nil))) (pss_cons (ps_set (i := 4) nd rfl (Or.inl rfl) (pe_callC c__law_added hr (pa_cons (pv 4) (pa_cons (pe_tup (pa_cons (pe_op op_mulB (pe_ix ix_tup (pv 5) pe_int (fun _ _ => rfl)) (pv 11)) (pa_cons (pe_op op_mulB (pe_ix ix_tup (pv 5) pe_int (fun _ _ => rfl)) (pv 10)) pa_nil))) pa_nil)))) (pss_cons (ps_set (i := 4) nd rfl (Or.inl rfl) (pe_callC c__law_added hr (pa_cons (pv 4) (pa_cons (pe_tup (pa_cons (pe_op op_mulB (pe_ix ix_tup (pv 5) pe_int (fun _ _ => rfl)) (pe_ix ix_tup (pe_ix ix_tup (pv 7) pe_int (fun _ _ => rfl)) pe_int (fun _ _ => rfl))) (pa_cons (pe_op op_mulB (pe_ix ix_tup (pv 5) pe_int (fun _ _ => rfl)) (pe_ix ix_tup (pe_ix ix_tup (pv 7) pe_int (fun _ _ => rfl)) pe_int (fun _ _ => rfl))) pa_nil))) pa_nil)))) (pss_cons (ps_set (i := 12) nd rfl (Or.inl rfl) (pe_callB (call_sum rfl) rfl z_sum bt_sum (pa_cons (pe_comp (ls := ["_law_pair", "_law_yes"]) (M := ["_law_tables", "_law_rule_here", "_law_told", "_law_on_here", "_law_found", "_law_reached", "_law_k", "_law_row", "_law_table", "_law_truths", "_law_total", "_law_had", "_law_left"]) rfl (CompOk.of (by rfl)) (NL.of (by rfl)) (pi_zip rfl z_zip (pa_cons (pv 8) (pa_cons (pv 9) pa_nil))) (fun _ _ _ _ => ⟨(pg_tupK (K := K) (n := 2) rfl rfl (pgs_cons (pg_name (i := 0) (nd_of (by rfl)) rfl (Or.inl rfl)) (pgs_cons (pg_name (i := 1) (nd_of (by rfl)) rfl (Or.inl rfl)) pgs_nil))), (pts_one (pt_not (pt_val (pv 1)))), (pe_ix (ix_tupK (K := K) rfl) (pv 0) pe_int (fun _ _ => rfl))⟩)) pa_nil))) (pss_one (ps_set (i := 5) nd rfl (Or.inl rfl) (pe_callC c__law_lowest hr (pa_cons (pe_op op_mulB (pe_ix ix_tup (pv 5) pe_int (fun _ _ => rfl)) (pv 12)) (pa_cons (pe_op op_mulB (pe_ix ix_tup (pv 5) pe_int (fun _ _ => rfl)) (pv 10)) pa_nil))))))))))))))) (pss_one (ps_ret (pv 4)))))), ?_⟩
  have hlu := lorefs_length us
  have tl := ltabs_length ls
  have lu : us.length = ls.length := by rw [lo.len, tl]
  have lr : rs.length = ls.length := by rw [rt.len, tl]
  have hlen := g.len
  have pl := prs_length rt
  rw [tl] at pl
  refine ⟨sz2, fun p0 hp0 => ⟨sz2, fun p1 hp1 => ?_⟩⟩
  have n0 := same_new hp0 (.tup [V.int 0, V.int 1])
  have n00 := n0.trans (same_new hp1 (.tup [V.int 1, V.int 1]))
  have h00 := (same_new hp1 (.tup [V.int 1, V.int 1])) p0 _ upd_same
  refine ⟨_, rfl, t, _, rfl, (hU.same n00).lst, ?_⟩
  refine for_enum (xs := lorefs us) (fun i σ H' => ∃ pf pr f v6 v7 v8 v9 v10 v11 v12, σ = [some (.ref a), some (.ref b), some (.ref t), some (.ref o), some (.ref pf), some (.ref pr), v6, v7, v8, v9, v10, v11, v12] /\ Same H H' /\ FcAt H' pf f /\ FcAt H' pr (Of.mF ((prs (ltabs ls) rs).take i)).r /\ Fr.IsFr f.1 f.2 /\ Lg.Fb f (480 * i + 200) (480 * i + 1) /\ Rk.v f + Rk.v (Of.mF ((prs (ltabs ls) rs).take i)).r * Rk.v (Rk.hd (Of.onF ((ltabs ls).drop i))) = Rk.v (Rk.hd (Of.onF (ltabs ls)))) ⟨p0, p1, (0, 1), none, none, none, none, none, none, none, rfl, n00, h00, upd_same, ⟨by decide, by decide⟩, Lg.nought_b.le (by decide) (by decide), by show Rk.v (0, 1) + Rk.v (1, 1) * Rk.v (Rk.hd (Of.onF (ltabs ls))) = _; rw [Of.v_nought, Lg.v1]; grind⟩ ?keep ?turn ?done
  case keep =>
    rintro i σ H' hi ⟨pf, pr, f, v6, v7, v8, v9, v10, v11, v12, rfl, hs, _⟩
    exact (hU.same hs).lst
  case turn =>
    rintro i v T σ H' hv hT ⟨pf, pr, f, v6, v7, v8, v9, v10, v11, v12, rfl, hs, hf, hp, fr, ffb, inv⟩
    obtain ⟨u, hu, rfl⟩ := lorefs_at hv
    have um := List.mem_of_getElem? hu
    have hi := (List.getElem?_eq_some_iff.mp hu).1
    obtain ⟨l, hl1⟩ : ∃ l, ls[i]? = some l := ⟨_, List.getElem?_eq_getElem (by omega)⟩
    obtain ⟨r, hr1⟩ : ∃ r, rs[i]? = some r := ⟨_, List.getElem?_eq_getElem (by omega)⟩
    have lm := List.mem_of_getElem? hl1
    have eT := ltab_at hl1
    have el := rt.each i r (tab l.xs) hr1 eT
    have el0 := el
    rw [tab_length] at el
    have gl := g.each l lm
    have xl : l.xs.length <= 8 := by have := gl.len; rw [tab_length] at this; exact this
    have hil := irefs_length l.xs
    have ep := prs_at hr1 eT
    obtain ⟨ur, ul⟩ := lo.each i u _ _ hu ep
    obtain ⟨wr, hw1, hw2⟩ := frs_get (j := i + 1) ev (by omega)
    have fb := Of.onF_200 (Ts := ltabs ls) g.gt (by omega) (i + 1)
    have sb := (Of.mF_b i ((prs (ltabs ls) rs).take i) (by rw [List.length_take]; omega) (by omega) fun z hz => by
      obtain ⟨w1, _⟩ := prs_mem rt (List.mem_of_mem_take hz)
      exact g.gt _ w1).r
    have em : (Of.mF ((prs (ltabs ls) rs).take (i + 1))).r = Rk.ti (Of.mF ((prs (ltabs ls) rs).take i)).r (Rk.mi (1, 1) (Of.shareS (tab l.xs) r.bs)) := by rw [take_snoc ep]; exact Of.mF_r
    rw [Of.onF_cons eT] at inv
    rw [<- hw2] at fb ul inv
    have step := Of.walk_step (R := r.bs) gl el0 ffb.pos sb.pos fb.pos inv
    have wb := Of.walk_b (R := r.bs) (show i <= 7 by omega) gl ffb sb fb
    have rq := Of.reach_eq (R := r.bs) gl el0 sb.pos
    rw [em, <- hw2]
    rw [<- ur] at hp
    have sbu : Lg.Fb u.r _ _ := ur ▸ sb
    rw [<- ur] at step wb rq ⊢
    have n1 := same_new hT (.tup [.int (i : Int), .ref u.q])
    have s1 := hs.trans n1
    refine ⟨T, _, rfl, SqT.of upd_same, rfl, _, _, rfl, _, _, rfl, rfl, ?_⟩
    generalize upd H' T (.tup [.int (i : Int), .ref u.q]) = H1 at n1 s1 ⊢
    have row := (hU.same s1).rows u um
    have hq1 := row.q
    have hua1 := row.r
    have hul1 := row.l
    have hp1 : FcAt H1 pr u.r := n1 _ _ hp
    have hf1 : FcAt H1 pf f := n1 _ _ hf
    have hI_H1 := (hL.each l lm).same s1
    have hB_H1 := s1 _ _ (hR.each r (List.mem_of_getElem? hr1))
    have hw3 : FcAt H1 wr.q (wr.t, wr.b) := s1 _ _ (hF.at_ wr (List.mem_of_getElem? hw1))
    refine ⟨_, rfl, _, rfl, a, _, _, _, rfl, rfl, SqL.of (hL.same s1).lst, atI_nat (lsrefs_get hl1), ?_⟩
    refine ⟨_, rfl, _, rfl, b, _, _, _, rfl, rfl, SqL.of (hR.same s1).lst, atI_nat (rlrefs_get hr1), ?_⟩
    refine ⟨_, rfl, _, _, _, rfl, .tup hq1, kit_same _, _, rfl, ?_⟩
    refine iteF ?_
    refine ⟨_, rfl, u.q, _, rfl, .inr (SqT.of hq1), rfl, _, rfl, ?_⟩
    refine iteF ?_
    refine ⟨_, rfl, u.q, _, _, _, rfl, rfl, SqT.of hq1, rfl, _, rfl, u.a, pr, u.r, rfl, hua1, hp1, _, rfl, ?_⟩
    refine iteF ?_
    refine ⟨_, rfl, u.q, _, _, _, rfl, rfl, SqT.of hq1, rfl, _, rfl, _, rfl, _, rfl, _, rfl, _, _, rfl, rfl, o, _, _, _, rfl, rfl, SqL.of (hF.same s1).lst, atS (rrefs_get hw1), l.a, r.a, wr.q, l.xs, r.bs, (wr.t, wr.b), rfl, hI_H1, hB_H1, hw3, gl, el, fb, fun p2 H2 s2 h2 => ?_⟩
    rw [<- ul] at h2
    refine ⟨u.b, p2, u.l, rfl, s2 _ _ hul1, h2, _, rfl, ?_⟩
    refine iteF ?_
    have nn : ¬ u.l.1 < 0 := by rw [ul]; have := Of.loss_nn (R := r.bs) gl fb.pos; omega
    refine ⟨_, rfl, u.q, _, _, _, rfl, rfl, SqT.of (s2 _ _ hq1), rfl, u.b, _, _, _, rfl, rfl, sq_fc (s2 _ _ hul1), rfl, _, _, rfl, rfl, _, rfl, ?_⟩
    refine ifF (decide_eq_false nn) ?_
    have hI_H2 := hI_H1.same s2
    have hB_H2 := s2 _ _ hB_H1
    have wb0 := gl.wb
    have hwp := gl.W1
    have hb0 := Of.had_b (R := r.bs) gl
    have nb0 : intBits (Of.wNo (tab l.xs) r.bs) <= 17 := Of.wsum_b (R := r.bs) (p := fun x => !x.2) gl
    have lb := Of.lossL_b (R := r.bs) gl fb
    rw [<- ul] at lb
    refine ⟨_, rfl, l.a, rfl, ⟨_, SqL.of hI_H2.lst⟩, fun D hD => ?_⟩
    refine comp_list (xs := irefs l.xs) (fun j τ H3 => ∃ w0 w1, τ = [w0, w1, some (.ref a), some (.ref b), some (.ref t), some (.ref o), some (.ref pf), some (.ref pr), some (.int (i : Int)), some (.ref u.q), some (.ref l.a), some (.ref r.a), v10, v11, v12] /\ Same H2 H3 /\ H3 D = some (.lst ((l.xs.take j).map fun x => V.int x.w))) ⟨none, none, rfl, same_new hD _, upd_same⟩ ?keepA ?turnA ?doneA
    case keepA =>
      rintro j τ H3 hj ⟨w0, w1, rfl, s3, _⟩
      exact SqL.of (hI_H2.same s3).lst
    case turnA =>
      rintro j m v τ H3 hm hj hv ⟨w0, w1, rfl, s3, hD3⟩
      obtain ⟨y, hy, rfl⟩ := irefs_at hv
      have hr2 : H3 y.p = some (.tup [.int y.v, .int y.w]) := (hI_H2.same s3).rows y (List.mem_of_getElem? hy)
      refine ⟨y.p, _, rfl, SqT.of hr2, rfl, _, _, rfl, _, _, rfl, rfl, ?_⟩
      refine tyes_if ?_
      refine ⟨_, rfl, ?_⟩
      refine comp_next hm hj hD3 (by rw [List.length_map]; exact small1000 (Nat.le_trans (List.length_take_le _ _) (by omega))) ⟨_, _, rfl, s3.upd_new hD _, ?_⟩
      rw [upd_same, take_snoc hy, List.map_append]
      rfl
    case doneA =>
    rintro τ H4 ⟨w0, w1, rfl, s4, hD4⟩
    rw [irefs_length, List.take_length] at hD4
    refine ⟨D, l.xs.map Ir.w, rfl, SqL.of (by rw [hD4, List.map_map]; rfl), ?_⟩
    rw [w_sum]
    have hI_H4 := hI_H2.same s4
    have hB_H4 := s4 _ _ hB_H2
    refine ⟨_, rfl, _, rfl, l.a, r.a, _, _, rfl, SqL.of hI_H4.lst, SqL.of hB_H4, fun D2 hD2n => ?_⟩
    refine comp_zip (xs := irefs l.xs) (ys := r.bs.map V.bl) (fun j τ H3 => ∃ w0 w1, τ = [w0, w1, some (.ref a), some (.ref b), some (.ref t), some (.ref o), some (.ref pf), some (.ref pr), some (.int (i : Int)), some (.ref u.q), some (.ref l.a), some (.ref r.a), some (.int (Of.W (tab l.xs))), v11, v12] /\ Same H4 H3 /\ H3 D2 = some (.lst ((selI (fun x => x.v * x.w) id (l.xs.take j) (r.bs.take j)).map V.int))) (by rw [irefs_length, List.length_map, el]) ⟨none, none, rfl, same_new hD2n _, upd_same⟩ ?keepB ?turnB ?doneB
    case keepB =>
      rintro j τ H3 hj ⟨w0, w1, rfl, s3, _⟩
      exact ⟨SqL.of (hI_H4.same s3).lst, SqL.of (s3 _ _ hB_H4)⟩
    case turnB =>
      rintro j m x v T2 τ H3 hm hj hx hv hT2 ⟨w0, w1, rfl, s3, hD3⟩
      obtain ⟨y, hy, rfl⟩ := irefs_at hx
      rw [List.getElem?_map] at hv
      cases eb : r.bs[j]? with
      | none => rw [eb] at hv; cases hv
      | some c =>
        rw [eb] at hv
        cases hv
        have n3 := same_new hT2 (.tup [.ref y.p, .bl c])
        have ymem := List.mem_of_getElem? hy
        have hr2 : upd H3 T2 (.tup [.ref y.p, .bl c]) y.p = some (.tup [.int y.v, .int y.w]) := n3 _ _ ((hI_H4.same s3).rows y ymem)
        have gv := gl.vb (List.mem_map.mpr ⟨y, ymem, rfl⟩ : (y.v, y.w) ∈ tab l.xs)
        refine ⟨T2, _, rfl, SqT.of upd_same, rfl, _, _, rfl, _, _, rfl, rfl, ?_⟩
        have sn := selI_snoc (f := (fun x => x.v * x.w)) (p := id) hy eb
        refine ⟨_, rfl, c, rfl, ?_⟩
        cases c with
        | false =>
          refine ifF rfl ?_
          refine comp_skip hm hj ⟨_, _, rfl, s3.trans n3, ?_⟩
          rw [sn]
          exact n3 _ _ hD3
        | true =>
          refine ifT rfl ?_
          refine ⟨_, rfl, y.p, _, _, _, rfl, rfl, (SqT.of hr2), rfl, _, rfl, y.p, _, _, _, rfl, rfl, (SqT.of hr2), rfl, _, _, rfl, rfl, mulOk gv.1 gv.2 (by decide), ?_⟩
          refine comp_next hm hj (n3 _ _ hD3) (by rw [List.length_map]; exact small1000 (Nat.le_trans (selI_len _ _ _ _) (Nat.le_trans (List.length_take_le _ _) (by omega)))) ⟨_, _, rfl, (s3.trans n3).upd_new hD2n _, ?_⟩
          rw [upd_same, sn, if_pos (show id true = true from rfl), List.map_append]
          rfl
    case doneB =>
    rintro τ H5 ⟨w0, w1, rfl, s5, hD5⟩
    rw [irefs_length, List.take_length, el, List.take_length] at hD5
    refine ⟨D2, _, rfl, SqL.of hD5, ?_⟩
    rw [had_sel]
    have sA := (s2.trans s4).trans s5
    refine ⟨_, rfl, _, rfl, pr, _, _, _, rfl, rfl, sq_fc (sA _ _ hp1), rfl, _, rfl, _, _, rfl, rfl, mulOk (m := 400) (n := 400) (Nat.le_trans sbu.t (by omega)) (Nat.le_trans hb0 (by decide)) (by decide), _, rfl, pr, _, _, _, rfl, rfl, sq_fc (sA _ _ hp1), rfl, _, rfl, _, _, rfl, rfl, mulOk (m := 400) (n := 400) (Nat.le_trans sbu.b (by omega)) (Nat.le_trans wb0 (by decide)) (by decide), sz2, fun pt hpt => ?_⟩
    have n6 := same_new hpt (.tup [V.int (u.r.1 * Of.had (tab l.xs) r.bs), V.int (u.r.2 * Of.W (tab l.xs))])
    refine ⟨pf, pt, f, (u.r.1 * Of.had (tab l.xs) r.bs, u.r.2 * Of.W (tab l.xs)), rfl, (sA.trans n6) _ _ hf1, upd_same, ffb.pos, wb.a.pos, ⟨Nat.le_trans ffb.t (by omega), Nat.le_trans ffb.b (by omega), Nat.le_trans wb.a.t (by omega), Nat.le_trans wb.a.b (by omega)⟩, fun pf1 H6 s6 h6 => ?_⟩
    have sB := (sA.trans n6).trans s6
    refine ⟨_, rfl, _, rfl, pr, _, _, _, rfl, rfl, sq_fc (sB _ _ hp1), rfl, _, rfl, u.q, _, _, _, rfl, rfl, SqT.of (sB _ _ hq1), rfl, u.b, _, _, _, rfl, rfl, sq_fc (sB _ _ hul1), rfl, _, _, rfl, rfl, mulOk (m := 400) (n := 400) (Nat.le_trans sbu.t (by omega)) (Nat.le_trans lb.t (by decide)) (by decide), _, rfl, pr, _, _, _, rfl, rfl, sq_fc (sB _ _ hp1), rfl, _, rfl, u.q, _, _, _, rfl, rfl, SqT.of (sB _ _ hq1), rfl, u.b, _, _, _, rfl, rfl, sq_fc (sB _ _ hul1), rfl, _, _, rfl, rfl, mulOk (m := 400) (n := 400) (Nat.le_trans sbu.b (by omega)) (Nat.le_trans lb.b (by decide)) (by decide), sz2, fun pt2 hpt2 => ?_⟩
    have n7 := same_new hpt2 (.tup [V.int (u.r.1 * u.l.1), V.int (u.r.2 * u.l.2)])
    have wc := wb.c
    rw [<- ul] at wc
    refine ⟨pf1, pt2, Rk.pl f (u.r.1 * Of.had (tab l.xs) r.bs, u.r.2 * Of.W (tab l.xs)), (u.r.1 * u.l.1, u.r.2 * u.l.2), rfl, n7 _ _ h6, upd_same, wb.b.pos, wc.pos, ⟨Nat.le_trans wb.b.t (by omega), Nat.le_trans wb.b.b (by omega), Nat.le_trans wc.t (by omega), Nat.le_trans wc.b (by omega)⟩, fun pf2 H7 s7 h7 => ?_⟩
    have sC := (sB.trans n7).trans s7
    have hI_H7 := hI_H1.same sC
    have hB_H7 := sC _ _ hB_H1
    refine ⟨_, rfl, _, rfl, l.a, r.a, _, _, rfl, SqL.of hI_H7.lst, SqL.of hB_H7, fun D7 hD7n => ?_⟩
    refine comp_zip (xs := irefs l.xs) (ys := r.bs.map V.bl) (fun j τ H3 => ∃ w0 w1, τ = [w0, w1, some (.ref a), some (.ref b), some (.ref t), some (.ref o), some (.ref pf2), some (.ref pr), some (.int (i : Int)), some (.ref u.q), some (.ref l.a), some (.ref r.a), some (.int (Of.W (tab l.xs))), some (.int (Of.had (tab l.xs) r.bs)), v12] /\ Same H7 H3 /\ H3 D7 = some (.lst ((selI (fun x => x.w) not (l.xs.take j) (r.bs.take j)).map V.int))) (by rw [irefs_length, List.length_map, el]) ⟨none, none, rfl, same_new hD7n _, upd_same⟩ ?keepC ?turnC ?doneC
    case keepC =>
      rintro j τ H3 hj ⟨w0, w1, rfl, s3, _⟩
      exact ⟨SqL.of (hI_H7.same s3).lst, SqL.of (s3 _ _ hB_H7)⟩
    case turnC =>
      rintro j m x v T2 τ H3 hm hj hx hv hT2 ⟨w0, w1, rfl, s3, hD3⟩
      obtain ⟨y, hy, rfl⟩ := irefs_at hx
      rw [List.getElem?_map] at hv
      cases eb : r.bs[j]? with
      | none => rw [eb] at hv; cases hv
      | some c =>
        rw [eb] at hv
        cases hv
        have n3 := same_new hT2 (.tup [.ref y.p, .bl c])
        have ymem := List.mem_of_getElem? hy
        have hr2 : upd H3 T2 (.tup [.ref y.p, .bl c]) y.p = some (.tup [.int y.v, .int y.w]) := n3 _ _ ((hI_H7.same s3).rows y ymem)
        have gv := gl.vb (List.mem_map.mpr ⟨y, ymem, rfl⟩ : (y.v, y.w) ∈ tab l.xs)
        refine ⟨T2, _, rfl, SqT.of upd_same, rfl, _, _, rfl, _, _, rfl, rfl, ?_⟩
        have sn := selI_snoc (f := (fun x => x.w)) (p := not) hy eb
        refine ⟨_, rfl, c, rfl, ?_⟩
        cases c with
        | true =>
          refine ifF rfl ?_
          refine comp_skip hm hj ⟨_, _, rfl, s3.trans n3, ?_⟩
          rw [sn]
          exact n3 _ _ hD3
        | false =>
          refine ifT rfl ?_
          refine ⟨_, rfl, y.p, _, _, _, rfl, rfl, (SqT.of hr2), rfl, ?_⟩
          refine comp_next hm hj (n3 _ _ hD3) (by rw [List.length_map]; exact small1000 (Nat.le_trans (selI_len _ _ _ _) (Nat.le_trans (List.length_take_le _ _) (by omega)))) ⟨_, _, rfl, (s3.trans n3).upd_new hD7n _, ?_⟩
          rw [upd_same, sn, if_pos (show not false = true from rfl), List.map_append]
          rfl
    case doneC =>
    rintro τ H8 ⟨w0, w1, rfl, s8, hD8⟩
    rw [irefs_length, List.take_length, el, List.take_length] at hD8
    refine ⟨D7, _, rfl, SqL.of hD8, ?_⟩
    rw [no_sel]
    have sD := sC.trans s8
    refine ⟨_, rfl, pr, _, _, _, rfl, rfl, sq_fc (sD _ _ hp1), rfl, _, rfl, _, _, rfl, rfl, mulOk (m := 400) (n := 400) (Nat.le_trans sbu.t (by omega)) (Nat.le_trans nb0 (by decide)) (by decide), _, rfl, pr, _, _, _, rfl, rfl, sq_fc (sD _ _ hp1), rfl, _, rfl, _, _, rfl, rfl, mulOk (m := 400) (n := 400) (Nat.le_trans sbu.b (by omega)) (Nat.le_trans wb0 (by decide)) (by decide), _, _, rfl, wb.a.pos, Nat.le_trans wb.a.b (by omega), fun pr2 H9 s9 h9 => ?_⟩
    have e7 : Rk.pl (Rk.pl f (u.r.1 * Of.had (tab l.xs) r.bs, u.r.2 * Of.W (tab l.xs))) (u.r.1 * u.l.1, u.r.2 * u.l.2) = Of.wF f u.r (tab l.xs) r.bs (wr.t, wr.b) := by unfold Of.wF; rw [ul]
    rw [e7] at h7
    exact ⟨pf2, pr2, Of.wF f u.r (tab l.xs) r.bs (wr.t, wr.b), _, _, _, _, _, _, _, rfl, (s1.trans sD).trans s9, (s8.trans s9) _ _ h7, by rw [rq]; exact h9, step.1, wb.d, step.2⟩
  case done =>
    rintro σ H' ⟨pf, pr, f, v6, v7, v8, v9, v10, v11, v12, rfl, hs, hf, hp, fr, ffb, inv⟩
    rw [hlu, lu, <- tl, List.drop_length] at inv
    have e : f = Rk.hd (Of.onF (ltabs ls)) := by
      refine Rk.v_inj fr (Of.onF_fr _ g.gt) ?_
      rw [<- inv]
      show Rk.v f = Rk.v f + _ * Rk.v (0, 1)
      rw [Of.v_nought]
      grind
    rw [e] at hf
    exact ⟨_, rfl, q pf H' hs hf⟩
end
end K76
namespace K76
open PySem L2 TD
open Builtin.Int (intBits)
section
variable {P : Program} {w : World} {K : PySem.W.Frag} {mg : Str -> Option Value} {base : Heap} {Pt : Addr}
theorem noughts {K : PySem.W.Frag} {H : Hp} {a b p : Addr} {vs : List V} {n : Nat} (h1 : H a = some (.lst vs)) (hv : ∀ v ∈ vs, ∃ q, v = .ref q /\ FcAt H q (0, 1)) (h2 : H b = some (.lst (List.replicate n [V.ref p]).flatten)) (hp : FcAt H p (0, 1)) (hn : vs.length = n) : DE K H 2 (.ref a) (.ref b) true := by
  have el : vs.length = ((List.replicate n [V.ref p]).flatten).length := by rw [len_rep, hn]; simp
  have z := DE.lst (K := K) (H := H) (n := 1) (fun _ => true) (SqL.of h1) (SqL.of h2) el fun j x y hx hy => by
    obtain ⟨q, rfl, hq⟩ := hv x (List.mem_of_getElem? hx)
    have hy2 := List.mem_of_getElem? hy
    rw [List.mem_flatten] at hy2
    obtain ⟨l, hl, hyl⟩ := hy2
    rw [(List.mem_replicate.mp hl).2] at hyl
    rw [List.mem_singleton.mp hyl]
    exact fc_eq hq hp
  rw [all_true] at z
  exact z
theorem ok_law {n : Nat} {f : Addr} {fd : FuncData} (F : Fun K "law" "law" (top 50) f fd) {C : Addr} (cf : OF K C) {iO : Addr} {iD : FuncData} {kO : Nat} (M_Offers : Mk K C iO) (G_Offers : FnOk P w K mg base CX0 kO iO iD ["self", "lists"] (spOin C Pt lamP)) (b_Offers : Binds K iD ["self", "lists"] []) (g_Offers : mg "Offers" = some (.ref C)) (hn_Offers : kO + 1 <= n) {f_rl : Addr} {fd_rl : FuncData} (m_rl : Meth K C "rule_losses" f_rl) (G_rl : FnOk P w K mg base CX0 n f_rl fd_rl ["self", "rule"] (spRLo C)) (b_rl : Binds K fd_rl ["self", "rule"] []) {g__law_cell : Addr} {gd__law_cell : FuncData} (c__law_cell : Cal P w K mg base n "_law_cell" ["_law_script", "_law_k"] (spCell K) g__law_cell gd__law_cell) {g__law_walked : Addr} {gd__law_walked : FuncData} (c__law_walked : Cal P w K mg base n "_law_walked" ["_law_tables", "_law_rule_here", "_law_told", "_law_on_here"] spWk g__law_walked gd__law_walked) {g__law_rule : Addr} {gd__law_rule : FuncData} (c__law_rule : Cal P w K mg base n "_law_rule" ["_law_script", "_law_tables", "_law_on_here"] (spLRu6 K) g__law_rule gd__law_rule) {g__law_on : Addr} {gd__law_on : FuncData} (c__law_on : Cal P w K mg base n "_law_on" ["_law_tables"] spLOn g__law_on gd__law_on) {g__law_rows : Addr} {gd__law_rows : FuncData} (c__law_rows : Cal P w K mg base n "_law_rows" ["_law_rows_here"] spLR g__law_rows gd__law_rows) {g__law_lists : Addr} {gd__law_lists : FuncData} (c__law_lists : Cal P w K mg base n "_law_lists" ["_law_script", "_law_most", "_law_wide"] (spLL K) g__law_lists gd__law_lists) (z_len : mg "len" = none) (z_isinstance : mg "isinstance" = none) (z_list : mg "list" = none) : FnOk P w K mg base CX0 (n + 1) f fd ["_law_script"] (spLaw5 K Pt) := by
  refine F.ok sc_law (fun vs H Q E h => ?_) (fun cdv A outer s H vs Q E hr h => ?_)
  · obtain ⟨a, ns, rfl, _⟩ := h
    rfl
  obtain ⟨a, ns, rfl, hS, hlen, hT0, q⟩ := h
  have nd := sc_law.nd
  have hu1 : _ + 0 + 1 < cLine := Nat.lt_of_le_of_lt (Nat.add_le_add_left (by decide : 1 <= 64) _) (Room.units hr)
  have hu2 : _ + 1 + 1 < cLine := Nat.lt_of_le_of_lt (Nat.add_le_add_left (by decide : 2 <= 64) _) (Room.units hr)
  refine ⟨_, (pss_cons (ps_set (i := 1) nd rfl (Or.inl rfl) (pe_callC c__law_lists hr (pa_cons (pv 0) (pa_cons pe_int (pa_cons pe_int pa_nil))))) (pss_cons (ps_setC (i := 2) (ls := ["_law_rows_here"]) (M := ["_law_script", "_law_lists_here", "_law_tables", "_law_offers", "_law_on_here", "_law_rule_here", "_law_handed", "_law_told"]) rfl (CompOk.of (by rfl)) (NL.of (by rfl)) nd rfl (Or.inl rfl) (pi_list (pv 1)) (fun _ _ _ _ => ⟨(pg_name (i := 0) (nd_of (by rfl)) rfl (Or.inl rfl)), pts_nil, (pe_callC c__law_rows hr (pa_cons (pv 0) pa_nil))⟩)) (pss_cons (ps_set (i := 3) nd rfl (Or.inl rfl) (pe_make M_Offers G_Offers (hr.mono hn_Offers) rfl g_Offers b_Offers .nil pass0 (pa_cons (pe_comp (ls := ["_law_rows_here"]) (M := ["_law_script", "_law_lists_here", "_law_tables", "_law_offers", "_law_on_here", "_law_rule_here", "_law_handed", "_law_told"]) rfl (CompOk.of (by rfl)) (NL.of (by rfl)) (pi_list (pv 1)) (fun _ _ _ _ => ⟨(pg_name (i := 0) (nd_of (by rfl)) rfl (Or.inl rfl)), pts_nil, (pe_callTy (call_list_ofK (K := K) rfl) rfl z_list bt_list (pa_cons (pv 0) pa_nil))⟩)) pa_nil))) (pss_cons (ps_set (i := 4) nd rfl (Or.inl rfl) (pe_callC c__law_on hr (pa_cons (pv 2) pa_nil))) (pss_cons (ps_set (i := 5) nd rfl (Or.inl rfl) (pe_callC c__law_rule hr (pa_cons (pv 0) (pa_cons (pv 2) (pa_cons (pv 4) pa_nil))))) (pss_cons (ps_setC (i := 6) (ls := ["_law_truths"]) (M := ["_law_script", "_law_lists_here", "_law_tables", "_law_offers", "_law_on_here", "_law_rule_here", "_law_handed", "_law_told"]) rfl (CompOk.of (by rfl)) (NL.of (by rfl)) nd rfl (Or.inl rfl) (pi_list (pv 5)) (fun _ _ _ _ => ⟨(pg_name (i := 0) (nd_of (by rfl)) rfl (Or.inl rfl)), pts_nil, (pe_callTy (call_list_ofK (K := K) rfl) rfl z_list bt_list (pa_cons (pv 0) pa_nil))⟩)) (pss_cons (ps_set (i := 7) nd rfl (Or.inl rfl) (pe_meth (pv 3) cf.cl m_rl G_rl hr b_rl .nil pass0 (pa_cons (pv 6) pa_nil))) (pss_cons (ps_if (PW.pt (pw_or (pt_not (pt_val (pe_callB (call_isinst (T := "list")) rfl z_isinstance bt_isinstance (pa_cons (pv 7) (pa_cons (pe_bltn (v := .ty "list") rfl z_list bt_list rfl) pa_nil))))) (pw_or (pt_cmpR op_ne (pe_callB call_len_seq rfl z_len bt_len (pa_cons (pv 7) pa_nil)) (pe_callB call_len_seq rfl z_len bt_len (pa_cons (pv 2) pa_nil)) (nomark _)) (pw_or1 (pt_cmpR (op_neD (n := 1) hu2) (pv 6) (pv 5) (nomark _)))))) (pss_one (ps_ret pe_bl)) pss_nil) (pss_cons (ps_if (pt_cmpR (op_neD (n := 0) hu1) (pe_callC c__law_walked hr (pa_cons (pv 2) (pa_cons (pv 5) (pa_cons (pv 7) (pa_cons (pv 4) pa_nil))))) (pe_ix ix_list (pv 4) pe_int (fun _ _ => rfl)) (nomark _)) (pss_one (ps_ret pe_bl)) pss_nil) (pss_cons (ps_if (pt_cmpR op_eq (pe_op op_mod (pe_callC c__law_cell hr (pa_cons (pv 0) (pa_cons pe_int pa_nil))) pe_int) pe_int (nomark _)) (pss_one (ps_ret (pe_cmpR (op_eqD (n := 1) hu2) (pe_comp (ls := ["_law_row"]) (M := ["_law_script", "_law_lists_here", "_law_tables", "_law_offers", "_law_on_here", "_law_rule_here", "_law_handed", "_law_told"]) rfl (CompOk.of (by rfl)) (NL.of (by rfl)) (pi_list (pv 7)) (fun _ _ _ _ => ⟨(pg_name (i := 0) (nd_of (by rfl)) rfl (Or.inl rfl)), pts_nil, (pe_ix (ix_tupK (K := K) rfl) (pv 0) pe_int (fun _ _ => rfl))⟩)) (pe_op op_rep (pe_lst (pa_cons (pe_tup (pa_cons pe_int (pa_cons pe_int pa_nil))) pa_nil)) (pe_callB call_len_seq rfl z_len bt_len (pa_cons (pv 2) pa_nil))) (nomark _)))) pss_nil) (pss_one (ps_ret pe_bl)))))))))))), ?_⟩
  refine ⟨_, rfl, a, ns, rfl, hS, fun L0 H1 ls s1 hL1 lne l8 gs => ?_⟩
  have hll := lsrefs_length ls
  refine ⟨_, rfl, L0, rfl, ⟨_, SqL.of hL1.lst⟩, fun D hD => ?_⟩
  refine comp_list (xs := lsrefs ls) (fun i τ H' => ∃ v0 zs, τ = [v0, some (.ref a), some (.ref L0), none, none, none, none, none, none] /\ Same H1 H' /\ LsAt H' D zs /\ zs.length = i /\ (∀ (j : Nat) l z, ls[j]? = some l -> zs[j]? = some z -> Tb.IsTab (rw0 l.xs) (rw0 z.xs)) /\ ∀ z ∈ zs, z.a ≠ D) ⟨none, [], rfl, same_new hD _, ⟨upd_same, fun _ h => nomatch h⟩, rfl, (fun j l z _ h => by simp at h), fun _ h => nomatch h⟩ ?keep ?turn ?done
  case keep =>
    rintro i τ H' hi ⟨v0, zs, rfl, hs, _⟩
    exact SqL.of (hL1.same hs).lst
  case turn =>
    rintro i m v τ H' hm hi hv ⟨v0, zs, rfl, hs, hZ, zl, tz, nn⟩
    obtain ⟨l, hl, rfl⟩ := lsrefs_at hv
    have hmem := List.mem_of_getElem? hl
    refine gyes ?_
    refine ⟨_, rfl, l.a, l.xs, rfl, (hL1.each l hmem).same hs, gs l hmem, fun r H2 us s2 hrn hU tU => ?_⟩
    have hZ2 := hZ.same s2
    have nrD : r ≠ D := fun e => by rw [e, hZ.lst] at hrn; cases hrn
    refine comp_next hm hi hZ2.lst (by rw [lsrefs_length]; exact small1000 (by omega)) ⟨_, zs ++ [⟨r, us⟩], rfl, (hs.trans s2).upd_new hD _, hZ2.push (l := ⟨r, us⟩) hU nn nrD, by rw [List.length_append, zl]; rfl, ?_, ?_⟩
    · intro j l' z' h1 h2
      by_cases hj : j < zs.length
      · rw [List.getElem?_append_left hj] at h2
        exact tz j l' z' h1 h2
      · have hj2 := (List.getElem?_eq_some_iff.mp h2).1
        rw [List.length_append, List.length_singleton] at hj2
        have ej : j = i := by omega
        subst ej
        rw [List.getElem?_append_right (by omega), zl, Nat.sub_self] at h2
        rw [hl] at h1
        cases h1
        cases h2
        exact tU
    · intro z hz
      rcases List.mem_append.mp hz with u | u
      · exact nn z u
      · rw [List.mem_singleton.mp u]
        exact nrD
  case done =>
  rintro τ H2 ⟨v0, zs, rfl, s2, hZ, zl, tz, _⟩
  rw [hll] at zl
  have hL2 := hL1.same s2
  refine ⟨_, rfl, L0, rfl, ⟨_, SqL.of hL2.lst⟩, fun D2 hD2 => ?_⟩
  refine comp_list (xs := lsrefs ls) (fun i τ H' => ∃ v0 cs, τ = [v0, some (.ref a), some (.ref L0), some (.ref D), none, none, none, none, none] /\ Same H2 H' /\ LsAt H' D2 cs /\ cs.map Ls.xs = (ls.take i).map Ls.xs /\ ∀ c ∈ cs, c.a ≠ D2) ⟨none, [], rfl, same_new hD2 _, ⟨upd_same, fun _ h => nomatch h⟩, rfl, fun _ h => nomatch h⟩ ?keepB ?turnB ?doneB
  case keepB =>
    rintro i τ H' hi ⟨v0, cs, rfl, hs, _⟩
    exact SqL.of (hL2.same hs).lst
  case turnB =>
    rintro i m v τ H' hm hi hv ⟨v0, cs, rfl, hs, hC, ec, nn⟩
    obtain ⟨l, hl, rfl⟩ := lsrefs_at hv
    have hmem := List.mem_of_getElem? hl
    have hI := (hL2.each l hmem).same hs
    refine gyes ?_
    refine ⟨_, rfl, l.a, _, rfl, .inl (SqL.of hI.lst), fun r hr0 => ?_⟩
    have n3 := same_new hr0 (.lst (irefs l.xs))
    have hC2 := hC.same n3
    have nrD : r ≠ D2 := fun e => by rw [e, hC.lst] at hr0; cases hr0
    have cl : cs.length <= 1000 := by
      have h := congrArg List.length ec
      rw [List.length_map, List.length_map, List.length_take] at h
      omega
    refine comp_next hm hi hC2.lst (by rw [lsrefs_length]; exact small1000 cl) ⟨_, cs ++ [⟨r, l.xs⟩], rfl, (hs.trans n3).upd_new hD2 _, hC2.push (l := ⟨r, l.xs⟩) ⟨upd_same, fun x hx => n3 _ _ (hI.rows x hx)⟩ nn nrD, map_take_snoc ec hl rfl, ?_⟩
    intro z hz
    rcases List.mem_append.mp hz with u | u
    · exact nn z u
    · rw [List.mem_singleton.mp u]
      exact nrD
  case doneB =>
  rintro τ H3 ⟨v0, cs, rfl, s3, hC, ec, _⟩
  rw [hll, List.take_length] at ec
  have cl : cs.length = ls.length := by simpa using congrArg List.length ec
  intro x dx hx hdx ndx
  have nO : Same H3 (upd (upd H3 dx (.own x)) x (.ins C dx [])) := (same_new hdx (.own x)).trans (same_new (by rw [upd_ne (Ne.symm ndx)]; exact hx) _)
  have sP : Same H (upd (upd H3 dx (.own x)) x (.ins C dx [])) := ((s1.trans s2).trans s3).trans nO
  have gcs := rows_rows ec gs
  have tb4 : TbOk Pt lamP lamQ (upd (upd H3 dx (.own x)) x (.ins C dx [])) := .inl (sP _ _ hT0)
  refine ⟨x, dx, D2, cs, rfl, upd_same, hC.same nO, fun z => by rw [z] at cl; exact lne (List.length_eq_zero_iff.mp cl.symm), by omega, gcs, tb4, fun k H5 ts st tb5 hx5 hK ko => ⟨rfl, ?_⟩⟩
  have gk := gk_of (by omega) gcs ko
  have et := tabs_ltabs ec ko zl tz
  have gl := gl_of et gk
  have sT6 : SameT Pt H3 (upd H5 x (.ins C dx [("kinds", .ref k)])) := ((nO.toT).trans st).upd_new hx _
  have tb3 : TbOk Pt lamP lamQ H3 := .inl (((s1.trans s2).trans s3) _ _ hT0)
  have hO : OAt C (upd H5 x (.ins C dx [("kinds", .ref k)])) x ts := ⟨dx, k, upd_same, hK.over_ins hx5⟩
  have hx6 : upd H5 x (.ins C dx [("kinds", .ref k)]) x = some (.ins C dx [("kinds", .ref k)]) := upd_same
  have hZ6 := (hZ.same s3).sameT sT6 tb3
  have hS6 : SqL K (upd H5 x (.ins C dx [("kinds", .ref k)])) a (ns.map V.int) := sT6.lst tb3 (((s1.trans s2).trans s3).seq hS)
  generalize upd H5 x (.ins C dx [("kinds", .ref k)]) = H6 at hO hx6 hZ6 hS6 ⊢
  refine ⟨_, rfl, D, zs, rfl, hZ6, gl, fun E H8 rs2 s8 hEn hE ev2 => ?_⟩
  refine ⟨_, rfl, _, rfl, _, rfl, a, D, E, ns, zs, rs2, rfl, s8.seq hS6, hZ6.same s8, hE, gl, ev2, fun R HB rl sB hR rt bst => ?_⟩
  have sB0 := s8.trans sB
  have hlr := rlrefs_length rl
  have rlen : rl.length = zs.length := by rw [rt.len, ltabs_length]
  have glen := gl.len
  refine ⟨_, rfl, R, rfl, ⟨_, SqL.of hR.lst⟩, fun D3 hD3 => ?_⟩
  refine comp_list (xs := rlrefs rl) (fun i τ H' => ∃ v0 hs, τ = [v0, some (.ref a), some (.ref L0), some (.ref D), some (.ref x), some (.ref E), some (.ref R), none, none] /\ Same HB H' /\ RlAt H' D3 hs /\ hs.map Rl.bs = (rl.take i).map Rl.bs /\ ∀ c ∈ hs, c.a ≠ D3) ⟨none, [], rfl, same_new hD3 _, ⟨upd_same, fun _ h => nomatch h⟩, rfl, fun _ h => nomatch h⟩ ?keepD ?turnD ?doneD
  case keepD =>
    rintro i τ H' hi ⟨v0, hs, rfl, sC, _⟩
    exact SqL.of (hR.same sC).lst
  case turnD =>
    rintro i m v τ H' hm hi hv ⟨v0, hs, rfl, sC, hH, eh, nn⟩
    obtain ⟨r, hr1, rfl⟩ := rlrefs_at hv
    have hB := (hR.same sC).each r (List.mem_of_getElem? hr1)
    refine gyes ?_
    refine ⟨_, rfl, r.a, _, rfl, .inl (SqL.of hB), fun u hu0 => ?_⟩
    have n3 := same_new hu0 (.lst (r.bs.map V.bl))
    have hH2 := hH.same n3
    have nrD : u ≠ D3 := fun e => by rw [e, hH.lst] at hu0; cases hu0
    have cl : hs.length <= 1000 := by
      have h := congrArg List.length eh
      rw [List.length_map, List.length_map, List.length_take] at h
      omega
    refine comp_next hm hi hH2.lst (by rw [rlrefs_length]; exact small1000 cl) ⟨_, hs ++ [⟨u, r.bs⟩], rfl, (sC.trans n3).upd_new hD3 _, hH2.push (r := ⟨u, r.bs⟩) upd_same nn nrD, map_take_snoc eh hr1 rfl, ?_⟩
    intro z hz
    rcases List.mem_append.mp hz with w | w
    · exact nn z w
    · rw [List.mem_singleton.mp w]
      exact nrD
  case doneD =>
  rintro τ HC ⟨v0, hs, rfl, sC, hH, eh, _⟩
  rw [hlr, List.take_length] at eh
  have hlH : hs.length = rl.length := by simpa using congrArg List.length eh
  have rtH : RT hs (tabs ts) := ⟨by rw [hlH, rt.len, et], fun j r T h1 h2 => by
    have hj := (List.getElem?_eq_some_iff.mp h1).1
    have e : rl[j]? = some (rl[j]'(by omega)) := List.getElem?_eq_getElem _
    obtain ⟨r', hr', eb⟩ := at_of_map eh e
    rw [h1] at hr'
    cases hr'
    rw [et] at h2
    rw [eb]
    exact rt.each j _ T e h2⟩
  have ep : prs (tabs ts) hs = prs (ltabs zs) rl := by unfold prs; rw [et, eh]
  have sD := sB0.trans sC
  refine ⟨_, rfl, x, dx, _, rfl, sD _ _ hx6, rfl, _, rfl, x, D3, ts, hs, rfl, hO.same sD, hH, gk, rtH, fun p HE us sE hU lo => ?_⟩
  have lo2 : LOut (ltabs zs) rl us := ⟨by rw [lo.len, et], fun i u T R' h1 h2 => by rw [<- ep] at h2 ⊢; rw [<- et]; exact lo.each i u T R' h1 h2⟩
  have sF := sD.trans sE
  have hZF := hZ6.same sF
  have hRF := hR.same (sC.trans sE)
  have hEF := hE.same ((sB.trans sC).trans sE)
  refine ⟨_, rfl, _, _, _, rfl, .lst hU.lst, kit_same _, _, rfl, ?_⟩
  refine iteF ?_
  refine ⟨_, rfl, p, _, rfl, .inl (SqL.of hU.lst), _, rfl, D, _, rfl, .inl (SqL.of hZF.lst), rfl, _, rfl, ?_⟩
  refine ifF (by rw [lorefs_length, lsrefs_length, lo2.len, ltabs_length]; simp) ?_
  refine ⟨_, rfl, _, rfl, D3, R, true, rfl, rfl, rl_eq (hH.same sE) hRF eh, _, rfl, ?_⟩
  refine iteF ?_
  refine ⟨_, rfl, _, rfl, _, rfl, _, rfl, D, R, p, E, zs, rl, us, rs2, rfl, hZF, hRF, hU, hEF, gl, rt, lo2, ev2, fun pw HG sG hw => ?_⟩
  obtain ⟨r0, hr0, er0⟩ := frs_get (j := 0) ev2 (Nat.zero_le _)
  have hEG := hEF.same sG
  have hq0 : FcAt HG r0.q (Rk.hd (Of.onF (ltabs zs))) := by
    have z := hEG.at_ r0 (List.mem_of_getElem? hr0)
    have e0 : (r0.t, r0.b) = Rk.hd (Of.onF (ltabs zs)) := er0
    rw [<- e0]
    exact z
  refine ⟨_, rfl, E, _, _, _, rfl, rfl, SqL.of hEG.lst, atI_nat (j := 0) (rrefs_get hr0), pw, r0.q, true, rfl, rfl, fc_eq (n := 0) hw hq0, _, rfl, ?_⟩
  refine iteF ?_
  have hSG := (sF.trans sG).seq hS6
  refine ⟨_, rfl, a, ns, 61, rfl, hSG, by decide, _, _, rfl, rfl, (by show (0 : Int) < 3; decide), rfl, _, rfl, ?_⟩
  refine ite2 (fun yes => ?_) (fun no => q _)
  have yes2 : cellF ns 61 % 3 = 1 := by
    have y := of_decide_eq_true yes
    injection y
  have hUG := hU.same sG
  have lul : us.length = zs.length := by rw [lo2.len, ltabs_length]
  have hlu := lorefs_length us
  refine ⟨_, rfl, p, rfl, ⟨_, SqL.of hUG.lst⟩, fun D4 hD4 => ?_⟩
  refine comp_list (xs := lorefs us) (fun i τ H' => ∃ v0 vs, τ = [v0, some (.ref a), some (.ref L0), some (.ref D), some (.ref x), some (.ref E), some (.ref R), some (.ref D3), some (.ref p)] /\ Same HG H' /\ H' D4 = some (.lst vs) /\ vs.length = i /\ ∀ v ∈ vs, ∃ q, v = .ref q /\ FcAt H' q (0, 1)) ⟨none, [], rfl, same_new hD4 _, upd_same, rfl, fun _ h => nomatch h⟩ ?keepE ?turnE ?doneE
  case keepE =>
    rintro i τ H' hi ⟨v0, vs, rfl, sH, _⟩
    exact SqL.of (hUG.same sH).lst
  case turnE =>
    rintro i m v τ H' hm hi hv ⟨v0, vs, rfl, sH, hV, vl, ve⟩
    obtain ⟨u, hu, rfl⟩ := lorefs_at hv
    have hil := (List.getElem?_eq_some_iff.mp hu).1
    have row := (hUG.same sH).rows u (List.mem_of_getElem? hu)
    obtain ⟨l, hl1⟩ : ∃ l, zs[i]? = some l := ⟨_, List.getElem?_eq_getElem (by omega)⟩
    obtain ⟨r, hr1⟩ : ∃ r, rl[i]? = some r := ⟨_, List.getElem?_eq_getElem (by omega)⟩
    have eT := ltab_at hl1
    have e1 := (lo2.each i u _ _ hu (prs_at hr1 eT)).2
    rw [bst yes2 i r _ hr1 eT, Of.best_loss (gl.each l (List.mem_of_getElem? hl1)) (Of.onF_pos _ fun T hT => gl.gt T (List.mem_of_mem_drop hT))] at e1
    have hz : FcAt H' u.b (0, 1) := by have z := row.l; rw [e1] at z; exact z
    refine gyes ?_
    refine ⟨_, rfl, u.q, _, _, _, rfl, rfl, SqT.of row.q, rfl, ?_⟩
    refine comp_next hm hi hV (small1000 (by omega)) ⟨_, vs ++ [.ref u.b], rfl, sH.upd_new hD4 _, upd_same, by rw [List.length_append, vl]; rfl, fun v hv => ?_⟩
    rcases List.mem_append.mp hv with z | z
    · obtain ⟨q, eq, hq⟩ := ve v z
      exact ⟨q, eq, fc_over hq hV⟩
    · exact ⟨u.b, List.mem_singleton.mp z, fc_over hz hV⟩
  case doneE =>
  rintro τ HH ⟨v0, vs, rfl, sH, hV, vl, ve⟩
  rw [hlu] at vl
  refine ⟨sz2, fun pz hpz => ⟨sz1, fun lz hlz => ?_⟩⟩
  have nz := same_new hpz (.tup [V.int 0, V.int 1])
  have nl := same_new hlz (.lst [V.ref pz])
  have sI := nz.trans nl
  have hpz1 : FcAt (upd (upd HH pz (.tup [V.int 0, V.int 1])) lz (.lst [V.ref pz])) pz (0, 1) := nl pz _ upd_same
  refine ⟨_, rfl, D, _, rfl, .inl (SqL.of (hZF.same ((sG.trans sH).trans sI)).lst), lz, _, _, rfl, rfl, upd_same, (by omega), (by rw [lsrefs_length]; omega), (by rw [lsrefs_length]; show 1 * (zs.length : Int).toNat <= sizeLine; exact Nat.le_of_lt (small1000 (by omega))), fun rz hrz => ?_⟩
  have nr := same_new hrz (.lst (List.replicate ((lsrefs zs).length : Int).toNat [V.ref pz]).flatten)
  refine ⟨D4, rz, true, rfl, rfl, noughts (p := pz) ((sI.trans nr) _ _ hV) (fun v hv => ?_) upd_same (nr _ _ hpz1) (by rw [lsrefs_length]; omega), q _⟩
  obtain ⟨qa, e, hq⟩ := ve v hv
  exact ⟨qa, e, (sI.trans nr) _ _ hq⟩
end
end K76
namespace K76
open PySem L2 TD PyProof.Rows
theorem all_mk {l : W.OpenLaw} {w : World} {K : W.Frag} {h : Heap} {mg : Str -> Option Value} {fa cR Pt f1 f2 f3 f4 f5 f6 f7 f8 f9 f10 f11 f12 f13 f14 f15 f16 f17 f18 f19 f20 f21 f22 f23 f24 f25 f26 f27 f28 f29 f30 f31 f32 f33 f34 f35 f36 f37 f38 f39 cO : Addr} (X : K.In h) (G : h.Ns mainGlobals mg) (hfa : mg "law" = some (.ref fa))
    {od1 an1 od2 an2 od3 an3 od4 an4 od5 an5 od6 an6 od7 an7 od8 an8 od9 an9 od10 an10 od11 an11 od12 an12 od13 an13 od14 an14 od15 an15 od16 an16 od17 an17 od18 an18 od19 an19 od20 an20 od21 an21 od22 an22 od23 an23 od24 an24 od25 an25 od26 an26 od27 an27 od28 an28 od29 an29 od30 an30 od31 an31 od32 an32 od33 an33 od34 an34 od35 an35 od36 an36 od37 an37 od38 an38 od39 an39 : Option Addr} {sl1 sl2 sl3 sl4 sl5 sl6 sl7 sl8 sl9 sl10 sl11 sl12 sl13 sl14 sl15 sl16 sl17 sl18 sl19 sl20 sl21 sl22 sl23 sl24 sl25 sl26 sl27 sl28 sl29 sl30 sl31 sl32 sl33 sl34 sl35 sl36 sl37 sl38 sl39 : Array (Option Value)} {oc1 kV1 dc1 pm1 ct1 cd1 oc2 kV2 dc2 pm2 ct2 cd2 oc3 kV3 dc3 pm3 ct3 cd3 oc4 kV4 dc4 pm4 ct4 cd4 oc5 kV5 dc5 pm5 ct5 cd5 oc6 kV6 dc6 pm6 ct6 cd6 oc7 kV7 dc7 pm7 ct7 cd7 oc8 kV8 dc8 pm8 ct8 cd8 oc9 kV9 dc9 pm9 ct9 cd9 oc10 kV10 dc10 pm10 ct10 cd10 oc11 kV11 dc11 pm11 ct11 cd11 oc12 kV12 dc12 pm12 ct12 oc13 kV13 dc13 pm13 ct13 cd13 oc14 kV14 dc14 pm14 ct14 cd14 oc15 kV15 dc15 pm15 ct15 cd15 oc16 kV16 dc16 pm16 ct16 cd16 oc17 kV17 dc17 pm17 ct17 cd17 oc18 kV18 dc18 pm18 ct18 cd18 oc19 kV19 dc19 pm19 ct19 cd19 oc20 kV20 dc20 pm20 ct20 cd20 oc21 kV21 dc21 pm21 ct21 cd21 oc22 kV22 dc22 pm22 ct22 cd22 oc23 kV23 dc23 pm23 ct23 cd23 oc24 kV24 dc24 pm24 ct24 cd24 oc25 kV25 dc25 pm25 ct25 cd25 oc26 kV26 dc26 pm26 ct26 cd26 oc27 kV27 dc27 pm27 ct27 cd27 oc28 kV28 dc28 pm28 ct28 cd28 oc29 kV29 dc29 pm29 ct29 cd29 oc30 kV30 dc30 pm30 ct30 cd30 oc31 kV31 dc31 pm31 ct31 cd31 oc32 kV32 dc32 pm32 ct32 cd32 oc33 kV33 dc33 pm33 ct33 cd33 oc34 kV34 dc34 pm34 ct34 cd34 oc35 kV35 dc35 pm35 ct35 cd35 oc36 kV36 dc36 pm36 ct36 cd36 oc37 kV37 dc37 pm37 ct37 cd37 oc38 kV38 dc38 pm38 ct38 cd38 oc39 kV39 dc39 pm39 ct39 cd39 : Value}
    (aC_Offers : W.nsIn K mainGlobals "Offers" = some (some (.ref cO)))
    (a1 : W.nsIn K mainGlobals "is_whole" = some (some (.ref f1)))
    (l1 : K.lookup f1 = some ⟨oc1, od1, .func (W.fnOf "is_whole" "is_whole" (defArgs (top 7)) (defBody (top 7)) (defScope (top 7)) .none kV1 dc1 pm1 an1 cd1 ct1), sl1⟩) (c1 : W.codeIn K cd1 "is_whole" = true) (k1 : W.keepIn K (.ref f1) = true)
    (a2 : W.nsIn K mainGlobals "common_divisor" = some (some (.ref f2)))
    (l2 : K.lookup f2 = some ⟨oc2, od2, .func (W.fnOf "common_divisor" "common_divisor" (defArgs (top 8)) (defBody (top 8)) (defScope (top 8)) .none kV2 dc2 pm2 an2 cd2 ct2), sl2⟩) (c2 : W.codeIn K cd2 "common_divisor" = true) (k2 : W.keepIn K (.ref f2) = true)
    (a3 : W.nsIn K mainGlobals "common_multiple" = some (some (.ref f3)))
    (l3 : K.lookup f3 = some ⟨oc3, od3, .func (W.fnOf "common_multiple" "common_multiple" (defArgs (top 9)) (defBody (top 9)) (defScope (top 9)) .none kV3 dc3 pm3 an3 cd3 ct3), sl3⟩) (c3 : W.codeIn K cd3 "common_multiple" = true) (k3 : W.keepIn K (.ref f3) = true)
    (a4 : W.nsIn K mainGlobals "share" = some (some (.ref f4)))
    (l4 : K.lookup f4 = some ⟨oc4, od4, .func (W.fnOf "share" "share" (defArgs (top 10)) (defBody (top 10)) (defScope (top 10)) .none kV4 dc4 pm4 an4 cd4 ct4), sl4⟩) (c4 : W.codeIn K cd4 "share" = true) (k4 : W.keepIn K (.ref f4) = true)
    (a5 : W.nsIn K mainGlobals "whole" = some (some (.ref f5)))
    (l5 : K.lookup f5 = some ⟨oc5, od5, .func (W.fnOf "whole" "whole" (defArgs (top 11)) (defBody (top 11)) (defScope (top 11)) .none kV5 dc5 pm5 an5 cd5 ct5), sl5⟩) (c5 : W.codeIn K cd5 "whole" = true) (k5 : W.keepIn K (.ref f5) = true)
    (a6 : W.nsIn K mainGlobals "minus" = some (some (.ref f6)))
    (l6 : K.lookup f6 = some ⟨oc6, od6, .func (W.fnOf "minus" "minus" (defArgs (top 12)) (defBody (top 12)) (defScope (top 12)) .none kV6 dc6 pm6 an6 cd6 ct6), sl6⟩) (c6 : W.codeIn K cd6 "minus" = true) (k6 : W.keepIn K (.ref f6) = true)
    (a7 : W.nsIn K mainGlobals "times" = some (some (.ref f7)))
    (l7 : K.lookup f7 = some ⟨oc7, od7, .func (W.fnOf "times" "times" (defArgs (top 13)) (defBody (top 13)) (defScope (top 13)) .none kV7 dc7 pm7 an7 cd7 ct7), sl7⟩) (c7 : W.codeIn K cd7 "times" = true) (k7 : W.keepIn K (.ref f7) = true)
    (a8 : W.nsIn K mainGlobals "below" = some (some (.ref f8)))
    (l8 : K.lookup f8 = some ⟨oc8, od8, .func (W.fnOf "below" "below" (defArgs (top 14)) (defBody (top 14)) (defScope (top 14)) .none kV8 dc8 pm8 an8 cd8 ct8), sl8⟩) (c8 : W.codeIn K cd8 "below" = true) (k8 : W.keepIn K (.ref f8) = true)
    (a9 : W.nsIn K mainGlobals "greater" = some (some (.ref f9)))
    (l9 : K.lookup f9 = some ⟨oc9, od9, .func (W.fnOf "greater" "greater" (defArgs (top 15)) (defBody (top 15)) (defScope (top 15)) .none kV9 dc9 pm9 an9 cd9 ct9), sl9⟩) (c9 : W.codeIn K cd9 "greater" = true) (k9 : W.keepIn K (.ref f9) = true)
    (a10 : W.nsIn K mainGlobals "is_row" = some (some (.ref f10)))
    (l10 : K.lookup f10 = some ⟨oc10, od10, .func (W.fnOf "is_row" "is_row" (defArgs (top 20)) (defBody (top 20)) (defScope (top 20)) .none kV10 dc10 pm10 an10 cd10 ct10), sl10⟩) (c10 : W.codeIn K cd10 "is_row" = true) (k10 : W.keepIn K (.ref f10) = true)
    (a11 : W.nsIn K mainGlobals "is_rows" = some (some (.ref f11)))
    (l11 : K.lookup f11 = some ⟨oc11, od11, .func (W.fnOf "is_rows" "is_rows" (defArgs (top 21)) (defBody (top 21)) (defScope (top 21)) .none kV11 dc11 pm11 an11 cd11 ct11), sl11⟩) (c11 : W.codeIn K cd11 "is_rows" = true) (k11 : W.keepIn K (.ref f11) = true)
    (a12 : W.nsIn K mainGlobals "rising" = some (some (.ref f12)))
    (l12 : K.lookup f12 = some ⟨oc12, od12, .func (W.fnOf "rising" "rising" (defArgs (top 22)) (defBody (top 22)) (defScope (top 22)) .none kV12 dc12 pm12 an12 (.ref cR) ct12), sl12⟩) (c12 : W.codeIn K (.ref cR) "rising" = true) (k12 : W.keepIn K (.ref f12) = true)
    (a13 : W.nsIn K mainGlobals "in_form" = some (some (.ref f13)))
    (l13 : K.lookup f13 = some ⟨oc13, od13, .func (W.fnOf "in_form" "in_form" (defArgs (top 23)) (defBody (top 23)) (defScope (top 23)) .none kV13 dc13 pm13 an13 cd13 ct13), sl13⟩) (c13 : W.codeIn K cd13 "in_form" = true) (k13 : W.keepIn K (.ref f13) = true)
    (a14 : W.nsIn K mainGlobals "table_of" = some (some (.ref f14)))
    (l14 : K.lookup f14 = some ⟨oc14, od14, .func (W.fnOf "table_of" "table_of" (defArgs (top 24)) (defBody (top 24)) (defScope (top 24)) .none kV14 dc14 pm14 an14 cd14 ct14), sl14⟩) (c14 : W.codeIn K cd14 "table_of" = true) (k14 : W.keepIn K (.ref f14) = true)
    (a15 : W.nsIn K mainGlobals "all_weights" = some (some (.ref f15)))
    (l15 : K.lookup f15 = some ⟨oc15, od15, .func (W.fnOf "all_weights" "all_weights" (defArgs (top 25)) (defBody (top 25)) (defScope (top 25)) .none kV15 dc15 pm15 an15 cd15 ct15), sl15⟩) (c15 : W.codeIn K cd15 "all_weights" = true) (k15 : W.keepIn K (.ref f15) = true)
    (a16 : W.nsIn K mainGlobals "by_weights" = some (some (.ref f16)))
    (l16 : K.lookup f16 = some ⟨oc16, od16, .func (W.fnOf "by_weights" "by_weights" (defArgs (top 26)) (defBody (top 26)) (defScope (top 26)) .none kV16 dc16 pm16 an16 cd16 ct16), sl16⟩) (c16 : W.codeIn K cd16 "by_weights" = true) (k16 : W.keepIn K (.ref f16) = true)
    (a17 : W.nsIn K mainGlobals "is_lists" = some (some (.ref f17)))
    (l17 : K.lookup f17 = some ⟨oc17, od17, .func (W.fnOf "is_lists" "is_lists" (defArgs (top 29)) (defBody (top 29)) (defScope (top 29)) .none kV17 dc17 pm17 an17 cd17 ct17), sl17⟩) (c17 : W.codeIn K cd17 "is_lists" = true) (k17 : W.keepIn K (.ref f17) = true)
    (a18 : W.nsIn K mainGlobals "is_truths" = some (some (.ref f18)))
    (l18 : K.lookup f18 = some ⟨oc18, od18, .func (W.fnOf "is_truths" "is_truths" (defArgs (top 30)) (defBody (top 30)) (defScope (top 30)) .none kV18 dc18 pm18 an18 cd18 ct18), sl18⟩) (c18 : W.codeIn K cd18 "is_truths" = true) (k18 : W.keepIn K (.ref f18) = true)
    (a19 : W.nsIn K mainGlobals "is_rule" = some (some (.ref f19)))
    (l19 : K.lookup f19 = some ⟨oc19, od19, .func (W.fnOf "is_rule" "is_rule" (defArgs (top 31)) (defBody (top 31)) (defScope (top 31)) .none kV19 dc19 pm19 an19 cd19 ct19), sl19⟩) (c19 : W.codeIn K cd19 "is_rule" = true) (k19 : W.keepIn K (.ref f19) = true)
    (a20 : W.nsIn K mainGlobals "share_of_some" = some (some (.ref f20)))
    (l20 : K.lookup f20 = some ⟨oc20, od20, .func (W.fnOf "share_of_some" "share_of_some" (defArgs (top 32)) (defBody (top 32)) (defScope (top 32)) .none kV20 dc20 pm20 an20 cd20 ct20), sl20⟩) (c20 : W.codeIn K cd20 "share_of_some" = true) (k20 : W.keepIn K (.ref f20) = true)
    (a21 : W.nsIn K mainGlobals "moment_loss" = some (some (.ref f21)))
    (l21 : K.lookup f21 = some ⟨oc21, od21, .func (W.fnOf "moment_loss" "moment_loss" (defArgs (top 33)) (defBody (top 33)) (defScope (top 33)) .none kV21 dc21 pm21 an21 cd21 ct21), sl21⟩) (c21 : W.codeIn K cd21 "moment_loss" = true) (k21 : W.keepIn K (.ref f21) = true)
    (a22 : W.nsIn K mainGlobals "_law_cell" = some (some (.ref f22)))
    (l22 : K.lookup f22 = some ⟨oc22, od22, .func (W.fnOf "_law_cell" "_law_cell" (defArgs (top 36)) (defBody (top 36)) (defScope (top 36)) .none kV22 dc22 pm22 an22 cd22 ct22), sl22⟩) (c22 : W.codeIn K cd22 "_law_cell" = true) (k22 : W.keepIn K (.ref f22) = true)
    (a23 : W.nsIn K mainGlobals "_law_mix" = some (some (.ref f23)))
    (l23 : K.lookup f23 = some ⟨oc23, od23, .func (W.fnOf "_law_mix" "_law_mix" (defArgs (top 37)) (defBody (top 37)) (defScope (top 37)) .none kV23 dc23 pm23 an23 cd23 ct23), sl23⟩) (c23 : W.codeIn K cd23 "_law_mix" = true) (k23 : W.keepIn K (.ref f23) = true)
    (a24 : W.nsIn K mainGlobals "_law_common" = some (some (.ref f24)))
    (l24 : K.lookup f24 = some ⟨oc24, od24, .func (W.fnOf "_law_common" "_law_common" (defArgs (top 38)) (defBody (top 38)) (defScope (top 38)) .none kV24 dc24 pm24 an24 cd24 ct24), sl24⟩) (c24 : W.codeIn K cd24 "_law_common" = true) (k24 : W.keepIn K (.ref f24) = true)
    (a25 : W.nsIn K mainGlobals "_law_whole" = some (some (.ref f25)))
    (l25 : K.lookup f25 = some ⟨oc25, od25, .func (W.fnOf "_law_whole" "_law_whole" (defArgs (top 39)) (defBody (top 39)) (defScope (top 39)) .none kV25 dc25 pm25 an25 cd25 ct25), sl25⟩) (c25 : W.codeIn K cd25 "_law_whole" = true) (k25 : W.keepIn K (.ref f25) = true)
    (a26 : W.nsIn K mainGlobals "_law_lists" = some (some (.ref f26)))
    (l26 : K.lookup f26 = some ⟨oc26, od26, .func (W.fnOf "_law_lists" "_law_lists" (defArgs (top 40)) (defBody (top 40)) (defScope (top 40)) .none kV26 dc26 pm26 an26 cd26 ct26), sl26⟩) (c26 : W.codeIn K cd26 "_law_lists" = true) (k26 : W.keepIn K (.ref f26) = true)
    (a27 : W.nsIn K mainGlobals "_law_rows" = some (some (.ref f27)))
    (l27 : K.lookup f27 = some ⟨oc27, od27, .func (W.fnOf "_law_rows" "_law_rows" (defArgs (top 41)) (defBody (top 41)) (defScope (top 41)) .none kV27 dc27 pm27 an27 cd27 ct27), sl27⟩) (c27 : W.codeIn K cd27 "_law_rows" = true) (k27 : W.keepIn K (.ref f27) = true)
    (a28 : W.nsIn K mainGlobals "_law_lowest" = some (some (.ref f28)))
    (l28 : K.lookup f28 = some ⟨oc28, od28, .func (W.fnOf "_law_lowest" "_law_lowest" (defArgs (top 42)) (defBody (top 42)) (defScope (top 42)) .none kV28 dc28 pm28 an28 cd28 ct28), sl28⟩) (c28 : W.codeIn K cd28 "_law_lowest" = true) (k28 : W.keepIn K (.ref f28) = true)
    (a29 : W.nsIn K mainGlobals "_law_added" = some (some (.ref f29)))
    (l29 : K.lookup f29 = some ⟨oc29, od29, .func (W.fnOf "_law_added" "_law_added" (defArgs (top 43)) (defBody (top 43)) (defScope (top 43)) .none kV29 dc29 pm29 an29 cd29 ct29), sl29⟩) (c29 : W.codeIn K cd29 "_law_added" = true) (k29 : W.keepIn K (.ref f29) = true)
    (a30 : W.nsIn K mainGlobals "_law_same" = some (some (.ref f30)))
    (l30 : K.lookup f30 = some ⟨oc30, od30, .func (W.fnOf "_law_same" "_law_same" (defArgs (top 45)) (defBody (top 45)) (defScope (top 45)) .none kV30 dc30 pm30 an30 cd30 ct30), sl30⟩) (c30 : W.codeIn K cd30 "_law_same" = true) (k30 : W.keepIn K (.ref f30) = true)
    (a31 : W.nsIn K mainGlobals "_law_on" = some (some (.ref f31)))
    (l31 : K.lookup f31 = some ⟨oc31, od31, .func (W.fnOf "_law_on" "_law_on" (defArgs (top 46)) (defBody (top 46)) (defScope (top 46)) .none kV31 dc31 pm31 an31 cd31 ct31), sl31⟩) (c31 : W.codeIn K cd31 "_law_on" = true) (k31 : W.keepIn K (.ref f31) = true)
    (a32 : W.nsIn K mainGlobals "_law_rule" = some (some (.ref f32)))
    (l32 : K.lookup f32 = some ⟨oc32, od32, .func (W.fnOf "_law_rule" "_law_rule" (defArgs (top 47)) (defBody (top 47)) (defScope (top 47)) .none kV32 dc32 pm32 an32 cd32 ct32), sl32⟩) (c32 : W.codeIn K cd32 "_law_rule" = true) (k32 : W.keepIn K (.ref f32) = true)
    (a33 : W.nsIn K mainGlobals "_law_loss" = some (some (.ref f33)))
    (l33 : K.lookup f33 = some ⟨oc33, od33, .func (W.fnOf "_law_loss" "_law_loss" (defArgs (top 48)) (defBody (top 48)) (defScope (top 48)) .none kV33 dc33 pm33 an33 cd33 ct33), sl33⟩) (c33 : W.codeIn K cd33 "_law_loss" = true) (k33 : W.keepIn K (.ref f33) = true)
    (a34 : W.nsIn K mainGlobals "_law_walked" = some (some (.ref f34)))
    (l34 : K.lookup f34 = some ⟨oc34, od34, .func (W.fnOf "_law_walked" "_law_walked" (defArgs (top 49)) (defBody (top 49)) (defScope (top 49)) .none kV34 dc34 pm34 an34 cd34 ct34), sl34⟩) (c34 : W.codeIn K cd34 "_law_walked" = true) (k34 : W.keepIn K (.ref f34) = true)
    (a35 : W.nsIn K mainGlobals "law" = some (some (.ref f35)))
    (l35 : K.lookup f35 = some ⟨oc35, od35, .func (W.fnOf "law" "law" (defArgs (top 50)) (defBody (top 50)) (defScope (top 50)) .none kV35 dc35 pm35 an35 cd35 ct35), sl35⟩) (c35 : W.codeIn K cd35 "law" = true) (k35 : W.keepIn K (.ref f35) = true)
    (a36 : W.findIn K (.ref cO) "__init__" = some (some (.ref f36))) (i36 : W.isFn K (.ref f36) = true)
    (l36 : K.lookup f36 = some ⟨oc36, od36, .func (W.fnOf "__init__" "Offers.__init__" (defArgs (inClass (top 34) 0)) (defBody (inClass (top 34) 0)) (defScope (inClass (top 34) 0)) .none kV36 dc36 pm36 an36 cd36 ct36), sl36⟩) (c36 : W.codeIn K cd36 "Offers.__init__" = true) (k36 : W.keepIn K (.ref f36) = true)
    (a37 : W.findIn K (.ref cO) "worths_on" = some (some (.ref f37))) (i37 : W.isFn K (.ref f37) = true)
    (l37 : K.lookup f37 = some ⟨oc37, od37, .func (W.fnOf "worths_on" "Offers.worths_on" (defArgs (inClass (top 34) 7)) (defBody (inClass (top 34) 7)) (defScope (inClass (top 34) 7)) .none kV37 dc37 pm37 an37 cd37 ct37), sl37⟩) (c37 : W.codeIn K cd37 "Offers.worths_on" = true) (k37 : W.keepIn K (.ref f37) = true)
    (a38 : W.findIn K (.ref cO) "need_rule" = some (some (.ref f38))) (i38 : W.isFn K (.ref f38) = true)
    (l38 : K.lookup f38 = some ⟨oc38, od38, .func (W.fnOf "need_rule" "Offers.need_rule" (defArgs (inClass (top 34) 8)) (defBody (inClass (top 34) 8)) (defScope (inClass (top 34) 8)) .none kV38 dc38 pm38 an38 cd38 ct38), sl38⟩) (c38 : W.codeIn K cd38 "Offers.need_rule" = true) (k38 : W.keepIn K (.ref f38) = true)
    (a39 : W.findIn K (.ref cO) "rule_losses" = some (some (.ref f39))) (i39 : W.isFn K (.ref f39) = true)
    (l39 : K.lookup f39 = some ⟨oc39, od39, .func (W.fnOf "rule_losses" "Offers.rule_losses" (defArgs (inClass (top 34) 10)) (defBody (inClass (top 34) 10)) (defScope (inClass (top 34) 10)) .none kV39 dc39 pm39 an39 cd39 ct39), sl39⟩) (c39 : W.codeIn K cd39 "Offers.rule_losses" = true) (k39 : W.keepIn K (.ref f39) = true)
    (pgO : W.plainGet K cO Str.empty = true)
    (hdO : W.hasDictIn K cO = true)
    (poO : W.plainOver K cO = true)
    (saO : W.findIn K (.ref cO) "__setattr__" = some (some (.builtin "object.__setattr__")))
    (mkO : W.makesIn K cO = true)
    (kcO : W.keepIn K (.ref cO) = true)
    (nkO : W.findIn K (.ref cO) "kinds" = some none)
    (y_abs : W.nsIn K mainGlobals "abs" = some none)
    (y_all : W.nsIn K mainGlobals "all" = some none)
    (y_bool : W.nsIn K mainGlobals "bool" = some none)
    (y_enumerate : W.nsIn K mainGlobals "enumerate" = some none)
    (y_int : W.nsIn K mainGlobals "int" = some none)
    (y_isinstance : W.nsIn K mainGlobals "isinstance" = some none)
    (y_len : W.nsIn K mainGlobals "len" = some none)
    (y_list : W.nsIn K mainGlobals "list" = some none)
    (y_max : W.nsIn K mainGlobals "max" = some none)
    (y_range : W.nsIn K mainGlobals "range" = some none)
    (y_reversed : W.nsIn K mainGlobals "reversed" = some none)
    (y_sorted : W.nsIn K mainGlobals "sorted" = some none)
    (y_sum : W.nsIn K mainGlobals "sum" = some none)
    (y_tuple : W.nsIn K mainGlobals "tuple" = some none)
    (y_zip : W.nsIn K mainGlobals "zip" = some none)
    {tk_MOST_WEIGHT : Tok} (yg_MOST_WEIGHT : W.nsIn K mainGlobals "MOST_WEIGHT" = some (some (.int 1000 tk_MOST_WEIGHT)))
    {tk_MOST_WORTH : Tok} (yg_MOST_WORTH : W.nsIn K mainGlobals "MOST_WORTH" = some (some (.int 1000000000 tk_MOST_WORTH)))
    {tk_MOST_ROWS : Tok} (yg_MOST_ROWS : W.nsIn K mainGlobals "MOST_ROWS" = some (some (.int 8 tk_MOST_ROWS)))
    {tk_MOST_OFFERS : Tok} (yg_MOST_OFFERS : W.nsIn K mainGlobals "MOST_OFFERS" = some (some (.int 8 tk_MOST_OFFERS)))
    (tb : W.tabIn K "rising" = some (cR, Pt)) (ch : W.codeHdIn K cR Pt = true) (np : K.lookup Pt = none)
    : ∃ (fd : FuncData) (c P : Addr), (∀ (s : Shared) (v : Value), BindsTo s fd ⟨[v], []⟩ [("_law_script", v)]) /\ W.tabIn K "rising" = some (c, P) /\ W.codeHdIn K c P = true /\ K.lookup P = none /\ ∀ base : Heap, K.In base -> base.Ns mainGlobals mg -> W.CodeHd base c P -> base.BuiltinsAt mg P -> FnOk l.prog w K mg base CX0 7 fa fd ["_law_script"] (spLaw5 K P) := by
  have e := hfa.symm.trans (W.mg_of X G a35)
  cases e
  have F1 := fun_mk (st := (top 7)) l1 c1 k1
  have b1 := F1.binds (ps := ["thing", "least", "most"]) fun _ _ _ _ _ _ us hl => match us, hl with | [_, _, _], _ => rfl
  have F2 := fun_mk (st := (top 8)) l2 c2 k2
  have b2 := F2.binds (ps := ["one", "other"]) fun _ _ _ _ _ _ us hl => match us, hl with | [_, _], _ => rfl
  have F3 := fun_mk (st := (top 9)) l3 c3 k3
  have b3 := F3.binds (ps := ["numbers"]) fun _ _ _ _ _ _ us hl => match us, hl with | [_], _ => rfl
  have F4 := fun_mk (st := (top 10)) l4 c4 k4
  have b4 := F4.binds (ps := ["top", "bottom"]) fun _ _ _ _ _ _ us hl => match us, hl with | [_, _], _ => rfl
  have F5 := fun_mk (st := (top 11)) l5 c5 k5
  have b5 := F5.binds (ps := ["number"]) fun _ _ _ _ _ _ us hl => match us, hl with | [_], _ => rfl
  have F6 := fun_mk (st := (top 12)) l6 c6 k6
  have b6 := F6.binds (ps := ["one", "other"]) fun _ _ _ _ _ _ us hl => match us, hl with | [_, _], _ => rfl
  have F7 := fun_mk (st := (top 13)) l7 c7 k7
  have b7 := F7.binds (ps := ["one", "other"]) fun _ _ _ _ _ _ us hl => match us, hl with | [_, _], _ => rfl
  have F8 := fun_mk (st := (top 14)) l8 c8 k8
  have b8 := F8.binds (ps := ["one", "other"]) fun _ _ _ _ _ _ us hl => match us, hl with | [_, _], _ => rfl
  have F9 := fun_mk (st := (top 15)) l9 c9 k9
  have b9 := F9.binds (ps := ["one", "other"]) fun _ _ _ _ _ _ us hl => match us, hl with | [_, _], _ => rfl
  have F10 := fun_mk (st := (top 20)) l10 c10 k10
  have b10 := F10.binds (ps := ["row"]) fun _ _ _ _ _ _ us hl => match us, hl with | [_], _ => rfl
  have F11 := fun_mk (st := (top 21)) l11 c11 k11
  have b11 := F11.binds (ps := ["rows"]) fun _ _ _ _ _ _ us hl => match us, hl with | [_], _ => rfl
  have F12 := fun_mk (st := (top 22)) l12 c12 k12
  have b12 := F12.binds (ps := ["worths"]) fun _ _ _ _ _ _ us hl => match us, hl with | [_], _ => rfl
  have F13 := fun_mk (st := (top 23)) l13 c13 k13
  have b13 := F13.binds (ps := ["rows"]) fun _ _ _ _ _ _ us hl => match us, hl with | [_], _ => rfl
  have F14 := fun_mk (st := (top 24)) l14 c14 k14
  have b14 := F14.binds (ps := ["rows"]) fun _ _ _ _ _ _ us hl => match us, hl with | [_], _ => rfl
  have F15 := fun_mk (st := (top 25)) l15 c15 k15
  have b15 := F15.binds (ps := ["table"]) fun _ _ _ _ _ _ us hl => match us, hl with | [_], _ => rfl
  have F16 := fun_mk (st := (top 26)) l16 c16 k16
  have b16 := F16.binds (ps := ["rows", "weights"]) fun _ _ _ _ _ _ us hl => match us, hl with | [_, _], _ => rfl
  have F17 := fun_mk (st := (top 29)) l17 c17 k17
  have b17 := F17.binds (ps := ["lists"]) fun _ _ _ _ _ _ us hl => match us, hl with | [_], _ => rfl
  have F18 := fun_mk (st := (top 30)) l18 c18 k18
  have b18 := F18.binds (ps := ["truths", "many"]) fun _ _ _ _ _ _ us hl => match us, hl with | [_, _], _ => rfl
  have F19 := fun_mk (st := (top 31)) l19 c19 k19
  have b19 := F19.binds (ps := ["rule", "tables"]) fun _ _ _ _ _ _ us hl => match us, hl with | [_, _], _ => rfl
  have F20 := fun_mk (st := (top 32)) l20 c20 k20
  have b20 := F20.binds (ps := ["table", "truths"]) fun _ _ _ _ _ _ us hl => match us, hl with | [_, _], _ => rfl
  have F21 := fun_mk (st := (top 33)) l21 c21 k21
  have b21 := F21.binds (ps := ["table", "truths", "worth_on"]) fun _ _ _ _ _ _ us hl => match us, hl with | [_, _, _], _ => rfl
  have F22 := fun_mk (st := (top 36)) l22 c22 k22
  have b22 := F22.binds (ps := ["_law_script", "_law_k"]) fun _ _ _ _ _ _ us hl => match us, hl with | [_, _], _ => rfl
  have F23 := fun_mk (st := (top 37)) l23 c23 k23
  have b23 := F23.binds (ps := ["_law_cell_here", "_law_k"]) fun _ _ _ _ _ _ us hl => match us, hl with | [_, _], _ => rfl
  have F24 := fun_mk (st := (top 38)) l24 c24 k24
  have b24 := F24.binds (ps := ["_law_one", "_law_other"]) fun _ _ _ _ _ _ us hl => match us, hl with | [_, _], _ => rfl
  have F25 := fun_mk (st := (top 39)) l25 c25 k25
  have b25 := F25.binds (ps := ["_law_found"]) fun _ _ _ _ _ _ us hl => match us, hl with | [_], _ => rfl
  have F26 := fun_mk (st := (top 40)) l26 c26 k26
  have b26 := F26.binds (ps := ["_law_script", "_law_most", "_law_wide"]) fun _ _ _ _ _ _ us hl => match us, hl with | [_, _, _], _ => rfl
  have F27 := fun_mk (st := (top 41)) l27 c27 k27
  have b27 := F27.binds (ps := ["_law_rows_here"]) fun _ _ _ _ _ _ us hl => match us, hl with | [_], _ => rfl
  have F28 := fun_mk (st := (top 42)) l28 c28 k28
  have b28 := F28.binds (ps := ["_law_top", "_law_bottom"]) fun _ _ _ _ _ _ us hl => match us, hl with | [_, _], _ => rfl
  have F29 := fun_mk (st := (top 43)) l29 c29 k29
  have b29 := F29.binds (ps := ["_law_one", "_law_other"]) fun _ _ _ _ _ _ us hl => match us, hl with | [_, _], _ => rfl
  have F30 := fun_mk (st := (top 45)) l30 c30 k30
  have b30 := F30.binds (ps := ["_law_found", "_law_due"]) fun _ _ _ _ _ _ us hl => match us, hl with | [_, _], _ => rfl
  have F31 := fun_mk (st := (top 46)) l31 c31 k31
  have b31 := F31.binds (ps := ["_law_tables"]) fun _ _ _ _ _ _ us hl => match us, hl with | [_], _ => rfl
  have F32 := fun_mk (st := (top 47)) l32 c32 k32
  have b32 := F32.binds (ps := ["_law_script", "_law_tables", "_law_on_here"]) fun _ _ _ _ _ _ us hl => match us, hl with | [_, _, _], _ => rfl
  have F33 := fun_mk (st := (top 48)) l33 c33 k33
  have b33 := F33.binds (ps := ["_law_table", "_law_truths", "_law_on_here"]) fun _ _ _ _ _ _ us hl => match us, hl with | [_, _, _], _ => rfl
  have F34 := fun_mk (st := (top 49)) l34 c34 k34
  have b34 := F34.binds (ps := ["_law_tables", "_law_rule_here", "_law_told", "_law_on_here"]) fun _ _ _ _ _ _ us hl => match us, hl with | [_, _, _, _], _ => rfl
  have F35 := fun_mk (st := (top 50)) l35 c35 k35
  have F36 := fun_mk (st := (inClass (top 34) 0)) l36 c36 k36
  have b36 := F36.binds (ps := ["self", "lists"]) fun _ _ _ _ _ _ us hl => match us, hl with | [_, _], _ => rfl
  have F37 := fun_mk (st := (inClass (top 34) 7)) l37 c37 k37
  have b37 := F37.binds (ps := ["self"]) fun _ _ _ _ _ _ us hl => match us, hl with | [_], _ => rfl
  have F38 := fun_mk (st := (inClass (top 34) 8)) l38 c38 k38
  have b38 := F38.binds (ps := ["self", "rule"]) fun _ _ _ _ _ _ us hl => match us, hl with | [_, _], _ => rfl
  have F39 := fun_mk (st := (inClass (top 34) 10)) l39 c39 k39
  have b39 := F39.binds (ps := ["self", "rule"]) fun _ _ _ _ _ _ us hl => match us, hl with | [_, _], _ => rfl
  have m1 := W.mg_of X G a1
  have m2 := W.mg_of X G a2
  have m3 := W.mg_of X G a3
  have m4 := W.mg_of X G a4
  have m5 := W.mg_of X G a5
  have m6 := W.mg_of X G a6
  have m7 := W.mg_of X G a7
  have m8 := W.mg_of X G a8
  have m9 := W.mg_of X G a9
  have m10 := W.mg_of X G a10
  have m11 := W.mg_of X G a11
  have m12 := W.mg_of X G a12
  have m13 := W.mg_of X G a13
  have m14 := W.mg_of X G a14
  have m15 := W.mg_of X G a15
  have m16 := W.mg_of X G a16
  have m17 := W.mg_of X G a17
  have m18 := W.mg_of X G a18
  have m19 := W.mg_of X G a19
  have m20 := W.mg_of X G a20
  have m21 := W.mg_of X G a21
  have m22 := W.mg_of X G a22
  have m23 := W.mg_of X G a23
  have m24 := W.mg_of X G a24
  have m25 := W.mg_of X G a25
  have m26 := W.mg_of X G a26
  have m27 := W.mg_of X G a27
  have m28 := W.mg_of X G a28
  have m29 := W.mg_of X G a29
  have m30 := W.mg_of X G a30
  have m31 := W.mg_of X G a31
  have m32 := W.mg_of X G a32
  have m33 := W.mg_of X G a33
  have m34 := W.mg_of X G a34
  have g_Offers := W.mg_of X G aC_Offers
  have z_abs := W.mg_none_of X G y_abs
  have z_all := W.mg_none_of X G y_all
  have z_bool := W.mg_none_of X G y_bool
  have z_enumerate := W.mg_none_of X G y_enumerate
  have z_int := W.mg_none_of X G y_int
  have z_isinstance := W.mg_none_of X G y_isinstance
  have z_len := W.mg_none_of X G y_len
  have z_list := W.mg_none_of X G y_list
  have z_max := W.mg_none_of X G y_max
  have z_range := W.mg_none_of X G y_range
  have z_reversed := W.mg_none_of X G y_reversed
  have z_sorted := W.mg_none_of X G y_sorted
  have z_sum := W.mg_none_of X G y_sum
  have z_tuple := W.mg_none_of X G y_tuple
  have z_zip := W.mg_none_of X G y_zip
  have g_MOST_WEIGHT := W.mg_of X G yg_MOST_WEIGHT
  have r_MOST_WEIGHT : RelV (.int 1000) (.int 1000 tk_MOST_WEIGHT) := ⟨_, rfl⟩
  have g_MOST_WORTH := W.mg_of X G yg_MOST_WORTH
  have r_MOST_WORTH : RelV (.int 1000000000) (.int 1000000000 tk_MOST_WORTH) := ⟨_, rfl⟩
  have g_MOST_ROWS := W.mg_of X G yg_MOST_ROWS
  have r_MOST_ROWS : RelV (.int 8) (.int 8 tk_MOST_ROWS) := ⟨_, rfl⟩
  have g_MOST_OFFERS := W.mg_of X G yg_MOST_OFFERS
  have r_MOST_OFFERS : RelV (.int 8) (.int 8 tk_MOST_OFFERS) := ⟨_, rfl⟩
  refine ⟨W.fnOf "law" "law" (defArgs (top 50)) (defBody (top 50)) (defScope (top 50)) .none kV35 dc35 pm35 an35 cd35 ct35, cR, Pt, fun s v => .of_eq rfl, tb, ch, np, fun base _ _ hC hB => ?_⟩
  have cf : OF K cO := ⟨⟨pgO, hdO, poO, saO⟩, nkO⟩
  have MO : Mk K cO f36 := ⟨mkO, a36, i36, kcO⟩
  have mt37 : Meth K cO "worths_on" f37 := ⟨a37, i37, k37⟩
  have mt38 : Meth K cO "need_rule" f38 := ⟨a38, i38, k38⟩
  have mt39 : Meth K cO "rule_losses" f39 := ⟨a39, i39, k39⟩
  have C1 : Cal l.prog w K mg base 1 "is_whole" ["thing", "least", "most"] spIsW f1 _ := ⟨ok_is_whole (n := 0) F1  z_isinstance z_bool z_int , b1, k1, m1⟩
  have C2 : Cal l.prog w K mg base 1 "common_divisor" ["one", "other"] spCd f2 _ := ⟨ok_common_divisor (n := 0) F2  z_abs , b2, k2, m2⟩
  have C3 : Cal l.prog w K mg base 2 "common_multiple" ["numbers"] (spCM K) f3 _ := ⟨ok_common_multiple (n := 1) F3 (C2.up (by decide))  , b3, k3, m3⟩
  have C4 : Cal l.prog w K mg base 2 "share" ["top", "bottom"] spShare f4 _ := ⟨ok_share (n := 1) F4 (C2.up (by decide))  , b4, k4, m4⟩
  have C5 : Cal l.prog w K mg base 1 "whole" ["number"] spWh f5 _ := ⟨ok_whole (n := 0) F5   , b5, k5, m5⟩
  have C6 : Cal l.prog w K mg base 3 "minus" ["one", "other"] (spFr K mT pB) f6 _ := ⟨ok_minus (n := 2) F6 (C4.up (by decide))  , b6, k6, m6⟩
  have C7 : Cal l.prog w K mg base 3 "times" ["one", "other"] (spFr K tT pB) f7 _ := ⟨ok_times (n := 2) F7 (C4.up (by decide))  , b7, k7, m7⟩
  have C8 : Cal l.prog w K mg base 1 "below" ["one", "other"] (spBelow K) f8 _ := ⟨ok_below (n := 0) F8   , b8, k8, m8⟩
  have C9 : Cal l.prog w K mg base 2 "greater" ["one", "other"] (spGr K) f9 _ := ⟨ok_greater (n := 1) F9 (C8.up (by decide))  , b9, k9, m9⟩
  have C10 : Cal l.prog w K mg base 2 "is_row" ["row"] spRow1 f10 _ := ⟨ok_is_row (n := 1) F10 (C1.up (by decide)) z_len z_isinstance z_tuple g_MOST_WEIGHT r_MOST_WEIGHT g_MOST_WORTH r_MOST_WORTH, b10, k10, m10⟩
  have C11 : Cal l.prog w K mg base 3 "is_rows" ["rows"] spRows1 f11 _ := ⟨ok_is_rows (n := 2) F11 (C10.up (by decide)) z_all z_len z_isinstance z_list g_MOST_ROWS r_MOST_ROWS, b11, k11, m11⟩
  have C12 : Cal l.prog w K mg base 1 "rising" ["worths"] (spRise K Pt lamP) f12 _ := ⟨ok_rising (n := 0) F12 rfl hC hB  z_sorted z_max , b12, k12, m12⟩
  have C13 : Cal l.prog w K mg base 2 "in_form" ["rows"] (spForm Pt lamP) f13 _ := ⟨ok_in_form (n := 1) F13 (C12.up (by decide)) (C2.up (by decide)) z_list , b13, k13, m13⟩
  have C14 : Cal l.prog w K mg base 4 "table_of" ["rows"] (spTO Pt lamP) f14 _ := ⟨ok_table_of (n := 3) F14 (C13.up (by decide)) (C5.up (by decide)) (C11.up (by decide))  , b14, k14, m14⟩
  have C15 : Cal l.prog w K mg base 1 "all_weights" ["table"] spAWe f15 _ := ⟨ok_all_weights (n := 0) F15  z_sum , b15, k15, m15⟩
  have C16 : Cal l.prog w K mg base 3 "by_weights" ["rows", "weights"] spBWf f16 _ := ⟨ok_by_weights (n := 2) F16 (C4.up (by decide)) (C3.up (by decide)) z_sum , b16, k16, m16⟩
  have C17 : Cal l.prog w K mg base 4 "is_lists" ["lists"] spLists1 f17 _ := ⟨ok_is_lists (n := 3) F17 (C11.up (by decide)) z_all z_len z_isinstance z_list g_MOST_OFFERS r_MOST_OFFERS, b17, k17, m17⟩
  have C18 : Cal l.prog w K mg base 1 "is_truths" ["truths", "many"] spTru f18 _ := ⟨ok_is_truths (n := 0) F18  z_all z_isinstance z_bool z_len z_list , b18, k18, m18⟩
  have C19 : Cal l.prog w K mg base 2 "is_rule" ["rule", "tables"] spRul f19 _ := ⟨ok_is_rule (n := 1) F19 (C18.up (by decide)) z_all z_zip z_len z_isinstance z_list , b19, k19, m19⟩
  have C20 : Cal l.prog w K mg base 3 "share_of_some" ["table", "truths"] spSS f20 _ := ⟨ok_share_of_some (n := 2) F20 (C4.up (by decide)) (C15.up (by decide)) z_zip , b20, k20, m20⟩
  have C21 : Cal l.prog w K mg base 4 "moment_loss" ["table", "truths", "worth_on"] spML f21 _ := ⟨ok_moment_loss (n := 3) F21 (C6.up (by decide)) (C16.up (by decide)) (C9.up (by decide)) (C15.up (by decide)) z_zip , b21, k21, m21⟩
  have C22 : Cal l.prog w K mg base 1 "_law_cell" ["_law_script", "_law_k"] (spCell K) f22 _ := ⟨ok__law_cell (n := 0) F22  z_len , b22, k22, m22⟩
  have C23 : Cal l.prog w K mg base 1 "_law_mix" ["_law_cell_here", "_law_k"] spMix f23 _ := ⟨ok__law_mix (n := 0) F23   , b23, k23, m23⟩
  have C24 : Cal l.prog w K mg base 1 "_law_common" ["_law_one", "_law_other"] spCd f24 _ := ⟨ok__law_common (n := 0) F24  z_abs , b24, k24, m24⟩
  have C25 : Cal l.prog w K mg base 1 "_law_whole" ["_law_found"] spIsWhole f25 _ := ⟨ok__law_whole (n := 0) F25  z_isinstance z_bool z_int , b25, k25, m25⟩
  have C26 : Cal l.prog w K mg base 2 "_law_lists" ["_law_script", "_law_most", "_law_wide"] (spLL K) f26 _ := ⟨ok__law_lists (n := 1) F26 (C22.up (by decide)) (C23.up (by decide)) z_range , b26, k26, m26⟩
  have C27 : Cal l.prog w K mg base 2 "_law_rows" ["_law_rows_here"] spLR f27 _ := ⟨ok__law_rows (n := 1) F27 (C24.up (by decide)) z_sorted , b27, k27, m27⟩
  have C28 : Cal l.prog w K mg base 2 "_law_lowest" ["_law_top", "_law_bottom"] spLow f28 _ := ⟨ok__law_lowest (n := 1) F28 (C24.up (by decide))  , b28, k28, m28⟩
  have C29 : Cal l.prog w K mg base 3 "_law_added" ["_law_one", "_law_other"] spLA f29 _ := ⟨ok__law_added (n := 2) F29 (C28.up (by decide))  , b29, k29, m29⟩
  have C30 : Cal l.prog w K mg base 2 "_law_same" ["_law_found", "_law_due"] spSame f30 _ := ⟨ok__law_same (n := 1) F30 (C25.up (by decide)) z_len z_isinstance z_tuple , b30, k30, m30⟩
  have C31 : Cal l.prog w K mg base 3 "_law_on" ["_law_tables"] spLOn f31 _ := ⟨ok__law_on (n := 2) F31 (C28.up (by decide)) z_list z_reversed z_max , b31, k31, m31⟩
  have C32 : Cal l.prog w K mg base 2 "_law_rule" ["_law_script", "_law_tables", "_law_on_here"] (spLRu6 K) f32 _ := ⟨ok__law_rule (n := 1) F32 (C22.up (by decide)) (C23.up (by decide)) z_enumerate z_range z_len , b32, k32, m32⟩
  have C33 : Cal l.prog w K mg base 3 "_law_loss" ["_law_table", "_law_truths", "_law_on_here"] spLo6 f33 _ := ⟨ok__law_loss (n := 2) F33 (C28.up (by decide)) z_zip z_max z_int , b33, k33, m33⟩
  have C34 : Cal l.prog w K mg base 4 "_law_walked" ["_law_tables", "_law_rule_here", "_law_told", "_law_on_here"] spWk f34 _ := ⟨ok__law_walked (n := 3) F34 (C28.up (by decide)) (C29.up (by decide)) (C30.up (by decide)) (C33.up (by decide)) z_enumerate z_sum z_zip z_len z_isinstance z_tuple , b34, k34, m34⟩
  have G36 : FnOk l.prog w K mg base CX0 5 f36 _ ["self", "lists"] (spOin cO Pt lamP) := ok_Offers___init__ (n := 4) F36 cf (C14.up (by decide)) (C17.up (by decide)) z_tuple
  have G37 : FnOk l.prog w K mg base CX0 4 f37 _ ["self"] (spWOn cO) := ok_Offers_worths_on (n := 3) F37 cf (C16.up (by decide)) (C15.up (by decide)) (C9.up (by decide)) (C5.up (by decide)) z_reversed
  have G38 : FnOk l.prog w K mg base CX0 3 f38 _ ["self", "rule"] (spNR cO) := ok_Offers_need_rule (n := 2) F38 cf (C19.up (by decide))
  have G39 : FnOk l.prog w K mg base CX0 5 f39 _ ["self", "rule"] (spRLo cO) := ok_Offers_rule_losses (n := 4) F39 cf mt38 (G38.mono (by decide)) b38 mt37 (G37.mono (by decide)) b37 (C7.up (by decide)) (C6.up (by decide)) (C20.up (by decide)) (C5.up (by decide)) (C21.up (by decide)) z_enumerate
  exact ok_law (n := 6) F35 cf MO G36 b36 g_Offers (by decide) mt39 (G39.mono (by decide)) b39 (C22.up (by decide)) (C34.up (by decide)) (C32.up (by decide)) (C31.up (by decide)) (C27.up (by decide)) (C26.up (by decide)) z_len z_isinstance z_list
theorem walk {l : W.OpenLaw} {q : Program} {loose : List Str} {XP : (Str -> Option Value) -> Heap -> Prop} {YP : World -> Heap -> Prop} {d d0 : DefRec} {K : Params -> W.Frag} (hn : l.most = some 63) (hdf : d.params.defaults = [])
    (h0 : (recsOf q).find? (fun e => e.name == ("rising" : Str)) = some d0)
    (hY : ∀ (w : World) (h : Heap), YP w h -> (K w.params).In h)
    (F : ∀ (w : World) (mg : Str -> Option Value) (fa : Addr) (h : Heap), (K w.params).In h -> h.Ns mainGlobals mg -> mg d.name = some (.ref fa) ->
      ∃ (fd : FuncData) (c P : Addr), (∀ (s : Shared) (u : Value), BindsTo s fd ⟨[u], []⟩ [("_law_script", u)]) /\ W.tabIn (K w.params) "rising" = some (c, P) /\ W.codeHdIn (K w.params) c P = true /\ (K w.params).lookup P = none /\ ∀ base : Heap, (K w.params).In base -> base.Ns mainGlobals mg -> W.CodeHd base c P -> base.BuiltinsAt mg P -> FnOk l.prog w (K w.params) mg base CX0 7 fa fd ["_law_script"] (spLaw5 (K w.params) P)) :
    W.WalkO q loose XP YP l.row.toRowW d [] (fun f vs => PySem.call f vs) :=
  L2.walk_ofT (n := 63) (k := 7) (x := "_law_script") (x0 := "rising") (CX := fun _ => CX0) (sp := fun w P => spLaw5 (K w.params) P) hn (by decide) hdf ⟨rfl, by decide, by decide⟩ h0 hY F (fun _ _ a P ns hl hP hS => ⟨a, ns, rfl, hS, hl, hP, fun _ => rfl⟩) fun _ _ _ _ _ z => z
noncomputable section
abbrev OO := Params -> Obj
def E (P : Params) (x : Str) (t : Tok) (v : Value) : DictEntry := ⟨PyData.keyHash P x, .str x t, v⟩
abbrev fnO (n q : Str) (st : Stmt) (dV kV doc pm : Value) (an : Option Addr) (cdv ct : Value) : FuncData := W.fnOf n q (defArgs st) (defBody st) (defScope st) dV kV doc pm an cdv ct
def fnT (n q : Str) (st : Stmt) : FuncData := { name := n, qualname := q, params := defArgs st, body := .stmts (defBody st), scope := defScope st, globals := 0, closure := [], defaults := .none, kwdefaults := .none }
def s0  : Obj := ⟨(.type "tuple"), none, (.seq #[] 0), #[]⟩
def s1  : Obj := ⟨.none, none, (.fields #[]), #[]⟩
def s2 (x0 : Str) (x1 : Nat) (x3 : Nat) (x5 : Nat) (x6 : Int) (x16 : Nat) (x19 : Nat) (x20 : Int) (x25 : Nat) : Obj := ⟨(.type "code"), none, (.fields #[(.str x0 x1), (.str x0 x3), (.str "/claim/cut.py" x5), (.int x6 0), (.int 0 0), (.int 0 0), (.int 0 0), (.int 0 0), (.ref x16), (.bool false), (.int 181 0), (.ref x19), .none, .none, .none, .none, (.int x20 0), (.int x6 0), (.str "/claim/cut.py" x25)]), #[]⟩
def s3 (x0 : Nat) (x2 : Nat) (x3 : Str) (x4 : Nat) : Obj := ⟨(.type "frame"), none, .plain, #[(some (.ref x0)), (some (.ref 3)), (some (.ref x2)), none, (some (.str x3 x4)), none, (some (.ref 0))]⟩
def s4 (x0 : Str) (x1 : Nat) : Obj := ⟨(.type "tuple"), none, (.seq #[(.str x0 x1)] 0), #[]⟩
def s5 (x0 : Str) (x1 : Str) (x2 : Stmt) : Obj := ⟨.none, none, (.func (fnT x0 x1 x2)), #[]⟩
def s6 (x0 : Str) (x1 : Nat) (x2 : Str) (x3 : Nat) (x5 : Nat) (x6 : Int) (x8 : Int) (x16 : Nat) (x19 : Nat) (x20 : Nat) (x21 : Nat) (x22 : Nat) (x23 : Int) (x28 : Nat) : Obj := ⟨(.type "code"), none, (.fields #[(.str x0 x1), (.str x2 x3), (.str "/claim/cut.py" x5), (.int x6 0), (.int x8 0), (.int 0 0), (.int 0 0), (.int 3 0), (.ref x16), (.bool true), (.int 181 0), (.ref x19), .none, (.ref x20), (.ref x21), (.ref x22), (.int x23 0), (.int x6 0), (.str "/claim/cut.py" x28)]), #[]⟩
def s7 (x0 : Str) (x1 : Str) (x2 : Stmt) (x3 : Str) (x4 : Nat) (x5 : Nat) : Obj := ⟨(.type "function"), none, (.func (fnO x0 x1 x2 .none .none .none (.str x3 x4) none (.ref x5) .none)), #[]⟩
def s8  : Obj := ⟨(.type "builtin_function_or_method"), none, (.fields #[(.builtin "type.__prepare__"), (.type "type")]), #[]⟩
def s9 (P : Params) (x1 : Nat) (x5 : Nat) (x6 : Str) (x7 : Nat) (x9 : Nat) (x10 : Int) (x11 : Nat) (x13 : Nat) (x14 : Nat) : Obj := ⟨(.type "dict"), none, (.dict #[E P "__module__" x1 (.str "lidprice.errors" 194), E P "__qualname__" x5 (.str x6 x7), E P "__firstlineno__" x9 (.int x10 x11), E P "__static_attributes__" x13 (.ref x14)] 4), #[]⟩
def s10 (x0 : Nat) : Obj := ⟨(.type "super"), none, (.fields #[(.ref x0), (.ref x0), (.ref x0)]), #[]⟩
def s11 (x0 : Nat) : Obj := ⟨(.type "builtin_function_or_method"), none, (.fields #[(.builtin "object.__init_subclass__"), (.ref x0)]), #[]⟩
def s12 (x0 : Str) (x1 : Nat) (x2 : Str) (x3 : Nat) (x4 : Str) (x5 : Nat) : Obj := ⟨(.type "tuple"), none, (.seq #[(.str x0 x1), (.str x2 x3), (.str x4 x5)] 0), #[]⟩
def s13 (x0 : Str) (x1 : Nat) (x2 : Str) (x3 : Nat) : Obj := ⟨(.type "tuple"), none, (.seq #[(.str x0 x1), (.str x2 x3)] 0), #[]⟩
def s14 (x0 : Str) (x1 : Nat) (x2 : Str) (x3 : Nat) (x5 : Nat) (x6 : Int) (x8 : Int) (x16 : Nat) (x19 : Nat) (x20 : Nat) (x21 : Int) (x26 : Nat) : Obj := ⟨(.type "code"), none, (.fields #[(.str x0 x1), (.str x2 x3), (.str "/claim/cut.py" x5), (.int x6 0), (.int x8 0), (.int 0 0), (.int 0 0), (.int 3 0), (.ref x16), (.bool true), (.int 181 0), (.ref x19), .none, .none, .none, (.ref x20), (.int x21 0), (.int x6 0), (.str "/claim/cut.py" x26)]), #[]⟩
def o13 : OO := fun _ => s2 "<module>" 182 183 184 1 11 12 185 186
def o14 : OO := fun _ => s3 13 3 "__main__" 164
def o3 : OO := fun P => ⟨(.type "dict"), none, (.dict #[E P "__name__" 165 (.str "lidprice.tables" 339), E P "__doc__" 166 .none, E P "__package__" 167 .none, E P "__loader__" 168 (.builtin "__main__.__loader__#opaque"), E P "__spec__" 169 .none, E P "__annotations__" 170 (.ref 6), E P "__builtins__" 171 (.ref 4), E P "__file__" 173 (.str "/claim/cut.py" 172), E P "__cached__" 174 .none, E P "_wall" 193 (.ref 21), E P "LidError" 213 (.ref 31), E P "NoTable" 229 (.ref 44), E P "NoOffers" 245 (.ref 56), E P "NoRule" 261 (.ref 68), E P "is_whole" 272 (.ref 77), E P "common_divisor" 281 (.ref 84), E P "common_multiple" 290 (.ref 91), E P "share" 299 (.ref 98), E P "whole" 306 (.ref 105), E P "minus" 314 (.ref 112), E P "times" 322 (.ref 119), E P "below" 330 (.ref 126), E P "greater" 338 (.ref 133), E P "MOST_ROWS" 342 (.int 8 341), E P "MOST_WORTH" 344 (.int 1000000000 343), E P "MOST_WEIGHT" 346 (.int 1000 345), E P "is_row" 353 (.ref 140)] 27), #[]⟩
def o12_1 : OO := fun _ => ⟨.none, none, (.fields #[(.int 1 0), (.int 0 0), (.ref 20), (.int 5 0), (.int 0 0), (.ref 27), (.int 7 0), (.int 0 0), (.ref 40), (.int 9 0), (.int 0 0), (.ref 52), (.int 11 0), (.int 0 0), (.ref 64), (.int 14 0), (.int 0 0), (.ref 76), (.int 16 0), (.int 0 0), (.ref 83), (.int 22 0), (.int 0 0), (.ref 90), (.int 27 0), (.int 0 0), (.ref 97), (.int 32 0), (.int 0 0), (.ref 104), (.int 34 0), (.int 0 0), (.ref 111), (.int 36 0), (.int 0 0), (.ref 118), (.int 38 0), (.int 0 0), (.ref 125), (.int 40 0), (.int 0 0), (.ref 132), (.int 46 0), (.int 0 0), (.ref 139)]), #[]⟩
def o17 : OO := fun _ => s4 "k" 190
def o19 : OO := fun _ => s5 "_wall" "_wall" (top 0)
def o20 : OO := fun _ => s6 "_wall" 187 "_wall" 188 189 1 1 15 16 17 18 19 191 192
def o21 : OO := fun _ => s7 "_wall" "_wall" (top 0) "__main__" 164 20
def o22 : OO := fun _ => ⟨(.type "tuple"), none, (.seq #[(.type "ValueError")] 0), #[]⟩
def o24 : OO := fun P => s9 P 203 205 "LidError" 204 207 5 206 208 29
def o27 : OO := fun _ => s2 "LidError" 198 199 200 5 25 26 201 202
def o28 : OO := fun _ => s3 27 24 "lidprice.errors" 194
def o30 : OO := fun P => ⟨(.type "dict"), none, (.dict #[E P "__module__" 203 (.str "lidprice.errors" 194), E P "__firstlineno__" 207 (.int 5 206), E P "__static_attributes__" 208 (.ref 29), E P "__weakref__" 210 (.ref 32), E P "__doc__" 211 .none] 3), #[]⟩
def o31 : OO := fun _ => ⟨(.type "type"), none, (.cls ⟨"LidError", [(.type "ValueError")], [(.ref 31), (.type "ValueError"), (.type "Exception"), (.type "BaseException"), (.type "object")], 30, "LidError", true, [], [(.ref 44), (.ref 56), (.ref 68)], false, none, false⟩), #[(some (.ref 22)), none, (some (.str "LidError" 196)), (some (.str "LidError" 204)), (some (.builtin "ValueError.__new__")), (some (.bool true))]⟩
def o32 : OO := fun _ => ⟨(.type "getset_descriptor"), none, (.fields #[(.str "__weakref__" 209), (.ref 31), (.builtin "ExceptionGroup.__weakref__"), .none]), #[]⟩
def o33 : OO := fun _ => s10 31
def o34 : OO := fun _ => s11 31
def o35 : OO := fun _ => ⟨(.type "tuple"), none, (.seq #[(.ref 31)] 0), #[]⟩
def o37 : OO := fun P => s9 P 221 223 "NoTable" 222 225 7 224 226 42
def o40 : OO := fun _ => s2 "NoTable" 216 217 218 7 38 39 219 220
def o41 : OO := fun _ => s3 40 37 "lidprice.errors" 194
def o43 : OO := fun P => ⟨(.type "dict"), none, (.dict #[E P "__module__" 221 (.str "lidprice.errors" 194), E P "__firstlineno__" 225 (.int 7 224), E P "__static_attributes__" 226 (.ref 42), E P "__doc__" 227 .none] 2), #[]⟩
def o44 : OO := fun _ => ⟨(.type "type"), none, (.cls ⟨"NoTable", [(.ref 31)], [(.ref 44), (.ref 31), (.type "ValueError"), (.type "Exception"), (.type "BaseException"), (.type "object")], 43, "NoTable", true, [], [], false, none, false⟩), #[(some (.ref 35)), none, (some (.str "NoTable" 214)), (some (.str "NoTable" 222)), (some (.builtin "ValueError.__new__")), (some (.bool true))]⟩
def o45 : OO := fun _ => s10 44
def o46 : OO := fun _ => s11 44
def o47 : OO := fun _ => ⟨(.type "tuple"), none, (.seq #[(.ref 31)] 0), #[]⟩
def o49 : OO := fun P => s9 P 237 239 "NoOffers" 238 241 9 240 242 54
def o52 : OO := fun _ => s2 "NoOffers" 232 233 234 9 50 51 235 236
def o53 : OO := fun _ => s3 52 49 "lidprice.errors" 194
def o55 : OO := fun P => ⟨(.type "dict"), none, (.dict #[E P "__module__" 237 (.str "lidprice.errors" 194), E P "__firstlineno__" 241 (.int 9 240), E P "__static_attributes__" 242 (.ref 54), E P "__doc__" 243 .none] 2), #[]⟩
def o56 : OO := fun _ => ⟨(.type "type"), none, (.cls ⟨"NoOffers", [(.ref 31)], [(.ref 56), (.ref 31), (.type "ValueError"), (.type "Exception"), (.type "BaseException"), (.type "object")], 55, "NoOffers", true, [], [], false, none, false⟩), #[(some (.ref 47)), none, (some (.str "NoOffers" 230)), (some (.str "NoOffers" 238)), (some (.builtin "ValueError.__new__")), (some (.bool true))]⟩
def o57 : OO := fun _ => s10 56
def o58 : OO := fun _ => s11 56
def o59 : OO := fun _ => ⟨(.type "tuple"), none, (.seq #[(.ref 31)] 0), #[]⟩
def o61 : OO := fun P => s9 P 253 255 "NoRule" 254 257 11 256 258 66
def o64 : OO := fun _ => s2 "NoRule" 248 249 250 11 62 63 251 252
def o65 : OO := fun _ => s3 64 61 "lidprice.errors" 194
def o67 : OO := fun P => ⟨(.type "dict"), none, (.dict #[E P "__module__" 253 (.str "lidprice.errors" 194), E P "__firstlineno__" 257 (.int 11 256), E P "__static_attributes__" 258 (.ref 66), E P "__doc__" 259 .none] 2), #[]⟩
def o68 : OO := fun _ => ⟨(.type "type"), none, (.cls ⟨"NoRule", [(.ref 31)], [(.ref 68), (.ref 31), (.type "ValueError"), (.type "Exception"), (.type "BaseException"), (.type "object")], 67, "NoRule", true, [], [], false, none, false⟩), #[(some (.ref 59)), none, (some (.str "NoRule" 246)), (some (.str "NoRule" 254)), (some (.builtin "ValueError.__new__")), (some (.bool true))]⟩
def o69 : OO := fun _ => s10 68
def o70 : OO := fun _ => s11 68
def o73 : OO := fun _ => s12 "thing" 267 "least" 268 "most" 269
def o75 : OO := fun _ => s5 "is_whole" "is_whole" (top 7)
def o76 : OO := fun _ => s6 "is_whole" 264 "is_whole" 265 266 14 3 71 72 73 74 75 270 271
def o77 : OO := fun _ => s7 "is_whole" "is_whole" (top 7) "lidprice.shares" 262 76
def o80 : OO := fun _ => s12 "one" 276 "other" 277 "rest" 278
def o82 : OO := fun _ => s5 "common_divisor" "common_divisor" (top 8)
def o83 : OO := fun _ => s6 "common_divisor" 273 "common_divisor" 274 275 16 2 78 79 80 81 82 279 280
def o84 : OO := fun _ => s7 "common_divisor" "common_divisor" (top 8) "lidprice.shares" 262 83
def o87 : OO := fun _ => s12 "numbers" 285 "multiple" 286 "number" 287
def o89 : OO := fun _ => s5 "common_multiple" "common_multiple" (top 9)
def o90 : OO := fun _ => s6 "common_multiple" 282 "common_multiple" 283 284 22 1 85 86 87 88 89 288 289
def o91 : OO := fun _ => s7 "common_multiple" "common_multiple" (top 9) "lidprice.shares" 262 90
def o94 : OO := fun _ => s12 "top" 294 "bottom" 295 "divisor" 296
def o96 : OO := fun _ => s5 "share" "share" (top 10)
def o97 : OO := fun _ => s6 "share" 291 "share" 292 293 27 2 92 93 94 95 96 297 298
def o98 : OO := fun _ => s7 "share" "share" (top 10) "lidprice.shares" 262 97
def o101 : OO := fun _ => s4 "number" 303
def o103 : OO := fun _ => s5 "whole" "whole" (top 11)
def o104 : OO := fun _ => s6 "whole" 300 "whole" 301 302 32 1 99 100 101 102 103 304 305
def o105 : OO := fun _ => s7 "whole" "whole" (top 11) "lidprice.shares" 262 104
def o108 : OO := fun _ => s13 "one" 310 "other" 311
def o110 : OO := fun _ => s5 "minus" "minus" (top 12)
def o111 : OO := fun _ => s6 "minus" 307 "minus" 308 309 34 2 106 107 108 109 110 312 313
def o112 : OO := fun _ => s7 "minus" "minus" (top 12) "lidprice.shares" 262 111
def o115 : OO := fun _ => s13 "one" 318 "other" 319
def o117 : OO := fun _ => s5 "times" "times" (top 13)
def o118 : OO := fun _ => s6 "times" 315 "times" 316 317 36 2 113 114 115 116 117 320 321
def o119 : OO := fun _ => s7 "times" "times" (top 13) "lidprice.shares" 262 118
def o122 : OO := fun _ => s13 "one" 326 "other" 327
def o124 : OO := fun _ => s5 "below" "below" (top 14)
def o125 : OO := fun _ => s6 "below" 323 "below" 324 325 38 2 120 121 122 123 124 328 329
def o126 : OO := fun _ => s7 "below" "below" (top 14) "lidprice.shares" 262 125
def o129 : OO := fun _ => s13 "one" 334 "other" 335
def o131 : OO := fun _ => s5 "greater" "greater" (top 15)
def o132 : OO := fun _ => s6 "greater" 331 "greater" 332 333 40 2 127 128 129 130 131 336 337
def o133 : OO := fun _ => s7 "greater" "greater" (top 15) "lidprice.shares" 262 132
def o136 : OO := fun _ => s4 "row" 350
def o138 : OO := fun _ => s5 "is_row" "is_row" (top 20)
def o139 : OO := fun _ => s6 "is_row" 347 "is_row" 348 349 46 1 134 135 136 137 138 351 352
def o140 : OO := fun _ => s7 "is_row" "is_row" (top 20) "lidprice.tables" 339 139
def o3_1 : OO := fun P => ⟨(.type "dict"), none, (.dict #[E P "__name__" 165 (.str "law_lidprice_k76_whole_any_rule_and_its_loss" 530), E P "__doc__" 166 .none, E P "__package__" 167 .none, E P "__loader__" 168 (.builtin "__main__.__loader__#opaque"), E P "__spec__" 169 .none, E P "__annotations__" 170 (.ref 6), E P "__builtins__" 171 (.ref 4), E P "__file__" 173 (.str "/claim/cut.py" 172), E P "__cached__" 174 .none, E P "_wall" 193 (.ref 21), E P "LidError" 213 (.ref 31), E P "NoTable" 229 (.ref 44), E P "NoOffers" 245 (.ref 56), E P "NoRule" 261 (.ref 68), E P "is_whole" 272 (.ref 77), E P "common_divisor" 281 (.ref 84), E P "common_multiple" 290 (.ref 91), E P "share" 299 (.ref 98), E P "whole" 306 (.ref 105), E P "minus" 314 (.ref 112), E P "times" 322 (.ref 119), E P "below" 330 (.ref 126), E P "greater" 338 (.ref 133), E P "MOST_ROWS" 342 (.int 8 341), E P "MOST_WORTH" 344 (.int 1000000000 343), E P "MOST_WEIGHT" 346 (.int 1000 345), E P "is_row" 353 (.ref 140), E P "is_rows" 359 (.ref 145), E P "rising" 365 (.ref 150), E P "in_form" 371 (.ref 155), E P "table_of" 377 (.ref 160), E P "all_weights" 383 (.ref 165), E P "by_weights" 389 (.ref 170), E P "MOST_OFFERS" 393 (.int 8 392), E P "is_lists" 399 (.ref 175), E P "is_truths" 405 (.ref 180), E P "is_rule" 411 (.ref 185), E P "share_of_some" 417 (.ref 190), E P "moment_loss" 423 (.ref 195), E P "Offers" 529 (.ref 276), E P "_law_cell" 539 (.ref 287), E P "_law_mix" 548 (.ref 294), E P "_law_common" 557 (.ref 301), E P "_law_whole" 564 (.ref 308), E P "_law_lists" 581 (.ref 315), E P "_law_rows" 587 (.ref 320), E P "_law_lowest" 596 (.ref 327), E P "_law_added" 604 (.ref 334), E P "_law_less" 612 (.ref 341), E P "_law_same" 620 (.ref 348), E P "_law_on" 634 (.ref 355), E P "_law_rule" 640 (.ref 360)] 52), #[]⟩
def o12_2 : OO := fun _ => ⟨.none, none, (.fields #[(.int 1 0), (.int 0 0), (.ref 20), (.int 5 0), (.int 0 0), (.ref 27), (.int 7 0), (.int 0 0), (.ref 40), (.int 9 0), (.int 0 0), (.ref 52), (.int 11 0), (.int 0 0), (.ref 64), (.int 14 0), (.int 0 0), (.ref 76), (.int 16 0), (.int 0 0), (.ref 83), (.int 22 0), (.int 0 0), (.ref 90), (.int 27 0), (.int 0 0), (.ref 97), (.int 32 0), (.int 0 0), (.ref 104), (.int 34 0), (.int 0 0), (.ref 111), (.int 36 0), (.int 0 0), (.ref 118), (.int 38 0), (.int 0 0), (.ref 125), (.int 40 0), (.int 0 0), (.ref 132), (.int 46 0), (.int 0 0), (.ref 139), (.int 50 0), (.int 0 0), (.ref 144), (.int 54 0), (.int 0 0), (.ref 149), (.int 58 0), (.int 0 0), (.ref 154), (.int 66 0), (.int 0 0), (.ref 159), (.int 70 0), (.int 0 0), (.ref 164), (.int 72 0), (.int 0 0), (.ref 169), (.int 78 0), (.int 0 0), (.ref 174), (.int 82 0), (.int 0 0), (.ref 179), (.int 86 0), (.int 0 0), (.ref 184), (.int 90 0), (.int 0 0), (.ref 189), (.int 93 0), (.int 0 0), (.ref 194), (.int 98 0), (.int 0 0), (.ref 201), (.int 147 0), (.int 0 0), (.ref 286), (.int 151 0), (.int 0 0), (.ref 293), (.int 155 0), (.int 0 0), (.ref 300), (.int 163 0), (.int 0 0), (.ref 307), (.int 165 0), (.int 0 0), (.ref 314), (.int 177 0), (.int 0 0), (.ref 319), (.int 185 0), (.int 0 0), (.ref 326), (.int 188 0), (.int 0 0), (.ref 333), (.int 190 0), (.int 0 0), (.ref 340), (.int 192 0), (.int 0 0), (.ref 347), (.int 196 0), (.int 0 0), (.ref 354), (.int 207 0), (.int 0 0), (.ref 359)]), #[]⟩
def o143 : OO := fun _ => s5 "is_rows" "is_rows" (top 21)
def o144 : OO := fun _ => s14 "is_rows" 354 "is_rows" 355 356 50 1 141 142 143 357 358
def o145 : OO := fun _ => s7 "is_rows" "is_rows" (top 21) "lidprice.tables" 339 144
def o148 : OO := fun _ => s5 "rising" "rising" (top 22)
def o149 : OO := fun _ => s14 "rising" 360 "rising" 361 362 54 1 146 147 148 363 364
def o150 : OO := fun _ => s7 "rising" "rising" (top 22) "lidprice.tables" 339 149
def o153 : OO := fun _ => s5 "in_form" "in_form" (top 23)
def o154 : OO := fun _ => s14 "in_form" 366 "in_form" 367 368 58 1 151 152 153 369 370
def o155 : OO := fun _ => s7 "in_form" "in_form" (top 23) "lidprice.tables" 339 154
def o158 : OO := fun _ => s5 "table_of" "table_of" (top 24)
def o159 : OO := fun _ => s14 "table_of" 372 "table_of" 373 374 66 1 156 157 158 375 376
def o160 : OO := fun _ => s7 "table_of" "table_of" (top 24) "lidprice.tables" 339 159
def o163 : OO := fun _ => s5 "all_weights" "all_weights" (top 25)
def o164 : OO := fun _ => s14 "all_weights" 378 "all_weights" 379 380 70 1 161 162 163 381 382
def o165 : OO := fun _ => s7 "all_weights" "all_weights" (top 25) "lidprice.tables" 339 164
def o168 : OO := fun _ => s5 "by_weights" "by_weights" (top 26)
def o169 : OO := fun _ => s14 "by_weights" 384 "by_weights" 385 386 72 2 166 167 168 387 388
def o170 : OO := fun _ => s7 "by_weights" "by_weights" (top 26) "lidprice.tables" 339 169
def o173 : OO := fun _ => s5 "is_lists" "is_lists" (top 29)
def o174 : OO := fun _ => s14 "is_lists" 394 "is_lists" 395 396 78 1 171 172 173 397 398
def o175 : OO := fun _ => s7 "is_lists" "is_lists" (top 29) "lidprice.offers" 390 174
def o178 : OO := fun _ => s5 "is_truths" "is_truths" (top 30)
def o179 : OO := fun _ => s14 "is_truths" 400 "is_truths" 401 402 82 2 176 177 178 403 404
def o180 : OO := fun _ => s7 "is_truths" "is_truths" (top 30) "lidprice.offers" 390 179
def o183 : OO := fun _ => s5 "is_rule" "is_rule" (top 31)
def o184 : OO := fun _ => s14 "is_rule" 406 "is_rule" 407 408 86 2 181 182 183 409 410
def o185 : OO := fun _ => s7 "is_rule" "is_rule" (top 31) "lidprice.offers" 390 184
def o188 : OO := fun _ => s5 "share_of_some" "share_of_some" (top 32)
def o189 : OO := fun _ => s14 "share_of_some" 412 "share_of_some" 413 414 90 2 186 187 188 415 416
def o190 : OO := fun _ => s7 "share_of_some" "share_of_some" (top 32) "lidprice.offers" 390 189
def o193 : OO := fun _ => s5 "moment_loss" "moment_loss" (top 33)
def o194 : OO := fun _ => s14 "moment_loss" 418 "moment_loss" 419 420 93 3 191 192 193 421 422
def o195 : OO := fun _ => s7 "moment_loss" "moment_loss" (top 33) "lidprice.offers" 390 194
def o198 : OO := fun P => ⟨(.type "dict"), none, (.dict #[E P "__module__" 431 (.str "lidprice.offers" 390), E P "__qualname__" 433 (.str "Offers" 432), E P "__firstlineno__" 435 (.int 98 434), E P "__init__" 441 (.ref 207), E P "tables" 447 (.ref 212), E P "top_mean" 454 (.ref 219), E P "half" 461 (.ref 226), E P "first_taken" 470 (.ref 233), E P "least_taken" 478 (.ref 240), E P "half_paper" 485 (.ref 247), E P "worths_on" 491 (.ref 252), E P "need_rule" 499 (.ref 259), E P "taken_by" 507 (.ref 266), E P "rule_losses" 520 (.ref 273), E P "__static_attributes__" 522 (.ref 274)] 15), #[]⟩
def o200 : OO := fun _ => ⟨.none, none, (.fields #[(.int 100 0), (.int 4 0), (.ref 206), (.int 105 0), (.int 4 0), (.ref 211), (.int 108 0), (.int 4 0), (.ref 218), (.int 111 0), (.int 4 0), (.ref 225), (.int 114 0), (.int 4 0), (.ref 232), (.int 117 0), (.int 4 0), (.ref 239), (.int 120 0), (.int 4 0), (.ref 246), (.int 123 0), (.int 4 0), (.ref 251), (.int 130 0), (.int 4 0), (.ref 258), (.int 134 0), (.int 4 0), (.ref 265), (.int 137 0), (.int 4 0), (.ref 272)]), #[]⟩
def o201 : OO := fun _ => s2 "Offers" 426 427 428 98 199 200 429 430
def o202 : OO := fun _ => s3 201 198 "lidprice.offers" 390
def o205 : OO := fun _ => s5 "__init__" "Offers.__init__" (inClass (top 34) 0)
def o206 : OO := fun _ => s14 "__init__" 436 "Offers.__init__" 437 438 100 2 203 204 205 439 440
def o207 : OO := fun _ => s7 "__init__" "Offers.__init__" (inClass (top 34) 0) "lidprice.offers" 390 206
def o210 : OO := fun _ => s5 "tables" "Offers.tables" (inClass (top 34) 1)
def o211 : OO := fun _ => s14 "tables" 442 "Offers.tables" 443 444 105 1 208 209 210 445 446
def o212 : OO := fun _ => s7 "tables" "Offers.tables" (inClass (top 34) 1) "lidprice.offers" 390 211
def o215 : OO := fun _ => s4 "self" 451
def o217 : OO := fun _ => s5 "top_mean" "Offers.top_mean" (inClass (top 34) 2)
def o218 : OO := fun _ => s6 "top_mean" 448 "Offers.top_mean" 449 450 108 1 213 214 215 216 217 452 453
def o219 : OO := fun _ => s7 "top_mean" "Offers.top_mean" (inClass (top 34) 2) "lidprice.offers" 390 218
def o222 : OO := fun _ => s4 "self" 458
def o224 : OO := fun _ => s5 "half" "Offers.half" (inClass (top 34) 3)
def o225 : OO := fun _ => s6 "half" 455 "Offers.half" 456 457 111 1 220 221 222 223 224 459 460
def o226 : OO := fun _ => s7 "half" "Offers.half" (inClass (top 34) 3) "lidprice.offers" 390 225
def o229 : OO := fun _ => s12 "self" 465 "order" 466 "level" 467
def o231 : OO := fun _ => s5 "first_taken" "Offers.first_taken" (inClass (top 34) 4)
def o232 : OO := fun _ => s6 "first_taken" 462 "Offers.first_taken" 463 464 114 3 227 228 229 230 231 468 469
def o233 : OO := fun _ => s7 "first_taken" "Offers.first_taken" (inClass (top 34) 4) "lidprice.offers" 390 232
def o236 : OO := fun _ => s13 "self" 474 "level" 475
def o238 : OO := fun _ => s5 "least_taken" "Offers.least_taken" (inClass (top 34) 5)
def o239 : OO := fun _ => s6 "least_taken" 471 "Offers.least_taken" 472 473 117 2 234 235 236 237 238 476 477
def o240 : OO := fun _ => s7 "least_taken" "Offers.least_taken" (inClass (top 34) 5) "lidprice.offers" 390 239
def o243 : OO := fun _ => s4 "self" 482
def o245 : OO := fun _ => s5 "half_paper" "Offers.half_paper" (inClass (top 34) 6)
def o246 : OO := fun _ => s6 "half_paper" 479 "Offers.half_paper" 480 481 120 1 241 242 243 244 245 483 484
def o247 : OO := fun _ => s7 "half_paper" "Offers.half_paper" (inClass (top 34) 6) "lidprice.offers" 390 246
def o250 : OO := fun _ => s5 "worths_on" "Offers.worths_on" (inClass (top 34) 7)
def o251 : OO := fun _ => s14 "worths_on" 486 "Offers.worths_on" 487 488 123 1 248 249 250 489 490
def o252 : OO := fun _ => s7 "worths_on" "Offers.worths_on" (inClass (top 34) 7) "lidprice.offers" 390 251
def o255 : OO := fun _ => s13 "self" 495 "rule" 496
def o257 : OO := fun _ => s5 "need_rule" "Offers.need_rule" (inClass (top 34) 8)
def o258 : OO := fun _ => s6 "need_rule" 492 "Offers.need_rule" 493 494 130 2 253 254 255 256 257 497 498
def o259 : OO := fun _ => s7 "need_rule" "Offers.need_rule" (inClass (top 34) 8) "lidprice.offers" 390 258
def o262 : OO := fun _ => s13 "self" 503 "rule" 504
def o264 : OO := fun _ => s5 "taken_by" "Offers.taken_by" (inClass (top 34) 9)
def o265 : OO := fun _ => s6 "taken_by" 500 "Offers.taken_by" 501 502 134 2 260 261 262 263 264 505 506
def o266 : OO := fun _ => s7 "taken_by" "Offers.taken_by" (inClass (top 34) 9) "lidprice.offers" 390 265
def o269 : OO := fun _ => ⟨(.type "tuple"), none, (.seq #[(.str "self" 511), (.str "rule" 512), (.str "worths" 513), (.str "reached" 514), (.str "found" 515), (.str "offer" 516), (.str "table" 517)] 0), #[]⟩
def o271 : OO := fun _ => s5 "rule_losses" "Offers.rule_losses" (inClass (top 34) 10)
def o272 : OO := fun _ => s6 "rule_losses" 508 "Offers.rule_losses" 509 510 137 2 267 268 269 270 271 518 519
def o273 : OO := fun _ => s7 "rule_losses" "Offers.rule_losses" (inClass (top 34) 10) "lidprice.offers" 390 272
def o274 : OO := fun _ => s4 "kinds" 521
def o275 : OO := fun P => ⟨(.type "dict"), none, (.dict #[E P "__module__" 431 (.str "lidprice.offers" 390), E P "__firstlineno__" 435 (.int 98 434), E P "__init__" 441 (.ref 207), E P "tables" 447 (.ref 212), E P "top_mean" 454 (.ref 219), E P "half" 461 (.ref 226), E P "first_taken" 470 (.ref 233), E P "least_taken" 478 (.ref 240), E P "half_paper" 485 (.ref 247), E P "worths_on" 491 (.ref 252), E P "need_rule" 499 (.ref 259), E P "taken_by" 507 (.ref 266), E P "rule_losses" 520 (.ref 273), E P "__static_attributes__" 522 (.ref 274), E P "__dict__" 524 (.ref 277), E P "__weakref__" 526 (.ref 278), E P "__doc__" 527 .none] 4), #[]⟩
def o276 : OO := fun _ => ⟨(.type "type"), none, (.cls ⟨"Offers", [(.type "object")], [(.ref 276), (.type "object")], 275, "Offers", true, [], [], false, none, false⟩), #[none, none, (some (.str "Offers" 424)), (some (.str "Offers" 432)), (some (.builtin "object.__new__")), (some (.bool true))]⟩
def o277 : OO := fun _ => ⟨(.type "getset_descriptor"), none, (.fields #[(.str "__dict__" 523), (.ref 276), (.builtin "function.__dict__"), (.builtin "function.__dict__#set")]), #[]⟩
def o278 : OO := fun _ => ⟨(.type "getset_descriptor"), none, (.fields #[(.str "__weakref__" 525), (.ref 276), (.builtin "ExceptionGroup.__weakref__"), .none]), #[]⟩
def o279 : OO := fun _ => s10 276
def o280 : OO := fun _ => s11 276
def o283 : OO := fun _ => s13 "_law_script" 535 "_law_k" 536
def o285 : OO := fun _ => s5 "_law_cell" "_law_cell" (top 36)
def o286 : OO := fun _ => s6 "_law_cell" 532 "_law_cell" 533 534 147 2 281 282 283 284 285 537 538
def o287 : OO := fun _ => s7 "_law_cell" "_law_cell" (top 36) "law_lidprice_k76_whole_any_rule_and_its_loss" 530 286
def o290 : OO := fun _ => s12 "_law_cell_here" 543 "_law_k" 544 "_law_number" 545
def o292 : OO := fun _ => s5 "_law_mix" "_law_mix" (top 37)
def o293 : OO := fun _ => s6 "_law_mix" 540 "_law_mix" 541 542 151 2 288 289 290 291 292 546 547
def o294 : OO := fun _ => s7 "_law_mix" "_law_mix" (top 37) "law_lidprice_k76_whole_any_rule_and_its_loss" 530 293
def o297 : OO := fun _ => s12 "_law_one" 552 "_law_other" 553 "_law_rest" 554
def o299 : OO := fun _ => s5 "_law_common" "_law_common" (top 38)
def o300 : OO := fun _ => s6 "_law_common" 549 "_law_common" 550 551 155 2 295 296 297 298 299 555 556
def o301 : OO := fun _ => s7 "_law_common" "_law_common" (top 38) "law_lidprice_k76_whole_any_rule_and_its_loss" 530 300
def o304 : OO := fun _ => s4 "_law_found" 561
def o306 : OO := fun _ => s5 "_law_whole" "_law_whole" (top 39)
def o307 : OO := fun _ => s6 "_law_whole" 558 "_law_whole" 559 560 163 1 302 303 304 305 306 562 563
def o308 : OO := fun _ => s7 "_law_whole" "_law_whole" (top 39) "law_lidprice_k76_whole_any_rule_and_its_loss" 530 307
def o311 : OO := fun _ => ⟨(.type "tuple"), none, (.seq #[(.str "_law_script" 568), (.str "_law_most" 569), (.str "_law_wide" 570), (.str "_law_lists_here" 571), (.str "_law_k" 572), (.str "_law_cell_here" 573), (.str "_law_rows_here" 574), (.str "_law_j" 575), (.str "_law_number" 576), (.str "_law_value" 577), (.str "_law_weight" 578)] 0), #[]⟩
def o313 : OO := fun _ => s5 "_law_lists" "_law_lists" (top 40)
def o314 : OO := fun _ => s6 "_law_lists" 565 "_law_lists" 566 567 165 3 309 310 311 312 313 579 580
def o315 : OO := fun _ => s7 "_law_lists" "_law_lists" (top 40) "law_lidprice_k76_whole_any_rule_and_its_loss" 530 314
def o318 : OO := fun _ => s5 "_law_rows" "_law_rows" (top 41)
def o319 : OO := fun _ => s14 "_law_rows" 582 "_law_rows" 583 584 177 1 316 317 318 585 586
def o320 : OO := fun _ => s7 "_law_rows" "_law_rows" (top 41) "law_lidprice_k76_whole_any_rule_and_its_loss" 530 319
def o323 : OO := fun _ => s12 "_law_top" 591 "_law_bottom" 592 "_law_by" 593
def o325 : OO := fun _ => s5 "_law_lowest" "_law_lowest" (top 42)
def o326 : OO := fun _ => s6 "_law_lowest" 588 "_law_lowest" 589 590 185 2 321 322 323 324 325 594 595
def o327 : OO := fun _ => s7 "_law_lowest" "_law_lowest" (top 42) "law_lidprice_k76_whole_any_rule_and_its_loss" 530 326
def o330 : OO := fun _ => s13 "_law_one" 600 "_law_other" 601
def o332 : OO := fun _ => s5 "_law_added" "_law_added" (top 43)
def o333 : OO := fun _ => s6 "_law_added" 597 "_law_added" 598 599 188 2 328 329 330 331 332 602 603
def o334 : OO := fun _ => s7 "_law_added" "_law_added" (top 43) "law_lidprice_k76_whole_any_rule_and_its_loss" 530 333
def o337 : OO := fun _ => s13 "_law_one" 608 "_law_other" 609
def o339 : OO := fun _ => s5 "_law_less" "_law_less" (top 44)
def o340 : OO := fun _ => s6 "_law_less" 605 "_law_less" 606 607 190 2 335 336 337 338 339 610 611
def o341 : OO := fun _ => s7 "_law_less" "_law_less" (top 44) "law_lidprice_k76_whole_any_rule_and_its_loss" 530 340
def o344 : OO := fun _ => s13 "_law_found" 616 "_law_due" 617
def o346 : OO := fun _ => s5 "_law_same" "_law_same" (top 45)
def o347 : OO := fun _ => s6 "_law_same" 613 "_law_same" 614 615 192 2 342 343 344 345 346 618 619
def o348 : OO := fun _ => s7 "_law_same" "_law_same" (top 45) "law_lidprice_k76_whole_any_rule_and_its_loss" 530 347
def o351 : OO := fun _ => ⟨(.type "tuple"), none, (.seq #[(.str "_law_tables" 624), (.str "_law_found" 625), (.str "_law_table" 626), (.str "_law_on_here" 627), (.str "_law_top" 628), (.str "_law_total" 629), (.str "_law_value" 630), (.str "_law_weight" 631)] 0), #[]⟩
def o353 : OO := fun _ => s5 "_law_on" "_law_on" (top 46)
def o354 : OO := fun _ => s6 "_law_on" 621 "_law_on" 622 623 196 1 349 350 351 352 353 632 633
def o355 : OO := fun _ => s7 "_law_on" "_law_on" (top 46) "law_lidprice_k76_whole_any_rule_and_its_loss" 530 354
def o358 : OO := fun _ => s5 "_law_rule" "_law_rule" (top 47)
def o359 : OO := fun _ => s14 "_law_rule" 635 "_law_rule" 636 637 207 3 356 357 358 638 639
def o360 : OO := fun _ => s7 "_law_rule" "_law_rule" (top 47) "law_lidprice_k76_whole_any_rule_and_its_loss" 530 359
def o3_2 : OO := fun P => ⟨(.type "dict"), none, (.dict #[E P "__name__" 165 (.str "law_lidprice_k76_whole_any_rule_and_its_loss" 530), E P "__doc__" 166 .none, E P "__package__" 167 .none, E P "__loader__" 168 (.builtin "__main__.__loader__#opaque"), E P "__spec__" 169 .none, E P "__annotations__" 170 (.ref 6), E P "__builtins__" 171 (.ref 4), E P "__file__" 173 (.str "/claim/cut.py" 172), E P "__cached__" 174 .none, E P "_wall" 193 (.ref 21), E P "LidError" 213 (.ref 31), E P "NoTable" 229 (.ref 44), E P "NoOffers" 245 (.ref 56), E P "NoRule" 261 (.ref 68), E P "is_whole" 272 (.ref 77), E P "common_divisor" 281 (.ref 84), E P "common_multiple" 290 (.ref 91), E P "share" 299 (.ref 98), E P "whole" 306 (.ref 105), E P "minus" 314 (.ref 112), E P "times" 322 (.ref 119), E P "below" 330 (.ref 126), E P "greater" 338 (.ref 133), E P "MOST_ROWS" 342 (.int 8 341), E P "MOST_WORTH" 344 (.int 1000000000 343), E P "MOST_WEIGHT" 346 (.int 1000 345), E P "is_row" 353 (.ref 140), E P "is_rows" 359 (.ref 145), E P "rising" 365 (.ref 150), E P "in_form" 371 (.ref 155), E P "table_of" 377 (.ref 160), E P "all_weights" 383 (.ref 165), E P "by_weights" 389 (.ref 170), E P "MOST_OFFERS" 393 (.int 8 392), E P "is_lists" 399 (.ref 175), E P "is_truths" 405 (.ref 180), E P "is_rule" 411 (.ref 185), E P "share_of_some" 417 (.ref 190), E P "moment_loss" 423 (.ref 195), E P "Offers" 529 (.ref 276), E P "_law_cell" 539 (.ref 287), E P "_law_mix" 548 (.ref 294), E P "_law_common" 557 (.ref 301), E P "_law_whole" 564 (.ref 308), E P "_law_lists" 581 (.ref 315), E P "_law_rows" 587 (.ref 320), E P "_law_lowest" 596 (.ref 327), E P "_law_added" 604 (.ref 334), E P "_law_less" 612 (.ref 341), E P "_law_same" 620 (.ref 348), E P "_law_on" 634 (.ref 355), E P "_law_rule" 640 (.ref 360), E P "_law_loss" 654 (.ref 367), E P "_law_walked" 660 (.ref 372), E P "law" 666 (.ref 377)] 55), #[]⟩
def o12_3 : OO := fun _ => ⟨.none, none, (.fields #[(.int 1 0), (.int 0 0), (.ref 20), (.int 5 0), (.int 0 0), (.ref 27), (.int 7 0), (.int 0 0), (.ref 40), (.int 9 0), (.int 0 0), (.ref 52), (.int 11 0), (.int 0 0), (.ref 64), (.int 14 0), (.int 0 0), (.ref 76), (.int 16 0), (.int 0 0), (.ref 83), (.int 22 0), (.int 0 0), (.ref 90), (.int 27 0), (.int 0 0), (.ref 97), (.int 32 0), (.int 0 0), (.ref 104), (.int 34 0), (.int 0 0), (.ref 111), (.int 36 0), (.int 0 0), (.ref 118), (.int 38 0), (.int 0 0), (.ref 125), (.int 40 0), (.int 0 0), (.ref 132), (.int 46 0), (.int 0 0), (.ref 139), (.int 50 0), (.int 0 0), (.ref 144), (.int 54 0), (.int 0 0), (.ref 149), (.int 58 0), (.int 0 0), (.ref 154), (.int 66 0), (.int 0 0), (.ref 159), (.int 70 0), (.int 0 0), (.ref 164), (.int 72 0), (.int 0 0), (.ref 169), (.int 78 0), (.int 0 0), (.ref 174), (.int 82 0), (.int 0 0), (.ref 179), (.int 86 0), (.int 0 0), (.ref 184), (.int 90 0), (.int 0 0), (.ref 189), (.int 93 0), (.int 0 0), (.ref 194), (.int 98 0), (.int 0 0), (.ref 201), (.int 147 0), (.int 0 0), (.ref 286), (.int 151 0), (.int 0 0), (.ref 293), (.int 155 0), (.int 0 0), (.ref 300), (.int 163 0), (.int 0 0), (.ref 307), (.int 165 0), (.int 0 0), (.ref 314), (.int 177 0), (.int 0 0), (.ref 319), (.int 185 0), (.int 0 0), (.ref 326), (.int 188 0), (.int 0 0), (.ref 333), (.int 190 0), (.int 0 0), (.ref 340), (.int 192 0), (.int 0 0), (.ref 347), (.int 196 0), (.int 0 0), (.ref 354), (.int 207 0), (.int 0 0), (.ref 359), (.int 218 0), (.int 0 0), (.ref 366), (.int 226 0), (.int 0 0), (.ref 371), (.int 243 0), (.int 0 0), (.ref 376)]), #[]⟩
def o363 : OO := fun _ => ⟨(.type "tuple"), none, (.seq #[(.str "_law_table" 644), (.str "_law_truths" 645), (.str "_law_on_here" 646), (.str "_law_top" 647), (.str "_law_total" 648), (.str "_law_pair" 649), (.str "_law_yes" 650), (.str "_law_had" 651)] 0), #[]⟩
def o365 : OO := fun _ => s5 "_law_loss" "_law_loss" (top 48)
def o366 : OO := fun _ => s6 "_law_loss" 641 "_law_loss" 642 643 218 3 361 362 363 364 365 652 653
def o367 : OO := fun _ => s7 "_law_loss" "_law_loss" (top 48) "law_lidprice_k76_whole_any_rule_and_its_loss" 530 366
def o370 : OO := fun _ => s5 "_law_walked" "_law_walked" (top 49)
def o371 : OO := fun _ => s14 "_law_walked" 655 "_law_walked" 656 657 226 4 368 369 370 658 659
def o372 : OO := fun _ => s7 "_law_walked" "_law_walked" (top 49) "law_lidprice_k76_whole_any_rule_and_its_loss" 530 371
def o375 : OO := fun _ => s5 "law" "law" (top 50)
def o376 : OO := fun _ => s14 "law" 661 "law" 662 663 243 1 373 374 375 664 665
def o377 : OO := fun _ => s7 "law" "law" (top 50) "law_lidprice_k76_whole_any_rule_and_its_loss" 530 376
def t0 (P : Params) : W.BT := (.node (W.boot_o_0 P) (.node (W.boot_o_1 P) (.node (W.boot_o_3 P) (.node (W.boot_o_7 P) .nil .nil) (.node s0 .nil .nil)) (.node (W.boot_o_5 P) (.node (W.boot_o_9 P) .nil .nil) (.node (o13 P) .nil .nil))) (.node (W.boot_o_2 P) (.node (W.boot_o_4 P) (.node (W.boot_o_8 P) .nil .nil) (.node s1 .nil .nil)) (.node (W.boot_o_6 P) (.node (W.boot_o_10 P) .nil .nil) (.node (o14 P) .nil .nil))))
def t1 (P : Params) : W.BT := (.node (W.boot_o_0 P) (.node (W.boot_o_1 P) (.node (o3 P) (.node (W.boot_o_7 P) (.node s0 (.node (o31 P) (.node s1 (.node s0 .nil .nil) .nil) (.node s0 .nil .nil)) (.node (o47 P) (.node s1 .nil .nil) (.node (o111 P) .nil .nil))) (.node s8 (.node s1 (.node s0 (.node s1 .nil .nil) .nil) (.node (o103 P) .nil .nil)) (.node (o55 P) (.node (o87 P) .nil .nil) (.node (o119 P) .nil .nil)))) (.node s0 (.node (o19 P) (.node (o35 P) (.node (o67 P) (.node (o131 P) .nil .nil) .nil) (.node s0 .nil .nil)) (.node s1 (.node (o83 P) .nil .nil) (.node (o115 P) .nil .nil))) (.node (o27 P) (.node (o43 P) (.node (o75 P) (.node (o139 P) .nil .nil) .nil) (.node s1 .nil .nil)) (.node (o59 P) (.node (o91 P) .nil .nil) (.node s0 .nil .nil))))) (.node (W.boot_o_5 P) (.node (W.boot_o_9 P) (.node (o17 P) (.node (o33 P) (.node (o65 P) (.node (o129 P) .nil .nil) .nil) (.node (o97 P) .nil .nil)) (.node (o49 P) (.node s0 .nil .nil) (.node s0 .nil .nil))) (.node s0 (.node (o41 P) (.node (o73 P) (.node s0 .nil .nil) .nil) (.node (o105 P) .nil .nil)) (.node (o57 P) (.node (o89 P) .nil .nil) (.node s1 .nil .nil)))) (.node (o13 P) (.node (o21 P) (.node (o37 P) (.node (o69 P) (.node (o133 P) .nil .nil) .nil) (.node (o101 P) .nil .nil)) (.node (o53 P) (.node s0 .nil .nil) (.node (o117 P) .nil .nil))) (.node s0 (.node (o45 P) (.node (o77 P) .nil .nil) (.node s0 .nil .nil)) (.node (o61 P) (.node s1 .nil .nil) (.node (o125 P) .nil .nil)))))) (.node (W.boot_o_2 P) (.node (W.boot_o_4 P) (.node (W.boot_o_8 P) (.node s1 (.node (o32 P) (.node (o64 P) (.node s1 .nil .nil) .nil) (.node (o96 P) .nil .nil)) (.node s8 (.node (o80 P) .nil .nil) (.node (o112 P) .nil .nil))) (.node (o24 P) (.node (o40 P) (.node s1 (.node (o136 P) .nil .nil) .nil) (.node (o104 P) .nil .nil)) (.node (o56 P) (.node s0 .nil .nil) (.node s0 .nil .nil)))) (.node (o12_1 P) (.node (o20 P) (.node s8 (.node (o68 P) (.node (o132 P) .nil .nil) .nil) (.node s1 .nil .nil)) (.node (o52 P) (.node (o84 P) .nil .nil) (.node s0 .nil .nil))) (.node (o28 P) (.node (o44 P) (.node (o76 P) (.node (o140 P) .nil .nil) .nil) (.node (o108 P) .nil .nil)) (.node s8 (.node s0 .nil .nil) (.node (o124 P) .nil .nil))))) (.node (W.boot_o_6 P) (.node (W.boot_o_10 P) (.node s0 (.node (o34 P) (.node s0 (.node s0 .nil .nil) .nil) (.node (o98 P) .nil .nil)) (.node s0 (.node (o82 P) .nil .nil) (.node s1 .nil .nil))) (.node s1 (.node s0 (.node s0 (.node (o138 P) .nil .nil) .nil) (.node s0 .nil .nil)) (.node (o58 P) (.node (o90 P) .nil .nil) (.node (o122 P) .nil .nil)))) (.node (o14 P) (.node (o22 P) (.node s0 (.node (o70 P) (.node s0 .nil .nil) .nil) (.node s0 .nil .nil)) (.node s0 (.node s1 .nil .nil) (.node (o118 P) .nil .nil))) (.node (o30 P) (.node (o46 P) (.node s0 .nil .nil) (.node (o110 P) .nil .nil)) (.node s0 (.node (o94 P) .nil .nil) (.node (o126 P) .nil .nil)))))))
def t2 (P : Params) : W.BT := (.node (W.boot_o_0 P) (.node (W.boot_o_1 P) (.node (o3_1 P) (.node (W.boot_o_7 P) (.node s0 (.node (o31 P) (.node s1 (.node s0 (.node (o255 P) .nil .nil) .nil) (.node s0 (.node (o319 P) .nil .nil) .nil)) (.node s0 (.node (o159 P) (.node (o287 P) .nil .nil) .nil) (.node s0 (.node (o351 P) .nil .nil) .nil))) (.node (o47 P) (.node s1 (.node (o143 P) (.node (o271 P) .nil .nil) .nil) (.node (o207 P) (.node s0 .nil .nil) .nil)) (.node (o111 P) (.node (o175 P) (.node s1 .nil .nil) .nil) (.node (o239 P) .nil .nil)))) (.node s8 (.node s1 (.node s0 (.node s1 (.node s0 .nil .nil) .nil) (.node s0 (.node (o327 P) .nil .nil) .nil)) (.node (o103 P) (.node s1 (.node s0 .nil .nil) .nil) (.node (o231 P) (.node (o359 P) .nil .nil) .nil))) (.node (o55 P) (.node (o87 P) (.node s0 (.node (o279 P) .nil .nil) .nil) (.node (o215 P) (.node s1 .nil .nil) .nil)) (.node (o119 P) (.node (o183 P) (.node (o311 P) .nil .nil) .nil) (.node (o247 P) .nil .nil))))) (.node s0 (.node (o19 P) (.node (o35 P) (.node (o67 P) (.node (o131 P) (.node (o259 P) .nil .nil) .nil) (.node (o195 P) (.node (o323 P) .nil .nil) .nil)) (.node s0 (.node (o163 P) (.node s0 .nil .nil) .nil) (.node s0 (.node (o355 P) .nil .nil) .nil))) (.node s1 (.node (o83 P) (.node s1 (.node (o275 P) .nil .nil) .nil) (.node (o211 P) (.node (o339 P) .nil .nil) .nil)) (.node (o115 P) (.node (o179 P) (.node (o307 P) .nil .nil) .nil) (.node (o243 P) .nil .nil)))) (.node (o27 P) (.node (o43 P) (.node (o75 P) (.node (o139 P) (.node s0 .nil .nil) .nil) (.node s0 (.node s0 .nil .nil) .nil)) (.node s1 (.node s0 (.node (o299 P) .nil .nil) .nil) (.node s1 .nil .nil))) (.node (o59 P) (.node (o91 P) (.node (o155 P) (.node (o283 P) .nil .nil) .nil) (.node (o219 P) (.node (o347 P) .nil .nil) .nil)) (.node s0 (.node s1 (.node (o315 P) .nil .nil) .nil) (.node (o251 P) .nil .nil)))))) (.node (W.boot_o_5 P) (.node (W.boot_o_9 P) (.node (o17 P) (.node (o33 P) (.node (o65 P) (.node (o129 P) (.node (o257 P) .nil .nil) .nil) (.node (o193 P) (.node s0 .nil .nil) .nil)) (.node (o97 P) (.node s0 (.node s1 .nil .nil) .nil) (.node (o225 P) (.node (o353 P) .nil .nil) .nil))) (.node (o49 P) (.node s0 (.node (o145 P) (.node (o273 P) .nil .nil) .nil) (.node s1 (.node (o337 P) .nil .nil) .nil)) (.node s0 (.node s1 (.node s0 .nil .nil) .nil) (.node s0 .nil .nil)))) (.node s0 (.node (o41 P) (.node (o73 P) (.node s0 (.node (o265 P) .nil .nil) .nil) (.node (o201 P) (.node s1 .nil .nil) .nil)) (.node (o105 P) (.node (o169 P) (.node (o297 P) .nil .nil) .nil) (.node (o233 P) .nil .nil))) (.node (o57 P) (.node (o89 P) (.node (o153 P) (.node s0 .nil .nil) .nil) (.node (o217 P) (.node s0 .nil .nil) .nil)) (.node s1 (.node (o185 P) (.node (o313 P) .nil .nil) .nil) (.node s1 .nil .nil))))) (.node (o13 P) (.node (o21 P) (.node (o37 P) (.node (o69 P) (.node (o133 P) (.node s1 .nil .nil) .nil) (.node s8 (.node (o325 P) .nil .nil) .nil)) (.node (o101 P) (.node (o165 P) (.node (o293 P) .nil .nil) .nil) (.node (o229 P) (.node s1 .nil .nil) .nil))) (.node (o53 P) (.node s0 (.node (o149 P) (.node (o277 P) .nil .nil) .nil) (.node s0 (.node (o341 P) .nil .nil) .nil)) (.node (o117 P) (.node s0 (.node s0 .nil .nil) .nil) (.node (o245 P) .nil .nil)))) (.node s0 (.node (o45 P) (.node (o77 P) (.node s0 (.node (o269 P) .nil .nil) .nil) (.node (o205 P) (.node (o333 P) .nil .nil) .nil)) (.node s0 (.node (o173 P) (.node (o301 P) .nil .nil) .nil) (.node s0 .nil .nil))) (.node (o61 P) (.node s1 (.node s1 (.node (o285 P) .nil .nil) .nil) (.node s1 (.node s0 .nil .nil) .nil)) (.node (o125 P) (.node (o189 P) (.node s1 .nil .nil) .nil) (.node s0 .nil .nil))))))) (.node (W.boot_o_2 P) (.node (W.boot_o_4 P) (.node (W.boot_o_8 P) (.node s1 (.node (o32 P) (.node (o64 P) (.node s1 (.node s0 .nil .nil) .nil) (.node s1 (.node (o320 P) .nil .nil) .nil)) (.node (o96 P) (.node (o160 P) (.node s0 .nil .nil) .nil) (.node (o224 P) (.node s0 .nil .nil) .nil))) (.node s8 (.node (o80 P) (.node (o144 P) (.node (o272 P) .nil .nil) .nil) (.node s0 (.node s1 .nil .nil) .nil)) (.node (o112 P) (.node s0 (.node (o304 P) .nil .nil) .nil) (.node (o240 P) .nil .nil)))) (.node (o24 P) (.node (o40 P) (.node s1 (.node (o136 P) (.node (o264 P) .nil .nil) .nil) (.node (o200 P) (.node s0 .nil .nil) .nil)) (.node (o104 P) (.node (o168 P) (.node s1 .nil .nil) .nil) (.node (o232 P) (.node (o360 P) .nil .nil) .nil))) (.node (o56 P) (.node s0 (.node s1 (.node (o280 P) .nil .nil) .nil) (.node s0 (.node (o344 P) .nil .nil) .nil)) (.node s0 (.node (o184 P) (.node s0 .nil .nil) .nil) (.node s0 .nil .nil))))) (.node (o12_2 P) (.node (o20 P) (.node s8 (.node (o68 P) (.node (o132 P) (.node s0 .nil .nil) .nil) (.node s0 (.node s0 .nil .nil) .nil)) (.node s1 (.node (o164 P) (.node (o292 P) .nil .nil) .nil) (.node s1 (.node s0 .nil .nil) .nil))) (.node (o52 P) (.node (o84 P) (.node (o148 P) (.node (o276 P) .nil .nil) .nil) (.node (o212 P) (.node (o340 P) .nil .nil) .nil)) (.node s0 (.node (o180 P) (.node (o308 P) .nil .nil) .nil) (.node s0 .nil .nil)))) (.node (o28 P) (.node (o44 P) (.node (o76 P) (.node (o140 P) (.node s1 .nil .nil) .nil) (.node s1 (.node (o332 P) .nil .nil) .nil)) (.node (o108 P) (.node s1 (.node (o300 P) .nil .nil) .nil) (.node (o236 P) .nil .nil))) (.node s8 (.node s0 (.node s0 (.node s0 .nil .nil) .nil) (.node s0 (.node (o348 P) .nil .nil) .nil)) (.node (o124 P) (.node (o188 P) (.node s0 .nil .nil) .nil) (.node (o252 P) .nil .nil)))))) (.node (W.boot_o_6 P) (.node (W.boot_o_10 P) (.node s0 (.node (o34 P) (.node s0 (.node s0 (.node (o258 P) .nil .nil) .nil) (.node (o194 P) (.node s1 .nil .nil) .nil)) (.node (o98 P) (.node s1 (.node (o290 P) .nil .nil) .nil) (.node (o226 P) (.node (o354 P) .nil .nil) .nil))) (.node s0 (.node (o82 P) (.node s0 (.node (o274 P) .nil .nil) .nil) (.node (o210 P) (.node s0 .nil .nil) .nil)) (.node s1 (.node (o178 P) (.node (o306 P) .nil .nil) .nil) (.node s1 .nil .nil)))) (.node s1 (.node s0 (.node s0 (.node (o138 P) (.node (o266 P) .nil .nil) .nil) (.node (o202 P) (.node (o330 P) .nil .nil) .nil)) (.node s0 (.node (o170 P) (.node s0 .nil .nil) .nil) (.node s0 .nil .nil))) (.node (o58 P) (.node (o90 P) (.node (o154 P) (.node s1 .nil .nil) .nil) (.node (o218 P) (.node (o346 P) .nil .nil) .nil)) (.node (o122 P) (.node s0 (.node (o314 P) .nil .nil) .nil) (.node (o250 P) .nil .nil))))) (.node (o14 P) (.node (o22 P) (.node s0 (.node (o70 P) (.node s0 (.node (o262 P) .nil .nil) .nil) (.node (o198 P) (.node (o326 P) .nil .nil) .nil)) (.node s0 (.node s0 (.node (o294 P) .nil .nil) .nil) (.node s0 (.node (o358 P) .nil .nil) .nil))) (.node s0 (.node s1 (.node (o150 P) (.node (o278 P) .nil .nil) .nil) (.node s1 (.node s0 .nil .nil) .nil)) (.node (o118 P) (.node s1 (.node s1 .nil .nil) .nil) (.node (o246 P) .nil .nil)))) (.node (o30 P) (.node (o46 P) (.node s0 (.node s1 (.node s0 .nil .nil) .nil) (.node (o206 P) (.node (o334 P) .nil .nil) .nil)) (.node (o110 P) (.node (o174 P) (.node s0 .nil .nil) .nil) (.node (o238 P) .nil .nil))) (.node s0 (.node (o94 P) (.node (o158 P) (.node (o286 P) .nil .nil) .nil) (.node (o222 P) (.node s1 .nil .nil) .nil)) (.node (o126 P) (.node (o190 P) (.node (o318 P) .nil .nil) .nil) (.node s1 .nil .nil))))))))
def t3 (P : Params) : W.BT := (.node (W.boot_o_0 P) (.node (W.boot_o_1 P) (.node (o3_2 P) (.node (W.boot_o_7 P) (.node s0 (.node (o31 P) (.node s1 (.node s0 (.node (o255 P) .nil .nil) .nil) (.node s0 (.node (o319 P) .nil .nil) .nil)) (.node s0 (.node (o159 P) (.node (o287 P) .nil .nil) .nil) (.node s0 (.node (o351 P) .nil .nil) .nil))) (.node (o47 P) (.node s1 (.node (o143 P) (.node (o271 P) .nil .nil) .nil) (.node (o207 P) (.node s0 .nil .nil) .nil)) (.node (o111 P) (.node (o175 P) (.node s1 .nil .nil) .nil) (.node (o239 P) (.node (o367 P) .nil .nil) .nil)))) (.node s8 (.node s1 (.node s0 (.node s1 (.node s0 .nil .nil) .nil) (.node s0 (.node (o327 P) .nil .nil) .nil)) (.node (o103 P) (.node s1 (.node s0 .nil .nil) .nil) (.node (o231 P) (.node (o359 P) .nil .nil) .nil))) (.node (o55 P) (.node (o87 P) (.node s0 (.node (o279 P) .nil .nil) .nil) (.node (o215 P) (.node s1 .nil .nil) .nil)) (.node (o119 P) (.node (o183 P) (.node (o311 P) .nil .nil) .nil) (.node (o247 P) (.node (o375 P) .nil .nil) .nil))))) (.node s0 (.node (o19 P) (.node (o35 P) (.node (o67 P) (.node (o131 P) (.node (o259 P) .nil .nil) .nil) (.node (o195 P) (.node (o323 P) .nil .nil) .nil)) (.node s0 (.node (o163 P) (.node s0 .nil .nil) .nil) (.node s0 (.node (o355 P) .nil .nil) .nil))) (.node s1 (.node (o83 P) (.node s1 (.node (o275 P) .nil .nil) .nil) (.node (o211 P) (.node (o339 P) .nil .nil) .nil)) (.node (o115 P) (.node (o179 P) (.node (o307 P) .nil .nil) .nil) (.node (o243 P) (.node (o371 P) .nil .nil) .nil)))) (.node (o27 P) (.node (o43 P) (.node (o75 P) (.node (o139 P) (.node s0 .nil .nil) .nil) (.node s0 (.node s0 .nil .nil) .nil)) (.node s1 (.node s0 (.node (o299 P) .nil .nil) .nil) (.node s1 (.node (o363 P) .nil .nil) .nil))) (.node (o59 P) (.node (o91 P) (.node (o155 P) (.node (o283 P) .nil .nil) .nil) (.node (o219 P) (.node (o347 P) .nil .nil) .nil)) (.node s0 (.node s1 (.node (o315 P) .nil .nil) .nil) (.node (o251 P) .nil .nil)))))) (.node (W.boot_o_5 P) (.node (W.boot_o_9 P) (.node (o17 P) (.node (o33 P) (.node (o65 P) (.node (o129 P) (.node (o257 P) .nil .nil) .nil) (.node (o193 P) (.node s0 .nil .nil) .nil)) (.node (o97 P) (.node s0 (.node s1 .nil .nil) .nil) (.node (o225 P) (.node (o353 P) .nil .nil) .nil))) (.node (o49 P) (.node s0 (.node (o145 P) (.node (o273 P) .nil .nil) .nil) (.node s1 (.node (o337 P) .nil .nil) .nil)) (.node s0 (.node s1 (.node s0 .nil .nil) .nil) (.node s0 (.node s1 .nil .nil) .nil)))) (.node s0 (.node (o41 P) (.node (o73 P) (.node s0 (.node (o265 P) .nil .nil) .nil) (.node (o201 P) (.node s1 .nil .nil) .nil)) (.node (o105 P) (.node (o169 P) (.node (o297 P) .nil .nil) .nil) (.node (o233 P) (.node s0 .nil .nil) .nil))) (.node (o57 P) (.node (o89 P) (.node (o153 P) (.node s0 .nil .nil) .nil) (.node (o217 P) (.node s0 .nil .nil) .nil)) (.node s1 (.node (o185 P) (.node (o313 P) .nil .nil) .nil) (.node s1 (.node (o377 P) .nil .nil) .nil))))) (.node (o13 P) (.node (o21 P) (.node (o37 P) (.node (o69 P) (.node (o133 P) (.node s1 .nil .nil) .nil) (.node s8 (.node (o325 P) .nil .nil) .nil)) (.node (o101 P) (.node (o165 P) (.node (o293 P) .nil .nil) .nil) (.node (o229 P) (.node s1 .nil .nil) .nil))) (.node (o53 P) (.node s0 (.node (o149 P) (.node (o277 P) .nil .nil) .nil) (.node s0 (.node (o341 P) .nil .nil) .nil)) (.node (o117 P) (.node s0 (.node s0 .nil .nil) .nil) (.node (o245 P) (.node s0 .nil .nil) .nil)))) (.node s0 (.node (o45 P) (.node (o77 P) (.node s0 (.node (o269 P) .nil .nil) .nil) (.node (o205 P) (.node (o333 P) .nil .nil) .nil)) (.node s0 (.node (o173 P) (.node (o301 P) .nil .nil) .nil) (.node s0 (.node (o365 P) .nil .nil) .nil))) (.node (o61 P) (.node s1 (.node s1 (.node (o285 P) .nil .nil) .nil) (.node s1 (.node s0 .nil .nil) .nil)) (.node (o125 P) (.node (o189 P) (.node s1 .nil .nil) .nil) (.node s0 .nil .nil))))))) (.node (W.boot_o_2 P) (.node (W.boot_o_4 P) (.node (W.boot_o_8 P) (.node s1 (.node (o32 P) (.node (o64 P) (.node s1 (.node s0 .nil .nil) .nil) (.node s1 (.node (o320 P) .nil .nil) .nil)) (.node (o96 P) (.node (o160 P) (.node s0 .nil .nil) .nil) (.node (o224 P) (.node s0 .nil .nil) .nil))) (.node s8 (.node (o80 P) (.node (o144 P) (.node (o272 P) .nil .nil) .nil) (.node s0 (.node s1 .nil .nil) .nil)) (.node (o112 P) (.node s0 (.node (o304 P) .nil .nil) .nil) (.node (o240 P) (.node s0 .nil .nil) .nil)))) (.node (o24 P) (.node (o40 P) (.node s1 (.node (o136 P) (.node (o264 P) .nil .nil) .nil) (.node (o200 P) (.node s0 .nil .nil) .nil)) (.node (o104 P) (.node (o168 P) (.node s1 .nil .nil) .nil) (.node (o232 P) (.node (o360 P) .nil .nil) .nil))) (.node (o56 P) (.node s0 (.node s1 (.node (o280 P) .nil .nil) .nil) (.node s0 (.node (o344 P) .nil .nil) .nil)) (.node s0 (.node (o184 P) (.node s0 .nil .nil) .nil) (.node s0 (.node (o376 P) .nil .nil) .nil))))) (.node (o12_3 P) (.node (o20 P) (.node s8 (.node (o68 P) (.node (o132 P) (.node s0 .nil .nil) .nil) (.node s0 (.node s0 .nil .nil) .nil)) (.node s1 (.node (o164 P) (.node (o292 P) .nil .nil) .nil) (.node s1 (.node s0 .nil .nil) .nil))) (.node (o52 P) (.node (o84 P) (.node (o148 P) (.node (o276 P) .nil .nil) .nil) (.node (o212 P) (.node (o340 P) .nil .nil) .nil)) (.node s0 (.node (o180 P) (.node (o308 P) .nil .nil) .nil) (.node s0 (.node (o372 P) .nil .nil) .nil)))) (.node (o28 P) (.node (o44 P) (.node (o76 P) (.node (o140 P) (.node s1 .nil .nil) .nil) (.node s1 (.node (o332 P) .nil .nil) .nil)) (.node (o108 P) (.node s1 (.node (o300 P) .nil .nil) .nil) (.node (o236 P) (.node s0 .nil .nil) .nil))) (.node s8 (.node s0 (.node s0 (.node s0 .nil .nil) .nil) (.node s0 (.node (o348 P) .nil .nil) .nil)) (.node (o124 P) (.node (o188 P) (.node s0 .nil .nil) .nil) (.node (o252 P) .nil .nil)))))) (.node (W.boot_o_6 P) (.node (W.boot_o_10 P) (.node s0 (.node (o34 P) (.node s0 (.node s0 (.node (o258 P) .nil .nil) .nil) (.node (o194 P) (.node s1 .nil .nil) .nil)) (.node (o98 P) (.node s1 (.node (o290 P) .nil .nil) .nil) (.node (o226 P) (.node (o354 P) .nil .nil) .nil))) (.node s0 (.node (o82 P) (.node s0 (.node (o274 P) .nil .nil) .nil) (.node (o210 P) (.node s0 .nil .nil) .nil)) (.node s1 (.node (o178 P) (.node (o306 P) .nil .nil) .nil) (.node s1 (.node (o370 P) .nil .nil) .nil)))) (.node s1 (.node s0 (.node s0 (.node (o138 P) (.node (o266 P) .nil .nil) .nil) (.node (o202 P) (.node (o330 P) .nil .nil) .nil)) (.node s0 (.node (o170 P) (.node s0 .nil .nil) .nil) (.node s0 (.node s1 .nil .nil) .nil))) (.node (o58 P) (.node (o90 P) (.node (o154 P) (.node s1 .nil .nil) .nil) (.node (o218 P) (.node (o346 P) .nil .nil) .nil)) (.node (o122 P) (.node s0 (.node (o314 P) .nil .nil) .nil) (.node (o250 P) .nil .nil))))) (.node (o14 P) (.node (o22 P) (.node s0 (.node (o70 P) (.node s0 (.node (o262 P) .nil .nil) .nil) (.node (o198 P) (.node (o326 P) .nil .nil) .nil)) (.node s0 (.node s0 (.node (o294 P) .nil .nil) .nil) (.node s0 (.node (o358 P) .nil .nil) .nil))) (.node s0 (.node s1 (.node (o150 P) (.node (o278 P) .nil .nil) .nil) (.node s1 (.node s0 .nil .nil) .nil)) (.node (o118 P) (.node s1 (.node s1 .nil .nil) .nil) (.node (o246 P) (.node s1 .nil .nil) .nil)))) (.node (o30 P) (.node (o46 P) (.node s0 (.node s1 (.node s0 .nil .nil) .nil) (.node (o206 P) (.node (o334 P) .nil .nil) .nil)) (.node (o110 P) (.node (o174 P) (.node s0 .nil .nil) .nil) (.node (o238 P) (.node (o366 P) .nil .nil) .nil))) (.node s0 (.node (o94 P) (.node (o158 P) (.node (o286 P) .nil .nil) .nil) (.node (o222 P) (.node s1 .nil .nil) .nil)) (.node (o126 P) (.node (o190 P) (.node (o318 P) .nil .nil) .nil) (.node s1 .nil .nil))))))))
def envK : Env := { scope := PySem.Challenge.pw_lidprice_k76_whole_any_rule_and_its_loss.main.scope, locals := mainNs, globals := mainNs, cells := [], code := (.ref 13), frame := some 14 }
def g1 : List Stmt := [top 0, top 1, top 2, top 3, top 4, top 5, top 6, top 7, top 8, top 9, top 10, top 11, top 12, top 13, top 14, top 15, top 16, top 17, top 18, top 19, top 20]
def g2 : List Stmt := [top 21, top 22, top 23, top 24, top 25, top 26, top 27, top 28, top 29, top 30, top 31, top 32, top 33, top 34, top 35, top 36, top 37, top 38, top 39, top 40, top 41, top 42, top 43, top 44, top 45, top 46, top 47]
def g3 : List Stmt := [top 48, top 49, top 50]
def gs : List Stmt := g1 ++ (g2 ++ (g3 ++ []))
def codeK : Code := .body gs envK
theorem run1 (w : World) (os : OsState) : W.segRunT PySem.treeTable PySem.Challenge.pw_lidprice_k76_whole_any_rule_and_its_loss w 11 (some (.ref 6)) 1 1211 (stT (t0 w.params) 15 187 os) (W.piecesOf g1 envK codeK ⟨0, 0, 0, 0⟩ [W.topFrame ⟨0, 0, 0, 0⟩]) = some (.next, stT (t1 w.params) 141 354 os, codeK, ⟨46, 0, 49, 79⟩) := by kernel_rfl
theorem run2 (w : World) (os : OsState) : W.segRunT PySem.treeTable PySem.Challenge.pw_lidprice_k76_whole_any_rule_and_its_loss w 11 (some (.ref 6)) 1 1216 (stT (t1 w.params) 141 354 os) (W.piecesOf g2 envK codeK ⟨46, 0, 49, 79⟩ [W.topFrame ⟨0, 0, 0, 0⟩]) = some (.next, stT (t2 w.params) 361 641 os, codeK, ⟨207, 0, 217, 25⟩) := by kernel_rfl
theorem run3 (w : World) (os : OsState) : W.segRunT PySem.treeTable PySem.Challenge.pw_lidprice_k76_whole_any_rule_and_its_loss w 11 (some (.ref 6)) 1 89 (stT (t2 w.params) 361 641 os) (W.piecesOf g3 envK codeK ⟨207, 0, 217, 25⟩ [W.topFrame ⟨0, 0, 0, 0⟩]) = some (.next, stT (t3 w.params) 378 667 os, codeK, ⟨243, 0, 257, 15⟩) := by kernel_rfl
theorem runE (w : World) (os : OsState) : W.topRun PySem.treeTable PySem.Challenge.pw_lidprice_k76_whole_any_rule_and_its_loss w 11 (some (.ref 6)) 2 (stT (t3 w.params) 378 667 os).abs (W.restOf [] envK codeK ⟨243, 0, 257, 15⟩ [W.topFrame ⟨0, 0, 0, 0⟩]) = some (stT (t3 w.params) 378 667 os).abs := by kernel_rfl
theorem preK (w : World) (os : OsState) : W.topGo PySem.treeTable PySem.Challenge.pw_lidprice_k76_whole_any_rule_and_its_loss w 11 (some (.ref 6)) 12 ⟨W.boot_heap w.params, Array.mk [], W.boot_drawn, W.boot_toks, os⟩ (W.topStub PySem.Challenge.pw_lidprice_k76_whole_any_rule_and_its_loss) = some ((stT (t0 w.params) 15 187 os).abs, ⟨denote PySem.treeTable (.body gs envK), codeK, ⟨0, 0, 0, 0⟩, [W.topFrame ⟨0, 0, 0, 0⟩]⟩) := by kernel_rfl
theorem blkK (w : World) (os : OsState) : W.segRun PySem.treeTable PySem.Challenge.pw_lidprice_k76_whole_any_rule_and_its_loss w 11 (some (.ref 6)) 1 1 (stT (t0 w.params) 15 187 os).abs (W.blockOf gs envK codeK ⟨0, 0, 0, 0⟩ [W.topFrame ⟨0, 0, 0, 0⟩]) = some (.next, (stT (t0 w.params) 15 187 os).abs, codeK, ⟨0, 0, 0, 0⟩) := by kernel_rfl
def heapK (P : Params) : W.Frag :=
(nat_lit 2, W.boot_o_2 P) ::
(nat_lit 3, o3_2 P) ::
(nat_lit 15, s0) ::
(nat_lit 17, o17 P) ::
(nat_lit 18, s0) ::
(nat_lit 20, o20 P) ::
(nat_lit 21, o21 P) ::
(nat_lit 22, o22 P) ::
(nat_lit 29, s0) ::
(nat_lit 30, o30 P) ::
(nat_lit 31, o31 P) ::
(nat_lit 32, o32 P) ::
(nat_lit 35, o35 P) ::
(nat_lit 42, s0) ::
(nat_lit 43, o43 P) ::
(nat_lit 44, o44 P) ::
(nat_lit 47, o47 P) ::
(nat_lit 54, s0) ::
(nat_lit 55, o55 P) ::
(nat_lit 56, o56 P) ::
(nat_lit 59, o59 P) ::
(nat_lit 66, s0) ::
(nat_lit 67, o67 P) ::
(nat_lit 68, o68 P) ::
(nat_lit 71, s0) ::
(nat_lit 73, o73 P) ::
(nat_lit 74, s0) ::
(nat_lit 76, o76 P) ::
(nat_lit 77, o77 P) ::
(nat_lit 78, s0) ::
(nat_lit 80, o80 P) ::
(nat_lit 81, s0) ::
(nat_lit 83, o83 P) ::
(nat_lit 84, o84 P) ::
(nat_lit 85, s0) ::
(nat_lit 87, o87 P) ::
(nat_lit 88, s0) ::
(nat_lit 90, o90 P) ::
(nat_lit 91, o91 P) ::
(nat_lit 92, s0) ::
(nat_lit 94, o94 P) ::
(nat_lit 95, s0) ::
(nat_lit 97, o97 P) ::
(nat_lit 98, o98 P) ::
(nat_lit 99, s0) ::
(nat_lit 101, o101 P) ::
(nat_lit 102, s0) ::
(nat_lit 104, o104 P) ::
(nat_lit 105, o105 P) ::
(nat_lit 106, s0) ::
(nat_lit 108, o108 P) ::
(nat_lit 109, s0) ::
(nat_lit 111, o111 P) ::
(nat_lit 112, o112 P) ::
(nat_lit 113, s0) ::
(nat_lit 115, o115 P) ::
(nat_lit 116, s0) ::
(nat_lit 118, o118 P) ::
(nat_lit 119, o119 P) ::
(nat_lit 120, s0) ::
(nat_lit 122, o122 P) ::
(nat_lit 123, s0) ::
(nat_lit 125, o125 P) ::
(nat_lit 126, o126 P) ::
(nat_lit 127, s0) ::
(nat_lit 129, o129 P) ::
(nat_lit 130, s0) ::
(nat_lit 132, o132 P) ::
(nat_lit 133, o133 P) ::
(nat_lit 134, s0) ::
(nat_lit 136, o136 P) ::
(nat_lit 137, s0) ::
(nat_lit 139, o139 P) ::
(nat_lit 140, o140 P) ::
(nat_lit 141, s0) ::
(nat_lit 144, o144 P) ::
(nat_lit 145, o145 P) ::
(nat_lit 146, s0) ::
(nat_lit 149, o149 P) ::
(nat_lit 150, o150 P) ::
(nat_lit 151, s0) ::
(nat_lit 154, o154 P) ::
(nat_lit 155, o155 P) ::
(nat_lit 156, s0) ::
(nat_lit 159, o159 P) ::
(nat_lit 160, o160 P) ::
(nat_lit 161, s0) ::
(nat_lit 164, o164 P) ::
(nat_lit 165, o165 P) ::
(nat_lit 166, s0) ::
(nat_lit 169, o169 P) ::
(nat_lit 170, o170 P) ::
(nat_lit 171, s0) ::
(nat_lit 174, o174 P) ::
(nat_lit 175, o175 P) ::
(nat_lit 176, s0) ::
(nat_lit 179, o179 P) ::
(nat_lit 180, o180 P) ::
(nat_lit 181, s0) ::
(nat_lit 184, o184 P) ::
(nat_lit 185, o185 P) ::
(nat_lit 186, s0) ::
(nat_lit 189, o189 P) ::
(nat_lit 190, o190 P) ::
(nat_lit 191, s0) ::
(nat_lit 194, o194 P) ::
(nat_lit 195, o195 P) ::
(nat_lit 203, s0) ::
(nat_lit 206, o206 P) ::
(nat_lit 207, o207 P) ::
(nat_lit 208, s0) ::
(nat_lit 211, o211 P) ::
(nat_lit 212, o212 P) ::
(nat_lit 213, s0) ::
(nat_lit 215, o215 P) ::
(nat_lit 216, s0) ::
(nat_lit 218, o218 P) ::
(nat_lit 219, o219 P) ::
(nat_lit 220, s0) ::
(nat_lit 222, o222 P) ::
(nat_lit 223, s0) ::
(nat_lit 225, o225 P) ::
(nat_lit 226, o226 P) ::
(nat_lit 227, s0) ::
(nat_lit 229, o229 P) ::
(nat_lit 230, s0) ::
(nat_lit 232, o232 P) ::
(nat_lit 233, o233 P) ::
(nat_lit 234, s0) ::
(nat_lit 236, o236 P) ::
(nat_lit 237, s0) ::
(nat_lit 239, o239 P) ::
(nat_lit 240, o240 P) ::
(nat_lit 241, s0) ::
(nat_lit 243, o243 P) ::
(nat_lit 244, s0) ::
(nat_lit 246, o246 P) ::
(nat_lit 247, o247 P) ::
(nat_lit 248, s0) ::
(nat_lit 251, o251 P) ::
(nat_lit 252, o252 P) ::
(nat_lit 253, s0) ::
(nat_lit 255, o255 P) ::
(nat_lit 256, s0) ::
(nat_lit 258, o258 P) ::
(nat_lit 259, o259 P) ::
(nat_lit 260, s0) ::
(nat_lit 262, o262 P) ::
(nat_lit 263, s0) ::
(nat_lit 265, o265 P) ::
(nat_lit 266, o266 P) ::
(nat_lit 267, s0) ::
(nat_lit 269, o269 P) ::
(nat_lit 270, s0) ::
(nat_lit 272, o272 P) ::
(nat_lit 273, o273 P) ::
(nat_lit 274, o274 P) ::
(nat_lit 275, o275 P) ::
(nat_lit 276, o276 P) ::
(nat_lit 277, o277 P) ::
(nat_lit 278, o278 P) ::
(nat_lit 281, s0) ::
(nat_lit 283, o283 P) ::
(nat_lit 284, s0) ::
(nat_lit 286, o286 P) ::
(nat_lit 287, o287 P) ::
(nat_lit 288, s0) ::
(nat_lit 290, o290 P) ::
(nat_lit 291, s0) ::
(nat_lit 293, o293 P) ::
(nat_lit 294, o294 P) ::
(nat_lit 295, s0) ::
(nat_lit 297, o297 P) ::
(nat_lit 298, s0) ::
(nat_lit 300, o300 P) ::
(nat_lit 301, o301 P) ::
(nat_lit 302, s0) ::
(nat_lit 304, o304 P) ::
(nat_lit 305, s0) ::
(nat_lit 307, o307 P) ::
(nat_lit 308, o308 P) ::
(nat_lit 309, s0) ::
(nat_lit 311, o311 P) ::
(nat_lit 312, s0) ::
(nat_lit 314, o314 P) ::
(nat_lit 315, o315 P) ::
(nat_lit 316, s0) ::
(nat_lit 319, o319 P) ::
(nat_lit 320, o320 P) ::
(nat_lit 321, s0) ::
(nat_lit 323, o323 P) ::
(nat_lit 324, s0) ::
(nat_lit 326, o326 P) ::
(nat_lit 327, o327 P) ::
(nat_lit 328, s0) ::
(nat_lit 330, o330 P) ::
(nat_lit 331, s0) ::
(nat_lit 333, o333 P) ::
(nat_lit 334, o334 P) ::
(nat_lit 342, s0) ::
(nat_lit 344, o344 P) ::
(nat_lit 345, s0) ::
(nat_lit 347, o347 P) ::
(nat_lit 348, o348 P) ::
(nat_lit 349, s0) ::
(nat_lit 351, o351 P) ::
(nat_lit 352, s0) ::
(nat_lit 354, o354 P) ::
(nat_lit 355, o355 P) ::
(nat_lit 356, s0) ::
(nat_lit 359, o359 P) ::
(nat_lit 360, o360 P) ::
(nat_lit 361, s0) ::
(nat_lit 363, o363 P) ::
(nat_lit 364, s0) ::
(nat_lit 366, o366 P) ::
(nat_lit 367, o367 P) ::
(nat_lit 368, s0) ::
(nat_lit 371, o371 P) ::
(nat_lit 372, o372 P) ::
(nat_lit 373, s0) ::
(nat_lit 376, o376 P) ::
(nat_lit 377, o377 P) :: []
def asK : List Addr := 2 :: 3 :: 15 :: 17 :: 18 :: 20 :: 21 :: 22 :: 29 :: 30 :: 31 :: 32 :: 35 :: 42 :: 43 :: 44 :: 47 :: 54 :: 55 :: 56 :: 59 :: 66 :: 67 :: 68 :: 71 :: 73 :: 74 :: 76 :: 77 :: 78 :: 80 :: 81 :: 83 :: 84 :: 85 :: 87 :: 88 :: 90 :: 91 :: 92 :: 94 :: 95 :: 97 :: 98 :: 99 :: 101 :: 102 :: 104 :: 105 :: 106 :: 108 :: 109 :: 111 :: 112 :: 113 :: 115 :: 116 :: 118 :: 119 :: 120 :: 122 :: 123 :: 125 :: 126 :: 127 :: 129 :: 130 :: 132 :: 133 :: 134 :: 136 :: 137 :: 139 :: 140 :: 141 :: 144 :: 145 :: 146 :: 149 :: 150 :: 151 :: 154 :: 155 :: 156 :: 159 :: 160 :: 161 :: 164 :: 165 :: 166 :: 169 :: 170 :: 171 :: 174 :: 175 :: 176 :: 179 :: 180 :: 181 :: 184 :: 185 :: 186 :: 189 :: 190 :: 191 :: 194 :: 195 :: 203 :: 206 :: 207 :: 208 :: 211 :: 212 :: 213 :: 215 :: 216 :: 218 :: 219 :: 220 :: 222 :: 223 :: 225 :: 226 :: 227 :: 229 :: 230 :: 232 :: 233 :: 234 :: 236 :: 237 :: 239 :: 240 :: 241 :: 243 :: 244 :: 246 :: 247 :: 248 :: 251 :: 252 :: 253 :: 255 :: 256 :: 258 :: 259 :: 260 :: 262 :: 263 :: 265 :: 266 :: 267 :: 269 :: 270 :: 272 :: 273 :: 274 :: 275 :: 276 :: 277 :: 278 :: 281 :: 283 :: 284 :: 286 :: 287 :: 288 :: 290 :: 291 :: 293 :: 294 :: 295 :: 297 :: 298 :: 300 :: 301 :: 302 :: 304 :: 305 :: 307 :: 308 :: 309 :: 311 :: 312 :: 314 :: 315 :: 316 :: 319 :: 320 :: 321 :: 323 :: 324 :: 326 :: 327 :: 328 :: 330 :: 331 :: 333 :: 334 :: 342 :: 344 :: 345 :: 347 :: 348 :: 349 :: 351 :: 352 :: 354 :: 355 :: 356 :: 359 :: 360 :: 361 :: 363 :: 364 :: 366 :: 367 :: 368 :: 371 :: 372 :: 373 :: 376 :: 377 :: []
theorem keysK : ∀ P, asK = (heapK P).map (·.1) := fun _ => by kernel_rfl
def vw : Program := { PySem.Challenge.pw_lidprice_k76_whole_any_rule_and_its_loss with main := { (PySem.Challenge.pw_lidprice_k76_whole_any_rule_and_its_loss).main with body := [top 0, top 2, top 3, top 4, top 5, top 7, top 8, top 9, top 10, top 11, top 12, top 13, top 14, top 15, top 17, top 18, top 19, top 20, top 21, top 22, top 23, top 24, top 25, top 26, top 28, top 29, top 30, top 31, top 32, top 33, top 34, top 36, top 37, top 38, top 39, top 40, top 41, top 42, top 43, top 44, top 45, top 46, top 47, top 48, top 49, top 50] } }
def xtK (s : Shared) : Bool := W.xlAt vw [] s && W.recOk (W.RowW.records (W.OpenRow.toRowW (W.OpenLaw.row PySem.Challenge.rw_lidprice_k76_whole_any_rule_and_its_loss))) s
theorem leftK : W.LeftO PySem.Challenge.pw_lidprice_k76_whole_any_rule_and_its_loss vw [] xtK (W.Hook.obs (W.kHook heapK asK keysK)) (W.Hook.val (W.kHook heapK asK keysK)) 5752 :=
  L2.left_run (Tb := t0) (Tf := t3) (nf := 378) (kf := 667) (env := envK) (C := codeK) (gs := gs) (m0 := 11) (ann := (some (.ref 6))) (by kernel_rfl) (by decide) (fun _ => by kernel_rfl) (fun _ => by kernel_rfl) preK blkK (c := 1211 + (1216 + (89 + (2)))) (fun w os => L2.run_app (run1 w os) (L2.run_app (run2 w os) (L2.run_app (run3 w os) (runE w os)))) (by decide) (fun _ => by kernel_rfl)
end
end K76
open PySem PySem.W PyProof.Rows
set_option maxRecDepth 100000 in
set_option maxHeartbeats 0 in
theorem PySem.Challenge.cw_lidprice_k76_whole_any_rule_and_its_loss_holds : PySem.Challenge.rw_lidprice_k76_whole_any_rule_and_its_loss.Holds := by
  w_on; o_law
  refine PySem.W.holds_open (N := 5752) (q := K76.vw) (loose := []) (Xt := K76.xtK) (XP := PySem.W.XL K76.vw [])
    (Yf := PySem.W.Hook.obs (PySem.W.kHook K76.heapK K76.asK K76.keysK)) (Ya := PySem.W.Hook.val (PySem.W.kHook K76.heapK K76.asK K76.keysK))
    (YP := PySem.W.Hook.says (PySem.W.kHook K76.heapK K76.asK K76.keysK)) K76.leftK
    (PySem.W.Hook.of _) (PySem.W.Hook.keeps _) (fun s e => PySem.W.xl_of s (Bool.and_eq_true_iff.mp e).1) PySem.W.XL.keeps
    (by rfl) (by rfl) (by rfl) (fun s e => PySem.W.recFacts_of (Bool.and_eq_true_iff.mp e).2)
    (by rfl) (by first | assumption | decide +kernel) (by decide +kernel)
    ⟨rfl, rfl, rfl, rfl, rfl, by decide +kernel⟩ ?hw ?hc
  case hw => w_witness2
  k_fill
  refine K76.walk (l := PySem.Challenge.rw_lidprice_k76_whole_any_rule_and_its_loss) rfl rfl rfl (fun w h Y => by first | exact PySem.W.kIn_of Y | exact PySem.W.km_in_of Y) ?F
  case F =>
    intro w mg fa h KX G hmg
    refine' K76.all_mk (Pt := 147) KX G hmg ?aC_Offers ?a1 ?l1 ?c1 ?k1 ?a2 ?l2 ?c2 ?k2 ?a3 ?l3 ?c3 ?k3 ?a4 ?l4 ?c4 ?k4 ?a5 ?l5 ?c5 ?k5 ?a6 ?l6 ?c6 ?k6 ?a7 ?l7 ?c7 ?k7 ?a8 ?l8 ?c8 ?k8 ?a9 ?l9 ?c9 ?k9 ?a10 ?l10 ?c10 ?k10 ?a11 ?l11 ?c11 ?k11 ?a12 ?l12 ?c12 ?k12 ?a13 ?l13 ?c13 ?k13 ?a14 ?l14 ?c14 ?k14 ?a15 ?l15 ?c15 ?k15 ?a16 ?l16 ?c16 ?k16 ?a17 ?l17 ?c17 ?k17 ?a18 ?l18 ?c18 ?k18 ?a19 ?l19 ?c19 ?k19 ?a20 ?l20 ?c20 ?k20 ?a21 ?l21 ?c21 ?k21 ?a22 ?l22 ?c22 ?k22 ?a23 ?l23 ?c23 ?k23 ?a24 ?l24 ?c24 ?k24 ?a25 ?l25 ?c25 ?k25 ?a26 ?l26 ?c26 ?k26 ?a27 ?l27 ?c27 ?k27 ?a28 ?l28 ?c28 ?k28 ?a29 ?l29 ?c29 ?k29 ?a30 ?l30 ?c30 ?k30 ?a31 ?l31 ?c31 ?k31 ?a32 ?l32 ?c32 ?k32 ?a33 ?l33 ?c33 ?k33 ?a34 ?l34 ?c34 ?k34 ?a35 ?l35 ?c35 ?k35 ?a36 ?i36 ?l36 ?c36 ?k36 ?a37 ?i37 ?l37 ?c37 ?k37 ?a38 ?i38 ?l38 ?c38 ?k38 ?a39 ?i39 ?l39 ?c39 ?k39 ?pgO ?hdO ?poO ?saO ?mkO ?kcO ?nkO ?y_abs ?y_all ?y_bool ?y_enumerate ?y_int ?y_isinstance ?y_len ?y_list ?y_max ?y_range ?y_reversed ?y_sorted ?y_sum ?y_tuple ?y_zip ?yg_MOST_WEIGHT ?yg_MOST_WORTH ?yg_MOST_ROWS ?yg_MOST_OFFERS ?tb ?ch ?np
    (case aC_Offers => first | k_is | kit_is)
    (case a1 => first | k_is | kit_is)
    (case l1 => first | k_is | kit_is)
    (case c1 => first | k_is | kit_is)
    (case k1 => first | k_is | kit_is)
    (case a2 => first | k_is | kit_is)
    (case l2 => first | k_is | kit_is)
    (case c2 => first | k_is | kit_is)
    (case k2 => first | k_is | kit_is)
    (case a3 => first | k_is | kit_is)
    (case l3 => first | k_is | kit_is)
    (case c3 => first | k_is | kit_is)
    (case k3 => first | k_is | kit_is)
    (case a4 => first | k_is | kit_is)
    (case l4 => first | k_is | kit_is)
    (case c4 => first | k_is | kit_is)
    (case k4 => first | k_is | kit_is)
    (case a5 => first | k_is | kit_is)
    (case l5 => first | k_is | kit_is)
    (case c5 => first | k_is | kit_is)
    (case k5 => first | k_is | kit_is)
    (case a6 => first | k_is | kit_is)
    (case l6 => first | k_is | kit_is)
    (case c6 => first | k_is | kit_is)
    (case k6 => first | k_is | kit_is)
    (case a7 => first | k_is | kit_is)
    (case l7 => first | k_is | kit_is)
    (case c7 => first | k_is | kit_is)
    (case k7 => first | k_is | kit_is)
    (case a8 => first | k_is | kit_is)
    (case l8 => first | k_is | kit_is)
    (case c8 => first | k_is | kit_is)
    (case k8 => first | k_is | kit_is)
    (case a9 => first | k_is | kit_is)
    (case l9 => first | k_is | kit_is)
    (case c9 => first | k_is | kit_is)
    (case k9 => first | k_is | kit_is)
    (case a10 => first | k_is | kit_is)
    (case l10 => first | k_is | kit_is)
    (case c10 => first | k_is | kit_is)
    (case k10 => first | k_is | kit_is)
    (case a11 => first | k_is | kit_is)
    (case l11 => first | k_is | kit_is)
    (case c11 => first | k_is | kit_is)
    (case k11 => first | k_is | kit_is)
    (case a12 => first | k_is | kit_is)
    (case l12 => first | k_is | kit_is)
    (case c12 => first | k_is | kit_is)
    (case k12 => first | k_is | kit_is)
    (case a13 => first | k_is | kit_is)
    (case l13 => first | k_is | kit_is)
    (case c13 => first | k_is | kit_is)
    (case k13 => first | k_is | kit_is)
    (case a14 => first | k_is | kit_is)
    (case l14 => first | k_is | kit_is)
    (case c14 => first | k_is | kit_is)
    (case k14 => first | k_is | kit_is)
    (case a15 => first | k_is | kit_is)
    (case l15 => first | k_is | kit_is)
    (case c15 => first | k_is | kit_is)
    (case k15 => first | k_is | kit_is)
    (case a16 => first | k_is | kit_is)
    (case l16 => first | k_is | kit_is)
    (case c16 => first | k_is | kit_is)
    (case k16 => first | k_is | kit_is)
    (case a17 => first | k_is | kit_is)
    (case l17 => first | k_is | kit_is)
    (case c17 => first | k_is | kit_is)
    (case k17 => first | k_is | kit_is)
    (case a18 => first | k_is | kit_is)
    (case l18 => first | k_is | kit_is)
    (case c18 => first | k_is | kit_is)
    (case k18 => first | k_is | kit_is)
    (case a19 => first | k_is | kit_is)
    (case l19 => first | k_is | kit_is)
    (case c19 => first | k_is | kit_is)
    (case k19 => first | k_is | kit_is)
    (case a20 => first | k_is | kit_is)
    (case l20 => first | k_is | kit_is)
    (case c20 => first | k_is | kit_is)
    (case k20 => first | k_is | kit_is)
    (case a21 => first | k_is | kit_is)
    (case l21 => first | k_is | kit_is)
    (case c21 => first | k_is | kit_is)
    (case k21 => first | k_is | kit_is)
    (case a22 => first | k_is | kit_is)
    (case l22 => first | k_is | kit_is)
    (case c22 => first | k_is | kit_is)
    (case k22 => first | k_is | kit_is)
    (case a23 => first | k_is | kit_is)
    (case l23 => first | k_is | kit_is)
    (case c23 => first | k_is | kit_is)
    (case k23 => first | k_is | kit_is)
    (case a24 => first | k_is | kit_is)
    (case l24 => first | k_is | kit_is)
    (case c24 => first | k_is | kit_is)
    (case k24 => first | k_is | kit_is)
    (case a25 => first | k_is | kit_is)
    (case l25 => first | k_is | kit_is)
    (case c25 => first | k_is | kit_is)
    (case k25 => first | k_is | kit_is)
    (case a26 => first | k_is | kit_is)
    (case l26 => first | k_is | kit_is)
    (case c26 => first | k_is | kit_is)
    (case k26 => first | k_is | kit_is)
    (case a27 => first | k_is | kit_is)
    (case l27 => first | k_is | kit_is)
    (case c27 => first | k_is | kit_is)
    (case k27 => first | k_is | kit_is)
    (case a28 => first | k_is | kit_is)
    (case l28 => first | k_is | kit_is)
    (case c28 => first | k_is | kit_is)
    (case k28 => first | k_is | kit_is)
    (case a29 => first | k_is | kit_is)
    (case l29 => first | k_is | kit_is)
    (case c29 => first | k_is | kit_is)
    (case k29 => first | k_is | kit_is)
    (case a30 => first | k_is | kit_is)
    (case l30 => first | k_is | kit_is)
    (case c30 => first | k_is | kit_is)
    (case k30 => first | k_is | kit_is)
    (case a31 => first | k_is | kit_is)
    (case l31 => first | k_is | kit_is)
    (case c31 => first | k_is | kit_is)
    (case k31 => first | k_is | kit_is)
    (case a32 => first | k_is | kit_is)
    (case l32 => first | k_is | kit_is)
    (case c32 => first | k_is | kit_is)
    (case k32 => first | k_is | kit_is)
    (case a33 => first | k_is | kit_is)
    (case l33 => first | k_is | kit_is)
    (case c33 => first | k_is | kit_is)
    (case k33 => first | k_is | kit_is)
    (case a34 => first | k_is | kit_is)
    (case l34 => first | k_is | kit_is)
    (case c34 => first | k_is | kit_is)
    (case k34 => first | k_is | kit_is)
    (case a35 => first | k_is | kit_is)
    (case l35 => first | k_is | kit_is)
    (case c35 => first | k_is | kit_is)
    (case k35 => first | k_is | kit_is)
    (case a36 => first | k_is | kit_is)
    (case i36 => first | k_is | kit_is)
    (case l36 => first | k_is | kit_is)
    (case c36 => first | k_is | kit_is)
    (case k36 => first | k_is | kit_is)
    (case a37 => first | k_is | kit_is)
    (case i37 => first | k_is | kit_is)
    (case l37 => first | k_is | kit_is)
    (case c37 => first | k_is | kit_is)
    (case k37 => first | k_is | kit_is)
    (case a38 => first | k_is | kit_is)
    (case i38 => first | k_is | kit_is)
    (case l38 => first | k_is | kit_is)
    (case c38 => first | k_is | kit_is)
    (case k38 => first | k_is | kit_is)
    (case a39 => first | k_is | kit_is)
    (case i39 => first | k_is | kit_is)
    (case l39 => first | k_is | kit_is)
    (case c39 => first | k_is | kit_is)
    (case k39 => first | k_is | kit_is)
    (case pgO => first | k_is | kit_is)
    (case hdO => first | k_is | kit_is)
    (case poO => first | k_is | kit_is)
    (case saO => first | k_is | kit_is)
    (case mkO => first | k_is | kit_is)
    (case kcO => first | k_is | kit_is)
    (case nkO => first | k_is | kit_is)
    (case y_abs => first | k_is | kit_is)
    (case y_all => first | k_is | kit_is)
    (case y_bool => first | k_is | kit_is)
    (case y_enumerate => first | k_is | kit_is)
    (case y_int => first | k_is | kit_is)
    (case y_isinstance => first | k_is | kit_is)
    (case y_len => first | k_is | kit_is)
    (case y_list => first | k_is | kit_is)
    (case y_max => first | k_is | kit_is)
    (case y_range => first | k_is | kit_is)
    (case y_reversed => first | k_is | kit_is)
    (case y_sorted => first | k_is | kit_is)
    (case y_sum => first | k_is | kit_is)
    (case y_tuple => first | k_is | kit_is)
    (case y_zip => first | k_is | kit_is)
    (case yg_MOST_WEIGHT => first | k_is | kit_is)
    (case yg_MOST_WORTH => first | k_is | kit_is)
    (case yg_MOST_ROWS => first | k_is | kit_is)
    (case yg_MOST_OFFERS => first | k_is | kit_is)
    (case tb => kernel_rfl); (case ch => kernel_rfl); (case np => kernel_rfl)
