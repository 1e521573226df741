import PyProof.Rows.All
import Wide.All
import OpenK.AllK
import Wide.FinOn
import Lean
import PyProof.EqAt
import PyProof.EqKinds
import PyProof.TupleCall
import PyProof.NeKinds
import KE.IntBitsLaws
import KE.KRevIter
import KE.KSortKey
import KE.KLam
import KE.KNestM
import KE.KDictList
import PyProof.ZipIter
import PyProof.Rows.Range3
import PyProof.CollectWalk
import PyProof.ListNew
import PyProof.Rows.TupIter
import PyProof.Draws
import PyProof.EnumFor
import KE.KDictSum
import PyProof.ConsumeWalk
import KE.KUnpack
import PyProof.Rows.SetFrom
import PySem.Challenge.RW_lidprice_k33_short_worths
set_option Elab.async false
set_option linter.all false
set_option maxRecDepth 100000
namespace L2
open PySem PySem.Spec PyProof.Rows
abbrev Key := Sum Int Str
def keyIs : Key → Value → Bool
  | .inl k, v => Value.isInt k v
  | .inr x, v => Value.isStrOf x v
def keyH (w : World) : Key → Int
  | .inl k => hashInt k
  | .inr x => hashStr w x
theorem keyIs_shape : ∀ {k : Key} {v : Value}, keyIs k v = true → (∃ i t, k = Sum.inl i ∧ v = Value.int i t) ∨ (∃ x t, k = Sum.inr x ∧ v = Value.str x t)
  | .inl i, v, h => by
    obtain ⟨t, e⟩ := Value.isInt_shape (k := i) (v := v) h
    exact .inl ⟨i, t, rfl, e⟩
  | .inr x, v, h => by
    obtain ⟨t, e⟩ := Value.isStrOf_shape (x := x) (v := v) h
    exact .inr ⟨x, t, rfl, e⟩
theorem key_ll (a b : Int) : decide ((Sum.inl a : Key) = Sum.inl b) = (a == b) := by
  by_cases e : a = b
  · subst e; simp
  · have h : ¬ (Sum.inl a : Key) = Sum.inl b := fun q => e (Sum.inl.inj q)
    rw [decide_eq_false h]
    exact (beq_eq_false_iff_ne.mpr e).symm
theorem key_rr (a b : Str) : decide ((Sum.inr a : Key) = Sum.inr b) = decide (a = b) := by
  by_cases e : a = b
  · subst e; simp
  · have h : ¬ (Sum.inr a : Key) = Sum.inr b := fun q => e (Sum.inr.inj q)
    rw [decide_eq_false h, decide_eq_false e]
theorem key_lr (a : Int) (b : Str) : decide ((Sum.inl a : Key) = Sum.inr b) = false := decide_eq_false (fun q => nomatch q)
theorem key_rl (a : Str) (b : Int) : decide ((Sum.inr a : Key) = Sum.inl b) = false := decide_eq_false (fun q => nomatch q)
def mixKind (prog : Program) (w : World) : PySem.KeyKind prog w Key where
  is := keyIs
  hash := keyH w
  inj := fun v a b ha hb => by
    rcases keyIs_shape ha with ⟨i, t, rfl, rfl⟩ | ⟨x, t, rfl, rfl⟩
    · rcases keyIs_shape hb with ⟨j, u, rfl, e⟩ | ⟨y, u, rfl, e⟩
      · injection e with e1 _; rw [e1]
      · exact nomatch e
    · rcases keyIs_shape hb with ⟨j, u, rfl, e⟩ | ⟨y, u, rfl, e⟩
      · exact nomatch e
      · injection e with e1 _; rw [e1]
  byValue := fun k v h => by
    rcases keyIs_shape h with ⟨i, t, rfl, rfl⟩ | ⟨x, t, rfl, rfl⟩ <;> rfl
  pyHash := fun hv h => by
    rcases keyIs_shape hv with ⟨i, t, rfl, rfl⟩ | ⟨x, t, rfl, rfl⟩
    · exact wpAny_pyHash_int h
    · exact wpAny_pyHash_str h
  eqBool := fun hu hv h => by
    rcases keyIs_shape hu with ⟨i, t, rfl, rfl⟩ | ⟨x, t, rfl, rfl⟩
    · rcases keyIs_shape hv with ⟨j, u, rfl, rfl⟩ | ⟨y, u, rfl, rfl⟩
      · rw [key_ll] at h; exact wpAny_eqBool_int h
      · rw [key_lr] at h; exact SeqAt.EqAt.int_str i t y u _ _ _ _ h
    · rcases keyIs_shape hv with ⟨j, u, rfl, rfl⟩ | ⟨y, u, rfl, rfl⟩
      · rw [key_rl] at h; exact SeqAt.EqAt.str_int x t j u _ _ _ _ h
      · rw [key_rr] at h; exact wpAny_eqBool_str h
  «strs» := fun k x t v h => by
    rcases keyIs_shape h with ⟨i, u, rfl, e⟩ | ⟨y, u, rfl, e⟩
    · exact nomatch e
    · injection e with e1 _
      subst e1
      cases v <;> rfl
end L2
namespace L2
open PySem PySem.Spec PyProof.Rows
inductive V where
  | non | bl (b : Bool) | int (i : Int) | str (x : Str) | byt (b : Array UInt8) | flt (b : UInt64) | ref (a : Addr) | ty (n : String)
  deriving DecidableEq
def RelV : V → Value → Prop
  | .non, u => u = Value.none
  | .bl b, u => u = Value.bool b
  | .int i, u => ∃ t, u = Value.int i t
  | .str x, u => ∃ t, u = Value.str x t
  | .byt b, u => ∃ t, u = Value.bytes b t
  | .flt b, u => ∃ t, u = Value.float b t
  | .ref a, u => u = Value.ref a
  | .ty n, u => u = Value.type n
abbrev Vals : List V → List Value → Prop := Paired RelV
theorem Vals.length {xs : List V} {us : List Value} (r : Vals xs us) : xs.length = us.length := Paired.length r
theorem Vals.get : ∀ {xs : List V} {us : List Value} {i : Nat} {x : V}, Vals xs us → xs[i]? = some x → ∃ u, us[i]? = some u ∧ RelV x u
  | _, _, _, _, .nil, e => by simp at e
  | _, _, 0, _, .cons r _, e => by simp at e; subst e; exact ⟨_, rfl, r⟩
  | _, _, i + 1, x, .cons _ t, e => by
    obtain ⟨u, h1, h2⟩ := Vals.get (i := i) (x := x) t (by simpa using e)
    exact ⟨u, by simpa using h1, h2⟩
theorem Vals.set {x : V} {u : Value} (r : RelV x u) : ∀ {xs : List V} {us : List Value} (i : Nat), Vals xs us → Vals (xs.set i x) (us.set i u)
  | _, _, _, .nil => .nil
  | _, _, 0, .cons _ t => .cons r t
  | _, _, i + 1, .cons q t => .cons q (Vals.set r i t)
theorem Vals.append : ∀ {xs ys : List V} {us ws : List Value}, Vals xs us → Vals ys ws → Vals (xs ++ ys) (us ++ ws)
  | _, _, _, _, .nil, s => s
  | _, _, _, _, .cons r t, s => .cons r (Vals.append t s)
theorem Vals.take : ∀ {xs : List V} {us : List Value} (n : Nat), Vals xs us → Vals (xs.take n) (us.take n)
  | _, _, 0, _ => .nil
  | _, _, _ + 1, .nil => .nil
  | _, _, n + 1, .cons r t => .cons r (Vals.take n t)
theorem Vals.drop : ∀ {xs : List V} {us : List Value} (n : Nat), Vals xs us → Vals (xs.drop n) (us.drop n)
  | _, _, 0, r => r
  | _, _, _ + 1, .nil => .nil
  | _, _, n + 1, .cons _ t => Vals.drop n t
theorem Vals.none_of : ∀ {xs : List V} {us : List Value} {i : Nat}, Vals xs us → xs[i]? = none → us[i]? = none := fun {xs us i} r e => by
  have h1 := r.length
  have h2 : xs.length ≤ i := List.getElem?_eq_none_iff.mp e
  exact List.getElem?_eq_none_iff.mpr (by omega)
def RelO : Option V → Option Value → Prop
  | some v, some u => RelV v u
  | none, none => True
  | _, _ => False
def KV {κ : Type} : List (κ × V) → List (κ × Value) → Prop := Paired fun (p : κ × V) (q : κ × Value) => p.1 = q.1 ∧ RelV p.2 q.2
def kV : Key → V
  | .inl i => .int i
  | .inr x => .str x
inductive HO where
  | lst (xs : List V)
  | tup (xs : List V)
  | dK (kvs : List (Key × V)) | dT (kvs : List (List Key × V))
  | set (S : Int → Bool) (n : Nat)
  | ins (C dx : Addr) (fs : List (Str × V))
  | own (x : Addr)
  | xd (fs : List (Str × V))
  | met (f x : Addr)
  | rng (lo hi : Int)
  | frz (o : Obj) (u : HO)
  | tbl (ps : Array Value)
  | ext (φ : Heap → Prop)
abbrev Hp := Addr → Option HO
def upd (H : Hp) (a : Addr) (o : HO) : Hp := fun b => if b = a then some o else H b
theorem upd_same {H : Hp} {a : Addr} {o : HO} : upd H a o a = some o := by unfold upd; rw [if_pos rfl]
theorem upd_ne {H : Hp} {a b : Addr} {o : HO} (h : b ≠ a) : upd H a o b = H b := by unfold upd; rw [if_neg h]
theorem ne_of {H : Hp} {a b : Addr} {o u : HO} (h : H a = some o) (h' : H b = some u) (d : o ≠ u) : a ≠ b := by
  intro e; subst e; rw [h] at h'; exact d (Option.some.inj h')
theorem ne_of_none {H : Hp} {a b : Addr} {o : HO} (h : H a = some o) (h' : H b = none) : a ≠ b := by
  intro e; subst e; rw [h] at h'; cases h'
section
variable (P : Program) (w : World)
def ObjOk (H : Hp) (h : Heap) (a : Addr) : HO → Prop
  | .lst xs => xs.length ≤ sizeLine ∧ ∃ (its : List Value) (n : Nat), Vals xs its ∧ h.get? a = some { cls := .type "list", data := .seq its.toArray n }
  | .tup xs => xs.length ≤ sizeLine ∧ ∃ its : List Value, Vals xs its ∧ IsTup h a its.toArray
  | .dK kvs => kvs.length ≤ sizeLine ∧ (a == sysModules) = false ∧ ∃ vs, KV kvs vs ∧ h.DictOf (mixKind P w) a vs
  | .dT kvs => kvs.length ≤ sizeLine ∧ (a == sysModules) = false ∧ ∃ xs : List (List Key × Addr × Value),
      Paired (fun (p : List Key × V) (q : List Key × Addr × Value) => p.1 = q.1 ∧ H q.2.1 = some (.tup (p.1.map kV)) ∧ RelV p.2 q.2.2) kvs xs ∧
      ∃ o es ep, h.get? a = some o ∧ o.ExactDict ∧ o.data = .dict es ep ∧ es.toList = xs.map (entryOfKey (tupleKind (mixKind P w))) ∧ (xs.map (·.1)).Nodup
  | .set S n => h.SetOf (intKind P w) a S n
  | .ins C dx fs => H dx = some (.own a) ∧ fs.length ≤ 1000 ∧ dx ≠ a ∧ h.get? a = some (PySem.W.instObj C dx) ∧
      ∃ mA, h.Ns1 dx mA ∧ (∀ f, RelO (fs.lookup f) (mA f)) ∧ PySem.Within mA (fs.map (·.1))
  | .own _ => ∃ o, h.get? a = some o
  | .xd fs => ∃ mA, h.Ns1 a mA ∧ ∀ f, RelO (fs.lookup f) (mA f)
  | .rng lo hi => ∃ t u v, h.get? a = some { cls := .type "range", data := .fields #[.int lo t, .int hi u, .int 1 v] }
  | .frz o u => h.get? a = some o ∧ ObjOk H h a u
  | .tbl ps => h.get? a = some { cls := .none, data := .fields ps }
  | .met f x => h.get? a = some (PySem.W.methodObj (.ref f) (.ref x))
  | .ext φ => φ h ∧ (∃ o, h.get? a = some o) ∧ ∀ h1 h2 : Heap, φ h1 → (∀ o, h1.get? a = some o → h2.get? a = some o) → φ h2
def HOk (H : Hp) (h : Heap) : Prop := ∀ a o, H a = some o → ObjOk P w H h a o
end
section
variable {P : Program} {w : World} {H H' : Hp} {h h' : Heap} {a : Addr} {o : HO}
theorem ObjOk.lt (x : ObjOk P w H h a o) : a < h.objs.size := by
  cases o with
  | lst xs => obtain ⟨_, _, _, _, e⟩ := x; exact Heap.lt_size e
  | tup xs => obtain ⟨_, _, _, p⟩ := x; exact p.lt
  | dK kvs => obtain ⟨_, _, _, _, o, _, _, e, _⟩ := x; exact Heap.lt_size e
  | dT kvs => obtain ⟨_, _, _, _, o, _, _, e, _⟩ := x; exact Heap.lt_size e
  | set S n => obtain ⟨o, _, _, _, e, _⟩ := x; exact Heap.lt_size e
  | ins C dx fs => obtain ⟨_, _, _, e, _⟩ := x; exact Heap.lt_size e
  | own y => obtain ⟨_, e⟩ := x; exact Heap.lt_size e
  | xd fs => obtain ⟨_, ⟨_, _, _, e, _⟩, _⟩ := x; exact Heap.lt_size e
  | rng lo hi => obtain ⟨_, _, _, e⟩ := x; exact Heap.lt_size e
  | frz ob u => obtain ⟨e, _⟩ := x; exact Heap.lt_size e
  | tbl ps => exact Heap.lt_size (show h.get? a = some _ from x)
  | met f y => exact Heap.lt_size (show h.get? a = some _ from x)
  | ext φ => obtain ⟨_, ⟨_, e⟩, _⟩ := x; exact Heap.lt_size e
theorem Paired.mapP {α β : Type} {F G : α → β → Prop} : ∀ {l₁ : List α} {l₂ : List β}, Paired F l₁ l₂ → (∀ a b, F a b → G a b) → Paired G l₁ l₂
  | _, _, .nil, _ => .nil
  | _, _, .cons r t, f => .cons (f _ _ r) (Paired.mapP t f)
theorem ObjOk.stay (x : ObjOk P w H h a o) (k : ∀ b u, (b = a ∨ H b = some (.own a)) → h.get? b = some u → h'.get? b = some u)
    (ho : ∀ b, H b = some (.own a) → H' b = some (.own a)) (ht : ∀ b xs, H b = some (.tup xs) → H' b = some (.tup xs)) : ObjOk P w H' h' a o := by
  induction o with
  | lst xs => obtain ⟨z, its, n, r, e⟩ := x; exact ⟨z, its, n, r, k _ _ (.inl rfl) e⟩
  | tup xs => obtain ⟨z, its, r, ob, e, c⟩ := x; exact ⟨z, its, r, ob, k _ _ (.inl rfl) e, c⟩
  | dK kvs => obtain ⟨z, y, vs, r, ob, es, ep, e, c⟩ := x; exact ⟨z, y, vs, r, ob, es, ep, k _ _ (.inl rfl) e, c⟩
  | dT kvs =>
    obtain ⟨z, y, xs, r, ob, es, ep, e, c⟩ := x
    exact ⟨z, y, xs, Paired.mapP r fun p q z => ⟨z.1, ht _ _ z.2.1, z.2.2⟩, ob, es, ep, k _ _ (.inl rfl) e, c⟩
  | set S n => obtain ⟨ob, es, ep, t, e, c⟩ := x; exact ⟨ob, es, ep, t, k _ _ (.inl rfl) e, c⟩
  | ins C dx fs =>
    obtain ⟨d, z, ne, e, mA, ⟨od, es, ep, e2, c⟩, r⟩ := x
    exact ⟨ho _ d, z, ne, k _ _ (.inl rfl) e, mA, ⟨od, es, ep, k _ _ (.inr d) e2, c⟩, r⟩
  | own y => obtain ⟨ob, e⟩ := x; exact ⟨ob, k _ _ (.inl rfl) e⟩
  | xd fs => obtain ⟨mA, ⟨od, es, ep, e, c⟩, r⟩ := x; exact ⟨mA, ⟨od, es, ep, k _ _ (.inl rfl) e, c⟩, r⟩
  | rng lo hi => obtain ⟨t, u, v, e⟩ := x; exact ⟨t, u, v, k _ _ (.inl rfl) e⟩
  | frz ob u ih => obtain ⟨e, q⟩ := x; exact ⟨k _ _ (.inl rfl) e, ih q⟩
  | tbl ps =>
    have e : h.get? a = some { cls := .none, data := .fields ps } := x
    show h'.get? a = some { cls := .none, data := .fields ps }
    exact k a _ (.inl rfl) e
  | met f y =>
    have e : h.get? a = some (PySem.W.methodObj (.ref f) (.ref y)) := x
    show h'.get? a = some (PySem.W.methodObj (.ref f) (.ref y))
    exact k a _ (.inl rfl) e
  | ext φ => obtain ⟨p, ⟨o, e⟩, st⟩ := x; exact ⟨st _ _ p fun o q => k _ _ (.inl rfl) q, ⟨o, k _ _ (.inl rfl) e⟩, st⟩
theorem HOk.lt (x : HOk P w H h) (e : H a = some o) : a < h.objs.size := (x a o e).lt
theorem HOk.fresh (x : HOk P w H h) (e : h.objs.size ≤ a) : H a = none := by
  cases q : H a with
  | none => rfl
  | some u => exact absurd (Nat.lt_of_lt_of_le (x.lt q) e) (Nat.lt_irrefl _)
theorem HOk.kept (x : HOk P w H h) (k : ∀ b u, h.get? b = some u → h'.get? b = some u) : HOk P w H h' := fun a o e =>
  (x a o e).stay (fun b u _ q => k b u q) (fun _ q => q) fun _ _ q => q
theorem HOk.laid (x : HOk P w H h) (k : ∀ b u, h.get? b = some u → h'.get? b = some u) (hp : h.objs.size ≤ a) (new : ObjOk P w (upd H a o) h' a o) : HOk P w (upd H a o) h' := fun b u e => by
  have hn := x.fresh hp
  by_cases hb : b = a
  · subst hb; rw [upd_same] at e; cases e; exact new
  · rw [upd_ne hb] at e
    exact (x b u e).stay (fun c v _ q => k c v q) (fun c q => by rw [upd_ne (ne_of_none q hn)]; exact q) fun c xs q => by rw [upd_ne (ne_of_none q hn)]; exact q
end
def Rd (H : Hp) (a : Addr) (u : HO) : Prop := H a = some u ∨ ∃ o, H a = some (.frz o u)
theorem Rd.of {H : Hp} {a : Addr} {u : HO} (h : H a = some u) : Rd H a u := .inl h
theorem Rd.ok {P : Program} {w : World} {H : Hp} {h : Heap} {a : Addr} {u : HO} (r : Rd H a u) (x : HOk P w H h) : ObjOk P w H h a u := by
  rcases r with r | ⟨o, r⟩
  · exact x a u r
  · obtain ⟨_, q⟩ := x a _ r
    exact q
def Mut : Option HO → Prop
  | some (.lst _) => True
  | some (.dK _) => True
  | some (.dT _) => True
  | some (.set _ _) => True
  | some (.ins _ _ _) => True
  | some (.ext _) => True
  | _ => False
section
variable {P : Program} {w : World} {H : Hp} {h h' : Heap} {x e : Addr} {o' : HO}
theorem HOk.write (ok : HOk P w H h) (mu : Mut (H x)) (he : e = x ∨ H e = some (.own x)) (k : ∀ b u, b ≠ e → h.get? b = some u → h'.get? b = some u) (heo : ∃ u, h'.get? e = some u)
    (new : ObjOk P w (upd H x o') h' x o') : HOk P w (upd H x o') h' := fun b u q => by
  have nown : ∀ c y, H c = some (.own y) → c ≠ x := fun c y r z => by subst z; rw [r] at mu; exact mu
  have ntup : ∀ c xs, H c = some (.tup xs) → c ≠ x := fun c xs r z => by subst z; rw [r] at mu; exact mu
  by_cases hb : b = x
  · subst hb; rw [upd_same] at q; cases q; exact new
  · rw [upd_ne hb] at q
    by_cases hbe : b = e
    · have q' : H b = some (.own x) := by
        rcases he with z | z
        · exact absurd (hbe.trans z) hb
        · rw [hbe]; exact z
      rw [q] at q'; cases q'
      obtain ⟨v, hv⟩ := heo
      exact ⟨v, by rw [hbe]; exact hv⟩
    · refine (ok b u q).stay (fun c v hc r => k c v ?_ r) (fun c r => by rw [upd_ne (nown c b r)]; exact r) fun c xs r => by rw [upd_ne (ntup c xs r)]; exact r
      rcases hc with rfl | hc
      · exact hbe
      · rintro rfl
        rcases he with z | z
        · exact nown c b hc z
        · rw [hc] at z; cases z; exact hb rfl
end
structure Un (fs ex : List Addr) (H H' : Hp) (h h' : Heap) : Prop where
  keep : ∀ b o, h.get? b = some o → H b = none → b ∉ fs → b ∉ ex → h'.get? b = some o
  slot : ∀ b o, h.get? b = some o → H b = none → b ∈ fs → b ∉ ex → ∃ sl, h'.get? b = some { o with slots := sl }
  free : ∀ b o, h.get? b = some o → H b = none → b ∉ ex → H' b = none
  there : ∀ b o, h.get? b = some o → b ∉ ex → ∃ o', h'.get? b = some o'
  tups : ∀ b xs, H b = some (.tup xs) → H' b = some (.tup xs)
  frzs : ∀ b o u, H b = some (.frz o u) → H' b = some (.frz o u)
  tbls : ∀ b ps, H b = some (.tbl ps) → ∃ more, H' b = some (.tbl (ps ++ more))
section
variable {fs fs' ex ex' : List Addr} {H H1 H2 : Hp} {h h1 h2 h' : Heap} {a x e : Addr} {o : HO}
theorem Un.any (u : Un fs ex H H1 h h1) {b : Addr} {ob : Obj} (q : h.get? b = some ob) (n : H b = none) (hx : b ∉ ex) : ∃ sl, h1.get? b = some { ob with slots := sl } := by
  by_cases hb : b ∈ fs
  · exact u.slot b ob q n hb hx
  · exact ⟨ob.slots, u.keep b ob q n hb hx⟩
theorem Un.trans (a : Un fs ex H H1 h h1) (b : Un fs ex H1 H2 h1 h2) : Un fs ex H H2 h h2 where
  keep := fun c ob q n hc hx => b.keep c ob (a.keep c ob q n hc hx) (a.free c ob q n hx) hc hx
  slot := fun c ob q n hc hx => by
    obtain ⟨sl, e1⟩ := a.slot c ob q n hc hx
    obtain ⟨sl', e2⟩ := b.slot c _ e1 (a.free c ob q n hx) hc hx
    exact ⟨sl', e2⟩
  free := fun c ob q n hx => by
    obtain ⟨o', e1⟩ := a.there c ob q hx
    exact b.free c o' e1 (a.free c ob q n hx) hx
  there := fun c ob q hx => by
    obtain ⟨o', e1⟩ := a.there c ob q hx
    exact b.there c o' e1 hx
  tups := fun c xs q => b.tups c xs (a.tups c xs q)
  frzs := fun c ob xs q => b.frzs c ob xs (a.frzs c ob xs q)
  tbls := fun c ps q => by
    obtain ⟨m1, e1⟩ := a.tbls c ps q
    obtain ⟨m2, e2⟩ := b.tbls c _ e1
    exact ⟨m1 ++ m2, by rw [e2, Array.append_assoc]⟩
theorem Un.kept (k : ∀ b u, h.get? b = some u → h'.get? b = some u) : Un fs ex H H h h' :=
  ⟨fun b ob q _ _ _ => k b ob q, fun b ob q _ _ _ => ⟨ob.slots, k b ob q⟩, fun _ _ _ n _ => n, fun b ob q _ => ⟨ob, k b ob q⟩, fun _ _ q => q, fun _ _ _ q => q, fun _ ps q => ⟨#[], by rw [q]; simp⟩⟩
theorem Un.refl : Un fs ex H H h h := Un.kept fun _ _ q => q
theorem Un.laid (k : ∀ b u, h.get? b = some u → h'.get? b = some u) (hp : h.objs.size ≤ a) (hn : H a = none) : Un fs ex H (upd H a o) h h' where
  keep := fun b u q _ _ _ => k b u q
  slot := fun b u q _ _ _ => ⟨u.slots, k b u q⟩
  free := fun b u q n _ => by rw [upd_ne (Nat.ne_of_lt (Nat.lt_of_lt_of_le (Heap.lt_size q) hp))]; exact n
  there := fun b u q _ => ⟨u, k b u q⟩
  tups := fun b xs q => by rw [upd_ne (ne_of_none q hn)]; exact q
  frzs := fun b u xs q => by rw [upd_ne (ne_of_none q hn)]; exact q
  tbls := fun b ps q => ⟨#[], by rw [upd_ne (ne_of_none q hn), q]; simp⟩
theorem Un.write (mu : Mut (H x)) (he : e = x ∨ H e = some (.own x)) (k : ∀ b u, b ≠ e → h.get? b = some u → h'.get? b = some u) (heo : ∃ u, h'.get? e = some u) : Un fs ex H (upd H x o) h h' := by
  have hx : ∀ b, H b = none → b ≠ x := fun b n z => by subst z; rw [n] at mu; exact mu
  have hb : ∀ b, H b = none → b ≠ e := fun b n z => by
    subst z
    rcases he with r | r
    · exact hx b n r
    · rw [n] at r; cases r
  have hm : ∀ b u, H b = some u → ¬ Mut (some u) → b ≠ x := fun b u q nm z => by subst z; rw [q] at mu; exact nm mu
  refine ⟨fun b u q n _ _ => k b u (hb b n) q, fun b u q n _ _ => ⟨u.slots, k b u (hb b n) q⟩, fun b u q n _ => by rw [upd_ne (hx b n)]; exact n, fun b u q _ => ?_,
    fun b xs q => by rw [upd_ne (hm b _ q fun z => z)]; exact q, fun b u xs q => by rw [upd_ne (hm b _ q fun z => z)]; exact q, fun b ps q => ⟨#[], by rw [upd_ne (hm b _ q fun z => z), q]; simp⟩⟩
  by_cases hbe : b = e
  · subst hbe; exact heo
  · exact ⟨u, k b u hbe q⟩
theorem Un.mono (u : Un fs ex H H1 h h1) (hs : ∀ b ∈ fs, b ∈ fs') (hx : ∀ b ∈ ex, b ∈ ex') : Un fs' ex' H H1 h h1 :=
  ⟨fun b ob q n hb he => u.keep b ob q n (fun z => hb (hs b z)) fun z => he (hx b z), fun _ _ q n _ he => u.any q n fun z => he (hx _ z), fun b ob q n he => u.free b ob q n fun z => he (hx b z), fun b ob q he => u.there b ob q fun z => he (hx b z), u.tups, u.frzs, u.tbls⟩
end
def trk (h : Heap) (H : Hp) : List Addr := (List.range h.objs.size).filter fun a => (H a).isSome
def hidT (h : Heap) (H : Hp) : Heap := PySem.W.hideAll h (trk h H)
theorem hidT_size (h : Heap) (H : Hp) : (hidT h H).objs.size = h.objs.size := PySem.W.hideAll_size _ _
theorem hidT_get {h : Heap} {H : Hp} {b : Addr} {o : Obj} (e : h.get? b = some o) (n : H b = none) : (hidT h H).get? b = some o :=
  PySem.W.hideAll_get _ e fun hm => by
    have q : (H b).isSome = true := (List.mem_filter.mp hm).2
    rw [n] at q; simp at q
theorem of_hidT {h : Heap} {H : Hp} {b : Addr} {o : Obj} (e : (hidT h H).get? b = some o) : h.get? b = some o ∧ H b = none := by
  have e' : h.get? b = some o := PySem.W.of_hideAll (trk h H) e
  refine ⟨e', ?_⟩
  cases q : H b with
  | none => rfl
  | some x =>
    have hm : b ∈ trk h H := List.mem_filter.mpr ⟨List.mem_range.mpr (Heap.lt_size e'), by simp [q]⟩
    have z : (hidT h H).get? b = none := PySem.W.hideAll_none (trk h H) hm
    rw [z] at e; cases e
def allNews (g h : Heap) (L : Addr) : List (Addr × Obj) := (List.range h.objs.size).filterMap fun a => if a = L ∨ (g.get? a).isSome = true then none else (h.get? a).map fun o => (a, o)
def rest (g h : Heap) (L d : Addr) : List (Addr × Obj) := (allNews g h L).filter fun p => decide (p.1 ≠ d)
end L2
namespace L2
open PySem PySem.Spec PyProof.Rows
structure Mod (K : PySem.W.Frag) (mg : Str → Option Value) (base : Heap) : Prop where
  kin : K.In base
  glob : base.Ns mainGlobals mg
  blt : ∃ mb, base.Ns builtinsNs mb ∧ ∀ x : Str, x ≠ "__name__" → mb x = bootBuiltins x
  nolimit : base.NoLimit
structure Cx where
  prog : Program
  w : World
  K : PySem.W.Frag
  mg : Str → Option Value
  base : Heap
  A : Around
  N : List Str
  s₀ : Shared
  H₀ : Hp
  env : Env
  outer : List Env
  stack : List Env
  ex : List Addr
  fn : Str → Bool
  calm : Bool
  pn : List (Addr × Obj)
  xe : Value → Shared → Prop
def frs (l : List Env) : List Addr := l.filterMap (·.frame)
abbrev Cx.fs (X : Cx) : List Addr := frs X.outer
def Vis (sc : Scope) (x : Str) : Prop := sc.names.lookup x = some .local ∨ sc.names.lookup x = some .cell ∨ sc.names.lookup x = some .free
def Loc (sc : Scope) (x : Str) : Prop := sc.names.lookup x = some .local ∨ sc.names.lookup x = some .cell
def Look (env : Env) (h : Heap) (m : Str → Option Value) (x : Str) (u : Value) : Prop :=
  (env.kindOf x = some .local ∧ m x = some u) ∨ ((env.kindOf x = some .cell ∨ env.kindOf x = some .free) ∧ ∃ c, env.cells.lookup x = some c ∧ h.IsCell c (some u))
structure Cx.Ok (X : Cx) : Prop where
  mod : Mod X.K X.mg X.base
  kind : X.env.scope.kind = .function
  glob : X.env.globals = mainGlobals
  blt : X.env.builtins = builtinsNs
  above : X.s₀.heap.objs.size ≤ X.env.locals
  inj : ∀ x y c, X.env.cells.lookup x = some c → X.env.cells.lookup y = some c → x = y
  has : ∀ x, (X.env.kindOf x = some .cell ∨ X.env.kindOf x = some .free) → ∃ c, X.env.cells.lookup x = some c
  cab : ∀ x c, X.fn x = true → X.env.cells.lookup x = some c → X.s₀.heap.objs.size ≤ c
  hd : X.calm = true → X.A.handled = none
  frames : X.A.frames = some X.stack
  stk : X.stack = X.outer ∨ (X.stack = X.env :: X.outer ∧ X.env.frame = some X.env.locals)
  exf : ∀ b ∈ X.ex, b ≠ X.env.locals ∧ ∀ x c, X.env.cells.lookup x = some c → c ≠ b
  bs : ∀ b o, X.base.get? b = some o → X.s₀.heap.get? b = some o ∧ X.H₀ b = none
  bsz : X.base.objs.size ≤ X.s₀.heap.objs.size
  noex : ∀ b o, X.base.get? b = some o → b ∉ X.ex
  exfs : ∀ b ∈ X.ex, b ∉ X.fs
  funs : X.s₀.heap.FunFrames X.base X.outer
  frf : ∀ b ∈ X.fs, X.H₀ b = none
structure Inv (X : Cx) (pins : List (Addr × Obj)) (σ : List (Option V)) (H : Hp) (s : Shared) : Prop where
  ok : X.Ok
  os : s.os = X.s₀.os
  bare : AllBare s.gens
  base : Un X.fs X.ex X.H₀ H X.s₀.heap s.heap
  loc : ∃ m, s.heap.Ns X.env.locals m ∧ ∀ (i : Nat) (x : Str) (v : V), X.N[i]? = some x → σ[i]? = some (some v) → Vis X.env.scope x → ∃ u, RelV v u ∧ Look X.env s.heap m x u
  cell : ∀ x c, X.env.cells.lookup x = some c → ∃ v, s.heap.IsCell c v
  free : H X.env.locals = none
  freeC : ∀ x c, X.env.cells.lookup x = some c → H c = none
  pin : ∀ p ∈ X.pn ++ pins, s.heap.get? p.1 = some p.2 ∧ H p.1 = none ∧ p.1 ≠ X.env.locals ∧ p.1 ∉ X.fs ∧ ∀ v, p.2.data ≠ .cell v
  hok : HOk X.prog X.w H s.heap
  len : σ.length = X.N.length
section
variable {X : Cx} {pins : List (Addr × Obj)} {σ : List (Option V)} {H H' : Hp} {s : Shared} {h' : Heap}
theorem Cx.Ok.nofr (ok : X.Ok) {b : Addr} {o : Obj} (e : X.base.get? b = some o) : b ∉ X.fs := fun hb => by
  have := (ok.funs.mem hb).1
  rw [e] at this; cases this
theorem Inv.bs (I : Inv X pins σ H s) : ∀ b o, X.base.get? b = some o → s.heap.get? b = some o ∧ H b = none := fun b o e =>
  ⟨I.base.keep b o (I.ok.bs b o e).1 (I.ok.bs b o e).2 (I.ok.nofr e) (I.ok.noex b o e), I.base.free b o (I.ok.bs b o e).1 (I.ok.bs b o e).2 (I.ok.noex b o e)⟩
theorem Inv.bk (I : Inv X pins σ H s) : ∀ b o, X.base.get? b = some o → s.heap.get? b = some o := fun b o e => (I.bs b o e).1
theorem Inv.mod (I : Inv X pins σ H s) : Mod X.K X.mg X.base := I.ok.mod
theorem Inv.kIn (I : Inv X pins σ H s) : X.K.In s.heap := I.ok.mod.kin.keeps I.bk
theorem Inv.nolimit (I : Inv X pins σ H s) : s.heap.NoLimit := I.ok.mod.nolimit.keeps I.bk
theorem Inv.fr (I : Inv X pins σ H s) : ∃ m, Fr X.base X.env.locals s.heap m :=
  let ⟨m, hn, _⟩ := I.loc
  ⟨m, hn, I.bk, Nat.le_trans I.ok.bsz I.ok.above⟩
theorem Inv.lt (I : Inv X pins σ H s) : X.env.locals < s.heap.objs.size := let ⟨_, hn, _⟩ := I.loc; hn.lt
theorem Inv.sz (I : Inv X pins σ H s) : X.s₀.heap.objs.size ≤ s.heap.objs.size := Nat.le_trans I.ok.above (Nat.le_of_lt I.lt)
theorem Inv.nofs (I : Inv X pins σ H s) {a : Addr} (h : s.heap.objs.size ≤ a) : a ∉ X.fs := fun hb => by
  obtain ⟨_, o, ho, _⟩ := I.ok.funs.mem hb
  exact absurd (Nat.lt_of_lt_of_le (Heap.lt_size ho) (Nat.le_trans I.sz h)) (Nat.lt_irrefl _)
theorem Inv.cne (I : Inv X pins σ H s) : ∀ x c, X.env.cells.lookup x = some c → c ≠ X.env.locals := fun x c e z => by
  obtain ⟨v, o, ho, hd⟩ := I.cell x c e
  obtain ⟨m, ⟨o', es, ep, ho', hd', _⟩, _⟩ := I.loc
  rw [z, ho'] at ho; cases ho; rw [hd'] at hd; cases hd
theorem Inv.funs (I : Inv X pins σ H s) : s.heap.FunFrames X.base X.outer := by
  have all : ∀ (l : List Env), (∀ b ∈ frs l, b ∈ X.fs) → X.s₀.heap.FunFrames X.base l → s.heap.FunFrames X.base l := by
    intro l
    induction l with
    | nil => intro _ _; trivial
    | cons env r ih =>
      intro hs hl
      obtain ⟨hk, ⟨L, o, hf, hn, ho, hd⟩, hr⟩ := hl
      have hL : L ∈ X.fs := hs L (by unfold frs; rw [List.filterMap_cons, hf]; exact List.mem_cons_self)
      obtain ⟨sl, e⟩ := I.base.slot L o ho (I.ok.frf L hL) hL fun z => I.ok.exfs L z hL
      exact ⟨hk, ⟨L, _, hf, hn, e, hd⟩, ih (fun b hb => hs b (by unfold frs; rw [List.filterMap_cons, hf]; exact List.mem_cons_of_mem _ hb)) hr⟩
  exact all X.outer (fun _ hb => hb) I.ok.funs
theorem Inv.stack (I : Inv X pins σ H s) : s.heap.FunFrames X.base X.stack := by
  rcases I.ok.stk with e | ⟨e, hf⟩
  · rw [e]; exact I.funs
  · rw [e]
    obtain ⟨m, hn, _⟩ := I.loc
    refine .cons (by rw [I.ok.kind]; decide) hf hn ?_ I.funs
    exact Heap.get?_none_of_le (Nat.le_trans I.ok.bsz I.ok.above)
theorem Inv.stkSub (I : Inv X pins σ H s) : ∀ b ∈ frs X.stack, b ∈ X.env.locals :: X.fs := fun b hb => by
  rcases I.ok.stk with e | ⟨e, hf⟩
  · rw [e] at hb; exact List.mem_cons_of_mem _ hb
  · rw [e] at hb
    unfold frs at hb
    rw [List.filterMap_cons, hf] at hb
    exact hb
theorem Inv.stkFree (I : Inv X pins σ H s) : ∀ b ∈ frs X.stack, H b = none := fun b hb => by
  rcases List.mem_cons.mp (I.stkSub b hb) with e | hb
  · rw [e]; exact I.free
  · obtain ⟨_, o, ho, _⟩ := I.ok.funs.mem hb
    exact I.base.free b o ho (I.ok.frf b hb) fun z => I.ok.exfs b z hb
theorem Inv.step {g' : Array GenState} {t' : Nat} {d' : Drawn} {ch : List Addr} (I : Inv X pins σ H s)
    (hch : ∀ b ∈ ch, (b ∈ X.ex ∨ X.s₀.heap.objs.size ≤ b) ∧ b ≠ X.env.locals ∧ (∀ x c, X.env.cells.lookup x = some c → c ≠ b) ∧ ∀ p ∈ X.pn ++ pins, p.1 ≠ b)
    (keep : ∀ b o, b ≠ X.env.locals → b ∉ X.fs → b ∉ ch → s.heap.get? b = some o → H b = none → h'.get? b = some o)
    (slot : ∀ b o, b ≠ X.env.locals → b ∈ X.fs → b ∉ ch → s.heap.get? b = some o → H b = none → ∃ sl, h'.get? b = some { o with slots := sl }) (free : ∀ b o, b ∉ ch → s.heap.get? b = some o → H b = none → H' b = none)
    (there : ∀ b o, b ∉ ch → s.heap.get? b = some o → ∃ o', h'.get? b = some o')
    (tups : ∀ b xs, H b = some (.tup xs) → H' b = some (.tup xs)) (frzs : ∀ b o u, H b = some (.frz o u) → H' b = some (.frz o u)) (tbls : ∀ b ps, H b = some (.tbl ps) → ∃ more, H' b = some (.tbl (ps ++ more)))
    (ns : ∀ m, s.heap.Ns X.env.locals m → h'.Ns X.env.locals m) (hok : HOk X.prog X.w H' h') (hg : AllBare g') :
    Inv X pins σ H' { s with heap := h', gens := g', drawn := d', toks := t' } := by
  have neL : ∀ b o, X.s₀.heap.get? b = some o → b ≠ X.env.locals := fun b o e => Nat.ne_of_lt (Nat.lt_of_lt_of_le (Heap.lt_size e) I.ok.above)
  have neC : ∀ b o, X.s₀.heap.get? b = some o → b ∉ X.ex → b ∉ ch := fun b o e hx hb => by
    rcases (hch b hb).1 with z | z
    · exact hx z
    · exact absurd (Nat.lt_of_lt_of_le (Heap.lt_size e) z) (Nat.lt_irrefl _)
  have cellK : ∀ x c, X.env.cells.lookup x = some c → ∀ v, s.heap.IsCell c v → h'.IsCell c v := fun x c e v ⟨o, ho, hd⟩ => by
    have nch : c ∉ ch := fun z => (hch c z).2.2.1 x c e rfl
    by_cases hc : c ∈ X.fs
    · obtain ⟨sl, q⟩ := slot c o (I.cne x c e) hc nch ho (I.freeC x c e)
      exact ⟨_, q, hd⟩
    · exact ⟨o, keep c o (I.cne x c e) hc nch ho (I.freeC x c e), hd⟩
  refine ⟨I.ok, I.os, hg, ⟨fun b o e n hb hx => ?_, fun b o e n hb hx => ?_, fun b o e n hx => ?_, fun b o e hx => ?_, fun b xs e => tups b xs (I.base.tups b xs e), fun b o xs e => frzs b o xs (I.base.frzs b o xs e), fun b ps e => ?_⟩, ?_, fun x c e => ?_, ?_, fun x c e => ?_, fun p hp => ?_, hok, I.len⟩
  · exact keep b o (neL b o e) hb (neC b o e hx) (I.base.keep b o e n hb hx) (I.base.free b o e n hx)
  · obtain ⟨sl, e1⟩ := I.base.slot b o e n hb hx
    obtain ⟨sl', e2⟩ := slot b _ (neL b o e) hb (neC b o e hx) e1 (I.base.free b o e n hx)
    exact ⟨sl', e2⟩
  · obtain ⟨o', e1⟩ := I.base.there b o e hx
    exact free b o' (neC b o e hx) e1 (I.base.free b o e n hx)
  · obtain ⟨o', e1⟩ := I.base.there b o e hx
    exact there b o' (neC b o e hx) e1
  · obtain ⟨m1, e1⟩ := I.base.tbls b ps e
    obtain ⟨m2, e2⟩ := tbls b _ e1
    exact ⟨m1 ++ m2, by rw [e2, Array.append_assoc]⟩
  · obtain ⟨m, hn, hl⟩ := I.loc
    refine ⟨m, ns m hn, fun i x v e1 e2 e3 => ?_⟩
    obtain ⟨u, r, l⟩ := hl i x v e1 e2 e3
    refine ⟨u, r, ?_⟩
    rcases l with l | ⟨k, c, e, z⟩
    · exact .inl l
    · exact .inr ⟨k, c, e, cellK x c e _ z⟩
  · obtain ⟨v, z⟩ := I.cell x c e
    exact ⟨v, cellK x c e v z⟩
  · obtain ⟨m, ⟨o, _, _, ho, _⟩, _⟩ := I.loc
    exact free _ o (fun z => (hch _ z).2.1 rfl) ho I.free
  · obtain ⟨v, o, ho, hd⟩ := I.cell x c e
    exact free c o (fun z => (hch c z).2.2.1 x c e rfl) ho (I.freeC x c e)
  · obtain ⟨e, n, ne, nf, d⟩ := I.pin p hp
    have nch : p.1 ∉ ch := fun z => (hch p.1 z).2.2.2 p hp rfl
    exact ⟨keep p.1 p.2 ne nf nch e n, free p.1 p.2 nch e n, ne, nf, d⟩
theorem Inv.un {t' : Nat} (I : Inv X pins σ H s) (u : Un X.fs [] H H' s.heap h') (hok : HOk X.prog X.w H' h') : Inv X pins σ H' { s with heap := h', toks := t' } := by
  obtain ⟨m, ⟨o, es, ep, ho, r⟩, _⟩ := id I.loc
  obtain ⟨sl, hL⟩ := u.any ho I.free (by simp)
  exact I.step (g' := s.gens) (d' := s.drawn) (ch := []) (fun _ z => nomatch z) (fun b o _ hb _ e n => u.keep b o e n hb (by simp)) (fun b o _ hb _ e n => u.slot b o e n hb (by simp)) (fun b o _ e n => u.free b o e n (by simp)) (fun b o _ e => u.there b o e (by simp)) u.tups u.frzs u.tbls (fun m' hm => by
    obtain ⟨o', es', ep', ho', r'⟩ := hm
    rw [ho] at ho'; cases ho'
    exact ⟨_, es', ep', hL, r'⟩) hok I.bare
theorem Inv.call {g' : Array GenState} {t' : Nat} {d' : Drawn} {ch : List Addr} (I : Inv X pins σ H s) (u : Un (frs X.stack) ch H H' s.heap h') (hok : HOk X.prog X.w H' h') (hg : AllBare g')
    (hch : ∀ b ∈ ch, (b ∈ X.ex ∨ X.s₀.heap.objs.size ≤ b) ∧ b ≠ X.env.locals ∧ (∀ x c, X.env.cells.lookup x = some c → c ≠ b) ∧ ∀ p ∈ X.pn ++ pins, p.1 ≠ b) :
    Inv X pins σ H' { s with heap := h', gens := g', drawn := d', toks := t' } := by
  obtain ⟨m, ⟨o, es, ep, ho, r⟩, _⟩ := id I.loc
  obtain ⟨sl, hL⟩ := u.any ho I.free fun z => (hch _ z).2.1 rfl
  exact I.step (ch := ch) hch (fun b o hL hb hc e n => u.keep b o e n (fun z => (List.mem_cons.mp (I.stkSub b z)).elim hL hb) hc) (fun b o _ _ hc e n => u.any e n hc) (fun b o hc e n => u.free b o e n hc) (fun b o hc e => u.there b o e hc) u.tups u.frzs u.tbls (fun m' hm => by
    obtain ⟨o', es', ep', ho', r'⟩ := hm
    rw [ho] at ho'; cases ho'
    exact ⟨_, es', ep', hL, r'⟩) hok hg
theorem Inv.turned {t' : Nat} {it : Addr} (I : Inv X pins σ H s) (k : ∀ b o, b ≠ it → s.heap.get? b = some o → h'.get? b = some o) (hn : H it = none) (hL : it ≠ X.env.locals)
    (h1 : it ∈ X.ex ∨ X.s₀.heap.objs.size ≤ it) (h2 : ∀ x c, X.env.cells.lookup x = some c → c ≠ it) (h3 : ∀ p ∈ X.pn ++ pins, p.1 ≠ it) : Inv X pins σ H { s with heap := h', toks := t' } := by
  have nit : ∀ b u, H b = some u → b ≠ it := fun b u e z => by rw [z, hn] at e; cases e
  refine I.step (g' := s.gens) (d' := s.drawn) (ch := [it]) (fun b hb => ?_) (fun b o _ _ hc e _ => k b o (fun z => hc (by simp [z])) e) (fun b o _ _ hc e _ => ⟨o.slots, k b o (fun z => hc (by simp [z])) e⟩) (fun _ _ _ _ n => n)
    (fun b o hc e => ⟨o, k b o (fun z => hc (by simp [z])) e⟩) (fun _ _ e => e) (fun _ _ _ e => e) (fun b ps e => ⟨#[], by rw [e]; simp⟩) (fun m hm => ?_) (fun b u e => ?_) I.bare
  · have e : b = it := by simpa using hb
    subst e
    exact ⟨h1, hL, h2, h3⟩
  · obtain ⟨o, es, ep, ho, r⟩ := hm
    exact ⟨o, es, ep, k _ o (Ne.symm hL) ho, r⟩
  · refine (I.hok b u e).stay (fun c v hc q => k c v ?_ q) (fun _ q => q) fun _ _ q => q
    rcases hc with z | z
    · rw [z]; exact nit b u e
    · exact nit c _ z
theorem Inv.tok (I : Inv X pins σ H s) (t : Nat) : Inv X pins σ H { s with toks := t } := I.un (h' := s.heap) (t' := t) Un.refl I.hok
theorem Inv.kept {t' : Nat} (I : Inv X pins σ H s) (k : ∀ b u, s.heap.get? b = some u → h'.get? b = some u) : Inv X pins σ H { s with heap := h', toks := t' } := I.un (Un.kept k) (I.hok.kept k)
theorem Inv.laid {a : Addr} {o : HO} {t' : Nat} (I : Inv X pins σ H s) (k : ∀ b u, s.heap.get? b = some u → h'.get? b = some u) (hp : s.heap.objs.size ≤ a) (new : ObjOk X.prog X.w (upd H a o) h' a o) :
    Inv X pins σ (upd H a o) { s with heap := h', toks := t' } := I.un (Un.laid k hp (I.hok.fresh hp)) (I.hok.laid k hp new)
theorem Inv.write {x e : Addr} {o : HO} {t' : Nat} (I : Inv X pins σ H s) (mu : Mut (H x)) (he : e = x ∨ H e = some (.own x)) (k : ∀ b u, b ≠ e → s.heap.get? b = some u → h'.get? b = some u) (heo : ∃ u, h'.get? e = some u)
    (new : ObjOk X.prog X.w (upd H x o) h' x o) : Inv X pins σ (upd H x o) { s with heap := h', toks := t' } := I.un (Un.write mu he k heo) (I.hok.write mu he k heo new)
theorem Inv.pins_of {pins' : List (Addr × Obj)} (I : Inv X pins σ H s) (h : ∀ p ∈ pins', s.heap.get? p.1 = some p.2 ∧ H p.1 = none ∧ p.1 ≠ X.env.locals ∧ p.1 ∉ X.fs ∧ ∀ v, p.2.data ≠ .cell v) : Inv X pins' σ H s :=
  ⟨I.ok, I.os, I.bare, I.base, I.loc, I.cell, I.free, I.freeC, fun p hp => (List.mem_append.mp hp).elim (fun z => I.pin p (List.mem_append_left _ z)) (h p), I.hok, I.len⟩
theorem nodup_ix {N : List Str} (hN : N.Nodup) {i j : Nat} {x : Str} (a : N[i]? = some x) (b : N[j]? = some x) : i = j := by
  obtain ⟨h1, e1⟩ := List.getElem?_eq_some_iff.mp a
  obtain ⟨h2, e2⟩ := List.getElem?_eq_some_iff.mp b
  exact (List.getElem_inj hN).mp (e1.trans e2.symm)
theorem store_ok2 {M : Model} {A : Around} {E : Value → Shared → Prop} {i : Nat} {x : Str} {v : V} {u : Value} {Q : Unit → Shared → Prop} (I : Inv X pins σ H s) (hN : X.N.Nodup) (hi : X.N[i]? = some x) (hx : Loc X.env.scope x) (r : RelV v u)
    (h : ∀ s', Inv X pins (σ.set i (some v)) H s' → (∃ a, Heap.SameBut a s.heap s'.heap ∧ (a = X.env.locals ∨ X.env.cells.lookup x = some a)) → Q () s') (hf : X.fn x = true ∨ X.env.scope.names.lookup x = some .local := by first | exact .inl rfl | exact .inr rfl | assumption) : wpAny M A (storeName X.env x u) Q E s := by
  obtain ⟨m, hn, hl⟩ := id I.loc
  have hcls : (X.env.scope.kind == .class || (X.env.scope.kind == .module && X.env.locals != X.env.globals)) = false := by rw [I.ok.kind]; rfl
  have hiσ : i < σ.length := by rw [I.len]; exact (List.getElem?_eq_some_iff.mp hi).1
  have cne := I.cne
  have tracked : ∀ {a : Addr} {h' : Heap}, (∃ o, s.heap.get? a = some o ∧ H a = none) → Heap.SameBut a s.heap h' → HOk X.prog X.w H h' := fun {a h'} ha hs b ob e => by
    obtain ⟨_, _, hfree⟩ := ha
    refine (I.hok b ob e).stay (fun c w' hc q => (hs.2 c ?_).trans q) (fun _ q => q) fun _ _ q => q
    rintro rfl
    rcases hc with rfl | hc
    · rw [hfree] at e; cases e
    · rw [hfree] at hc; cases hc
  rcases hx with hk | hk
  · refine wpAny_storeName_local hk hn (fun h' hn' hs => ?_) hcls
    obtain ⟨oL, _, _, hoL, _⟩ := id hn
    refine h _ ⟨I.ok, I.os, I.bare, ⟨fun b o e n hb hx => ?_, fun b o e n hb hx => ?_, I.base.free, fun b o e hx => ?_, I.base.tups, I.base.frzs, I.base.tbls⟩, ⟨_, hn', fun j y v' e1 e2 e3 => ?_⟩, fun y c e => ?_, I.free, I.freeC, fun p hp => ?_, tracked ⟨oL, hoL, I.free⟩ hs, by simpa using I.len⟩ ⟨_, hs, .inl rfl⟩
    · exact (hs.2 b (Nat.ne_of_lt (Nat.lt_of_lt_of_le (Heap.lt_size e) I.ok.above))).trans (I.base.keep b o e n hb hx)
    · obtain ⟨sl, e1⟩ := I.base.slot b o e n hb hx
      exact ⟨sl, (hs.2 b (Nat.ne_of_lt (Nat.lt_of_lt_of_le (Heap.lt_size e) I.ok.above))).trans e1⟩
    · obtain ⟨o', e1⟩ := I.base.there b o e hx
      exact ⟨o', (hs.2 b (Nat.ne_of_lt (Nat.lt_of_lt_of_le (Heap.lt_size e) I.ok.above))).trans e1⟩
    · by_cases hj : j = i
      · subst hj
        rw [hi] at e1; cases e1
        rw [List.getElem?_set_self hiσ] at e2
        cases e2
        exact ⟨u, r, .inl ⟨hk, by simp⟩⟩
      · rw [List.getElem?_set_ne (Ne.symm hj)] at e2
        obtain ⟨u', r', q⟩ := hl j y v' e1 e2 e3
        refine ⟨u', r', ?_⟩
        rcases q with ⟨k, e⟩ | ⟨k, c, e, z⟩
        · refine .inl ⟨k, ?_⟩
          have : y ≠ x := fun e => hj (nodup_ix hN e1 (e ▸ hi))
          simp [this, e]
        · exact .inr ⟨k, c, e, z.sameBut hs (cne y c e)⟩
    · obtain ⟨w', z⟩ := I.cell y c e
      exact ⟨w', z.sameBut hs (cne y c e)⟩
    · obtain ⟨e, n, ne, nf, d⟩ := I.pin p hp
      exact ⟨(hs.2 p.1 ne).trans e, n, ne, nf, d⟩
  · have hfn : X.fn x = true := by
      rcases hf with z | z
      · exact z
      · rw [z] at hk; cases hk
    obtain ⟨c, hc⟩ := I.ok.has x (.inl hk)
    obtain ⟨w', z⟩ := I.cell x c hc
    refine wpAny_storeName_cell I.ok.kind hk hc z (fun h' hc' hs => ?_)
    obtain ⟨oc, hoc, hocd⟩ := id z
    refine h { s with heap := h' } ⟨I.ok, I.os, I.bare, ⟨fun b o e n hb hx => ?_, fun b o e n hb hx => ?_, I.base.free, fun b o e hx => ?_, I.base.tups, I.base.frzs, I.base.tbls⟩, ⟨m, hn.sameBut hs (Ne.symm (cne x c hc)), fun j y v' e1 e2 e3 => ?_⟩, fun y c' e => ?_, I.free, I.freeC, fun p hp => ?_, tracked ⟨oc, hoc, I.freeC x c hc⟩ hs, by simpa using I.len⟩ ⟨c, hs, .inr hc⟩
    · exact (hs.2 b (Nat.ne_of_lt (Nat.lt_of_lt_of_le (Heap.lt_size e) (I.ok.cab x c hfn hc)))).trans (I.base.keep b o e n hb hx)
    · obtain ⟨sl, e1⟩ := I.base.slot b o e n hb hx
      exact ⟨sl, (hs.2 b (Nat.ne_of_lt (Nat.lt_of_lt_of_le (Heap.lt_size e) (I.ok.cab x c hfn hc)))).trans e1⟩
    · obtain ⟨o', e1⟩ := I.base.there b o e hx
      exact ⟨o', (hs.2 b (Nat.ne_of_lt (Nat.lt_of_lt_of_le (Heap.lt_size e) (I.ok.cab x c hfn hc)))).trans e1⟩
    · by_cases hj : j = i
      · subst hj
        rw [hi] at e1; cases e1
        rw [List.getElem?_set_self hiσ] at e2
        cases e2
        exact ⟨u, r, .inr ⟨.inl hk, c, hc, hc'⟩⟩
      · rw [List.getElem?_set_ne (Ne.symm hj)] at e2
        obtain ⟨u', r', q⟩ := hl j y v' e1 e2 e3
        refine ⟨u', r', ?_⟩
        rcases q with q | ⟨k, c', e, z'⟩
        · exact .inl q
        · refine .inr ⟨k, c', e, z'.sameBut hs ?_⟩
          rintro rfl
          exact hj (nodup_ix hN e1 (I.ok.inj _ _ _ e hc ▸ hi))
    · by_cases hcc : c' = c
      · subst hcc; exact ⟨_, hc'⟩
      · obtain ⟨w2, z2⟩ := I.cell y c' e
        exact ⟨w2, z2.sameBut hs hcc⟩
    · obtain ⟨e, n, ne, nf, d⟩ := I.pin p hp
      refine ⟨(hs.2 p.1 ?_).trans e, n, ne, nf, d⟩
      intro q
      rw [q, hoc] at e
      have q' : oc = p.2 := Option.some.inj e
      exact d w' (by rw [← q']; exact hocd)
theorem store_ok {M : Model} {A : Around} {E : Value → Shared → Prop} {i : Nat} {x : Str} {v : V} {u : Value} {Q : Unit → Shared → Prop} (I : Inv X pins σ H s) (hN : X.N.Nodup) (hi : X.N[i]? = some x) (hx : Loc X.env.scope x) (r : RelV v u)
    (h : ∀ s', Inv X pins (σ.set i (some v)) H s' → Q () s') (hf : X.fn x = true ∨ X.env.scope.names.lookup x = some .local := by first | exact .inl rfl | exact .inr rfl | assumption) : wpAny M A (storeName X.env x u) Q E s :=
  store_ok2 I hN hi hx r (fun s' I' _ => h s' I') hf
theorem Inv.call' {s' : Shared} {ch : List Addr} (I : Inv X pins σ H s) (ho : s'.os = s.os) (u : Un (frs X.stack) ch H H' s.heap s'.heap) (hok : HOk X.prog X.w H' s'.heap) (hg : AllBare s'.gens)
    (hch : ∀ b ∈ ch, (b ∈ X.ex ∨ X.s₀.heap.objs.size ≤ b) ∧ b ≠ X.env.locals ∧ (∀ x c, X.env.cells.lookup x = some c → c ≠ b) ∧ ∀ p ∈ X.pn ++ pins, p.1 ≠ b) : Inv X pins σ H' s' := by
  obtain ⟨h', g', d', t', o'⟩ := s'
  have e : o' = s.os := ho
  subst e
  exact I.call (g' := g') (t' := t') (d' := d') u hok hg hch
end
abbrev XK := Value → Option Addr → Hp → Prop
abbrev St := List (Option V)
abbrev VK := V → Hp → Prop
abbrev TE := St → Hp → VK → Prop
abbrev TT := St → Hp → (Bool → Hp → Prop) → Prop
abbrev TA := St → Hp → (List V → Hp → Prop) → Prop
structure Ends where
  nx : St → Hp → Prop
  rt : VK
  bk : St → Hp → Prop := fun _ _ => False
  ct : St → Hp → Prop := fun _ _ => False
abbrev TS := Ends → St → Hp → Prop
def EP (X : Cx) (pins : List (Addr × Obj)) (σ : St) (Q : VK) (u : Value) (s' : Shared) : Prop := ∃ v H', Inv X pins σ H' s' ∧ RelV v u ∧ Q v H'
def TP (X : Cx) (pins : List (Addr × Obj)) (σ : St) (Q : Bool → Hp → Prop) (b : Bool) (s' : Shared) : Prop := ∃ H', Inv X pins σ H' s' ∧ Q b H'
def AP (X : Cx) (pins : List (Addr × Obj)) (σ : St) (Q : List V → Hp → Prop) (us : List Value) (s' : Shared) : Prop := ∃ vs H', Inv X pins σ H' s' ∧ Vals vs us ∧ Q vs H'
def SP (X : Cx) (pins : List (Addr × Obj)) (D : Ends) (f : Flow) (s' : Shared) : Prop :=
  match f with
  | .next => ∃ σ' H', Inv X pins σ' H' s' ∧ D.nx σ' H'
  | .brk => ∃ σ' H', Inv X pins σ' H' s' ∧ D.bk σ' H'
  | .cont => ∃ σ' H', Inv X pins σ' H' s' ∧ D.ct σ' H'
  | .ret u => ∃ v σ' H', Inv X pins σ' H' s' ∧ RelV v u ∧ D.rt v H'
def PE (X : Cx) (e : Expr) (t : TE) : Prop :=
  ∀ (pins : List (Addr × Obj)) (s : Shared) (σ : St) (H : Hp) (Q : VK), Inv X pins σ H s → t σ H Q → wpAny (model X.prog X.w) X.A (eval e X.env) (EP X pins σ Q) X.xe s
def PT (X : Cx) (e : Expr) (t : TT) : Prop :=
  ∀ (pins : List (Addr × Obj)) (s : Shared) (σ : St) (H : Hp) (Q : Bool → Hp → Prop), Inv X pins σ H s → t σ H Q → wpAny (model X.prog X.w) X.A (isTrue e X.env (eval e X.env)) (TP X pins σ Q) X.xe s
def PW (X : Cx) (e : Expr) (t : TT) : Prop :=
  ∀ (whole : Sem Value) (pins : List (Addr × Obj)) (s : Shared) (σ : St) (H : Hp) (Q : Bool → Hp → Prop), Inv X pins σ H s → t σ H Q → wpAny (model X.prog X.w) X.A (isTrue e X.env whole) (TP X pins σ Q) X.xe s
theorem PW.pt {X : Cx} {e : Expr} {t : TT} (h : PW X e t) : PT X e t := h _
def PA (X : Cx) (es : List Expr) (t : TA) : Prop :=
  ∀ (pos : Pos) (pins : List (Addr × Obj)) (s : Shared) (σ : St) (H : Hp) (Q : List V → Hp → Prop), Inv X pins σ H s → t σ H Q → wpAny (model X.prog X.w) X.A (spliced (backTo pos (starEach es X.env))) (AP X pins σ Q) X.xe s
def PS (X : Cx) (st : Stmt) (t : TS) : Prop :=
  ∀ (pins : List (Addr × Obj)) (s : Shared) (σ : St) (H : Hp) (D : Ends), Inv X pins σ H s → t D σ H → wpAny (model X.prog X.w) X.A (exec st X.env) (SP X pins D) X.xe s
def PSs (X : Cx) (st : List Stmt) (t : TS) : Prop :=
  ∀ (pins : List (Addr × Obj)) (s : Shared) (σ : St) (H : Hp) (D : Ends), Inv X pins σ H s → t D σ H → wpAny (model X.prog X.w) X.A (execs st X.env) (SP X pins D) X.xe s
theorem thn {α : Type} {t : Sem α} {Q Q' : α → Shared → Prop} {M : Model} {A : Around} {E : Value → Shared → Prop} {s : Shared} (h : wpAny M A t Q E s) (hQ : ∀ a s, Q a s → Q' a s) : wpAny M A t Q' E s := wpAny_mono h hQ fun _ _ x => x
end L2
namespace L2
open PySem PySem.Spec PyProof.Rows
section
variable {X : Cx}
def tVar (i : Nat) : TE := fun σ H Q => ∃ v, σ[i]? = some (some v) ∧ Q v H
def tC (v : V) : TE := fun _ H Q => Q v H
theorem pe_var {i : Nat} {x : Str} {pos : Pos} (hN : X.N[i]? = some x) (hv : Vis X.env.scope x) (hd : (x == ("__debug__" : Str)) = false := by decide) (hcd : (x == ("__classdict__" : Str)) = false := by decide) : PE X (.Name x pos) (tVar i) := by
  intro pins s σ H Q I h
  obtain ⟨v, e, h⟩ := h
  obtain ⟨m, hn, hl⟩ := I.loc
  obtain ⟨u, r, l⟩ := hl i x v hN e hv
  have fin : EP X pins σ Q u s := ⟨v, H, I, r, h⟩
  rcases l with ⟨hk, hm⟩ | ⟨hk, c, hc, hcell⟩
  · exact wpAny_Name (wpAny_loadName_local I.ok.kind hk hn hm fin) hd
  · rcases hk with hk | hk
    · exact wpAny_Name (wpAny_loadName_cell I.ok.kind hk hc hcell fin) hd
    · exact wpAny_Name (wpAny_loadName_free I.ok.kind hk hc hcell fin hcd) hd
theorem pe_int {i j pos} : PE X (.Constant (.int i) j pos) (tC (.int i)) := fun _ _ _ H _ I h => wpAny_Constant_int ⟨.int i, H, I.tok _, ⟨_, rfl⟩, h⟩
theorem pe_bl {b j pos} : PE X (.Constant (.bool b) j pos) (tC (.bl b)) := fun _ _ _ H _ I h => Constant_bool ⟨.bl b, H, I, rfl, h⟩
theorem pe_non {j pos} : PE X (.Constant .none j pos) (tC .non) := fun _ _ _ H _ I h => Constant_none ⟨.non, H, I, rfl, h⟩
theorem pe_str {x j pos} : PE X (.Constant (.str x) j pos) (tC (.str x)) := fun _ _ _ H _ I h => Calls.Constant_str ⟨.str x, H, I.tok _, ⟨_, rfl⟩, h⟩
def Gl (X : Cx) (x : Str) : Prop := X.env.kindOf x = some .globalImplicit
theorem ld_glob {E : Value → Shared → Prop} {pins : List (Addr × Obj)} {s : Shared} {σ : St} {H : Hp} {x : Str} {u : Value} {pos : Pos} {Q : Value → Shared → Prop} (I : Inv X pins σ H s) (hg : Gl X x) (hm : X.mg x = some u) (h : Q u s)
    (hd : (x == ("__debug__" : Str)) = false := by decide) : wpAny (model X.prog X.w) X.A (eval (.Name x pos) X.env) Q E s :=
  Calls.Name_function_global I.ok.kind hg (Calls.loadGlobal_global (by rw [I.ok.glob]; exact I.mod.glob.keeps I.bk) hm h) hd
theorem ld_blt {E : Value → Shared → Prop} {pins : List (Addr × Obj)} {s : Shared} {σ : St} {H : Hp} {x : Str} {u : Value} {pos : Pos} {Q : Value → Shared → Prop} (I : Inv X pins σ H s) (hg : Gl X x) (hm : X.mg x = none) (hv : bootBuiltins x = some u) (h : Q u s)
    (hn : x ≠ "__name__" := by decide) (hd : (x == ("__debug__" : Str)) = false := by decide) : wpAny (model X.prog X.w) X.A (eval (.Name x pos) X.env) Q E s := by
  obtain ⟨mb, h1, h2⟩ := I.mod.blt
  exact Calls.Name_function_global I.ok.kind hg (Calls.loadGlobal_builtin (by rw [I.ok.glob]; exact I.mod.glob.keeps I.bk) hm (by rw [I.ok.blt]; exact h1.keeps I.bk) ((h2 x hn).trans hv) h) hd
theorem pe_glob {x : Str} {v : V} {u : Value} {pos : Pos} (hg : Gl X x) (hm : X.mg x = some u) (r : RelV v u) (hd : (x == ("__debug__" : Str)) = false := by decide) : PE X (.Name x pos) (tC v) :=
  fun _ _ _ H _ I h => ld_glob I hg hm ⟨v, H, I, r, h⟩ hd
theorem pe_bltn {x : Str} {v : V} {u : Value} {pos : Pos} (hg : Gl X x) (hm : X.mg x = none) (hv : bootBuiltins x = some u) (r : RelV v u) (hn : x ≠ "__name__" := by decide) (hd : (x == ("__debug__" : Str)) = false := by decide) : PE X (.Name x pos) (tC v) :=
  fun _ _ _ H _ I h => ld_blt I hg hm hv ⟨v, H, I, r, h⟩ hn hd
variable {a b : Expr} {ta tb : TE} {pos : Pos}
def tB (t : TE) : TT := fun σ H Q => t σ H fun x H1 => ∃ c, x = .bl c ∧ Q c H1
theorem pt_val {e : Expr} {t : TE} (h : PE X e t) (he : ∀ whole, isTrue e X.env whole = (do let v ← whole; standAt e.pos; holding [v] (truthy v)) := by intro _; rfl) : PT X e (tB t) := by
  intro pins s σ H Q I hw
  refine isTrue_plain (thn (h pins s σ H _ I hw) fun v s1 ⟨x, H1, I1, r1, q1⟩ => ?_) (he _)
  obtain ⟨d, rfl, q⟩ := q1
  cases r1
  exact wpAny_truthy_bool ⟨H1, I1, q⟩
variable {tA tB' : TT} {rest : List Expr}
def tAnd (t u : TT) : TT := fun σ H Q => t σ H fun c H1 => if c = true then u σ H1 Q else Q false H1
def tOr (t u : TT) : TT := fun σ H Q => t σ H fun c H1 => if c = true then Q true H1 else u σ H1 Q
def tNot (t : TT) : TT := fun σ H Q => t σ H fun c H1 => Q (!c) H1
theorem pw_and1 (ha : PT X a tA) : PW X (.BoolOp .And [a] pos) tA := by
  intro wh pins s σ H Q I h
  refine isTrue_and (thn (ha pins s σ H Q I h) fun c s1 e => ?_)
  cases c with
  | true => exact isTrue_and_nil e
  | false => exact e
theorem pw_or1 (ha : PT X a tA) : PW X (.BoolOp .Or [a] pos) tA := by
  intro wh pins s σ H Q I h
  refine isTrue_or (thn (ha pins s σ H Q I h) fun c s1 e => ?_)
  cases c with
  | false => exact isTrue_or_nil e
  | true => exact e
theorem pw_and (ha : PT X a tA) (hb : PW X (.BoolOp .And (b :: rest) pos) tB') : PW X (.BoolOp .And (a :: b :: rest) pos) (tAnd tA tB') := by
  intro wh pins s σ H Q I h
  refine isTrue_and (thn (ha pins s σ H _ I h) fun c s1 ⟨H1, I1, q1⟩ => ?_)
  cases c with
  | true => exact hb wh pins s1 σ H1 Q I1 q1
  | false => exact ⟨H1, I1, q1⟩
theorem pw_or (ha : PT X a tA) (hb : PW X (.BoolOp .Or (b :: rest) pos) tB') : PW X (.BoolOp .Or (a :: b :: rest) pos) (tOr tA tB') := by
  intro wh pins s σ H Q I h
  refine isTrue_or (thn (ha pins s σ H _ I h) fun c s1 ⟨H1, I1, q1⟩ => ?_)
  cases c with
  | true => exact ⟨H1, I1, q1⟩
  | false => exact hb wh pins s1 σ H1 Q I1 q1
theorem pt_not (ha : PT X a tA) : PT X (.UnaryOp .Not a pos) (tNot tA) := by
  intro pins s σ H Q I h
  exact isTrue_not (ha pins s σ H (fun c H1 => Q (!c) H1) I h)
def tAndV (ta tb : TE) : TE := fun σ H Q => ta σ H fun x H1 => ∃ c, x = .bl c ∧ if c = true then tb σ H1 Q else Q (.bl false) H1
def tNotV (ta : TE) : TE := fun σ H Q => ta σ H fun x H1 => ∃ c, x = .bl c ∧ Q (.bl (!c)) H1
theorem pe_one {op} {t : TE} (h : PE X a t) : PE X (.BoolOp op [a] pos) t := fun pins s σ H Q I hw => BoolOp_one (h pins s σ H Q I hw)
theorem pe_and (ha : PE X a ta) (hb : PE X (.BoolOp .And (b :: rest) pos) tb) : PE X (.BoolOp .And (a :: b :: rest) pos) (tAndV ta tb) := by
  intro pins s σ H Q I h
  refine BoolOp_and (thn (ha pins s σ H _ I h) fun v s1 ⟨x, H1, I1, r1, q1⟩ => ?_)
  obtain ⟨c, rfl, q1⟩ := q1
  cases r1
  refine wpAny_truthy_bool ?_
  cases c with
  | true => exact hb pins s1 σ H1 Q I1 q1
  | false => exact ⟨.bl false, H1, I1, rfl, q1⟩
theorem pe_not (ha : PE X a ta) : PE X (.UnaryOp .Not a pos) (tNotV ta) := by
  intro pins s σ H Q I h
  refine UnaryOp_ (thn (ha pins s σ H _ I h) fun v s1 ⟨x, H1, I1, r1, q1⟩ => ?_)
  obtain ⟨c, rfl, q1⟩ := q1
  cases r1
  exact not_of (wpAny_truthy_bool ⟨.bl (!c), H1, I1, rfl, q1⟩)
def tIf (t : TT) (ta tb : TE) : TE := fun σ H Q => t σ H fun c H1 => if c = true then ta σ H1 Q else tb σ H1 Q
theorem pe_ifExp {c : Expr} (hc : PT X c tA) (ha : PE X a ta) (hb : PE X b tb) : PE X (.IfExp c a b pos) (tIf tA ta tb) := by
  intro pins s σ H Q I h
  refine wpAny_IfExp (thn (hc pins s σ H _ I h) fun d s1 ⟨H1, I1, q1⟩ => ?_)
  cases d with
  | true => exact ha pins s1 σ H1 Q I1 q1
  | false => exact hb pins s1 σ H1 Q I1 q1
end
end L2
namespace L2
open PySem PySem.Spec PyProof.Rows
def SqL (K : PySem.W.Frag) (H : Hp) (a : Addr) (xs : List V) : Prop :=
  Rd H a (.lst xs) ∨
    ∃ (o : Obj) (its : Array Value) (n : Nat), K.lookup a = some o ∧ o.cls = .type "list" ∧ o.dict = none ∧ o.data = .seq its n ∧ its.size ≤ sizeLine ∧ Vals xs its.toList
def SqT (K : PySem.W.Frag) (H : Hp) (a : Addr) (xs : List V) : Prop :=
  Rd H a (.tup xs) ∨
    ∃ (o : Obj) (its : Array Value) (n : Nat), K.lookup a = some o ∧ o.cls = .type "tuple" ∧ o.data = .seq its n ∧ its.size ≤ sizeLine ∧ Vals xs its.toList
def absV : Value → Option V
  | .none => some .non
  | .bool b => some (.bl b)
  | .int i _ => some (.int i)
  | .str x _ => some (.str x)
  | .bytes b _ => some (.byt b)
  | .float b _ => some (.flt b)
  | .ref a => some (.ref a)
  | .type n => some (.ty n)
  | _ => none
theorem RelV.abs {x : V} {u : Value} (r : RelV x u) : absV u = some x := by
  cases x with
  | non => cases r; rfl
  | bl _ => cases r; rfl
  | int _ => obtain ⟨t, rfl⟩ := r; rfl
  | str _ => obtain ⟨t, rfl⟩ := r; rfl
  | byt _ => obtain ⟨t, rfl⟩ := r; rfl
  | flt _ => obtain ⟨t, rfl⟩ := r; rfl
  | ref _ => cases r; rfl
  | ty _ => cases r; rfl
theorem RelV.inj {x y : V} {u : Value} (r : RelV x u) (q : RelV y u) : x = y := Option.some.inj (r.abs.symm.trans q.abs)
theorem Vals.inj : ∀ {xs ys : List V} {us : List Value}, Vals xs us → Vals ys us → xs = ys
  | _, _, _, .nil, .nil => rfl
  | _, _, _, .cons r t, .cons r' t' => by rw [r.inj r', Vals.inj t t']
section
variable {X : Cx} {pins : List (Addr × Obj)} {σ : St} {H : Hp} {s : Shared} {a : Addr} {xs ys : List V}
theorem SqL.of {K : PySem.W.Frag} (h : H a = some (.lst xs)) : SqL K H a xs := .inl (.inl h)
theorem SqT.of {K : PySem.W.Frag} (h : H a = some (.tup xs)) : SqT K H a xs := .inl (.inl h)
theorem Inv.list (I : Inv X pins σ H s) (h : SqL X.K H a xs) : ∃ its : List Value, Vals xs its ∧ PlainL s.heap a its.toArray ∧ xs.length ≤ sizeLine := by
  rcases h with h | ⟨o, its, n, hk, hc, hd, hs, hz, r⟩
  · obtain ⟨z, its, n, r, e⟩ := h.ok I.hok
    exact ⟨its, r, ⟨_, n, e, rfl, rfl, rfl⟩, z⟩
  · refine ⟨its.toList, r, ⟨o, n, I.kIn a o hk, hc, hd, by simpa using hs⟩, ?_⟩
    have e := r.length
    simp only [Array.length_toList] at e
    omega
theorem Inv.tuple (I : Inv X pins σ H s) (h : SqT X.K H a xs) : ∃ its : List Value, Vals xs its ∧ IsTup s.heap a its.toArray ∧ xs.length ≤ sizeLine := by
  rcases h with h | ⟨o, its, n, hk, hc, hs, hz, r⟩
  · obtain ⟨z, its, r, p⟩ := h.ok I.hok
    exact ⟨its, r, p, z⟩
  · refine ⟨its.toList, r, ⟨o, I.kIn a o hk, hc, n, by simpa using hs⟩, ?_⟩
    have e := r.length
    simp only [Array.length_toList] at e
    omega
theorem Inv.list_inj (I : Inv X pins σ H s) (h : SqL X.K H a xs) (h' : SqL X.K H a ys) : xs = ys := by
  obtain ⟨its, r, ⟨o, n, e, _, _, d⟩, _⟩ := I.list h
  obtain ⟨its', r', ⟨o', n', e', _, _, d'⟩, _⟩ := I.list h'
  rw [e] at e'; cases e'
  rw [d] at d'
  injection d' with d1 _
  have : its = its' := by simpa using congrArg Array.toList d1
  subst this
  exact r.inj r'
theorem Inv.tuple_inj (I : Inv X pins σ H s) (h : SqT X.K H a xs) (h' : SqT X.K H a ys) : xs = ys := by
  obtain ⟨its, r, ⟨o, e, _, n, d⟩, _⟩ := I.tuple h
  obtain ⟨its', r', ⟨o', e', _, n', d'⟩, _⟩ := I.tuple h'
  rw [e] at e'; cases e'
  rw [d] at d'
  injection d' with d1 _
  have : its = its' := by simpa using congrArg Array.toList d1
  subst this
  exact r.inj r'
end
abbrev Cx.wish (X : Cx) (E : Value → Shared → Prop) : Cx := { X with xe := E }
abbrev Cx.nox (X : Cx) : Cx := X.wish fun _ _ => False
theorem Cx.Ok.wish {X : Cx} (ok : X.Ok) (E : Value → Shared → Prop) : (X.wish E).Ok :=
  ⟨ok.mod, ok.kind, ok.glob, ok.blt, ok.above, ok.inj, ok.has, ok.cab, ok.hd, ok.frames, ok.stk, ok.exf, ok.bs, ok.bsz, ok.noex, ok.exfs, ok.funs, ok.frf⟩
theorem Cx.Ok.unwish {X : Cx} {E : Value → Shared → Prop} (ok : (X.wish E).Ok) : X.Ok :=
  ⟨ok.mod, ok.kind, ok.glob, ok.blt, ok.above, ok.inj, ok.has, ok.cab, ok.hd, ok.frames, ok.stk, ok.exf, ok.bs, ok.bsz, ok.noex, ok.exfs, ok.funs, ok.frf⟩
section
variable {X : Cx} {pins : List (Addr × Obj)} {σ : St} {H : Hp} {s : Shared} {E : Value → Shared → Prop}
theorem Inv.wish (I : Inv X pins σ H s) (E : Value → Shared → Prop) : Inv (X.wish E) pins σ H s := ⟨I.ok.wish E, I.os, I.bare, I.base, I.loc, I.cell, I.free, I.freeC, I.pin, I.hok, I.len⟩
theorem Inv.unwish (I : Inv (X.wish E) pins σ H s) : Inv X pins σ H s := ⟨I.ok.unwish, I.os, I.bare, I.base, I.loc, I.cell, I.free, I.freeC, I.pin, I.hok, I.len⟩
theorem SP.unwish {D : Ends} {f : Flow} {s' : Shared} (h : SP (X.wish E) pins D f s') : SP X pins D f s' := by
  cases f with
  | next => obtain ⟨σ', H', I, q⟩ := h; exact ⟨σ', H', I.unwish, q⟩
  | brk => obtain ⟨σ', H', I, q⟩ := h; exact ⟨σ', H', I.unwish, q⟩
  | cont => obtain ⟨σ', H', I, q⟩ := h; exact ⟨σ', H', I.unwish, q⟩
  | ret u => obtain ⟨v, σ', H', I, r, q⟩ := h; exact ⟨v, σ', H', I.unwish, r, q⟩
theorem PE.nox {e : Expr} {t : TE} (h : PE X.nox e t) : PE X e t := fun pins s σ H Q I hw =>
  wpAny_mono (h pins s σ H Q (I.wish _) hw) (fun _ _ ⟨v, H', I', r, q⟩ => ⟨v, H', I'.unwish, r, q⟩) fun _ _ z => False.elim z
theorem PT.nox {e : Expr} {t : TT} (h : PT X.nox e t) : PT X e t := fun pins s σ H Q I hw =>
  wpAny_mono (h pins s σ H Q (I.wish _) hw) (fun _ _ ⟨H', I', q⟩ => ⟨H', I'.unwish, q⟩) fun _ _ z => False.elim z
theorem PSs.nox {st : List Stmt} {t : TS} (h : PSs X.nox st t) : PSs X st t := fun pins s σ H D I hw =>
  wpAny_mono (h pins s σ H D (I.wish _) hw) (fun _ _ q => q.unwish) fun _ _ z => False.elim z
end
section
variable {X : Cx} {st : Stmt} {rest : List Stmt} {t u : TS} {e : Expr} {te : TE} {pos : Pos}
def tNext : TS := fun D σ H => D.nx σ H
def tSeq (t u : TS) : TS := fun D σ H => t { D with nx := u D } σ H
theorem pss_nil : PSs X [] tNext := fun _ _ σ H _ I h => wpAny_execs_nil ⟨σ, H, I, h⟩
theorem pss_cons (h1 : PS X st t) (h2 : PSs X rest u) : PSs X (st :: rest) (tSeq t u) := by
  intro pins s σ H D I h
  refine wpAny_execs_cons (thn (h1 pins s σ H { D with nx := u D } I h) fun f s1 q => ?_)
  cases f with
  | next =>
    obtain ⟨σ', H', I', q⟩ := q
    exact h2 pins s1 σ' H' D I' q
  | ret v => exact q
  | brk => exact q
  | cont => exact q
theorem pss_one (h1 : PS X st t) : PSs X [st] t := by
  intro pins s σ H D I h
  refine wpAny_execs_cons (thn (h1 pins s σ H D I h) fun f s1 q => ?_)
  cases f with
  | next => exact wpAny_execs_nil q
  | ret v => exact q
  | brk => exact q
  | cont => exact q
theorem Inv.quiet {pins : List (Addr × Obj)} {σ : St} {H : Hp} {s : Shared} (I : Inv X pins σ H s) : interactive X.env = false := by simp [interactive, I.ok.kind]
def tDrop (te : TE) : TS := fun D σ H => te σ H fun _ H1 => D.nx σ H1
theorem ps_expr (he : PE X e te) (hs : swapsWith e none pos.line X.env = pure false := by rfl) : PS X (.Expr e pos) (tDrop te) := by
  intro pins s σ H D I h
  exact wpAny_Expr_any (thn (he pins s σ H _ I h) fun v s1 ⟨x, H1, I1, r1, q1⟩ => ⟨σ, H1, I1, q1⟩) I.quiet hs
def tRet (te : TE) : TS := fun D σ H => te σ H D.rt
theorem ps_ret (he : PE X e te) : PS X (.Return (some e) pos) (tRet te) := by
  intro pins s σ H D I h
  exact wpAny_Return_some (thn (he pins s σ H _ I h) fun v s1 ⟨x, H1, I1, r1, q1⟩ => ⟨x, σ, H1, I1, r1, q1⟩)
def tIfS (c : TT) (t u : TS) : TS := fun D σ H => c σ H fun b H1 => if b = true then t D σ H1 else u D σ H1
theorem ps_if {c : Expr} {a b : List Stmt} {tc : TT} (hc : PT X c tc) (ha : PSs X a t) (hb : PSs X b u) : PS X (.If c a b pos) (tIfS tc t u) := by
  intro pins s σ H D I h
  refine wpAny_If (thn (hc pins s σ H _ I h) fun d s1 ⟨H1, I1, q1⟩ => ?_)
  cases d with
  | true => exact ha pins s1 σ H1 D I1 q1
  | false => exact hb pins s1 σ H1 D I1 q1
def tNever : TS := fun _ _ _ => False
theorem ps_never : PS X st tNever := fun _ _ _ _ _ _ h => h.elim
end
abbrev TG := V → St → Hp → (St → Hp → Prop) → Prop
abbrev TGs := List V → St → Hp → (St → Hp → Prop) → Prop
def PG (X : Cx) (target : Expr) (t : TG) : Prop :=
  ∀ (pins : List (Addr × Obj)) (s : Shared) (σ : St) (H : Hp) (v : V) (u : Value) (Q : St → Hp → Prop), Inv X pins σ H s → RelV v u → t v σ H Q →
    wpAny (model X.prog X.w) X.A (assign target X.env u) (fun _ s' => ∃ σ' H', Inv X pins σ' H' s' ∧ Q σ' H') X.xe s
def PGs (X : Cx) (ts : List Expr) (t : TGs) : Prop :=
  ∀ (pins : List (Addr × Obj)) (s : Shared) (σ : St) (H : Hp) (vs : List V) (us : List Value) (Q : St → Hp → Prop), Inv X pins σ H s → Vals vs us → t vs σ H Q →
    wpAny (model X.prog X.w) X.A (assignInOrder ((assignEach ts X.env).map (·.2)) us) (fun _ s' => ∃ σ' H', Inv X pins σ' H' s' ∧ Q σ' H') X.xe s
section
variable {X : Cx} {pos : Pos}
def gName (i : Nat) : TG := fun v σ H Q => Q (σ.set i (some v)) H
theorem pg_name {i : Nat} {x : Str} (hN : X.N.Nodup) (hi : X.N[i]? = some x) (hx : Loc X.env.scope x) (hf : X.fn x = true ∨ X.env.scope.names.lookup x = some .local := by first | exact .inl rfl | exact .inr rfl | assumption) : PG X (.Name x pos) (gName i) := by
  intro pins s σ H v u Q I r h
  exact wpAny_assign_Name (store_ok I hN hi hx r (fun s' I' => ⟨_, H, I', h⟩) hf)
def gNil : TGs := fun vs σ H Q => vs = [] ∧ Q σ H
def gCons (t : TG) (u : TGs) : TGs := fun vs σ H Q => ∃ v r, vs = v :: r ∧ t v σ H fun σ' H' => u r σ' H' Q
theorem pgs_nil : PGs X [] gNil := by
  intro pins s σ H vs us Q I r h
  obtain ⟨e, h⟩ := h
  subst e
  cases r
  exact assignInOrder_nil ⟨σ, H, I, h⟩
theorem pgs_cons {e : Expr} {es : List Expr} {t : TG} {u : TGs} (h1 : PG X e t) (h2 : PGs X es u)
    (hs : (assignEach (e :: es) X.env).map (·.2) = assign e X.env :: (assignEach es X.env).map (·.2) := by rfl) : PGs X (e :: es) (gCons t u) := by
  intro pins s σ H vs us Q I r h
  obtain ⟨v, vr, e1, h⟩ := h
  subst e1
  cases r with
  | cons r rr =>
    rw [hs]
    refine assignInOrder_cons (thn (h1 pins s σ H _ _ _ I r h) fun _ s1 ⟨σ1, H1, I1, q1⟩ => ?_)
    exact h2 pins s1 σ1 H1 _ _ Q I1 rr q1
def gTup (K : PySem.W.Frag) (n : Nat) (t : TGs) : TG := fun v σ H Q => ∃ a xs, v = .ref a ∧ SqT K H a xs ∧ xs.length = n ∧ t xs σ H Q
theorem pg_tup {es : List Expr} {k : Nat} {t : TGs} {n : Nat} (hc : X.calm = true) (h : PGs X es t)
    (hn : (assignEach es X.env).length = n := by rfl) (hst : (assignEach es X.env).findIdx? (·.1) = none := by rfl) : PG X (.Tuple es k pos) (gTup X.K n t) := by
  intro pins s σ H v u Q I r hw
  obtain ⟨a, xs, e1, hq, hl, hw⟩ := hw
  subst e1
  cases r
  obtain ⟨its, rv, ht, hz⟩ := I.tuple hq
  refine assign_Tuple_tuple (I.ok.hd hc) ht (by simp [hn, ← hl, rv.length]) hst fun h' hx => ?_
  have I1 : Inv X pins σ H { s with heap := h' } := I.kept (t' := s.toks) fun b o e => hx b o (Nat.ne_of_lt (Heap.lt_size e)) e
  exact h pins _ σ H xs _ Q I1 (by simpa using rv) hw
def tAsg (te : TE) (g : TG) : TS := fun D σ H => te σ H fun x H1 => g x σ H1 D.nx
theorem ps_asg {tg e : Expr} {te : TE} {g : TG} (he : PE X e te) (hg : PG X tg g) (hs : swapsWithSole [tg] e pos.line X.env = pure false := by rfl) (hw : swappedStores [tg] e X.env = pure none := by rfl)
    (h1 : (assignEach [tg] X.env).map (·.2) = [assign tg X.env] := by rfl) : PS X (.Assign [tg] e pos) (tAsg te g) := by
  intro pins s σ H D I h
  refine wpAny_Assign_stores (thn (he pins s σ H _ I h) fun v s1 ⟨x, H1, I1, r1, q1⟩ => ?_) hs hw
  rw [h1]
  exact thn (hg pins s1 σ H1 x v _ I1 r1 q1) fun _ s2 q => q
theorem ps_set {i : Nat} {x : Str} {e : Expr} {te : TE} {pos' : Pos} (hN : X.N.Nodup) (hi : X.N[i]? = some x) (hx : Loc X.env.scope x) (he : PE X e te) (hs : swapsWith e (some (.Name x pos')) pos.line X.env = pure false := by rfl) (hf : X.fn x = true ∨ X.env.scope.names.lookup x = some .local := by first | exact .inl rfl | exact .inr rfl | assumption) :
    PS X (.Assign [.Name x pos'] e pos) (tAsg te (gName i)) := by
  intro pins s σ H D I h
  refine wpAny_Assign_Name (thn (he pins s σ H _ I h) fun v s1 ⟨y, H1, I1, r1, q1⟩ => ?_) hs
  exact store_ok I1 hN hi hx r1 (fun s2 I2 => ⟨_, H1, I2, q1⟩) hf
end
section
variable {X : Cx} {pos : Pos}
def tWhile (c : TT) (tb : TS) : TS := fun D σ H => ∃ W : Nat → St → Hp → Prop, (∃ m, W m σ H) ∧ ∀ m σ H, W m σ H →
  c σ H fun b H1 => if b = true then ∃ N : St → Hp → Prop, (∀ σ' H', N σ' H' → ∃ m', m' < m ∧ W m' σ' H') ∧ tb { D with nx := N, ct := N, bk := D.nx } σ H1 else D.nx σ H1
theorem ps_while {c : Expr} {body : List Stmt} {tc : TT} {tb : TS} (hp : PassesOwn (model X.prog X.w) X.A X.env X.xe) (hc : PT X c tc) (hb : PSs X body tb) : PS X (.While c body [] pos) (tWhile tc tb) := by
  intro pins s σ H D I h
  obtain ⟨W, ⟨m0, w0⟩, turn⟩ := h
  refine wpAny_While (codeAny_whileLoop (fun n s' => ∃ σ' H', Inv X pins σ' H' s' ∧ W n σ' H') ?_ m0 ⟨σ, H, I, w0⟩)
  rintro n s1 ⟨σ1, H1, I1, w1⟩
  refine wpAny_passesOwn hp (thn (hc pins s1 σ1 H1 _ I1 (turn n σ1 H1 w1)) fun b s2 ⟨H2, I2, q2⟩ => ?_)
  cases b with
  | true =>
    obtain ⟨N, hN, q2⟩ := q2
    rw [if_pos rfl]
    refine wpAny_passesOwn hp (thn (hb pins s2 σ1 H2 _ I2 q2) fun f s3 q3 => ?_)
    cases f with
    | next =>
      obtain ⟨σ3, H3, I3, n3⟩ := q3
      obtain ⟨m', hm, w3⟩ := hN σ3 H3 n3
      exact ⟨m', hm, σ3, H3, I3, w3⟩
    | cont =>
      obtain ⟨σ3, H3, I3, n3⟩ := q3
      obtain ⟨m', hm, w3⟩ := hN σ3 H3 n3
      exact ⟨m', hm, σ3, H3, I3, w3⟩
    | brk => exact q3
    | ret v => exact q3
  | false =>
    rw [if_neg Bool.false_ne_true]
    exact wpAny_execs_nil ⟨σ1, H2, I2, q2⟩
end
structure It where
  go : Nat → Hp → Prop
  yld : Nat → Hp → V → Hp → Prop
  stop : Nat → Hp → Prop
def FpOk (X : Cx) (pins : List (Addr × Obj)) (H : Hp) (b : Addr) : Prop :=
  H b = none ∧ b ≠ X.env.locals ∧ b ∉ X.fs ∧ (b ∈ X.ex ∨ X.s₀.heap.objs.size ≤ b) ∧ (∀ x c, X.env.cells.lookup x = some c → c ≠ b) ∧ ∀ p ∈ X.pn ++ pins, p.1 ≠ b
theorem Inv.fpOk {X : Cx} {pins : List (Addr × Obj)} {σ : St} {H H' : Hp} {s : Shared} {b : Addr} (I : Inv X pins σ H s) (hb : s.heap.objs.size ≤ b) (hn : H' b = none) : FpOk X pins H' b := by
  refine ⟨hn, Nat.ne_of_gt (Nat.lt_of_lt_of_le I.lt hb), I.nofs hb, .inr (Nat.le_trans I.sz hb), fun x c e z => ?_, fun p hp z => ?_⟩
  · obtain ⟨v, q⟩ := I.cell x c e
    exact absurd (Nat.lt_of_lt_of_le q.lt (by rw [z]; exact hb)) (Nat.lt_irrefl _)
  · exact absurd (Nat.lt_of_lt_of_le (Heap.lt_size (I.pin p hp).1) (by rw [z]; exact hb)) (Nat.lt_irrefl _)
structure Turn (P : Program) (w : World) (K : PySem.W.Frag) (tg : Expr) (J : It) (fp : List Addr) (it : Addr) (tn : Nat → Heap → Prop) : Prop where
  mem : it ∈ fp
  obj : ∀ i h, tn i h → ∀ b ∈ fp, ∃ o, h.get? b = some o ∧ ∀ v, o.data ≠ .cell v
  keep : ∀ i h h', tn i h → (∀ b ∈ fp, ∀ o, h.get? b = some o → h'.get? b = some o) → tn i h'
  item : ∀ (X : Cx), X.prog = P → X.w = w → X.K = K → X.calm = true → ∀ (i : Nat) (pins : List (Addr × Obj)) (s : Shared) (σ : St) (H : Hp) (E : Value → Shared → Prop), Inv X pins σ H s → (∀ b ∈ fp, FpOk X pins H b) → tn i s.heap → J.go i H →
    wpAny (model P w) X.A (pyNext (.ref it)) (fun r s1 => ∃ u, r = some u ∧
      wpAny (model P w) X.A (letOwnedTupleGo tg (.ref it) u) (fun _ s2 => ∃ x H', Inv X pins σ H' s2 ∧ RelV x u ∧ J.yld i H x H' ∧ tn (i + 1) s2.heap ∧ ∀ b ∈ fp, H' b = none) E s1) E s
  done : ∀ (X : Cx), X.prog = P → X.w = w → X.K = K → X.calm = true → ∀ (i : Nat) (pins : List (Addr × Obj)) (s : Shared) (σ : St) (H : Hp) (E : Value → Shared → Prop), Inv X pins σ H s → (∀ b ∈ fp, FpOk X pins H b) → tn i s.heap → J.stop i H →
    wpAny (model P w) X.A (pyNext (.ref it)) (fun r s1 => r = none ∧ Inv X pins σ H s1) E s
  self : ∀ (A : Around) (i : Nat) (s : Shared) (Q : Value → Shared → Prop) (E : Value → Shared → Prop), tn i s.heap → Q (.ref it) s → wpAny (model P w) A (pyIter (.ref it)) Q E s
abbrev TI := St → Hp → (It → Hp → Prop) → Prop
def PIE (X : Cx) (pins : List (Addr × Obj)) (σ : St) (tg : Expr) (R : It → Hp → Prop) (itv : Value) (s2 : Shared) : Prop :=
  ∃ (it : Addr) (fp : List Addr) (tn : Nat → Heap → Prop) (J : It) (H' : Hp), itv = .ref it ∧ Inv X pins σ H' s2 ∧ Turn X.prog X.w X.K tg J fp it tn ∧ tn 0 s2.heap ∧ (∀ b ∈ fp, FpOk X pins H' b) ∧ R J H'
def PI (X : Cx) (tg iter : Expr) (wi : TI) : Prop :=
  ∀ (pins : List (Addr × Obj)) (s : Shared) (σ : St) (H : Hp) (R : It → Hp → Prop), Inv X pins σ H s → wi σ H R →
    wpAny (model X.prog X.w) X.A (eval iter X.env) (fun v s1 => wpAny (model X.prog X.w) X.A (pyIter v) (PIE X pins σ tg R) X.xe s1) X.xe s
theorem go_of {M : Model} {A : Around} {E : Value → Shared → Prop} {s : Shared} {tg : Expr} {it : Addr} {u : Value} {o : Obj} {n : String} {vs : Array Value} {Q : Unit → Shared → Prop} (ho : s.heap.get? it = some o) (hc : o.cls = .type n) (hd : o.data = .fields vs)
    (hn : ["enumerate", "zip", "dict_itemiterator", "dict_reverseitemiterator", "odict_iterator", "itertools.zip_longest", "itertools.pairwise"].contains n = false) (hQ : Q () s) : wpAny M A (letOwnedTupleGo tg (.ref it) u) Q E s := by
  unfold letOwnedTupleGo
  cases tg <;> first
    | exact wpAny_pure hQ
    | (cases u <;> first
        | exact wpAny_pure hQ
        | (refine wpAny_bind (wpAny_load ho ?_)
           rw [hc, hd]
           show wpAny M A (if (["enumerate", "zip", "dict_itemiterator", "dict_reverseitemiterator", "odict_iterator", "itertools.zip_longest", "itertools.pairwise"].contains n && vs[0]? == some (rawInt _)) = true then _ else _) Q E s
           rw [if_neg (by intro h; rw [hn, Bool.false_and] at h; cases h)]
           exact wpAny_pure hQ))
def Itl (K : PySem.W.Frag) (a : Addr) : It :=
  ⟨fun i H => ∃ xs x, SqL K H a xs ∧ xs[i]? = some x, fun i H x H' => H' = H ∧ ∀ xs, SqL K H a xs → xs[i]? = some x, fun i H => ∃ xs, SqL K H a xs ∧ xs.length ≤ i⟩
def Itr (lo : Int) (n : Nat) : It := ⟨fun i _ => i < n, fun i H x H' => H' = H ∧ x = .int (lo + i), fun i _ => n ≤ i⟩
theorem turn_list {P : Program} {w : World} {K : PySem.W.Frag} {tg : Expr} (a it : Addr) : Turn P w K tg (Itl K a) [it] it (fun i h => h.IsListIter it a i) where
  mem := by simp
  obj := fun i h st b hb => by
    have e : b = it := by simpa using hb
    subst e
    obtain ⟨o, e, c, d⟩ := st
    exact ⟨o, e, fun v z => by rw [d] at z; cases z⟩
  keep := fun i h h' st k => st.at fun o e => k it (by simp) o e
  item := by
    intro X hP hw hK hc i pins s σ H E I hf st hg
    subst hP hw hK
    obtain ⟨xs, x, hq, hx⟩ := hg
    obtain ⟨its, rv, p, hz⟩ := I.list hq
    obtain ⟨u, hu, ru⟩ := rv.get hx
    obtain ⟨f0, f1, f2, f3, f4, f5⟩ := hf it (by simp)
    refine wpAny_pyNext_list_item st p.isList (x := u) (by simpa using hu) fun h' st' sb => ?_
    have I1 : Inv X pins σ H { s with heap := h' } := I.turned (t' := s.toks) (fun b o hb e => (sb.2 b hb).trans e) f0 f1 f3 f4 f5
    obtain ⟨o, e, c, d⟩ := id st'
    exact ⟨u, rfl, go_of (s := { s with heap := h' }) e c d (by decide) ⟨x, H, I1, ru, ⟨rfl, fun ys hy => by rw [I.list_inj hy hq]; exact hx⟩, st', fun b hb => (hf b hb).1⟩⟩
  done := by
    intro X hP hw hK hc i pins s σ H E I hf st hg
    subst hP hw hK
    obtain ⟨xs, hq, hx⟩ := hg
    obtain ⟨its, rv, p, hz⟩ := I.list hq
    obtain ⟨f0, f1, f2, f3, f4, f5⟩ := hf it (by simp)
    have hl := rv.length
    exact wpAny_pyNext_list_end (I.ok.hd hc) st p.isList (by simp; omega) fun h' eb => ⟨rfl, I.turned (t' := s.toks) (fun b o hb e => eb b o hb e) f0 f1 f3 f4 f5⟩
  self := fun _ _ _ _ _ st h => wpAny_pyIter_listiter st h
theorem turn_range {P : Program} {w : World} {K : PySem.W.Frag} {tg : Expr} (it : Addr) (lo : Int) (n : Nat) : Turn P w K tg (Itr lo n) [it] it (fun i h => IsRangeIter h it (lo + (i : Nat) * 1) ((n : Int) - (i : Nat)) 1) where
  mem := by simp
  obj := fun i h st b hb => by
    have e : b = it := by simpa using hb
    subst e
    exact ⟨_, st, fun v z => by
      have z' : Data.fields _ = Data.cell v := z
      cases z'⟩
  keep := fun i h h' st k => k it (by simp) _ st
  item := by
    intro X hP hw hK hc i pins s σ H E I hf st hg
    subst hP hw hK
    obtain ⟨f0, f1, f2, f3, f4, f5⟩ := hf it (by simp)
    have W := Walks.range (prog := X.prog) (w := X.w) (I.ok.hd hc) it lo 1 n
    refine W.item i s _ _ hg st fun v h' tk hv st' kk => ?_
    obtain ⟨t, rfl⟩ := hv
    have I1 : Inv X pins σ H { s with heap := h', toks := tk } := I.turned (fun b o hb e => kk b o (by simpa using hb) e) f0 f1 f3 f4 f5
    refine ⟨_, rfl, go_of (s := { s with heap := h', toks := tk }) (n := "range_iterator") st' rfl rfl (by decide) ⟨.int (lo + i), H, I1, ⟨t, ?_⟩, ⟨rfl, rfl⟩, st', fun b hb => (hf b hb).1⟩⟩
    rw [Int.mul_one]
  done := by
    intro X hP hw hK hc i pins s σ H E I hf st hg
    subst hP hw hK
    obtain ⟨f0, f1, f2, f3, f4, f5⟩ := hf it (by simp)
    exact wpAny_pyNext_range_end (I.ok.hd hc) st (by have : n ≤ i := hg; omega) fun h' eb => ⟨rfl, I.turned (t' := s.toks) (fun b o hb e => eb b o hb e) f0 f1 f3 f4 f5⟩
  self := fun _ _ _ _ _ st h => wpAny_pyIter_rangeiter st h
end L2
namespace L2
open PySem PySem.Spec PyProof.Rows
section
variable {X : Cx} {tg : Expr}
def iList (K : PySem.W.Frag) (tl : TE) : TI := fun σ H R => tl σ H fun x H1 => ∃ a, x = .ref a ∧ (∃ xs, SqL K H1 a xs) ∧ R (Itl K a) H1
theorem pi_list {l : Expr} {tl : TE} (hl : PE X l tl) : PI X tg l (iList X.K tl) := by
  intro pins s σ H R I h
  refine thn (hl pins s σ H _ I h) fun v s1 ⟨x, H1, I1, r1, q1⟩ => ?_
  obtain ⟨a, e, ⟨xs, hq⟩, q⟩ := q1
  subst e
  cases r1
  obtain ⟨its, rv, p, hz⟩ := I1.list hq
  refine wpAny_pyIter_list p.isList ?_
  refine ⟨s1.heap.objs.size, [s1.heap.objs.size], _, _, H1, rfl, I1.kept (t' := s1.toks) fun b o e => Heap.get?_push_of_some _ e, turn_list a _, ⟨_, Heap.get?_push_size _ rfl, rfl, rfl⟩, fun b hb => ?_, q⟩
  have e : b = s1.heap.objs.size := by simpa using hb
  subst e
  exact I1.fpOk (Nat.le_refl _) (I1.hok.fresh (Nat.le_refl _))
theorem range_it {pins : List (Addr × Obj)} {σ : St} {H : Hp} {s : Shared} {R : It → Hp → Prop} {E : Value → Shared → Prop} {lo hi : Int} {t u v : Tok} {tk : Nat} (I : Inv X pins σ H s) (h1 : -(2 ^ 62) ≤ lo) (h2 : lo < 2 ^ 62) (h3 : -(2 ^ 62) ≤ hi) (h4 : hi < 2 ^ 62)
    (q : R (Itr lo (hi - lo).toNat) H) : wpAny (model X.prog X.w) X.A (pyIter (.ref s.heap.objs.size)) (PIE X pins σ tg R) E { s with heap := s.heap.push { cls := .type "range", data := .fields #[.int lo t, .int hi u, .int 1 v] }, toks := tk } := by
  refine wpAny_pyIter_range (IsRange.new ..) (small_one h1 h2 h3 h4) ?_
  have I1 : Inv X pins σ H { s with heap := s.heap.push { cls := .type "range", data := .fields #[.int lo t, .int hi u, .int 1 v] }, toks := tk } := I.kept fun b o e => Heap.get?_push_of_some _ e
  refine ⟨(s.heap.push { cls := .type "range", data := .fields #[.int lo t, .int hi u, .int 1 v] }).objs.size, [(s.heap.push { cls := .type "range", data := .fields #[.int lo t, .int hi u, .int 1 v] }).objs.size], _, _, H, rfl,
    I1.kept (t' := tk) fun b o e => Heap.get?_push_of_some _ e, turn_range _ lo (hi - lo).toNat, ?_, fun b hb => ?_, q⟩
  · have e1 : lo + ((0 : Nat) : Int) * 1 = lo := by simp
    have e2 : (((hi - lo).toNat : Nat) : Int) - ((0 : Nat) : Int) = Builtin.Range.rangeSize lo hi 1 := by rw [rangeSize_one]; split <;> omega
    show IsRangeIter _ _ (lo + ((0 : Nat) : Int) * 1) ((((hi - lo).toNat : Nat) : Int) - ((0 : Nat) : Int)) 1
    rw [e1, e2]
    exact Heap.get?_push_size _ rfl
  · have e : b = (s.heap.push { cls := .type "range", data := .fields #[.int lo t, .int hi u, .int 1 v] }).objs.size := by simpa using hb
    subst e
    exact I1.fpOk (Nat.le_refl _) (I1.hok.fresh (Nat.le_refl _))
def iRng1 (ta : TA) : TI := fun σ H R => ta σ H fun vs H1 => ∃ j : Int, vs = [.int j] ∧ -(2 ^ 62) ≤ j ∧ j < 2 ^ 62 ∧ R (Itr 0 j.toNat) H1
theorem pi_range1 {a : Expr} {ta : TA} {p pos : Pos} (hg : Gl X "range") (hm : X.mg "range" = none) (ha : PA X [a] ta) (hs : starEach [a] X.env = [(false, eval a X.env)] := by rfl) : PI X tg (.Call (.Name "range" p) [a] [] pos) (iRng1 ta) := by
  intro pins s σ H R I h
  refine Call_ (ld_blt I hg hm boot_range (PyProof.Rows.callWith_type1 (thn (ha pos pins s σ H _ I h) fun us s1 ⟨vs, H1, I1, r1, q1⟩ => ?_) hs rfl))
  obtain ⟨j, e, q1, q2, q⟩ := q1
  subst e
  cases r1 with
  | cons r rr =>
    cases rr
    obtain ⟨t, rfl⟩ := r
    exact call_range_1 (range_it I1 (by omega) (by omega) q1 q2 (by simpa using q))
def tFor (wi : TI) (g : TG) (tb : TS) : TS := fun D σ H => wi σ H fun J H1 => ∃ W : Nat → Nat → St → Hp → Prop, (∃ m, W 0 m σ H1) ∧ ∀ i m σ H, W i m σ H →
  (J.stop i H ∧ D.nx σ H) ∨ (J.go i H ∧ ∃ N : St → Hp → Prop, (∀ σ' H', N σ' H' → ∃ m', m' < m ∧ W (i + 1) m' σ' H') ∧ ∀ x H', J.yld i H x H' → g x σ H' fun σ2 H2 => tb { D with nx := N, ct := N, bk := D.nx } σ2 H2)
def pinsAt (fp : List Addr) (h : Heap) : List (Addr × Obj) := fp.filterMap fun b => (h.get? b).map fun o => (b, o)
theorem mem_pinsAt {fp : List Addr} {h : Heap} {b : Addr} {o : Obj} (hb : b ∈ fp) (e : h.get? b = some o) : (b, o) ∈ pinsAt fp h := List.mem_filterMap.mpr ⟨b, hb, by rw [e]; rfl⟩
theorem of_pinsAt {fp : List Addr} {h : Heap} {p : Addr × Obj} (hp : p ∈ pinsAt fp h) : p.1 ∈ fp ∧ h.get? p.1 = some p.2 := by
  obtain ⟨b, hb, e⟩ := List.mem_filterMap.mp hp
  cases q : h.get? b with
  | none => rw [q] at e; cases e
  | some o =>
    rw [q] at e
    have e' : (b, o) = p := Option.some.inj e
    subst e'
    exact ⟨hb, q⟩
theorem Inv.pinned {pins : List (Addr × Obj)} {σ : St} {H : Hp} {s : Shared} {fp : List Addr} (I : Inv X pins σ H s) (hf : ∀ b ∈ fp, FpOk X pins H b) (ho : ∀ b ∈ fp, ∃ o, s.heap.get? b = some o ∧ ∀ v, o.data ≠ .cell v) : Inv X (pins ++ pinsAt fp s.heap) σ H s :=
  I.pins_of fun p hp => (List.mem_append.mp hp).elim (fun z => I.pin p (List.mem_append_right _ z)) fun z => by
    obtain ⟨hb, e⟩ := of_pinsAt z
    obtain ⟨f0, f1, f2, _⟩ := hf p.1 hb
    obtain ⟨o, e', d⟩ := ho p.1 hb
    rw [e] at e'; cases e'
    exact ⟨e, f0, f1, f2, d⟩
theorem Inv.unpinned {pins pl : List (Addr × Obj)} {σ : St} {H : Hp} {s : Shared} (I : Inv X (pins ++ pl) σ H s) : Inv X pins σ H s := I.pins_of fun p hp => I.pin p (List.mem_append_right _ (List.mem_append_left _ hp))
theorem ps_for {iter : Expr} {body : List Stmt} {wi : TI} {g : TG} {tb : TS} {pos : Pos} (hp : PassesOwn (model X.prog X.w) X.A X.env X.xe) (hc : X.calm = true) (hi : PI X tg iter wi) (hg : PG X tg g) (hb : PSs X body tb)
    (hs : ∀ x, foldedSetIterable iter X.env x = pure x := by intro _; rfl) : PS X (.For tg iter body [] pos) (tFor wi g tb) := by
  intro pins s σ H D I h
  refine wpAny_For (thn (hi pins s σ H _ I h) fun v s1 h1 => thn h1 fun itv s2 h2 => ?_) hs
  obtain ⟨it, fp, tn, J, H2, e, I2, T, st2, f2, W, ⟨m0, w0⟩, turn⟩ := h2
  subst e
  have stat : ∀ {H' : Hp}, (∀ b ∈ fp, H' b = none) → ∀ b ∈ fp, FpOk X pins H' b := fun hn b hb => ⟨hn b hb, (f2 b hb).2⟩
  refine codeAny_forLoop_any (fun n s' => ∃ i σ' H', Inv X pins σ' H' s' ∧ tn i s'.heap ∧ (∀ b ∈ fp, H' b = none) ∧ W i n σ' H') ?_ m0 ⟨0, σ, H2, I2, st2, fun b hb => (f2 b hb).1, w0⟩
  rintro n s3 ⟨i, σ3, H3, I3, st3, fr3, w3⟩
  rcases turn i n σ3 H3 w3 with ⟨stop, qn⟩ | ⟨go, N, hN, step⟩
  · refine wpAny_passesOwn hp (thn (T.done X rfl rfl rfl hc i pins s3 σ3 H3 X.xe I3 (stat fr3) st3 stop) fun r s4 ⟨hr, I4⟩ => ?_)
    subst hr
    exact wpAny_execs_nil ⟨σ3, H3, I4, qn⟩
  · refine wpAny_passesOwn hp (thn (T.item X rfl rfl rfl hc i pins s3 σ3 H3 X.xe I3 (stat fr3) st3 go) fun r s4 ⟨u, hr, h4⟩ => ?_)
    subst hr
    refine wpAny_passesOwn hp (thn h4 fun _ s5 ⟨x, H5, I5, r5, y5, st5, fr5⟩ => ?_)
    have I5' := I5.pinned (stat fr5) (T.obj _ _ st5)
    refine wpAny_passesOwn hp (thn (hg _ s5 σ3 H5 x u _ I5' r5 (step x H5 y5)) fun _ s6 ⟨σ6, H6, I6, q6⟩ => ?_)
    refine wpAny_passesOwn hp (thn (hb _ s6 σ6 H6 _ I6 q6) fun f s7 q7 => ?_)
    have again : ∀ {σ7 : St} {H7 : Hp}, Inv X (pins ++ pinsAt fp s5.heap) σ7 H7 s7 → N σ7 H7 → ∃ m, m < n ∧ ∃ i σ' H', Inv X pins σ' H' s7 ∧ tn i s7.heap ∧ (∀ b ∈ fp, H' b = none) ∧ W i m σ' H' := fun {σ7 H7} I7 n7 => by
      obtain ⟨m', hm, w7⟩ := hN σ7 H7 n7
      refine ⟨m', hm, i + 1, σ7, H7, I7.unpinned, T.keep _ _ _ st5 fun b hb o e => (I7.pin (b, o) (List.mem_append_right _ (List.mem_append_right _ (mem_pinsAt hb e)))).1, fun b hb => ?_, w7⟩
      obtain ⟨o, e, d⟩ := T.obj _ _ st5 b hb
      exact (I7.pin (b, o) (List.mem_append_right _ (List.mem_append_right _ (mem_pinsAt hb e)))).2.1
    cases f with
    | next => obtain ⟨σ7, H7, I7, n7⟩ := q7; exact again I7 n7
    | cont => obtain ⟨σ7, H7, I7, n7⟩ := q7; exact again I7 n7
    | brk => obtain ⟨σ7, H7, I7, q7⟩ := q7; exact ⟨σ7, H7, I7.unpinned, q7⟩
    | ret v => obtain ⟨x7, σ7, H7, I7, r7, q7⟩ := q7; exact ⟨x7, σ7, H7, I7.unpinned, r7, q7⟩
end
theorem for_list {K : PySem.W.Frag} {a : Addr} {xs : List V} {g : TG} {tb : TS} {D : Ends} {σ : St} {H : Hp} (Pv : Nat → St → Hp → Prop) (h0 : Pv 0 σ H) (hl : ∀ i σ H, i ≤ xs.length → Pv i σ H → SqL K H a xs)
    (hs : ∀ i x σ H, xs[i]? = some x → Pv i σ H → g x σ H fun σ2 H2 => tb { D with nx := Pv (i + 1), ct := Pv (i + 1), bk := D.nx } σ2 H2) (hd : ∀ σ H, Pv xs.length σ H → D.nx σ H) :
    ∃ W : Nat → Nat → St → Hp → Prop, (∃ m, W 0 m σ H) ∧ ∀ i m σ H, W i m σ H →
      ((Itl K a).stop i H ∧ D.nx σ H) ∨ ((Itl K a).go i H ∧ ∃ N : St → Hp → Prop, (∀ σ' H', N σ' H' → ∃ m', m' < m ∧ W (i + 1) m' σ' H') ∧ ∀ x H', (Itl K a).yld i H x H' → g x σ H' fun σ2 H2 => tb { D with nx := N, ct := N, bk := D.nx } σ2 H2) := by
  refine ⟨fun i m σ H => m = xs.length - i ∧ i ≤ xs.length ∧ Pv i σ H, ⟨xs.length, by simp, Nat.zero_le _, h0⟩, ?_⟩
  rintro i m σ H ⟨rfl, hi, p⟩
  have q := hl i σ H hi p
  by_cases hlt : i < xs.length
  · refine .inr ⟨⟨xs, xs[i], q, by simp [hlt]⟩, Pv (i + 1), fun σ' H' p' => ⟨xs.length - (i + 1), by omega, rfl, hlt, p'⟩, fun x H' y => ?_⟩
    obtain ⟨e, y⟩ := y
    subst e
    exact hs i x σ _ (y xs q) p
  · have e : i = xs.length := by omega
    subst e
    exact .inl ⟨⟨xs, q, Nat.le_refl _⟩, hd σ H p⟩
theorem for_range {lo : Int} {n : Nat} {g : TG} {tb : TS} {D : Ends} {σ : St} {H : Hp} (Pv : Nat → St → Hp → Prop) (h0 : Pv 0 σ H)
    (hs : ∀ i σ H, i < n → Pv i σ H → g (.int (lo + i)) σ H fun σ2 H2 => tb { D with nx := Pv (i + 1), ct := Pv (i + 1), bk := D.nx } σ2 H2) (hd : ∀ σ H, Pv n σ H → D.nx σ H) :
    ∃ W : Nat → Nat → St → Hp → Prop, (∃ m, W 0 m σ H) ∧ ∀ i m σ H, W i m σ H →
      ((Itr lo n).stop i H ∧ D.nx σ H) ∨ ((Itr lo n).go i H ∧ ∃ N : St → Hp → Prop, (∀ σ' H', N σ' H' → ∃ m', m' < m ∧ W (i + 1) m' σ' H') ∧ ∀ x H', (Itr lo n).yld i H x H' → g x σ H' fun σ2 H2 => tb { D with nx := N, ct := N, bk := D.nx } σ2 H2) := by
  refine ⟨fun i m σ H => m = n - i ∧ i ≤ n ∧ Pv i σ H, ⟨n, by simp, Nat.zero_le _, h0⟩, ?_⟩
  rintro i m σ H ⟨rfl, hi, p⟩
  by_cases hlt : i < n
  · refine .inr ⟨hlt, Pv (i + 1), fun σ' H' p' => ⟨n - (i + 1), by omega, rfl, hlt, p'⟩, fun x H' y => ?_⟩
    obtain ⟨e, y⟩ := y
    subst e y
    exact hs i σ _ hlt p
  · have e : i = n := by omega
    subst e
    exact .inl ⟨Nat.le_refl _, hd σ H p⟩
theorem while_by {c : TT} {tb : TS} {D : Ends} {σ : St} {H : Hp} (Pv : St → Hp → Prop) (μ : St → Hp → Nat) (h0 : Pv σ H)
    (hs : ∀ σ H, Pv σ H → c σ H fun b H1 => if b = true then tb { D with nx := fun σ' H' => Pv σ' H' ∧ μ σ' H' < μ σ H, ct := fun σ' H' => Pv σ' H' ∧ μ σ' H' < μ σ H, bk := D.nx } σ H1 else D.nx σ H1)
    (mono : ∀ σ H Q Q', (∀ b H1, Q b H1 → Q' b H1) → c σ H Q → c σ H Q') : tWhile c tb D σ H := by
  refine ⟨fun m σ H => m = μ σ H ∧ Pv σ H, ⟨_, rfl, h0⟩, ?_⟩
  rintro m σ H ⟨rfl, p⟩
  refine mono σ H _ _ (fun b H1 q => ?_) (hs σ H p)
  cases b with
  | true => exact ⟨_, fun σ' H' ⟨p', l⟩ => ⟨_, l, rfl, p'⟩, q⟩
  | false => exact q
end L2
namespace L2
open PySem PySem.Spec PyProof.Rows
abbrev R2 := V → V → Hp → VK → Prop
def OpR (X : Cx) (f : Value → Value → Sem Value) (r : R2) : Prop :=
  ∀ (pins : List (Addr × Obj)) (s : Shared) (σ : St) (H : Hp) (x y : V) (v u : Value) (Q : VK), Inv X pins σ H s → RelV x v → RelV y u → r x y H Q →
    wpAny (model X.prog X.w) X.A (f v u) (EP X pins σ Q) X.xe s
def CallR (X : Cx) (f : Value) (r : List V → Hp → VK → Prop) : Prop :=
  ∀ (pins : List (Addr × Obj)) (s : Shared) (σ : St) (H : Hp) (xs : List V) (us : List Value) (Q : VK), Inv X pins σ H s → Vals xs us → r xs H Q →
    wpAny (model X.prog X.w) X.A (call f us) (EP X pins σ Q) X.xe s
def tOp (r : R2) (ta tb : TE) : TE := fun σ H Q => ta σ H fun x H1 => tb σ H1 fun y H2 => r x y H2 Q
def rI (C : Int → Int → Prop) (g : Int → Int → V) : R2 := fun x y H Q => ∃ i j, x = .int i ∧ y = .int j ∧ C i j ∧ Q (g i j) H
def rI0 (g : Int → Int → V) : R2 := fun x y H Q => ∃ i j, x = .int i ∧ y = .int j ∧ Q (g i j) H
section
variable {X : Cx} {a b c : Expr} {ta tb tc : TE} {pos : Pos}
theorem binT (ha : PE X a ta) (hb : PE X b tb) {pins : List (Addr × Obj)} {s : Shared} {σ : St} {H : Hp} {R : V → V → Hp → Prop} (I : Inv X pins σ H s)
    (h : ta σ H fun x H1 => tb σ H1 fun y H2 => R x y H2) {Q : Value → Shared → Prop} {f : Value → Value → Sem Value}
    (hf : ∀ v u s2 x y H2, Inv X pins σ H2 s2 → RelV x v → RelV y u → R x y H2 → wpAny (model X.prog X.w) X.A (f v u) Q X.xe s2) :
    wpAny (model X.prog X.w) X.A (eval a X.env) (fun v s₁ => wpAny (model X.prog X.w) X.A (eval b X.env) (fun u s₂ => wpAny (model X.prog X.w) X.A (f v u) Q X.xe s₂) X.xe s₁) X.xe s := by
  refine thn (ha pins s σ H _ I h) fun v s1 ⟨x, H1, I1, r1, q1⟩ => ?_
  refine thn (hb pins s1 σ H1 _ I1 q1) fun u s2 ⟨y, H2, I2, r2, q2⟩ => ?_
  exact hf v u s2 x y H2 I2 r1 r2 q2
theorem pe_op {op : Operator} {r : R2} (ho : OpR X (binaryOp op) r) (ha : PE X a ta) (hb : PE X b tb) : PE X (.BinOp a op b pos) (tOp r ta tb) := by
  intro pins s σ H Q I h
  exact wpAny_BinOp (binT ha hb I h fun v u s2 x y H2 I2 rx ry q => ho pins s2 σ H2 x y v u Q I2 rx ry q)
theorem opI {f : Value → Value → Sem Value} {C : Int → Int → Prop} {g : Int → Int → Int}
    (rule : ∀ (i j : Int) (t u : Tok) (s : Shared) (Q : Value → Shared → Prop) (E : Value → Shared → Prop), C i j → Q (.int (g i j) s.toks) { s with toks := s.toks + 1 } → wpAny (model X.prog X.w) X.A (f (.int i t) (.int j u)) Q E s) :
    OpR X f (rI C fun i j => .int (g i j)) := by
  intro pins s σ H x y v u Q I rx ry h
  obtain ⟨i, j, rfl, rfl, hc, q⟩ := h
  obtain ⟨t, rfl⟩ := rx
  obtain ⟨t', rfl⟩ := ry
  exact rule i j t t' s _ _ hc ⟨.int (g i j), H, I.tok _, ⟨_, rfl⟩, q⟩
theorem opI0 {f : Value → Value → Sem Value} {g : Int → Int → Int}
    (rule : ∀ (i j : Int) (t u : Tok) (s : Shared) (Q : Value → Shared → Prop) (E : Value → Shared → Prop), Q (.int (g i j) s.toks) { s with toks := s.toks + 1 } → wpAny (model X.prog X.w) X.A (f (.int i t) (.int j u)) Q E s) :
    OpR X f (rI0 fun i j => .int (g i j)) := by
  intro pins s σ H x y v u Q I rx ry h
  obtain ⟨i, j, rfl, rfl, q⟩ := h
  obtain ⟨t, rfl⟩ := rx
  obtain ⟨t', rfl⟩ := ry
  exact rule i j t t' s _ _ ⟨.int (g i j), H, I.tok _, ⟨_, rfl⟩, q⟩
theorem opB0 {f : Value → Value → Sem Value} {g : Int → Int → Bool}
    (rule : ∀ (i j : Int) (t u : Tok) (s : Shared) (Q : Value → Shared → Prop) (E : Value → Shared → Prop), Q (.bool (g i j)) s → wpAny (model X.prog X.w) X.A (f (.int i t) (.int j u)) Q E s) :
    OpR X f (rI0 fun i j => .bl (g i j)) := by
  intro pins s σ H x y v u Q I rx ry h
  obtain ⟨i, j, rfl, rfl, q⟩ := h
  obtain ⟨t, rfl⟩ := rx
  obtain ⟨t', rfl⟩ := ry
  exact rule i j t t' s _ _ ⟨.bl (g i j), H, I, rfl, q⟩
def CDiv (i j : Int) : Prop := 0 < j ∧ j < 1073741824
def CPow (i j : Int) : Prop := 0 ≤ j ∧ j ≤ 1000000 ∧ i.natAbs < 2 ^ 64
def CMul (i j : Int) : Prop := (-(2 ^ 64) < i ∧ i < 2 ^ 64) ∨ (-(2 ^ 64) < j ∧ j < 2 ^ 64)
theorem CMul.ok {i j : Int} (h : CMul i j) : IntMulOk i j := by
  rcases h with ⟨h1, h2⟩ | ⟨h1, h2⟩
  · exact .of_left (intBits_le_64 h1 h2)
  · exact .of_right (intBits_le_64 h1 h2)
theorem two_pow_nn (k : Nat) : (0 : Int) ≤ 2 ^ k := by
  rw [two_pow_cast]
  exact Int.natCast_nonneg _
theorem op_add : OpR X (binaryOp .Add) (rI0 fun i j => .int (i + j)) := opI0 fun _ _ _ _ _ _ _ q => add_int q
theorem op_sub : OpR X (binaryOp .Sub) (rI0 fun i j => .int (i - j)) := opI0 fun _ _ _ _ _ _ _ q => sub_int q
theorem op_mul : OpR X (binaryOp .Mult) (rI CMul fun i j => .int (i * j)) := opI fun _ _ _ _ _ _ _ hc q => mul_int q hc.ok
theorem op_fdiv : OpR X (binaryOp .FloorDiv) (rI CDiv fun i j => .int (i / j)) := opI fun i j _ _ _ _ _ hc q => by
  have h1 : (0 : Int) < j := hc.1
  have h2 : j < 1073741824 := hc.2
  exact floordiv_int (by omega) (by rw [Int.fdiv_eq_ediv_of_nonneg i (by omega)]; exact q) (.inl (PyProof.noPylong_small (by omega)))
theorem op_mod : OpR X (binaryOp .Mod) (rI (fun _ j => 0 < j) fun i j => .int (i % j)) := opI fun i j _ _ _ _ _ hc q => by
  have h1 : (0 : Int) < j := hc
  exact mod_int' (by omega) (by rw [Int.fmod_eq_emod_of_nonneg i (by omega)]; exact q)
theorem op_shl : OpR X (binaryOp .LShift) (rI CPow fun i j => .int (i * 2 ^ j.toNat)) := opI fun _ _ _ _ _ _ _ hc q => lshift_int_small hc.1 hc.2.1 hc.2.2 q
theorem op_shr : OpR X (binaryOp .RShift) (rI (fun _ j => 0 ≤ j) fun i j => .int (i / 2 ^ j.toNat)) := opI fun i j _ _ _ _ _ hc q =>
  rshift_int hc (by rw [Int.fdiv_eq_ediv_of_nonneg i (two_pow_nn _)]; exact q)
theorem op_and : OpR X (binaryOp .BitAnd) (rI0 fun i j => .int (Builtin.bitAnd i j)) := opI0 fun _ _ _ _ _ _ _ q => and_int q
theorem op_or : OpR X (binaryOp .BitOr) (rI0 fun i j => .int (Builtin.bitOr i j)) := opI0 fun _ _ _ _ _ _ _ q => or_int q
end
def scal : V → V → Bool
  | .non, .non => true | .non, .int _ => true | .int _, .non => true | .non, .bl _ => true | .bl _, .non => true | .non, .str _ => true | .str _, .non => true
  | .int _, .int _ => true | .bl _, .bl _ => true | .str _, .str _ => true | .byt _, .byt _ => true
  | .int _, .str _ => true | .str _, .int _ => true | .bl _, .str _ => true | .str _, .bl _ => true
  | _, _ => false
def rEq : R2 := fun x y H Q => scal x y = true ∧ Q (.bl (decide (x = y))) H
def rNe : R2 := fun x y H Q => scal x y = true ∧ Q (.bl (!decide (x = y))) H
theorem dec_int {i j : Int} : decide (V.int i = V.int j) = (i == j) := by
  rw [Bool.eq_iff_iff]
  simp
theorem dec_bl {i j : Bool} : decide (V.bl i = V.bl j) = (i == j) := by
  rw [Bool.eq_iff_iff]
  simp
theorem dec_str {i j : Str} : decide (V.str i = V.str j) = (i == j) := by
  rw [Bool.eq_iff_iff]
  simp
theorem dec_byt {i j : Array UInt8} : decide (V.byt i = V.byt j) = (i.toList == j.toList) := by
  rw [Bool.eq_iff_iff]
  cases i
  cases j
  simp
section
variable {X : Cx} {a b c : Expr} {ta tb tc : TE} {pos : Pos}
theorem fin_bl {pins : List (Addr × Obj)} {σ : St} {H : Hp} {s : Shared} {Q : VK} {k k' : Bool} (I : Inv X pins σ H s) (q : Q (.bl k) H) (e : k = k') : EP X pins σ Q (.bool k') s := by
  subst e
  exact ⟨.bl k, H, I, rfl, q⟩
theorem op_eq : OpR X (compareOp .Eq) rEq := by
  intro pins s σ H x y v u Q I rx ry h
  obtain ⟨hs, q⟩ := h
  cases x with
  | non =>
    cases rx
    cases y with
    | non => cases ry; exact PySem.EqNone.eq_none_none (fin_bl I q (by simp))
    | bl j => cases ry; exact PySem.EqNone.eq_none_bool (fin_bl I q (by simp))
    | int j => obtain ⟨t', rfl⟩ := ry; exact PySem.EqNone.eq_none_int (fin_bl I q (by simp))
    | str j => obtain ⟨t', rfl⟩ := ry; exact PySem.EqNone.eq_none_str (fin_bl I q (by simp))
    | _ => exact absurd (show false = true from hs) Bool.false_ne_true
  | bl i =>
    cases rx
    cases y with
    | non => cases ry; exact PySem.EqNone.eq_bool_none (fin_bl I q (by simp))
    | bl j => cases ry; exact eq_bool (fin_bl I q dec_bl)
    | str j => obtain ⟨t', rfl⟩ := ry; exact PySem.EqMixed.eq_bool_str (fin_bl I q (by simp))
    | _ => exact absurd (show false = true from hs) Bool.false_ne_true
  | int i =>
    obtain ⟨t, rfl⟩ := rx
    cases y with
    | non => cases ry; exact PySem.EqNone.eq_int_none (fin_bl I q (by simp))
    | int j => obtain ⟨t', rfl⟩ := ry; exact eq_int (fin_bl I q dec_int)
    | str j => obtain ⟨t', rfl⟩ := ry; exact PySem.EqMixed.eq_int_str (fin_bl I q (by simp))
    | _ => exact absurd (show false = true from hs) Bool.false_ne_true
  | str i =>
    obtain ⟨t, rfl⟩ := rx
    cases y with
    | non => cases ry; exact PySem.EqNone.eq_str_none (fin_bl I q (by simp))
    | bl j => cases ry; exact PySem.EqMixed.eq_str_bool (fin_bl I q (by simp))
    | int j => obtain ⟨t', rfl⟩ := ry; exact PySem.EqMixed.eq_str_int (fin_bl I q (by simp))
    | str j => obtain ⟨t', rfl⟩ := ry; exact eq_str (fin_bl I q dec_str)
    | _ => exact absurd (show false = true from hs) Bool.false_ne_true
  | byt i =>
    obtain ⟨t, rfl⟩ := rx
    cases y with
    | byt j => obtain ⟨t', rfl⟩ := ry; exact PySem.W.eq_bytes (fin_bl I q dec_byt)
    | _ => exact absurd (show false = true from hs) Bool.false_ne_true
  | _ => cases y <;> exact absurd (show false = true from hs) Bool.false_ne_true
theorem op_ne : OpR X (compareOp .NotEq) rNe := by
  intro pins s σ H x y v u Q I rx ry h
  obtain ⟨hs, q⟩ := h
  cases x with
  | non =>
    cases rx
    cases y with
    | non => cases ry; exact PySem.EqNone.ne_none_none (fin_bl I q (by simp))
    | bl j => cases ry; exact PySem.EqNone.ne_none_bool (fin_bl I q (by simp))
    | int j => obtain ⟨t', rfl⟩ := ry; exact PySem.EqNone.ne_none_int (fin_bl I q (by simp))
    | str j => obtain ⟨t', rfl⟩ := ry; exact PySem.EqNone.ne_none_str (fin_bl I q (by simp))
    | _ => exact absurd (show false = true from hs) Bool.false_ne_true
  | bl i =>
    cases rx
    cases y with
    | non => cases ry; exact PySem.EqNone.ne_bool_none (fin_bl I q (by simp))
    | bl j => cases ry; exact ne_bool (fin_bl I q (congrArg not dec_bl))
    | str j => obtain ⟨t', rfl⟩ := ry; exact PySem.EqMixed.ne_bool_str (fin_bl I q (by simp))
    | _ => exact absurd (show false = true from hs) Bool.false_ne_true
  | int i =>
    obtain ⟨t, rfl⟩ := rx
    cases y with
    | non => cases ry; exact PySem.EqNone.ne_int_none (fin_bl I q (by simp))
    | int j => obtain ⟨t', rfl⟩ := ry; exact ne_int (fin_bl I q (congrArg not dec_int))
    | str j => obtain ⟨t', rfl⟩ := ry; exact PySem.EqMixed.ne_int_str (fin_bl I q (by simp))
    | _ => exact absurd (show false = true from hs) Bool.false_ne_true
  | str i =>
    obtain ⟨t, rfl⟩ := rx
    cases y with
    | non => cases ry; exact PySem.EqNone.ne_str_none (fin_bl I q (by simp))
    | bl j => cases ry; exact PySem.EqMixed.ne_str_bool (fin_bl I q (by simp))
    | int j => obtain ⟨t', rfl⟩ := ry; exact PySem.EqMixed.ne_str_int (fin_bl I q (by simp))
    | str j => obtain ⟨t', rfl⟩ := ry; exact ne_str (fin_bl I q (congrArg not dec_str))
    | _ => exact absurd (show false = true from hs) Bool.false_ne_true
  | byt i =>
    obtain ⟨t, rfl⟩ := rx
    cases y with
    | byt j => obtain ⟨t', rfl⟩ := ry; exact PySem.W.ne_bytes (fin_bl I q (congrArg not dec_byt))
    | _ => exact absurd (show false = true from hs) Bool.false_ne_true
  | _ => cases y <;> exact absurd (show false = true from hs) Bool.false_ne_true
theorem op_lt : OpR X (compareOp .Lt) (rI0 fun i j => .bl (decide (i < j))) := opB0 fun _ _ _ _ _ _ _ q => lt_int q
theorem op_le : OpR X (compareOp .LtE) (rI0 fun i j => .bl (decide (i ≤ j))) := opB0 fun _ _ _ _ _ _ _ q => le_int q
theorem op_gt : OpR X (compareOp .Gt) (rI0 fun i j => .bl (decide (j < i))) := opB0 fun _ _ _ _ _ _ _ q => gt_int q
theorem op_isN : OpR X (compareOp .Is) (fun x y H Q => y = .non ∧ Q (.bl (decide (x = .non))) H) := by
  intro pins s σ H x y v u Q I rx ry h
  obtain ⟨rfl, q⟩ := h
  cases ry
  refine is_none_gen (fin_bl I q ?_)
  cases x <;> first
    | (cases rx; rfl)
    | (obtain ⟨t, rfl⟩ := rx; rfl)
theorem nomark (b : Expr) {op : CmpOp} (h : op ≠ .In := by decide) (h2 : op ≠ .NotIn := by decide) : behindInMarks op b = false := by
  have e1 : (op == CmpOp.In) = false := by cases op <;> first | rfl | exact absurd rfl h
  have e2 : (op == CmpOp.NotIn) = false := by cases op <;> first | rfl | exact absurd rfl h2
  cases b <;> simp [behindInMarks, e1, e2]
theorem pe_cmpR {op : CmpOp} {r : R2} (ho : OpR X (compareOp op) r) (ha : PE X a ta) (hb : PE X b tb) (hm : behindInMarks op b = false) : PE X (.Compare a [op] [b] pos) (tOp r ta tb) := by
  intro pins s σ H Q I h
  exact wpAny_Compare1 (binT ha hb I h fun v u s2 x y H2 I2 rx ry q => ho pins s2 σ H2 x y v u Q I2 rx ry q) hm
def tTest (t : TE) : TT := fun σ H Q => t σ H fun x H' => ∃ k, x = .bl k ∧ Q k H'
theorem pt_cmpR {op : CmpOp} {r : R2} (ho : OpR X (compareOp op) r) (ha : PE X a ta) (hb : PE X b tb) (hm : behindInMarks op b = false) : PT X (.Compare a [op] [b] pos) (tTest (tOp r ta tb)) := by
  intro pins s σ H Q I h
  refine wpAny_isTrue_Compare1 (thn (ha pins s σ H _ I h) fun v s1 ⟨x, H1, I1, r1, q1⟩ => thn (hb pins s1 σ H1 _ I1 q1) fun u s2 ⟨y, H2, I2, r2, q2⟩ =>
    thn (ho pins s2 σ H2 x y v u _ I2 r1 r2 q2) fun c s3 ⟨z, H3, I3, r3, k, e, q3⟩ => ?_) hm
  subst e
  cases r3
  exact wpAny_truthy_bool ⟨H3, I3, q3⟩
def tChain (r r' : R2) (ta tb tc : TE) : TE := fun σ H Q => ta σ H fun x H1 => tb σ H1 fun y H2 => r x y H2 fun z H3 => ∃ k, z = .bl k ∧
  (if k = true then tc σ H3 fun w' H4 => r' y w' H4 Q else Q (.bl false) H3)
theorem pe_chain {op op' : CmpOp} {r r' : R2} (ho : OpR X (compareOp op) r) (ho' : OpR X (compareOp op') r') (ha : PE X a ta) (hb : PE X b tb) (hc : PE X c tc)
    (hm : lastMarks [op, op'] [b, c] = false := by with_unfolding_all rfl) : PE X (.Compare a [op, op'] [b, c] pos) (tChain r r' ta tb tc) := by
  intro pins s σ H Q I h
  refine Compare_chain (thn (ha pins s σ H _ I h) fun v s1 ⟨x, H1, I1, r1, q1⟩ => chain_link (thn (hb pins s1 σ H1 _ I1 q1) fun u s2 ⟨y, H2, I2, r2, q2⟩ =>
    thn (ho pins s2 σ H2 x y v u _ I2 r1 r2 q2) fun d s3 ⟨z, H3, I3, r3, k, e, q3⟩ => ?_)) hm
  subst e
  cases r3
  refine wpAny_truthy_bool ?_
  cases k with
  | false => exact ite_ff ⟨.bl false, H3, I3, rfl, q3⟩
  | true => exact ite_tt (chain_last (thn (hc pins s3 σ H3 _ I3 q3) fun w' s4 ⟨z', H4, I4, r4, q4⟩ => ho' pins s4 σ H4 y z' u w' Q I4 r2 r4 q4))
theorem pt_chain {op op' : CmpOp} {r r' : R2} (ho : OpR X (compareOp op) r) (ho' : OpR X (compareOp op') r') (ha : PE X a ta) (hb : PE X b tb) (hc : PE X c tc)
    (hm : lastMarks [op, op'] [b, c] = false := by with_unfolding_all rfl) : PT X (.Compare a [op, op'] [b, c] pos) (tTest (tChain r r' ta tb tc)) := by
  intro pins s σ H Q I h
  refine isTrue_chain (thn (ha pins s σ H _ I h) fun v s1 ⟨x, H1, I1, r1, q1⟩ => test_link (thn (hb pins s1 σ H1 _ I1 q1) fun u s2 ⟨y, H2, I2, r2, q2⟩ =>
    thn (ho pins s2 σ H2 x y v u _ I2 r1 r2 q2) fun d s3 ⟨z, H3, I3, r3, k, e, q3⟩ => ?_)) hm
  subst e
  cases r3
  refine wpAny_truthy_bool ?_
  cases k with
  | false =>
    obtain ⟨k', e', q'⟩ := q3
    cases e'
    exact ite_ff ⟨H3, I3, q'⟩
  | true =>
    refine ite_tt (test_last (thn (hc pins s3 σ H3 _ I3 q3) fun w' s4 ⟨z', H4, I4, r4, q4⟩ => thn (ho' pins s4 σ H4 y z' u w' _ I4 r2 r4 q4) fun d' s5 ⟨z2, H5, I5, r5, k2, e2, q5⟩ => ?_))
    subst e2
    cases r5
    exact wpAny_truthy_bool ⟨H5, I5, q5⟩
theorem line63 : (sizeLine : Nat) < 2 ^ 63 := by rw [sizeLine_eq]; decide
theorem vals1 {x : V} {us : List Value} (r : Vals [x] us) : ∃ u, us = [u] ∧ RelV x u := by
  cases r with
  | cons r1 r2 => cases r2; exact ⟨_, rfl, r1⟩
theorem vals2 {x y : V} {us : List Value} (r : Vals [x, y] us) : ∃ u w', us = [u, w'] ∧ RelV x u ∧ RelV y w' := by
  cases r with
  | cons r1 r2 =>
    cases r2 with
    | cons r3 r4 => cases r4; exact ⟨_, _, rfl, r1, r3⟩
theorem call_max2 (hc : X.calm = true) : CallR X (.builtin "max") (fun xs H Q => ∃ i j, xs = [.int i, .int j] ∧ Q (.int (if j > i then j else i)) H) := by
  intro pins s σ H xs us Q I r h
  obtain ⟨i, j, rfl, q⟩ := h
  obtain ⟨u, w', rfl, ⟨t, rfl⟩, ⟨t', rfl⟩⟩ := vals2 r
  refine max_two_ints (I.ok.hd hc) fun h' tk k => ⟨_, H, I.kept k, ?_, q⟩
  by_cases hj : j > i
  · rw [if_pos hj, if_pos hj]; exact ⟨_, rfl⟩
  · rw [if_neg hj, if_neg hj]; exact ⟨_, rfl⟩
theorem call_min2 (hc : X.calm = true) : CallR X (.builtin "min") (fun xs H Q => ∃ i j, xs = [.int i, .int j] ∧ Q (.int (if j < i then j else i)) H) := by
  intro pins s σ H xs us Q I r h
  obtain ⟨i, j, rfl, q⟩ := h
  obtain ⟨u, w', rfl, ⟨t, rfl⟩, ⟨t', rfl⟩⟩ := vals2 r
  refine min_two_ints (I.ok.hd hc) fun h' tk k => ⟨_, H, I.kept k, ?_, q⟩
  by_cases hj : j < i
  · rw [if_pos hj, if_pos hj]; exact ⟨_, rfl⟩
  · rw [if_neg hj, if_neg hj]; exact ⟨_, rfl⟩
theorem call_int1 : CallR X (.type "int") (fun xs H Q => (∃ i, xs = [.int i] ∧ Q (.int i) H) ∨ ∃ k, xs = [.bl k] ∧ Q (.int (if k then 1 else 0)) H) := by
  intro pins s σ H xs us Q I r h
  rcases h with ⟨i, rfl, q⟩ | ⟨k, rfl, q⟩
  · obtain ⟨u, rfl, t, rfl⟩ := vals1 r
    exact call_int_int ⟨.int i, H, I, ⟨_, rfl⟩, q⟩
  · obtain ⟨u, rfl, r1⟩ := vals1 r
    cases r1
    exact call_int_bool ⟨.int (if k then 1 else 0), H, I.tok _, ⟨_, rfl⟩, q⟩
end
end L2
namespace L2
open PySem PySem.Spec PyProof.Rows
structure ObjM (h : Heap) (x dx C : Addr) (mA : Str → Option Value) : Prop where
  obj : h.get? x = some (PySem.W.instObj C dx)
  ns : h.Ns1 dx mA
  ne : dx ≠ x
theorem lookIn_ns {h : Heap} {dx : Addr} {mA : Str → Option Value} (n : h.Ns1 dx mA) : ∃ od, h.get? dx = some od ∧ ∀ name, PySem.W.lookIn name od = some (mA name) := by
  obtain ⟨o, es, ep, ho, hd, hk, _, hm⟩ := n
  refine ⟨o, ho, fun name => ?_⟩
  have e := hm name
  unfold nsFind findBy at e
  rw [← Array.find?_toList] at e
  unfold PySem.W.lookIn
  rw [hd]
  dsimp only
  split
  · rename_i y q
    rw [q] at e
    exact congrArg some e
  · rename_i q
    rw [q] at e
    have a : es.toList.any (·.refKey) = false := by
      rw [List.any_eq_false]
      intro y hy
      obtain ⟨z, t, hkey⟩ := hk y (Array.mem_toList_iff.mp hy)
      simp [DictEntry.refKey, hkey]
    have a' : ¬ es.toList.any (·.refKey) = true := by rw [a]; exact Bool.false_ne_true
    rw [if_neg a']
    exact congrArg some e
theorem ObjM.look {h : Heap} {x dx C : Addr} {mA : Str → Option Value} (I : ObjM h x dx C mA) : ∃ od, PySem.W.InstAt h x (PySem.W.instObj C dx) C (some od) ∧ ∀ name, PySem.W.lookIn name od = some (mA name) :=
  let ⟨od, ho, hl⟩ := lookIn_ns I.ns
  ⟨od, ⟨I.obj, rfl, rfl, ho⟩, hl⟩
section
variable {prog : Program} {w : World} {A : Around} {E : Value → Shared → Prop} {s : Shared} {K : PySem.W.Frag} {x dx C f : Addr} {mA : Str → Option Value} {name : Str} {v : Value}
theorem get_map {expr : Bool} {Q : Value → Shared → Prop} (X : K.In s.heap) (I : ObjM s.heap x dx C mA) (hg : PySem.W.plainGet K C name = true) (hh : PySem.W.hasDictIn K C = true)
    (ha : PySem.W.findIn K (.ref C) name = some none) (hv : mA name = some v) (hv' : PySem.W.handedIn v = true) (h : Q v { s with toks := s.toks + 1 }) :
    wpAny (model prog w) A (getAttr (.ref x) name expr) Q E s := by
  obtain ⟨od, J, hl⟩ := I.look
  exact PySem.W.get_value X J (PySem.W.plainGet_of hg).1 (PySem.W.findObj_own hh ha rfl (by rw [hl, hv])) hv' h
theorem get_meth {pl : Sem Bool} {Q : Value × List Value → Shared → Prop} (X : K.In s.heap) (I : ObjM s.heap x dx C mA) (hg : PySem.W.plainGet K C name = true)
    (hf : PySem.W.findIn K (.ref C) name = some (some (.ref f))) (ht : PySem.W.isFn K (.ref f) = true) (hv : mA name = none) (h : Q (.ref f, [.ref x]) s) :
    wpAny (model prog w) A (getMethod (.ref x) name pl) Q E s := by
  obtain ⟨od, J, hl⟩ := I.look
  exact PySem.W.method_fn X J (PySem.W.plainGet_of hg).1 (PySem.W.plainGet_of hg).2 hf (beq_iff_eq.mp ht) (by show (PySem.W.lookIn name od).map (·.isSome) = some false; rw [hl, hv]; rfl) h
theorem set_map {ns : List Str} {Q : Unit → Shared → Prop} (X : K.In s.heap) (I : ObjM s.heap x dx C mA)
    (hs : PySem.W.findIn K (.ref C) "__setattr__" = some (some (.builtin "object.__setattr__"))) (hp : PySem.W.plainOver K C = true) (ht : PySem.W.takerIn K C name = some none) (hh : PySem.W.hasDictIn K C = true)
    (hw : PySem.Within mA ns) (hsz : ns.length ≤ sizeLine)
    (h : ∀ h', ObjM h' x dx C (fun y => if y = name then some v else mA y) → Heap.SameBut dx s.heap h' → Q () { s with heap := h', toks := s.toks + 2 }) :
    wpAny (model prog w) A (setAttr (.ref x) name v) Q E s := by
  obtain ⟨od, J, hl⟩ := I.look
  refine PySem.W.set_plain X J hs (PySem.W.osa_open (s := { s with toks := s.toks + 1 }) (r := none) X J hp ht fun b => ?_)
  obtain ⟨cd, hc, hd'⟩ := PySem.W.any_some hh
  have hx : s.heap.get? x = some ⟨.ref C, some dx, .plain, #[]⟩ := I.obj
  refine wpAny_bind (wpAny_pure (wpAny_bind (wpAny_bind (wpAny_loadPart hx (wpAny_bind (PySem.W.Looks.here (s := { s with toks := s.toks + 1 }) (PySem.W.looks_clsIn X hc) ?_))))))
  rw [hd']
  refine wpAny_pure (a := some dx) (wpAny_bind (wpAny_pure (wpAny_bind ?_)))
  refine wpAny_nsSet1 (s := { s with toks := s.toks + 1 }) I.ns fun h' hn2 hs2 => ?_
  obtain ⟨oD, esD, epD, hoD, hdD, hcD⟩ := hn2.count (PySem.Within.cons name v hw)
  refine wpAny_bind (wpAny_lookBehind hoD (by rw [hdD]; exact pastItsLine_dict (Nat.le_trans hcD (by rw [List.length_cons]; omega))) ?_)
  exact wpAny_pure (h _ ⟨(hs2.2 _ (Ne.symm I.ne)).trans I.obj, hn2, I.ne⟩ hs2)
theorem make_map {R : Result → Shared → Prop} {vs : List Value} {kw : List (Str × Value)} (X : K.In s.heap) (hm : PySem.W.makesIn K C = true)
    (hi : PySem.W.findIn K (.ref C) "__init__" = some (some (.ref f))) (hf : PySem.W.typeIn K (.ref f) = some (.type "function"))
    (h : codeAny (model prog w) (A.under (.builtin "type.__call__" ⟨.ref C :: vs, kw⟩)) (.call (.ref f) ⟨.ref (s.heap.objs.size + 1) :: vs, kw⟩) (PySem.W.InitBack (s.heap.objs.size + 1) R)
      { s with heap := (s.heap.push PySem.W.emptyDict).push (PySem.W.instObj C s.heap.objs.size) }) :
    codeAny (model prog w) A (.call (.ref C) ⟨vs, kw⟩) R s := by
  obtain ⟨hh, g, d, t, os⟩ := s
  exact PySem.W.make_core (PySem.W.makes_of X hm) (PySem.W.looks_findIn X hi) (fun self => PySem.W.bind_fn X self hf) (.inl rfl) h
end
def putF (f : Str) (v : V) : List (Str × V) → List (Str × V)
  | [] => [(f, v)]
  | (g, x) :: r => if g = f then (g, v) :: r else (g, x) :: putF f v r
theorem lookup_putF (f g : Str) (v : V) : ∀ fs : List (Str × V), (putF f v fs).lookup g = if g = f then some v else fs.lookup g
  | [] => by
    show List.lookup g [(f, v)] = _
    by_cases h : g = f
    · have hb : (g == f) = true := beq_iff_eq.mpr h
      simp only [List.lookup, hb, if_pos h]
    · have hb : (g == f) = false := beq_eq_false_iff_ne.mpr h
      simp only [List.lookup, hb, if_neg h]
  | (k, x) :: r => by
    have ih := lookup_putF f g v r
    rw [show putF f v ((k, x) :: r) = (if k = f then (k, v) :: r else (k, x) :: putF f v r) from rfl]
    by_cases hk : k = f
    · rw [if_pos hk]
      by_cases h : g = k
      · have hb : (g == k) = true := beq_iff_eq.mpr h
        simp only [List.lookup, hb, if_pos (h.trans hk)]
      · have hb : (g == k) = false := beq_eq_false_iff_ne.mpr h
        simp only [List.lookup, hb, if_neg (fun e : g = f => h (e.trans hk.symm))]
    · rw [if_neg hk]
      by_cases h : g = k
      · have hb : (g == k) = true := beq_iff_eq.mpr h
        simp only [List.lookup, hb, if_neg (fun e : g = f => hk (h.symm.trans e))]
      · have hb : (g == k) = false := beq_eq_false_iff_ne.mpr h
        simp only [List.lookup, hb]
        exact ih
theorem keys_putF (f : Str) (v : V) : ∀ fs : List (Str × V), f ∈ (putF f v fs).map (·.1) ∧ ∀ g, g ∈ fs.map (·.1) → g ∈ (putF f v fs).map (·.1)
  | [] => ⟨by simp [putF], fun g h => by simp at h⟩
  | (k, x) :: r => by
    obtain ⟨i1, i2⟩ := keys_putF f v r
    rw [show putF f v ((k, x) :: r) = (if k = f then (k, v) :: r else (k, x) :: putF f v r) from rfl]
    by_cases hk : k = f
    · rw [if_pos hk]
      subst hk
      exact ⟨by simp, fun g h => by simpa using h⟩
    · rw [if_neg hk]
      refine ⟨?_, fun g h => ?_⟩
      · rw [List.map_cons]
        exact List.mem_cons_of_mem _ i1
      · rw [List.map_cons] at h ⊢
        rcases List.mem_cons.mp h with e | e
        · exact List.mem_cons.mpr (.inl e)
        · exact List.mem_cons_of_mem _ (i2 g e)
theorem length_putF (f : Str) (v : V) : ∀ fs : List (Str × V), (putF f v fs).length ≤ fs.length + 1
  | [] => by simp [putF]
  | (k, x) :: r => by
    have ih := length_putF f v r
    rw [show putF f v ((k, x) :: r) = (if k = f then (k, v) :: r else (k, x) :: putF f v r) from rfl]
    by_cases hk : k = f
    · rw [if_pos hk, List.length_cons, List.length_cons]; omega
    · rw [if_neg hk, List.length_cons, List.length_cons]; omega
theorem RelO.some_of {v : V} {o : Option Value} (r : RelO (some v) o) : ∃ u, o = some u ∧ RelV v u := by
  cases o with
  | none => exact (show False from r).elim
  | some u => exact ⟨u, rfl, r⟩
theorem RelO.none_of {o : Option Value} (r : RelO none o) : o = none := by
  cases o with
  | none => rfl
  | some u => exact (show False from r).elim
theorem handed_of {v : V} {u : Value} (r : RelV v u) : PySem.W.handedIn u = true := by
  cases v with
  | non => cases (show u = Value.none from r); rfl
  | bl b => cases (show u = Value.bool b from r); rfl
  | int i => obtain ⟨t, e⟩ := (show ∃ t, u = Value.int i t from r); cases e; rfl
  | str x => obtain ⟨t, e⟩ := (show ∃ t, u = Value.str x t from r); cases e; rfl
  | byt b => obtain ⟨t, e⟩ := (show ∃ t, u = Value.bytes b t from r); cases e; rfl
  | flt b => obtain ⟨t, e⟩ := (show ∃ t, u = Value.float b t from r); cases e; rfl
  | ref a => cases (show u = Value.ref a from r); rfl
  | ty n => cases (show u = Value.type n from r); rfl
section
variable {P : Program} {w : World} {H H' : Hp} {h h' : Heap} {a C dx : Addr} {fs fs' : List (Str × V)}
theorem ins_get (hok : HOk P w H h) (e : H a = some (.ins C dx fs)) : ∃ mA, ObjM h a dx C mA ∧ (∀ f, RelO (fs.lookup f) (mA f)) ∧ PySem.Within mA (fs.map (·.1)) ∧ fs.length ≤ 1000 ∧ H dx = some (.own a) := by
  obtain ⟨d, z, ne, ob, mA, n, r, q⟩ := (show ObjOk P w H h a (.ins C dx fs) from hok a _ e)
  exact ⟨mA, ⟨ob, n, ne⟩, r, q, z, d⟩
end
structure Cls (K : PySem.W.Frag) (C : Addr) : Prop where
  pg : PySem.W.plainGet K C Str.empty = true
  hd : PySem.W.hasDictIn K C = true
  po : PySem.W.plainOver K C = true
  sa : PySem.W.findIn K (.ref C) "__setattr__" = some (some (.builtin "object.__setattr__"))
theorem Cls.get {K : PySem.W.Frag} {C : Addr} (c : Cls K C) (f : Str) : PySem.W.plainGet K C f = true := c.pg
def NoAttr (K : PySem.W.Frag) (C : Addr) (f : Str) : Prop := PySem.W.findIn K (.ref C) f = some none
theorem NoAttr.taker {K : PySem.W.Frag} {C : Addr} {f : Str} (n : NoAttr K C f) : PySem.W.takerIn K C f = some none := by
  unfold PySem.W.takerIn
  rw [show PySem.W.findIn K (.ref C) f = some none from n]
  rfl
structure Con (K : PySem.W.Frag) (C : Addr) (f : Str) (v : V) (u : Value) : Prop where
  at_ : PySem.W.findIn K (.ref C) f = some (some u)
  rel : RelV v u
  get : PySem.W.specialIn K u "__get__" = some none
  cp : PySem.W.copiedNames.contains f = false
structure Meth (K : PySem.W.Frag) (C : Addr) (m : Str) (f : Addr) : Prop where
  at_ : PySem.W.findIn K (.ref C) m = some (some (.ref f))
  fn : PySem.W.isFn K (.ref f) = true
  kp : PySem.W.keepIn K (.ref f) = true
section
variable {X : Cx} {pins : List (Addr × Obj)} {σ : St} {H : Hp} {s : Shared} {a C dx : Addr} {fs : List (Str × V)} {f : Str} {v : V} {A : Around} {E : Value → Shared → Prop}
theorem getattr_ok {b : Bool} {Q : Value → Shared → Prop} (I : Inv X pins σ H s) (e : H a = some (.ins C dx fs)) (c : Cls X.K C) (n : NoAttr X.K C f) (l : fs.lookup f = some v)
    (h : ∀ u s', Inv X pins σ H s' → RelV v u → Q u s') : wpAny (model X.prog X.w) A (getAttr (.ref a) f b) Q E s := by
  obtain ⟨mA, O, r, _, _, _⟩ := ins_get I.hok e
  obtain ⟨u, hu, ru⟩ := RelO.some_of (v := v) (o := mA f) (by rw [← l]; exact r f)
  exact get_map I.kIn O (c.get f) c.hd n hu (handed_of ru) (h u _ (I.tok _) ru)
theorem getmeth_ok {m : Str} {g : Addr} {pl : Sem Bool} {Q : Value × List Value → Shared → Prop} (I : Inv X pins σ H s) (e : H a = some (.ins C dx fs)) (c : Cls X.K C) (k : Meth X.K C m g) (l : fs.lookup m = none)
    (h : Q (.ref g, [.ref a]) s) : wpAny (model X.prog X.w) A (getMethod (.ref a) m pl) Q E s := by
  obtain ⟨mA, O, r, _, _, _⟩ := ins_get I.hok e
  have hn : mA m = none := RelO.none_of (by rw [← l]; exact r m)
  exact get_meth I.kIn O (c.get m) k.at_ k.fn hn h
theorem setattr_ok {y : V} {u : Value} {Q : Unit → Shared → Prop} (I : Inv X pins σ H s) (e : H a = some (.ins C dx fs)) (c : Cls X.K C) (n : NoAttr X.K C f) (hl : fs.length < 1000) (ry : RelV y u)
    (h : ∀ s', Inv X pins σ (upd H a (.ins C dx (putF f y fs))) s' → Q () s') : wpAny (model X.prog X.w) A (setAttr (.ref a) f u) Q E s := by
  obtain ⟨mA, O, r, wi, _, ho⟩ := ins_get I.hok e
  have hz : (fs.map (·.1)).length ≤ sizeLine := by rw [List.length_map, sizeLine_eq]; omega
  refine set_map I.kIn O c.sa c.po n.taker c.hd wi hz fun h' O' sb => h _ ?_
  have hd : ∃ o, h'.get? dx = some o := let ⟨o, _, _, e', _⟩ := O'.ns; ⟨o, e'⟩
  refine I.write (x := a) (e := dx) (by rw [e]; exact True.intro) (.inr ho) (fun b q hb z => (sb.2 b hb).trans z) hd ?_
  refine ⟨by rw [upd_ne O.ne]; exact ho, ?_, O.ne, O'.obj, _, O'.ns, fun g => ?_, fun g hg => ?_⟩
  · have := length_putF f y fs; omega
  · show RelO ((putF f y fs).lookup g) (if g = f then some u else mA g)
    rw [lookup_putF]
    by_cases q : g = f
    · rw [if_pos q, if_pos q]; exact ry
    · rw [if_neg q, if_neg q]; exact r g
  · by_cases q : g = f
    · rw [q]; exact (keys_putF f y fs).1
    · refine (keys_putF f y fs).2 g (wi g fun z => hg ?_)
      show (if g = f then some u else mA g) = none
      rw [if_neg q]; exact z
theorem Inv.made (I : Inv X pins σ H s) : Inv X pins σ (upd (upd H s.heap.objs.size (.own (s.heap.objs.size + 1))) (s.heap.objs.size + 1) (.ins C s.heap.objs.size []))
    { s with heap := (s.heap.push PySem.W.emptyDict).push (PySem.W.instObj C s.heap.objs.size) } := by
  have e1 : (s.heap.push PySem.W.emptyDict).get? s.heap.objs.size = some PySem.W.emptyDict := Heap.get?_push_size s.heap rfl
  have e2 : ((s.heap.push PySem.W.emptyDict).push (PySem.W.instObj C s.heap.objs.size)).get? (s.heap.objs.size + 1) = some (PySem.W.instObj C s.heap.objs.size) := by
    have := Heap.get?_push_size (s.heap.push PySem.W.emptyDict) (o := PySem.W.instObj C s.heap.objs.size) rfl
    rwa [Heap.size_push] at this
  have e3 : (s.heap.push PySem.W.emptyDict).Ns s.heap.objs.size (fun _ => none) := ⟨PySem.W.emptyDict, #[], _, e1, rfl, (fun e he => absurd he (by simp)), fun _ => rfl⟩
  have I1 := I.laid (a := s.heap.objs.size) (o := .own (s.heap.objs.size + 1)) (h' := s.heap.push PySem.W.emptyDict) (t' := s.toks) (fun b u q => Heap.get?_push_of_some _ q) (Nat.le_refl _) ⟨_, e1⟩
  refine I1.laid (a := s.heap.objs.size + 1) (o := .ins C s.heap.objs.size []) (t' := s.toks) (fun b u q => Heap.get?_push_of_some _ q) (Nat.le_of_eq (Heap.size_push _ _)) ?_
  have ne : s.heap.objs.size ≠ s.heap.objs.size + 1 := Nat.ne_of_lt (Nat.lt_succ_self _)
  refine ⟨by rw [upd_ne ne, upd_same], Nat.zero_le _, ne, e2, fun _ => none, (Heap.Ns1.of_empty e3).at fun o q => Heap.get?_push_of_some _ q, fun _ => True.intro, fun y hy => absurd rfl hy⟩
theorem attr_of {prog : Program} {w : World} {env : Env} {e : Expr} {f : Str} {pos : Pos} {s : Shared} {Q : Value → Shared → Prop} (hb : attributeBase e f env (eval e env) = eval e env)
    (h : wpAny (model prog w) A (eval e env) (fun o s₁ => wpAny (model prog w) A (getAttr o f true) Q E s₁) E s) : wpAny (model prog w) A (eval (.Attribute e f pos) env) Q E s :=
  Attribute_any_ h (by rw [arm_eval_Attribute, hb])
end
def tFld (K : PySem.W.Frag) (ta : TE) (f : Str) : TE := fun σ H Q => ta σ H fun x H1 => ∃ a C dx fs v, x = .ref a ∧ H1 a = some (.ins C dx fs) ∧ Cls K C ∧ NoAttr K C f ∧ fs.lookup f = some v ∧ Q v H1
def sFld (K : PySem.W.Frag) (ta tv : TE) (f : Str) : TS := fun D σ H => tv σ H fun y H1 => ta σ H1 fun x H2 => ∃ a C dx fs, x = .ref a ∧ H2 a = some (.ins C dx fs) ∧ Cls K C ∧ NoAttr K C f ∧ fs.length < 1000 ∧
  D.nx σ (upd H2 a (.ins C dx (putF f y fs)))
section
variable {X : Cx} {o e value : Expr} {f : Str} {pos pos' tpos : Pos} {ta tv : TE}
theorem pe_fld (he : PE X e ta) (hb : attributeBase e f X.env (eval e X.env) = eval e X.env) : PE X (.Attribute e f pos) (tFld X.K ta f) := by
  intro pins s σ H Q I h
  refine attr_of hb (thn (he pins s σ H _ I h) fun u s1 ⟨x, H1, I1, rx, a, C, dx, fs, v, ex, ea, c, n, l, q⟩ => ?_)
  subst ex
  obtain rfl : u = Value.ref a := rx
  exact getattr_ok I1 ea c n l fun u' s2 I2 ru => ⟨v, H1, I2, ru, q⟩
theorem ps_fld (ha : PE X o ta) (hv : PE X value tv) (hs : swapsWith value (some (.Attribute o f pos')) pos.line X.env = pure false) : PS X (.Assign [.Attribute o f pos'] value pos) (sFld X.K ta tv f) := by
  intro pins s σ H D I h
  refine plainObj_wpAny_Assign_Attribute (thn (hv pins s σ H _ I h) fun u s1 ⟨y, H1, I1, ry, q⟩ => thn (ha pins s1 σ H1 _ I1 q) fun ov s2 ⟨x, H2, I2, rx, a, C, dx, fs, ex, ea, c, n, l, q2⟩ => ?_) hs
  subst ex
  obtain rfl : ov = Value.ref a := rx
  exact setattr_ok I2 ea c n l ry fun s3 I3 => ⟨σ, _, I3, q2⟩
end
section
variable {X : Cx} {pins : List (Addr × Obj)} {σ : St} {H : Hp} {s : Shared} {A : Around} {E : Value → Shared → Prop} {Q : Value → Shared → Prop} {c : Value} {b : Bool}
inductive TyOf (K : PySem.W.Frag) (H : Hp) : V → Value → Prop where
  | non : TyOf K H .non (.type "NoneType")
  | bl (x : Bool) : TyOf K H (.bl x) (.type "bool")
  | int (i : Int) : TyOf K H (.int i) (.type "int")
  | str (x : Str) : TyOf K H (.str x) (.type "str")
  | flt (x : UInt64) : TyOf K H (.flt x) (.type "float")
  | lst {a : Addr} {xs : List V} (e : H a = some (.lst xs)) : TyOf K H (.ref a) (.type "list")
  | frz {a : Addr} {o : Obj} {xs : List V} (e : H a = some (.frz o (.lst xs))) : TyOf K H (.ref a) (.type "list")
  | tup {a : Addr} {xs : List V} (e : H a = some (.tup xs)) : TyOf K H (.ref a) (.type "tuple")
  | dK {a : Addr} {kvs : List (Key × V)} (e : H a = some (.dK kvs)) : TyOf K H (.ref a) (.type "dict")
  | dT {a : Addr} {kvs : List (List Key × V)} (e : H a = some (.dT kvs)) : TyOf K H (.ref a) (.type "dict")
  | ins {a C dx : Addr} {fs : List (Str × V)} (e : H a = some (.ins C dx fs)) (cl : Cls K C) (ha : PySem.W.findIn K (.ref C) "__class__" = some (some (.builtin "object.__class__")))
      (hn : PySem.W.specialIn K (.builtin "object.__class__") "__get__" = some (some (.builtin "getset_descriptor.__get__"))) (htk : PySem.W.takesIn K (.builtin "object.__class__") = some true)
      (hm : PySem.W.mroIn K C (.type "object") = some true) : TyOf K H (.ref a) (.ref C)
theorem isinst_ok {x : V} {u t : Value} (I : Inv X pins σ H s) (rx : RelV x u) (ty : TyOf X.K H x t) (e : PySem.W.kitOne X.K t c = some b) (h : ∀ tk, Q (.bool b) { s with toks := tk }) :
    wpAny (model X.prog X.w) A (call (.builtin "isinstance") [u, c]) Q E s := by
  cases ty with
  | non => cases (show u = Value.none from rx); exact PySem.W.kia_one PySem.W.kitx_none I.kIn True.intro e (fun z => nomatch z) h
  | bl y => cases (show u = Value.bool y from rx); exact PySem.W.kia_one PySem.W.kitx_bool I.kIn True.intro e (fun z => nomatch z) h
  | int i => obtain ⟨t, q⟩ := (show ∃ t, u = Value.int i t from rx); cases q; exact PySem.W.kia_one PySem.W.kitx_int I.kIn True.intro e (fun z => nomatch z) h
  | str y => obtain ⟨t, q⟩ := (show ∃ t, u = Value.str y t from rx); cases q; exact PySem.W.kia_one PySem.W.kitx_str I.kIn True.intro e (fun z => nomatch z) h
  | flt y => obtain ⟨t, q⟩ := (show ∃ t, u = Value.float y t from rx); cases q; exact PySem.W.kia_one PySem.W.kitx_float I.kIn True.intro e (fun z => nomatch z) h
  | @lst a xs ea =>
    cases (show u = Value.ref a from rx)
    obtain ⟨_, _, n, _, h1⟩ := (show ObjOk X.prog X.w H s.heap a (.lst xs) from I.hok a _ ea)
    exact PySem.W.kia_one PySem.W.kitx_list I.kIn ⟨_, h1, rfl⟩ e (fun z => nomatch z) h
  | @frz a ob xs ea =>
    cases (show u = Value.ref a from rx)
    obtain ⟨_, _, _, n, _, h1⟩ := (show ObjOk X.prog X.w H s.heap a (.frz ob (.lst xs)) from I.hok a _ ea)
    exact PySem.W.kia_one PySem.W.kitx_list I.kIn ⟨_, h1, rfl⟩ e (fun z => nomatch z) h
  | @tup a xs ea =>
    cases (show u = Value.ref a from rx)
    obtain ⟨_, _, _, p⟩ := (show ObjOk X.prog X.w H s.heap a (.tup xs) from I.hok a _ ea)
    obtain ⟨o, h1, h2, _⟩ := p
    exact PySem.W.kia_one PySem.W.kitx_tuple I.kIn ⟨o, h1, h2⟩ e (fun z => nomatch z) h
  | @dK a kvs ea =>
    cases (show u = Value.ref a from rx)
    obtain ⟨_, _, vs, _, p⟩ := (show ObjOk X.prog X.w H s.heap a (.dK kvs) from I.hok a _ ea)
    obtain ⟨o, es, ep, h1, h2, _⟩ := p
    exact PySem.W.kia_one PySem.W.kitx_dict I.kIn ⟨o, h1, h2.1⟩ e (fun z => nomatch z) h
  | @dT a kvs ea =>
    cases (show u = Value.ref a from rx)
    obtain ⟨_, _, xs, _, o, es, ep, h1, h2, _⟩ := (show ObjOk X.prog X.w H s.heap a (.dT kvs) from I.hok a _ ea)
    exact PySem.W.kia_one PySem.W.kitx_dict I.kIn ⟨o, h1, h2.1⟩ e (fun z => nomatch z) h
  | @ins a C dx fs ea cl ha hn htk hm =>
    cases (show u = Value.ref a from rx)
    obtain ⟨mA, O, _⟩ := ins_get I.hok ea
    obtain ⟨od, J, _⟩ := O.look
    exact PySem.W.kia_one (PySem.W.kitx_own (cl.get _) cl.hd ha hn htk hm) I.kIn J e (fun z => nomatch z) h
end
end L2
namespace L2
open PySem PySem.Spec PyProof.Rows
structure Room (k : Nat) (A : Around) : Prop where
  hd : A.handled = none
  dp : A.depth + 3 * k + 5 < recursionLimit
  un : A.units + 16 * k + 200 < cLine
theorem Room.mono {j k : Nat} {A : Around} (r : Room k A) (h : j ≤ k) : Room j A := ⟨r.hd, by have := r.dp; omega, by have := r.un; omega⟩
theorem Room.deeper {k : Nat} {A : Around} (r : Room (k + 1) A) (env : Env) : Room k (A.deeper env) :=
  ⟨r.hd, by have := r.dp; show A.depth + 1 + 3 * k + 5 < _; omega, by have := r.un; show A.units + 3 + 16 * k + 200 < _; omega⟩
theorem Room.in1 {k : Nat} {A : Around} (r : Room (k + 1) A) : Room k A.in1 :=
  ⟨r.hd, by have := r.dp; show A.depth + 3 * k + 5 < _; omega, by have := r.un; show A.units + 1 + 16 * k + 200 < _; omega⟩
theorem make_depth {A : Around} {C : Addr} {us : List Value} {kw : List (Str × Value)} : (A.under (.builtin "type.__call__" ⟨.ref C :: us, kw⟩)).depth = A.depth + 1 := by
  first | rfl | simp [Around.under, Code.weight, Code.isCreation, Code.isGuard, Code.isCaller, Code.frames, Code.isFrame, guardIds]
theorem make_units {A : Around} {C : Addr} {us : List Value} {kw : List (Str × Value)} : (A.under (.builtin "type.__call__" ⟨.ref C :: us, kw⟩)).units = A.units + 1 := by
  first | rfl | simp [Around.under, Code.cUnits, Code.frames, Code.isFrame]
theorem Room.make {k : Nat} {A : Around} (r : Room (k + 1) A) (C : Addr) (us : List Value) (kw : List (Str × Value)) : Room k (A.under (.builtin "type.__call__" ⟨.ref C :: us, kw⟩)) :=
  ⟨r.hd, by have := r.dp; rw [make_depth]; omega, by have := r.un; rw [make_units]; omega⟩
theorem Room.depth {k : Nat} {A : Around} (r : Room k A) : A.depth < recursionLimit := by have := r.dp; omega
theorem Room.units {k : Nat} {A : Around} (r : Room k A) : A.units + 64 < cLine := by have := r.un; omega
def tNil : TA := fun _ H Q => Q [] H
def tCons (ta : TE) (tr : TA) : TA := fun σ H Q => ta σ H fun x H1 => tr σ H1 fun xs H2 => Q (x :: xs) H2
section
variable {X : Cx} {e : Expr} {es : List Expr} {te : TE} {t : TA} {pos : Pos}
theorem pa_nil : PA X [] tNil := fun _ _ _ _ H Q I h => Calls.spliced_nil ⟨[], H, I, .nil, h⟩
theorem pa_cons (ha : PE X e te) (hr : PA X es t) (hs : starEach (e :: es) X.env = (false, eval e X.env) :: starEach es X.env := by rfl) : PA X (e :: es) (tCons te t) := by
  intro pos pins s σ H Q I h
  rw [hs]
  show wpAny _ _ (spliced ((false, eval e X.env) :: backTo pos (starEach es X.env))) _ _ s
  refine Calls.spliced_cons (thn (ha pins s σ H _ I h) fun u s1 ⟨x, H1, I1, r1, q1⟩ => ?_)
  exact thn (hr pos pins s1 σ H1 _ I1 q1) fun us s2 ⟨xs, H2, I2, r2, q2⟩ => ⟨x :: xs, H2, I2, .cons r1 r2, q2⟩
def tTup (t : TA) : TE := fun σ H Q => t σ H fun xs H1 => xs.length ≤ sizeLine ∧ ∀ p, H1 p = none → Q (.ref p) (upd H1 p (.tup xs))
def tLst (t : TA) : TE := fun σ H Q => t σ H fun xs H1 => xs.length ≤ sizeLine ∧ ∀ p, H1 p = none → Q (.ref p) (upd H1 p (.lst xs))
theorem pe_tup {x1} (h : PA X es t) : PE X (.Tuple es x1 pos) (tTup t) := by
  intro pins s σ H Q I hq
  refine wpAny_Tuple_spliced (thn (h pos pins s σ H _ I hq) fun us s1 ⟨xs, H1, I1, r, z, q⟩ => ⟨by rw [← r.length]; exact z, ?_⟩)
  have hf : H1 s1.heap.objs.size = none := I1.hok.fresh (Nat.le_refl _)
  refine ⟨.ref s1.heap.objs.size, upd H1 s1.heap.objs.size (.tup xs), I1.laid (t' := s1.toks) (fun b u e => Heap.get?_push_of_some _ e) (Nat.le_refl _) ?_, rfl, q _ hf⟩
  exact ⟨z, us, r, ⟨_, Heap.get?_push_size _ rfl, rfl, _, rfl⟩⟩
theorem pe_lst (h : PA X es t) : PE X (.List es pos) (tLst t) := by
  intro pins s σ H Q I hq
  refine wpAny_List_spliced (thn (h pos pins s σ H _ I hq) fun us s1 ⟨xs, H1, I1, r, z, q⟩ => ⟨by rw [← r.length]; exact z, ?_⟩)
  have hf : H1 s1.heap.objs.size = none := I1.hok.fresh (Nat.le_refl _)
  refine ⟨.ref s1.heap.objs.size, upd H1 s1.heap.objs.size (.lst xs), I1.laid (t' := s1.toks) (fun b u e => Heap.get?_push_of_some _ e) (Nat.le_refl _) ?_, rfl, q _ hf⟩
  exact ⟨z, us, 0, r, Heap.get?_push_size _ rfl⟩
end
abbrev Sp := List V → Hp → VK → XK → Prop
abbrev CXT := List Env → Hp → Shared → XK → Value → Shared → Prop
structure Env0 (P : Program) (w : World) (K : PySem.W.Frag) (mg : Str → Option Value) (base : Heap) (A : Around) (outer : List Env) (s : Shared) (H : Hp) : Prop where
  frames : A.frames = some outer
  mod : Mod K mg base
  bs : ∀ b o, base.get? b = some o → s.heap.get? b = some o ∧ H b = none
  bsz : base.objs.size ≤ s.heap.objs.size
  funs : s.heap.FunFrames base outer
  frf : ∀ b ∈ frs outer, H b = none
  hok : HOk P w H s.heap
  bare : AllBare s.gens
def CE (outer : List Env) (P : Program) (w : World) (H : Hp) (s : Shared) (Q : VK) (u : Value) (s' : Shared) : Prop :=
  ∃ v H', s'.os = s.os ∧ AllBare s'.gens ∧ Un (frs outer) [] H H' s.heap s'.heap ∧ HOk P w H' s'.heap ∧ RelV v u ∧ Q v H'
def CR (CX : CXT) (outer : List Env) (P : Program) (w : World) (H : Hp) (s : Shared) (Q : VK) (E : XK) (r : Result) (s' : Shared) : Prop :=
  match r with
  | .ok (.ret u) => CE outer P w H s Q u s'
  | .ok _ => False
  | .error e => CX outer H s E e s'
structure FnOk (P : Program) (w : World) (K : PySem.W.Frag) (mg : Str → Option Value) (base : Heap) (CX : CXT) (k : Nat) (f : Addr) (fd : FuncData) (ps : List Str) (sp : Sp) : Prop where
  len : ∀ vs H Q E, sp vs H Q E → vs.length = ps.length
  run : ∀ (A : Around) (outer : List Env) (s : Shared) (H : Hp) (args : Args) (us : List Value) (vs : List V) (Q : VK) (E : XK), Room k A → Env0 P w K mg base A outer s H → BindsTo s fd args (ps.zip us) → Vals vs us → sp vs H Q E →
    codeAny (model P w) A (.call (.ref f) args) (CR CX outer P w H s Q E) s
theorem FnOk.mono {P : Program} {w : World} {K : PySem.W.Frag} {mg : Str → Option Value} {base : Heap} {CX : CXT} {j k : Nat} {f : Addr} {fd : FuncData} {ps : List Str} {sp : Sp} (F : FnOk P w K mg base CX j f fd ps sp) (h : j ≤ k) :
    FnOk P w K mg base CX k f fd ps sp := ⟨F.len, fun A outer s H args us vs Q E hr => F.run A outer s H args us vs Q E (hr.mono h)⟩
theorem FnOk.imp {P : Program} {w : World} {K : PySem.W.Frag} {mg : Str → Option Value} {base : Heap} {CX : CXT} {k : Nat} {f : Addr} {fd : FuncData} {ps : List Str} {sp sp' : Sp} (F : FnOk P w K mg base CX k f fd ps sp)
    (h : ∀ vs H Q E, sp' vs H Q E → sp vs H Q E) : FnOk P w K mg base CX k f fd ps sp' :=
  ⟨fun vs H Q E q => F.len vs H Q E (h _ _ _ _ q), fun A outer s H args us vs Q E hr he hb hv hs => F.run A outer s H args us vs Q E hr he hb hv (h _ _ _ _ hs)⟩
theorem Env0.make {P : Program} {w : World} {K : PySem.W.Frag} {mg : Str → Option Value} {base : Heap} {A : Around} {outer : List Env} {s : Shared} {H : Hp} (e : Env0 P w K mg base A outer s H) (C : Addr) (us : List Value) (kw : List (Str × Value)) :
    Env0 P w K mg base (A.under (.builtin "type.__call__" ⟨.ref C :: us, kw⟩)) outer s H := ⟨by first | exact e.frames | (simpa [Around.under, Code.envs, Code.isFrame, pushEnvs] using e.frames), e.mod, e.bs, e.bsz, e.funs, e.frf, e.hok, e.bare⟩
theorem Env0.in1 {P : Program} {w : World} {K : PySem.W.Frag} {mg : Str → Option Value} {base : Heap} {A : Around} {outer : List Env} {s : Shared} {H : Hp} (e : Env0 P w K mg base A outer s H) :
    Env0 P w K mg base A.in1 outer s H := ⟨e.frames, e.mod, e.bs, e.bsz, e.funs, e.frf, e.hok, e.bare⟩
section
variable {X : Cx} {pins : List (Addr × Obj)} {σ : St} {H : Hp} {s s' : Shared}
theorem Inv.env0 (I : Inv X pins σ H s) : Env0 X.prog X.w X.K X.mg X.base X.A X.stack s H :=
  ⟨I.ok.frames, I.ok.mod, I.bs, Nat.le_trans I.ok.bsz I.sz, I.stack, I.stkFree, I.hok, I.bare⟩
theorem Inv.after {Q : VK} {u : Value} (I : Inv X pins σ H s) (h : CE X.stack X.prog X.w H s Q u s') : EP X pins σ Q u s' := by
  obtain ⟨v, H', os, bare, un, hok, r, q⟩ := h
  obtain ⟨hh, g, d, t, os'⟩ := s'
  obtain rfl : os' = s.os := os
  exact ⟨v, H', I.call (h' := hh) (g' := g) (d' := d) (t' := t) (ch := []) un hok bare (fun b z => absurd z (by simp)), r, q⟩
end
def tCall (sp : Sp) (dvs : List V) (E : XK) (t : TA) : TE := fun σ H Q => t σ H fun vs H1 => sp (vs ++ dvs) H1 Q E
def tMeth (C : Addr) (m : Str) (sp : Sp) (dvs : List V) (E : XK) (ta : TE) (t : TA) : TE := fun σ H Q => ta σ H fun x H1 => ∃ a dx fs, x = .ref a ∧ H1 a = some (.ins C dx fs) ∧ fs.lookup m = none ∧
  t σ H1 fun vs H2 => sp (x :: (vs ++ dvs)) H2 Q E
def tMake (C : Addr) (sp : Sp) (dvs : List V) (E : XK) (t : TA) : TE := fun σ H Q => t σ H fun vs H1 => ∀ x dx, H1 x = none → H1 dx = none → dx ≠ x →
  sp (.ref x :: (vs ++ dvs)) (upd (upd H1 dx (.own x)) x (.ins C dx [])) (fun v H2 => v = .non ∧ Q (.ref x) H2) E
def Binds (K : PySem.W.Frag) (fd : FuncData) (ps : List Str) (ds : List Value) : Prop :=
  ∀ (s : Shared) (us : List Value), K.In s.heap → (us ++ ds).length = ps.length → BindsTo s fd ⟨us, []⟩ (ps.zip (us ++ ds))
theorem Binds.all {K : PySem.W.Frag} {fd : FuncData} {ps : List Str} (h : ∀ us : List Value, us.length = ps.length → bindArgs fd ⟨us, []⟩ = pure (ps.zip us)) : Binds K fd ps [] := fun s us _ hl => by
  rw [List.append_nil] at hl ⊢
  exact .of_eq (h us hl)
def Passes (CX : CXT) (X : Cx) (E : XK) : Prop := ∀ (pins : List (Addr × Obj)) (σ : St) (H : Hp) (s : Shared) (e : Value) (s' : Shared), Inv X pins σ H s → CX X.stack H s E e s' → X.xe e s'
section
variable {X : Cx} {CX : CXT} {k : Nat} {f C : Addr} {fd : FuncData} {ps : List Str} {sp : Sp} {dvs : List V} {ds : List Value} {E : XK} {x m : Str} {p pos apos : Pos} {e o : Expr} {es : List Expr} {ta : TE} {t : TA}
theorem run_fn {pins : List (Addr × Obj)} {σ : St} {H : Hp} {s : Shared} {Q : VK} {us : List Value} {vs : List V} (F : FnOk X.prog X.w X.K X.mg X.base CX k f fd ps sp) (hr : Room k X.A) (hb : Binds X.K fd ps ds) (hd : Vals dvs ds) (hx : Passes CX X E)
    (I : Inv X pins σ H s) (r : Vals vs us) (h : sp (vs ++ dvs) H Q E) : wpAny (model X.prog X.w) X.A (call (.ref f) us) (EP X pins σ Q) X.xe s := by
  have r2 : Vals (vs ++ dvs) (us ++ ds) := r.append hd
  have hl : (us ++ ds).length = ps.length := by rw [← r2.length]; exact F.len _ _ _ _ h
  refine wpAny_call (codeAny_mono (F.run X.A X.stack s H ⟨us, []⟩ (us ++ ds) (vs ++ dvs) Q E hr I.env0 (hb s us I.kIn hl) r2 h) fun r s' hq => ?_)
  cases r with
  | error e => exact hx pins σ H s e s' I hq
  | ok fl =>
    cases fl with
    | ret u => exact I.after hq
    | next => exact False.elim hq
    | brk => exact False.elim hq
    | cont => exact False.elim hq
theorem pe_call (F : FnOk X.prog X.w X.K X.mg X.base CX k f fd ps sp) (hr : Room k X.A) (hg : Gl X x) (hm : X.mg x = some (.ref f)) (hk : PySem.W.keepIn X.K (.ref f) = true) (hb : Binds X.K fd ps ds) (hd : Vals dvs ds) (hx : Passes CX X E)
    (ha : PA X (e :: es) t) (hdb : (x == ("__debug__" : Str)) = false := by decide) (he : starEach (e :: es) X.env = (false, eval e X.env) :: starEach es X.env := by rfl) (hpl : (backTo pos (starEach es X.env)).any (·.1) = false := by rfl) :
    PE X (.Call (.Name x p) (e :: es) [] pos) (tCall sp dvs E t) := by
  intro pins s σ H Q I h
  refine wpAny_Call_Name_kw (ld_glob I hg hm ?_ hdb)
  refine PySem.W.callWith_K (h₀ := X.base) I.ok.mod.kin hk (thn (ha pos pins s σ H _ I h) fun us s1 ⟨vs, H1, I1, r, q⟩ => ⟨I1.kIn, ?_⟩) he hpl
  exact run_fn F hr hb hd hx I1 r q
theorem pe_meth {pl : Sem Bool} (he : PE X o ta) (c : Cls X.K C) (hm : Meth X.K C m f) (F : FnOk X.prog X.w X.K X.mg X.base CX k f fd ps sp) (hr : Room k X.A) (hb : Binds X.K fd ps ds) (hd : Vals dvs ds) (hx : Passes CX X E) (ha : PA X (e :: es) t)
    (hst : starEach (e :: es) X.env = (false, eval e X.env) :: starEach es X.env := by rfl) (hpl : (backTo pos (starEach es X.env)).any (·.1) = false := by rfl)
    (ht : eval (.Call (.Attribute o m apos) (e :: es) [] pos) X.env = (do
      let ov ← eval o X.env
      standAt apos.atName
      let (f, first) ← holding [ov] (getMethod ov m pl)
      callWith pos f first (backTo pos (starEach (e :: es) X.env)) (backToKw pos (keywordEach [] X.env))) := by rfl) :
    PE X (.Call (.Attribute o m apos) (e :: es) [] pos) (tMeth C m sp dvs E ta t) := by
  intro pins s σ H Q I h
  refine PySem.W.methodCall_KW (pl := pl) (thn (he pins s σ H _ I h) fun u s1 ⟨x, H1, I1, rx, a, dx, fs, ex, ea, l, q⟩ => ?_) ht
  subst ex
  obtain rfl : u = Value.ref a := rx
  refine getmeth_ok I1 ea c hm l ?_
  refine PySem.W.callWith_K (first := [.ref a]) (h₀ := X.base) I.ok.mod.kin hm.kp (thn (ha pos pins s1 σ H1 _ I1 q) fun us s2 ⟨vs, H2, I2, r, q2⟩ => ⟨I2.kIn, ?_⟩) hst hpl
  exact run_fn (us := .ref a :: us) (vs := .ref a :: vs) F hr hb hd hx I2 (.cons rfl r) q2
structure Mk (K : PySem.W.Frag) (C f : Addr) : Prop where
  makes : PySem.W.makesIn K C = true
  init : PySem.W.findIn K (.ref C) "__init__" = some (some (.ref f))
  fn : PySem.W.isFn K (.ref f) = true
  kp : PySem.W.keepIn K (.ref C) = true
theorem run_make {pins : List (Addr × Obj)} {σ : St} {H : Hp} {s : Shared} {Q : VK} {us : List Value} {vs : List V} (M : Mk X.K C f) (F : FnOk X.prog X.w X.K X.mg X.base CX k f fd ps sp) (hr : Room (k + 1) X.A) (hb : Binds X.K fd ps ds) (hd : Vals dvs ds)
    (hx : Passes CX X E) (I : Inv X pins σ H s) (r : Vals vs us)
    (h : ∀ x dx, H x = none → H dx = none → dx ≠ x → sp (.ref x :: (vs ++ dvs)) (upd (upd H dx (.own x)) x (.ins C dx [])) (fun v H2 => v = .non ∧ Q (.ref x) H2) E) :
    wpAny (model X.prog X.w) X.A (call (.ref C) us) (EP X pins σ Q) X.xe s := by
  have hq := h (s.heap.objs.size + 1) s.heap.objs.size (I.hok.fresh (Nat.le_succ _)) (I.hok.fresh (Nat.le_refl _)) (Nat.ne_of_lt (Nat.lt_succ_self _))
  have I2 := Inv.made (C := C) I
  have r2 : Vals (V.ref (s.heap.objs.size + 1) :: (vs ++ dvs)) (Value.ref (s.heap.objs.size + 1) :: (us ++ ds)) := .cons rfl (r.append hd)
  have hl : (Value.ref (s.heap.objs.size + 1) :: us ++ ds).length = ps.length := by
    have e := r2.length
    rw [F.len _ _ _ _ hq] at e
    exact e.symm
  refine wpAny_call (make_map (f := f) I.kIn M.makes M.init (beq_iff_eq.mp M.fn) (codeAny_mono (F.run _ X.stack _ _ ⟨Value.ref (s.heap.objs.size + 1) :: us, []⟩ (Value.ref (s.heap.objs.size + 1) :: (us ++ ds)) _ _ E (hr.make C us [])
    (I2.env0.make C us []) (hb _ (Value.ref (s.heap.objs.size + 1) :: us) I2.kIn hl) r2 hq) fun r s' hq' => ?_))
  cases r with
  | error e => exact hx pins σ _ _ e s' I2 hq'
  | ok fl =>
    cases fl with
    | ret u =>
      obtain ⟨v, H', I3, rv, ev, q3⟩ := I2.after hq'
      subst ev
      exact ⟨rv, ⟨V.ref (s.heap.objs.size + 1), H', I3, rfl, q3⟩⟩
    | next => exact False.elim hq'
    | brk => exact False.elim hq'
    | cont => exact False.elim hq'
theorem pe_make (M : Mk X.K C f) (F : FnOk X.prog X.w X.K X.mg X.base CX k f fd ps sp) (hr : Room (k + 1) X.A) (hg : Gl X x) (hm : X.mg x = some (.ref C)) (hb : Binds X.K fd ps ds) (hd : Vals dvs ds) (hx : Passes CX X E)
    (ha : PA X (e :: es) t) (hdb : (x == ("__debug__" : Str)) = false := by decide) (he : starEach (e :: es) X.env = (false, eval e X.env) :: starEach es X.env := by rfl) (hpl : (backTo pos (starEach es X.env)).any (·.1) = false := by rfl) :
    PE X (.Call (.Name x p) (e :: es) [] pos) (tMake C sp dvs E t) := by
  intro pins s σ H Q I h
  refine wpAny_Call_Name_kw (ld_glob I hg hm ?_ hdb)
  refine PySem.W.callWith_K (h₀ := X.base) I.ok.mod.kin M.kp (thn (ha pos pins s σ H _ I h) fun us s1 ⟨vs, H1, I1, r, q⟩ => ⟨I1.kIn, ?_⟩) he hpl
  exact run_make M F hr hb hd hx I1 r q
end
section
variable {X : Cx} {CX : CXT} {k : Nat} {f C : Addr} {fd : FuncData} {ps ks : List Str} {sp : Sp} {E : XK} {x m : Str} {p pos apos kpos : Pos} {e o : Expr} {es : List Expr} {kws : List Keyword} {te ta : TE} {t tk : TA} {nm : Option Str}
structure KBinds (K : PySem.W.Frag) (fd : FuncData) (ps ks : List Str) (g : List Value → List Value → List Value) (gV : List V → List V → List V) : Prop where
  to : ∀ (s : Shared) (us ws : List Value), K.In s.heap → (g us ws).length = ps.length → BindsTo s fd ⟨us, ks.zip ws⟩ (ps.zip (g us ws))
  rel : ∀ {vs : List V} {us : List Value} {zs : List V} {ws : List Value}, Vals vs us → Vals zs ws → Vals (gV vs zs) (g us ws)
variable {g : List Value → List Value → List Value} {gV : List V → List V → List V}
end
structure FnScope (N P : List Str) (sc : Scope) : Prop where
  kind : sc.kind = .function
  co : sc.isCoroutine = false
  gen : sc.isGenerator = false
  nd : N.Nodup
  pre : N.take P.length = P
  par : ∀ x ∈ P, sc.names.lookup x = some .local ∨ sc.names.lookup x = some .cell
  nofree : ∀ y ∈ sc.names, y.2 ≠ .free
theorem bindL_out {kindOf : Str → Option NameKind} {x : Str} : ∀ {binds : List (Str × Value)} {m : Str → Option Value}, (∀ v, (x, v) ∉ binds) → bindL kindOf binds m x = m x
  | [], _, _ => rfl
  | (n, v) :: r, m, h => by
    unfold bindL
    rw [bindL_out fun w hw => h w (List.mem_cons_of_mem _ hw)]
    split
    · have : x ≠ n := by rintro rfl; exact h v List.mem_cons_self
      simp [this]
    · rfl
theorem bindC_out {kindOf : Str → Option NameKind} {x : Str} : ∀ {binds : List (Str × Value)} {m : Str → Option Value}, (∀ v, (x, v) ∉ binds) → bindC kindOf binds m x = m x
  | [], _, _ => rfl
  | (n, v) :: r, m, h => by
    unfold bindC
    rw [bindC_out fun w hw => h w (List.mem_cons_of_mem _ hw)]
    split
    · rfl
    · have : x ≠ n := by rintro rfl; exact h v List.mem_cons_self
      simp [this]
theorem bindL_get {kindOf : Str → Option NameKind} {x : Str} {v : Value} : ∀ {P : List Str} {vs : List Value} {i : Nat} {m : Str → Option Value}, P.Nodup → P[i]? = some x → vs[i]? = some v → kindOf x = some .local →
    bindL kindOf (P.zip vs) m x = some v
  | [], _, _, _, _, h, _, _ => by simp at h
  | _ :: _, [], _, _, _, _, h, _ => by simp at h
  | p :: P, w :: vs, 0, m, nd, h1, h2, hk => by
    simp at h1 h2; subst h1; subst h2
    show bindL kindOf ((p, w) :: P.zip vs) m p = _
    unfold bindL
    rw [bindL_out fun v hv => (List.nodup_cons.mp nd).1 (List.of_mem_zip hv).1, if_pos hk]
    simp
  | p :: P, w :: vs, i + 1, m, nd, h1, h2, hk => by
    show bindL kindOf ((p, w) :: P.zip vs) m x = _
    unfold bindL
    exact bindL_get (i := i) (List.nodup_cons.mp nd).2 (by simpa using h1) (by simpa using h2) hk
theorem bindC_get {kindOf : Str → Option NameKind} {x : Str} {v : Value} : ∀ {P : List Str} {vs : List Value} {i : Nat} {m : Str → Option Value}, P.Nodup → P[i]? = some x → vs[i]? = some v → kindOf x ≠ some .local →
    bindC kindOf (P.zip vs) m x = some v
  | [], _, _, _, _, h, _, _ => by simp at h
  | _ :: _, [], _, _, _, _, h, _ => by simp at h
  | p :: P, w :: vs, 0, m, nd, h1, h2, hk => by
    simp at h1 h2; subst h1; subst h2
    show bindC kindOf ((p, w) :: P.zip vs) m p = _
    unfold bindC
    rw [bindC_out fun v hv => (List.nodup_cons.mp nd).1 (List.of_mem_zip hv).1, if_neg hk]
    simp
  | p :: P, w :: vs, i + 1, m, nd, h1, h2, hk => by
    show bindC kindOf ((p, w) :: P.zip vs) m x = _
    unfold bindC
    exact bindC_get (i := i) (List.nodup_cons.mp nd).2 (by simpa using h1) (by simpa using h2) hk
def start (N : List Str) (vs : List V) : St := vs.map some ++ List.replicate (N.length - vs.length) none
def cxOf (CX : CXT) (P : Program) (w : World) (K : PySem.W.Frag) (mg : Str → Option Value) (base : Heap) (N : List Str) (qual : Str) (scope : Scope) (f : Addr) (cd : Value) (A : Around) (outer : List Env) (s : Shared) (H : Hp) (E : XK) : Cx where
  prog := P
  w := w
  K := K
  mg := mg
  base := base
  A := A.deeper (envOfC qual scope s.heap.objs.size f cd)
  N := N
  s₀ := s
  H₀ := H
  env := envOfC qual scope s.heap.objs.size f cd
  outer := outer
  stack := envOfC qual scope s.heap.objs.size f cd :: outer
  ex := []
  calm := true
  fn := fun _ => true
  pn := []
  xe := fun e s' => wpAny (model P w) (A.deeper (envOfC qual scope s.heap.objs.size f cd)) (leaving (envOfC qual scope s.heap.objs.size f cd) e) (fun _ s'' => CX outer H s E e s'') (fun e' s'' => CX outer H s E e' s'') s'
theorem cell_has {sc : Scope} {n : Nat} {x : Str} (h : sc.names.lookup x = some .cell) : ∃ c, (cellsFrom n sc.names []).lookup x = some c := by
  have q := PySem.W.cellsFrom_some sc.names n [] (.inl h)
  exact Option.isSome_iff_exists.mp q
theorem inv_start {CX : CXT} {P : Program} {w : World} {K : PySem.W.Frag} {mg : Str → Option Value} {base : Heap} {N ps : List Str} {qual : Str} {scope : Scope} {f : Addr} {cd : Value} {A : Around} {outer : List Env} {s s1 : Shared} {H : Hp} {E : XK} {us : List Value} {vs : List V}
    (S : FnScope N ps scope) (hd : A.handled = none) (e0 : Env0 P w K mg base A outer s H) (hl : vs.length = ps.length) (r : Vals vs us)
    (x : InCallC s s.heap.objs.size (bindL (envOfC qual scope s.heap.objs.size f cd).kindOf (ps.zip us) fun _ => none) (cellsFrom (s.heap.objs.size + 1) scope.names []) (bindC (envOfC qual scope s.heap.objs.size f cd).kindOf (ps.zip us) fun _ => none) s1) :
    Inv (cxOf CX P w K mg base N qual scope f cd A outer s H E) [] (start N vs) H s1 := by
  have hpl : ps.length ≤ N.length := by have := congrArg List.length S.pre; rw [List.length_take] at this; omega
  obtain ⟨h1, tk, rfl, hk⟩ := x.done
  have noA : ∀ b : Addr, b ∉ (cxOf CX P w K mg base N qual scope f cd A outer s H E).ex := fun b z => absurd (show b ∈ ([] : List Addr) from z) (by simp)
  refine ⟨⟨e0.mod, S.kind, rfl, rfl, Nat.le_refl _, fun y z c h1 h2 => ?_, fun y hy => ?_, fun y c _ h => ?_, fun _ => hd, Around.frames_deeper e0.frames, .inr ⟨rfl, rfl⟩, fun b z => absurd z (noA b), e0.bs, e0.bsz, fun b _ _ => noA b, fun b z => absurd z (noA b), e0.funs, e0.frf⟩,
    rfl, e0.bare, Un.kept hk, ⟨_, x.toInCall.ns, fun i y v h1 h2 h3 => ?_⟩, fun y c h => ⟨_, x.cell y c h⟩, e0.hok.fresh (Nat.le_refl _), fun y c h => ?_, fun p hp => absurd (show p ∈ ([] : List (Addr × Obj)) from hp) (by simp), e0.hok.kept hk, ?_⟩
  · exact name_of_addr x.apart (PySem.mem_of_lookup h1) (PySem.mem_of_lookup h2)
  · have hy : scope.names.lookup y = some .cell ∨ scope.names.lookup y = some .free := hy
    rcases hy with hy | hy
    · exact cell_has hy
    · exact absurd rfl (S.nofree _ (PySem.mem_of_lookup hy))
  · exact Nat.le_of_lt (x.above y c (PySem.mem_of_lookup h))
  · have hi : i < vs.length := by
      unfold start at h2
      by_cases hi : i < vs.length
      · exact hi
      · rw [List.getElem?_append_right (by simpa using hi)] at h2
        rw [List.getElem?_replicate] at h2
        split at h2 <;> cases h2
    have ha : vs[i]? = some v := by
      unfold start at h2
      rw [List.getElem?_append_left (by simpa using hi), List.getElem?_map] at h2
      cases e : vs[i]? with
      | none => rw [e] at h2; cases h2
      | some a => rw [e] at h2; cases h2; rfl
    obtain ⟨u, hu, rv⟩ := r.get ha
    have hp : ps[i]? = some y := by
      rw [← S.pre, List.getElem?_take_of_lt (by omega)]; exact h1
    have ndP : ps.Nodup := by rw [← S.pre]; exact S.nd.sublist (List.take_sublist _ _)
    refine ⟨u, rv, ?_⟩
    rcases S.par y (List.mem_of_getElem? hp) with k | k
    · exact .inl ⟨k, bindL_get ndP hp hu k⟩
    · obtain ⟨c, e⟩ := cell_has (n := s.heap.objs.size + 1) k
      refine .inr ⟨.inl k, c, e, ?_⟩
      have q := x.cell y c e
      rw [bindC_get ndP hp hu (by show scope.names.lookup y ≠ _; rw [k]; decide)] at q
      exact q
  · exact e0.hok.fresh (Nat.le_of_lt (x.above y c (PySem.mem_of_lookup h)))
  · unfold start
    show _ = N.length
    rw [List.length_append, List.length_map, List.length_replicate]
    omega
theorem fn_of {CX : CXT} {P : Program} {w : World} {K : PySem.W.Frag} {mg : Str → Option Value} {base : Heap} {k : Nat} {f : Addr} {name qual : Str} {params : Arguments} {body : List Stmt} {scope : Scope} {dV kV doc pm cdv ct oc : Value} {an od : Option Addr}
    {osl : Array (Option Value)} {N ps : List Str} {sp : Sp} (lk : K.lookup f = some ⟨oc, od, .func (PySem.W.fnOf name qual params body scope dV kV doc pm an cdv ct), osl⟩) (hcd : PySem.W.codeIn K cdv qual = true) (S : FnScope N ps scope)
    (len : ∀ vs H Q E, sp vs H Q E → vs.length = ps.length)
    (hbody : ∀ (A : Around) (outer : List Env) (s : Shared) (H : Hp) (vs : List V) (Q : VK) (E : XK), Room k (A.deeper (envOfC qual scope s.heap.objs.size f cdv)) → sp vs H Q E →
      ∃ t, PSs (cxOf CX P w K mg base N qual scope f cdv A outer s H E) body t ∧ t { nx := fun _ H' => Q .non H', rt := Q } (start N vs) H) :
    FnOk P w K mg base CX (k + 1) f (PySem.W.fnOf name qual params body scope dV kV doc pm an cdv ct) ps sp := by
  refine ⟨len, fun A outer s H args us vs Q E hr e0 hb r hsp => ?_⟩
  have hl := len _ _ _ _ hsp
  have KX : K.In s.heap := e0.mod.kin.keeps fun b o e => (e0.bs b o e).1
  have lim : s.heap.NoLimit := e0.mod.nolimit.keeps fun b o e => (e0.bs b o e).1
  have hkind : ∀ y ∈ ps.zip us, scope.names.lookup y.1 = some .local ∨ (scope.names.lookup y.1 = some .cell ∧ ((cellsFrom (s.heap.objs.size + 1) scope.names []).lookup y.1).isSome = true) := fun ⟨n, v⟩ hy => by
    rcases S.par n (List.of_mem_zip hy).1 with q | q
    · exact .inl q
    · exact .inr ⟨q, PySem.W.cellsFrom_some _ _ _ (.inl q)⟩
  refine codeAny_call_function hr.depth (KX _ _ lk) rfl S.co S.gen rfl (PySem.W.codeRec_of KX hcd) (hb _ _ _ _ ?_)
  refine wpAny_newFunctionEnv_cells S.kind hkind fun env he s1 x => ?_
  subst he
  refine ⟨lim.keeps x.toInCall.keep, codeAny_func ?_⟩
  obtain ⟨t, ht, hq⟩ := hbody A outer s H vs Q E (hr.deeper _) hsp
  have I : Inv (cxOf CX P w K mg base N qual scope f cdv A outer s H E) [] (start N vs) H s1 := inv_start S hr.hd e0 hl r x
  refine wpAny_mono (ht [] s1 (start N vs) H _ I hq) (fun fl s' hs => ?_) fun e s' hs => hs
  have fin : ∀ {σ' : St} {H' : Hp} {v : V} {u : Value}, Inv (cxOf CX P w K mg base N qual scope f cdv A outer s H E) [] σ' H' s' → RelV v u → Q v H' → CE outer P w H s Q u s' :=
    fun {σ' H' v u} J rv q => ⟨v, H', J.os, J.bare, J.base, J.hok, rv, q⟩
  cases fl with
  | ret u =>
    obtain ⟨v, σ', H', J, rv, q⟩ := hs
    exact fin J rv q
  | next =>
    obtain ⟨σ', H', J, q⟩ := hs
    exact fin (v := V.non) (u := Value.none) J rfl q
  | brk =>
    obtain ⟨_, _, _, q⟩ := hs
    exact False.elim q
  | cont =>
    obtain ⟨_, _, _, q⟩ := hs
    exact False.elim q
end L2
namespace L2
open PySem PySem.Spec PyProof.Rows
section
variable {X : Cx} {x : Str} {p pos : Pos} {e : Expr} {es : List Expr} {t : TA} {id T : String} {r : List V → Hp → VK → Prop}
def tCB (r : List V → Hp → VK → Prop) (t : TA) : TE := fun σ H Q => t σ H fun vs H1 => r vs H1 Q
theorem pe_callB (hc : CallR X (.builtin id) r) (hg : Gl X x) (hm : X.mg x = none) (hv : bootBuiltins x = some (.builtin id)) (ha : PA X (e :: es) t) (hn : x ≠ "__name__" := by decide) (hdb : (x == ("__debug__" : Str)) = false := by decide)
    (he : starEach (e :: es) X.env = (false, eval e X.env) :: starEach es X.env := by rfl) (hpl : (backTo pos (starEach es X.env)).any (·.1) = false := by rfl) : PE X (.Call (.Name x p) (e :: es) [] pos) (tCB r t) := by
  intro pins s σ H Q I h
  refine wpAny_Call_Name_kw (ld_blt I hg hm hv ?_ hn hdb)
  exact PyProof.Rows.callWith_builtin1 (thn (ha pos pins s σ H _ I h) fun us s1 ⟨vs, H1, I1, r1, q1⟩ => hc pins s1 σ H1 vs us Q I1 r1 q1) he hpl
theorem pe_callTy (hc : CallR X (.type T) r) (hg : Gl X x) (hm : X.mg x = none) (hv : bootBuiltins x = some (.type T)) (ha : PA X (e :: es) t) (hn : x ≠ "__name__" := by decide) (hdb : (x == ("__debug__" : Str)) = false := by decide)
    (he : starEach (e :: es) X.env = (false, eval e X.env) :: starEach es X.env := by rfl) (hpl : (backTo pos (starEach es X.env)).any (·.1) = false := by rfl) : PE X (.Call (.Name x p) (e :: es) [] pos) (tCB r t) := by
  intro pins s σ H Q I h
  refine wpAny_Call_Name_kw (ld_blt I hg hm hv ?_ hn hdb)
  exact PyProof.Rows.callWith_type1 (thn (ha pos pins s σ H _ I h) fun us s1 ⟨vs, H1, I1, r1, q1⟩ => hc pins s1 σ H1 vs us Q I1 r1 q1) he hpl
end
end L2
namespace HT
open PySem PyProof.Rows
section
open PySem.SeqAt
open PySem.AutoSeq1 (wpAny_loadPart')
open PySem.MeetsSeq PySem.MeetsSeq2 PySem.MeetsSeq3
end
section
variable {prog : Program} {w : World} {A : Around} {E : Value → Shared → Prop} {s : Shared}
end
end HT
namespace L2
open PySem PySem.Spec PyProof.Rows
abbrev TO := St → Hp → (Option Int → Hp → Prop) → Prop
theorem intsAre_of {ns : List Int} : ∀ {us : List Value}, Vals (ns.map V.int) us → IntsAre us ns := by
  induction ns with
  | nil => intro us r; rw [List.map_nil] at r; cases r; exact .nil
  | cons n ns ih =>
    intro us r
    rw [List.map_cons] at r
    cases r with
    | cons r1 r2 =>
      obtain ⟨t, e⟩ := r1
      subst e
      exact .cons n t (ih r2)
section
variable {X : Cx} {e : Expr} {te : TE} {lo hi : Option Expr} {tl th : TO} {pos p2 : Pos}
end
end L2
namespace L2
open PySem PySem.Spec PyProof.Rows
def ixN (n : Nat) (i : Int) : Option Nat := if 0 ≤ i then (if i < n then some i.toNat else none) else if -(n : Int) ≤ i then some (i + n).toNat else none
def atI {α : Type} (xs : List α) (i : Int) : Option α := (ixN xs.length i).bind fun j => xs[j]?
theorem ixN_seq {n : Nat} {i : Int} {j : Nat} (h : ixN n i = some j) : seqIndex? i n = some j ∧ j < n ∧ -(n : Int) ≤ i ∧ i < n := by
  unfold ixN at h
  by_cases h0 : 0 ≤ i
  · rw [if_pos h0] at h
    by_cases h1 : i < n
    · rw [if_pos h1] at h
      have e : i.toNat = j := Option.some.inj h
      exact ⟨by rw [seqIndex_of h0 h1, e], by omega, by omega, h1⟩
    · rw [if_neg h1] at h; cases h
  · rw [if_neg h0] at h
    by_cases h1 : -(n : Int) ≤ i
    · rw [if_pos h1] at h
      have e : (i + n).toNat = j := Option.some.inj h
      exact ⟨by rw [seqIndex_neg (by omega) h1, e], by omega, h1, by omega⟩
    · rw [if_neg h1] at h; cases h
theorem atI_get {α : Type} {xs : List α} {i : Int} {v : α} (h : atI xs i = some v) : ∃ j, seqIndex? i xs.length = some j ∧ xs[j]? = some v ∧ j < xs.length ∧ -(xs.length : Int) ≤ i ∧ i < xs.length := by
  unfold atI at h
  cases e : ixN xs.length i with
  | none => rw [e] at h; cases h
  | some j =>
    rw [e] at h
    obtain ⟨h1, h2, h3, h4⟩ := ixN_seq e
    exact ⟨j, h1, h, h2, h3, h4⟩
theorem atI_nat {α : Type} {xs : List α} {j : Nat} {v : α} (h : xs[j]? = some v) : atI xs (j : Int) = some v := by
  have hj : j < xs.length := (List.getElem?_eq_some_iff.mp h).1
  have e : ixN xs.length (j : Int) = some j := by
    unfold ixN
    rw [if_pos (by omega), if_pos (by omega)]; simp
  unfold atI; rw [e]; exact h
def PlainIx (b : Expr) : Prop := ∀ o i, subscripted b false o i = operate [o, i] (getItem o i)
def IxR (X : Cx) (r : R2) : Prop :=
  ∀ (value slice : Expr) (pins : List (Addr × Obj)) (s : Shared) (σ : St) (H : Hp) (x y : V) (v u : Value) (Q : VK), Inv X pins σ H s → RelV x v → RelV y u → r x y H Q →
    subscripted slice false v u = operate [v, u] (getItem v u) → wpAny (model X.prog X.w) X.A (subscriptTail value slice v u) (EP X pins σ Q) X.xe s
def MtR (X : Cx) (id : String) (r : V → List V → Hp → VK → Prop) : Prop :=
  ∀ (pins : List (Addr × Obj)) (s : Shared) (σ : St) (H : Hp) (x : V) (xs : List V) (v : Value) (us : List Value) (Q : VK), Inv X pins σ H s → RelV x v → Vals xs us → r x xs H Q →
    wpAny (model X.prog X.w) X.A (call (.builtin id) (v :: us)) (EP X pins σ Q) X.xe s
section
variable {X : Cx} {a b : Expr} {ta tb : TE} {pos : Pos}
theorem pe_ix {r : R2} (hr : IxR X r) (ha : PE X a ta) (hb : PE X b tb) (hs : PlainIx b) : PE X (.Subscript a b pos) (tOp r ta tb) := by
  intro pins s σ H Q I h
  exact Subscript_ (binT ha hb I h fun v u s2 x y H2 I2 rx ry q => hr a b pins s2 σ H2 x y v u Q I2 rx ry q (hs _ _))
def rIxL (K : PySem.W.Frag) : R2 := fun x y H Q => ∃ p xs i v, x = .ref p ∧ y = .int i ∧ SqL K H p xs ∧ atI xs i = some v ∧ Q v H
def rIxT (K : PySem.W.Frag) : R2 := fun x y H Q => ∃ p xs i v, x = .ref p ∧ y = .int i ∧ SqT K H p xs ∧ atI xs i = some v ∧ Q v H
theorem ix_list : IxR X (rIxL X.K) := by
  intro value slice pins s σ H x y v u Q I rx ry h hs
  obtain ⟨p, xs, i, z, rfl, rfl, hq, he, q⟩ := h
  cases rx
  obtain ⟨t, rfl⟩ := ry
  obtain ⟨its, r, pl, hz⟩ := I.list hq
  obtain ⟨j, h1, h2, h3, h4, h5⟩ := atI_get he
  obtain ⟨w, ew, rw'⟩ := r.get h2
  have hl := r.length
  have hn := line63
  have fin : EP X pins σ Q w s := ⟨z, H, I, rw', q⟩
  by_cases h0 : 0 ≤ i
  · have hj : i.toNat = j := by
      rw [seqIndex_of h0 h5] at h1
      exact Option.some.inj h1
    exact item_listR pl.isList h0 (by omega) (by rw [hj]; simpa using ew) fin hs
  · have hj : (i + (its.toArray.size : Int)).toNat = j := by
      rw [seqIndex_neg (by omega) h4] at h1
      rw [List.size_toArray, ← hl]
      exact Option.some.inj h1
    exact subscriptTail_builtinR (x := w) pl.isList.typeIs slot_list_getitem.lookup
      (wpAny_getItem_list_neg (Q := fun r s' => r = w ∧ EP X pins σ Q r s') pl.isList (by omega) (by rw [List.size_toArray] <;> omega) (by omega) (by rw [hj]; simpa using ew) ⟨rfl, fin⟩) hs
theorem ix_tup : IxR X (rIxT X.K) := by
  intro value slice pins s σ H x y v u Q I rx ry h hs
  obtain ⟨p, xs, i, z, rfl, rfl, hq, he, q⟩ := h
  cases rx
  obtain ⟨t, rfl⟩ := ry
  obtain ⟨its, r, pl, hz⟩ := I.tuple hq
  obtain ⟨j, h1, h2, h3, h4, h5⟩ := atI_get he
  obtain ⟨w, ew, rw'⟩ := r.get h2
  have hl := r.length
  have hn := line63
  have fin : EP X pins σ Q w s := ⟨z, H, I, rw', q⟩
  exact subscriptTail_builtinR (x := w) pl.typeIs slot_tuple_getitem.lookup
    (getItem_tuple (j := j) (Q := fun r s' => r = w ∧ EP X pins σ Q r s') pl (by omega) (by omega) (by rw [List.size_toArray, ← hl]; exact h1) (by simpa using ew) ⟨rfl, fin⟩) hs
theorem Inv.lst {pins : List (Addr × Obj)} {σ : St} {H : Hp} {s : Shared} {p : Addr} {xs : List V} (I : Inv X pins σ H s) (h : H p = some (.lst xs)) :
    ∃ (its : List Value) (n : Nat), Vals xs its ∧ s.heap.get? p = some { cls := .type "list", data := .seq its.toArray n } ∧ xs.length ≤ sizeLine := by
  obtain ⟨z, its, n, r, e⟩ := I.hok p _ h
  exact ⟨its, n, r, e, z⟩
def flatV : V → Bool
  | .non => true
  | .bl _ => true
  | .int _ => true
  | .str _ => true
  | _ => false
def eqV : V → V → Bool
  | .non, .non => true
  | .bl a, .bl b => a == b
  | .bl a, .int b => (if a then 1 else 0) == b
  | .int a, .bl b => a == (if b then 1 else 0)
  | .int a, .int b => a == b
  | .str a, .str b => a == b
  | _, _ => false
theorem eqAt_V {A : Around} {s : Shared} {y x : V} {u v : Value} (ry : RelV y u) (rx : RelV x v) (fy : flatV y = true) (fx : flatV x = true) : SeqAt.EqAt A s u v (eqV y x) := by
  cases y with
  | non =>
    cases ry
    cases x with
    | non => cases rx; exact SeqAt.EqAt.same _
    | bl b => cases rx; exact SeqAt.EqAt.none_bool b
    | int b => obtain ⟨t, rfl⟩ := rx; exact SeqAt.EqAt.none_int b t
    | str b => obtain ⟨t, rfl⟩ := rx; exact SeqAt.EqAt.none_str b t
    | _ => exact absurd (show false = true from fx) Bool.false_ne_true
  | bl a =>
    cases ry
    cases x with
    | non => cases rx; exact SeqAt.EqAt.bool_none a
    | bl b => cases rx; exact SeqAt.EqAt.bool_bool a b
    | int b => obtain ⟨t, rfl⟩ := rx; exact SeqAt.EqAt.bool_int a b t
    | str b => obtain ⟨t, rfl⟩ := rx; exact SeqAt.EqAt.bool_str a b t
    | _ => exact absurd (show false = true from fx) Bool.false_ne_true
  | int a =>
    obtain ⟨t', rfl⟩ := ry
    cases x with
    | non => cases rx; exact SeqAt.EqAt.int_none a t'
    | bl b => cases rx; exact SeqAt.EqAt.int_bool a t' b
    | int b => obtain ⟨t, rfl⟩ := rx; exact SeqAt.EqAt.int_int a t' b t
    | str b => obtain ⟨t, rfl⟩ := rx; exact SeqAt.EqAt.int_str a t' b t
    | _ => exact absurd (show false = true from fx) Bool.false_ne_true
  | str a =>
    obtain ⟨t', rfl⟩ := ry
    cases x with
    | non => cases rx; exact SeqAt.EqAt.str_none a t'
    | bl b => cases rx; exact SeqAt.EqAt.str_bool a t' b
    | int b => obtain ⟨t, rfl⟩ := rx; exact SeqAt.EqAt.str_int a t' b t
    | str b => obtain ⟨t, rfl⟩ := rx; exact SeqAt.EqAt.str_str a t' b t
    | _ => exact absurd (show false = true from fx) Bool.false_ne_true
  | _ => exact absurd (show false = true from fy) Bool.false_ne_true
def eqU (x : V) (u : Value) : Bool := match u with
  | .none => eqV .non x
  | .bool b => eqV (.bl b) x
  | .int i _ => eqV (.int i) x
  | .str z _ => eqV (.str z) x
  | _ => false
theorem eqU_of {x y : V} {u : Value} (r : RelV y u) (f : flatV y = true) : eqU x u = eqV y x := by
  cases y with
  | non => cases r; rfl
  | bl b => cases r; rfl
  | int i => obtain ⟨t, rfl⟩ := r; rfl
  | str z => obtain ⟨t, rfl⟩ := r; rfl
  | _ => exact absurd (show false = true from f) Bool.false_ne_true
theorem any_eqU {x : V} : ∀ {xs : List V} {us : List Value}, Vals xs us → xs.all flatV = true → us.any (eqU x) = xs.any fun y => eqV y x
  | _, _, .nil, _ => rfl
  | y :: xs, u :: us, .cons r t, f => by
    rw [List.all_cons, Bool.and_eq_true] at f
    rw [List.any_cons, List.any_cons, eqU_of r f.1, any_eqU t f.2]
theorem mem_eqAt {A : Around} {s : Shared} {x : V} {v : Value} (rx : RelV x v) (fx : flatV x = true) : ∀ {xs : List V} {us : List Value}, Vals xs us → xs.all flatV = true → ∀ u ∈ us, SeqAt.EqAt A s u v (eqU x u)
  | _, _, .nil, _ => fun u hu => by cases hu
  | y :: xs, u :: us, .cons r t, f => fun u' hu => by
    rw [List.all_cons, Bool.and_eq_true] at f
    rcases List.mem_cons.mp hu with rfl | hu
    · rw [eqU_of r f.1]; exact eqAt_V r rx f.1 fx
    · exact mem_eqAt rx fx t f.2 u' hu
def inV (x : V) (xs : List V) : Bool := xs.any fun y => eqV y x
def rIn (K : PySem.W.Frag) (neg : Bool) : R2 := fun x y H Q => ∃ p xs, y = .ref p ∧ (SqL K H p xs ∨ SqT K H p xs) ∧ flatV x = true ∧ xs.all flatV = true ∧ Q (.bl (if neg then !inV x xs else inV x xs)) H
theorem op_in_seq : OpR X (compareOp .In) (rIn X.K false) := by
  intro pins s σ H x y v u Q I rx ry h
  obtain ⟨p, xs, rfl, hq, fx, fs, q⟩ := h
  cases ry
  rcases hq with hq | hq
  · obtain ⟨its, r, pl, hz⟩ := I.list hq
    refine SeqAt.in_listAt (eqU x) pl.isList (fun w hw => mem_eqAt rx fx r fs w (by simpa using hw)) ⟨.bl _, H, I, rfl, ?_⟩
    rw [show its.toArray.any (eqU x) = its.any (eqU x) by simp, any_eqU r fs]
    exact q
  · obtain ⟨its, r, pl, hz⟩ := I.tuple hq
    refine SeqAt.in_tupleAt (eqU x) pl (fun w hw => mem_eqAt rx fx r fs w (by simpa using hw)) ⟨.bl _, H, I, rfl, ?_⟩
    rw [show its.toArray.any (eqU x) = its.any (eqU x) by simp, any_eqU r fs]
    exact q
theorem call_len_seq : CallR X (.builtin "len") (fun xs H Q => ∃ p ys, xs = [.ref p] ∧ (SqL X.K H p ys ∨ SqT X.K H p ys) ∧ Q (.int ys.length) H) := by
  intro pins s σ H xs us Q I r h
  obtain ⟨p, ys, rfl, hq, q⟩ := h
  obtain ⟨u, rfl, rx⟩ := vals1 r
  cases rx
  have hn := line63
  rcases hq with hq | hq
  · obtain ⟨its, r', pl, hz⟩ := I.list hq
    have hlen := r'.length
    exact Calls.call_len_list pl.isList (by simp only [List.size_toArray] <;> omega) ⟨.int ys.length, H, I.tok _, ⟨s.toks + 1, by rw [List.size_toArray, hlen]⟩, q⟩
  · obtain ⟨its, r', pl, hz⟩ := I.tuple hq
    have hlen := r'.length
    exact len_tuple pl (by simp only [List.size_toArray] <;> omega) ⟨.int ys.length, H, I.tok _, ⟨s.toks + 1, by rw [List.size_toArray, hlen]⟩, q⟩
theorem call_tuple_of : CallR X (.type "tuple") (fun xs H Q => ∃ p ys, xs = [.ref p] ∧ ((SqL X.K H p ys ∧ ∀ l, H l = none → Q (.ref l) (upd H l (.tup ys))) ∨ (SqT X.K H p ys ∧ Q (.ref p) H))) := by
  intro pins s σ H xs us Q I r h
  obtain ⟨p, ys, rfl, h⟩ := h
  obtain ⟨u, rfl, rx⟩ := vals1 r
  cases rx
  rcases h with ⟨hq, q⟩ | ⟨hq, q⟩
  · obtain ⟨its, r', pl, hz⟩ := I.list hq
    have hlen := r'.length
    refine call_tuple_list pl.isList (fun h' kp => ?_) (by simp only [List.size_toArray] <;> omega)
    have I1 : Inv X pins σ H { s with heap := h' } := I.kept (t' := s.toks) kp
    have I2 : Inv X pins σ (upd H h'.objs.size (.tup ys)) { s with heap := h'.push { cls := .type "tuple", data := .seq its.toArray } } :=
      I1.laid (t' := s.toks) (fun b o e => Heap.get?_push_of_some _ e) (Nat.le_refl _) (show ObjOk X.prog X.w _ _ _ (.tup ys) from ⟨hz, its, r', IsTup.new _ _⟩)
    exact ⟨.ref h'.objs.size, _, I2, rfl, q _ (I1.hok.fresh (Nat.le_refl _))⟩
  · obtain ⟨its, r', pl, hz⟩ := I.tuple hq
    exact call_tuple_same pl ⟨.ref p, H, I, rfl, q⟩
def tyV (K : PySem.W.Frag) (T : String) (x : V) (H : Hp) : Prop := match x with
  | .str _ => T = "str"
  | .int _ => T = "int"
  | .ref p => (T = "list" ∧ ∃ xs, SqL K H p xs) ∨ (T = "tuple" ∧ ∃ o, K.lookup p = some o ∧ o.cls = .type "tuple" ∧ o.dict = none) ∨
      (T = "dict" ∧ ((∃ kvs, H p = some (.dK kvs)) ∨ ∃ kvs, H p = some (.dT kvs))) ∨ (T = "set" ∧ ∃ S n, H p = some (.set S n))
  | _ => False
theorem tyV_is {pins : List (Addr × Obj)} {σ : St} {H : Hp} {s : Shared} {T : String} {x : V} {v : Value} (I : Inv X pins σ H s) (r : RelV x v) (ty : tyV X.K T x H) :
    s.TypeIs v T ∧ ∀ a, v = .ref a → ∃ ob, s.heap.get? a = some ob ∧ ob.dict = none := by
  cases x with
  | str z =>
    obtain ⟨t, rfl⟩ := r
    cases (show T = "str" from ty)
    exact ⟨typeIs_str s z t, fun _ e => nomatch e⟩
  | int i =>
    obtain ⟨t, rfl⟩ := r
    cases (show T = "int" from ty)
    exact ⟨typeIs_int s i t, fun _ e => nomatch e⟩
  | ref p =>
    cases r
    rcases ty with ⟨rfl, xs, hq⟩ | ⟨rfl, o, hk, hc, hd⟩ | ⟨rfl, hk⟩ | ⟨rfl, S, n, hk⟩
    · obtain ⟨its, _, pl, _⟩ := I.list hq
      refine ⟨pl.isList.typeIs, fun a e => ?_⟩
      cases e
      obtain ⟨o, n, e, c, hd, _⟩ := pl
      exact ⟨o, e, hd⟩
    · refine ⟨⟨o, I.kIn p o hk, hc⟩, fun a e => ?_⟩
      cases e
      exact ⟨o, I.kIn _ o hk, hd⟩
    · have z : ∃ o, s.heap.get? p = some o ∧ o.ExactDict := by
        rcases hk with ⟨kvs, hk⟩ | ⟨kvs, hk⟩
        · obtain ⟨_, _, _, _, o, _, _, e, ex, _⟩ := I.hok p _ hk
          exact ⟨o, e, ex⟩
        · obtain ⟨_, _, _, _, o, _, _, e, ex, _⟩ := I.hok p _ hk
          exact ⟨o, e, ex⟩
      obtain ⟨o, e, ex⟩ := z
      refine ⟨⟨o, e, ex.1⟩, fun a e2 => ?_⟩
      cases e2
      exact ⟨o, e, ex.2.1⟩
    · obtain ⟨o, _, _, _, e, ex, _⟩ := I.hok p _ hk
      refine ⟨⟨o, e, ex.1⟩, fun a e2 => ?_⟩
      cases e2
      exact ⟨o, e, ex.2.1⟩
  | _ => exact False.elim ty
def tBM (K : PySem.W.Frag) (T : String) (r : V → List V → Hp → VK → Prop) (to : TE) (t : TA) : TE := fun σ H Q => to σ H fun x H1 => tyV K T x H1 ∧ t σ H1 fun xs H2 => r x xs H2 Q
variable {o e : Expr} {es : List Expr} {to : TE} {t : TA} {name : Str} {apos cpos : Pos} {T id : String} {r : V → List V → Hp → VK → Prop}
theorem pe_bm (pa : PlainAttrs T) (slot : Slot T name id) (hty : typeOf (.builtin id) = pure (.type "method_descriptor")) (hm : MtR X id r) (ho : PE X o to) (ha : PA X (e :: es) t)
    (hbase : attributeBase o name X.env (eval o X.env) = eval o X.env := by rfl)
    (hfew : ((backTo cpos (starEach (e :: es) X.env)).all (fun x => !x.1) && (backToKw cpos (keywordEach [] X.env)).all (fun x => x.1.isSome)
      && decide ((e :: es).length + ([] : List Keyword).length + (if ([] : List Keyword).isEmpty then 0 else 1) < 30)) = true := by rfl)
    (hline : (apos.endLine == cpos.line) = true := by rfl) (hs : starEach (e :: es) X.env = (false, eval e X.env) :: starEach es X.env := by rfl) (hplain : (backTo cpos (starEach es X.env)).any (·.1) = false := by rfl) :
    PE X (.Call (.Attribute o name apos) (e :: es) [] cpos) (tBM X.K T r to t) := by
  intro pins s σ H Q I h
  refine wpAny_Call_method_late hbase hfew hline rfl (thn (ho pins s σ H _ I h) fun v s1 ⟨x, H1, I1, r1, ty, q1⟩ => ?_)
  obtain ⟨h1, h2⟩ := tyV_is I1 r1 ty
  refine ⟨T, id, pa, slot, hty, h1, h2, ?_⟩
  have hA := ha cpos pins s1 σ H1 _ I1 q1
  rw [hs] at hA ⊢
  refine Calls.callWith_builtin (by show (false || (backTo cpos (starEach es X.env)).any (·.1)) = false; rw [hplain] <;> rfl) (Calls.evalArgs_plain ?_)
  exact thn hA fun us s2 ⟨vs, H2, I2, r2, q2⟩ => hm pins s2 σ H2 x vs v us Q I2 r1 r2 q2
end
end L2
namespace L2
open PySem PySem.Spec PyProof.Rows
def MtM (X : Cx) (id : String) (r : V → List V → Hp → VK → Prop) : Prop :=
  ∀ (pins : List (Addr × Obj)) (s : Shared) (σ : St) (H : Hp) (x : V) (xs : List V) (v : Value) (us : List Value) (Q : VK), Inv X pins σ H s → RelV x v → Vals xs us → r x xs H Q →
    wpAny (model X.prog X.w) X.A (call (.builtin id) (v :: us)) (EP X pins σ Q) X.xe s
theorem Vals.one : ∀ {x : V} {us : List Value}, Vals [x] us → ∃ u, us = [u] ∧ RelV x u
  | _, _, .cons r .nil => ⟨_, rfl, r⟩
theorem Vals.two : ∀ {x y : V} {us : List Value}, Vals [x, y] us → ∃ u v, us = [u, v] ∧ RelV x u ∧ RelV y v
  | _, _, _, .cons r (.cons q .nil) => ⟨_, _, rfl, r, q⟩
theorem Vals.zero : ∀ {us : List Value}, Vals [] us → us = []
  | _, .nil => rfl
theorem Vals.eraseIdx : ∀ {xs : List V} {us : List Value} (i : Nat), Vals xs us → Vals (xs.eraseIdx i) (us.eraseIdx i)
  | _, _, _, .nil => .nil
  | _, _, 0, .cons _ t => t
  | _, _, i + 1, .cons r t => .cons r (Vals.eraseIdx i t)
theorem len_erase {α : Type} : ∀ (l : List α) (i : Nat), (l.eraseIdx i).length ≤ l.length
  | [], _ => Nat.le_refl _
  | _ :: _, 0 => Nat.le_succ _
  | _ :: r, i + 1 => Nat.succ_le_succ (len_erase r i)
section
variable {X : Cx} {pins : List (Addr × Obj)} {σ : St} {H : Hp} {s : Shared} {l b : Addr} {xs ys zs : List V}
theorem Inv.lset {its its' : List Value} {n : Nat} {f : Array Value → Array Value} {t' : Nat} (I : Inv X pins σ H s) (hH : H l = some (.lst xs))
    (e : s.heap.get? l = some { cls := .type "list", data := .seq its.toArray n }) (hf : f its.toArray = its'.toArray) (hv : Vals ys its') (hz : ys.length ≤ sizeLine) :
    Inv X pins σ (upd H l (.lst ys)) { s with heap := s.heap.update l (Obj.mapSeq f), toks := t' } := by
  have q := PySem.IsL.update e f
  rw [hf] at q
  refine I.write (x := l) (e := l) (by rw [hH]; exact trivial) (.inl rfl) (fun b' u hb hu => (Heap.get?_update_other s.heap (Obj.mapSeq f) (Ne.symm hb)).trans hu) ⟨_, q⟩ ?_
  exact ⟨hz, its', _, hv, q⟩
theorem Inv.fresh (I : Inv X pins σ H s) : H s.heap.objs.size = none := I.hok.fresh (Nat.le_refl _)
theorem Inv.lstM (I : Inv X pins σ H s) (hH : H l = some (.lst xs)) : xs.length ≤ sizeLine ∧ ∃ (its : List Value) (n : Nat), Vals xs its ∧ xs.length = its.length ∧ s.heap.get? l = some { cls := .type "list", data := .seq its.toArray n } := by
  obtain ⟨z, its, n, r, e⟩ := I.hok l _ hH
  exact ⟨z, its, n, r, r.length, e⟩
end
section
variable {X : Cx}
def rAppend : V → List V → Hp → VK → Prop := fun x vs H Q => ∃ l xs y, x = .ref l ∧ vs = [y] ∧ H l = some (.lst xs) ∧ xs.length < sizeLine ∧ Q .non (upd H l (.lst (xs ++ [y])))
theorem mt_append : MtM X "list.append" rAppend := by
  intro pins s σ H x vs v us Q I rx rv h
  obtain ⟨l, xs, y, rfl, rfl, hH, hz, q⟩ := h
  cases rx
  obtain ⟨u, rfl, ru⟩ := rv.one
  obtain ⟨z, its, n, r, hl, e⟩ := I.lstM hH
  refine call_meets F.slot_list_append ⟨_, e, rfl⟩ F.entry_list_append (F.args_list_append_2 _ _) (PySem.list_append l its.toArray n u (by rw [List.size_toArray]; omega)) ⟨e, ?_⟩
  refine ⟨.non, _, I.lset (its' := its ++ [u]) hH e (by simp) (r.append (.cons ru .nil)) ?_, rfl, q⟩
  rw [List.length_append, List.length_singleton]
  omega
end
section
variable {prog : Program} {w : World} {A : Around} {E : Value → Shared → Prop} {s : Shared}
end
section
variable {X : Cx}
end
end L2
namespace Att
open PySem PySem.W PySem.Calls PyProof.Rows
theorem ints_of_wellAll {P : Params} {h : Heap} : ∀ (ns : List Int) (vs : List Value), WellAll P h vs (ns.map WData.int) → IntsAre vs ns := by
  intro ns
  induction ns with
  | nil =>
    intro vs w
    rw [List.map_nil] at w
    cases w
    exact .nil
  | cons n ns ih =>
    intro vs w
    rw [List.map_cons] at w
    cases w with
    | cons a b =>
      cases a
      exact .cons _ _ (ih _ b)
theorem script_of {l : OpenLaw} {n : Nat} (hn : l.most = some n) {P : Params} {h : Heap} {args : List WData} {vals : List Value}
    (hpre : l.row.toRowW.claim.pre args = true) (hwl : WellAll P h vals args) :
    ∃ a vs ns, vals = [Value.ref a] ∧ args = [WData.list (ns.map WData.int)] ∧ h.get? a = some { cls := .type "list", data := .seq vs.toArray } ∧ IntsAre vs ns ∧ ns.length ≤ n := by
  have hsh : WShape.hasAll [] args [.list .int] = true := (pre_splitW hpre).1
  have hc : l.pre.holds [] { args := args } = true := (pre_splitW hpre).2
  obtain ⟨d, r, rfl, h1, h2⟩ := hasAllW_cons hsh
  obtain rfl := hasAllW_nil h2
  obtain ⟨xs, rfl, h3⟩ := hasW_list h1
  obtain ⟨ns, rfl⟩ := items_int h3
  have hlen : ns.length ≤ n := by
    unfold OpenLaw.pre at hc
    have h4 : (WTm.not (.lt (.lit (.int (n : Int))) (.len (.arg 0)))).holds [] { args := [.list (ns.map .int)] } = true := by
      have h4 := (holds_andW hc).1
      rw [hn] at h4
      exact h4
    have h5 := condW_of h4 (w_not (w_lt w_lit (w_len_list (w_arg rfl))))
    rw [List.length_map] at h5
    refine Nat.le_of_not_lt fun q => ?_
    have q' : (n : Int) < ((ns.length : Nat) : Int) := by omega
    first
      | (rw [decide_eq_true q'] at h5; exact absurd h5 (by decide))
      | (simp at h5; omega)
  cases hwl with
  | cons w1 w2 =>
    cases w2
    cases w1 with
    | list ho hall => exact ⟨_, _, ns, rfl, rfl, ho, ints_of_wellAll ns _ hall, hlen⟩
theorem post_true (l : OpenLaw) (args : List WData) : l.row.toRowW.claim.post args (.bool true) args = true :=
  postW_of (r := l.row.toRowW) (X := (true == true))
    (show WShape.has [] (.bool true) .bool = true by first | rfl | decide | simp [WShape.has, WShape.arms, WShape.armsAll])
    (show (WTm.eq .res (.lit (.bool true))).value [] { args := args, res := some (.bool true), after := args } = some (.bool (true == true)) from w_eq_bool (w_res rfl) w_lit) rfl
theorem attach_call {l : OpenLaw} {n : Nat} {q : Program} {loose : List Str} {XP : (Str → Option Value) → Heap → Prop} {YP : World → Heap → Prop} {d : DefRec}
    (hn : l.most = some n) (hdf : d.params.defaults = [])
    (call : ∀ (w : World) (s₀ s₁ : Shared) (mg mb : Str → Option Value) (fa : Addr) (o : Obj) (pm cd doc : Value) (a : Addr) (vs : List Value) (ns : List Int),
      Ground q loose [] XP w s₀ mg mb s₁.heap → YP w s₁.heap →
      s₁.heap.get? fa = some o → o.data = .func (docDef d.name d.params d.body d.scope pm cd doc) → s₁.heap.CodeRec cd d.name → mg d.name = some (.ref fa) →
      s₁.heap.get? a = some { cls := .type "list", data := .seq vs.toArray } → IntsAre vs ns → ns.length ≤ n → s₁.gens = #[] →
      codeAny (model l.prog w) callerA (.call (.ref fa) ⟨[.ref a], []⟩) (fun r s' => r = .ok (.ret (.bool true)) ∧ OldK s₁.heap s'.heap ∧ s'.os = s₁.os ∧ AllBare s'.gens) s₁) :
    WalkO q loose XP YP l.row.toRowW d [] (fun f vs => PySem.call f vs) := by
  intro w s₀ s₁ mg mb G Y fa o pm cd doc dV kV ho hd hcd hD hmg hg args vals as hpre hlay hrd hwl hlo
  obtain rfl : dV = .none := Dflts.none hD hdf
  obtain rfl : kV = .none := Dflts.noKw hD
  obtain ⟨a, vs, ns, rfl, rfl, hobj, hints, hlen⟩ := script_of hn hpre hwl
  refine enter_call (codeAny_mono (call w s₀ s₁ mg mb fa o pm cd doc a vs ns G Y ho (fd_plain hd) hcd hmg hobj hints hlen hg) fun r s' hq => ?_)
  obtain ⟨rfl, h2, h3, h4⟩ := hq
  exact ⟨.inl ⟨.bool true, .bool true, [], rfl, fun _ => rfl, .bool true, post_true l _, fun _ => ⟨List.Pairwise.nil, fun _ hm => (nomatch hm)⟩⟩, h2, h3, h4⟩
section
variable {prog : Program} {w : World} {A : Around} {E : Value → Shared → Prop} {s : Shared} {K : Frag}
end
end Att
namespace L2
open PySem PySem.Spec PyProof.Rows
theorem vals_ints : ∀ {vs : List Value} {ns : List Int}, IntsAre vs ns → Vals (ns.map V.int) vs
  | _, _, .nil => .nil
  | _, _, .cons n t h => .cons ⟨t, rfl⟩ (vals_ints h)
def Only (H : Hp) : Prop := ∀ b, H b = none ∨ ∃ o xs, H b = some (.frz o (.lst xs))
theorem law_call {P : Program} {w : World} {K : PySem.W.Frag} {mg mb : Str → Option Value} {CX : CXT} {k : Nat} {fa a : Addr} {fd : FuncData} {x : Str} {sp : Sp} {s₁ : Shared} {vs : List Value} {ns : List Int}
    (KX : K.In s₁.heap) (hns : s₁.heap.Ns mainGlobals mg) (hb : s₁.heap.Ns builtinsNs mb) (hbb : ∀ x : Str, x ≠ "__name__" → mb x = bootBuiltins x) (hlim : s₁.heap.NoLimit) (hg : s₁.gens = #[])
    (ha : s₁.heap.get? a = some { cls := .type "list", data := .seq vs.toArray }) (hi : IntsAre vs ns) (hl : ns.length ≤ sizeLine) (hr : Room k callerA)
    (F : ∀ base : Heap, K.In base → base.Ns mainGlobals mg → FnOk P w K mg base CX k fa fd [x] sp) (hbind : ∀ (s : Shared) (u : Value), BindsTo s fd ⟨[u], []⟩ [(x, u)])
    (hsp : ∀ H : Hp, Only H → SqL K H a (ns.map V.int) → sp [.ref a] H (fun v _ => v = .bl true) fun _ _ _ => False)
    (hCX : ∀ H e s', CX [] H s₁ (fun _ _ _ => False) e s' → False) :
    codeAny (model P w) callerA (.call (.ref fa) ⟨[.ref a], []⟩) (fun r s' => r = .ok (.ret (.bool true)) ∧ OldK s₁.heap s'.heap ∧ s'.os = s₁.os ∧ AllBare s'.gens) s₁ := by
  have rv := vals_ints hi
  have lenV := hi.length
  have core : ∀ H : Hp, Only H → SqL K H a (ns.map V.int) → HOk P w H s₁.heap → (∀ b, H b ≠ none → b = a) → (H a ≠ none → K.lookup a = none) →
      codeAny (model P w) callerA (.call (.ref fa) ⟨[.ref a], []⟩) (fun r s' => r = .ok (.ret (.bool true)) ∧ OldK s₁.heap s'.heap ∧ s'.os = s₁.os ∧ AllBare s'.gens) s₁ := by
    intro H hO hS hok hA hK
    have base_of : ∀ {b : Addr} {o : Obj}, s₁.heap.get? b = some o → H b = none → (hidT s₁.heap H).get? b = some o := fun e n => hidT_get e n
    have noA : ∀ {b : Addr} {o : Obj} {es : Array DictEntry} {ep : Nat}, s₁.heap.get? b = some o → o.data = .dict es ep → H b = none := fun {b o es ep} e d => by
      cases q : H b with
      | none => rfl
      | some u =>
        have e' : b = a := hA b (by rw [q]; simp)
        subst e'
        rw [ha] at e; cases e
        have d' : Data.seq vs.toArray _ = Data.dict es ep := d
        cases d'
    have nsK : ∀ {b : Addr} {m : Str → Option Value}, s₁.heap.Ns b m → (hidT s₁.heap H).Ns b m := fun {b m} ⟨o, es, ep, e, d, r⟩ => ⟨o, es, ep, base_of e (noA e d), d, r⟩
    have hKb : K.In (hidT s₁.heap H) := fun b o e => base_of (KX b o e) (by
      cases q : H b with
      | none => rfl
      | some u =>
        have e' : b = a := hA b (by rw [q]; simp)
        subst e'
        rw [hK (by rw [q]; simp)] at e; cases e)
    have hM : Mod K mg (hidT s₁.heap H) := ⟨hKb, nsK hns, ⟨mb, nsK hb, hbb⟩, let ⟨mc, h1, h2⟩ := hlim; ⟨mc, nsK h1, h2⟩⟩
    have e0 : Env0 P w K mg (hidT s₁.heap H) callerA [] s₁ H := ⟨rfl, hM, fun b o e => of_hidT e, Nat.le_of_eq (hidT_size _ _), trivial, fun b hb => absurd (show b ∈ ([] : List Addr) from hb) (by simp), hok, .of_eq hg⟩
    refine codeAny_mono ((F _ hKb (nsK hns)).run callerA [] s₁ H ⟨[.ref a], []⟩ [.ref a] [.ref a] _ _ hr e0 (hbind s₁ (.ref a)) (.cons rfl .nil) (hsp H hO hS)) fun r s' h => ?_
    cases r with
    | error e => exact (hCX H e s' h).elim
    | ok fl =>
      cases fl with
      | next => exact False.elim h
      | brk => exact False.elim h
      | cont => exact False.elim h
      | ret u =>
        obtain ⟨v, H', os, bare, un, hok', r', q⟩ := h
        have q' : v = .bl true := q
        subst q'
        obtain rfl : u = Value.bool true := r'
        refine ⟨rfl, OldK.of_keep fun b o e => ?_, os, bare⟩
        cases q : H b with
        | none => exact un.keep b o e q (by intro z; exact absurd (show b ∈ ([] : List Addr) from z) (by simp)) (by simp)
        | some u =>
          rcases hO b with z | ⟨ob, xs, z⟩
          · rw [q] at z; cases z
          · have z2 := un.frzs b ob _ z
            obtain ⟨e1, _⟩ := hok b _ z
            obtain ⟨e2, _⟩ := hok' b _ z2
            rw [e] at e1; cases e1
            exact e2
  cases hk : K.lookup a with
  | some o =>
    have e := KX a o hk
    rw [ha] at e
    cases e
    refine core (fun _ => none) (fun _ => .inl rfl) (.inr ⟨_, vs.toArray, _, hk, rfl, rfl, rfl, by rw [List.size_toArray, lenV]; exact hl, by simpa using rv⟩) (fun b u z => by have z' : (none : Option HO) = some u := z; cases z') (fun b z => absurd rfl z) fun z => absurd rfl z
  | none =>
    refine core (fun b => if b = a then some (.frz { cls := .type "list", data := .seq vs.toArray } (.lst (ns.map V.int))) else none) (fun b => ?_) (.inl (.inr ⟨{ cls := .type "list", data := .seq vs.toArray }, if_pos rfl⟩)) (fun b u z => ?_) (fun b z => ?_) fun _ => hk
    · by_cases hb : b = a
      · exact .inr ⟨_, _, if_pos hb⟩
      · exact .inl (if_neg hb)
    · by_cases hb : b = a
      · have z' := (if_pos hb).symm.trans z
        cases z'
        subst hb
        exact ⟨ha, by rw [List.length_map]; exact hl, vs, _, rv, ha⟩
      · have z' := (if_neg hb).symm.trans z
        cases z'
    · by_cases hb : b = a
      · exact hb
      · exact absurd (if_neg hb) z
end L2
namespace L2
open PySem PySem.Spec PyProof.Rows
theorem walk_of {l : PySem.W.OpenLaw} {n k : Nat} {q : Program} {loose : List Str} {XP : (Str → Option Value) → Heap → Prop} {YP : World → Heap → Prop} {d : DefRec} {K : Params → PySem.W.Frag} {CX : World → CXT} {sp : World → Sp} {x : Str}
    (hn : l.most = some n) (hn2 : n ≤ sizeLine) (hdf : d.params.defaults = []) (hr : Room k callerA)
    (hY : ∀ (w : World) (h : Heap), YP w h → (K w.params).In h)
    (F : ∀ (w : World) (mg : Str → Option Value) (fa : Addr) (h : Heap), (K w.params).In h → h.Ns mainGlobals mg → mg d.name = some (.ref fa) →
      ∃ fd : FuncData, (∀ (s : Shared) (u : Value), BindsTo s fd ⟨[u], []⟩ [(x, u)]) ∧
        ∀ base : Heap, (K w.params).In base → base.Ns mainGlobals mg → FnOk l.prog w (K w.params) mg base (CX w) k fa fd [x] (sp w))
    (hsp : ∀ (w : World) (H : Hp) (a : Addr) (ns : List Int), ns.length ≤ n → Only H → SqL (K w.params) H a (ns.map V.int) → sp w [.ref a] H (fun v _ => v = .bl true) fun _ _ _ => False)
    (hCX : ∀ (w : World) (H : Hp) (s : Shared) (e : Value) (s' : Shared), CX w [] H s (fun _ _ _ => False) e s' → False) :
    PySem.W.WalkO q loose XP YP l.row.toRowW d [] (fun f vs => PySem.call f vs) := by
  refine Att.attach_call hn hdf fun w s₀ s₁ mg mb fa o pm cd doc a vs ns G Y ho hd hcd hmg hobj hints hlen hg => ?_
  have KX := hY w _ Y
  obtain ⟨fd, hb, hF⟩ := F w mg fa _ KX G.T.g hmg
  exact law_call KX G.T.g G.T.b G.T.builtins G.T.nolimit hg hobj hints (Nat.le_trans hlen hn2) hr hF hb (fun H hO hS => hsp w H a ns hlen hO hS) fun H e s' => hCX w H s₁ e s'
end L2
namespace L2
open PySem PySem.Spec PyProof.Rows
def inClass (s : Stmt) (j : Nat) : Stmt := match s with
  | .ClassDef _ _ _ body _ _ _ _ _ _ _ => body.getD j (.Pass ⟨0, 0, 0, 0⟩)
  | _ => .Pass ⟨0, 0, 0, 0⟩
def defArgs (s : Stmt) : Arguments := match s with
  | .FunctionDef _ a _ _ _ _ _ _ _ _ => a
  | _ => { posonlyargs := [], args := [], vararg := none, kwonlyargs := [], kw_defaults := [], kwarg := none, defaults := [] }
def defBody (s : Stmt) : List Stmt := match s with
  | .FunctionDef _ _ b _ _ _ _ _ _ _ => b
  | _ => []
def defScope (s : Stmt) : Scope := match s with
  | .FunctionDef _ _ _ _ _ _ sc _ _ _ => sc
  | _ => { kind := .function, names := [], isGenerator := false, isCoroutine := false }
abbrev CX0 : CXT := fun _ _ _ _ _ _ => False
abbrev E0 : XK := fun _ _ _ => False
theorem pass0 {X : Cx} : Passes CX0 X E0 := fun _ _ _ _ _ _ _ h => h.elim
structure Fun (K : PySem.W.Frag) (x qual : Str) (st : Stmt) (f : Addr) (fd : FuncData) : Prop where
  ex : ∃ (oc : Value) (od : Option Addr) (kV doc pm : Value) (an : Option Addr) (cdv ct : Value) (osl : Array (Option Value)),
    fd = PySem.W.fnOf x qual (defArgs st) (defBody st) (defScope st) .none kV doc pm an cdv ct ∧ K.lookup f = some ⟨oc, od, .func fd, osl⟩ ∧ PySem.W.codeIn K cdv qual = true
  kp : PySem.W.keepIn K (.ref f) = true
section
variable {P : Program} {w : World} {K : PySem.W.Frag} {mg : Str → Option Value} {base : Heap}
theorem Fun.ok {x qual : Str} {st : Stmt} {f : Addr} {fd : FuncData} {N ps : List Str} {k : Nat} {sp : Sp} (F : Fun K x qual st f fd) (S : FnScope N ps (defScope st)) (len : ∀ vs H Q E, sp vs H Q E → vs.length = ps.length)
    (hbody : ∀ (cdv : Value) (A : Around) (outer : List Env) (s : Shared) (H : Hp) (vs : List V) (Q : VK) (E : XK), Room k (A.deeper (envOfC qual (defScope st) s.heap.objs.size f cdv)) → sp vs H Q E →
      ∃ t, PSs (cxOf CX0 P w K mg base N qual (defScope st) f cdv A outer s H E).nox (defBody st) t ∧ t { nx := fun _ H' => Q .non H', rt := Q } (start N vs) H) : FnOk P w K mg base CX0 (k + 1) f fd ps sp := by
  obtain ⟨oc, od, kV, doc, pm, an, cdv, ct, osl, rfl, lk, hcd⟩ := F.ex
  refine fn_of lk hcd S len fun A outer s H vs Q E hr hsp => ?_
  obtain ⟨t, h, q⟩ := hbody cdv A outer s H vs Q E hr hsp
  exact ⟨t, h.nox, q⟩
theorem Fun.binds {x qual : Str} {st : Stmt} {f : Addr} {fd : FuncData} {ps : List Str} (F : Fun K x qual st f fd)
    (h : ∀ (kV doc pm : Value) (an : Option Addr) (cdv ct : Value) (us : List Value), us.length = ps.length → bindArgs (PySem.W.fnOf x qual (defArgs st) (defBody st) (defScope st) .none kV doc pm an cdv ct) ⟨us, []⟩ = pure (ps.zip us)) : Binds K fd ps [] := by
  obtain ⟨oc, od, kV, doc, pm, an, cdv, ct, osl, rfl, lk, hcd⟩ := F.ex
  exact .all (h kV doc pm an cdv ct)
theorem fun_mk {x qual : Str} {st : Stmt} {f : Addr} {oc : Value} {od an : Option Addr} {osl : Array (Option Value)} {kV doc pm cdv ct : Value} (l : K.lookup f = some ⟨oc, od, .func (PySem.W.fnOf x qual (defArgs st) (defBody st) (defScope st) .none kV doc pm an cdv ct), osl⟩)
    (c : PySem.W.codeIn K cdv qual = true) (k : PySem.W.keepIn K (.ref f) = true) : Fun K x qual st f (PySem.W.fnOf x qual (defArgs st) (defBody st) (defScope st) .none kV doc pm an cdv ct) := ⟨⟨oc, od, kV, doc, pm, an, cdv, ct, osl, rfl, l, c⟩, k⟩
end
theorem small1000 {n : Nat} (h : n ≤ 1000) : n < sizeLine := Nat.lt_of_le_of_lt h (by decide)
section
variable {X : Cx}
theorem pv (i : Nat) {x : Str} {pos : Pos} (hN : X.N[i]? = some x := by rfl) (hv : Vis X.env.scope x := by first | exact Or.inl rfl | exact Or.inr (Or.inl rfl) | exact Or.inr (Or.inr rfl)) (hd : (x == ("__debug__" : Str)) = false := by decide)
    (hcd : (x == ("__classdict__" : Str)) = false := by decide) : PE X (.Name x pos) (tVar i) := pe_var hN hv hd hcd
end
theorem iteF {A B : Prop} (h : B) : if false = true then A else B := by
  rw [if_neg Bool.false_ne_true]
  exact h
theorem iteT {A B : Prop} (h : A) : if true = true then A else B := by
  rw [if_pos rfl]
  exact h
theorem ite2 {c A B : Prop} [Decidable c] (h1 : c → A) (h2 : ¬ c → B) : if c then A else B := by
  by_cases h : c
  · rw [if_pos h]
    exact h1 h
  · rw [if_neg h]
    exact h2 h
def Same (H H' : Hp) : Prop := ∀ b o, H b = some o → H' b = some o
theorem Same.refl (H : Hp) : Same H H := fun _ _ h => h
theorem Same.trans {H H1 H2 : Hp} (a : Same H H1) (b : Same H1 H2) : Same H H2 := fun c o h => b c o (a c o h)
theorem Same.free {H H' : Hp} (e : Same H H') {l : Addr} (h : H' l = Option.none) : H l = Option.none := by
  cases q : H l with
  | none => rfl
  | some o =>
    rw [e l o q] at h
    cases h
theorem Same.seq {K : PySem.W.Frag} {H H' : Hp} {a : Addr} {xs : List V} (e : Same H H') (h : SqL K H a xs) : SqL K H' a xs := by
  rcases h with (h | ⟨o, h⟩) | h
  · exact .inl (.inl (e _ _ h))
  · exact .inl (.inr ⟨o, e _ _ h⟩)
  · exact .inr h
end L2
set_option Elab.async false
set_option linter.all false
set_option maxRecDepth 100000
namespace L2
open PySem PySem.Spec PyProof.Rows
section
variable {κ : Type} [DecidableEq κ]
def valV (kvs : List (κ × V)) (k : κ) : Option V := (kvs.find? fun kv => decide (kv.1 = k)).map (·.2)
def putK (kvs : List (κ × V)) (k : κ) (v : V) : List (κ × V) :=
  if (kvs.any fun kv => decide (kv.1 = k)) = true then kvs.map (fun kv => if kv.1 = k then (kv.1, v) else kv) else kvs ++ [(k, v)]
def dropK (kvs : List (κ × V)) (k : κ) : List (κ × V) := kvs.filter fun kv => decide (kv.1 ≠ k)
theorem valV_pos {p : κ × V} {r : List (κ × V)} {k : κ} (e : p.1 = k) : valV (p :: r) k = some p.2 := by simp [valV, List.find?_cons, e]
theorem valV_neg {p : κ × V} {r : List (κ × V)} {k : κ} (e : ¬ p.1 = k) : valV (p :: r) k = valV r k := by simp [valV, List.find?_cons, e]
theorem valV_any (k : κ) : ∀ kvs : List (κ × V), (kvs.any fun kv => decide (kv.1 = k)) = (valV kvs k).isSome
  | [] => rfl
  | p :: r => by
    rw [List.any_cons]
    by_cases e : p.1 = k
    · simp only [valV_pos e, decide_eq_true e, Bool.true_or, Option.isSome_some]
    · rw [valV_neg e, decide_eq_false e, Bool.false_or]; exact valV_any k r
theorem RelO.getD {o : Option V} {u : Option Value} {d : V} {d' : Value} (r : RelO o u) (rd : RelV d d') : RelV (o.getD d) (u.getD d') := by
  cases o with
  | none => cases u with
    | none => exact rd
    | some _ => exact (show False from r).elim
  | some _ => cases u with
    | none => exact (show False from r).elim
    | some _ => exact r
theorem KV.val {kvs : List (κ × V)} {vs : List (κ × Value)} (r : KV kvs vs) (k : κ) : RelO (valV kvs k) (valueAt vs k) := by
  unfold KV at r
  induction r with
  | nil => exact True.intro
  | @cons p q ps qs h t ih =>
    obtain ⟨h1, h2⟩ := h
    by_cases e : p.1 = k
    · have e' : q.1 = k := h1.symm.trans e
      have b : valueAt (q :: qs) k = some q.2 := by simp [valueAt, List.find?_cons, e']
      rw [valV_pos e, b]; exact h2
    · have e' : ¬ q.1 = k := fun z => e (h1.trans z)
      have b : valueAt (q :: qs) k = valueAt qs k := by simp [valueAt, List.find?_cons, e']
      rw [valV_neg e, b]; exact ih
theorem KV.any {kvs : List (κ × V)} {vs : List (κ × Value)} (r : KV kvs vs) (k : κ) : (kvs.any fun kv => decide (kv.1 = k)) = vs.any fun kv => decide (kv.1 = k) := by
  unfold KV at r
  induction r with
  | nil => rfl
  | cons h t ih => rw [List.any_cons, List.any_cons, ih, h.1]
theorem KV.drop {kvs : List (κ × V)} {vs : List (κ × Value)} (r : KV kvs vs) (k : κ) : KV (dropK kvs k) (without vs k) := by
  unfold KV at r ⊢
  unfold dropK without
  induction r with
  | nil => exact .nil
  | @cons p q ps qs h t ih =>
    obtain ⟨h1, h2⟩ := h
    rw [List.filter_cons, List.filter_cons]
    by_cases e : p.1 = k
    · have a : ¬ decide (p.1 ≠ k) = true := by simp [e]
      have b : ¬ decide (q.1 ≠ k) = true := by simp [h1.symm.trans e]
      rw [if_neg a, if_neg b]; exact ih
    · have e' : ¬ q.1 = k := fun z => e (h1.trans z)
      have a : decide (p.1 ≠ k) = true := by simp [e]
      have b : decide (q.1 ≠ k) = true := by simp [e']
      rw [if_pos a, if_pos b]; exact .cons ⟨h1, h2⟩ ih
theorem KV.keys {kvs : List (κ × V)} {vs : List (κ × Value)} (r : KV kvs vs) : kvs.map (·.1) = vs.map (·.1) := by
  unfold KV at r
  induction r with
  | nil => rfl
  | cons h t ih => rw [List.map_cons, List.map_cons, ih, h.1]
theorem KV.length {kvs : List (κ × V)} {vs : List (κ × Value)} (r : KV kvs vs) : kvs.length = vs.length := Paired.length r
end
abbrev KT (H : Hp) : List (List Key × V) → List (List Key × Addr × Value) → Prop := Paired fun p q => p.1 = q.1 ∧ H q.2.1 = some (.tup (p.1.map kV)) ∧ RelV p.2 q.2.2
theorem KT.val {H : Hp} {kvs : List (List Key × V)} {xs : List (List Key × Addr × Value)} (r : KT H kvs xs) (k : List Key) : RelO (valV kvs k) ((atKey xs k).map (·.2)) := by
  induction r with
  | nil => exact True.intro
  | @cons p q ps qs h t ih =>
    obtain ⟨h1, _, h2⟩ := h
    by_cases e : p.1 = k
    · have e' : q.1 = k := h1.symm.trans e
      have b : atKey (q :: qs) k = some q.2 := by simp [atKey, List.find?_cons, e']
      rw [valV_pos e, b]; exact h2
    · have e' : ¬ q.1 = k := fun z => e (h1.trans z)
      have b : atKey (q :: qs) k = atKey qs k := by simp [atKey, List.find?_cons, e']
      rw [valV_neg e, b]; exact ih
theorem KT.keeps {H H' : Hp} {kvs : List (List Key × V)} {xs : List (List Key × Addr × Value)} (r : KT H kvs xs) (ht : ∀ b ys, H b = some (.tup ys) → H' b = some (.tup ys)) : KT H' kvs xs :=
  Paired.mapP r fun _ _ z => ⟨z.1, ht _ _ z.2.1, z.2.2⟩
section
variable {P : Program} {w : World} {H : Hp} {h : Heap} {a : Addr}
end
def DGet (H : Hp) (a : Addr) (y : V) (r : Option V) : Prop :=
  (∃ kvs k, Rd H a (.dK kvs) ∧ y = kV k ∧ r = valV kvs k) ∨ ∃ kvs k b, Rd H a (.dT kvs) ∧ y = .ref b ∧ H b = some (.tup (k.map kV)) ∧ r = valV kvs k
def DPut (H : Hp) (a : Addr) (y v : V) (H' : Hp) : Prop :=
  (∃ kvs k, H a = some (.dK kvs) ∧ y = kV k ∧ kvs.length < sizeLine ∧ H' = upd H a (.dK (putK kvs k v))) ∨
  ∃ kvs k b, H a = some (.dT kvs) ∧ y = .ref b ∧ H b = some (.tup (k.map kV)) ∧ kvs.length < sizeLine ∧ H' = upd H a (.dT (putK kvs k v))
theorem DGet.k {H : Hp} {a : Addr} {kvs : List (Key × V)} {k : Key} (e : H a = some (.dK kvs)) : DGet H a (kV k) (valV kvs k) := .inl ⟨kvs, k, .inl e, rfl, rfl⟩
theorem DGet.t {H : Hp} {a b : Addr} {kvs : List (List Key × V)} {k : List Key} (e : H a = some (.dT kvs)) (eb : H b = some (.tup (k.map kV))) : DGet H a (.ref b) (valV kvs k) := .inr ⟨kvs, k, b, .inl e, rfl, eb, rfl⟩
theorem DPut.k {H : Hp} {a : Addr} {kvs : List (Key × V)} {k : Key} {v : V} (e : H a = some (.dK kvs)) (hl : kvs.length < sizeLine) : DPut H a (kV k) v (upd H a (.dK (putK kvs k v))) := .inl ⟨kvs, k, e, rfl, hl, rfl⟩
theorem DPut.t {H : Hp} {a b : Addr} {kvs : List (List Key × V)} {k : List Key} {v : V} (e : H a = some (.dT kvs)) (eb : H b = some (.tup (k.map kV))) (hl : kvs.length < sizeLine) :
    DPut H a (.ref b) v (upd H a (.dT (putK kvs k v))) := .inr ⟨kvs, k, b, e, rfl, eb, hl, rfl⟩
section
variable {X : Cx} {pins : List (Addr × Obj)} {σ : St} {H : Hp} {s : Shared} {a : Addr} {y v : V} {u r : Value} {o : Option V} {A : Around} {E : Value → Shared → Prop}
end
section
variable {X : Cx} {pins : List (Addr × Obj)} {σ : St} {H : Hp} {s : Shared} {a : Addr} {kvs : List (Key × V)} {k : Key} {u : Value} {A : Around} {E : Value → Shared → Prop}
end
section
variable {X : Cx} {o i e value : Expr} {pos pos' tpos : Pos} {td ty tv : TE}
end
section
variable {X : Cx} {pos : Pos}
end
structure M1 (X : Cx) (o : Expr) (m : Str) (apos : Pos) (e : Expr) (cpos : Pos) : Prop where
  base : attributeBase o m X.env (eval o X.env) = eval o X.env
  few : ((backTo cpos (starEach [e] X.env)).all (fun x => !x.1) && (backToKw cpos (keywordEach [] X.env)).all (fun x => x.1.isSome)
    && decide (([e] : List Expr).length + ([] : List Keyword).length + (if ([] : List Keyword).isEmpty then 0 else 1) < 30)) = true
  line : (apos.endLine == cpos.line) = true
  trees : backTo cpos (starEach [e] X.env) = [(false, eval e X.env)]
structure M2 (X : Cx) (o : Expr) (m : Str) (apos : Pos) (e f : Expr) (cpos : Pos) : Prop where
  base : attributeBase o m X.env (eval o X.env) = eval o X.env
  few : ((backTo cpos (starEach [e, f] X.env)).all (fun x => !x.1) && (backToKw cpos (keywordEach [] X.env)).all (fun x => x.1.isSome)
    && decide (([e, f] : List Expr).length + ([] : List Keyword).length + (if ([] : List Keyword).isEmpty then 0 else 1) < 30)) = true
  line : (apos.endLine == cpos.line) = true
  trees : backTo cpos (starEach [e, f] X.env) = [(false, eval e X.env), (false, eval f X.env)]
section
variable {X : Cx} {pins : List (Addr × Obj)} {σ : St} {H : Hp} {s : Shared} {a : Addr} {y d : V} {u r : Value} {o : Option V} {A : Around} {E : Value → Shared → Prop}
end
section
variable {X : Cx} {o e f : Expr} {apos cpos : Pos} {td ty tx : TE}
end
section
variable {X : Cx} {pins : List (Addr × Obj)} {σ : St} {H : Hp} {s : Shared} {a : Addr} {kvs : List (Key × V)} {A : Around} {E : Value → Shared → Prop}
end
section
variable {X : Cx} {pins : List (Addr × Obj)} {σ : St} {H : Hp} {s : Shared} {a : Addr} {y : V} {u : Value} {A : Around} {E : Value → Shared → Prop}
end
end L2
namespace L2
open PySem PySem.Spec PyProof.Rows
section
variable {X : Cx}
end
section
variable {κ : Type} [DecidableEq κ]
theorem valV_not {kvs : List (κ × V)} {k : κ} (h : valV kvs k = none) : ¬ k ∈ kvs.map (·.1) := by
  intro m
  obtain ⟨p, hp, e⟩ := List.mem_map.mp m
  have q : (kvs.any fun kv => decide (kv.1 = k)) = true := List.any_eq_true.mpr ⟨p, hp, decide_eq_true e⟩
  rw [valV_any, h] at q
  exact absurd q (by simp)
end
end L2
set_option Elab.async false
set_option linter.all false
set_option maxRecDepth 100000
namespace PySem
section
variable {prog : Program} {w : World} {A : Around} {E : Value → Shared → Prop} {R : Result → Shared → Prop} {s : Shared}
theorem compLoop_any {elt target iter : Expr} {ifs : List Expr} {scope : Scope} {pos : Pos} {it acc : Value} {env : Env} (I : Nat → Shared → Prop)
    (turn : ∀ n s, I n s → ∀ E' : Value → Shared → Prop, wpAny (model prog w) A (pyNext it) (fun r s₁ => match r with
      | none => R (.ok .next) s₁
      | some v => wpAny (model prog w) A (letOwnedTupleGo target it v) (fun _ s₁' => wpAny (model prog w) A (assign target env v) (fun _ s₂ =>
          wpAny (model prog w) A (forIn ifs true fun c r => if r = true then do let ok ← isTrue c env (eval c env); pure (ForInStep.yield ok) else pure (ForInStep.yield r)) (fun ok s₃ =>
            if ok = true then wpAny (model prog w) A (eval elt env) (fun x s₄ =>
              wpAny (model prog w) A (call (.builtin "list.append") [acc, x]) (fun _ s₅ => ∃ m, m < n ∧ I m s₅) E' s₄) E' s₃
            else ∃ m, m < n ∧ I m s₃) E' s₂) E' s₁') E' s₁) E' s)
    (n : Nat) (h : I n s) :
    codeAny (model prog w) A (.compLoop (.ListComp elt [⟨target, iter, ifs, 0⟩] scope pos) 0 it acc env) R s := by
  refine codeAny_loop rfl I (fun n s hI => ?_) n h
  show wpAny _ A ((compTurn (.ListComp elt [⟨target, iter, ifs, 0⟩] scope pos) 0 it acc env).onRaise (fun x => do noteFrame x env; theTreesLotGoes x)) _ _ s
  refine wpAny_noted ?_
  rw [compTurn_list]
  refine wpAny_bind (wpAny_standAt (wpAny_bind (wpAny_mono (turn n s hI _) (fun r s₁ h₁ => ?_) fun _ _ h' => h')))
  cases r with
  | none => exact wpAny_pure h₁
  | some v =>
    refine wpAny_bind (wpAny_mono h₁ (fun _ s₁' h₁' => ?_) fun _ _ h' => h')
    refine wpAny_bind (wpAny_mono h₁' (fun _ s₂ h₂ => wpAny_bind (wpAny_mono h₂ (fun ok s₃ h₃ => ?_) fun _ _ h' => h')) fun _ _ h' => h')
    cases ok with
    | false => exact wpAny_pure ⟨rfl, h₃⟩
    | true =>
      exact wpAny_bind (wpAny_bind (wpAny_mono h₃ (fun x s₄ h₄ => wpAny_bind (wpAny_mono h₄ (fun _ s₅ h₅ => wpAny_pure (wpAny_pure ⟨rfl, h₅⟩)) fun _ _ h' => h')) fun _ _ h' => h'))
end
end PySem
namespace PySem
def closL (env : Env) : List (Str × NameKind) → List (Str × Addr) → List (Str × Addr)
  | [], cs => cs
  | (n, k) :: r, cs => closL env r (if k == .free then (match env.cells.lookup n with | some a => (n, a) :: cs | none => cs) else cs)
theorem closureFor_closL {scope : Scope} {env : Env} (h : ∀ y ∈ scope.names, y.2 = .free → ∃ c, env.cells.lookup y.1 = some c) : closureFor scope env = pure (closL env scope.names []) := by
  unfold closureFor
  have key : ∀ (l : List (Str × NameKind)) (cs : List (Str × Addr)), (∀ y ∈ l, y.2 = .free → ∃ c, env.cells.lookup y.1 = some c) →
      (forIn l cs fun x r => (match x with
        | (name, kind) => if (kind == NameKind.free) = true then (do let a ← cellOf env name; pure (ForInStep.yield ((name, a) :: r))) else pure (ForInStep.yield r) : Sem (ForInStep (List (Str × Addr))))) = (pure (closL env l cs) : Sem _) := by
    intro l
    induction l with
    | nil => intro cs _; rfl
    | cons y r ih =>
      intro cs hy
      obtain ⟨n, k⟩ := y
      rw [List.forIn_cons]
      by_cases hk : (k == NameKind.free) = true
      · obtain ⟨c, hc⟩ := hy (n, k) List.mem_cons_self (by simpa using hk)
        have e : cellOf env n = pure c := by unfold cellOf; rw [hc]
        simp only [hk, if_true, e, pure_bind]
        rw [ih _ fun z hz => hy z (List.mem_cons_of_mem _ hz)]
        show _ = pure (closL env r (if (k == NameKind.free) = true then (match env.cells.lookup n with | some a => (n, a) :: cs | none => cs) else cs))
        rw [if_pos hk, hc]
      · have hk2 : (k == NameKind.free) = false := by simpa using hk
        simp only [hk2, Bool.false_eq_true, if_false, pure_bind]
        rw [ih _ fun z hz => hy z (List.mem_cons_of_mem _ hz)]
        show _ = pure (closL env r (if (k == NameKind.free) = true then (match env.cells.lookup n with | some a => (n, a) :: cs | none => cs) else cs))
        rw [if_neg hk]
  have k2 := key scope.names [] h
  simp only [bind_pure]
  first
    | exact k2
    | (rw [← k2]; rfl)
theorem closL_mem {env : Env} : ∀ (l : List (Str × NameKind)) (cs : List (Str × Addr)) (p : Str × Addr), p ∈ closL env l cs → p ∈ cs ∨ env.cells.lookup p.1 = some p.2
  | [], _, _, h => .inl h
  | (n, k) :: r, cs, p, h => by
    rcases closL_mem r _ p h with q | q
    · by_cases hk : (k == NameKind.free) = true
      · rw [if_pos hk] at q
        cases e : env.cells.lookup n with
        | none => rw [e] at q; exact .inl q
        | some a =>
          rw [e] at q
          rcases List.mem_cons.mp q with z | z
          · subst z; exact .inr e
          · exact .inl z
      · rw [if_neg hk] at q; exact .inl q
    · exact .inr q
theorem closL_sub {env : Env} : ∀ (l : List (Str × NameKind)) (cs : List (Str × Addr)) (p : Str × Addr), p ∈ cs → p ∈ closL env l cs
  | [], _, _, h => h
  | (n, k) :: r, cs, p, h => by
    refine closL_sub r _ p ?_
    by_cases hk : (k == NameKind.free) = true
    · rw [if_pos hk]
      cases e : env.cells.lookup n with
      | none => exact h
      | some a => exact List.mem_cons_of_mem _ h
    · rw [if_neg hk]; exact h
theorem closL_has {env : Env} {n : Str} {c : Addr} (e : env.cells.lookup n = some c) : ∀ (l : List (Str × NameKind)) (cs : List (Str × Addr)), (n, NameKind.free) ∈ l → (n, c) ∈ closL env l cs
  | [], _, h => nomatch h
  | (m, k) :: r, cs, h => by
    rcases List.mem_cons.mp h with z | z
    · cases z
      refine closL_sub r _ _ ?_
      rw [if_pos (by rfl), e]
      exact List.mem_cons_self
    · exact closL_has e r _ z
theorem lookup_of_mem {β : Type} {n : Str} {c : β} : ∀ {l : List (Str × β)}, (n, c) ∈ l → ∃ d, l.lookup n = some d
  | [], h => nomatch h
  | (m, d) :: r, h => by
    cases q : n == m with
    | true => exact ⟨d, by simp only [List.lookup_cons, q]⟩
    | false =>
      rcases List.mem_cons.mp h with z | z
      · cases z
        simp at q
      · obtain ⟨d', e⟩ := lookup_of_mem z
        exact ⟨d', by simp only [List.lookup_cons, q, e]⟩
theorem relabel_inv {env : Env} : ∀ {names : List (Str × NameKind)} {x : Str} {k : NameKind},
    (names.map fun (n, k) => if (k == NameKind.free && env.scope.kind == .function && env.kindOf n == some .cell) then (n, NameKind.cell) else (n, k)).lookup x = some k →
    ∃ k', names.lookup x = some k' ∧ (k' = k ∨ (k' = .free ∧ k = .cell))
  | [], _, _, h => by simp at h
  | (n, j) :: r, x, k, h => by
    cases hx : x == n with
    | true =>
      refine ⟨j, by simp only [List.lookup_cons, hx], ?_⟩
      by_cases hc : (j == NameKind.free && env.scope.kind == .function && env.kindOf n == some .cell) = true
      · simp only [List.map_cons, if_pos hc, List.lookup_cons, hx] at h
        cases h
        refine .inr ⟨?_, rfl⟩
        simp only [Bool.and_eq_true, beq_iff_eq] at hc
        exact hc.1.1
      · simp only [List.map_cons, if_neg hc, List.lookup_cons, hx] at h
        cases h
        exact .inl rfl
    | false =>
      by_cases hc : (j == NameKind.free && env.scope.kind == .function && env.kindOf n == some .cell) = true
      · simp only [List.map_cons, if_pos hc, List.lookup_cons, hx] at h
        obtain ⟨k', e1, e2⟩ := relabel_inv h
        exact ⟨k', by simp only [List.lookup_cons, hx, e1], e2⟩
      · simp only [List.map_cons, if_neg hc, List.lookup_cons, hx] at h
        obtain ⟨k', e1, e2⟩ := relabel_inv h
        exact ⟨k', by simp only [List.lookup_cons, hx, e1], e2⟩
end PySem
namespace L2
open PySem PySem.Spec PyProof.Rows
open Builtin.Int (intBits)
section
variable {X : Cx}
def CMulB (i j : Int) : Prop := intBits i + intBits j ≤ 134217728
theorem op_mulB : OpR X (binaryOp .Mult) (rI CMulB fun i j => .int (i * j)) := opI fun _ _ _ _ _ _ _ hc q => mul_int q (IntMulOk.of_le (Nat.le_refl _) (Nat.le_refl _) hc)
theorem call_isinst {T : String} : CallR X (.builtin "isinstance") (fun xs H Q => ∃ x t b, xs = [x, .ty T] ∧ TyOf X.K H x t ∧ PySem.W.kitOne X.K t (.type T) = some b ∧ Q (.bl b) H) := by
  intro pins s σ H xs us Q I r h
  obtain ⟨x, t, b, rfl, ty, e, q⟩ := h
  obtain ⟨u, w', rfl, rx, rt⟩ := vals2 r
  cases (show w' = Value.type T from rt)
  exact isinst_ok I rx ty e fun tk => ⟨.bl b, H, I.tok _, rfl, q⟩
theorem getD_at {α : Type} {l : List α} {d : α} {i : Nat} (h : i < l.length) : l.getD i d = l[i] := by simp [h]
end
structure CompOk (sc scope : Scope) : Prop where
  kind : scope.kind = .function
  nocell : ∀ y ∈ scope.names, y.2 ≠ .cell
  loc : ∀ y ∈ scope.names, y.2 = .local → scope.names.lookup y.1 = some .local
  free : ∀ y ∈ scope.names, y.2 = .free → sc.names.lookup y.1 = some .cell ∨ sc.names.lookup y.1 = some .free
def compOkB (sc scope : Scope) : Bool := (scope.kind == .function) && scope.names.all fun y => (y.2 != .cell) && ((y.2 != .local) || (scope.names.lookup y.1 == some .local)) && ((y.2 != .free) || (sc.names.lookup y.1 == some .cell) || (sc.names.lookup y.1 == some .free))
theorem CompOk.of {sc scope : Scope} (h : compOkB sc scope = true) : CompOk sc scope := by
  unfold compOkB at h
  rw [Bool.and_eq_true, List.all_eq_true] at h
  obtain ⟨hk, h⟩ := h
  refine ⟨eq_of_beq hk, fun y hy => ?_, fun y hy e => ?_, fun y hy e => ?_⟩
  · have q := h y hy
    simp only [Bool.and_eq_true, bne_iff_ne] at q
    exact q.1.1
  · have q := h y hy
    simp only [Bool.and_eq_true, Bool.or_eq_true, bne_iff_ne, beq_iff_eq] at q
    exact q.1.2.resolve_left fun z => z e
  · have q := h y hy
    simp only [Bool.and_eq_true, Bool.or_eq_true, bne_iff_ne, beq_iff_eq] at q
    rcases q.2 with (z | z) | z
    · exact absurd e z
    · exact .inl z
    · exact .inr z
structure NL (N M : List Str) (scope : Scope) : Prop where
  len : M.length = N.length
  loc : ∀ (j : Nat) x, M[j]? = some x → scope.names.lookup x ≠ some .local
  free : ∀ (j : Nat) x, M[j]? = some x → scope.names.lookup x = some .free → N[j]? = some x
def nlB (scope : Scope) : List Str → List Str → Bool
  | [], [] => true
  | x :: M, y :: N => (scope.names.lookup x != some .local) && ((scope.names.lookup x != some .free) || x == y) && nlB scope M N
  | _, _ => false
theorem NL.of {scope : Scope} : ∀ {N M : List Str}, nlB scope M N = true → NL N M scope
  | [], [], _ => ⟨rfl, fun j x h => by simp at h, fun j x h => by simp at h⟩
  | [], _ :: _, h => by cases h
  | _ :: _, [], h => by cases h
  | y :: N, x :: M, h => by
    have h' : ((scope.names.lookup x != some .local) && ((scope.names.lookup x != some .free) || x == y) && nlB scope M N) = true := h
    simp only [Bool.and_eq_true, Bool.or_eq_true, bne_iff_ne, beq_iff_eq] at h'
    obtain ⟨⟨h1, h2⟩, h3⟩ := h'
    have q := NL.of h3
    refine ⟨by simp [q.len], fun j z e => ?_, fun j z e f => ?_⟩
    · cases j with
      | zero => simp at e; subst e; exact h1
      | succ j => exact q.loc j z (by simpa using e)
    · cases j with
      | zero =>
        simp at e; subst e
        rcases h2 with w | w
        · exact absurd f w
        · simp [w]
      | succ j => simpa using q.free j z (by simpa using e) f
def cxComp (X : Cx) (ls M : List Str) (scope : Scope) (C : Addr) (fp : List Addr) (s : Shared) (H : Hp) : Cx where
  prog := X.prog
  w := X.w
  K := X.K
  mg := X.mg
  base := X.base
  A := X.A
  N := ls ++ M
  s₀ := s
  H₀ := H
  env := compEnvC scope (closL X.env scope.names []) C X.env
  outer := X.stack
  stack := X.stack
  ex := fp
  fn := fun _ => false
  calm := X.calm
  pn := []
  xe := fun _ _ => False
def PTs (Y : Cx) (ifs : List Expr) (c : TT) : Prop :=
  ∀ (pins : List (Addr × Obj)) (s : Shared) (σ : St) (H : Hp) (Q : Bool → Hp → Prop), Inv Y pins σ H s → c σ H Q →
    wpAny (model Y.prog Y.w) Y.A (forIn ifs true fun c r => if r = true then do let ok ← isTrue c Y.env (eval c Y.env); pure (ForInStep.yield ok) else pure (ForInStep.yield r)) (TP Y pins σ Q) Y.xe s
def tYes : TT := fun _ H Q => Q true H
theorem pts_nil {Y : Cx} : PTs Y [] tYes := fun _ _ _ H _ I h => wpAny_tests_nil ⟨H, I, h⟩
theorem pts_one {Y : Cx} {e : Expr} {c : TT} (h : PT Y e c) : PTs Y [e] c := fun pins s σ H Q I hw => wpAny_tests_one (h pins s σ H Q I hw)
def CompW (k : Nat) (J : It) (g : TG) (c : TT) (te : TE) (σ : St) (H1 : Hp) (D : Addr) (Q : VK) : Prop :=
  ∃ W : Nat → Nat → St → Hp → Prop, (∃ m, W 0 m (List.replicate k none ++ σ) (upd H1 D (.lst []))) ∧ ∀ i m τ H, W i m τ H →
    (J.stop i H ∧ Q (.ref D) H) ∨ (J.go i H ∧ ∀ x H', J.yld i H x H' → g x τ H' fun τ2 H2 => c τ2 H2 fun b H3 => if b = true then te τ2 H3 fun y H4 => ∃ ys m', m' < m ∧ H4 D = some (.lst ys) ∧ ys.length < sizeLine ∧ W (i + 1) m' τ2 (upd H4 D (.lst (ys ++ [y]))) else ∃ m', m' < m ∧ W (i + 1) m' τ2 H3)
def tComp (k : Nat) (wi : TI) (g : TG) (c : TT) (te : TE) : TE := fun σ H Q => wi σ H fun J H1 => ∀ D, H1 D = none → CompW k J g c te σ H1 D Q
structure COff (X : Cx) (pins : List (Addr × Obj)) (H : Hp) (C : Addr) (s : Shared) : Prop where
  ns : ∃ m, s.heap.Ns C m
  none : H C = none
  ne : C ≠ X.env.locals
  young : X.s₀.heap.objs.size ≤ C
  cells : ∀ x c, X.env.cells.lookup x = some c → c ≠ C
  pins : ∀ p ∈ X.pn ++ pins, p.1 ≠ C
theorem Inv.gone {X : Cx} {pins : List (Addr × Obj)} {σ : St} {H : Hp} {C : Addr} {s : Shared} {h' : Heap} (I : Inv X pins σ H s) (o : COff X pins H C s) (hs : Heap.SameBut C s.heap h') : Inv X pins σ H { s with heap := h' } :=
  I.turned (t' := s.toks) (it := C) (fun b ob hb e => (hs.2 b hb).trans e) o.none o.ne (.inr o.young) o.cells o.pins
section
variable {X : Cx} {elt tg iter : Expr} {ifs : List Expr} {scope : Scope} {pos : Pos} {ls M : List Str} {g : TG} {c : TT} {te : TE}
theorem comp_core {J : It} {fp : List Addr} {tn : Nat → Heap → Prop} {it : Addr} {pins : List (Addr × Obj)} {σ : St} {H2 : Hp} {s2 : Shared} {Qe : VK} {RR : Value → Addr → Result → Shared → Prop} {E : Value → Shared → Prop}
    (hc : X.calm = true) (S : CompOk X.env.scope scope) (nl : NL X.N M scope)
    (hb : ∀ C fp s H, PG (cxComp X ls M scope C fp s H) tg g ∧ PTs (cxComp X ls M scope C fp s H) ifs c ∧ PE (cxComp X ls M scope C fp s H) elt te)
    (I2 : Inv X pins σ H2 s2) (T : Turn X.prog X.w X.K tg J fp it tn) (st2 : tn 0 s2.heap) (f2 : ∀ b ∈ fp, FpOk X pins H2 b)
    (hW : ∀ D, H2 D = none → CompW ls.length J g c te σ H2 D Qe)
    (hRR : ∀ D C H' s', Inv X pins σ H' s' → COff X pins H' C s' → Qe (.ref D) H' → RR (.ref D) C (.ok .next) s') :
    wpAny (model X.prog X.w) X.A (newList []) (fun acc s₃ => wpAny (model X.prog X.w) X.A (newFunctionEnv scope X.env.globals (closL X.env scope.names []) [] X.env.qual none .none (some X.env)) (fun cenv s₄ =>
      codeAny (model X.prog X.w) X.A (.compStart (.ListComp elt [⟨tg, iter, ifs, 0⟩] scope pos) 0 (.ref it) acc { cenv with scope := relabel scope X.env }) (RR acc cenv.locals) s₄) E s₃) E s2 := by
  refine wpAny_newObj_type (wpAny_newFunctionEnv S.nocell (by intro y hy; simp at hy) (fun h₁ hns₁ hsb₁ => ?_) S.kind)
  dsimp only at hns₁ hsb₁ ⊢
  have I3 : Inv X pins σ (upd H2 s2.heap.objs.size (.lst [])) { s2 with heap := s2.heap.push { cls := .type "list", dict := none, data := .seq ([] : List Value).toArray }, toks := s2.toks } :=
    I2.laid (fun _ _ q => Heap.get?_push_of_some _ q) (Nat.le_refl _) ⟨Nat.zero_le _, [], 0, .nil, Heap.get?_push_size _ rfl⟩
  have hfreshD : H2 s2.heap.objs.size = none := I2.hok.fresh (Nat.le_refl _)
  generalize hHH : s2.heap.push { cls := .type "list", dict := none, data := .seq ([] : List Value).toArray } = HH at hns₁ hsb₁ I3 ⊢
  have up : ∀ b o, s2.heap.get? b = some o → HH.get? b = some o := fun b o e => by rw [← hHH]; exact Heap.get?_push_of_some _ e
  have old : ∀ b o, HH.get? b = some o → h₁.get? b = some o := fun b o e => hsb₁.extBut b o (Nat.ne_of_lt (Heap.lt_size e)) (Heap.get?_push_of_some _ e)
  generalize hH3 : upd H2 s2.heap.objs.size (.lst []) = H3 at I3
  have f3 : ∀ b ∈ fp, FpOk X pins H3 b := fun b hb => by
    obtain ⟨f0, fr⟩ := f2 b hb
    refine ⟨?_, fr⟩
    obtain ⟨o, e, _⟩ := T.obj 0 _ st2 b hb
    rw [← hH3, upd_ne (Nat.ne_of_lt (Heap.lt_size e))]
    exact f0
  have fplt : ∀ b ∈ fp, b < HH.objs.size := fun b hb => by
    obtain ⟨o, e, _⟩ := T.obj 0 _ st2 b hb
    exact Heap.lt_size (up b o e)
  have sub : ∀ x a, (closL X.env scope.names []).lookup x = some a → X.env.cells.lookup x = some a := fun x a e => by
    rcases closL_mem _ _ _ (PySem.mem_of_lookup e) with z | z
    · exact absurd z (by simp)
    · exact z
  have kin : ∀ x, scope.names.lookup x = some .free → X.env.kindOf x = some .cell ∨ X.env.kindOf x = some .free := fun x e => S.free (x, .free) (PySem.mem_of_lookup e) rfl
  have has : ∀ x a, scope.names.lookup x = some .free → X.env.cells.lookup x = some a → (closL X.env scope.names []).lookup x = some a := fun x a e ec => by
    obtain ⟨d, hd⟩ := lookup_of_mem (closL_has ec scope.names [] (PySem.mem_of_lookup e))
    have := sub x d hd
    rw [ec] at this
    cases this
    exact hd
  have rel : ∀ x k, (relabel scope X.env).names.lookup x = some k → (k = .cell ∨ k = .free) → scope.names.lookup x = some .free := fun x k e hk => by
    obtain ⟨k', e1, e2⟩ := relabel_inv (show (scope.names.map fun (n, k) => if (k == NameKind.free && X.env.scope.kind == .function && X.env.kindOf n == some .cell) then (n, NameKind.cell) else (n, k)).lookup x = some k from e)
    rcases e2 with e2 | ⟨e2, _⟩
    · subst e2
      rcases hk with hk | hk
      · subst hk; exact absurd rfl (S.nocell _ (PySem.mem_of_lookup e1))
      · subst hk; exact e1
    · subst e2; exact e1
  have okY : (cxComp X ls M scope HH.objs.size fp { s2 with heap := HH, toks := s2.toks } H3).Ok := by
    refine ⟨I3.ok.mod, S.kind, I3.ok.glob, I3.ok.blt, Nat.le_refl _, fun x y a h1 h2 => I3.ok.inj x y a (sub x a h1) (sub y a h2), fun x hx => ?_, (fun x a h => nomatch h), I3.ok.hd, I3.ok.frames, .inl rfl, fun b hb' => ⟨Nat.ne_of_lt (fplt b hb'), fun x a e => (f3 b hb').2.2.2.2.1 x a (sub x a e)⟩,
      I3.bs, Nat.le_trans I3.ok.bsz I3.sz, fun b o e hb' => ?_, fun b hb' hs => ?_, I3.stack, I3.stkFree⟩
    · have hf : scope.names.lookup x = some .free := by
        rcases hx with hx | hx
        · exact rel x _ hx (.inl rfl)
        · exact rel x _ hx (.inr rfl)
      obtain ⟨a, ea⟩ := I3.ok.has x (kin x hf)
      exact ⟨a, has x a hf ea⟩
    · rcases (f3 b hb').2.2.2.1 with z | z
      · exact I3.ok.noex b o e z
      · exact absurd (Nat.lt_of_lt_of_le (Heap.lt_size e) (Nat.le_trans I3.ok.bsz z)) (Nat.lt_irrefl _)
    · rcases List.mem_cons.mp (I3.stkSub b hs) with z | z
      · exact (f3 b hb').2.1 z
      · exact (f3 b hb').2.2.1 z
  have IY : Inv (cxComp X ls M scope HH.objs.size fp { s2 with heap := HH, toks := s2.toks } H3) [] (List.replicate ls.length none ++ σ) H3 { s2 with heap := h₁, toks := s2.toks + ([] : List (Str × Value)).length } := by
    refine ⟨okY, rfl, I2.bare, Un.kept old, ⟨_, hns₁, fun i x v e1 e2 e3 => ?_⟩, fun x a e => ?_, I3.hok.fresh (Nat.le_refl _), fun x a e => I3.freeC x a (sub x a e), fun p hp => absurd (show p ∈ ([] : List (Addr × Obj)) from hp) (by simp), I3.hok.kept old, ?_⟩
    · have hi : ls.length ≤ i := by
        by_cases hi : ls.length ≤ i
        · exact hi
        · rw [List.getElem?_append_left (by simp; omega), List.getElem?_replicate] at e2
          split at e2 <;> cases e2
      rw [List.getElem?_append_right (by simpa using hi), List.length_replicate] at e2
      have e0 : M[i - ls.length]? = some x := by
        have z : (ls ++ M)[i]? = some x := e1
        rw [List.getElem?_append_right hi] at z
        exact z
      have hnl := nl.loc _ x e0
      have hf : scope.names.lookup x = some .free := by
        rcases e3 with e3 | e3 | e3
        · obtain ⟨k', q1, q2⟩ := relabel_inv (show (scope.names.map fun (n, k) => if (k == NameKind.free && X.env.scope.kind == .function && X.env.kindOf n == some .cell) then (n, NameKind.cell) else (n, k)).lookup x = some .local from e3)
          rcases q2 with q2 | ⟨_, q2⟩
          · subst q2; exact absurd q1 hnl
          · cases q2
        · exact rel x _ e3 (.inl rfl)
        · exact rel x _ e3 (.inr rfl)
      have e1' := nl.free _ x e0 hf
      have hk := kin x hf
      obtain ⟨m, hn, hl⟩ := I3.loc
      obtain ⟨u, ru, lk⟩ := hl (i - ls.length) x v e1' e2 (hk.elim (fun z => .inr (.inl z)) fun z => .inr (.inr z))
      refine ⟨u, ru, ?_⟩
      rcases lk with ⟨z, _⟩ | ⟨_, a, ea, hcell⟩
      · rcases hk with hk | hk <;> (rw [hk] at z; cases z)
      · obtain ⟨o, eo, hd⟩ := hcell
        refine .inr ⟨?_, a, has x a hf ea, ⟨o, old a o eo, hd⟩⟩
        rcases e3 with e3 | e3 | e3
        · obtain ⟨k', q1, q2⟩ := relabel_inv (show (scope.names.map fun (n, k) => if (k == NameKind.free && X.env.scope.kind == .function && X.env.kindOf n == some .cell) then (n, NameKind.cell) else (n, k)).lookup x = some .local from e3)
          rcases q2 with q2 | ⟨_, q2⟩
          · subst q2; exact absurd q1 hnl
          · cases q2
        · exact .inl e3
        · exact .inr e3
    · obtain ⟨v, o, eo, hd⟩ := I3.cell x a (sub x a e)
      exact ⟨v, o, old a o eo, hd⟩
    · show (List.replicate ls.length none ++ σ).length = (ls ++ M).length
      rw [List.length_append, List.length_append, List.length_replicate, I3.len, nl.len]
  have st1 : tn 0 h₁ := T.keep 0 _ _ st2 fun b _ o e => old b o (up b o e)
  obtain ⟨hPG, hPT, hPE⟩ := hb HH.objs.size fp { s2 with heap := HH, toks := s2.toks } H3
  obtain ⟨W, ⟨m0, w0⟩, turn⟩ := hW s2.heap.objs.size hfreshD
  rw [hH3] at w0
  have back : ∀ {τ : St} {H' : Hp} {s' : Shared}, Inv (cxComp X ls M scope HH.objs.size fp { s2 with heap := HH, toks := s2.toks } H3) [] τ H' s' → Inv X pins σ H' s' ∧ COff X pins H' HH.objs.size s' := fun {τ H' s'} J => by
    refine ⟨I3.call' (ch := fp) J.os J.base J.hok J.bare fun b hb' => ?_, ?_⟩
    · obtain ⟨_, g1, g2, g3, g4, g5⟩ := f3 b hb'
      exact ⟨g3, g1, g4, g5⟩
    · obtain ⟨m, hn, _⟩ := J.loc
      refine ⟨⟨m, hn⟩, J.free, Ne.symm (Nat.ne_of_lt I3.lt), I3.sz, fun x a e => ?_, fun p hp => Nat.ne_of_lt (Heap.lt_size (I3.pin p hp).1)⟩
      obtain ⟨v, q⟩ := I3.cell x a e
      exact Nat.ne_of_lt q.lt
  have stat : ∀ {H' : Hp}, (∀ b ∈ fp, H' b = none) → ∀ b ∈ fp, FpOk (cxComp X ls M scope HH.objs.size fp { s2 with heap := HH, toks := s2.toks } H3) [] H' b := fun {H'} hn b hb' => by
    obtain ⟨_, g1, g2, g3, g4, g5⟩ := f3 b hb'
    refine ⟨hn b hb', Nat.ne_of_lt (fplt b hb'), fun hs => ?_, .inl hb', fun x a e => g4 x a (sub x a e), fun p hp => absurd (show p ∈ ([] : List (Addr × Obj)) from hp) (by simp)⟩
    rcases List.mem_cons.mp (I3.stkSub b hs) with z | z
    · exact g1 z
    · exact g2 z
  have loop : ∀ s₃ : Shared, s₃ = { s2 with heap := h₁, toks := s2.toks + ([] : List (Str × Value)).length } →
      codeAny (model X.prog X.w) X.A (.compLoop (.ListComp elt [⟨tg, iter, ifs, 0⟩] scope pos) 0 (.ref it) (.ref s2.heap.objs.size) (compEnvC scope (closL X.env scope.names []) HH.objs.size X.env)) (RR (.ref s2.heap.objs.size) HH.objs.size) s₃ := by
    rintro s₃ rfl
    refine compLoop_any (fun n s' => ∃ i τ H', Inv (cxComp X ls M scope HH.objs.size fp { s2 with heap := HH, toks := s2.toks } H3) [] τ H' s' ∧ tn i s'.heap ∧ (∀ b ∈ fp, H' b = none) ∧ W i n τ H') ?_ m0 ⟨0, _, H3, IY, st1, fun b hb' => (f3 b hb').1, w0⟩
    rintro n s3 ⟨i, τ, H', I4, st4, fr4, w4⟩ E'
    rcases turn i n τ H' w4 with ⟨stop, qn⟩ | ⟨go, step⟩
    · refine thn (T.done (cxComp X ls M scope HH.objs.size fp { s2 with heap := HH, toks := s2.toks } H3) rfl rfl rfl hc i [] s3 τ H' E' I4 (stat fr4) st4 stop) fun r s4 ⟨hr, I5⟩ => ?_
      subst hr
      obtain ⟨b1, b2⟩ := back I5
      exact hRR _ _ H' s4 b1 b2 qn
    · refine thn (T.item (cxComp X ls M scope HH.objs.size fp { s2 with heap := HH, toks := s2.toks } H3) rfl rfl rfl hc i [] s3 τ H' E' I4 (stat fr4) st4 go) fun r s4 ⟨u, hr, h4⟩ => ?_
      subst hr
      refine thn h4 fun _ s5 ⟨x, H5, I5, r5, y5, st5, fr5⟩ => ?_
      have I5' := I5.pinned (stat fr5) (T.obj _ _ st5)
      refine wpAny_mono (hPG _ s5 τ H5 x u _ I5' r5 (step x H5 y5)) (fun _ s6 ⟨σ6, H6, I6, q6⟩ => ?_) fun _ _ z => z.elim
      refine wpAny_mono (hPT _ s6 σ6 H6 _ I6 q6) (fun ok s7 ⟨H7, I7, q7⟩ => ?_) fun _ _ z => z.elim
      have again : ∀ {σ8 : St} {H8 : Hp} {s8 : Shared} {m' : Nat}, Inv (cxComp X ls M scope HH.objs.size fp { s2 with heap := HH, toks := s2.toks } H3) ([] ++ pinsAt fp s5.heap) σ8 H8 s8 → m' < n → W (i + 1) m' σ8 H8 →
          ∃ m, m < n ∧ ∃ i τ H', Inv (cxComp X ls M scope HH.objs.size fp { s2 with heap := HH, toks := s2.toks } H3) [] τ H' s8 ∧ tn i s8.heap ∧ (∀ b ∈ fp, H' b = none) ∧ W i m τ H' := fun {σ8 H8 s8 m'} I8 hm w8 => by
        refine ⟨m', hm, i + 1, σ8, H8, I8.unpinned, T.keep _ _ _ st5 fun b hb' o e => (I8.pin (b, o) (List.mem_append_right _ (List.mem_append_right _ (mem_pinsAt hb' e)))).1, fun b hb' => ?_, w8⟩
        obtain ⟨o, e, d⟩ := T.obj _ _ st5 b hb'
        exact (I8.pin (b, o) (List.mem_append_right _ (List.mem_append_right _ (mem_pinsAt hb' e)))).2.1
      cases ok with
      | false =>
        rw [if_neg Bool.false_ne_true] at q7 ⊢
        obtain ⟨m', hm, w7⟩ := q7
        exact again I7 hm w7
      | true =>
        rw [if_pos rfl] at q7 ⊢
        refine wpAny_mono (hPE _ s7 σ6 H7 _ I7 q7) (fun yv s8 ⟨y, H8, I8, r8, ys, m', hm, hD, hz, w8⟩ => ?_) fun _ _ z => z.elim
        refine wpAny_mono (mt_append (X := (cxComp X ls M scope HH.objs.size fp { s2 with heap := HH, toks := s2.toks } H3)) _ s8 σ6 H8 (.ref s2.heap.objs.size) [y] (.ref s2.heap.objs.size) [yv] (fun _ H9 => W (i + 1) m' σ6 H9) I8 rfl (.cons r8 .nil) ⟨_, ys, y, rfl, rfl, hD, hz, w8⟩) (fun _ s9 ⟨_, H9, I9, _, w9⟩ => ?_) fun _ _ z => z.elim
        exact again I9 hm w9
  exact codeAny_compStart_list (loop _ rfl) (T.self _ 0 _ _ _ st1 (loop _ rfl))
theorem closOk (S : CompOk X.env.scope scope) (ok : X.Ok) : closureFor scope X.env = pure (closL X.env scope.names []) :=
  closureFor_closL fun y hy e => ok.has y.1 (S.free y hy e)
theorem pe_comp {wi : TI} (hc : X.calm = true) (S : CompOk X.env.scope scope) (nl : NL X.N M scope) (hi : PI X tg iter wi)
    (hb : ∀ C fp s H, PG (cxComp X ls M scope C fp s H) tg g ∧ PTs (cxComp X ls M scope C fp s H) ifs c ∧ PE (cxComp X ls M scope C fp s H) elt te)
    (hs : ∀ x, foldedSetIterable iter X.env x = pure x := by intro _; rfl) : PE X (.ListComp elt [⟨tg, iter, ifs, 0⟩] scope pos) (tComp ls.length wi g c te) := by
  intro pins s σ H Q I h
  rw [eval_ListComp]
  refine wpAny_comprehension_free (use := none) rfl hs (closOk S I.ok) S.kind S.loc (thn (hi pins s σ H _ I h) fun xv s1 h1 => thn h1 fun itv s2 h2 => ?_)
  obtain ⟨it, fp, tn, J, H2, e, I2, T, st2, f2, hW⟩ := h2
  subst e
  refine comp_core (RR := fun acc C => compPost (model X.prog X.w) X.A X.xe none (EP X pins σ Q) acc C) (Qe := Q) hc S nl hb I2 T st2 f2 hW fun D C H' s' I' o q => ?_
  exact ⟨o.ns.choose, o.ns.choose_spec, fun h' hs' => ⟨.ref D, H', I'.gone o hs', rfl, q⟩⟩
theorem ps_setC {wi : TI} {i : Nat} {y : Str} {py spos : Pos} (hc : X.calm = true) (S : CompOk X.env.scope scope) (nl : NL X.N M scope) (hN : X.N.Nodup) (hiy : X.N[i]? = some y) (hy : Loc X.env.scope y)
    (hi : PI X tg iter wi) (hb : ∀ C fp s H, PG (cxComp X ls M scope C fp s H) tg g ∧ PTs (cxComp X ls M scope C fp s H) ifs c ∧ PE (cxComp X ls M scope C fp s H) elt te)
    (hsw : swapsWith (.ListComp elt [⟨tg, iter, ifs, 0⟩] scope pos) (some (.Name y py)) spos.line X.env = pure true := by rfl)
    (hs : ∀ x, foldedSetIterable iter X.env x = pure x := by intro _; rfl) (hf : X.fn y = true ∨ X.env.scope.names.lookup y = some .local := by first | exact .inl rfl | exact .inr rfl) :
    PS X (.Assign [.Name y py] (.ListComp elt [⟨tg, iter, ifs, 0⟩] scope pos) spos) (tAsg (tComp ls.length wi g c te) (gName i)) := by
  intro pins s σ H D I h
  rw [exec_Assign_Name_used _ _ _ _ hsw]
  refine wpAny_bind (wpAny_standAt (wpAny_bind ?_))
  show wpAny _ X.A (do let _ ← comprehension (.ListComp elt [⟨tg, iter, ifs, 0⟩] scope pos) scope X.env _ (newList []) false (eval iter X.env) (some (assign (.Name y py) X.env))) _ _ s
  refine wpAny_bind (wpAny_mono (wpAny_comprehension_free (use := some (assign (.Name y py) X.env)) (Q := fun _ s' => SP X pins D .next s') rfl hs (closOk S I.ok) S.kind S.loc (thn (hi pins s σ H _ I h) fun xv s1 h1 => thn h1 fun itv s2 h2 => ?_)) (fun _ s' hq => wpAny_pure (wpAny_pure hq)) fun _ _ e => e)
  obtain ⟨it, fp, tn, J, H2, e, I2, T, st2, f2, hW⟩ := h2
  subst e
  refine comp_core (RR := fun acc C => compPost (model X.prog X.w) X.A X.xe (some (assign (.Name y py) X.env)) (fun _ s' => SP X pins D .next s') acc C) hc S nl hb I2 T st2 f2 hW fun Dl C H' s' I' o q => ?_
  show wpAny _ X.A (assign (.Name y py) X.env (.ref Dl)) _ _ _
  refine wpAny_assign_Name (store_ok2 I' hN hiy hy (v := .ref Dl) rfl (fun s'' I'' ⟨a, hsa, ha⟩ => ?_) hf)
  have hCa : C ≠ a := by
    rcases ha with z | z
    · rw [z]; exact o.ne
    · exact Ne.symm (o.cells y a z)
  obtain ⟨m, hm⟩ := o.ns
  have o2 : COff X pins H' C s'' := ⟨⟨m, hm.sameBut hsa hCa⟩, o.none, o.ne, o.young, o.cells, o.pins⟩
  exact ⟨m, hm.sameBut hsa hCa, fun h' hs' => ⟨_, H', I''.gone o2 hs', q⟩⟩
end
def CW (n : Nat) (Pv : Nat → St → Hp → Prop) (i m : Nat) (τ : St) (H : Hp) : Prop := m = n - i ∧ i ≤ n ∧ Pv i τ H
theorem comp_next {n i m : Nat} {Pv : Nat → St → Hp → Prop} {τ : St} {H4 : Hp} {D : Addr} {ys : List V} {y : V} (hm : m = n - i) (hi : i < n) (e1 : H4 D = some (.lst ys)) (e2 : ys.length < sizeLine) (p : Pv (i + 1) τ (upd H4 D (.lst (ys ++ [y])))) :
    ∃ ys m', m' < m ∧ H4 D = some (.lst ys) ∧ ys.length < sizeLine ∧ CW n Pv (i + 1) m' τ (upd H4 D (.lst (ys ++ [y]))) := ⟨ys, n - (i + 1), by omega, e1, e2, rfl, hi, p⟩
theorem comp_skip {n i m : Nat} {Pv : Nat → St → Hp → Prop} {τ : St} {H3 : Hp} (hm : m = n - i) (hi : i < n) (p : Pv (i + 1) τ H3) : ∃ m', m' < m ∧ CW n Pv (i + 1) m' τ H3 := ⟨n - (i + 1), by omega, rfl, hi, p⟩
theorem comp_range {k : Nat} {lo : Int} {n : Nat} {g : TG} {c : TT} {te : TE} {σ : St} {H1 : Hp} {D : Addr} {Q : VK} (Pv : Nat → St → Hp → Prop) (h0 : Pv 0 (List.replicate k none ++ σ) (upd H1 D (.lst [])))
    (hs : ∀ i m τ H, m = n - i → i < n → Pv i τ H → g (.int (lo + i)) τ H fun τ2 H2 => c τ2 H2 fun b H3 => if b = true then te τ2 H3 fun y H4 => ∃ ys m', m' < m ∧ H4 D = some (.lst ys) ∧ ys.length < sizeLine ∧ CW n Pv (i + 1) m' τ2 (upd H4 D (.lst (ys ++ [y]))) else ∃ m', m' < m ∧ CW n Pv (i + 1) m' τ2 H3)
    (hd : ∀ τ H, Pv n τ H → Q (.ref D) H) : CompW k (Itr lo n) g c te σ H1 D Q := by
  refine ⟨CW n Pv, ⟨n, rfl, Nat.zero_le _, h0⟩, ?_⟩
  rintro i m τ H ⟨hm, hi, p⟩
  by_cases hlt : i < n
  · refine .inr ⟨hlt, fun x H' y => ?_⟩
    obtain ⟨e, y⟩ := y
    subst e y
    exact hs i m τ _ hm hlt p
  · have e : i = n := by omega
    subst e
    exact .inl ⟨Nat.le_refl _, hd τ H p⟩
theorem comp_list {K : PySem.W.Frag} {a : Addr} {xs : List V} {k : Nat} {g : TG} {c : TT} {te : TE} {σ : St} {H1 : Hp} {D : Addr} {Q : VK} (Pv : Nat → St → Hp → Prop) (h0 : Pv 0 (List.replicate k none ++ σ) (upd H1 D (.lst [])))
    (hl : ∀ i τ H, i ≤ xs.length → Pv i τ H → SqL K H a xs)
    (hs : ∀ i m x τ H, m = xs.length - i → i < xs.length → xs[i]? = some x → Pv i τ H → g x τ H fun τ2 H2 => c τ2 H2 fun b H3 => if b = true then te τ2 H3 fun y H4 => ∃ ys m', m' < m ∧ H4 D = some (.lst ys) ∧ ys.length < sizeLine ∧ CW xs.length Pv (i + 1) m' τ2 (upd H4 D (.lst (ys ++ [y]))) else ∃ m', m' < m ∧ CW xs.length Pv (i + 1) m' τ2 H3)
    (hd : ∀ τ H, Pv xs.length τ H → Q (.ref D) H) : CompW k (Itl K a) g c te σ H1 D Q := by
  refine ⟨CW xs.length Pv, ⟨xs.length, rfl, Nat.zero_le _, h0⟩, ?_⟩
  rintro i m τ H ⟨hm, hi, p⟩
  have q := hl i τ H hi p
  by_cases hlt : i < xs.length
  · refine .inr ⟨⟨xs, xs[i], q, by simp [hlt]⟩, fun x H' y => ?_⟩
    obtain ⟨e, y⟩ := y
    subst e
    exact hs i m x τ _ hm hlt (y xs q) p
  · have e : i = xs.length := by omega
    subst e
    exact .inl ⟨⟨xs, q, Nat.le_refl _⟩, hd τ H p⟩
theorem tyes_if {τ : St} {H : Hp} {A B : Hp → Prop} (h : A H) : tYes τ H (fun b H3 => if b = true then A H3 else B H3) := by
  show (if true = true then A H else B H)
  rw [if_pos rfl]
  exact h
theorem ifT {c : Bool} {A B : Prop} (h : c = true) (a : A) : if c = true then A else B := by
  rw [if_pos h]
  exact a
theorem ifF {c : Bool} {A B : Prop} (h : c = false) (b : B) : if c = true then A else B := by
  rw [if_neg (by rw [h]; exact Bool.false_ne_true)]
  exact b
theorem bt_int : bootBuiltins "int" = some (.type "int") := by decide +kernel
theorem bt_bool : bootBuiltins "bool" = some (.type "bool") := by decide +kernel
theorem bt_list : bootBuiltins "list" = some (.type "list") := by decide +kernel
theorem bt_tuple : bootBuiltins "tuple" = some (.type "tuple") := by decide +kernel
theorem bt_len : bootBuiltins "len" = some (.builtin "len") := by decide +kernel
theorem bt_isinstance : bootBuiltins "isinstance" = some (.builtin "isinstance") := by decide +kernel
theorem bt_sum : bootBuiltins "sum" = some (.builtin "sum") := by decide +kernel
theorem bt_max : bootBuiltins "max" = some (.builtin "max") := by decide +kernel
theorem bt_min : bootBuiltins "min" = some (.builtin "min") := by decide +kernel
theorem bt_sorted : bootBuiltins "sorted" = some (.builtin "sorted") := by decide +kernel
theorem bt_all : bootBuiltins "all" = some (.builtin "all") := by decide +kernel
theorem bt_any : bootBuiltins "any" = some (.builtin "any") := by decide +kernel
def nodupB : List Str → Bool
  | [] => true
  | x :: r => (r.all fun y => x != y) && nodupB r
theorem nd_of : ∀ {l : List Str}, nodupB l = true → l.Nodup
  | [], _ => .nil
  | x :: r, h => by
    have h' : ((r.all fun y => x != y) && nodupB r) = true := h
    rw [Bool.and_eq_true, List.all_eq_true] at h'
    refine List.nodup_cons.mpr ⟨fun z => ?_, nd_of h'.2⟩
    have := h'.1 x z
    simp at this
structure Cal (P : Program) (w : World) (K : PySem.W.Frag) (mg : Str → Option Value) (base : Heap) (n : Nat) (x : Str) (ps : List Str) (sp : Sp) (g : Addr) (gd : FuncData) : Prop where
  ok : FnOk P w K mg base CX0 n g gd ps sp
  bi : Binds K gd ps []
  kp : PySem.W.keepIn K (.ref g) = true
  at_ : mg x = some (.ref g)
theorem Cal.up {P : Program} {w : World} {K : PySem.W.Frag} {mg : Str → Option Value} {base : Heap} {n m : Nat} {x : Str} {ps : List Str} {sp : Sp} {g : Addr} {gd : FuncData} (c : Cal P w K mg base n x ps sp g gd) (h : n ≤ m) : Cal P w K mg base m x ps sp g gd := ⟨c.ok.mono h, c.bi, c.kp, c.at_⟩
theorem pe_callC {X : Cx} {n : Nat} {x : Str} {ps : List Str} {sp : Sp} {g : Addr} {gd : FuncData} {p pos : Pos} {e : Expr} {es : List Expr} {t : TA} (c : Cal X.prog X.w X.K X.mg X.base n x ps sp g gd) (hr : Room n X.A) (ha : PA X (e :: es) t) (hg : Gl X x := by rfl)
    (hd : (x == ("__debug__" : Str)) = false := by decide) (he : starEach (e :: es) X.env = (false, eval e X.env) :: starEach es X.env := by rfl) (hpl : (backTo pos (starEach es X.env)).any (·.1) = false := by rfl) :
    PE X (.Call (.Name x p) (e :: es) [] pos) (tCall sp [] E0 t) := pe_call c.ok hr hg c.at_ c.kp c.bi .nil pass0 ha hd he hpl
theorem Same.tup {K : PySem.W.Frag} {H H' : Hp} {a : Addr} {xs : List V} (e : Same H H') (h : SqT K H a xs) : SqT K H' a xs := by
  rcases h with (h | ⟨o, h⟩) | h
  · exact .inl (.inl (e _ _ h))
  · exact .inl (.inr ⟨o, e _ _ h⟩)
  · exact .inr h
theorem same_new {H : Hp} {p : Addr} (h : H p = none) (o : HO) : Same H (upd H p o) := fun b u q => by rw [upd_ne (ne_of_none q h)]; exact q
theorem Same.upd_new {H H' : Hp} {p : Addr} (s : Same H H') (h : H p = none) (o : HO) : Same H (upd H' p o) := fun b u q => by rw [upd_ne (ne_of_none q h)]; exact s b u q
theorem atI_ints {L : List Int} {i : Int} (h0 : 0 ≤ i) (h1 : i < (L.length : Int)) : atI (L.map V.int) i = some (.int (L.getD i.toNat 0)) := by
  have hi : i.toNat < L.length := by omega
  have e : i = ((i.toNat : Nat) : Int) := by omega
  have q : atI (L.map V.int) ((i.toNat : Nat) : Int) = some (.int (L.getD i.toNat 0)) := atI_nat (by rw [List.getElem?_map, List.getElem?_eq_getElem hi, getD_at hi] <;> rfl)
  rw [← e] at q
  exact q
end L2
set_option Elab.async false
set_option linter.all false
set_option maxRecDepth 100000
namespace L2
open PySem PySem.Spec PyProof.Rows
inductive DE (K : PySem.W.Frag) (H : Hp) : Nat → V → V → Bool → Prop
  | int (n : Nat) (i j : Int) : DE K H n (.int i) (.int j) (i == j)
  | bl (n : Nat) (i j : Bool) : DE K H n (.bl i) (.bl j) (i == j)
  | str (n : Nat) (i j : Str) : DE K H n (.str i) (.str j) (i == j)
  | tup {n : Nat} {a b : Addr} {xs ys : List V} (e : Nat → Bool) (ha : SqT K H a xs) (hb : SqT K H b ys) (h : ∀ (j : Nat) x y, xs[j]? = some x → ys[j]? = some y → DE K H n x y (e j)) :
      DE K H (n + 1) (.ref a) (.ref b) ((List.range (min xs.length ys.length)).all e && xs.length == ys.length)
  | lst {n : Nat} {a b : Addr} {xs ys : List V} (e : Nat → Bool) (ha : SqL K H a xs) (hb : SqL K H b ys) (hl : xs.length = ys.length) (h : ∀ (j : Nat) x y, xs[j]? = some x → ys[j]? = some y → DE K H n x y (e j)) :
      DE K H (n + 1) (.ref a) (.ref b) ((List.range xs.length).all e)
  | lstN {n : Nat} {a b : Addr} {xs ys : List V} (ha : SqL K H a xs) (hb : SqL K H b ys) (hl : xs.length ≠ ys.length) : DE K H (n + 1) (.ref a) (.ref b) false
section
variable {X : Cx} {pins : List (Addr × Obj)} {σ : St} {H : Hp} {s : Shared}
theorem DE.self (I : Inv X pins σ H s) {n : Nat} {x y : V} {k : Bool} (d : DE X.K H n x y k) : x = y → k = true := by
  induction d with
  | int n i j => intro e; cases e; simp
  | bl n i j => intro e; cases e; simp
  | str n i j => intro e; cases e; simp
  | @tup n a b xs ys e ha hb h ih =>
    intro z
    cases z
    have q := I.tuple_inj ha hb
    subst q
    rw [Bool.and_eq_true]
    refine ⟨List.all_eq_true.mpr fun j hj => ?_, by simp⟩
    rw [List.mem_range, Nat.min_self] at hj
    exact ih j _ _ (List.getElem?_eq_getElem hj) (List.getElem?_eq_getElem hj) rfl
  | @lst n a b xs ys e ha hb hl h ih =>
    intro z
    cases z
    have q := I.list_inj ha hb
    subst q
    refine List.all_eq_true.mpr fun j hj => ?_
    rw [List.mem_range] at hj
    exact ih j _ _ (List.getElem?_eq_getElem hj) (List.getElem?_eq_getElem hj) rfl
  | @lstN n a b xs ys ha hb hl =>
    intro z
    cases z
    exact absurd (congrArg List.length (I.list_inj ha hb)) hl
theorem vals_at {xs : List V} {its : List Value} (r : Vals xs its) {j : Nat} (hj : j < its.length) : ∃ x, xs[j]? = some x ∧ RelV x its[j] := by
  have hl := r.length
  obtain ⟨u, hu, ru⟩ := r.get (List.getElem?_eq_getElem (l := xs) (i := j) (by omega))
  rw [List.getElem?_eq_getElem hj] at hu
  cases hu
  exact ⟨_, List.getElem?_eq_getElem (by omega), ru⟩
theorem in1_units (A : Around) : A.in1.units = A.units + 1 := rfl
theorem DE.eqAt (I : Inv X pins σ H s) {n : Nat} {x y : V} {k : Bool} (d : DE X.K H n x y k) : ∀ (A : Around) (u v : Value), A.units + n < cLine → RelV x u → RelV y v → PySem.SeqAt.EqAt A s u v k := by
  induction d with
  | int n i j =>
    intro A u v _ ru rv
    obtain ⟨t, rfl⟩ := ru
    obtain ⟨t', rfl⟩ := rv
    exact PySem.SeqAt.EqAt.int_int _ _ _ _
  | bl n i j =>
    intro A u v _ ru rv
    cases (show u = Value.bool i from ru)
    cases (show v = Value.bool j from rv)
    exact PySem.SeqAt.EqAt.bool_bool _ _
  | str n i j =>
    intro A u v _ ru rv
    obtain ⟨t, rfl⟩ := ru
    obtain ⟨t', rfl⟩ := rv
    exact PySem.SeqAt.EqAt.str_str _ _ _ _
  | @tup n a b xs ys e ha hb h ih =>
    intro A u v hu ru rv
    cases (show u = Value.ref a from ru)
    cases (show v = Value.ref b from rv)
    by_cases hab : a = b
    · have q := (DE.tup e ha hb h).self I (by rw [hab])
      rw [q]
      subst hab
      exact PySem.SeqAt.EqAt.same _
    · obtain ⟨its, r1, p1, _⟩ := I.tuple ha
      obtain ⟨its2, r2, p2, _⟩ := I.tuple hb
      refine PySem.SeqAt.EqAt.of_refs hab ?_
      have q := PySem.SeqAt.RcAt.tuples (A := A) (e := e) (show s.heap.IsTuple a its.toArray from p1) (show s.heap.IsTuple b its2.toArray from p2) (by omega) (fun j h1 h2 => by
        obtain ⟨x, ex, rx⟩ := vals_at r1 (j := j) (by simpa using h1)
        obtain ⟨y, ey, ry⟩ := vals_at r2 (j := j) (by simpa using h2)
        rw [List.getElem_toArray, List.getElem_toArray]
        exact ih j x y ex ey A.in1 _ _ (by rw [in1_units]; omega) rx ry)
      rw [List.size_toArray, List.size_toArray, ← r1.length, ← r2.length] at q
      exact q
  | @lst n a b xs ys e ha hb hl h ih =>
    intro A u v hu ru rv
    cases (show u = Value.ref a from ru)
    cases (show v = Value.ref b from rv)
    by_cases hab : a = b
    · have q := (DE.lst e ha hb hl h).self I (by rw [hab])
      rw [q]
      subst hab
      exact PySem.SeqAt.EqAt.same _
    · obtain ⟨its, r1, p1, _⟩ := I.list ha
      obtain ⟨its2, r2, p2, _⟩ := I.list hb
      refine PySem.SeqAt.EqAt.of_refs hab ?_
      have q := PySem.SeqAt.RcAt.lists (A := A) (e := e) p1.isList p2.isList (by rw [List.size_toArray, List.size_toArray, ← r1.length, ← r2.length]; exact hl) (by omega) (fun j h1 h2 => by
        obtain ⟨x, ex, rx⟩ := vals_at r1 (j := j) (by simpa using h1)
        obtain ⟨y, ey, ry⟩ := vals_at r2 (j := j) (by simpa using h2)
        rw [List.getElem_toArray, List.getElem_toArray]
        exact ih j x y ex ey A.in1 _ _ (by rw [in1_units]; omega) rx ry)
      rw [List.size_toArray, ← r1.length] at q
      exact q
  | @lstN n a b xs ys ha hb hl =>
    intro A u v hu ru rv
    cases (show u = Value.ref a from ru)
    cases (show v = Value.ref b from rv)
    have hab : a ≠ b := fun z => by subst z; exact hl (congrArg List.length (I.list_inj ha hb))
    obtain ⟨its, r1, p1, _⟩ := I.list ha
    obtain ⟨its2, r2, p2, _⟩ := I.list hb
    refine PySem.SeqAt.EqAt.of_refs hab (PySem.SeqAt.RcAt.lists_lengths p1.isList p2.isList ?_ (by omega))
    rw [List.size_toArray, List.size_toArray, ← r1.length, ← r2.length]
    simpa using hl
def rNeD (K : PySem.W.Frag) (n : Nat) : R2 := fun x y H Q => ∃ a b k, x = .ref a ∧ y = .ref b ∧ DE K H (n + 1) x y k ∧ Q (.bl (!k)) H
theorem op_neD {n : Nat} (hu : X.A.units + n + 1 < cLine) : OpR X (compareOp .NotEq) (rNeD X.K n) := by
  intro pins s σ H x y v u Q I rx ry h
  obtain ⟨a, b, k, rfl, rfl, d, q⟩ := h
  cases (show v = Value.ref a from rx)
  cases (show u = Value.ref b from ry)
  cases d with
  | @tup n a b xs ys e ha hb h =>
    obtain ⟨its, r1, p1, _⟩ := I.tuple ha
    obtain ⟨its2, r2, p2, _⟩ := I.tuple hb
    refine PySem.SeqAt.RcNeAt.tuples (e := e) (show s.heap.IsTuple a its.toArray from p1) (show s.heap.IsTuple b its2.toArray from p2) (by omega) (fun j h1 h2 => by
        obtain ⟨x, ex, rx⟩ := vals_at r1 (j := j) (by simpa using h1)
        obtain ⟨y, ey, ry⟩ := vals_at r2 (j := j) (by simpa using h2)
        rw [List.getElem_toArray, List.getElem_toArray]
        exact (h j x y ex ey).eqAt I X.A.in1 _ _ (by rw [in1_units]; omega) rx ry) X.prog X.w _ _ ?_
    rw [List.size_toArray, List.size_toArray, ← r1.length, ← r2.length]
    exact ⟨.bl _, H, I, rfl, q⟩
  | @lst n a b xs ys e ha hb hl h =>
    obtain ⟨its, r1, p1, _⟩ := I.list ha
    obtain ⟨its2, r2, p2, _⟩ := I.list hb
    refine PySem.SeqAt.RcNeAt.lists (e := e) p1.isList p2.isList (by rw [List.size_toArray, List.size_toArray, ← r1.length, ← r2.length]; exact hl) (by omega) (fun j h1 h2 => by
        obtain ⟨x, ex, rx⟩ := vals_at r1 (j := j) (by simpa using h1)
        obtain ⟨y, ey, ry⟩ := vals_at r2 (j := j) (by simpa using h2)
        rw [List.getElem_toArray, List.getElem_toArray]
        exact (h j x y ex ey).eqAt I X.A.in1 _ _ (by rw [in1_units]; omega) rx ry) X.prog X.w _ _ ?_
    rw [List.size_toArray, ← r1.length]
    exact ⟨.bl _, H, I, rfl, q⟩
  | @lstN n a b xs ys ha hb hl =>
    obtain ⟨its, r1, p1, _⟩ := I.list ha
    obtain ⟨its2, r2, p2, _⟩ := I.list hb
    exact PySem.SeqAt.RcNeAt.lists_lengths p1.isList p2.isList (by rw [List.size_toArray, List.size_toArray, ← r1.length, ← r2.length]; simpa using hl) (by omega) X.prog X.w _ _ ⟨.bl _, H, I, rfl, q⟩
end
end L2
set_option Elab.async false
set_option linter.all false
set_option maxRecDepth 100000
namespace L2
open PySem PySem.Spec PyProof.Rows
section
variable {X : Cx}
theorem call_sum (hc : X.calm = true) : CallR X (.builtin "sum") (fun xs H Q => ∃ (a : Addr) (ns : List Int), xs = [.ref a] ∧ SqL X.K H a (ns.map V.int) ∧ Q (.int ns.sum) H) := by
  intro pins s σ H xs us Q I r h
  obtain ⟨a, ns, rfl, hS, q⟩ := h
  obtain ⟨u, rfl, ru⟩ := vals1 r
  cases (show u = Value.ref a from ru)
  obtain ⟨its, rv, p, hz⟩ := I.list hS
  have hi := intsAre_of rv
  obtain ⟨zs, e⟩ := (IntsAre.allInts hi).items
  have hl := p.isList
  rw [e] at hl
  refine sum_intListG (I.ok.hd hc) hl fun h' tk t' hk => ⟨.int ns.sum, H, I.kept hk, ⟨t', ?_⟩, q⟩
  have n1 := nums_intItems (xs := zs)
  rw [← e, show its.toArray.toList = its from rfl, IntsAre.numsOf hi] at n1
  rw [preSum_eq, List.take_of_length_le (by simp), ← n1]
def rInsert : V → List V → Hp → VK → Prop := fun x vs H Q => ∃ l xs i y, x = .ref l ∧ vs = [.int i, y] ∧ H l = some (.lst xs) ∧ 0 ≤ i ∧ i ≤ (xs.length : Int) ∧ xs.length < sizeLine ∧ Q .non (upd H l (.lst (xs.take i.toNat ++ y :: xs.drop i.toNat)))
theorem mt_insert : MtM X "list.insert" rInsert := by
  intro pins s σ H x vs v us Q I rx rv h
  obtain ⟨l, xs, i, y, rfl, rfl, hH, h0, h1, hz, q⟩ := h
  cases (show v = Value.ref l from rx)
  obtain ⟨u1, u2, rfl, ⟨t, rfl⟩, r2⟩ := vals2 rv
  obtain ⟨z, its, n, r, hl, e⟩ := I.lstM hH
  have hs : sizeLine = 16777216 := sizeLine_eq
  have fit : ¬ (!Builtin.List.listFitsIndex i) = true := by
    unfold Builtin.List.listFitsIndex
    have a1 : decide (-(2 ^ 63 : Int) ≤ i) = true := decide_eq_true (by omega)
    have a2 : decide (i < 2 ^ 63) = true := decide_eq_true (by omega)
    rw [a1, a2]
    decide
  refine call_meets F.slot_list_insert ⟨_, e, rfl⟩ F.entry_list_insert (F.args_list_insert_3 _ _ _) (PySem.AutoListH.list_insert_list_int_val_1 l its.toArray n i t u2 fit (by rw [List.size_toArray]; omega)) ⟨e, ?_⟩
  have fe : (fun zs : Array Value => have k := if i < 0 then (i + ((zs.size : Nat) : Int)).toNat else min i.toNat zs.size; (zs.extract 0 k).push u2 ++ zs.extract k) its.toArray = (its.take i.toNat ++ u2 :: its.drop i.toNat).toArray := by
    have k1 : ¬ i < 0 := by omega
    have k2 : min i.toNat its.length = i.toNat := by omega
    have k3 : (its.drop i.toNat).take (its.length - i.toNat) = its.drop i.toNat := List.take_of_length_le (by simp)
    simp [k1, k2, k3]
  refine ⟨.non, _, I.lset (f := fun zs : Array Value => have k := if i < 0 then (i + ((zs.size : Nat) : Int)).toNat else min i.toNat zs.size; (zs.extract 0 k).push u2 ++ zs.extract k) hH e fe ((r.take i.toNat).append (.cons r2 (r.drop i.toNat))) ?_, rfl, q⟩
  rw [List.length_append, List.length_cons, List.length_take, List.length_drop]
  omega
section
variable {prog : Program} {w : World} {A : Around} {E : Value → Shared → Prop} {s : Shared} {d it : Addr} {od : Obj} {es : Array DictEntry} {ep i : Nat}
end
end
theorem ix_listK {X : Cx} {K : PySem.W.Frag} (h : X.K = K) : IxR X (rIxL K) := by subst h; exact ix_list
end L2
set_option Elab.async false
set_option linter.all false
set_option maxRecDepth 100000
namespace L2
open PySem PySem.Spec PyProof.Rows
section
variable {X : Cx} {pins : List (Addr × Obj)} {σ : St} {H : Hp} {s : Shared}
theorem FpOk.pin {b : Addr} {o : Obj} (f : FpOk X pins H b) (e : s.heap.get? b = some o) (d : ∀ v, o.data ≠ .cell v) : s.heap.get? b = some o ∧ H b = none ∧ b ≠ X.env.locals ∧ b ∉ X.fs ∧ ∀ v, o.data ≠ .cell v := ⟨e, f.1, f.2.1, f.2.2.1, d⟩
variable {A : Around} {E : Value → Shared → Prop} {P : PySem.Fin → Shared → Prop} {a kS : Addr} {b : Bool} {vs : List Value} {kz : List Int} {keys : Array Value} {e e1 : Nat} {f : Value}
end
end L2
set_option Elab.async false
set_option linter.all false
set_option maxRecDepth 100000
namespace L2
open PySem PySem.Spec PyProof.Rows
section
variable {X : Cx} {pins : List (Addr × Obj)} {σ : St} {H : Hp} {s : Shared} {A : Around} {E : Value → Shared → Prop} {P : PySem.Fin → Shared → Prop} {a : Addr} {vs : List Value} {kz : List Int} {n : Nat} {f : Value}
end
end L2
set_option Elab.async false
set_option linter.all false
set_option maxRecDepth 100000
namespace L2
open PySem PySem.Spec PyProof.Rows
abbrev CodeO (c' : Addr) (qual : Str) : HO := .ext fun h => h.CodeRec (.ref c') qual
section
variable {X : Cx} {pins : List (Addr × Obj)} {σ : St} {H : Hp} {A : Around} {p qual : Str} {M : List Str} {scope : Scope} {params : Arguments} {body : Expr} {pm ctv : Value} {c' f : Addr} {te : TE}
end
end L2
set_option Elab.async false
set_option linter.all false
set_option maxRecDepth 100000
namespace L2
open PySem PySem.Spec PyProof.Rows
def tbN (pos : Pos) (c' : Addr) : Array Value := #[rawInt pos.line, rawInt pos.col, .ref c']
def Hit (P : Addr) (pos : Pos) (qual : Str) (c' : Addr) (H : Hp) : Prop := H P = some (.tbl (tbN pos c')) ∧ H c' = some (CodeO c' qual)
def TbOk (P : Addr) (pos : Pos) (qual : Str) (H : Hp) : Prop := H P = some (.tbl #[]) ∨ ∃ c', Hit P pos qual c' H
def SameT (P : Addr) (H H' : Hp) : Prop := ∀ b o, b ≠ P → H b = some o → H' b = some o
theorem SameT.refl {P : Addr} (H : Hp) : SameT P H H := fun _ _ _ e => e
theorem SameT.trans {P : Addr} {H H1 H2 : Hp} (a : SameT P H H1) (b : SameT P H1 H2) : SameT P H H2 := fun c o n e => b c o n (a c o n e)
theorem SameT.free {P : Addr} {H H' : Hp} (a : SameT P H H') {l : Addr} (h : H' l = none) (hP : ∃ ps, H' P = some (.tbl ps)) : H l = none := by
  cases q : H l with
  | none => rfl
  | some o =>
    by_cases e : l = P
    · obtain ⟨ps, z⟩ := hP
      rw [e, z] at h; cases h
    · rw [a l o e q] at h; cases h
theorem SameT.upd_new {P : Addr} {H H' : Hp} {p : Addr} (s : SameT P H H') (h : H p = none) (o : HO) : SameT P H (upd H' p o) := fun b u n q => by rw [upd_ne (ne_of_none q h)]; exact s b u n q
theorem TbOk.at_ {P : Addr} {pos : Pos} {qual : Str} {H : Hp} (t : TbOk P pos qual H) : ∃ ps, H P = some (.tbl ps) := by
  rcases t with t | ⟨c, t, _⟩
  · exact ⟨_, t⟩
  · exact ⟨_, t⟩
theorem SameT.get {P : Addr} {pos : Pos} {qual : Str} {H H' : Hp} (a : SameT P H H') (t : TbOk P pos qual H) {b : Addr} {o : HO} (e : H b = some o) (n : ∀ ps, o ≠ .tbl ps) : H' b = some o := by
  obtain ⟨ps, z⟩ := t.at_
  exact a b o (ne_of e z (n ps)) e
theorem TbOk.same {P : Addr} {pos : Pos} {qual : Str} {H H' : Hp} (t : TbOk P pos qual H) (s : Same H H') : TbOk P pos qual H' := by
  rcases t with t | ⟨c, t, u⟩
  · exact .inl (s _ _ t)
  · exact .inr ⟨c, s _ _ t, s _ _ u⟩
theorem SameT.lst {K : PySem.W.Frag} {P : Addr} {pos : Pos} {qual : Str} {H H' : Hp} (a : SameT P H H') (t : TbOk P pos qual H) {b : Addr} {xs : List V} (h : SqL K H b xs) : SqL K H' b xs := by
  rcases h with (h | ⟨o, h⟩) | h
  · exact .inl (.inl (a.get t h fun _ z => nomatch z))
  · exact .inl (.inr ⟨o, a.get t h fun _ z => nomatch z⟩)
  · exact .inr h
section
variable {X : Cx} {pins : List (Addr × Obj)} {σ : St} {H : Hp} {s : Shared} {E : Value → Shared → Prop} {c P : Addr} {pos : Pos} {params : Arguments} {body : Expr} {scope : Scope} {Q : Value → Shared → Prop}
end
end L2
set_option Elab.async false
set_option linter.all false
set_option maxRecDepth 100000
namespace L2
open PySem PySem.Spec PyProof.Rows
end L2
set_option Elab.async false
set_option linter.all false
set_option maxRecDepth 100000
namespace L2
open PySem PySem.Spec PyProof.Rows
end L2
set_option Elab.async false
set_option linter.all false
set_option maxRecDepth 100000
namespace L2
open PySem PySem.Spec PyProof.Rows
theorem call_maxL {X : Cx} (hc : X.calm = true) : CallR X (.builtin "max") (fun xs H Q => ∃ (a : Addr) (ns : List Int), xs = [.ref a] ∧ SqL X.K H a (ns.map V.int) ∧ ns ≠ [] ∧ ∀ M, M ∈ ns → (∀ n ∈ ns, n ≤ M) → Q (.int M) H) := by
  intro pins s σ H xs us Q I r h
  obtain ⟨a, ns, rfl, hS, hne, q⟩ := h
  obtain ⟨u, rfl, ru⟩ := vals1 r
  cases (show u = Value.ref a from ru)
  obtain ⟨its, rv, p, hz⟩ := I.list hS
  have hi := intsAre_of rv
  obtain ⟨zs, e⟩ := (IntsAre.allInts hi).items
  have hl := p.isList
  rw [e] at hl
  have hns : ns = zs.toList.map (·.1) := by
    have n1 := nums_intItems (xs := zs)
    rw [← e, show its.toArray.toList = its from rfl, IntsAre.numsOf hi] at n1
    exact n1
  have hsz : 0 < zs.size := by
    rcases Nat.eq_zero_or_pos zs.size with z | z
    · exfalso
      apply hne
      rw [hns]
      have : zs = #[] := Array.eq_empty_of_size_eq_zero z
      rw [this]
      rfl
    · exact z
  refine max_intList (I.ok.hd hc) hl hsz fun v h' tk hv hk => ?_
  obtain ⟨t, rfl⟩ := intItems_at hv
  obtain ⟨h1, h2⟩ := argBest_gt (numAt zs) (zs.size - 1)
  refine ⟨.int _, H, I.kept hk, ⟨t, rfl⟩, q _ ?_ fun n hn => ?_⟩
  · rw [hns, numAt_eq]; exact getD_mem (by rw [List.length_map, Array.length_toList]; omega)
  · rw [hns] at hn
    obtain ⟨j, hj, rfl⟩ := mem_getD hn
    rw [List.length_map, Array.length_toList] at hj
    rw [← numAt_eq]; exact h2 j (by omega)
end L2
namespace Fr
def dv (t b : Int) : Int := if b < 0 then -(Int.gcd t b : Int) else (Int.gcd t b : Int)
def sh (t b : Int) : Int × Int := (t.fdiv (dv t b), b.fdiv (dv t b))
structure IsFr (t b : Int) : Prop where
  pos : 0 < b
  red : Int.gcd t b = 1
theorem dv_natAbs (t b : Int) : (dv t b).natAbs = Int.gcd t b := by unfold dv; split <;> omega
theorem dv_ne {t b : Int} (hb : b ≠ 0) : dv t b ≠ 0 := by
  have := Int.gcd_pos_of_ne_zero_right t hb
  have e := dv_natAbs t b
  omega
theorem dv_dvd_left (t b : Int) : dv t b ∣ t := by
  have h := Int.gcd_dvd_left t b
  unfold dv
  split
  · exact Int.neg_dvd.mpr h
  · exact h
theorem dv_dvd_right (t b : Int) : dv t b ∣ b := by
  have h := Int.gcd_dvd_right t b
  unfold dv
  split
  · exact Int.neg_dvd.mpr h
  · exact h
theorem sh_fst (t b : Int) : (sh t b).1 * dv t b = t := Int.fdiv_mul_cancel (dv_dvd_left t b)
theorem sh_snd (t b : Int) : (sh t b).2 * dv t b = b := Int.fdiv_mul_cancel (dv_dvd_right t b)
theorem sh_cross (t b : Int) : (sh t b).1 * b = t * (sh t b).2 := by
  have h1 := sh_fst t b
  have h2 := sh_snd t b
  generalize (sh t b).1 = x at *
  generalize (sh t b).2 = y at *
  generalize dv t b = d at *
  rw [← h1, ← h2]
  rw [Int.mul_assoc x d y, Int.mul_comm d y]
theorem sh_pos {t b : Int} (hb : b ≠ 0) : 0 < (sh t b).2 := by
  have h2 := sh_snd t b
  have g := Int.gcd_pos_of_ne_zero_right t hb
  rcases Int.lt_or_gt_of_ne hb with h | h
  · have e : dv t b < 0 := by unfold dv; rw [if_pos h]; omega
    rcases (by omega : 0 < (sh t b).2 ∨ (sh t b).2 ≤ 0) with q | q
    · exact q
    · have := Int.mul_nonneg_of_nonpos_of_nonpos q (Int.le_of_lt e)
      omega
  · have e : 0 < dv t b := by unfold dv; rw [if_neg (by omega)]; omega
    rcases (by omega : 0 < (sh t b).2 ∨ (sh t b).2 ≤ 0) with q | q
    · exact q
    · have := Int.mul_nonpos_of_nonpos_of_nonneg q (Int.le_of_lt e)
      omega
theorem sh_red {t b : Int} (hb : b ≠ 0) : Int.gcd (sh t b).1 (sh t b).2 = 1 := by
  have h := Int.gcd_mul_right (sh t b).1 (dv t b) (sh t b).2
  rw [sh_fst, sh_snd, dv_natAbs] at h
  have g := Int.gcd_pos_of_ne_zero_right t hb
  have : 1 * Int.gcd t b = Int.gcd (sh t b).1 (sh t b).2 * Int.gcd t b := by omega
  exact (Nat.eq_of_mul_eq_mul_right g this).symm
theorem sh_ok {t b : Int} (hb : b ≠ 0) : IsFr (sh t b).1 (sh t b).2 := ⟨sh_pos hb, sh_red hb⟩
theorem le_mul_abs {x d z : Int} (e : x * d = z) (hd : d ≠ 0) : x.natAbs ≤ z.natAbs := by
  rw [← e, Int.natAbs_mul]
  have : 1 ≤ d.natAbs := by omega
  calc x.natAbs = x.natAbs * 1 := by omega
    _ ≤ x.natAbs * d.natAbs := Nat.mul_le_mul_left _ this
theorem sh_le1 {t b : Int} (hb : b ≠ 0) : (sh t b).1.natAbs ≤ t.natAbs := le_mul_abs (sh_fst t b) (dv_ne hb)
theorem sh_le2 {t b : Int} (hb : b ≠ 0) : (sh t b).2.natAbs ≤ b.natAbs := le_mul_abs (sh_snd t b) (dv_ne hb)
theorem cop {a b d : Int} (g : Int.gcd a b = 1) (h : b ∣ a * d) : b ∣ d := by
  have h1 := Int.natAbs_dvd_natAbs.mpr h
  rw [Int.natAbs_mul] at h1
  have h2 : Nat.Coprime b.natAbs a.natAbs := by
    show Nat.gcd b.natAbs a.natAbs = 1
    rw [Nat.gcd_comm]
    exact g
  exact Int.natAbs_dvd_natAbs.mp (h2.dvd_of_dvd_mul_left h1)
theorem unique {a b c d : Int} (p : IsFr a b) (q : IsFr c d) (e : a * d = c * b) : a = c ∧ b = d := by
  have pp := p.pos
  have qp := q.pos
  have h1 : b ∣ d := by
    have : b ∣ a * d := ⟨c, by rw [e, Int.mul_comm]⟩
    exact cop p.red this
  have h2 : d ∣ b := by
    have : d ∣ c * b := ⟨a, by rw [← e, Int.mul_comm]⟩
    exact cop q.red this
  have hbd : b = d := Int.dvd_antisymm (Int.le_of_lt pp) (Int.le_of_lt qp) h1 h2
  subst hbd
  exact ⟨Int.eq_of_mul_eq_mul_right (by omega) e, rfl⟩
end Fr
namespace Tb
structure Rw where
  t : Int
  b : Int
  w : Int
def T (B : Int) (r : Rw) : Int := r.t * (B / r.b)
def mx (x : Int) : Int := if 0 < x then x else 0
def S (B l0 l1 : Int) (rs : List Rw) : Int := (rs.map fun r => r.w * mx (T B r * l1 - l0 * B)).sum
def WT (B : Int) (rs : List Rw) : Int := (rs.map fun r => r.w * T B r).sum
def W (rs : List Rw) : Int := (rs.map (·.w)).sum
structure CM (B : Int) (rs : List Rw) : Prop where
  pos : 0 < B
  dv : ∀ r ∈ rs, 0 < r.b ∧ r.b ∣ B
theorem W_cons (r : Rw) (rs : List Rw) : W (r :: rs) = r.w + W rs := by simp [W]
theorem WT_cons (B : Int) (r : Rw) (rs : List Rw) : WT B (r :: rs) = r.w * T B r + WT B rs := by simp [WT]
theorem cof {B b : Int} (hb : 0 < b) (hB : 0 < B) (h : b ∣ B) : ∃ c, 0 < c ∧ B = b * c ∧ B / b = c := by
  obtain ⟨c, e⟩ := h
  have hc : 0 < c := by
    rcases (by omega : 0 < c ∨ c ≤ 0) with z | z
    · exact z
    · have := Int.mul_nonpos_of_nonneg_of_nonpos (Int.le_of_lt hb) z
      omega
  refine ⟨c, hc, e, ?_⟩
  rw [e, Int.mul_comm, Int.mul_ediv_cancel _ (by omega)]
theorem T_mul {B : Int} {r : Rw} (hb : 0 < r.b) (hB : 0 < B) (h : r.b ∣ B) : T B r * r.b = r.t * B := by
  obtain ⟨c, hc, e, q⟩ := cof hb hB h
  unfold T
  rw [q, e]
  grind
def Le (x y : Rw) : Prop := x.t * y.b ≤ y.t * x.b
theorem T_mono {B : Int} {x y : Rw} (hB : 0 < B) (hx : 0 < x.b) (hy : 0 < y.b) (dx : x.b ∣ B) (dy : y.b ∣ B) (h : Le x y) : T B x ≤ T B y := by
  have e1 := T_mul hx hB dx
  have e2 := T_mul hy hB dy
  have g := Int.mul_le_mul_of_nonneg_left h (Int.le_of_lt hB)
  have k : (x.b * y.b) * T B x ≤ (x.b * y.b) * T B y := by
    have a1 : (x.b * y.b) * T B x = B * (x.t * y.b) := by grind
    have a2 : (x.b * y.b) * T B y = B * (y.t * x.b) := by grind
    rw [a1, a2]
    exact g
  exact Int.le_of_mul_le_mul_left k (Int.mul_pos hx hy)
structure Lp (B P : Int) (rs : List Rw) (i : Nat) (tops ws : Int) : Prop where
  le : i ≤ rs.length
  ew : ws = W (rs.drop (rs.length - i))
  et : tops = WT B (rs.drop (rs.length - i)) - P
  hi : 0 < i → ∀ r ∈ rs.drop (rs.length - i), tops ≤ T B r * ws
  z : P = 0 → i ≤ 1
theorem Lp.start {B P : Int} {rs : List Rw} (e : 0 ≤ P) : Lp B P rs 0 (-P) 0 := by
  refine ⟨Nat.zero_le _, ?_, ?_, fun h => absurd h (by omega), fun _ => by omega⟩
  · simp [W]
  · simp [WT]
structure Tab (B : Int) (rs : List Rw) : Prop where
  cm : CM B rs
  w : ∀ r ∈ rs, 1 ≤ r.w
  so : rs.Pairwise Le
theorem W_pos : ∀ {rs : List Rw}, (∀ r ∈ rs, 1 ≤ r.w) → rs ≠ [] → 0 < W rs
  | [], _, h => absurd rfl h
  | [r], h, _ => by
    have := h r List.mem_cons_self
    simp [W]
    omega
  | r :: s :: rs, h, _ => by
    have := h r List.mem_cons_self
    have q := W_pos (rs := s :: rs) (fun x hx => h x (List.mem_cons_of_mem _ hx)) (by simp)
    rw [W_cons]
    omega
theorem drop_next {rs : List Rw} {i : Nat} (h : i < rs.length) : ∃ r, rs[rs.length - 1 - i]? = some r ∧ rs.drop (rs.length - (i + 1)) = r :: rs.drop (rs.length - i) ∧ r ∈ rs := by
  have hk : rs.length - 1 - i < rs.length := by omega
  refine ⟨rs[rs.length - 1 - i], List.getElem?_eq_getElem hk, ?_, List.getElem_mem hk⟩
  have e1 : rs.length - (i + 1) = rs.length - 1 - i := by omega
  have e2 : rs.length - i = rs.length - 1 - i + 1 := by omega
  rw [e1, e2]
  exact List.drop_eq_getElem_cons hk
theorem Tab.mono {B : Int} {rs : List Rw} (tb : Tab B rs) {x y : Rw} (hx : x ∈ rs) (hy : y ∈ rs) (h : Le x y) : T B x ≤ T B y :=
  T_mono tb.cm.pos (tb.cm.dv x hx).1 (tb.cm.dv y hy).1 (tb.cm.dv x hx).2 (tb.cm.dv y hy).2 h
theorem Lp.ws_pos {B P tops ws : Int} {rs : List Rw} {i : Nat} (tb : Tab B rs) (l : Lp B P rs i tops ws) (h : 0 < i) : 0 < ws := by
  rw [l.ew]
  have := l.le
  refine W_pos (fun r hr => tb.w r (List.mem_of_mem_drop hr)) ?_
  intro e
  have := congrArg List.length e
  simp at this
  omega
theorem Lp.next {B P tops ws : Int} {rs : List Rw} {i : Nat} {r : Rw} (tb : Tab B rs) (hP : 0 ≤ P) (l : Lp B P rs i tops ws) (hi : i < rs.length) (hr : rs[rs.length - 1 - i]? = some r) (go : ¬ (0 < ws ∧ T B r * ws ≤ tops)) :
    Lp B P rs (i + 1) (tops + r.w * T B r) (ws + r.w) := by
  obtain ⟨r', e1, e2, hm⟩ := drop_next hi
  rw [hr] at e1
  cases e1
  have hw := tb.w r hm
  have last : tops ≤ T B r * ws := by
    by_cases h0 : 0 < i
    · have := l.ws_pos tb h0
      omega
    · have z : i = 0 := by omega
      subst z
      have a := l.ew
      have b := l.et
      simp [W] at a
      simp [WT] at b
      rw [a, b]
      omega
  have mine : tops + r.w * T B r ≤ T B r * (ws + r.w) := by
    have : T B r * (ws + r.w) = T B r * ws + r.w * T B r := by grind
    omega
  have wp : 0 < ws + r.w := by
    by_cases h0 : 0 < i
    · have := l.ws_pos tb h0
      omega
    · have z : i = 0 := by omega
      subst z
      have a := l.ew
      simp [W] at a
      omega
  refine ⟨hi, ?_, ?_, fun _ x hx => ?_, fun p0 => ?_⟩
  · rw [e2, W_cons, ← l.ew]; omega
  · rw [e2, WT_cons, l.et]; omega
  · rw [e2] at hx
    rcases List.mem_cons.mp hx with z | z
    · subst z; exact mine
    · have pw : (r :: rs.drop (rs.length - i)).Pairwise Le := by
        rw [← e2]
        exact tb.so.sublist (List.drop_sublist _ _)
      have le := (List.pairwise_cons.mp pw).1 x z
      have tm := tb.mono hm (List.mem_of_mem_drop z) le
      have := Int.mul_le_mul_of_nonneg_right tm (Int.le_of_lt wp)
      omega
  · have k := l.z p0
    rcases (by omega : i = 0 ∨ i = 1) with z | z
    · omega
    · exfalso
      subst z
      apply go
      have wp1 := l.ws_pos tb (by decide)
      refine ⟨wp1, ?_⟩
      obtain ⟨r2, f1, f2, fm⟩ := drop_next (rs := rs) (i := 0) (by omega)
      have f3 : rs.drop (rs.length - 1) = [r2] := by
        have : rs.drop (rs.length - 0) = [] := by simp
        rw [f2, this]
      have a := l.ew
      have b := l.et
      rw [f3] at a b
      simp [W] at a
      simp [WT] at b
      have pw : (r :: rs.drop (rs.length - 1)).Pairwise Le := by
        rw [← e2]
        exact tb.so.sublist (List.drop_sublist _ _)
      have le := (List.pairwise_cons.mp pw).1 r2 (by rw [f3]; exact List.mem_cons_self)
      have tm := tb.mono hm fm le
      have := Int.mul_le_mul_of_nonneg_right tm (Int.le_of_lt wp1)
      rw [b, a] at *
      have e : T B r2 * r2.w = r2.w * T B r2 := Int.mul_comm _ _
      omega
structure Lv (B P l0 l1 : Int) (rs : List Rw) : Prop where
  pos : 0 < l1
  has : S B l0 l1 rs = P * l1
  more : ∀ m0 m1 : Int, m0 * l1 < l0 * m1 → P * m1 < S B m0 m1 rs
theorem Lp.zero {B tops ws : Int} {rs : List Rw} {i : Nat} (tb : Tab B rs) (fr : ∀ r ∈ rs, Fr.IsFr r.t r.b) (l : Lp B 0 rs i tops ws) (h0 : 0 < i) : ∃ r, rs[rs.length - 1]? = some r ∧ (Fr.sh tops (ws * B)) = (r.t, r.b) := by
  have k := l.z rfl
  have z : i = 1 := by omega
  subst z
  have hle := l.le
  obtain ⟨r2, f1, f2, fm⟩ := drop_next (rs := rs) (i := 0) (by omega)
  have f3 : rs.drop (rs.length - 1) = [r2] := by
    have : rs.drop (rs.length - 0) = [] := by simp
    rw [f2, this]
  have a := l.ew
  have b := l.et
  rw [f3] at a b
  simp [W] at a
  simp [WT] at b
  have hw := tb.w r2 fm
  have hB := tb.cm.pos
  have hb := (tb.cm.dv r2 fm).1
  refine ⟨r2, by simpa using f1, ?_⟩
  have ne : ws * B ≠ 0 := Int.ne_of_gt (Int.mul_pos (by omega) hB)
  have cr := Fr.sh_cross tops (ws * B)
  have tm := T_mul hb hB (tb.cm.dv r2 fm).2
  have ok := Fr.sh_ok (t := tops) ne
  have q : (Fr.sh tops (ws * B)).1 * r2.b = r2.t * (Fr.sh tops (ws * B)).2 := by
    generalize (Fr.sh tops (ws * B)).1 = x at *
    generalize (Fr.sh tops (ws * B)).2 = y at *
    rw [a, b] at cr
    have : (r2.w * B) * (x * r2.b) = (r2.w * B) * (r2.t * y) := by grind
    exact Int.eq_of_mul_eq_mul_left (Int.ne_of_gt (Int.mul_pos (by omega) hB)) this
  obtain ⟨u1, u2⟩ := Fr.unique ok (fr r2 fm) q
  exact Prod.ext u1 u2
end Tb
namespace Tb
def Wt (ps : List Rw) (t b : Int) : Int := (ps.map fun r => if r.t = t ∧ r.b = b then r.w else 0).sum
def Has (ps : List Rw) (t b : Int) : Prop := ∃ p ∈ ps, p.t = t ∧ p.b = b
def Lt (x y : Rw) : Prop := x.t * y.b < y.t * x.b
structure IsTab (ps ys : List Rw) : Prop where
  lt : ys.Pairwise Lt
  fr : ∀ y ∈ ys, Fr.IsFr y.t y.b
  has : ∀ t b, Has ys t b ↔ Has ps t b
  d : ∃ d, 0 < d ∧ ∀ y ∈ ys, Wt ps y.t y.b = y.w * d
  one : ∀ e : Int, (∀ y ∈ ys, e ∣ y.w) → e ∣ 1
theorem Wt_cons (r : Rw) (ps : List Rw) (t b : Int) : Wt (r :: ps) t b = (if r.t = t ∧ r.b = b then r.w else 0) + Wt ps t b := by simp [Wt]
theorem Has_cons {r : Rw} {ps : List Rw} {t b : Int} : Has (r :: ps) t b ↔ (r.t = t ∧ r.b = b) ∨ Has ps t b := by
  constructor
  · rintro ⟨p, hp, e⟩
    rcases List.mem_cons.mp hp with z | z
    · subst z; exact .inl e
    · exact .inr ⟨p, z, e⟩
  · rintro (e | ⟨p, hp, e⟩)
    · exact ⟨r, List.mem_cons_self, e⟩
    · exact ⟨p, List.mem_cons_of_mem _ hp, e⟩
theorem Has_nil {t b : Int} : ¬ Has [] t b := by rintro ⟨p, hp, _⟩; cases hp
theorem Wt_zero : ∀ {ps : List Rw} {t b : Int}, ¬ Has ps t b → Wt ps t b = 0
  | [], _, _, _ => rfl
  | r :: ps, t, b, h => by
    rw [Wt_cons, if_neg fun e => h (Has_cons.mpr (.inl e)), Wt_zero fun e => h (Has_cons.mpr (.inr e))]
    rfl
end Tb
set_option Elab.async false
set_option linter.all false
set_option maxRecDepth 100000
set_option maxHeartbeats 4000000
namespace TD
open PySem L2
open Builtin.Int (intBits)
structure Row where
  p : Addr
  q : Addr
  t : Int
  b : Int
  w : Int
def Row.r (x : Row) : Tb.Rw := ⟨x.t, x.b, x.w⟩
def RowAt (H : Hp) (x : Row) : Prop := H x.p = some (.tup [.ref x.q, .int x.w]) ∧ H x.q = some (.tup [.int x.t, .int x.b])
def refs (xs : List Row) : List V := xs.map fun x => V.ref x.p
structure TabAt (H : Hp) (a : Addr) (xs : List Row) : Prop where
  lst : H a = some (.lst (refs xs))
  rows : ∀ x ∈ xs, RowAt H x
def rws (xs : List Row) : List Tb.Rw := xs.map Row.r
theorem RowAt.same {H H' : Hp} {x : Row} (s : Same H H') (h : RowAt H x) : RowAt H' x := ⟨s _ _ h.1, s _ _ h.2⟩
theorem TabAt.same {H H' : Hp} {a : Addr} {xs : List Row} (s : Same H H') (h : TabAt H a xs) : TabAt H' a xs := ⟨s _ _ h.lst, fun x hx => (h.rows x hx).same s⟩
theorem take_snoc {α : Type} {xs : List α} {i : Nat} {x : α} (h : xs[i]? = some x) : xs.take (i + 1) = xs.take i ++ [x] := by
  rw [List.take_add_one, h]
  rfl
theorem RowAt.over {H : Hp} {a : Addr} {xs zs : List V} {x : Row} (h : RowAt H x) (e : H a = some (.lst xs)) : RowAt (upd H a (.lst zs)) x :=
  ⟨by rw [upd_ne (ne_of h.1 e fun z => nomatch z)]; exact h.1, by rw [upd_ne (ne_of h.2 e fun z => nomatch z)]; exact h.2⟩
theorem sz2 : 2 ≤ sizeLine := Nat.le_of_lt (small1000 (by decide))
theorem sz3 : 3 ≤ sizeLine := Nat.le_of_lt (small1000 (by decide))
theorem mulOk {m n : Nat} {x y : Int} (hx : intBits x ≤ m) (hy : intBits y ≤ n) (h : m + n ≤ 134217728) : CMulB x y := Nat.le_trans (Nat.add_le_add hx hy) h
theorem kit_same {K : PySem.W.Frag} (T : String) : PySem.W.kitOne K (.type T) (.type T) = some true := by
  unfold PySem.W.kitOne
  rw [if_pos (beq_self_eq_true _)]
theorem kit_int_bool {K : PySem.W.Frag} : PySem.W.kitOne K (.type "int") (.type "bool") = some false := by rfl
theorem of_ifT {A B : Prop} (h : if true = true then A else B) : A := by simpa using h
theorem of_ifF {A B : Prop} (h : if false = true then A else B) : B := by simpa using h
structure Rs where
  q : Addr
  t : Int
  b : Int
def rrefs (rs : List Rs) : List V := rs.map fun r => V.ref r.q
def RsAt (H : Hp) (r : Rs) : Prop := H r.q = some (.tup [.int r.t, .int r.b])
structure Dk (ps : List Tb.Rw) (kvs : List (List Key × V)) : Prop where
  nd : (kvs.map (·.1)).Nodup
  en : ∀ kv ∈ kvs, ∃ t b, kv = ([.inl t, .inl b], .int (Tb.Wt ps t b)) ∧ Tb.Has ps t b
  all : ∀ t b, Tb.Has ps t b → ([Sum.inl t, Sum.inl b] : List Key) ∈ kvs.map (·.1)
theorem Dk.nil : Dk [] [] := ⟨List.nodup_nil, (fun _ h => nomatch h), fun t b h => absurd h Tb.Has_nil⟩
theorem valV_mem {kvs : List (List Key × V)} {k : List Key} {v : V} (h : valV kvs k = some v) : (k, v) ∈ kvs := by
  unfold valV at h
  cases e : kvs.find? fun kv => decide (kv.1 = k) with
  | none => rw [e] at h; cases h
  | some kv =>
    rw [e] at h
    have h1 : kv.2 = v := Option.some.inj h
    have h2 := List.find?_some e
    have h3 : kv.1 = k := of_decide_eq_true h2
    rw [← h1, ← h3]
    exact List.mem_of_find?_eq_some e
theorem key_inj {t b t' b' : Int} (h : ([Sum.inl t, Sum.inl b] : List Key) = [.inl t', .inl b']) : t = t' ∧ b = b' := by
  injection h with h1 h2
  injection h2 with h2 _
  injection h1 with h1
  injection h2 with h2
  exact ⟨h1, h2⟩
theorem Dk.val {ps : List Tb.Rw} {kvs : List (List Key × V)} (d : Dk ps kvs) {t b : Int} (h : Tb.Has ps t b) : valV kvs [.inl t, .inl b] = some (.int (Tb.Wt ps t b)) := by
  cases e : valV kvs [.inl t, .inl b] with
  | none => exact absurd (d.all t b h) (valV_not e)
  | some v =>
    obtain ⟨t', b', e2, _⟩ := d.en _ (valV_mem e)
    injection e2 with e3 e4
    obtain ⟨rfl, rfl⟩ := key_inj e3
    rw [e4]
theorem Dk.get {ps : List Tb.Rw} {kvs : List (List Key × V)} (d : Dk ps kvs) (t b : Int) : (valV kvs [.inl t, .inl b]).getD (.int 0) = .int (Tb.Wt ps t b) := by
  by_cases h : Tb.Has ps t b
  · rw [d.val h]; rfl
  · cases e : valV kvs [.inl t, .inl b] with
    | none => rw [Tb.Wt_zero h]; rfl
    | some v =>
      obtain ⟨t', b', e2, h2⟩ := d.en _ (valV_mem e)
      injection e2 with e3 e4
      obtain ⟨rfl, rfl⟩ := key_inj e3
      exact absurd h2 h
theorem Dk.ne {ps : List Tb.Rw} {kvs : List (List Key × V)} (d : Dk ps kvs) (h : ps ≠ []) : kvs ≠ [] := by
  cases ps with
  | nil => exact absurd rfl h
  | cons p ps =>
    intro e
    have := d.all p.t p.b (Tb.Has_cons.mpr (.inl ⟨rfl, rfl⟩))
    rw [e] at this
    cases this
end TD
set_option Elab.async false
set_option linter.all false
set_option maxRecDepth 100000
set_option maxHeartbeats 4000000
namespace L2
open PySem PySem.Spec PyProof.Rows
end L2
namespace TD
open PySem L2
open Builtin.Int (intBits)
def lcmStep (m n : Int) : Int := m * (n.fdiv ((Int.gcd m n : Nat) : Int))
def lcmL (ns : List Int) : Int := ns.foldl lcmStep 1
theorem lcmStep_ok {m n : Int} (hm : 0 < m) (hn : 0 < n) : 0 < lcmStep m n ∧ m ∣ lcmStep m n ∧ n ∣ lcmStep m n := by
  have hg : 0 < ((Int.gcd m n : Nat) : Int) := by have := Int.gcd_pos_of_ne_zero_right m (Int.ne_of_gt hn); omega
  obtain ⟨c, hc⟩ := Int.gcd_dvd_right m n
  obtain ⟨d, hd⟩ := Int.gcd_dvd_left m n
  have e : n.fdiv ((Int.gcd m n : Nat) : Int) = c := by
    have h := Int.mul_fdiv_cancel_left (a := ((Int.gcd m n : Nat) : Int)) c (by omega)
    rw [← hc] at h
    exact h
  have cp : 0 < c := by
    rcases (by omega : 0 < c ∨ c ≤ 0) with z | z
    · exact z
    · have := Int.mul_nonpos_of_nonneg_of_nonpos (Int.le_of_lt hg) z
      omega
  unfold lcmStep
  rw [e]
  refine ⟨Int.mul_pos hm cp, ⟨c, rfl⟩, ⟨d, ?_⟩⟩
  generalize ((Int.gcd m n : Nat) : Int) = g at *
  rw [hc, hd]
  grind
theorem lcm_fold : ∀ (ns : List Int) (m : Int), 0 < m → (∀ n ∈ ns, 0 < n) → 0 < ns.foldl lcmStep m ∧ m ∣ ns.foldl lcmStep m ∧ ∀ n ∈ ns, n ∣ ns.foldl lcmStep m
  | [], m, hm, _ => ⟨hm, Int.dvd_refl m, fun _ h => nomatch h⟩
  | n :: ns, m, hm, h => by
    obtain ⟨a, b, c⟩ := lcmStep_ok hm (h n List.mem_cons_self)
    obtain ⟨x, y, z⟩ := lcm_fold ns (lcmStep m n) a fun k hk => h k (List.mem_cons_of_mem _ hk)
    refine ⟨x, Int.dvd_trans b y, fun k hk => ?_⟩
    rcases List.mem_cons.mp hk with e | e
    · subst e; exact Int.dvd_trans c y
    · exact z k e
theorem lcmL_ok {ns : List Int} (h : ∀ n ∈ ns, 0 < n) : 0 < lcmL ns ∧ ∀ n ∈ ns, n ∣ lcmL ns := by
  obtain ⟨a, _, c⟩ := lcm_fold ns 1 (by decide) h
  exact ⟨a, c⟩
structure Sz (a b c d : Int) : Prop where
  a : intBits a ≤ 10000
  b : intBits b ≤ 10000
  c : intBits c ≤ 10000
  d : intBits d ≤ 10000
def spBelow (K : PySem.W.Frag) : Sp := fun vs H Q _ => ∃ p q a b c d, vs = [.ref p, .ref q] ∧ SqT K H p [.int a, .int b] ∧ SqT K H q [.int c, .int d] ∧ Sz a b c d ∧ Q (.bl (decide (a * d < c * b))) H
def m300 : Int := 2 ^ 300
def PB (xs : List Row) : Prop := ∀ x ∈ xs, Fr.IsFr x.t x.b ∧ intBits x.t ≤ 300 ∧ intBits x.b ≤ 300 ∧ 1 ≤ x.w ∧ x.w ≤ m300
structure Out (ps : List Tb.Rw) (ys : List Row) : Prop where
  tab : Tb.IsTab ps (rws ys)
  w : ∀ y ∈ ys, 1 ≤ y.w ∧ y.w ≤ Tb.Wt ps y.t y.b
theorem PB.ps {xs : List Row} (h : PB xs) : (∀ p ∈ rws xs, 1 ≤ p.w) ∧ ∀ p ∈ rws xs, Fr.IsFr p.t p.b := by
  refine ⟨fun p hp => ?_, fun p hp => ?_⟩ <;>
  · obtain ⟨x, hx, rfl⟩ := List.mem_map.mp hp
    first | exact (h x hx).2.2.2.1 | exact (h x hx).1
theorem W_le {m : Int} (hm : 0 ≤ m) : ∀ {ps : List Tb.Rw}, (∀ p ∈ ps, 1 ≤ p.w ∧ p.w ≤ m) → 0 ≤ Tb.W ps ∧ Tb.W ps ≤ m * (ps.length : Int)
  | [], _ => by simp [Tb.W]
  | p :: ps, h => by
    obtain ⟨a, b⟩ := W_le hm (ps := ps) fun y hy => h y (List.mem_cons_of_mem _ hy)
    obtain ⟨c, d⟩ := h p List.mem_cons_self
    have f : m * ((p :: ps).length : Int) = m + m * (ps.length : Int) := by rw [List.length_cons]; grind
    rw [Tb.W_cons]
    omega
theorem Out.key {ps : List Tb.Rw} {ys : List Row} (o : Out ps ys) {y : Row} (hy : y ∈ ys) : ∃ p ∈ ps, p.t = y.t ∧ p.b = y.b := (o.tab.has y.t y.b).mp ⟨y.r, List.mem_map.mpr ⟨y, hy, rfl⟩, rfl, rfl⟩
theorem Out.ne {ps : List Tb.Rw} {ys : List Row} (o : Out ps ys) (h : ps ≠ []) : ys ≠ [] := by
  rintro rfl
  cases ps with
  | nil => exact h rfl
  | cons p ps => exact Tb.Has_nil ((o.tab.has p.t p.b).mpr (Tb.Has_cons.mpr (.inl ⟨rfl, rfl⟩)))
end TD
set_option Elab.async false
set_option linter.all false
set_option maxRecDepth 100000
namespace L2
open PySem PySem.Spec PyProof.Rows
section
variable {X : Cx}
end
end L2
set_option Elab.async false
set_option linter.all false
set_option maxRecDepth 100000
namespace L2
open PySem PySem.Spec PyProof.Rows
section
variable {X : Cx} {tg : Expr}
end
end L2
set_option Elab.async false
set_option linter.all false
set_option maxRecDepth 100000
namespace PySem
namespace F
end F
end PySem
namespace L2
open PySem PySem.Spec PyProof.Rows
section
variable {X : Cx}
end
end L2
namespace Rk
abbrev Fc := Int × Int
def hd (l : List Fc) : Fc := match l with | [] => (0, 1) | p :: _ => p
def tk (many place : Int) (p : Fc) : Fc := if p.1 * many > place * p.2 then p else (place, many)
def onStep (many place : Int) (p : Fc) : Fc := Fr.sh ((tk many place p).1 * p.2 + (place - 1) * p.1 * (tk many place p).2) (place * (tk many place p).2 * p.2)
def onR (many : Int) : Nat → List Fc
  | 0 => [(0, 1)]
  | i + 1 => onStep many (many - i) (hd (onR many i)) :: onR many i
def goodP (p : Fc) : Bool := decide (0 < p.2) && decide (p.1.natAbs < 2 ^ 1000) && decide (p.2.natAbs < 2 ^ 1000)
def turns (f : Nat → Fc → Fc) : Nat → List Fc
  | 0 => [(0, 1)]
  | i + 1 => (fun l => f i (hd l) :: l) (turns f i)
theorem onR_turns (many : Int) : ∀ n, onR many n = turns (fun i p => onStep many (many - i) p) n
  | 0 => rfl
  | n + 1 => by
    show onStep many (many - n) (hd (onR many n)) :: onR many n = onStep many (many - n) (hd (turns _ n)) :: turns _ n
    rw [onR_turns many n]
def pl (x y : Fc) : Fc := Fr.sh (x.1 * y.2 + y.1 * x.2) (x.2 * y.2)
def mi (x y : Fc) : Fc := Fr.sh (x.1 * y.2 - y.1 * x.2) (x.2 * y.2)
def ti (x y : Fc) : Fc := Fr.sh (x.1 * y.1) (x.2 * y.2)
def ov (x y : Fc) : Fc := Fr.sh (x.1 * y.2) (x.2 * y.1)
def lt (x y : Fc) : Bool := decide (x.1 * y.2 < y.1 * x.2)
def gr (x y : Fc) : Fc := if lt x y then y else x
def rwStep (many place : Int) (p : Fc) : Fc := pl (ov (gr (Fr.sh place many) p) (place, 1)) (ti p (Fr.sh (place - 1) place))
def fbT (gone : Int) : Nat → List Fc := turns fun i p => pl p (Fr.sh 1 (gone + i))
def fb (many gone : Int) : Fc := if gone = 0 then Fr.sh 1 many else ti (Fr.sh gone many) (hd (fbT gone (many - gone).toNat))
def bgF (many : Int) : Nat → Int × Fc
  | 0 => (0, fb many 0)
  | i + 1 => (fun r f => if lt r.2 f then (1 + (i : Int), f) else r) (bgF many i) (fb many (1 + i))
def chk (m : Nat) : Bool := (fun l => l.all goodP && decide (turns (fun i p => rwStep ((m : Int) + 1) ((m : Int) + 1 - i) p) (m + 1) = l) && (fun r => decide (0 ≤ r.1) && decide (r.1 < (m : Int) + 1) && decide (fb ((m : Int) + 1) r.1 = hd l) && goodP r.2) (bgF ((m : Int) + 1) m)) (turns (fun i p => onStep ((m : Int) + 1) ((m : Int) + 1 - i) p) (m + 1))
theorem chk_all : ∀ m : Fin 60, chk m.val = true := by decide +kernel
structure Gd (p : Fc) : Prop where
  pos : 0 < p.2
  t : p.1.natAbs < 2 ^ 1000
  b : p.2.natAbs < 2 ^ 1000
theorem Gd.of {p : Fc} (h : goodP p = true) : Gd p := by
  unfold goodP at h
  simp only [Bool.and_eq_true, decide_eq_true_eq] at h
  exact ⟨h.1.1, h.1.2, h.2⟩
structure Ck (m : Int) : Prop where
  good : ∀ p ∈ onR m m.toNat, Gd p
  rw : turns (fun i p => rwStep m (m - i) p) m.toNat = onR m m.toNat
  g0 : 0 ≤ (bgF m (m.toNat - 1)).1
  g1 : (bgF m (m.toNat - 1)).1 < m
  best : fb m (bgF m (m.toNat - 1)).1 = hd (onR m m.toNat)
theorem Ck.of {m : Int} (h1 : 1 ≤ m) (h2 : m ≤ 60) : Ck m := by
  obtain ⟨k, hk⟩ : ∃ k : Nat, m = (k : Int) + 1 := ⟨(m - 1).toNat, by omega⟩
  have c := chk_all ⟨k, by omega⟩
  have c : chk k = true := c
  have e1 : m.toNat = k + 1 := by omega
  unfold chk at c
  rw [← hk, ← e1, ← onR_turns] at c
  simp only [Bool.and_eq_true, List.all_eq_true, decide_eq_true_eq] at c
  have e2 : m.toNat - 1 = k := by omega
  refine ⟨fun p hp => Gd.of (c.1.1 p hp), c.1.2, ?_, ?_, ?_⟩
  · rw [e2]; exact c.2.1.1.1
  · rw [e2]; exact c.2.1.1.2
  · rw [e2]; exact c.2.1.2
end Rk
set_option Elab.async false
set_option linter.all false
set_option maxRecDepth 100000
set_option maxHeartbeats 4000000
namespace TD
open PySem L2
open Builtin.Int (intBits)
def vals (rs : List Rs) : List Rk.Fc := rs.map fun r => (r.t, r.b)
structure FrsAt (H : Hp) (a : Addr) (rs : List Rs) : Prop where
  lst : H a = some (.lst (rrefs rs))
  at_ : ∀ r ∈ rs, RsAt H r
theorem FrsAt.same {H H' : Hp} {a : Addr} {rs : List Rs} (s : Same H H') (h : FrsAt H a rs) : FrsAt H' a rs := ⟨s _ _ h.lst, fun r hr => s _ _ (h.at_ r hr)⟩
theorem rrefs_snoc (xs : List Rs) (y : Rs) : rrefs (xs ++ [y]) = rrefs xs ++ [V.ref y.q] := by unfold rrefs; rw [List.map_append]; rfl
theorem FrsAt.push {H : Hp} {D : Addr} {rs : List Rs} {r : Rs} (h : FrsAt H D rs) (hr : RsAt H r) : FrsAt (upd H D (.lst (rrefs rs ++ [.ref r.q]))) D (rs ++ [r]) := by
  have one : ∀ x : Rs, RsAt H x → RsAt (upd H D (.lst (rrefs rs ++ [.ref r.q]))) x := fun x hx => by
    unfold RsAt at hx ⊢
    rw [upd_ne (ne_of hx h.lst fun z => nomatch z)]
    exact hx
  refine ⟨by rw [upd_same, rrefs_snoc], fun x hx => ?_⟩
  rcases List.mem_append.mp hx with z | z
  · exact one x (h.at_ x z)
  · rw [List.mem_singleton.mp z]; exact one r hr
def FcAt (H : Hp) (p : Addr) (f : Rk.Fc) : Prop := H p = some (.tup [.int f.1, .int f.2])
structure SzS (a b c d : Int) : Prop where
  a : intBits a ≤ 4400
  b : intBits b ≤ 4400
  c : intBits c ≤ 4400
  d : intBits d ≤ 4400
def spWh : Sp := fun vs H Q _ => ∃ i : Int, vs = [.int i] ∧ ∀ p H', Same H H' → FcAt H' p (i, 1) → Q (.ref p) H'
def spIsW : Sp := fun vs H Q _ => ∃ i lo hi : Int, vs = [.int i, .int lo, .int hi] ∧ lo ≤ i ∧ i ≤ hi ∧ Q (.bl true) H
end TD
namespace Rk
def v (p : Fc) : Rat := (p.1 : Rat) / (p.2 : Rat)
theorem cast_ne {b : Int} (h : b ≠ 0) : (b : Rat) ≠ 0 := by exact_mod_cast h
theorem div_eq {a b c d : Int} (hb : b ≠ 0) (hd : d ≠ 0) : (a : Rat) / b = (c : Rat) / d ↔ a * d = c * b := by
  have hb' := cast_ne hb
  have hd' := cast_ne hd
  constructor
  · intro h
    have h' : (a : Rat) * d = c * b := by grind
    exact_mod_cast h'
  · intro h
    have h' : (a : Rat) * d = c * b := by exact_mod_cast h
    grind
theorem v_sh {t b : Int} (hb : b ≠ 0) : v (Fr.sh t b) = (t : Rat) / b :=
  (div_eq (Int.ne_of_gt (Fr.sh_pos hb)) hb).mpr (Fr.sh_cross t b)
theorem v_inj {p q : Fc} (hp : Fr.IsFr p.1 p.2) (hq : Fr.IsFr q.1 q.2) (e : v p = v q) : p = q := by
  obtain ⟨a, b⟩ := Fr.unique hp hq ((div_eq (Int.ne_of_gt hp.pos) (Int.ne_of_gt hq.pos)).mp e)
  exact Prod.ext a b
theorem v_int (i : Int) : v (i, 1) = (i : Rat) := by
  unfold v
  have : ((1 : Int) : Rat) = 1 := by norm_cast
  grind
theorem v_pl {x y : Fc} (hx : x.2 ≠ 0) (hy : y.2 ≠ 0) : v (pl x y) = v x + v y := by
  have hx' := cast_ne hx
  have hy' := cast_ne hy
  unfold pl
  rw [v_sh (Int.mul_ne_zero hx hy)]
  unfold v
  push_cast
  grind
theorem v_mi {x y : Fc} (hx : x.2 ≠ 0) (hy : y.2 ≠ 0) : v (mi x y) = v x - v y := by
  have hx' := cast_ne hx
  have hy' := cast_ne hy
  unfold mi
  rw [v_sh (Int.mul_ne_zero hx hy)]
  unfold v
  push_cast
  grind
theorem v_ti {x y : Fc} (hx : x.2 ≠ 0) (hy : y.2 ≠ 0) : v (ti x y) = v x * v y := by
  have hx' := cast_ne hx
  have hy' := cast_ne hy
  unfold ti
  rw [v_sh (Int.mul_ne_zero hx hy)]
  unfold v
  push_cast
  grind
end Rk
set_option Elab.async false
set_option linter.all false
set_option maxRecDepth 100000
set_option maxHeartbeats 4000000
namespace TD
open PySem L2
open Builtin.Int (intBits)
theorem gyes {i : Nat} {v : V} {τ : St} {H : Hp} {A B : St → Hp → Prop} (h : A (τ.set i (some v)) H) : gName i v τ H (fun τ2 H2 => tYes τ2 H2 (fun b H3 => if b = true then A τ2 H3 else B τ2 H3)) := tyes_if (τ := τ.set i (some v)) (A := A (τ.set i (some v))) (B := B (τ.set i (some v))) h
theorem div_rat {m b : Int} (hb : 0 < b) (h : b ∣ m) : ((m.fdiv b : Int) : Rat) = (m : Rat) / (b : Rat) := by
  obtain ⟨c, rfl⟩ := h
  rw [Int.mul_fdiv_cancel_left c (Int.ne_of_gt hb)]
  have hb' := Rk.cast_ne (Int.ne_of_gt hb)
  push_cast
  grind
structure TotB (rs : List Rs) : Prop where
  len : rs.length ≤ 1000
  b : ∀ r ∈ rs, 0 < r.b
  t : ∀ r ∈ rs, intBits r.t ≤ 2500
  z : ((rs.map Rs.b).map intBits).sum ≤ 4200
end TD
set_option Elab.async false
set_option linter.all false
set_option maxRecDepth 100000
set_option maxHeartbeats 4000000
namespace Lg
open Rk TD
open PySem.Builtin.Int (intBits)
structure Ld where
  pt : Int
  pb : Int
  h : Int
  lt : Int
  lb : Int
  mt : Int
  mb : Int
structure Gd (d : Ld) : Prop where
  p : 0 < d.pb
  l : 0 < d.lb
  m : 0 < d.mb
  p1 : intBits d.pt ≤ 64
  p2 : intBits d.pb ≤ 40
  h1 : intBits d.h ≤ 64
  l1 : intBits d.lt ≤ 64
  l2 : intBits d.lb ≤ 40
  m1 : intBits d.mt ≤ 64
  m2 : intBits d.mb ≤ 40
theorem sh_bits {t b : Int} {x y : Nat} (hb : b ≠ 0) (h1 : intBits t ≤ x) (h2 : intBits b ≤ y) : intBits (Fr.sh t b).1 ≤ x ∧ intBits (Fr.sh t b).2 ≤ y :=
  ⟨PySem.intBits_le_of_natAbs (Fr.sh_le1 hb) h1, PySem.intBits_le_of_natAbs (Fr.sh_le2 hb) h2⟩
structure Fb (f : Fc) (x y : Nat) : Prop where
  pos : 0 < f.2
  t : intBits f.1 ≤ x
  b : intBits f.2 ≤ y
theorem Fb.le {f : Fc} {x y x' y' : Nat} (h : Fb f x y) (h1 : x ≤ x') (h2 : y ≤ y') : Fb f x' y' := ⟨h.pos, Nat.le_trans h.t h1, Nat.le_trans h.b h2⟩
theorem Fb.pl {f g : Fc} {x y z w n : Nat} (h : Fb f x y) (k : Fb g z w) (h1 : x + w + 1 ≤ n) (h2 : z + y + 1 ≤ n) : Fb (pl f g) n (y + w) := by
  have hb : f.2 * g.2 ≠ 0 := Int.ne_of_gt (Int.mul_pos h.pos k.pos)
  have z1 := PySem.intBits_add_le (PySem.intBits_mul_le h.t k.b) (PySem.intBits_mul_le k.t h.b)
  have z2 := sh_bits hb (Nat.le_trans z1 (show max (x + w) (z + y) + 1 ≤ n by omega)) (PySem.intBits_mul_le h.b k.b)
  exact ⟨Fr.sh_pos hb, z2.1, z2.2⟩
theorem Fb.ti {f g : Fc} {x y z w : Nat} (h : Fb f x y) (k : Fb g z w) : Fb (ti f g) (x + z) (y + w) := by
  have hb : f.2 * g.2 ≠ 0 := Int.ne_of_gt (Int.mul_pos h.pos k.pos)
  have z2 := sh_bits hb (PySem.intBits_mul_le h.t k.t) (PySem.intBits_mul_le h.b k.b)
  exact ⟨Fr.sh_pos hb, z2.1, z2.2⟩
theorem Gd.fp {d : Ld} (g : Gd d) : Fb (d.pt, d.pb) 64 40 := ⟨g.p, g.p1, g.p2⟩
theorem Gd.fl {d : Ld} (g : Gd d) : Fb (d.lt, d.lb) 64 40 := ⟨g.l, g.l1, g.l2⟩
theorem Gd.fm {d : Ld} (g : Gd d) : Fb (d.mt, d.mb) 64 40 := ⟨g.m, g.m1, g.m2⟩
theorem v0 : v (0, 1) = 0 := by rw [v_int]; rfl
theorem v1 : v (1, 1) = 1 := by rw [v_int]; rfl
end Lg
set_option Elab.async false
set_option linter.all false
set_option maxRecDepth 100000
set_option maxHeartbeats 4000000
namespace Of
open Rk TD
open PySem.Builtin.Int (intBits)
abbrev Tab := List (Int × Int)
structure GT (T : Tab) : Prop where
  ne : T ≠ []
  len : T.length ≤ 8
  v : ∀ r ∈ T, 0 ≤ r.1 ∧ r.1 ≤ 1000000000
  w : ∀ r ∈ T, 1 ≤ r.2 ∧ r.2 ≤ 8000
def W (T : Tab) : Int := (T.map (·.2)).sum
def onTop (T : Tab) (f : Fc) : Int := (T.map fun r => r.2 * (if f.1 > r.1 * f.2 then f.1 else r.1 * f.2)).sum
def onStep (T : Tab) (f : Fc) : Fc := Fr.sh (onTop T f) (W T * f.2)
def lcmR (rs : List (Fc × Int)) : Int := lcmL (rs.map fun r => r.1.2)
def byF (rs : List (Fc × Int)) (w : Int) : Fc := Fr.sh ((rs.map fun r => r.2 * r.1.1 * (lcmR rs).fdiv r.1.2).sum) (lcmR rs * w)
theorem W_pos {T : Tab} (h : ∀ r ∈ T, 1 ≤ r.2) : (T.length : Int) ≤ W T := by
  unfold W
  induction T with
  | nil => simp
  | cons r T ih =>
    have a := ih fun x hx => h x (List.mem_cons_of_mem _ hx)
    have b := h r List.mem_cons_self
    simp only [List.map_cons, List.sum_cons, List.length_cons]
    omega
theorem W_le {T : Tab} (h : ∀ r ∈ T, r.2 ≤ 8000) : W T ≤ 8000 * (T.length : Int) := by
  unfold W
  induction T with
  | nil => simp
  | cons r T ih =>
    have a := ih fun x hx => h x (List.mem_cons_of_mem _ hx)
    have b := h r List.mem_cons_self
    simp only [List.map_cons, List.sum_cons, List.length_cons]
    omega
theorem GT.W1 {T : Tab} (g : GT T) : 1 ≤ W T ∧ W T ≤ 64000 := by
  have a := W_pos fun r hr => (g.w r hr).1
  have b := W_le fun r hr => (g.w r hr).2
  have c := g.len
  have d : 0 < T.length := List.length_pos_iff.mpr g.ne
  omega
theorem by_sum {m : Int} (hm : 0 < m) : ∀ rs : List (Fc × Int), (∀ r ∈ rs, 0 < r.1.2 ∧ r.1.2 ∣ m) → (((rs.map fun r => r.2 * r.1.1 * m.fdiv r.1.2).sum : Int) : Rat) / (m : Rat) = (rs.map fun r => (r.2 : Rat) * v r.1).sum
  | [], _ => by simp; grind
  | r :: rs, h => by
    have ih := by_sum hm rs fun g hg => h g (List.mem_cons_of_mem _ hg)
    obtain ⟨a, b⟩ := h r List.mem_cons_self
    simp only [List.map_cons, List.sum_cons]
    rw [← ih]
    have hm' := cast_ne (Int.ne_of_gt hm)
    have hf' := cast_ne (Int.ne_of_gt a)
    unfold v
    push_cast
    rw [div_rat a b]
    grind
theorem lcmR_ok {rs : List (Fc × Int)} (h : ∀ r ∈ rs, 0 < r.1.2) : 0 < lcmR rs ∧ ∀ r ∈ rs, r.1.2 ∣ lcmR rs := by
  obtain ⟨a, b⟩ := lcmL_ok (ns := rs.map fun r => r.1.2) fun n hn => by
    obtain ⟨f, hf, rfl⟩ := List.mem_map.mp hn
    exact h f hf
  exact ⟨a, fun f hf => b _ (List.mem_map.mpr ⟨f, hf, rfl⟩)⟩
theorem v_byF {rs : List (Fc × Int)} {w : Int} (h : ∀ r ∈ rs, 0 < r.1.2) (hw : 0 < w) : v (byF rs w) = (rs.map fun r => (r.2 : Rat) * v r.1).sum / (w : Rat) := by
  obtain ⟨a, b⟩ := lcmR_ok h
  unfold byF
  rw [v_sh (Int.ne_of_gt (Int.mul_pos a hw)), ← by_sum a rs fun r hr => ⟨h r hr, b r hr⟩]
  have ha' := cast_ne (Int.ne_of_gt a)
  have hw' := cast_ne (Int.ne_of_gt hw)
  push_cast
  grind
theorem byF_fr {rs : List (Fc × Int)} {w : Int} (h : ∀ r ∈ rs, 0 < r.1.2) (hw : 0 < w) : Fr.IsFr (byF rs w).1 (byF rs w).2 := Fr.sh_ok (Int.ne_of_gt (Int.mul_pos (lcmR_ok h).1 hw))
def takenOf (T : Tab) (R : List Bool) : List (Fc × Int) := ((T.zip R).filter (·.2)).map fun x => ((x.1.1, 1), x.1.2)
def had (T : Tab) (R : List Bool) : Int := (((T.zip R).filter (·.2)).map fun x => x.1.1 * x.1.2).sum
def wYes (T : Tab) (R : List Bool) : Int := (((T.zip R).filter (·.2)).map fun x => x.1.2).sum
def wNo (T : Tab) (R : List Bool) : Int := (((T.zip R).filter (fun x => !x.2)).map fun x => x.1.2).sum
theorem yes_no : ∀ (T : Tab) (R : List Bool), T.length = R.length → wYes T R + wNo T R = W T
  | [], [], _ => rfl
  | [], _ :: _, h => by simp at h
  | _ :: _, [], h => by simp at h
  | r :: T, b :: R, h => by
    have ih := yes_no T R (by simpa using h)
    unfold wYes wNo W at ih ⊢
    cases b <;> simp only [List.zip_cons_cons, List.filter_cons, Bool.not_true, Bool.not_false, if_true, if_false, Bool.false_eq_true, List.map_cons, List.sum_cons] <;> omega
def meanS (T : Tab) (R : List Bool) : Fc := byF (takenOf T R) (W T)
def shareS (T : Tab) (R : List Bool) : Fc := Fr.sh (wYes T R) (W T)
theorem had_v : ∀ l : List ((Int × Int) × Bool), ((l.map fun x => (((x.1.1, 1) : Fc), x.1.2)).map fun r => (r.2 : Rat) * v r.1).sum = (((l.map fun x => x.1.1 * x.1.2).sum : Int) : Rat)
  | [] => by simp
  | x :: l => by
    have ih := had_v l
    simp only [List.map_cons, List.sum_cons]
    rw [ih, v_int]
    push_cast
    grind
theorem v_meanS {T : Tab} {R : List Bool} (g : GT T) : v (meanS T R) = (had T R : Rat) / (W T : Rat) := by
  have hw : 0 < W T := by have := g.W1; omega
  have hp : ∀ r ∈ takenOf T R, 0 < r.1.2 := fun r hr => by
    obtain ⟨x, hx, rfl⟩ := List.mem_map.mp hr
    show (0 : Int) < 1; decide
  unfold meanS
  rw [v_byF hp hw]
  unfold takenOf had
  rw [had_v]
structure St where
  f : Fc
  r : Fc
def mStep (s : St) (T : Tab) (R : List Bool) : St := ⟨pl s.f (ti s.r (meanS T R)), ti s.r (mi (1, 1) (shareS T R))⟩
structure Sl where
  f : Fc
  t : Int
  b : Int
def tStep (s : Sl) (T : Tab) (R : List Bool) : Sl := ⟨Fr.sh (s.f.1 * (s.b * W T) + s.t * had T R * s.f.2) (s.f.2 * (s.b * W T)), s.t * wNo T R, s.b * W T⟩
structure Alike (s : St) (z : Sl) : Prop where
  eq : s.f = z.f
  fr : Fr.IsFr s.f.1 s.f.2
  rp : 0 < s.r.2
  bp : 0 < z.b
  re : v s.r = (z.t : Rat) / (z.b : Rat)
theorem Alike.step {s : St} {z : Sl} {T : Tab} {R : List Bool} (a : Alike s z) (g : GT T) (hl : T.length = R.length) : Alike (mStep s T R) (tStep z T R) := by
  have hw : 0 < W T := by have := g.W1; omega
  have hp : ∀ r ∈ takenOf T R, 0 < r.1.2 := fun r hr => by
    obtain ⟨x, hx, rfl⟩ := List.mem_map.mp hr
    show (0 : Int) < 1; decide
  have m2 : 0 < (meanS T R).2 := (byF_fr hp hw).pos
  have s2 : 0 < (shareS T R).2 := Fr.sh_pos (Int.ne_of_gt hw)
  have t2 : 0 < (ti s.r (meanS T R)).2 := Fr.sh_pos (Int.ne_of_gt (Int.mul_pos a.rp m2))
  have i2 : 0 < (mi (1, 1) (shareS T R)).2 := Fr.sh_pos (Int.ne_of_gt (Int.mul_pos (show (0 : Int) < 1 by decide) s2))
  have fp := a.fr.pos
  have bw : 0 < z.b * W T := Int.mul_pos a.bp hw
  have zf : 0 < z.f.2 := by rw [← a.eq]; exact fp
  have hb' := cast_ne (Int.ne_of_gt a.bp)
  have hw' := cast_ne (Int.ne_of_gt hw)
  have ok : Fr.IsFr (pl s.f (ti s.r (meanS T R))).1 (pl s.f (ti s.r (meanS T R))).2 := Fr.sh_ok (Int.ne_of_gt (Int.mul_pos fp t2))
  refine ⟨v_inj ok (Fr.sh_ok (Int.ne_of_gt (Int.mul_pos zf bw))) ?_, ok, Fr.sh_pos (Int.ne_of_gt (Int.mul_pos a.rp i2)), bw, ?_⟩
  · show v (pl s.f (ti s.r (meanS T R))) = v (Fr.sh (z.f.1 * (z.b * W T) + z.t * had T R * z.f.2) (z.f.2 * (z.b * W T)))
    rw [v_pl (Int.ne_of_gt fp) (Int.ne_of_gt t2), v_ti (Int.ne_of_gt a.rp) (Int.ne_of_gt m2), v_meanS g, a.re, a.eq, v_sh (Int.ne_of_gt (Int.mul_pos zf bw))]
    have hz' := cast_ne (Int.ne_of_gt zf)
    unfold v
    push_cast
    grind
  · show v (ti s.r (mi (1, 1) (shareS T R))) = ((z.t * wNo T R : Int) : Rat) / ((z.b * W T : Int) : Rat)
    have e := yes_no T R hl
    have e' : (wYes T R : Rat) + (wNo T R : Rat) = (W T : Rat) := by exact_mod_cast e
    rw [v_ti (Int.ne_of_gt a.rp) (Int.ne_of_gt i2), v_mi (show (1 : Int) ≠ 0 by decide) (Int.ne_of_gt s2), Lg.v1, a.re]
    unfold shareS
    rw [v_sh (Int.ne_of_gt hw)]
    push_cast
    grind
open Lg (Fb)
theorem sum_abs {k : Nat} : ∀ l : List Int, (∀ x ∈ l, intBits x ≤ k) → l.sum.natAbs ≤ l.length * 2 ^ k
  | [], _ => by simp
  | x :: l, h => by
    have a := sum_abs l fun y hy => h y (List.mem_cons_of_mem _ hy)
    have b := PySem.intBits_le_iff.mp (h x List.mem_cons_self)
    simp only [List.sum_cons, List.length_cons]
    have c := Int.natAbs_add_le x l.sum
    rw [Nat.add_mul, Nat.one_mul]
    omega
theorem sum8 {k : Nat} {l : List Int} (hl : l.length ≤ 8) (h : ∀ x ∈ l, intBits x ≤ k) : intBits l.sum ≤ k + 4 := by
  refine PySem.intBits_le_iff.mpr ?_
  have a := sum_abs l h
  have b : l.length * 2 ^ k ≤ 8 * 2 ^ k := Nat.mul_le_mul_right _ hl
  have c : 8 * 2 ^ k < 2 ^ (k + 4) := by
    rw [Nat.pow_add]
    have : 0 < 2 ^ k := Nat.two_pow_pos k
    omega
  omega
theorem bits_of {x : Int} {k : Nat} (h1 : -(2 ^ k : Int) < x) (h2 : x < 2 ^ k) : intBits x ≤ k := by
  refine PySem.intBits_le_iff.mpr ?_
  have : ((x.natAbs : Nat) : Int) < ((2 ^ k : Nat) : Int) := by push_cast; omega
  omega
theorem GT.wb {T : Tab} (g : GT T) : intBits (W T) ≤ 16 := by
  have := g.W1
  exact bits_of (by omega) (by omega)
theorem GT.vb {T : Tab} (g : GT T) {r : Int × Int} (hr : r ∈ T) : intBits r.1 ≤ 30 ∧ intBits r.2 ≤ 13 := by
  have a := g.v r hr
  have b := g.w r hr
  exact ⟨bits_of (by omega) (by omega), bits_of (by omega) (by omega)⟩
end Of
set_option Elab.async false
set_option linter.all false
set_option maxRecDepth 100000
set_option maxHeartbeats 4000000
namespace Of
open Rk TD
open Lg (Fb)
open PySem.Builtin.Int (intBits)
theorem meanS_eq {T : Tab} {R : List Bool} (g : GT T) : meanS T R = Fr.sh (had T R) (W T) := by
  have hw : 0 < W T := by have := g.W1; omega
  have hp : ∀ r ∈ takenOf T R, 0 < r.1.2 := fun r hr => by
    obtain ⟨x, hx, rfl⟩ := List.mem_map.mp hr
    show (0 : Int) < 1; decide
  refine v_inj (byF_fr hp hw) (Fr.sh_ok (Int.ne_of_gt hw)) ?_
  rw [v_meanS g, v_sh (Int.ne_of_gt hw)]
theorem zip_mem {T : Tab} {R : List Bool} {p : (Int × Int) × Bool → Bool} {x : (Int × Int) × Bool} (h : x ∈ (T.zip R).filter p) : x.1 ∈ T := (List.of_mem_zip (show (x.1, x.2) ∈ T.zip R from (List.mem_filter.mp h).1)).1
theorem zip_len {T : Tab} {R : List Bool} {p : (Int × Int) × Bool → Bool} (h : T.length ≤ 8) : ((T.zip R).filter p).length ≤ 8 := by
  have a := List.length_filter_le p (T.zip R)
  rw [List.length_zip] at a
  omega
theorem had_b {T : Tab} {R : List Bool} (g : GT T) : intBits (had T R) ≤ 47 := by
  unfold had
  refine sum8 (k := 43) (by rw [List.length_map]; exact zip_len g.len) fun z hz => ?_
  obtain ⟨x, hx, rfl⟩ := List.mem_map.mp hz
  obtain ⟨a, b⟩ := g.vb (zip_mem hx)
  exact PySem.intBits_mul_le a b
theorem wsum_b {T : Tab} {R : List Bool} {p : (Int × Int) × Bool → Bool} (g : GT T) : intBits ((((T.zip R).filter p).map fun x => x.1.2).sum) ≤ 17 := by
  refine sum8 (k := 13) (by rw [List.length_map]; exact zip_len g.len) fun z hz => ?_
  obtain ⟨x, hx, rfl⟩ := List.mem_map.mp hz
  exact (g.vb (zip_mem hx)).2
theorem meanS_b {T : Tab} {R : List Bool} (g : GT T) : Fb (meanS T R) 47 16 := by
  have hw : 0 < W T := by have := g.W1; omega
  rw [meanS_eq g]
  have z := Lg.sh_bits (Int.ne_of_gt hw) (had_b (R := R) g) g.wb
  exact ⟨Fr.sh_pos (Int.ne_of_gt hw), z.1, z.2⟩
theorem shareS_b {T : Tab} {R : List Bool} (g : GT T) : Fb (shareS T R) 17 16 := by
  have hw : 0 < W T := by have := g.W1; omega
  have z := Lg.sh_bits (Int.ne_of_gt hw) (wsum_b (R := R) (p := (·.2)) g) g.wb
  exact ⟨Fr.sh_pos (Int.ne_of_gt hw), z.1, z.2⟩
theorem Fb.mi1 {f : Fc} {x y n : Nat} (h : Fb f x y) (h1 : y + 2 ≤ n) (h2 : x + 2 ≤ n) : Fb (mi (1, 1) f) n (y + 1) := by
  have hb : (1 : Int) * f.2 ≠ 0 := Int.ne_of_gt (Int.mul_pos (by decide) h.pos)
  have e : (1 : Int) * f.2 - f.1 * 1 = f.2 + -f.1 := by omega
  have z := Lg.sh_bits (t := 1 * f.2 - f.1 * 1) (x := n) (y := y + 1) hb (by
    rw [e]
    have a := h.b
    have b := h.t
    have c : intBits (-f.1) ≤ x := PySem.intBits_le_iff.mpr (by rw [Int.natAbs_neg]; exact PySem.intBits_le_iff.mp b)
    have d := PySem.intBits_add_le (Nat.le_trans a (by omega : y ≤ n - 1)) (Nat.le_trans c (by omega : x ≤ n - 1))
    omega) (by
    rw [Int.one_mul]
    exact Nat.le_trans h.b (by omega))
  exact ⟨Fr.sh_pos hb, z.1, z.2⟩
structure SB (s : St) (n : Nat) : Prop where
  r : Fb s.r (20 * n + 1) (17 * n + 1)
  f : Fb s.f (400 * n + 400) (200 * n + 1)
theorem SB.step {s : St} {n : Nat} {T : Tab} {R : List Bool} (h : SB s n) (hn : n ≤ 8) (g : GT T) : SB (mStep s T R) (n + 1) := by
  refine ⟨?_, ?_⟩
  · exact (h.r.ti (Fb.mi1 (shareS_b (R := R) g) (n := 19) (by decide) (by decide))).le (by omega) (by omega)
  · exact (h.f.pl (h.r.ti (meanS_b (R := R) g)) (n := 400 * (n + 1) + 400) (by omega) (by omega)).le (Nat.le_refl _) (by omega)
structure TB (s : Sl) (n : Nat) : Prop where
  f : Fb s.f (400 * n + 400) (200 * n + 1)
  b0 : 0 < s.b
  t : intBits s.t ≤ 17 * n + 1
  b : intBits s.b ≤ 17 * n + 1
end Of
set_option Elab.async false
set_option linter.all false
set_option maxRecDepth 100000
namespace L2
open PySem PySem.Spec PyProof.Rows
def cSq (tp : Bool) : String := if tp then "tuple" else "list"
def cIt (tp : Bool) : String := if tp then "tuple_iterator" else "list_iterator"
def SqIs (tp : Bool) (h : Heap) (l : Addr) (its : Array Value) : Prop := ∃ o, h.get? l = some o ∧ o.cls = .type (cSq tp) ∧ ∃ n, o.data = .seq its n
def SqIt (tp : Bool) (h : Heap) (it l : Addr) (i : Nat) : Prop := ∃ o, h.get? it = some o ∧ o.cls = .type (cIt tp) ∧ o.data = .fields #[.ref l, .int i 0]
theorem SqIs.keep {tp : Bool} {h h' : Heap} {l : Addr} {its : Array Value} (x : SqIs tp h l its) (k : ∀ o, h.get? l = some o → h'.get? l = some o) : SqIs tp h' l its := let ⟨o, e, r⟩ := x; ⟨o, k o e, r⟩
theorem SqIt.keep {tp : Bool} {h h' : Heap} {it l : Addr} {i : Nat} (x : SqIt tp h it l i) (k : ∀ o, h.get? it = some o → h'.get? it = some o) : SqIt tp h' it l i := let ⟨o, e, r⟩ := x; ⟨o, k o e, r⟩
theorem SqIs.lt {tp : Bool} {h : Heap} {l : Addr} {its : Array Value} (x : SqIs tp h l its) : l < h.objs.size := let ⟨_, e, _⟩ := x; Heap.lt_size e
section
variable {X : Cx} {pins : List (Addr × Obj)} {σ : St} {H : Hp} {s : Shared}
end
section
variable {prog : Program} {w : World} {A : Around} {E : Value → Shared → Prop} {s : Shared}
end
end L2
set_option Elab.async false
set_option linter.all false
set_option maxRecDepth 100000
namespace L2
open PySem PySem.Spec PyProof.Rows
structure ZAt (p q : Bool) (h : Heap) (z ti to a b l m : Addr) (i : Nat) : Prop where
  zip : IsZip h z ti to .none
  its : IsPair h ti (.ref a) (.ref b)
  own : ∃ x y, IsPair h to x y
  one : SqIt p h a l i
  two : SqIt q h b m i
structure ZNe (z ti to a b l m : Addr) : Prop where
  tz : ti ≠ z
  oz : to ≠ z
  az : a ≠ z
  bz : b ≠ z
  ot : to ≠ ti
  ta : ti ≠ a
  tb : ti ≠ b
  oa : to ≠ a
  ob : to ≠ b
  ab : a ≠ b
  lz : l ≠ z
  lo : l ≠ to
  la : l ≠ a
  lb : l ≠ b
  mz : m ≠ z
  mo : m ≠ to
  ma : m ≠ a
  mb : m ≠ b
section
variable {prog : Program} {w : World} {A : Around} {E : Value → Shared → Prop} {s : Shared} {p q : Bool} {z ti to a b l m : Addr} {i : Nat} {xs ys : Array Value}
end
end L2
set_option Elab.async false
set_option linter.all false
set_option maxRecDepth 100000
namespace L2
open PySem PySem.Spec PyProof.Rows
section
variable {prog : Program} {w : World} {A : Around} {E : Value → Shared → Prop} {s : Shared} {p q : Bool} {z ti to a b l m : Addr} {i : Nat} {xs ys : Array Value}
end
theorem SqIs.push {tp : Bool} {h : Heap} {l : Addr} {its : Array Value} (x : SqIs tp h l its) (o : Obj) : SqIs tp (h.push o) l its := x.keep fun _ e => Heap.get?_push_of_some _ e
section
variable {prog : Program} {w : World} {A : Around} {E : Value → Shared → Prop} {s : Shared} {p q : Bool} {l m : Addr} {xs ys : Array Value}
end
end L2
set_option Elab.async false
set_option linter.all false
set_option maxRecDepth 100000
namespace L2
open PySem PySem.Spec PyProof.Rows
section
variable {X : Cx}
end
end L2
set_option Elab.async false
set_option linter.all false
set_option maxRecDepth 100000
namespace L2
open PySem PySem.Spec PyProof.Rows
section
variable {prog : Program} {w : World} {A : Around} {E : Value → Shared → Prop} {s : Shared} {r t : Addr} {xs : Array Value}
end
section
variable {X : Cx}
end
end L2
set_option Elab.async false
set_option linter.all false
set_option maxRecDepth 100000
namespace L2
open PySem PySem.Spec PyProof.Rows
section
variable {X : Cx}
end
end L2
set_option Elab.async false
set_option linter.all false
set_option maxRecDepth 100000
namespace L2
open PySem PySem.Spec PyProof.Rows
section
variable {X : Cx}
end
end L2
set_option Elab.async false
set_option linter.all false
set_option maxRecDepth 100000
namespace L2
open PySem PySem.Spec PyProof.Rows
theorem range_all (bs : List Bool) : (List.range bs.length).all (fun i => bs.getD i false) = bs.all id := by
  rw [Bool.eq_iff_iff]
  simp only [List.all_eq_true, List.mem_range]
  constructor
  · intro h b hb
    obtain ⟨i, hi, e⟩ := List.mem_iff_getElem.mp hb
    have q := h i hi
    rw [getD_at hi, e] at q
    exact q
  · intro h i hi
    rw [getD_at hi]
    exact h _ (List.getElem_mem hi)
theorem range_any (bs : List Bool) : (List.range bs.length).any (fun i => bs.getD i false) = bs.any id := by
  rw [Bool.eq_iff_iff]
  simp only [List.any_eq_true, List.mem_range]
  constructor
  · rintro ⟨i, hi, h⟩
    rw [getD_at hi] at h
    exact ⟨_, List.getElem_mem hi, h⟩
  · rintro ⟨b, hb, h⟩
    obtain ⟨i, hi, e⟩ := List.mem_iff_getElem.mp hb
    refine ⟨i, hi, ?_⟩
    rw [getD_at hi, e]
    exact h
section
variable {X : Cx} {K : PySem.W.Frag}
theorem bls_at {us : List Value} {bs : List Bool} (h : Vals (bs.map V.bl) us) {i : Nat} {v : Value} (e : us[i]? = some v) : v = .bool (bs.getD i false) := by
  have hl := h.length
  rw [List.length_map] at hl
  have hi : i < us.length := (List.getElem?_eq_some_iff.mp e).1
  have e2 : (bs.map V.bl)[i]? = some (.bl (bs.getD i false)) := by
    rw [List.getElem?_map, List.getElem?_eq_getElem (by omega), getD_at (by omega)]
    rfl
  obtain ⟨u, hu, r⟩ := h.get e2
  rw [e] at hu
  cases hu
  exact r
theorem call_allL (hK : X.K = K) (hc : X.calm = true) : CallR X (.builtin "all") (fun xs H Q => ∃ (a : Addr) (bs : List Bool), xs = [.ref a] ∧ SqL K H a (bs.map V.bl) ∧ Q (.bl (bs.all id)) H) := by
  subst hK
  intro pins s σ H xs us Q I r h
  obtain ⟨a, bs, rfl, hS, q⟩ := h
  obtain ⟨u, rfl, ru⟩ := vals1 r
  cases (show u = Value.ref a from ru)
  obtain ⟨its, rv, pl, hz⟩ := I.list hS
  have lt : a < s.heap.objs.size := by obtain ⟨o, e, _⟩ := pl.isList; exact Heap.lt_size e
  have hl := rv.length
  rw [List.length_map] at hl
  refine call_all_walk (wpAny_pyIter_list pl.isList ⟨s.heap.objs.size, _, _, _, _, _, fun i => bs.getD i false, rfl, Walks.list (A := X.A.in1) (I.ok.hd hc) s.heap.objs.size a (Nat.ne_of_lt lt) its.toArray, ⟨⟨_, Heap.get?_push_size _ rfl, rfl, rfl⟩, pl.isList.push _⟩, ?_, fun h' tk hk => ?_⟩)
  · intro i v s' Q' E' hv hQ
    have e := bls_at rv (i := i) (v := v) (by simpa using hv)
    rw [e]
    exact wpAny_truthy_bool hQ
  · refine ⟨.bl (bs.all id), H, I.kept (t' := tk) fun b o e => hk b o (fun z => ?_) (Heap.get?_push_of_some _ e), ?_, q⟩
    · rw [List.mem_singleton.mp z] at e
      exact absurd (Heap.lt_size e) (Nat.lt_irrefl _)
    · show Value.bool _ = Value.bool _
      rw [List.size_toArray, ← hl, range_all]
theorem call_anyL (hK : X.K = K) (hc : X.calm = true) : CallR X (.builtin "any") (fun xs H Q => ∃ (a : Addr) (bs : List Bool), xs = [.ref a] ∧ SqL K H a (bs.map V.bl) ∧ Q (.bl (bs.any id)) H) := by
  subst hK
  intro pins s σ H xs us Q I r h
  obtain ⟨a, bs, rfl, hS, q⟩ := h
  obtain ⟨u, rfl, ru⟩ := vals1 r
  cases (show u = Value.ref a from ru)
  obtain ⟨its, rv, pl, hz⟩ := I.list hS
  have lt : a < s.heap.objs.size := by obtain ⟨o, e, _⟩ := pl.isList; exact Heap.lt_size e
  have hl := rv.length
  rw [List.length_map] at hl
  refine call_any_walk (wpAny_pyIter_list pl.isList ⟨s.heap.objs.size, _, _, _, _, _, fun i => bs.getD i false, rfl, Walks.list (A := X.A.in1) (I.ok.hd hc) s.heap.objs.size a (Nat.ne_of_lt lt) its.toArray, ⟨⟨_, Heap.get?_push_size _ rfl, rfl, rfl⟩, pl.isList.push _⟩, ?_, fun h' tk hk => ?_⟩)
  · intro i v s' Q' E' hv hQ
    have e := bls_at rv (i := i) (v := v) (by simpa using hv)
    rw [e]
    exact wpAny_truthy_bool hQ
  · refine ⟨.bl (bs.any id), H, I.kept (t' := tk) fun b o e => hk b o (fun z => ?_) (Heap.get?_push_of_some _ e), ?_, q⟩
    · rw [List.mem_singleton.mp z] at e
      exact absurd (Heap.lt_size e) (Nat.lt_irrefl _)
    · show Value.bool _ = Value.bool _
      rw [List.size_toArray, ← hl, range_any]
end
end L2
set_option Elab.async false
set_option linter.all false
set_option maxRecDepth 100000
namespace L2
open PySem PySem.Spec PyProof.Rows
structure ClsM (K : PySem.W.Frag) (C : Addr) (m : Str) (f : Addr) : Prop where
  ga : PySem.W.specialIn K (.ref C) "__getattribute__" = some (some (.builtin "type.__getattribute__"))
  rd : PySem.W.readsIn K C (.type "type") = true
  at_ : PySem.W.findCls K (.ref C) (.type "type") m = some (.val (.ref f))
  hd : PySem.W.handedIn (.ref f) = true
  kp : PySem.W.keepIn K (.ref f) = true
section
variable {X : Cx} {CX : CXT} {C f : Addr} {fd : FuncData} {k : Nat} {x m : Str} {ps : List Str} {ds : List Value} {dvs : List V} {sp : Sp} {E : XK} {e : Expr} {es : List Expr} {t : TA} {p apos pos : Pos}
end
end L2
set_option Elab.async false
set_option linter.all false
set_option maxRecDepth 100000
set_option maxHeartbeats 4000000
namespace L2
open PySem PySem.Spec PySem.Calls PyProof.Rows
section
variable {X : Cx}
def gSeq (K : PySem.W.Frag) (n : Nat) (t : TGs) : TG := fun v σ H Q => ∃ a xs, v = .ref a ∧ (SqT K H a xs ∨ SqL K H a xs) ∧ xs.length = n ∧ t xs σ H Q
theorem pg_seq {K : PySem.W.Frag} (hK : X.K = K) {pos : Pos} {es : List Expr} {k : Nat} {t : TGs} {n : Nat} (hc : X.calm = true) (h : PGs X es t)
    (hn : (assignEach es X.env).length = n := by rfl) (hst : (assignEach es X.env).findIdx? (·.1) = none := by rfl) : PG X (.Tuple es k pos) (gSeq K n t) := by
  subst hK
  intro pins s σ H v u Q I r hw
  obtain ⟨a, xs, e1, hq, hl, hw⟩ := hw
  rcases hq with hq | hq
  · exact pg_tup hc h hn hst pins s σ H v u Q I r ⟨a, xs, e1, hq, hl, hw⟩
  subst e1
  cases r
  obtain ⟨its, rv, pl, hz⟩ := I.list hq
  obtain ⟨o, m, ho, ho1, ho2, ho3⟩ := pl
  have il : s.heap.IsList a its.toArray := ⟨o, ho, ho1, ⟨m, ho3⟩⟩
  rw [assign_Tuple]
  refine wpAny_bind (wpAny_standAt ?_)
  unfold unpack
  rw [show (assignEach es X.env).length = its.toArray.size by simp [hn, ← hl, rv.length], hst]
  refine wpAny_bind (wpAny_holding (PySem.W.kun_itemsOf (I.ok.hd hc) il fun h' hx => ?_))
  have I1 : Inv X pins σ H { s with heap := h' } := I.kept (t' := s.toks) fun b o e => hx b o (Nat.ne_of_lt (Heap.lt_size e)) e
  exact h pins _ σ H xs _ Q I1 (by simpa using rv) hw
end
end L2
namespace L2
open PySem PySem.Spec PyProof.Rows
theorem call_tuple_ofK {X : Cx} {K : PySem.W.Frag} (h : X.K = K) : CallR X (.type "tuple") (fun xs H Q => ∃ p ys, xs = [.ref p] ∧ ((SqL K H p ys ∧ ∀ l, H l = none → Q (.ref l) (upd H l (.tup ys))) ∨ (SqT K H p ys ∧ Q (.ref p) H))) := by subst h; exact call_tuple_of
end L2
set_option Elab.async false
set_option linter.all false
set_option maxRecDepth 100000
namespace L2
open PySem PySem.Spec PyProof.Rows
structure MkN (K : PySem.W.Frag) (C : Addr) : Prop where
  makes : PySem.W.makesIn K C = true
  init : PySem.W.findIn K (.ref C) "__init__" = some (some (.builtin "object.__init__"))
  kp : PySem.W.keepIn K (.ref C) = true
section
variable {X : Cx} {C : Addr} {x : Str} {p pos : Pos}
end
end L2
set_option Elab.async false
set_option linter.all false
set_option maxRecDepth 100000
set_option maxHeartbeats 4000000
namespace L2
open PySem PySem.Spec PyProof.Rows
end L2
namespace TD
open PySem L2
open Builtin.Int (intBits)
structure Ir where
  p : Addr
  v : Int
  w : Int
def IrAt (H : Hp) (x : Ir) : Prop := H x.p = some (.tup [.int x.v, .int x.w])
def irefs (xs : List Ir) : List V := xs.map fun x => V.ref x.p
structure IrsAt (H : Hp) (a : Addr) (xs : List Ir) : Prop where
  lst : H a = some (.lst (irefs xs))
  rows : ∀ x ∈ xs, IrAt H x
def rw0 (xs : List Ir) : List Tb.Rw := xs.map fun x => ⟨x.v, 1, x.w⟩
def tab (xs : List Ir) : Of.Tab := xs.map fun x => (x.v, x.w)
theorem IrsAt.same {H H' : Hp} {a : Addr} {xs : List Ir} (s : Same H H') (h : IrsAt H a xs) : IrsAt H' a xs := ⟨s _ _ h.lst, fun x hx => s _ _ (h.rows x hx)⟩
theorem irefs_snoc (xs : List Ir) (y : Ir) : irefs (xs ++ [y]) = irefs xs ++ [V.ref y.p] := by unfold irefs; rw [List.map_append]; rfl
theorem IrsAt.push {H : Hp} {a : Addr} {xs : List Ir} {y : Ir} (h : IrsAt H a xs) (hy : IrAt H y) : IrsAt (upd H a (.lst (irefs xs ++ [.ref y.p]))) a (xs ++ [y]) := by
  have one : ∀ x : Ir, IrAt H x → IrAt (upd H a (.lst (irefs xs ++ [.ref y.p]))) x := fun x hx => by unfold IrAt at hx ⊢; rw [upd_ne (ne_of hx h.lst fun z => nomatch z)]; exact hx
  refine ⟨by rw [upd_same, irefs_snoc], fun x hx => ?_⟩
  rcases List.mem_append.mp hx with z | z
  · exact one x (h.rows x z)
  · rw [List.mem_singleton.mp z]; exact one y hy
structure GI (xs : List Ir) : Prop where
  ne : xs ≠ []
  len : xs.length ≤ 8
  v : ∀ x ∈ xs, 0 ≤ x.v ∧ x.v ≤ 1000000000
  w : ∀ x ∈ xs, 1 ≤ x.w ∧ x.w ≤ 1000
structure Ls where
  a : Addr
  xs : List Ir
def lsrefs (ls : List Ls) : List V := ls.map fun l => V.ref l.a
structure LsAt (H : Hp) (a : Addr) (ls : List Ls) : Prop where
  lst : H a = some (.lst (lsrefs ls))
  each : ∀ l ∈ ls, IrsAt H l.a l.xs
theorem LsAt.same {H H' : Hp} {a : Addr} {ls : List Ls} (s : Same H H') (h : LsAt H a ls) : LsAt H' a ls := ⟨s _ _ h.lst, fun l hl => (h.each l hl).same s⟩
theorem lsrefs_snoc (ls : List Ls) (y : Ls) : lsrefs (ls ++ [y]) = lsrefs ls ++ [V.ref y.a] := by unfold lsrefs; rw [List.map_append]; rfl
structure Tn where
  a : Addr
  ys : List Row
def trefs (ts : List Tn) : List V := ts.map fun t => V.ref t.a
structure TpAt (H : Hp) (a : Addr) (ys : List Row) : Prop where
  tp : H a = some (.tup (refs ys))
  rows : ∀ y ∈ ys, RowAt H y
structure KAt (H : Hp) (k : Addr) (ts : List Tn) : Prop where
  tp : H k = some (.tup (trefs ts))
  each : ∀ t ∈ ts, TpAt H t.a t.ys
theorem TpAt.same {H H' : Hp} {a : Addr} {ys : List Row} (s : Same H H') (h : TpAt H a ys) : TpAt H' a ys := ⟨s _ _ h.tp, fun y hy => (h.rows y hy).same s⟩
theorem KAt.same {H H' : Hp} {k : Addr} {ts : List Tn} (s : Same H H') (h : KAt H k ts) : KAt H' k ts := ⟨s _ _ h.tp, fun t ht => (h.each t ht).same s⟩
def tabY (ys : List Row) : Of.Tab := ys.map fun y => (y.t, y.w)
structure GY (ys : List Row) : Prop where
  g : Of.GT (tabY ys)
  one : ∀ y ∈ ys, y.b = 1
structure BRows (xs : List Row) : Prop where
  len : xs.length ≤ 1000
  b : ∀ x ∈ xs, 0 < x.b
  t : ∀ x ∈ xs, intBits x.t ≤ 2500
  w : ∀ x ∈ xs, intBits x.w ≤ 64
  z : ((xs.map Row.b).map intBits).sum ≤ 4200
end TD
set_option Elab.async false
set_option linter.all false
set_option maxRecDepth 100000
set_option maxHeartbeats 4000000
namespace L2
open PySem
end L2
namespace TD
open PySem L2
open Builtin.Int (intBits)
structure OF (K : PySem.W.Frag) (C : Addr) : Prop where
  cl : Cls K C
  nk : NoAttr K C "kinds"
def OAt (C : Addr) (H : Hp) (x : Addr) (ts : List Tn) : Prop := ∃ dx k, H x = some (.ins C dx [("kinds", .ref k)]) ∧ KAt H k ts
theorem OAt.same {C : Addr} {H H' : Hp} {x : Addr} {ts : List Tn} (s : Same H H') (h : OAt C H x ts) : OAt C H' x ts := by
  obtain ⟨dx, k, a, b⟩ := h
  exact ⟨dx, k, s _ _ a, b.same s⟩
structure GK (ts : List Tn) : Prop where
  len : ts.length ≤ 8
  each : ∀ t ∈ ts, GY t.ys
structure KOut (ls : List Ls) (ts : List Tn) : Prop where
  len : ls.length = ts.length
  each : ∀ (i : Nat) l t, ls[i]? = some l → ts[i]? = some t → Out (rw0 l.xs) t.ys ∧ t.ys.length ≤ l.xs.length
structure Rl where
  a : Addr
  bs : List Bool
def rlrefs (rs : List Rl) : List V := rs.map fun r => V.ref r.a
structure RlAt (H : Hp) (a : Addr) (rs : List Rl) : Prop where
  lst : H a = some (.lst (rlrefs rs))
  each : ∀ r ∈ rs, H r.a = some (.lst (r.bs.map V.bl))
theorem RlAt.same {H H' : Hp} {a : Addr} {rs : List Rl} (s : Same H H') (h : RlAt H a rs) : RlAt H' a rs := ⟨s _ _ h.lst, fun r hr => s _ _ (h.each r hr)⟩
theorem rlrefs_snoc (xs : List Rl) (y : Rl) : rlrefs (xs ++ [y]) = rlrefs xs ++ [V.ref y.a] := by unfold rlrefs; rw [List.map_append]; rfl
structure RT (rs : List Rl) (Ts : List Of.Tab) : Prop where
  len : rs.length = Ts.length
  each : ∀ (i : Nat) r T, rs[i]? = some r → Ts[i]? = some T → T.length = r.bs.length
structure GL (ls : List Ls) : Prop where
  len : ls.length ≤ 8
  each : ∀ l ∈ ls, Of.GT (tab l.xs)
end TD
namespace TD
open PySem L2
theorem TpAt.over {H : Hp} {D a : Addr} {ys : List Row} {xs zs : List V} (h : TpAt H a ys) (e : H D = some (.lst xs)) : TpAt (upd H D (.lst zs)) a ys := ⟨by rw [upd_ne (ne_of h.tp e fun z => nomatch z)]; exact h.tp, fun y hy => (h.rows y hy).over e⟩
end TD
namespace TD
open PySem L2
theorem IrsAt.over {H : Hp} {D a : Addr} {xs : List Ir} {us zs : List V} (h : IrsAt H a xs) (e : H D = some (.lst us)) (n : a ≠ D) : IrsAt (upd H D (.lst zs)) a xs := ⟨by rw [upd_ne n]; exact h.lst, fun x hx => by have z := h.rows x hx; unfold IrAt at z ⊢; rw [upd_ne (ne_of z e fun w => nomatch w)]; exact z⟩
theorem LsAt.push {H : Hp} {D : Addr} {ls : List Ls} {l : Ls} (h : LsAt H D ls) (hl : IrsAt H l.a l.xs) (hn : ∀ x ∈ ls, x.a ≠ D) (n : l.a ≠ D) : LsAt (upd H D (.lst (lsrefs ls ++ [.ref l.a]))) D (ls ++ [l]) := by
  refine ⟨by rw [upd_same, lsrefs_snoc], fun x hx => ?_⟩
  rcases List.mem_append.mp hx with z | z
  · exact (h.each x z).over h.lst (hn x z)
  · rw [List.mem_singleton.mp z]; exact hl.over h.lst n
end TD
namespace L2
open PySem
end L2
namespace TD
open PySem L2
theorem RlAt.push {H : Hp} {D : Addr} {rs : List Rl} {r : Rl} (h : RlAt H D rs) (hr : H r.a = some (.lst (r.bs.map V.bl))) (hn : ∀ x ∈ rs, x.a ≠ D) (n : r.a ≠ D) : RlAt (upd H D (.lst (rlrefs rs ++ [.ref r.a]))) D (rs ++ [r]) := by
  refine ⟨by rw [upd_same, rlrefs_snoc], fun x hx => ?_⟩
  rcases List.mem_append.mp hx with z | z
  · rw [upd_ne (hn x z)]; exact h.each x z
  · rw [List.mem_singleton.mp z, upd_ne n]; exact hr
end TD
namespace TD
open PySem L2
end TD
set_option Elab.async false
set_option linter.all false
set_option maxRecDepth 100000
namespace L2
open PySem PySem.Spec PyProof.Rows
section
variable {X : Cx}
def ddI (ns : List Int) : List Int := ns.foldl step_dedup []
theorem firstMet_is (ns : List Int) : firstMet (fun i => ns.getD i 0) ns.length = ddI ns := by
  unfold firstMet ddI
  congr 1
  apply List.ext_getElem
  · simp
  · intro i h1 h2
    simp [h2]
theorem call_setL (hc : X.calm = true) : CallR X (.type "set") (fun xs H Q => ∃ (a : Addr) (ns : List Int), xs = [.ref a] ∧ SqL X.K H a (ns.map V.int) ∧ ns.length + 1 < scanBound ∧
    ∀ r, H r = none → Q (.ref r) (upd H r (.set (fun k => (ddI ns).any (· == k)) (ddI ns).length))) := by
  intro pins s σ H xs us Q I r h
  obtain ⟨a, ns, rfl, hS, hb, q⟩ := h
  obtain ⟨u, rfl, ru⟩ := vals1 r
  cases (show u = Value.ref a from ru)
  obtain ⟨its, rv, p, hz⟩ := I.list hS
  have hi := intsAre_of rv
  have hl : its.toArray.size = ns.length := by
    have h := rv.length
    rw [List.length_map] at h
    simpa using h.symm
  refine call_set_list (items := its.toArray) (ns := ns) (I.ok.hd hc) p.isList hi (by rw [hl]; exact hb) fun h' tk hSO kp => ?_
  rw [hl, firstMet_is] at hSO
  refine ⟨.ref s.heap.objs.size, _, I.laid (t' := tk) (fun b o e => kp b o (Heap.lt_size e) e) (Nat.le_refl _) (show ObjOk X.prog X.w _ h' _ (.set _ _) from hSO), rfl, q _ (I.hok.fresh (Nat.le_refl _))⟩
theorem call_len_setI : CallR X (.builtin "len") (fun xs H Q => ∃ (a : Addr) (S : Int → Bool) (n : Nat), xs = [.ref a] ∧ H a = some (.set S n) ∧ Q (.int n) H) := by
  intro pins s σ H xs us Q I r h
  obtain ⟨a, S, n, rfl, ha, q⟩ := h
  obtain ⟨u, rfl, ru⟩ := vals1 r
  cases (show u = Value.ref a from ru)
  obtain ⟨o, es, ep, t, ho, hex, hd, _, _, hsb, hf, hn⟩ := (show ObjOk X.prog X.w H s.heap a (.set S n) from I.hok a _ ha)
  subst hn
  refine call_len_set ho hex hd hf ?_ ⟨.int es.size, H, I.kept (h' := s.heap) (fun _ _ e => e), ⟨_, rfl⟩, q⟩
  have : (es.size : Int) < 4096 := by unfold scanBound at hsb; omega
  exact Int.lt_trans this (by decide)
end
end L2
set_option Elab.async false
set_option linter.all false
set_option maxRecDepth 100000
namespace L2
open PySem PySem.Spec PyProof.Rows
section
variable {prog : Program} {w : World} {A : Around} {E : Value → Shared → Prop} {s : Shared} {a₀ : Array PyProof.Rows.Keyed}
theorem run_asc {st : SortSt} {m : Nat} {Q : Option Nat → SortSt → Prop} (h0 : IntKeys a₀) (hn : m ≤ a₀.size) (h1 : 1 ≤ m) (hB : SBase a₀ st) (hs : SortedTo (arrOf st) m) (h : Q (some m) st) :
    wpS (model prog w) A E s (countRun' 0 m) Q st := by
  rw [countRun0_eq]
  refine wpS_bind (wpS_ascLoop h0 hn (Nat.le_refl 1) h1 hB (fun i j hij hj => hs i j hij (by omega)) fun n n1 n2 _ hor => ?_)
  have e : n = m := by
    rcases hor with e | e
    · exact e
    · by_cases z : n = m
      · exact z
      · exact absurd (hs (n - 1) n (by omega) (by omega)) (Int.not_le.mpr e)
  subst e
  dsimp only
  rw [if_pos (beq_self_eq_true n)]
  exact wpS_pure h
theorem runs64 {st : SortSt} {Q : Unit → SortSt → Prop} (h0 : IntKeys a₀) (hB : SBase a₀ st) (h64 : a₀.size = 64) (hs : SortedTo (arrOf st) a₀.size)
    (h : ∀ st', (arrOf st').Perm a₀ → failedOf st' = none → SortedTo (arrOf st') a₀.size → Q () st') : wpS (model prog w) A E s sortRuns' Q st := by
  rw [sortRuns'_eq]
  refine wpS_bind (wpS_get ?_)
  have hm : minRun' 64 64 0 = 32 := by decide
  simp only [hB.size, h64, hm]
  rw [h64] at hs
  refine wpS_bind (wpS_mono (wpS_forRange (I := fun x c st' => (x = 0 ∧ c = (none, 0) ∧ st' = st) ∨ (1 ≤ x ∧ c = (none, 64) ∧ st' = setPending st ((pendingOf st).push (0, 64, 0)))) (Q := fun c st' => c = (none, 64) ∧ st' = setPending st ((pendingOf st).push (0, 64, 0))) ?step ?fin (.inl ⟨rfl, rfl, rfl⟩)) ?post)
  case fin =>
    rintro c st' (⟨hx, _, _⟩ | ⟨_, hc, hD⟩)
    · omega
    · exact ⟨hc, hD⟩
  case step =>
    rintro x c st' _ hx (⟨rfl, rfl, rfl⟩ | ⟨hx1, rfl, hD⟩)
    · dsimp only
      rw [if_neg (by omega)]
      simp only [Nat.sub_zero, Nat.zero_add]
      refine wpS_bind (run_asc h0 (by omega) (by decide) hB hs ?_)
      dsimp only
      rw [if_neg (by decide)]
      refine wpS_bind (wpS_get ?_)
      rw [show (pendingOf st').back? = none by rw [hB.pend]; rfl]
      dsimp only
      exact wpS_bind (wpS_modify (wpS_pure (.inr ⟨by omega, rfl, rfl⟩)))
    · dsimp only
      rw [if_pos (Nat.le_refl _)]
      exact wpS_pure ⟨rfl, hD⟩
  case post =>
    rintro c st' ⟨rfl, rfl⟩
    dsimp only
    refine wpS_bind (wpS_mono (wpS_forRange (I := fun _ c st'' => st'' = setPending st ((pendingOf st).push (0, 64, 0)) ∧ c = (none, ())) (Q := fun c st'' => st'' = setPending st ((pendingOf st).push (0, 64, 0)) ∧ c = (none, ())) ?_ (fun _ _ hh => hh) ⟨rfl, rfl⟩) ?_)
    · rintro x c st'' _ _ ⟨rfl, rfl⟩
      refine wpS_bind (wpS_get ?_)
      rw [if_pos (by show ((pendingOf st).push (0, 64, 0)).size ≤ 1; rw [hB.pend]; exact Nat.le_refl 1)]
      exact wpS_pure ⟨rfl, rfl⟩
    · rintro c st'' ⟨rfl, rfl⟩
      exact wpS_pure (h _ hB.perm hB.failed (by rw [h64]; exact hs))
theorem rising_pairs {vs : List Value} {ns : List Int} (hI : IntsAre vs ns) (hs : ns.Pairwise (· ≤ ·)) : SortedTo (pairsOf vs) (pairsOf vs).size := by
  intro i j hij hj
  have hi : i < (pairsOf vs).size := by omega
  have hn := hI.nums
  have kk : ∀ (k : Nat) (hk : k < (pairsOf vs).size), K (pairsOf vs) k = ns[k]'(by rw [← hn, List.length_map]; rw [pairsOf_size] at hk; exact hk) := fun k hk => by
    rw [K_eq hk]
    simp only [pairsOf, Array.getElem_zip, List.getElem_toArray]
    have e : ns[k]'(by rw [← hn, List.length_map]; rw [pairsOf_size] at hk; exact hk) = (vs.map numOf)[k]'(by rw [List.length_map]; rw [pairsOf_size] at hk; exact hk) := by simp only [hn]
    rw [e, List.getElem_map]
  rw [kk i hi, kk j hj]
  by_cases e : i = j
  · subst e; exact Int.le_refl _
  · exact List.pairwise_iff_getElem.mp hs i j _ _ (by omega)
theorem sort64 {a : Addr} {vs : List Value} {ns : List Int} {n : Nat} {P : PySem.Fin → Shared → Prop} (ho : s.heap.get? a = some (seqObj "list" vs.toArray n)) (hI : IntsAre vs ns) (h64 : vs.length = 64) (hs : ns.Pairwise (· ≤ ·))
    (h : ∀ (out : Array Value) (ns' : List Int), IntsAre out.toList ns' → ns'.Perm ns → ns'.Pairwise (· ≤ ·) → P (.done (.ret .none)) { s with heap := sortedHeap s.heap a vs out }) :
    wpAny (model prog w) A (Builtin.«list.sort» ⟨[.ref a], []⟩) P E s := by
  rw [list_sort_plain]
  have ha : a < s.heap.objs.size := Heap.lt_size ho
  have hl : vs.toArray.size = 64 := by simpa using h64
  refine wpAny_bind (listItems_at ho rfl (wpAny_bind (listUpdate_at ho rfl ?_ (by rw [hl, sizeLine_eq]; decide) (Nat.zero_le _))))
  obtain ⟨e1, ho1⟩ : ∃ e1, (s.heap.update a (Obj.mapSeq fun _ => #[])).get? a = some (seqObj "list" #[] e1) := ⟨_, get?_update_seq ho (fun _ => #[])⟩
  refine wpAny_bind (seqEpoch_at ho1 rfl (wpAny_bind (wpAny_newTuple (wpAny_bind (wpAny_newList (wpAny_holding ?_))) (by rw [show vs.toArray.toList = vs from rfl, h64, sizeLine_eq]; decide))))
  have ho6 : (((s.heap.update a (Obj.mapSeq fun _ => #[])).push (seqObj "tuple" vs.toArray 0)).push (seqObj "list" #[] 0)).get? a = some (seqObj "list" #[] e1) := Heap.get?_push_of_some _ (Heap.get?_push_of_some _ ho1)
  show wpAny (model prog w) A _ P E { s with heap := ((s.heap.update a (Obj.mapSeq fun _ => #[])).push (seqObj "tuple" vs.toArray 0)).push (seqObj "list" #[] 0) }
  dsimp only
  rw [if_neg (by rw [hl]; decide), if_neg (by rw [hl]; decide)]
  obtain ⟨v1, v2, rest, rfl⟩ : ∃ v1 v2 rest, vs = v1 :: v2 :: rest := by
    match vs, h64 with
    | v1 :: v2 :: rest, _ => exact ⟨v1, v2, rest, rfl⟩
  rw [keyKind_ints hI]
  refine wpAny_bind (wpAny_pure ?_)
  refine wpAny_bind (wpAny_mono (runs64 (a₀ := pairsOf (v1 :: v2 :: rest)) (st := SortSt.mk' oneType' ((v1 :: v2 :: rest).toArray.zip (v1 :: v2 :: rest).toArray) #[] 7 none)
    (Q := fun _ st' => (arrOf st').Perm (pairsOf (v1 :: v2 :: rest)) ∧ failedOf st' = none ∧ SortedTo (arrOf st') (pairsOf (v1 :: v2 :: rest)).size)
    hI.intKeys ⟨Array.Perm.refl _, rfl, rfl, rfl⟩ (by rw [pairsOf_size]; exact h64) (rising_pairs hI hs) fun st' a1 a2 a3 => ⟨a1, a2, a3⟩) ?_ fun _ _ e => e)
  rintro ⟨⟨⟩, st'⟩ s' ⟨rfl, hp, hf, hso⟩
  dsimp only
  refine wpAny_bind (seqEpoch_at ho6 rfl (wpAny_bind (listUpdate_at ho6 rfl ?_ (Nat.zero_le _) (Nat.le_trans (Nat.le_of_eq ((Array.size_map ..).trans (hp.size_eq.trans ((pairsOf_size _).trans h64)))) (by rw [sizeLine_eq]; decide)))))
  rw [hf]
  simp only [bne_self_eq_false, Bool.false_eq_true, if_false]
  obtain ⟨ns', b1, b2, b3⟩ := sorted_out hI hp hso
  exact wpAny_pure (h _ ns' b1 b2 b3)
theorem collect_seq {l : Addr} {o : Obj} {T : String} {vs : List Value} {n : Nat} {Q : List Value → Shared → Prop} (hT : T = "list" ∨ T = "tuple") (ho : s.heap.get? l = some o) (hc : o.cls = .type T) (hd : o.data = .seq vs.toArray n) (hz : vs.length ≤ sizeLine)
    (h : ∀ h', (∀ b u, s.heap.get? b = some u → h'.get? b = some u) → Q vs { s with heap := h' }) : wpAny (model prog w) A (collect (.ref l)) Q E s := by
  unfold collect
  refine wpAny_bind (wpAny_runValue (codeAny_builtin entry_proto_collect' ?_))
  show wpAny _ _ (do again (.builtin "list.__iadd__" ⟨[← newList [], .ref l], []⟩)) _ _ s
  refine wpAny_bind (wpAny_newList (wpAny_pure ⟨Code.quiet_builtin _ (by decide +kernel), codeAny_builtin entry_list_iadd' ?_⟩))
  show wpAny _ _ (Builtin.List.listExtendWith (.ref s.heap.objs.size) (.ref l) (.ref s.heap.objs.size)) _ _ { s with heap := s.heap.push (seqObj "list" #[] 0) }
  unfold Builtin.List.listExtendWith
  have ho' : (s.heap.push (seqObj "list" #[] 0)).get? l = some o := Heap.get?_push_of_some _ ho
  refine wpAny_bind (wpAny_typeOf (T := T) ⟨o, ho', hc⟩ ?_)
  rw [if_pos (by rcases hT with e | e <;> subst e <;> simp)]
  refine wpAny_bind (listItems_at ho' hd (wpAny_bind (listItems_at (xs := #[]) (n := 0) (Heap.get?_push_size _ rfl) rfl ?_)))
  rw [if_neg (by simp)]
  refine wpAny_bind (listUpdate_at (xs := #[]) (n := 0) (Heap.get?_push_size _ rfl) rfl ?_ (Nat.zero_le _) (by show (#[] ++ vs.toArray).size ≤ sizeLine + 1; simp only [Array.size_append, List.size_toArray, List.length_nil]; omega))
  refine wpAny_pure ?_
  show wpAny (model prog w) A (do
      let o ← load s.heap.objs.size
      match o.data with
      | .seq xs _ => pure xs.toList
      | _ => unsupported "internal:collect") Q E { s with heap := (s.heap.push (seqObj "list" #[] 0)).update s.heap.objs.size (Obj.mapSeq (· ++ vs.toArray)) }
  refine wpAny_bind (wpAny_load (get?_update_seq (Heap.get?_push_size _ rfl) _) ?_)
  show wpAny _ _ (pure ((#[] : Array Value) ++ vs.toArray).toList) Q E _
  rw [show ((#[] : Array Value) ++ vs.toArray).toList = vs by simp]
  refine wpAny_pure (h _ fun b u e => ?_)
  rw [Heap.get?_update_ne _ _ _ _ (Nat.ne_of_lt (Heap.lt_size e))]
  exact Heap.get?_push_of_some _ e
end
section
variable {X : Cx}
def Few64 (ns : List Int) : Prop := ns.length < 64 ∨ (ns.length = 64 ∧ ns.Pairwise (· ≤ ·))
theorem call_sortedS : CallR X (.builtin "sorted") (fun xs H Q => ∃ (p : Addr) (ns : List Int), xs = [.ref p] ∧ (SqL X.K H p (ns.map V.int) ∨ SqT X.K H p (ns.map V.int)) ∧ Few64 ns ∧
    ∀ (l : Addr) (ms : List Int), H l = none → ms.Perm ns → ms.Pairwise (· ≤ ·) → Q (.ref l) (upd H l (.lst (ms.map V.int)))) := by
  intro pins s σ H xs us Q I r h
  obtain ⟨p, ns, rfl, hq, h64, q⟩ := h
  obtain ⟨u, rfl, ru⟩ := vals1 r
  cases (show u = Value.ref p from ru)
  obtain ⟨T, hT, o, its, n, ho, hc, hd, rv, hz⟩ : ∃ T, (T = "list" ∨ T = "tuple") ∧ ∃ (o : Obj) (its : List Value) (n : Nat), s.heap.get? p = some o ∧ o.cls = .type T ∧ o.data = .seq its.toArray n ∧ Vals (ns.map V.int) its ∧ (ns.map V.int).length ≤ sizeLine := by
    rcases hq with hq | hq
    · obtain ⟨its, rv, pl, hz⟩ := I.list hq
      obtain ⟨o, ho, hc, n, hd⟩ := pl.isList
      exact ⟨"list", .inl rfl, o, its, n, ho, hc, hd, rv, hz⟩
    · obtain ⟨its, rv, pl, hz⟩ := I.tuple hq
      obtain ⟨o, ho, hc, n, hd⟩ := pl
      exact ⟨"tuple", .inr rfl, o, its, n, ho, hc, hd, rv, hz⟩
  have hlen := rv.length
  have hi := intsAre_of rv
  have hln : its.length = ns.length := hi.length
  refine Calls.call_function_entry kind_sorted plain_sorted entry_sorted (args_sorted1 _) ?_
  unfold Builtin.«sorted»
  refine wpAny_bind (m := checkCount "sorted" 1 1 _) (wpAny_pure ?_)
  refine wpAny_bind (collect_seq hT ho hc hd (by omega) fun h' kp => ?_)
  refine wpAny_bind (wpAny_newList ?_ (by omega))
  have hoL : (h'.push (seqObj "list" its.toArray 0)).get? h'.objs.size = some (seqObj "list" its.toArray 0) := Heap.get?_push_size _ rfl
  have fin : ∀ (out : Array Value) (ns' : List Int), IntsAre out.toList ns' → ns'.Perm ns → ns'.Pairwise (· ≤ ·) → EP X pins σ Q (.ref h'.objs.size) { s with heap := sortedHeap (h'.push (seqObj "list" its.toArray 0)) h'.objs.size its out } := fun out ns' a1 a2 a3 => by
    have I1 : Inv X pins σ H { s with heap := h' } := I.kept (t' := s.toks) kp
    obtain ⟨ep2, eo⟩ := sortedHeap_at (out := out) hoL
    have hlo : out.toList.length = ns'.length := a1.length
    have hl2 : ns'.length = ns.length := a2.length_eq
    refine ⟨.ref h'.objs.size, upd H h'.objs.size (.lst (ns'.map V.int)), I1.laid (t' := s.toks) (fun b u q => ?_) (Nat.le_refl _) ⟨by rw [List.length_map]; omega, out.toList, ep2, vals_ints a1, by rw [Array.toArray_toList]; exact eo⟩, rfl, q _ _ (I1.hok.fresh (Nat.le_refl _)) a2 a3⟩
    rw [sortedHeap_old (Nat.ne_of_lt (Heap.lt_size q)) (by rw [Heap.size_push]; exact Nat.lt_succ_of_lt (Heap.lt_size q))]
    exact Heap.get?_push_of_some _ q
  rcases h64 with h64 | ⟨h64, hs⟩
  · refine wpAny_bind (wpAny_holding (wpAny_call_entry slot_list_sort ⟨_, hoL, rfl⟩ entry_list_sort (list_sort_tree hoL hi (by omega) fun out ns' a1 a2 a3 => ⟨_, rfl, ?_⟩) (args_list_sort _)))
    exact wpAny_pure ⟨_, rfl, fin out ns' a1 a2 a3⟩
  · refine wpAny_bind (wpAny_holding (wpAny_call_entry slot_list_sort ⟨_, hoL, rfl⟩ entry_list_sort (sort64 hoL hi (by omega) hs fun out ns' a1 a2 a3 => ⟨_, rfl, ?_⟩) (args_list_sort _)))
    exact wpAny_pure ⟨_, rfl, fin out ns' a1 a2 a3⟩
end
end L2
set_option Elab.async false
set_option linter.all false
set_option maxRecDepth 100000
namespace L2
open PySem PySem.Spec PyProof.Rows
section
variable {X : Cx}
end
theorem dd_self {ns : List Int} (nd : ns.Nodup) : ddI ns = ns := by
  have go : ∀ (ms ds : List Int), (ds ++ ms).Nodup → ms.foldl PyProof.Rows.step_dedup ds = ds ++ ms := by
    intro ms
    induction ms with
    | nil => intro ds _; simp
    | cons m ms ih =>
      intro ds h
      have hm : ds.any (· == m) = false := by
        rw [List.any_eq_false]
        intro x hx z
        have hxm : x = m := by simpa using z
        have := (List.nodup_append.mp h).2.2 x hx m List.mem_cons_self
        exact this hxm
      show ms.foldl PyProof.Rows.step_dedup (PyProof.Rows.step_dedup ds m) = _
      have e : PyProof.Rows.step_dedup ds m = ds ++ [m] := by unfold PyProof.Rows.step_dedup; rw [if_neg (by rw [hm]; exact Bool.false_ne_true)]
      rw [e, ih (ds ++ [m]) (by rw [List.append_assoc]; exact h), List.append_assoc]
      rfl
  exact go ns [] (by simpa using nd)
end L2
namespace L2
open PySem PySem.Spec PyProof.Rows
theorem call_sortedSK {X : Cx} {K : PySem.W.Frag} (hK : X.K = K) : CallR X (.builtin "sorted") (fun xs H Q => ∃ (p : Addr) (ns : List Int), xs = [.ref p] ∧ (SqL K H p (ns.map V.int) ∨ SqT K H p (ns.map V.int)) ∧ Few64 ns ∧
    ∀ (l : Addr) (ms : List Int), H l = none → ms.Perm ns → ms.Pairwise (· ≤ ·) → Q (.ref l) (upd H l (.lst (ms.map V.int)))) := by subst hK; exact call_sortedS
theorem call_setLK {X : Cx} {K : PySem.W.Frag} (hK : X.K = K) (hc : X.calm = true) : CallR X (.type "set") (fun xs H Q => ∃ (a : Addr) (ns : List Int), xs = [.ref a] ∧ SqL K H a (ns.map V.int) ∧ ns.length + 1 < scanBound ∧
    ∀ r, H r = none → Q (.ref r) (upd H r (.set (fun k => (ddI ns).any (· == k)) (ddI ns).length))) := by subst hK; exact call_setL hc
theorem bt_set : bootBuiltins "set" = some (.type "set") := by decide +kernel
end L2
namespace L2
open PySem PySem.Spec PyProof.Rows
section
variable {X : Cx} {K : PySem.W.Frag} {o e : Expr} {es : List Expr} {ta to : TE} {t : TA} {f name : Str} {pos apos cpos : Pos} {T id : String} {r : V → List V → Hp → VK → Prop}
end
end L2
set_option Elab.async false
set_option linter.all false
set_option maxRecDepth 100000
set_option maxHeartbeats 4000000
namespace TD
open PySem L2
open Builtin.Int (intBits)
def hb (k b : Int) : Bool := decide (V.int (Builtin.bitAnd (k / 2 ^ b.toNat) 1) = V.int 1)
def six (n : Nat) : List Int := (List.range n).map fun (i : Nat) => (0 : Int) + (i : Int)
def bxs (k : Int) : List Int := (six 6).filter (hb k)
theorem six_succ (n : Nat) : six (n + 1) = six n ++ [0 + (n : Int)] := by unfold six; rw [List.range_succ, List.map_append]; rfl
theorem mem_six {n : Nat} {b : Int} (h : b ∈ six n) : 0 ≤ b ∧ b < n := by
  obtain ⟨i, hi, rfl⟩ := List.mem_map.mp h
  have := List.mem_range.mp hi
  omega
theorem bxs_len (k : Int) : (bxs k).length ≤ 6 := Nat.le_trans (List.length_filter_le _ _) (by unfold six; rw [List.length_map, List.length_range]; exact Nat.le_refl _)
theorem bxs_mem {k b : Int} (h : b ∈ bxs k) : 0 ≤ b ∧ b < 6 := mem_six (List.mem_filter.mp h).1
abbrev Is (ns : List Int) : List V := ns.map V.int
def spHas : Sp := fun vs H Q _ => ∃ k b : Int, vs = [.int k, .int b] ∧ 0 ≤ b ∧ Q (.bl (hb k b)) H
def spBxs : Sp := fun vs H Q _ => ∃ k : Int, vs = [.int k] ∧ ∀ r H', Same H H' → H r = none → H' r = some (.lst (Is (bxs k))) → Q (.ref r) H'
def spSz : Sp := fun vs H Q _ => ∃ k : Int, vs = [.int k] ∧ ∀ H', Same H H' → Q (.int ((bxs k).length : Nat)) H'
def spNums : Sp := fun vs H Q _ => ∃ (a : Addr) (ns : List Int) (lo hi g : Int), vs = [.ref a, .int lo, .int hi, .int g] ∧ H a = some (.lst (Is ns)) ∧ lo ≤ (ns.length : Int) ∧ (ns.length : Int) ≤ hi ∧ ns.length ≤ 64 ∧ (∀ n ∈ ns, 0 ≤ n ∧ n ≤ g) ∧ ∀ H', Same H H' → Q (.bl true) H'
inductive Sk where
  | few (c : Int)
  | groups (gs ms : List Int)
  | listed (ks : List Int)
structure GGr (gs ms : List Int) : Prop where
  l1 : 1 ≤ gs.length
  l6 : gs.length ≤ 6
  g : ∀ g ∈ gs, 0 ≤ g ∧ g ≤ 5
  m6 : ms.length = 6
  m : ∀ m ∈ ms, 0 ≤ m ∧ m ≤ 6
structure GLs (ks : List Int) : Prop where
  l1 : 1 ≤ ks.length
  few : Few64 ks
  nd : ks.Nodup
  k : ∀ k ∈ ks, 0 ≤ k ∧ k ≤ 63
theorem GLs.l64 {ks : List Int} (g : GLs ks) : ks.length ≤ 64 := by rcases g.few with h | h <;> omega
def SpAt (H : Hp) (p : Addr) : Sk → Prop
  | .few c => H p = some (.tup [.str "few", .int c])
  | .groups gs ms => ∃ g m, H p = some (.tup [.str "groups", .ref g, .ref m]) ∧ H g = some (.tup (Is gs)) ∧ H m = some (.tup (Is ms))
  | .listed ks => ∃ k, H p = some (.tup [.str "listed", .ref k]) ∧ H k = some (.tup (Is ks))
theorem SpAt.same {H H' : Hp} {p : Addr} {S : Sk} (s : Same H H') (h : SpAt H p S) : SpAt H' p S := by
  cases S with
  | few c => exact s _ _ h
  | groups gs ms => obtain ⟨g, m, a, b, c⟩ := h; exact ⟨g, m, s _ _ a, s _ _ b, s _ _ c⟩
  | listed ks => obtain ⟨k, a, b⟩ := h; exact ⟨k, s _ _ a, s _ _ b⟩
theorem SpAt.over {H : Hp} {D p : Addr} {S : Sk} {us zs : List V} (h : SpAt H p S) (e : H D = some (.lst us)) : SpAt (upd H D (.lst zs)) p S := by
  have st : ∀ (b : Addr) (xs : List V), H b = some (.tup xs) → upd H D (.lst zs) b = some (.tup xs) := fun b xs z => by rw [upd_ne (ne_of z e fun w => nomatch w)]; exact z
  cases S with
  | few c => exact st _ _ h
  | groups gs ms => obtain ⟨g, m, a, b, c⟩ := h; exact ⟨g, m, st _ _ a, st _ _ b, st _ _ c⟩
  | listed ks => obtain ⟨k, a, b⟩ := h; exact ⟨k, st _ _ a, st _ _ b⟩
structure Cs where
  f : Addr
  g : Addr
  l : Addr
structure CF (K : PySem.W.Frag) (C : Addr) (nm : List Str) : Prop where
  cl : Cls K C
  nk : ∀ x ∈ nm, PySem.W.findIn K (.ref C) x = some none
def FewAt (C : Addr) (H : Hp) (x : Addr) (c : Int) : Prop := ∃ dx, H x = some (.ins C dx [("limit", .int c)])
def GrAt (C : Addr) (H : Hp) (x : Addr) (gs ms : List Int) : Prop := ∃ dx g m, H x = some (.ins C dx [("groups", .ref g), ("most", .ref m)]) ∧ H g = some (.tup (Is gs)) ∧ H m = some (.tup (Is ms))
def LiAt (C : Addr) (H : Hp) (x : Addr) (ks : List Int) : Prop := ∃ dx k, H x = some (.ins C dx [("sets", .ref k)]) ∧ H k = some (.tup (Is ks))
theorem FewAt.same {C : Addr} {H H' : Hp} {x : Addr} {c : Int} (s : Same H H') (h : FewAt C H x c) : FewAt C H' x c := by obtain ⟨dx, a⟩ := h; exact ⟨dx, s _ _ a⟩
theorem GrAt.same {C : Addr} {H H' : Hp} {x : Addr} {gs ms : List Int} (s : Same H H') (h : GrAt C H x gs ms) : GrAt C H' x gs ms := by obtain ⟨dx, g, m, a, b, c⟩ := h; exact ⟨dx, g, m, s _ _ a, s _ _ b, s _ _ c⟩
theorem LiAt.same {C : Addr} {H H' : Hp} {x : Addr} {ks : List Int} (s : Same H H') (h : LiAt C H x ks) : LiAt C H' x ks := by obtain ⟨dx, k, a, b⟩ := h; exact ⟨dx, k, s _ _ a, s _ _ b⟩
def spLin (C : Addr) : Sp := fun vs H Q _ => ∃ (x dx a : Addr) (ks : List Int), vs = [.ref x, .ref a] ∧ H x = some (.ins C dx []) ∧ H a = some (.lst (Is ks)) ∧ GLs ks ∧
  ∀ k ms H', Same H H' → ms.Perm ks → ms.Pairwise (· ≤ ·) → H' k = some (.tup (Is ms)) → Q .non (upd H' x (.ins C dx [("sets", .ref k)]))
def spLmay (C : Addr) : Sp := fun vs H Q _ => ∃ (x : Addr) (ks : List Int) (k : Int), vs = [.ref x, .int k] ∧ LiAt C H x ks ∧ Q (.bl (inV (.int k) (Is ks))) H
theorem flat_is (ns : List Int) : (Is ns).all flatV = true := by
  rw [List.all_eq_true]
  intro v hv
  obtain ⟨n, _, rfl⟩ := List.mem_map.mp hv
  rfl
theorem is_length (ns : List Int) : (Is ns).length = ns.length := List.length_map _
theorem is_snoc (xs : List Int) (y : Int) : Is (xs ++ [y]) = Is xs ++ [V.int y] := by show (xs ++ [y]).map V.int = _; rw [List.map_append]; rfl
theorem is_at {ns : List Int} {i : Nat} {v : V} (h : (Is ns)[i]? = some v) : ∃ n, ns[i]? = some n ∧ v = .int n := by
  rw [List.getElem?_map] at h
  cases e : ns[i]? with
  | none => rw [e] at h; cases h
  | some n => rw [e] at h; cases h; exact ⟨n, rfl, rfl⟩
theorem at_is {ns : List Int} {k : Int} (h0 : 0 ≤ k) (h : k < (ns.length : Int)) : atI (Is ns) k = some (.int (ns.getD k.toNat 0)) := by
  have hk : k.toNat < ns.length := by omega
  have e := atI_nat (xs := Is ns) (j := k.toNat) (v := .int (ns.getD k.toNat 0)) (by rw [List.getElem?_map, List.getElem?_eq_getElem hk]; simp [hk])
  rw [show ((k.toNat : Nat) : Int) = k by omega] at e
  exact e
end TD
namespace TD
open PySem L2
open Builtin.Int (intBits)
theorem bit_or : ∀ (k : Fin 64) (b : Fin 6), Builtin.bitAnd (((k.val : Nat) : Int) / 2 ^ b.val) 1 = 0 ∨ Builtin.bitAnd (((k.val : Nat) : Int) / 2 ^ b.val) 1 = 1 := by decide +kernel
theorem bit01 {k : Int} {b : Nat} (h0 : 0 ≤ k) (h1 : k < 64) (hb6 : b < 6) : Builtin.bitAnd (k / 2 ^ ((0 : Int) + (b : Int)).toNat) 1 = if hb k (0 + (b : Int)) = true then 1 else 0 := by
  have e := bit_or ⟨k.toNat, by omega⟩ ⟨b, hb6⟩
  have ek : ((k.toNat : Nat) : Int) = k := by omega
  simp only [ek] at e
  have eb : ((0 : Int) + (b : Int)).toNat = b := by omega
  unfold hb
  rw [eb]
  rcases e with e | e
  · rw [e, if_neg (by decide)]
  · rw [e, if_pos (by decide)]
def spLSz : Sp := fun vs H Q _ => ∃ k : Int, vs = [.int k] ∧ 0 ≤ k ∧ k < 64 ∧ Q (.int ((bxs k).length : Nat)) H
def spCA (K : PySem.W.Frag) : Sp := fun vs H Q _ => ∃ (a : Addr) (ns : List Int) (k : Int), vs = [.ref a, .int k] ∧ SqL K H a (ns.map V.int) ∧ 0 ≤ k ∧ k ≤ 1000 ∧ ∀ j, 0 ≤ j → j < 2147483629 → Q (.int j) H
def spMn (K : PySem.W.Frag) : Sp := fun vs H Q _ => ∃ (a : Addr) (ns : List Int) (f m : Int), vs = [.ref a, .int f, .int m] ∧ SqL K H a (ns.map V.int) ∧ 1 ≤ f ∧ f ≤ 1000 ∧ 0 ≤ m ∧ ∀ j, 0 ≤ j → j ≤ m → Q (.int j) H
def PatAt (cs : Cs) (H : Hp) (x : Addr) : Sk → Prop
  | .few c => FewAt cs.f H x c
  | .groups gs ms => GrAt cs.g H x gs ms
  | .listed ks => ∃ ms, ms.Perm ks ∧ ms.Pairwise (· ≤ ·) ∧ LiAt cs.l H x ms
theorem PatAt.same {cs : Cs} {H H' : Hp} {x : Addr} {S : Sk} (s : Same H H') (h : PatAt cs H x S) : PatAt cs H' x S := by
  cases S with
  | few c => exact FewAt.same s h
  | groups gs ms => exact GrAt.same s h
  | listed ks => obtain ⟨ms, a, b, c⟩ := h; exact ⟨ms, a, b, c.same s⟩
end TD
namespace TD
open PySem L2
theorem filt_snoc (k : Int) (i : Nat) : ((six (i + 1)).filter (hb k)) = (six i).filter (hb k) ++ (if hb k (0 + (i : Int)) = true then [0 + (i : Int)] else []) := by
  rw [six_succ, List.filter_append]
  congr 1
  rw [List.filter_cons]
  split <;> rfl
theorem getD_mem {ns : List Int} {i : Nat} (h : i < ns.length) : ns.getD i 0 ∈ ns := by
  rw [show ns.getD i 0 = ns[i] by simp [h]]
  exact List.getElem_mem h
end TD
namespace TD
open PySem L2
theorem gls_asc {ks : List Int} (h1 : 1 ≤ ks.length) (h64 : ks.length ≤ 64) (lt : ks.Pairwise (· < ·)) (hk : ∀ x ∈ ks, 0 ≤ x ∧ x ≤ 63) : GLs ks := by
  refine ⟨h1, ?_, lt.imp fun h => Int.ne_of_lt h, hk⟩
  by_cases e : ks.length = 64
  · exact .inr ⟨e, lt.imp fun h => Int.le_of_lt h⟩
  · exact .inl (by omega)
end TD
namespace TD
open PySem L2
theorem LiAt.over {C : Addr} {H : Hp} {D x : Addr} {ks : List Int} {us zs : List V} (h : LiAt C H x ks) (e : H D = some (.lst us)) : LiAt C (upd H D (.lst zs)) x ks := by
  obtain ⟨dx, k, a, b⟩ := h
  exact ⟨dx, k, by rw [upd_ne (ne_of a e fun z => nomatch z)]; exact a, by rw [upd_ne (ne_of b e fun z => nomatch z)]; exact b⟩
theorem PatAt.over {cs : Cs} {H : Hp} {D x : Addr} {S : Sk} {us zs : List V} (h : PatAt cs H x S) (e : H D = some (.lst us)) : PatAt cs (upd H D (.lst zs)) x S := by
  cases S with
  | few c => obtain ⟨dx, a⟩ := (show FewAt cs.f H x c from h); exact ⟨dx, by rw [upd_ne (ne_of a e fun z => nomatch z)]; exact a⟩
  | groups gs ms =>
    obtain ⟨dx, g, m, a, b, c⟩ := (show GrAt cs.g H x gs ms from h)
    exact ⟨dx, g, m, by rw [upd_ne (ne_of a e fun z => nomatch z)]; exact a, by rw [upd_ne (ne_of b e fun z => nomatch z)]; exact b, by rw [upd_ne (ne_of c e fun z => nomatch z)]; exact c⟩
  | listed ks => obtain ⟨ms, a, b, c⟩ := h; exact ⟨ms, a, b, c.over e⟩
structure LtAt (H : Hp) (D : Addr) (ls : List (Addr × List Int)) : Prop where
  lst : H D = some (.lst (ls.map fun l => V.ref l.1))
  each : ∀ l ∈ ls, H l.1 = some (.lst (Is l.2)) ∧ l.1 ≠ D
theorem LtAt.same {H H' : Hp} {D : Addr} {ls : List (Addr × List Int)} (s : Same H H') (h : LtAt H D ls) : LtAt H' D ls := ⟨s _ _ h.lst, fun l hl => ⟨s _ _ (h.each l hl).1, (h.each l hl).2⟩⟩
end TD
set_option Elab.async false
set_option linter.all false
set_option maxRecDepth 100000
set_option maxHeartbeats 4000000
namespace TD
open PySem L2
def shW (o e b : Int) : Int := if hb e b = true then (((bxs e).length : Nat) : Int) + 2 else if hb o b = true then (((bxs e).length : Nat) : Int) + 1 else 0
def spWith : Sp := fun vs H Q _ => ∃ k b : Int, vs = [.int k, .int b] ∧ 0 ≤ b ∧ b < 100 ∧ Q (.int (Builtin.bitOr k (1 * 2 ^ b.toNat))) H
def spShW : Sp := fun vs H Q _ => ∃ o e b : Int, vs = [.int o, .int e, .int b] ∧ 0 ≤ b ∧ ∀ H', Same H H' → Q (.int (shW o e b)) H'
def spShWs : Sp := fun vs H Q _ => ∃ o e m : Int, vs = [.int o, .int e, .int m] ∧ 0 ≤ m ∧ m ≤ 6 ∧ ∀ r H', Same H H' → H r = none → H' r = some (.lst (Is ((six m.toNat).map (shW o e)))) → Q (.ref r) H'
end TD
namespace TD
open PySem L2
abbrev Bs (bs : List Bool) : List V := bs.map V.bl
theorem bs_at {bs : List Bool} {k : Int} (h0 : 0 ≤ k) (h : k < (bs.length : Int)) : atI (Bs bs) k = some (.bl (bs.getD k.toNat false)) := by
  have hk : k.toNat < bs.length := by omega
  have e := atI_nat (xs := Bs bs) (j := k.toNat) (v := .bl (bs.getD k.toNat false)) (by rw [List.getElem?_map, List.getElem?_eq_getElem hk]; simp [hk])
  rw [show ((k.toNat : Nat) : Int) = k by omega] at e
  exact e
theorem bs_length (bs : List Bool) : (Bs bs).length = bs.length := List.length_map _
theorem low_all : ∀ (k : Fin 64) (b : Fin 6), hb ((k.val : Nat) : Int) ((b.val : Nat) : Int) = true → (2 : Int) ^ b.val ≤ ((k.val : Nat) : Int) := by decide +kernel
theorem low {k b : Int} (h0 : 0 ≤ k) (h1 : k < 64) (hb1 : b ∈ bxs k) : 0 ≤ k - 1 * 2 ^ b.toNat ∧ k - 1 * 2 ^ b.toNat < k := by
  have r := bxs_mem hb1
  have e := low_all ⟨k.toNat, by omega⟩ ⟨b.toNat, by omega⟩
  simp only [show ((k.toNat : Nat) : Int) = k by omega, show ((b.toNat : Nat) : Int) = b by omega] at e
  have h2 := e (List.mem_filter.mp hb1).2
  have h3 : (0 : Int) < 2 ^ b.toNat := Int.pow_pos (by decide)
  omega
def Down (bs : List Bool) (n : Nat) : Prop := ∀ o : Nat, o < n → ∀ b ∈ bxs (0 + (o : Int)), bs.getD (0 + (o : Int)).toNat false = true → bs.getD (0 + (o : Int) - 1 * 2 ^ b.toNat).toNat false = true
def spLess : Sp := fun vs H Q _ => ∃ (a : Addr) (bs : List Bool), vs = [.ref a] ∧ H a = some (.lst (Bs bs)) ∧ bs.length ≤ 64 ∧ (∀ H', Same H H' → Down bs bs.length → Q .non H') ∧
  ∀ (r : Addr) (H' : Hp) (o e : Int), Same H H' → H' r = some (.tup [.str "less", .int o, .int e]) → Q (.ref r) H'
end TD
namespace TD
open PySem L2
theorem box_in : ∀ (m : Fin 7) (k : Fin 64) (b : Fin 6), k.val < 2 ^ m.val → hb ((k.val : Nat) : Int) ((b.val : Nat) : Int) = true → b.val < m.val := by decide +kernel
theorem or_in : ∀ (m : Fin 7) (k : Fin 64) (b : Fin 6), k.val < 2 ^ m.val → b.val < m.val → 0 ≤ Builtin.bitOr ((k.val : Nat) : Int) (2 ^ b.val) ∧ Builtin.bitOr ((k.val : Nat) : Int) (2 ^ b.val) < 2 ^ m.val := by decide +kernel
theorem grow_in {m : Nat} {o e b : Int} (hm : m ≤ 6) (o0 : 0 ≤ o) (o1 : o < 2 ^ m) (e0 : 0 ≤ e) (e1 : e < 2 ^ m) (h : b ∈ bxs o) : 0 ≤ Builtin.bitOr e (1 * 2 ^ b.toNat) ∧ Builtin.bitOr e (1 * 2 ^ b.toNat) < 2 ^ m := by
  have r := bxs_mem h
  have p6 : (2 : Int) ^ m ≤ 64 := by
    have : m = 0 ∨ m = 1 ∨ m = 2 ∨ m = 3 ∨ m = 4 ∨ m = 5 ∨ m = 6 := by omega
    rcases this with z | z | z | z | z | z | z <;> subst z <;> decide
  have pn : ((2 ^ m : Nat) : Int) = (2 : Int) ^ m := by push_cast; rfl
  have ko : o.toNat < 2 ^ m := by omega
  have ke : e.toNat < 2 ^ m := by omega
  have x := box_in ⟨m, by omega⟩ ⟨o.toNat, by omega⟩ ⟨b.toNat, by omega⟩ ko
  simp only [show ((o.toNat : Nat) : Int) = o by omega, show ((b.toNat : Nat) : Int) = b by omega] at x
  have y := or_in ⟨m, by omega⟩ ⟨e.toNat, by omega⟩ ⟨b.toNat, by omega⟩ ke (x (List.mem_filter.mp h).2)
  simp only [show ((e.toNat : Nat) : Int) = e by omega] at y
  rw [Int.one_mul]
  exact y
def growL (bs : List Bool) (o e : Int) : List Bool := ((bxs o).filter fun b => !hb e b).map fun b => bs.getD (Builtin.bitOr e (1 * 2 ^ b.toNat)).toNat false
def spGrow : Sp := fun vs H Q _ => ∃ (a : Addr) (bs : List Bool) (m : Nat) (o e : Int), vs = [.ref a, .int o, .int e] ∧ H a = some (.lst (Bs bs)) ∧ bs.length = 2 ^ m ∧ m ≤ 6 ∧ 0 ≤ o ∧ o < (bs.length : Int) ∧ 0 ≤ e ∧ e < (bs.length : Int) ∧ ∀ H', Same H H' → Q (.bl ((growL bs o e).any id)) H'
end TD
namespace TD
open PySem L2
def pick (bs : List Bool) (s : Nat) (k : Int) : Bool := bs.getD k.toNat false && ((bxs k).length == s)
def selS (bs : List Bool) (i s : Nat) : List Int := (six i).filter (pick bs s)
theorem selS_len (bs : List Bool) (i s : Nat) : (selS bs i s).length ≤ i := Nat.le_trans (List.length_filter_le _ _) (by unfold six; rw [List.length_map, List.length_range]; exact Nat.le_refl _)
theorem selS_succ (bs : List Bool) (i s : Nat) : selS bs (i + 1) s = selS bs i s ++ (if pick bs s (0 + (i : Int)) = true then [0 + (i : Int)] else []) := by
  unfold selS
  rw [six_succ, List.filter_append]
  congr 1
  rw [List.filter_cons]
  split <;> rfl
structure ByAt (H : Hp) (D : Addr) (ls : List Addr) (bs : List Bool) (i : Nat) : Prop where
  lst : H D = some (.lst (ls.map V.ref))
  len : ls.length = 7
  nd : ls.Nodup
  ne : ∀ l ∈ ls, l ≠ D
  each : ∀ (s : Nat) l, ls[s]? = some l → H l = some (.lst (Is (selS bs i s)))
def spBySz : Sp := fun vs H Q _ => ∃ (a : Addr) (bs : List Bool), vs = [.ref a] ∧ H a = some (.lst (Bs bs)) ∧ bs.length ≤ 64 ∧ ∀ r H' ls, Same H H' → ByAt H' r ls bs bs.length → Q (.ref r) H'
end TD
namespace TD
open PySem L2
structure MoreF (bs : List Bool) (o e : Int) : Prop where
  o0 : 0 ≤ o
  o1 : o < (bs.length : Int)
  e0 : 0 ≤ e
  e1 : e < (bs.length : Int)
  bo : bs.getD o.toNat false = true
  be : bs.getD e.toNat false = true
  sz : (bxs o).length = (bxs e).length + 1
  no : (growL bs o e).any id = false
theorem selS_mem {bs : List Bool} {i s : Nat} {x : Int} (h : x ∈ selS bs i s) : 0 ≤ x ∧ x < (i : Int) ∧ bs.getD x.toNat false = true ∧ (bxs x).length = s := by
  obtain ⟨h1, h2⟩ := List.mem_filter.mp h
  have r := mem_six h1
  unfold pick at h2
  rw [Bool.and_eq_true, beq_iff_eq] at h2
  exact ⟨r.1, r.2, h2.1, h2.2⟩
theorem at0 {xs : List V} {i : Nat} {v : V} (h : xs[i]? = some v) : atI xs (0 + (i : Int)) = some v := by rw [Int.zero_add]; exact atI_nat h
theorem at1 {xs : List V} {i : Nat} {v : V} (h : xs[i + 1]? = some v) : atI xs (0 + (i : Int) + 1) = some v := by
  have := atI_nat h
  rw [show ((i + 1 : Nat) : Int) = 0 + (i : Int) + 1 by omega] at this
  exact this
def spMore : Sp := fun vs H Q _ => ∃ (a : Addr) (bs : List Bool) (m : Nat), vs = [.ref a] ∧ H a = some (.lst (Bs bs)) ∧ bs.length = 2 ^ m ∧ m ≤ 6 ∧ (∀ H', Same H H' → Q .non H') ∧
  ∀ (r : Addr) (H' : Hp) (o e : Int), Same H H' → H' r = some (.tup [.str "more", .int o, .int e]) → MoreF bs o e → Q (.ref r) H'
end TD
namespace TD
open PySem L2
def letsOf (ms : List Int) (n : Nat) : List Bool := (six n).map fun k => inV (.int k) (Is ms)
theorem letsOf_len (ms : List Int) (n : Nat) : (letsOf ms n).length = n := by unfold letsOf six; rw [List.length_map, List.length_map, List.length_range]
structure FlawM (ms : List Int) (m : Nat) (o e : Int) : Prop where
  f : MoreF (letsOf ms (2 ^ m)) o e
  d : Down (letsOf ms (2 ^ m)) (2 ^ m)
  z : (letsOf ms (2 ^ m)).getD 0 false = true
def spFlaw (C : Addr) : Sp := fun vs H Q _ => ∃ (x : Addr) (ms : List Int) (m : Nat), vs = [.ref x, .int (m : Int)] ∧ LiAt C H x ms ∧ 1 ≤ m ∧ m ≤ 6 ∧ (∀ H', Same H H' → Q .non H') ∧
  (∀ (r : Addr) (H' : Hp) (st : Str) (o e : Int), Same H H' → H' r = some (.tup [.str st, .int o, .int e]) → st ≠ "more" → Q (.ref r) H') ∧
  ∀ (r : Addr) (H' : Hp) (o e : Int), Same H H' → H' r = some (.tup [.str "more", .int o, .int e]) → FlawM ms m o e → Q (.ref r) H'
end TD
namespace TD
open PySem L2
def spLShort : Sp := fun vs H Q _ => ∃ (r : Addr) (o e : Int) (m : Nat), vs = [.ref r, .int o, .int e, .int (m : Int)] ∧ H r = some (.lst (Is ((six m).map (shW o e)))) ∧ 0 ≤ e ∧ e < 64 ∧ m ≤ 6 ∧ Q (.bl true) H
theorem sh_at {o e : Int} {m i : Nat} (h : i < m) : atI (Is ((six m).map (shW o e))) (0 + (i : Int)) = some (.int (shW o e (0 + (i : Int)))) := by
  rw [show (0 + (i : Int)) = ((i : Nat) : Int) by omega]
  refine atI_nat ?_
  rw [List.getElem?_map, List.getElem?_map]
  unfold six
  rw [List.getElem?_map, List.getElem?_range h]
  simp
end TD
namespace TD
open PySem L2
def sumW (o e k : Int) (m : Nat) : Int := (((six m).filter (hb k)).map (shW o e)).sum
def spLSum : Sp := fun vs H Q _ => ∃ (r : Addr) (o e k : Int) (m : Nat), vs = [.ref r, .int k] ∧ H r = some (.lst (Is ((six m).map (shW o e)))) ∧ m ≤ 6 ∧ ∀ H', Same H H' → Q (.int (sumW o e k m)) H'
end TD
set_option Elab.async false
set_option linter.all false
set_option maxRecDepth 100000
namespace L2
open PySem PySem.Spec PyProof.Rows
section
variable {X : Cx}
theorem map_erI : ∀ (ns : List Int) (j : Nat), (ns.map V.int).eraseIdx j = (ns.eraseIdx j).map V.int
  | [], _ => rfl
  | _ :: _, 0 => rfl
  | n :: ns, j + 1 => by
    show V.int n :: (ns.map V.int).eraseIdx j = V.int n :: (ns.eraseIdx j).map V.int
    rw [map_erI ns j]
theorem ints_map : ∀ {us : List Value} {ns : List Int}, IntsAre us ns → us.map numOf = ns
  | _, _, .nil => rfl
  | _, _, .cons n t h => by rw [List.map_cons, ints_map h]; rfl
def rRemove : V → List V → Hp → VK → Prop := fun x vs H Q => ∃ (l : Addr) (ns : List Int) (k : Int), x = .ref l ∧ vs = [.int k] ∧ H l = some (.lst (ns.map V.int)) ∧ k ∈ ns ∧ Q .non (upd H l (.lst ((ns.erase k).map V.int)))
theorem mt_remove : MtM X "list.remove" rRemove := by
  intro pins s σ H x vs v us Q I rx rv h
  obtain ⟨l, ns, k, rfl, rfl, hH, hk, q⟩ := h
  cases rx
  obtain ⟨u, rfl, ru⟩ := rv.one
  obtain ⟨t, rfl⟩ := ru
  obtain ⟨z, its, n, r, hl, e⟩ := I.lstM hH
  have hi := intsAre_of r
  have em := ints_map hi
  have el : its.length = ns.length := by rw [← em, List.length_map]
  have hj : ns.idxOf k < ns.length := List.idxOf_lt_length_of_mem hk
  have at' : ∀ (m : Nat) (hm : m < its.toArray.size), numOf its.toArray[m] = ns[m]'(by rw [← el]; simpa using hm) := fun m hm => by
    have hm' : m < its.length := by simpa using hm
    have e2 : (its.map numOf)[m]? = ns[m]? := by rw [em]
    rw [List.getElem?_map, List.getElem?_eq_getElem hm', List.getElem?_eq_getElem (by omega)] at e2
    have e3 : numOf its[m] = ns[m] := by simpa using e2
    rw [← e3]
    simp
  have ee : (ns.map V.int).eraseIdx (ns.idxOf k) = (ns.erase k).map V.int := by
    rw [List.erase_eq_eraseIdx_of_idxOf rfl, map_erI]
  refine call_meets F.slot_list_remove ⟨_, e, rfl⟩ F.entry_list_remove (F.args_list_remove_2 _ _) (MeetsSeq.list_remove l its.toArray n (.int k t) (fun y => numOf y == k) (fun y hy => ?_) (ns.idxOf k) (by rw [List.size_toArray]; omega) ?_ (fun m hm hlt => ?_) (by rw [List.size_toArray]; omega)) ⟨e, ?_⟩
  · obtain ⟨m, t', rfl⟩ := hi.all y (by simpa using hy)
    exact MeetsSeq.EqGives.int m k t' t
  · rw [at' _ (by rw [List.size_toArray]; omega), List.getElem_idxOf]
    exact beq_self_eq_true k
  · rw [at' m hm]
    have := List.not_of_lt_findIdx (p := (· == k)) (xs := ns) (i := m) hlt
    simpa using this
  · refine ⟨.non, _, I.lset (its' := its.eraseIdx (ns.idxOf k)) hH e ?_ (r.eraseIdx _) ?_, rfl, by rw [ee]; exact q⟩
    · show its.toArray.eraseIdxIfInBounds _ = (its.eraseIdx _).toArray
      rw [List.eraseIdxIfInBounds_toArray]
    · have := len_erase (ns.map V.int) (ns.idxOf k)
      omega
end
end L2
set_option Elab.async false
set_option linter.all false
set_option maxRecDepth 100000
set_option maxHeartbeats 4000000
namespace TD
open PySem L2
open Builtin.Int (intBits)
structure WAt (H : Hp) (a : Addr) (qs : List Addr) (ns : List Int) : Prop where
  lst : H a = some (.lst (qs.map V.ref))
  len : qs.length = ns.length
  each : ∀ (i : Nat) q, qs[i]? = some q → H q = some (.tup [.int (ns.getD i 0), .int 1])
theorem WAt.same {H H' : Hp} {a : Addr} {qs : List Addr} {ns : List Int} (s : Same H H') (h : WAt H a qs ns) : WAt H' a qs ns := ⟨s _ _ h.lst, h.len, fun i q hq => s _ _ (h.each i q hq)⟩
theorem WAt.at' {H : Hp} {a : Addr} {qs : List Addr} {ns : List Int} (h : WAt H a qs ns) {k : Int} (h0 : 0 ≤ k) (hk : k < (ns.length : Int)) : ∃ q, atI (qs.map V.ref) k = some (.ref q) ∧ H q = some (.tup [.int (ns.getD k.toNat 0), .int 1]) := by
  have hl := h.len
  have hq : qs[k.toNat]? = some (qs[k.toNat]'(by omega)) := List.getElem?_eq_getElem (by omega)
  refine ⟨_, ?_, h.each _ _ hq⟩
  have e := atI_nat (xs := qs.map V.ref) (j := k.toNat) (v := V.ref (qs[k.toNat]'(by omega))) (by rw [List.getElem?_map, hq]; rfl)
  rw [show ((k.toNat : Nat) : Int) = k by omega] at e
  exact e
def plc (ns ord : List Int) (b : Int) : Nat → Nat
  | 0 => 0
  | p + 1 => if ns.getD (ord.getD p 0).toNat 0 < ns.getD b.toNat 0 then plc ns ord b p else p + 1
theorem plc_le (ns ord : List Int) (b : Int) : ∀ p, plc ns ord b p ≤ p
  | 0 => Nat.le_refl _
  | p + 1 => by
    unfold plc
    split
    · exact Nat.le_succ_of_le (plc_le ns ord b p)
    · exact Nat.le_refl _
def insF (ns o : List Int) (b : Int) : List Int := o.take (plc ns o b o.length) ++ b :: o.drop (plc ns o b o.length)
def fallN (ns : List Int) : Nat → List Int
  | 0 => []
  | i + 1 => insF ns (fallN ns i) (0 + (i : Int))
theorem insF_len (ns o : List Int) (b : Int) : (insF ns o b).length = o.length + 1 := by
  have := plc_le ns o b o.length
  unfold insF
  rw [List.length_append, List.length_cons, List.length_take, List.length_drop]
  omega
theorem fallN_len (ns : List Int) : ∀ i, (fallN ns i).length = i
  | 0 => rfl
  | i + 1 => by show (insF _ _ _).length = _; rw [insF_len, fallN_len]
theorem fallN_mem (ns : List Int) : ∀ (i : Nat) (b : Int), b ∈ fallN ns i → 0 ≤ b ∧ b < (i : Int)
  | 0, _, h => nomatch h
  | i + 1, b, h => by
    have h : b ∈ insF ns (fallN ns i) (0 + (i : Int)) := h
    unfold insF at h
    rcases List.mem_append.mp h with u | u
    · have := fallN_mem ns i b (List.mem_of_mem_take u)
      omega
    · rcases List.mem_cons.mp u with z | z
      · omega
      · have := fallN_mem ns i b (List.mem_of_mem_drop z)
        omega
theorem is_ins (ns o : List Int) (b : Int) : Is (insF ns o b) = (Is o).take (plc ns o b o.length) ++ V.int b :: (Is o).drop (plc ns o b o.length) := by
  unfold insF
  show (List.map V.int _) = _
  rw [List.map_append, List.map_cons, List.map_take, List.map_drop]
def spFall : Sp := fun vs H Q _ => ∃ (a : Addr) (qs : List Addr) (ns : List Int), vs = [.ref a] ∧ WAt H a qs ns ∧ ns.length ≤ 6 ∧ (∀ n ∈ ns, intBits n ≤ 10000) ∧ ∀ r H', Same H H' → H r = none → H' r = some (.lst (Is (fallN ns ns.length))) → Q (.ref r) H'
def gst (ms ns : List Int) (k b : Int) : Int := if decide (0 * 1 < ns.getD b.toNat 0 * 1) = true ∧ inV (.int (Builtin.bitOr k (1 * 2 ^ b.toNat))) (Is ms) = true then Builtin.bitOr k (1 * 2 ^ b.toNat) else k
def chsn (ms ns : List Int) : Int := (fallN ns ns.length).foldl (gst ms ns) 0
def spChosen (C : Addr) : Sp := fun vs H Q _ => ∃ (x a : Addr) (ms : List Int) (qs : List Addr) (ns : List Int), vs = [.ref x, .ref a] ∧ LiAt C H x ms ∧ WAt H a qs ns ∧ ns.length ≤ 6 ∧ (∀ n ∈ ns, intBits n ≤ 10000) ∧ ∀ r H', Same H H' → H' r = some (.lst (Is (bxs (chsn ms ns)))) → Q (.ref r) H'
def restO (m : Nat) (o e : Int) : List Int := (six m).filter fun b => !hb e b && !hb o b
def gainO (o e : Int) : List Int := (bxs o).filter fun b => !hb e b
def fallOk (m o e : Nat) : Bool := fallN ((six m).map (shW (o : Int) (e : Int))) m == bxs (e : Int) ++ gainO (o : Int) (e : Int) ++ restO m (o : Int) (e : Int)
theorem fall_all : ∀ (m : Fin 7) (o e : Fin 64), o.val < 2 ^ m.val → e.val < 2 ^ m.val → (bxs ((o.val : Nat) : Int)).length = (bxs ((e.val : Nat) : Int)).length + 1 → fallOk m.val o.val e.val = true := by decide +kernel
theorem sum_all : ∀ (o e : Fin 64), (bxs ((o.val : Nat) : Int)).length = (bxs ((e.val : Nat) : Int)).length + 1 → sumW ((o.val : Nat) : Int) ((e.val : Nat) : Int) ((e.val : Nat) : Int) 6 < sumW ((o.val : Nat) : Int) ((e.val : Nat) : Int) ((o.val : Nat) : Int) 6 := by decide +kernel
theorem box_all : ∀ (m : Fin 7) (e : Fin 64), e.val < 2 ^ m.val → (six m.val).filter (hb ((e.val : Nat) : Int)) = bxs ((e.val : Nat) : Int) := by decide +kernel
def orP (e : Int) (j : Nat) : Int := ((bxs e).take j).foldl (fun k b => Builtin.bitOr k (1 * 2 ^ b.toNat)) 0
theorem orP_all : ∀ (e : Fin 64), orP ((e.val : Nat) : Int) (bxs ((e.val : Nat) : Int)).length = ((e.val : Nat) : Int) := by decide +kernel
def downOk (e j : Nat) : Bool := let b := (bxs (e : Int)).getD j 0; decide (0 ≤ orP (e : Int) (j + 1)) && decide (orP (e : Int) (j + 1) ≤ (e : Int)) && decide (b ∈ bxs (orP (e : Int) (j + 1))) && decide (orP (e : Int) (j + 1) - 1 * 2 ^ b.toNat = orP (e : Int) j)
theorem down_all : ∀ (e : Fin 64) (j : Fin 6), j.val < (bxs ((e.val : Nat) : Int)).length → downOk e.val j.val = true := by decide +kernel
end TD
namespace TD
open PySem L2
theorem lets_at {ms : List Int} {n : Nat} {k : Int} (h0 : 0 ≤ k) (h : k < (n : Int)) : (letsOf ms n).getD k.toNat false = inV (.int k) (Is ms) := by
  unfold letsOf six
  have hk : k.toNat < n := by omega
  rw [List.getD_eq_getElem?_getD, List.getElem?_map, List.getElem?_map, List.getElem?_range hk]
  show inV (.int (0 + ((k.toNat : Nat) : Int))) (Is ms) = _
  rw [show (0 + ((k.toNat : Nat) : Int)) = k by omega]
theorem foldl_stay {g : Int → Int → Int} {e : Int} : ∀ {l : List Int}, (∀ b ∈ l, g e b = e) → l.foldl g e = e
  | [], _ => rfl
  | b :: l, h => by
    rw [List.foldl_cons, h b List.mem_cons_self]
    exact foldl_stay fun b hb => h b (List.mem_cons_of_mem _ hb)
structure FlB (ms : List Int) (m : Nat) (o e : Int) (N : Nat) : Prop where
  N64 : N ≤ 64
  eN : N = 2 ^ m
  o0 : 0 ≤ o
  o1 : o < (N : Int)
  e0 : 0 ≤ e
  e1 : e < (N : Int)
theorem FlawM.bnd {ms : List Int} {m : Nat} {o e : Int} (f : FlawM ms m o e) (m6 : m ≤ 6) : FlB ms m o e (2 ^ m) := by
  have p64 : 2 ^ m ≤ 64 := Nat.le_trans (Nat.pow_le_pow_right (by decide) m6) (by decide)
  have a := f.f.o1
  have b := f.f.e1
  rw [letsOf_len] at a b
  exact ⟨p64, rfl, f.f.o0, a, f.f.e0, b⟩
theorem sh_get {m : Nat} {o e b : Int} (h0 : 0 ≤ b) (h : b < (m : Int)) : ((six m).map (shW o e)).getD b.toNat 0 = shW o e b := by
  have hk : b.toNat < m := by omega
  unfold six
  rw [List.getD_eq_getElem?_getD, List.getElem?_map, List.getElem?_map, List.getElem?_range hk]
  show shW o e (0 + ((b.toNat : Nat) : Int)) = _
  rw [show (0 + ((b.toNat : Nat) : Int)) = b by omega]
theorem box_lt {m : Nat} {k b : Int} (m6 : m ≤ 6) (k0 : 0 ≤ k) (k1 : k < ((2 ^ m : Nat) : Int)) (h : b ∈ bxs k) : b < (m : Int) := by
  have p64 : 2 ^ m ≤ 64 := Nat.le_trans (Nat.pow_le_pow_right (by decide) m6) (by decide)
  have r := bxs_mem h
  have ko : k.toNat < 2 ^ m := by omega
  have x := box_in ⟨m, by omega⟩ ⟨k.toNat, by omega⟩ ⟨b.toNat, by omega⟩ ko
  simp only [show ((k.toNat : Nat) : Int) = k by omega, show ((b.toNat : Nat) : Int) = b by omega] at x
  have := x (List.mem_filter.mp h).2
  omega
theorem sixM_len (m : Nat) : (six m).length = m := by unfold six; rw [List.length_map, List.length_range]
theorem orP_succ {e b : Int} {j : Nat} (h : (bxs e)[j]? = some b) : orP e (j + 1) = Builtin.bitOr (orP e j) (1 * 2 ^ b.toNat) := by
  unfold orP
  rw [take_snoc h, List.foldl_append]
  rfl
theorem orP_in {ms : List Int} {m : Nat} {o e : Int} (f : FlawM ms m o e) (m6 : m ≤ 6) : ∀ d, d ≤ (bxs e).length → inV (.int (orP e ((bxs e).length - d))) (Is ms) = true
  | 0, _ => by
    obtain ⟨N64, eN, o0, o1, e0, e1⟩ := f.bnd m6
    have a := orP_all ⟨e.toNat, by omega⟩
    simp only [show ((e.toNat : Nat) : Int) = e by omega] at a
    rw [Nat.sub_zero, a, ← lets_at (n := 2 ^ m) e0 e1]
    exact f.f.be
  | d + 1, hd => by
    obtain ⟨N64, eN, o0, o1, e0, e1⟩ := f.bnd m6
    have ih := orP_in f m6 d (by omega)
    have l6 := bxs_len e
    obtain ⟨j, hj⟩ : ∃ j, j = (bxs e).length - (d + 1) := ⟨_, rfl⟩
    have hj2 : (bxs e).length - d = j + 1 := by omega
    rw [hj2] at ih
    rw [← hj]
    have dn := down_all ⟨e.toNat, by omega⟩ ⟨j, by omega⟩
    simp only [show ((e.toNat : Nat) : Int) = e by omega] at dn
    have dn := dn (by omega)
    unfold downOk at dn
    simp only [show ((e.toNat : Nat) : Int) = e by omega, Bool.and_eq_true, decide_eq_true_eq] at dn
    obtain ⟨⟨⟨d1, d2⟩, d3⟩, d4⟩ := dn
    have lo := low (k := orP e (j + 1)) d1 (by omega) d3
    have ek : (0 : Int) + (((orP e (j + 1)).toNat : Nat) : Int) = orP e (j + 1) := by omega
    have dd := f.d (orP e (j + 1)).toNat (by omega)
    rw [ek] at dd
    have := dd _ d3 (by rw [lets_at d1 (by omega)]; exact ih)
    rw [lets_at lo.1 (by omega), d4] at this
    exact this
theorem chosen_e {ms : List Int} {m : Nat} {o e : Int} (f : FlawM ms m o e) (m6 : m ≤ 6) : chsn ms ((six m).map (shW o e)) = e := by
  obtain ⟨N64, eN, o0, o1, e0, e1⟩ := f.bnd m6
  have l6 := bxs_len e
  have hl : ((six m).map (shW o e)).length = m := by rw [List.length_map, sixM_len]
  have fa := fall_all ⟨m, by omega⟩ ⟨o.toNat, by omega⟩ ⟨e.toNat, by omega⟩
  simp only [show ((e.toNat : Nat) : Int) = e by omega, show ((o.toNat : Nat) : Int) = o by omega] at fa
  have fa := fa (by omega) (by omega) f.f.sz
  unfold fallOk at fa
  simp only [show ((e.toNat : Nat) : Int) = e by omega, show ((o.toNat : Nat) : Int) = o by omega] at fa
  have fa := eq_of_beq fa
  unfold chsn
  rw [hl, fa, List.foldl_append, List.foldl_append]
  have p1 : ∀ j, j ≤ (bxs e).length → ((bxs e).take j).foldl (gst ms ((six m).map (shW o e))) 0 = orP e j := by
    intro j
    induction j with
    | zero => intro _; rfl
    | succ j ih =>
      intro hj
      have hb1 : (bxs e)[j]? = some ((bxs e)[j]'(by omega)) := List.getElem?_eq_getElem (by omega)
      have hbm := List.mem_of_getElem? hb1
      have r := bxs_mem hbm
      have bl := box_lt m6 e0 e1 hbm
      have os := orP_succ hb1
      have oi := orP_in f m6 ((bxs e).length - (j + 1)) (by omega)
      rw [show (bxs e).length - ((bxs e).length - (j + 1)) = j + 1 by omega, os] at oi
      rw [take_snoc hb1, List.foldl_append, ih (by omega), os]
      show gst _ _ _ _ = _
      unfold gst
      refine if_pos ⟨decide_eq_true ?_, oi⟩
      rw [sh_get r.1 bl]
      unfold shW
      rw [if_pos (List.mem_filter.mp hbm).2]
      omega
  have a := orP_all ⟨e.toNat, by omega⟩
  simp only [show ((e.toNat : Nat) : Int) = e by omega] at a
  have p2 := p1 _ (Nat.le_refl _)
  rw [List.take_length, a] at p2
  rw [p2]
  have p3 : (gainO o e).foldl (gst ms ((six m).map (shW o e))) e = e := by
    refine foldl_stay fun b hb1 => ?_
    have hbo := (List.mem_filter.mp hb1).1
    have pn : ((2 ^ m : Nat) : Int) = (2 : Int) ^ m := by push_cast; rfl
    have gi := grow_in m6 o0 (by omega) e0 (by omega) hbo
    have no := f.f.no
    unfold growL at no
    rw [List.any_eq_false] at no
    have n1 := no _ (List.mem_map.mpr ⟨b, hb1, rfl⟩)
    unfold gst
    refine if_neg fun h => n1 ?_
    show (letsOf ms (2 ^ m)).getD _ false = true
    rw [lets_at gi.1 (by omega)]
    exact h.2
  rw [p3]
  refine foldl_stay fun b hb1 => ?_
  obtain ⟨b1, b2⟩ := List.mem_filter.mp hb1
  have r := mem_six b1
  rw [Bool.and_eq_true] at b2
  unfold gst
  refine if_neg fun h => ?_
  have h1 := of_decide_eq_true h.1
  rw [sh_get r.1 r.2] at h1
  unfold shW at h1
  rw [if_neg (by intro z; rw [z] at b2; exact absurd b2.1 (by decide)), if_neg (by intro z; rw [z] at b2; exact absurd b2.2 (by decide))] at h1
  omega
theorem sums_e {ms : List Int} {m : Nat} {o e : Int} (f : FlawM ms m o e) (m6 : m ≤ 6) : sumW o e e m < sumW o e o m := by
  obtain ⟨N64, eN, o0, o1, e0, e1⟩ := f.bnd m6
  have s := sum_all ⟨o.toNat, by omega⟩ ⟨e.toNat, by omega⟩
  have b1 := box_all ⟨m, by omega⟩ ⟨o.toNat, by omega⟩
  have b2 := box_all ⟨m, by omega⟩ ⟨e.toNat, by omega⟩
  simp only [show ((e.toNat : Nat) : Int) = e by omega, show ((o.toNat : Nat) : Int) = o by omega] at s b1 b2
  have s := s f.f.sz
  have b1 := b1 (by omega)
  have b2 := b2 (by omega)
  unfold sumW at s ⊢
  rw [b1, b2]
  exact s
theorem boxes_e {m : Nat} {e : Int} (m6 : m ≤ 6) (e0 : 0 ≤ e) (e1 : e < ((2 ^ m : Nat) : Int)) : (six m).filter (hb e) = bxs e := by
  have p64 : 2 ^ m ≤ 64 := Nat.le_trans (Nat.pow_le_pow_right (by decide) m6) (by decide)
  have b2 := box_all ⟨m, by omega⟩ ⟨e.toNat, by omega⟩
  simp only [show ((e.toNat : Nat) : Int) = e by omega] at b2
  exact b2 (by omega)
end TD
namespace TD
open PySem L2
def PrOk (H : Hp) (a : Addr) (qs : List Addr) : Prop := H a = some (.lst (qs.map V.ref)) ∧ ∀ q ∈ qs, ∃ x y : Int, H q = some (.tup [.int x, .int y]) ∧ 0 ≤ x ∧ x < 4 ∧ 0 ≤ y ∧ y < 4
theorem PrOk.same {H H' : Hp} {a : Addr} {qs : List Addr} (s : Same H H') (h : PrOk H a qs) : PrOk H' a qs := ⟨s _ _ h.1, fun q hq => by
  obtain ⟨x, y, e, r⟩ := h.2 q hq
  exact ⟨x, y, s _ _ e, r⟩⟩
def spForest : Sp := fun vs H Q _ => ∃ (a : Addr) (qs : List Addr) (k : Int), vs = [.ref a, .int k] ∧ PrOk H a qs ∧ qs.length ≤ 6 ∧ ∀ b H', Same H H' → (k = 0 → b = true) → Q (.bl b) H'
theorem hb0 (b : Int) : hb 0 b = false := by
  unfold hb
  rw [Int.zero_ediv]
  rfl
def uF (ss : List Int) (k : Int) : Bool := (ss.map fun o => decide (V.int (Builtin.bitAnd k o) = V.int k)).any id
theorem uF0 {ss : List Int} (h : ss ≠ []) (hp : ∀ s ∈ ss, Builtin.bitAnd 0 s = 0) : uF ss (0 + ((0 : Nat) : Int)) = true := by
  cases ss with
  | nil => exact absurd rfl h
  | cons s ss =>
    have e := hp s List.mem_cons_self
    unfold uF
    rw [List.map_cons, List.any_cons]
    show (decide (V.int (Builtin.bitAnd 0 s) = V.int 0) || _) = true
    rw [e]
    rfl
theorem and0_all : ∀ (s : Fin 64), Builtin.bitAnd 0 ((s.val : Nat) : Int) = 0 := by decide +kernel
theorem and0 {s : Int} (h0 : 0 ≤ s) (h1 : s < 64) : Builtin.bitAnd 0 s = 0 := by
  have := and0_all ⟨s.toNat, by omega⟩
  simp only [show ((s.toNat : Nat) : Int) = s by omega] at this
  exact this
structure Part (i : Nat) (ks : List Int) : Prop where
  lt : ks.Pairwise (· < ·)
  r : ∀ x ∈ ks, 0 ≤ x ∧ x < (i : Int)
  l : ks.length ≤ i
  z : 0 < i → (0 : Int) ∈ ks
theorem Part.nil : Part 0 [] := ⟨List.Pairwise.nil, (fun _ h => nomatch h), Nat.le_refl _, fun h => absurd h (Nat.lt_irrefl _)⟩
theorem Part.skip {i : Nat} {ks : List Int} (p : Part i ks) (h : i ≠ 0) : Part (i + 1) ks := ⟨p.lt, fun x hx => by have := p.r x hx; omega, Nat.le_succ_of_le p.l, fun _ => p.z (by omega)⟩
theorem Part.snoc {i : Nat} {ks : List Int} (p : Part i ks) : Part (i + 1) (ks ++ [0 + (i : Int)]) := by
  refine ⟨List.pairwise_append.mpr ⟨p.lt, List.pairwise_singleton _ _, fun x hx y hy => ?_⟩, fun x hx => ?_, by rw [List.length_append]; exact Nat.succ_le_succ p.l, fun _ => ?_⟩
  · rw [List.mem_singleton.mp hy]
    have := p.r x hx
    omega
  · rcases List.mem_append.mp hx with u | u
    · have := p.r x u
      omega
    · rw [List.mem_singleton.mp u]
      omega
  · by_cases e : i = 0
    · subst e
      exact List.mem_append_right _ List.mem_cons_self
    · exact List.mem_append_left _ (p.z (by omega))
theorem Part.gls {i : Nat} {ks : List Int} (p : Part i ks) (h0 : 0 < i) (h64 : i ≤ 64) : GLs ks :=
  gls_asc (List.length_pos_iff.mpr (List.ne_nil_of_mem (p.z h0))) (Nat.le_trans p.l h64) p.lt fun x hx => by have := p.r x hx; omega
theorem Part.erase {i : Nat} {ks : List Int} {g : Int} (p : Part i ks) (h : g ≠ 0) : Part i (ks.erase g) := by
  have sb : (ks.erase g).Sublist ks := List.erase_sublist
  exact ⟨p.lt.sublist sb, fun x hx => p.r x (sb.subset hx), Nat.le_trans sb.length_le p.l, fun h0 => (List.mem_erase_of_ne (Ne.symm h)).mpr (p.z h0)⟩
def spUnder : Sp := fun vs H Q _ => ∃ (a : Addr) (ss : List Int) (m : Nat), vs = [.ref a, .int (m : Int)] ∧ H a = some (.lst (Is ss)) ∧ ss ≠ [] ∧ ss.length ≤ 100 ∧ (∀ s ∈ ss, 0 ≤ s ∧ s < 64) ∧ m ≤ 6 ∧ ∀ r H' ks, Same H H' → H r = none → H' r = some (.lst (Is ks)) → Part (2 ^ m) ks → Q (.ref r) H'
def spListed (K : PySem.W.Frag) : Sp := fun vs H Q _ => ∃ (a : Addr) (ns : List Int) (w : Int) (m : Nat), vs = [.ref a, .int w, .int (m : Int)] ∧ SqL K H a (ns.map V.int) ∧ 1 ≤ m ∧ m ≤ 6 ∧ ∀ r H' ks, Same H H' → H' r = some (.lst (Is ks)) → Part (2 ^ m) ks → Q (.ref r) H'
def spDrawn : Sp := fun vs H Q _ => ∃ (c d : Int) (m : Nat), vs = [.int c, .int d, .int (m : Int)] ∧ 1 ≤ m ∧ m ≤ 6 ∧ ∀ r H' o e, Same H H' → H' r = some (.lst [.int o, .int e]) → 0 ≤ o → o < 64 → 0 ≤ e → e < 64 → Q (.ref r) H'
theorem or_lt {m : Nat} {e b : Int} (m6 : m ≤ 6) (e0 : 0 ≤ e) (e1 : e < ((2 ^ m : Nat) : Int)) (b0 : 0 ≤ b) (b1 : b < (m : Int)) : 0 ≤ Builtin.bitOr e (1 * 2 ^ b.toNat) ∧ Builtin.bitOr e (1 * 2 ^ b.toNat) < ((2 ^ m : Nat) : Int) := by
  have p64 : 2 ^ m ≤ 64 := Nat.le_trans (Nat.pow_le_pow_right (by decide) m6) (by decide)
  have y := or_in ⟨m, by omega⟩ ⟨e.toNat, by omega⟩ ⟨b.toNat, by omega⟩ (by show e.toNat < 2 ^ m; omega) (by show b.toNat < m; omega)
  simp only [show ((e.toNat : Nat) : Int) = e by omega] at y
  rw [Int.one_mul]
  refine ⟨y.1, ?_⟩
  have pn : ((2 ^ m : Nat) : Int) = (2 : Int) ^ m := by push_cast; rfl
  rw [pn]
  exact y.2
theorem shW_sm (o e b : Int) : 0 ≤ shW o e b ∧ shW o e b ≤ 8 := by
  have := bxs_len e
  unfold shW
  split
  · omega
  · split <;> omega
theorem bits8 {z : Int} (h0 : 0 ≤ z) (h : z ≤ 8) : Builtin.Int.intBits z ≤ 10000 := Nat.le_trans (PySem.intBits_le_64 (by omega) (by omega)) (by decide)
def spLaw33 (K : PySem.W.Frag) : Sp := fun vs H Q _ => ∃ (a : Addr) (ns : List Int), vs = [.ref a] ∧ SqL K H a (ns.map V.int) ∧ ns.length ≤ 63 ∧ ∀ H', Q (.bl true) H'
end TD
set_option Elab.async false
set_option linter.all false
set_option maxRecDepth 100000
set_option maxHeartbeats 4000000
namespace K33
open PySem L2 TD
def top (i : Nat) : Stmt := PySem.Challenge.pw_lidprice_k33_short_worths.main.body.getD i (.Pass ⟨0, 0, 0, 0⟩)
theorem sc_is_whole : FnScope ["thing", "least", "most"] ["thing", "least", "most"] (defScope (top 5)) := ⟨rfl, rfl, rfl, by decide +kernel, rfl, by decide +kernel, by decide +kernel⟩
theorem sc_whole : FnScope ["number"] ["number"] (defScope (top 6)) := ⟨rfl, rfl, rfl, by decide +kernel, rfl, by decide +kernel, by decide +kernel⟩
theorem sc_below : FnScope ["one", "other"] ["one", "other"] (defScope (top 7)) := ⟨rfl, rfl, rfl, by decide +kernel, rfl, by decide +kernel, by decide +kernel⟩
theorem sc_has_box : FnScope ["kept", "box"] ["kept", "box"] (defScope (top 11)) := ⟨rfl, rfl, rfl, by decide +kernel, rfl, by decide +kernel, by decide +kernel⟩
theorem sc_boxes_of : FnScope ["kept"] ["kept"] (defScope (top 12)) := ⟨rfl, rfl, rfl, by decide +kernel, rfl, by decide +kernel, by decide +kernel⟩
theorem sc_size_of : FnScope ["kept"] ["kept"] (defScope (top 13)) := ⟨rfl, rfl, rfl, by decide +kernel, rfl, by decide +kernel, by decide +kernel⟩
theorem sc_with_box : FnScope ["kept", "box"] ["kept", "box"] (defScope (top 14)) := ⟨rfl, rfl, rfl, by decide +kernel, rfl, by decide +kernel, by decide +kernel⟩
theorem sc_is_numbers : FnScope ["things", "fewest", "most", "greatest_number"] ["things", "fewest", "most", "greatest_number"] (defScope (top 15)) := ⟨rfl, rfl, rfl, by decide +kernel, rfl, by decide +kernel, by decide +kernel⟩
theorem sc_less_flaw : FnScope ["lets", "one", "box", "other"] ["lets"] (defScope (top 18)) := ⟨rfl, rfl, rfl, by decide +kernel, rfl, by decide +kernel, by decide +kernel⟩
theorem sc_can_grow : FnScope ["lets", "one", "other"] ["lets", "one", "other"] (defScope (top 19)) := ⟨rfl, rfl, rfl, by decide +kernel, rfl, by decide +kernel, by decide +kernel⟩
theorem sc_sets_by_size : FnScope ["lets", "by_size", "kept"] ["lets"] (defScope (top 20)) := ⟨rfl, rfl, rfl, by decide +kernel, rfl, by decide +kernel, by decide +kernel⟩
theorem sc_more_flaw : FnScope ["lets", "by_size", "size", "other", "one"] ["lets"] (defScope (top 21)) := ⟨rfl, rfl, rfl, by decide +kernel, rfl, by decide +kernel, by decide +kernel⟩
theorem sc_flaw : FnScope ["pattern", "many", "lets", "less"] ["pattern", "many"] (defScope (top 22)) := ⟨rfl, rfl, rfl, by decide +kernel, rfl, by decide +kernel, by decide +kernel⟩
theorem sc_falling : FnScope ["worths", "order", "box", "place"] ["worths"] (defScope (top 23)) := ⟨rfl, rfl, rfl, by decide +kernel, rfl, by decide +kernel, by decide +kernel⟩
theorem sc_chosen : FnScope ["pattern", "worths", "kept", "box"] ["pattern", "worths"] (defScope (top 24)) := ⟨rfl, rfl, rfl, by decide +kernel, rfl, by decide +kernel, by decide +kernel⟩
theorem sc_short_worth : FnScope ["one", "other", "box"] ["one", "other", "box"] (defScope (top 25)) := ⟨rfl, rfl, rfl, by decide +kernel, rfl, by decide +kernel, by decide +kernel⟩
theorem sc_short_worths : FnScope ["one", "other", "many"] ["one", "other", "many"] (defScope (top 26)) := ⟨rfl, rfl, rfl, by decide +kernel, rfl, by decide +kernel, by decide +kernel⟩
theorem sc__law_cell_at : FnScope ["_law_script", "_law_k", "_law_number"] ["_law_script", "_law_k"] (defScope (top 28)) := ⟨rfl, rfl, rfl, by decide +kernel, rfl, by decide +kernel, by decide +kernel⟩
theorem sc__law_many : FnScope ["_law_script", "_law_first", "_law_most", "_law_drawn_here"] ["_law_script", "_law_first", "_law_most"] (defScope (top 29)) := ⟨rfl, rfl, rfl, by decide +kernel, rfl, by decide +kernel, by decide +kernel⟩
theorem sc__law_size : FnScope ["_law_kept", "_law_size_here", "_law_box"] ["_law_kept"] (defScope (top 30)) := ⟨rfl, rfl, rfl, by decide +kernel, rfl, by decide +kernel, by decide +kernel⟩
theorem sc__law_forest : FnScope ["_law_pairs", "_law_kept", "_law_roots", "_law_box", "_law_one", "_law_other"] ["_law_pairs", "_law_kept"] (defScope (top 31)) := ⟨rfl, rfl, rfl, by decide +kernel, rfl, by decide +kernel, by decide +kernel⟩
theorem sc__law_under : FnScope ["_law_some", "_law_many_here", "_law_found", "_law_kept"] ["_law_some", "_law_many_here"] (defScope (top 32)) := ⟨rfl, rfl, rfl, by decide +kernel, rfl, by decide +kernel, by decide +kernel⟩
theorem sc__law_listed : FnScope ["_law_script", "_law_way", "_law_many_here", "_law_some", "_law_pairs", "_law_found", "_law_most", "_law_tops", "_law_gone"] ["_law_script", "_law_way", "_law_many_here"] (defScope (top 33)) := ⟨rfl, rfl, rfl, by decide +kernel, rfl, by decide +kernel, by decide +kernel⟩
theorem sc__law_short : FnScope ["_law_found", "_law_one", "_law_other", "_law_many_here", "_law_size_here", "_law_box", "_law_due"] ["_law_found", "_law_one", "_law_other", "_law_many_here"] (defScope (top 34)) := ⟨rfl, rfl, rfl, by decide +kernel, rfl, by decide +kernel, by decide +kernel⟩
theorem sc__law_sum : FnScope ["_law_worths", "_law_kept"] ["_law_worths", "_law_kept"] (defScope (top 35)) := ⟨rfl, rfl, rfl, by decide +kernel, rfl, by decide +kernel, by decide +kernel⟩
theorem sc__law_drawn : FnScope ["_law_cell", "_law_more", "_law_many_here", "_law_one", "_law_order", "_law_other", "_law_box"] ["_law_cell", "_law_more", "_law_many_here"] (defScope (top 36)) := ⟨rfl, rfl, rfl, by decide +kernel, rfl, by decide +kernel, by decide +kernel⟩
theorem sc_law : FnScope ["_law_script", "_law_many_here", "_law_one", "_law_other", "_law_sets", "_law_pattern", "_law_found", "_law_worths", "_law_boxes"] ["_law_script"] (defScope (top 37)) := ⟨rfl, rfl, rfl, by decide +kernel, rfl, by decide +kernel, by decide +kernel⟩
theorem sc_Listed___init__ : FnScope ["self", "sets"] ["self", "sets"] (defScope (inClass (top 17) 0)) := ⟨rfl, rfl, rfl, by decide +kernel, rfl, by decide +kernel, by decide +kernel⟩
theorem sc_Listed_may : FnScope ["self", "kept"] ["self", "kept"] (defScope (inClass (top 17) 1)) := ⟨rfl, rfl, rfl, by decide +kernel, rfl, by decide +kernel, by decide +kernel⟩
end K33
set_option Elab.async false
set_option linter.all false
set_option maxRecDepth 100000
set_option maxHeartbeats 4000000
namespace K33
open PySem L2 TD
open Builtin.Int (intBits)
section
variable {P : Program} {w : World} {K : PySem.W.Frag} {mg : Str → Option Value} {base : Heap}
theorem ok_is_whole {n : Nat} {f : Addr} {fd : FuncData} (F : Fun K "is_whole" "is_whole" (top 5) f fd) (z_isinstance : mg "isinstance" = none) (z_bool : mg "bool" = none) (z_int : mg "int" = none) : FnOk P w K mg base CX0 (n + 1) f fd ["thing", "least", "most"] spIsW := by
  refine F.ok sc_is_whole (fun vs H Q E h => ?_) (fun cdv A outer s H vs Q E hr h => ?_)
  · obtain ⟨i, lo, hi, rfl, _⟩ := h
    rfl
  obtain ⟨i, lo, hi, rfl, h1, h2, q⟩ := h
  have nd := sc_is_whole.nd
  refine ⟨_, (pss_one (ps_ret (pe_and (pe_callB (call_isinst (T := "int")) rfl z_isinstance bt_isinstance (pa_cons (pv 0) (pa_cons (pe_bltn (v := .ty "int") rfl z_int bt_int rfl) pa_nil))) (pe_and (pe_not (pe_callB (call_isinst (T := "bool")) rfl z_isinstance bt_isinstance (pa_cons (pv 0) (pa_cons (pe_bltn (v := .ty "bool") rfl z_bool bt_bool rfl) pa_nil)))) (pe_one (pe_chain op_le op_le (pv 1) (pv 0) (pv 2))))))), ?_⟩
  refine ⟨_, rfl, _, _, _, rfl, .int i, kit_same _, _, rfl, ?_⟩
  refine iteT ?_
  refine ⟨_, rfl, _, _, _, rfl, .int i, kit_int_bool, _, rfl, ?_⟩
  refine ⟨_, rfl, ?_⟩
  refine iteT ?_
  refine ⟨_, rfl, _, rfl, _, _, rfl, rfl, _, rfl, ?_⟩
  refine ifT (decide_eq_true h1) ?_
  refine ⟨_, rfl, _, _, rfl, rfl, ?_⟩
  show Q (.bl (decide (i ≤ hi))) H
  rw [decide_eq_true h2]
  exact q
theorem ok_has_box {n : Nat} {f : Addr} {fd : FuncData} (F : Fun K "has_box" "has_box" (top 11) f fd) : FnOk P w K mg base CX0 (n + 1) f fd ["kept", "box"] spHas := by
  refine F.ok sc_has_box (fun vs H Q E h => ?_) (fun cdv A outer s H vs Q E hr h => ?_)
  · obtain ⟨k, b, rfl, _⟩ := h
    rfl
  obtain ⟨k, b, rfl, hb0, q⟩ := h
  have nd := sc_has_box.nd
  refine ⟨_, (pss_one (ps_ret (pe_cmpR op_eq (pe_op op_and (pe_op op_shr (pv 0) (pv 1)) pe_int) pe_int (nomark _)))), ?_⟩
  exact ⟨_, rfl, _, rfl, _, _, rfl, rfl, hb0, _, _, rfl, rfl, rfl, q⟩
theorem ok_boxes_of {n : Nat} {f : Addr} {fd : FuncData} (F : Fun K "boxes_of" "boxes_of" (top 12) f fd) {g_has_box : Addr} {gd_has_box : FuncData} (c_has_box : Cal P w K mg base n "has_box" ["kept", "box"] spHas g_has_box gd_has_box) (z_range : mg "range" = none) {u_MOST_BOXES : Value} (g_MOST_BOXES : mg "MOST_BOXES" = some u_MOST_BOXES) (r_MOST_BOXES : RelV (.int 6) u_MOST_BOXES) : FnOk P w K mg base CX0 (n + 1) f fd ["kept"] spBxs := by
  refine F.ok sc_boxes_of (fun vs H Q E h => ?_) (fun cdv A outer s H vs Q E hr h => ?_)
  · obtain ⟨k, rfl, _⟩ := h
    rfl
  obtain ⟨k, rfl, q⟩ := h
  have nd := sc_boxes_of.nd
  refine ⟨_, (pss_one (ps_ret (pe_comp (ls := ["box"]) (M := ["kept"]) rfl (CompOk.of (by rfl)) (NL.of (by rfl)) (pi_range1 rfl z_range (pa_cons (pe_glob (v := .int 6) rfl g_MOST_BOXES r_MOST_BOXES) pa_nil)) (fun _ _ _ _ => ⟨(pg_name (i := 0) (nd_of (by rfl)) rfl (Or.inl rfl)), (pts_one (pt_val (pe_callC c_has_box hr (pa_cons (pv 1) (pa_cons (pv 0) pa_nil))))), (pv 0)⟩)))), ?_⟩
  refine ⟨6, rfl, by decide, by decide, fun D hD => ?_⟩
  refine comp_range (n := (6 : Int).toNat) (fun i τ H' => ∃ v0, τ = [v0, some (.int k)] ∧ Same H H' ∧ H' D = some (.lst (Is ((six i).filter (hb k))))) ⟨none, rfl, same_new hD _, upd_same⟩ ?turn ?done
  case turn =>
    rintro i m τ H' hm hi ⟨v0, rfl, hs, hD'⟩
    refine ⟨_, rfl, _, rfl, k, 0 + (i : Int), rfl, by omega, ?_⟩
    cases eb : hb k (0 + (i : Int)) with
    | false =>
      refine ⟨_, rfl, ?_⟩
      refine ifF rfl ?_
      refine comp_skip hm hi ⟨_, rfl, hs, ?_⟩
      rw [six_succ, List.filter_append, show [0 + (i : Int)].filter (hb k) = [] by rw [List.filter_cons, eb]; rfl, List.append_nil]
      exact hD'
    | true =>
      refine ⟨_, rfl, ?_⟩
      refine ifT rfl ?_
      refine ⟨_, rfl, ?_⟩
      refine comp_next hm hi hD' (by rw [is_length]; exact small1000 (Nat.le_trans (List.length_filter_le _ _) (by unfold six; rw [List.length_map, List.length_range]; have : i < 6 := hi; omega))) ⟨_, rfl, hs.upd_new hD _, ?_⟩
      rw [upd_same, six_succ, List.filter_append, show [0 + (i : Int)].filter (hb k) = [0 + (i : Int)] by rw [List.filter_cons, eb]; rfl, is_snoc]
  case done =>
    rintro τ H' ⟨v0, rfl, hs, hD'⟩
    exact q D H' hs hD hD'
theorem ok_size_of {n : Nat} {f : Addr} {fd : FuncData} (F : Fun K "size_of" "size_of" (top 13) f fd) {g_boxes_of : Addr} {gd_boxes_of : FuncData} (c_boxes_of : Cal P w K mg base n "boxes_of" ["kept"] spBxs g_boxes_of gd_boxes_of) (z_len : mg "len" = none) : FnOk P w K mg base CX0 (n + 1) f fd ["kept"] spSz := by
  refine F.ok sc_size_of (fun vs H Q E h => ?_) (fun cdv A outer s H vs Q E hr h => ?_)
  · obtain ⟨k, rfl, _⟩ := h
    rfl
  obtain ⟨k, rfl, q⟩ := h
  have nd := sc_size_of.nd
  refine ⟨_, (pss_one (ps_ret (pe_callB call_len_seq rfl z_len bt_len (pa_cons (pe_callC c_boxes_of hr (pa_cons (pv 0) pa_nil)) pa_nil)))), ?_⟩
  refine ⟨_, rfl, k, rfl, fun r H1 s1 _ hr1 => ?_⟩
  refine ⟨r, _, rfl, .inl (SqL.of hr1), ?_⟩
  rw [is_length]
  exact q H1 s1
theorem ok_is_numbers {n : Nat} {f : Addr} {fd : FuncData} (F : Fun K "is_numbers" "is_numbers" (top 15) f fd) {g_is_whole : Addr} {gd_is_whole : FuncData} (c_is_whole : Cal P w K mg base n "is_whole" ["thing", "least", "most"] spIsW g_is_whole gd_is_whole) (z_all : mg "all" = none) (z_len : mg "len" = none) (z_isinstance : mg "isinstance" = none) (z_list : mg "list" = none) : FnOk P w K mg base CX0 (n + 1) f fd ["things", "fewest", "most", "greatest_number"] spNums := by
  refine F.ok sc_is_numbers (fun vs H Q E h => ?_) (fun cdv A outer s H vs Q E hr h => ?_)
  · obtain ⟨a, ns, lo, hi, g, rfl, _⟩ := h
    rfl
  obtain ⟨a, ns, lo, hi, g, rfl, ha, h1, h2, h64, hg, q⟩ := h
  have nd := sc_is_numbers.nd
  refine ⟨_, (pss_cons (ps_if (PW.pt (pw_or (pt_not (pt_val (pe_callB (call_isinst (T := "list")) rfl z_isinstance bt_isinstance (pa_cons (pv 0) (pa_cons (pe_bltn (v := .ty "list") rfl z_list bt_list rfl) pa_nil))))) (pw_or1 (pt_not (pt_chain op_le op_le (pv 1) (pe_callB call_len_seq rfl z_len bt_len (pa_cons (pv 0) pa_nil)) (pv 2)))))) (pss_one (ps_ret pe_bl)) pss_nil) (pss_one (ps_ret (pe_callB (call_allL rfl rfl) rfl z_all bt_all (pa_cons (pe_comp (ls := ["thing"]) (M := ["things", "fewest", "most", "greatest_number"]) rfl (CompOk.of (by rfl)) (NL.of (by rfl)) (pi_list (pv 0)) (fun _ _ _ _ => ⟨(pg_name (i := 0) (nd_of (by rfl)) rfl (Or.inl rfl)), pts_nil, (pe_callC c_is_whole hr (pa_cons (pv 0) (pa_cons pe_int (pa_cons (pv 4) pa_nil))))⟩)) pa_nil))))), ?_⟩
  have hlr := is_length ns
  refine ⟨_, rfl, _, _, _, rfl, .lst ha, kit_same _, _, rfl, ?_⟩
  refine iteF ?_
  refine ⟨_, rfl, _, rfl, a, _, rfl, .inl (SqL.of ha), _, _, rfl, rfl, _, rfl, ?_⟩
  refine ifT (decide_eq_true (show lo ≤ _ by rw [hlr]; exact h1)) ?_
  refine ⟨_, rfl, _, _, rfl, rfl, _, rfl, ?_⟩
  refine ifF (by rw [decide_eq_true (show (_ : Int) ≤ hi by rw [hlr]; exact h2)]; rfl) ?_
  refine ⟨_, rfl, a, rfl, ⟨_, SqL.of ha⟩, fun D hD => ?_⟩
  refine comp_list (xs := Is ns) (fun i τ H' => ∃ v0, τ = [v0, some (.ref a), some (.int lo), some (.int hi), some (.int g)] ∧ Same H H' ∧ H' D = some (.lst ((List.replicate i true).map V.bl))) ⟨none, rfl, same_new hD _, upd_same⟩ ?keep ?turn ?done
  case keep =>
    rintro i τ H' hi ⟨v0, rfl, hs, _⟩
    exact SqL.of (hs _ _ ha)
  case turn =>
    rintro i m v τ H' hm hi hv ⟨v0, rfl, hs, hD'⟩
    obtain ⟨x, hx, rfl⟩ := is_at hv
    have hmem := List.mem_of_getElem? hx
    refine gyes ?_
    refine ⟨_, rfl, _, rfl, x, 0, g, rfl, (hg x hmem).1, (hg x hmem).2, ?_⟩
    refine comp_next hm hi hD' (by rw [List.length_map, List.length_replicate]; exact small1000 (by rw [hlr] at hi; omega)) ⟨_, rfl, hs.upd_new hD _, ?_⟩
    rw [upd_same, List.replicate_succ', List.map_append]
    rfl
  case done =>
    rintro τ H' ⟨v0, rfl, hs, hD'⟩
    refine ⟨D, _, rfl, SqL.of hD', ?_⟩
    have e : (List.replicate (Is ns).length true).all id = true := by simp
    rw [e]
    exact q H' hs
end
end K33
set_option Elab.async false
set_option linter.all false
set_option maxRecDepth 100000
set_option maxHeartbeats 4000000
namespace K33
open PySem L2 TD
open Builtin.Int (intBits)
section
variable {P : Program} {w : World} {K : PySem.W.Frag} {mg : Str → Option Value} {base : Heap}
theorem ok_Listed___init__ {n : Nat} {f : Addr} {fd : FuncData} (F : Fun K "__init__" "Listed.__init__" (inClass (top 17) 0) f fd) {C : Addr} (cf : Cls K C) (nk_sets : PySem.W.findIn K (.ref C) "sets" = some none) {g_is_numbers : Addr} {gd_is_numbers : FuncData} (c_is_numbers : Cal P w K mg base n "is_numbers" ["things", "fewest", "most", "greatest_number"] spNums g_is_numbers gd_is_numbers) (z_tuple : mg "tuple" = none) (z_sorted : mg "sorted" = none) (z_len : mg "len" = none) (z_set : mg "set" = none) {u_MOST_SETS : Value} (g_MOST_SETS : mg "MOST_SETS" = some u_MOST_SETS) (r_MOST_SETS : RelV (.int 64) u_MOST_SETS) : FnOk P w K mg base CX0 (n + 1) f fd ["self", "sets"] (spLin C) := by
  refine F.ok sc_Listed___init__ (fun vs H Q E h => ?_) (fun cdv A outer s H vs Q E hr h => ?_)
  · obtain ⟨x, dx, a, ks, rfl, _⟩ := h
    rfl
  obtain ⟨x, dx, a, ks, rfl, hx, ha, g, q⟩ := h
  have nd := sc_Listed___init__.nd
  refine ⟨_, (pss_cons (ps_if (PW.pt (pw_or (pt_not (pt_val (pe_callC c_is_numbers hr (pa_cons (pv 1) (pa_cons pe_int (pa_cons (pe_glob (v := .int 64) rfl g_MOST_SETS r_MOST_SETS) (pa_cons (pe_op op_sub (pe_glob (v := .int 64) rfl g_MOST_SETS r_MOST_SETS) pe_int) pa_nil))))))) (pw_or1 (pt_cmpR op_ne (pe_callB call_len_setI rfl z_len bt_len (pa_cons (pe_callTy (call_setLK (K := K) rfl rfl) rfl z_set bt_set (pa_cons (pv 1) pa_nil)) pa_nil)) (pe_callB call_len_seq rfl z_len bt_len (pa_cons (pv 1) pa_nil)) (nomark _))))) (pss_one ps_never) pss_nil) (pss_one (ps_fld (pv 0) (pe_callTy (call_tuple_ofK (K := K) rfl) rfl z_tuple bt_tuple (pa_cons (pe_callB (call_sortedSK (K := K) rfl) rfl z_sorted bt_sorted (pa_cons (pv 1) pa_nil)) pa_nil)) rfl))), ?_⟩
  have g1 := g.l1
  have g64 := g.l64
  refine ⟨_, rfl, _, _, rfl, rfl, a, ks, 1, 64, 63, rfl, ha, by omega, by omega, g64, g.k, fun H1 s1 => ?_⟩
  refine ⟨_, rfl, ?_⟩
  refine iteF ?_
  refine ⟨_, rfl, a, ks, rfl, SqL.of (s1 _ _ ha), (by show ks.length + 1 < 4096; omega), fun r hr0 => ?_⟩
  have n1 := same_new hr0 (.set (fun k => (ddI ks).any (· == k)) (ddI ks).length)
  refine ⟨r, _, _, rfl, upd_same, _, rfl, a, _, rfl, .inl (SqL.of ((s1.trans n1) _ _ ha)), rfl, _, rfl, ?_⟩
  refine ifF (by rw [dd_self g.nd, is_length]; simp) ?_
  have s2 := s1.trans n1
  generalize upd H1 r (.set (fun k => (ddI ks).any (· == k)) (ddI ks).length) = H2 at s2 ⊢
  refine ⟨_, rfl, a, ks, rfl, .inl (SqL.of (s2 _ _ ha)), g.few, fun l ms hl pm so => ?_⟩
  have n3 := same_new hl (.lst (Is ms))
  refine ⟨l, _, rfl, .inl ⟨SqL.of upd_same, fun t ht => ?_⟩⟩
  have n4 := same_new ht (.tup (Is ms))
  have s4 := s2.trans (n3.trans n4)
  exact ⟨_, rfl, x, C, dx, [], rfl, s4 _ _ hx, cf, nk_sets, (by show 0 < 1000; decide), q t ms _ s4 pm so upd_same⟩
theorem ok_Listed_may {n : Nat} {f : Addr} {fd : FuncData} (F : Fun K "may" "Listed.may" (inClass (top 17) 1) f fd) {C : Addr} (cf : Cls K C) (nk_sets : PySem.W.findIn K (.ref C) "sets" = some none) : FnOk P w K mg base CX0 (n + 1) f fd ["self", "kept"] (spLmay C) := by
  refine F.ok sc_Listed_may (fun vs H Q E h => ?_) (fun cdv A outer s H vs Q E hr h => ?_)
  · obtain ⟨x, ks, k, rfl, _⟩ := h
    rfl
  obtain ⟨x, ks, k, rfl, hF, q⟩ := h
  have nd := sc_Listed_may.nd
  refine ⟨_, (pss_one (ps_ret (pe_cmpR op_in_seq (pv 1) (pe_fld (pv 0) rfl) rfl))), ?_⟩
  obtain ⟨dx, t, hx, ht⟩ := hF
  exact ⟨_, rfl, _, rfl, x, C, dx, _, _, rfl, hx, cf, nk_sets, rfl, t, _, rfl, .inr (SqT.of ht), rfl, flat_is ks, q⟩
end
end K33
set_option Elab.async false
set_option linter.all false
set_option maxRecDepth 100000
set_option maxHeartbeats 4000000
namespace K33
open PySem L2 TD
open Builtin.Int (intBits)
section
variable {P : Program} {w : World} {K : PySem.W.Frag} {mg : Str → Option Value} {base : Heap}
theorem ok__law_cell_at {n : Nat} {f : Addr} {fd : FuncData} (F : Fun K "_law_cell_at" "_law_cell_at" (top 28) f fd) (z_len : mg "len" = none) : FnOk P w K mg base CX0 (n + 1) f fd ["_law_script", "_law_k"] (spCA K) := by
  refine F.ok sc__law_cell_at (fun vs H Q E h => ?_) (fun cdv A outer s H vs Q E hr h => ?_)
  · obtain ⟨a, ns, k, rfl, _⟩ := h
    rfl
  obtain ⟨a, ns, k, rfl, hS, h0, hk, q⟩ := h
  have nd := sc__law_cell_at.nd
  refine ⟨_, (pss_cons (ps_set (i := 2) nd rfl (Or.inl rfl) (pe_op op_add (pe_op op_mul pe_int (pv 1)) pe_int)) (pss_cons (ps_if (pt_cmpR op_lt (pv 1) (pe_callB call_len_seq rfl z_len bt_len (pa_cons (pv 0) pa_nil)) (nomark _)) (pss_one (ps_set (i := 2) nd rfl (Or.inl rfl) (pe_ix ix_list (pv 0) (pv 1) (fun _ _ => rfl)))) pss_nil) (pss_cons (ps_set (i := 2) nd rfl (Or.inl rfl) (pe_op op_mod (pe_op op_add (pe_op op_add (pe_op op_mulB (pe_op op_mod (pv 2) pe_int) pe_int) (pe_op op_mul pe_int (pv 1))) pe_int) pe_int)) (pss_cons (ps_set (i := 2) nd rfl (Or.inl rfl) (pe_op op_mod (pe_op op_mulB (pv 2) (pv 2)) pe_int)) (pss_one (ps_ret (pe_op op_mod (pe_op op_add (pe_op op_add (pe_op op_mulB (pv 2) (pv 2)) (pe_op op_mul pe_int (pv 2))) (pv 1)) pe_int))))))), ?_⟩
  have b1 : ∀ x : Int, 0 ≤ x → x < 2147483648 → intBits x ≤ 64 := fun x h1 h2 => PySem.intBits_le_64 (by omega) (by omega)
  have hl : (ns.map V.int).length = ns.length := List.length_map _
  refine ⟨_, rfl, _, _, rfl, rfl, .inl ⟨by decide, by decide⟩, _, _, rfl, rfl, ?_⟩
  refine ⟨_, rfl, _, rfl, a, _, rfl, .inl hS, _, _, rfl, rfl, _, rfl, ?_⟩
  refine ite2 (fun c => ?_) (fun c => ?_)
  · have c' : k < (((ns.map V.int).length : Nat) : Int) := of_decide_eq_true c
    rw [hl] at c'
    refine ⟨_, rfl, _, rfl, a, _, _, _, rfl, rfl, hS, atI_ints h0 c', ?_⟩
    have m1 := Int.emod_nonneg (ns.getD k.toNat 0) (show (2147483647 : Int) ≠ 0 by decide)
    have m2 := Int.emod_lt_of_pos (ns.getD k.toNat 0) (show (0 : Int) < 2147483647 by decide)
    refine ⟨_, rfl, _, _, rfl, rfl, (by show (0 : Int) < 2147483647; decide), _, _, rfl, rfl, mulOk (b1 _ m1 (by omega)) (b1 48271 (by decide) (by decide)) (by decide), _, rfl, _, _, rfl, rfl, .inl ⟨by decide, by decide⟩, _, _, rfl, rfl, _, _, rfl, rfl, _, _, rfl, rfl, (by show (0 : Int) < 2147483647; decide), ?_⟩
    have n1 := Int.emod_nonneg ((ns.getD k.toNat 0) % 2147483647 * 48271 + 7919 * k + 1) (show (2147483647 : Int) ≠ 0 by decide)
    have n2 := Int.emod_lt_of_pos ((ns.getD k.toNat 0) % 2147483647 * 48271 + 7919 * k + 1) (show (0 : Int) < 2147483647 by decide)
    have nb := b1 _ n1 (Int.lt_trans n2 (by decide))
    refine ⟨_, rfl, _, rfl, _, _, rfl, rfl, mulOk nb nb (by decide), _, _, rfl, rfl, (by show (0 : Int) < 2147483647; decide), ?_⟩
    have k1 := Int.emod_nonneg (((ns.getD k.toNat 0) % 2147483647 * 48271 + 7919 * k + 1) % 2147483647 * (((ns.getD k.toNat 0) % 2147483647 * 48271 + 7919 * k + 1) % 2147483647)) (show (2147483647 : Int) ≠ 0 by decide)
    have k2 := Int.emod_lt_of_pos (((ns.getD k.toNat 0) % 2147483647 * 48271 + 7919 * k + 1) % 2147483647 * (((ns.getD k.toNat 0) % 2147483647 * 48271 + 7919 * k + 1) % 2147483647)) (show (0 : Int) < 2147483647 by decide)
    have kb := b1 _ k1 (Int.lt_trans k2 (by decide))
    refine ⟨_, rfl, _, rfl, _, _, rfl, rfl, mulOk kb kb (by decide), _, rfl, _, _, rfl, rfl, .inl ⟨by decide, by decide⟩, _, _, rfl, rfl, _, rfl, _, _, rfl, rfl, _, _, rfl, rfl, (by show (0 : Int) < 2147483629; decide), ?_⟩
    exact q _ (Int.emod_nonneg _ (by decide)) (Int.emod_lt_of_pos _ (by decide))
  · skip
    have m1 := Int.emod_nonneg (104729 * k + 7) (show (2147483647 : Int) ≠ 0 by decide)
    have m2 := Int.emod_lt_of_pos (104729 * k + 7) (show (0 : Int) < 2147483647 by decide)
    refine ⟨_, rfl, _, _, rfl, rfl, (by show (0 : Int) < 2147483647; decide), _, _, rfl, rfl, mulOk (b1 _ m1 (by omega)) (b1 48271 (by decide) (by decide)) (by decide), _, rfl, _, _, rfl, rfl, .inl ⟨by decide, by decide⟩, _, _, rfl, rfl, _, _, rfl, rfl, _, _, rfl, rfl, (by show (0 : Int) < 2147483647; decide), ?_⟩
    have n1 := Int.emod_nonneg ((104729 * k + 7) % 2147483647 * 48271 + 7919 * k + 1) (show (2147483647 : Int) ≠ 0 by decide)
    have n2 := Int.emod_lt_of_pos ((104729 * k + 7) % 2147483647 * 48271 + 7919 * k + 1) (show (0 : Int) < 2147483647 by decide)
    have nb := b1 _ n1 (Int.lt_trans n2 (by decide))
    refine ⟨_, rfl, _, rfl, _, _, rfl, rfl, mulOk nb nb (by decide), _, _, rfl, rfl, (by show (0 : Int) < 2147483647; decide), ?_⟩
    have k1 := Int.emod_nonneg (((104729 * k + 7) % 2147483647 * 48271 + 7919 * k + 1) % 2147483647 * (((104729 * k + 7) % 2147483647 * 48271 + 7919 * k + 1) % 2147483647)) (show (2147483647 : Int) ≠ 0 by decide)
    have k2 := Int.emod_lt_of_pos (((104729 * k + 7) % 2147483647 * 48271 + 7919 * k + 1) % 2147483647 * (((104729 * k + 7) % 2147483647 * 48271 + 7919 * k + 1) % 2147483647)) (show (0 : Int) < 2147483647 by decide)
    have kb := b1 _ k1 (Int.lt_trans k2 (by decide))
    refine ⟨_, rfl, _, rfl, _, _, rfl, rfl, mulOk kb kb (by decide), _, rfl, _, _, rfl, rfl, .inl ⟨by decide, by decide⟩, _, _, rfl, rfl, _, rfl, _, _, rfl, rfl, _, _, rfl, rfl, (by show (0 : Int) < 2147483629; decide), ?_⟩
    exact q _ (Int.emod_nonneg _ (by decide)) (Int.emod_lt_of_pos _ (by decide))
theorem ok__law_many {n : Nat} {f : Addr} {fd : FuncData} (F : Fun K "_law_many" "_law_many" (top 29) f fd) {g__law_cell_at : Addr} {gd__law_cell_at : FuncData} (c__law_cell_at : Cal P w K mg base n "_law_cell_at" ["_law_script", "_law_k"] (spCA K) g__law_cell_at gd__law_cell_at) (z_min : mg "min" = none) (z_max : mg "max" = none) (z_len : mg "len" = none) : FnOk P w K mg base CX0 (n + 1) f fd ["_law_script", "_law_first", "_law_most"] (spMn K) := by
  refine F.ok sc__law_many (fun vs H Q E h => ?_) (fun cdv A outer s H vs Q E hr h => ?_)
  · obtain ⟨a, ns, f, m, rfl, _⟩ := h
    rfl
  obtain ⟨a, ns, f, m, rfl, hS, h1, h2, hm, q⟩ := h
  have nd := sc__law_many.nd
  refine ⟨_, (pss_cons (ps_set (i := 3) nd rfl (Or.inl rfl) (pe_op op_mod (pe_op op_fdiv (pe_callC c__law_cell_at hr (pa_cons (pv 0) (pa_cons (pe_op op_sub (pv 1) pe_int) pa_nil))) pe_int) (pe_op op_add (pv 2) pe_int))) (pss_one (ps_ret (pe_callB (call_min2 rfl) rfl z_min bt_min (pa_cons (pv 2) (pa_cons (pe_callB (call_max2 rfl) rfl z_max bt_max (pa_cons (pv 3) (pa_cons (pe_op op_sub (pe_callB call_len_seq rfl z_len bt_len (pa_cons (pv 0) pa_nil)) (pv 1)) pa_nil))) pa_nil)))))), ?_⟩
  refine ⟨_, rfl, _, rfl, _, _, rfl, rfl, a, ns, f - 1, rfl, hS, by omega, by omega, fun j j0 j1 => ?_⟩
  have e1 := Int.emod_nonneg (j / 7) (show m + 1 ≠ 0 by omega)
  have e2 := Int.emod_lt_of_pos (j / 7) (show 0 < m + 1 by omega)
  refine ⟨_, _, rfl, rfl, ⟨by decide, by decide⟩, _, rfl, _, _, rfl, rfl, _, _, rfl, rfl, (by show 0 < m + 1; omega), ?_⟩
  refine ⟨_, rfl, _, rfl, _, rfl, a, _, rfl, .inl hS, _, rfl, _, _, rfl, rfl, _, _, rfl, _, _, rfl, ?_⟩
  refine q _ ?_ ?_
  · (repeat' split) <;> omega
  · (repeat' split) <;> omega
theorem ok__law_size {n : Nat} {f : Addr} {fd : FuncData} (F : Fun K "_law_size" "_law_size" (top 30) f fd) (z_range : mg "range" = none) : FnOk P w K mg base CX0 (n + 1) f fd ["_law_kept"] spLSz := by
  refine F.ok sc__law_size (fun vs H Q E h => ?_) (fun cdv A outer s H vs Q E hr h => ?_)
  · obtain ⟨k, rfl, _⟩ := h
    rfl
  obtain ⟨k, rfl, k0, k1, q⟩ := h
  have nd := sc__law_size.nd
  refine ⟨_, (pss_cons (ps_set (i := 1) nd rfl (Or.inl rfl) pe_int) (pss_cons (ps_for PassesOwn.never rfl (pi_range1 rfl z_range (pa_cons pe_int pa_nil)) (pg_name (i := 2) nd rfl (Or.inl rfl)) (pss_one (ps_set (i := 1) nd rfl (Or.inl rfl) (pe_op op_add (pv 1) (pe_op op_and (pe_op op_shr (pv 0) (pv 2)) pe_int))))) (pss_one (ps_ret (pv 1))))), ?_⟩
  refine ⟨6, rfl, by decide, by decide, ?_⟩
  refine for_range (n := (6 : Int).toNat) (fun i σ H' => ∃ v2, σ = [some (.int k), some (.int (((six i).filter (hb k)).length : Nat)), v2] ∧ H' = H) ⟨none, rfl, rfl⟩ ?_ ?_
  · rintro i σ H' hi ⟨v2, rfl, rfl⟩
    refine ⟨_, rfl, _, rfl, _, rfl, _, _, rfl, rfl, (by show (0 : Int) ≤ 0 + (i : Int); omega), _, _, rfl, rfl, _, _, rfl, rfl, ?_⟩
    refine ⟨some (.int (0 + (i : Int))), ?_, rfl⟩
    have e := bit01 k0 k1 (show i < 6 from hi)
    rw [filt_snoc, List.length_append]
    show [_, some (V.int (_ + Builtin.bitAnd (k / 2 ^ ((0 : Int) + (i : Int)).toNat) 1)), _] = _
    rw [e]
    split <;> rfl
  · rintro σ H' ⟨v2, rfl, rfl⟩
    exact ⟨_, rfl, q⟩
end
end K33
set_option Elab.async false
set_option linter.all false
set_option maxRecDepth 100000
set_option maxHeartbeats 4000000
namespace K33
open PySem L2 TD
open Builtin.Int (intBits)
section
variable {P : Program} {w : World} {K : PySem.W.Frag} {mg : Str → Option Value} {base : Heap}
theorem ok_below {n : Nat} {f : Addr} {fd : FuncData} (F : Fun K "below" "below" (top 7) f fd) : FnOk P w K mg base CX0 (n + 1) f fd ["one", "other"] (spBelow K) := by
  refine F.ok sc_below (fun vs H Q E h => ?_) (fun cdv A outer s H vs Q E hr h => ?_)
  · obtain ⟨p, q, a, b, c, d, rfl, _⟩ := h
    rfl
  obtain ⟨p, q, a, b, c, d, rfl, hp, hq, z, k⟩ := h
  have nd := sc_below.nd
  refine ⟨_, (pss_one (ps_ret (pe_cmpR op_lt (pe_op op_mulB (pe_ix ix_tup (pv 0) pe_int (fun _ _ => rfl)) (pe_ix ix_tup (pv 1) pe_int (fun _ _ => rfl))) (pe_op op_mulB (pe_ix ix_tup (pv 1) pe_int (fun _ _ => rfl)) (pe_ix ix_tup (pv 0) pe_int (fun _ _ => rfl))) (nomark _)))), ?_⟩
  exact ⟨_, rfl, p, _, _, _, rfl, rfl, hp, rfl, _, rfl, q, _, _, _, rfl, rfl, hq, rfl, _, _, rfl, rfl, mulOk z.a z.d (by decide), _, rfl, q, _, _, _, rfl, rfl, hq, rfl, _, rfl, p, _, _, _, rfl, rfl, hp, rfl, _, _, rfl, rfl, mulOk z.c z.b (by decide), _, _, rfl, rfl, k⟩
theorem ok_whole {n : Nat} {f : Addr} {fd : FuncData} (F : Fun K "whole" "whole" (top 6) f fd) : FnOk P w K mg base CX0 (n + 1) f fd ["number"] spWh := by
  refine F.ok sc_whole (fun vs H Q E h => ?_) (fun cdv A outer s H vs Q E hr h => ?_)
  · obtain ⟨t, rfl, _⟩ := h
    rfl
  obtain ⟨t, rfl, q⟩ := h
  have nd := sc_whole.nd
  refine ⟨_, (pss_one (ps_ret (pe_tup (pa_cons (pv 0) (pa_cons pe_int pa_nil))))), ?_⟩
  refine ⟨_, rfl, sz2, fun p hp => ?_⟩
  exact q p _ (same_new hp _) upd_same
theorem ok_with_box {n : Nat} {f : Addr} {fd : FuncData} (F : Fun K "with_box" "with_box" (top 14) f fd) : FnOk P w K mg base CX0 (n + 1) f fd ["kept", "box"] spWith := by
  refine F.ok sc_with_box (fun vs H Q E h => ?_) (fun cdv A outer s H vs Q E hr h => ?_)
  · obtain ⟨k, b, rfl, _⟩ := h
    rfl
  obtain ⟨k, b, rfl, hb0, hb1, q⟩ := h
  have nd := sc_with_box.nd
  refine ⟨_, (pss_one (ps_ret (pe_op op_or (pv 0) (pe_op op_shl pe_int (pv 1))))), ?_⟩
  exact ⟨_, rfl, _, rfl, _, _, rfl, rfl, ⟨hb0, by omega, by decide⟩, _, _, rfl, rfl, q⟩
theorem ok_short_worth {n : Nat} {f : Addr} {fd : FuncData} (F : Fun K "short_worth" "short_worth" (top 25) f fd) {g_has_box : Addr} {gd_has_box : FuncData} (c_has_box : Cal P w K mg base n "has_box" ["kept", "box"] spHas g_has_box gd_has_box) {g_size_of : Addr} {gd_size_of : FuncData} (c_size_of : Cal P w K mg base n "size_of" ["kept"] spSz g_size_of gd_size_of) : FnOk P w K mg base CX0 (n + 1) f fd ["one", "other", "box"] spShW := by
  refine F.ok sc_short_worth (fun vs H Q E h => ?_) (fun cdv A outer s H vs Q E hr h => ?_)
  · obtain ⟨o, e, b, rfl, _⟩ := h
    rfl
  obtain ⟨o, e, b, rfl, hb0, q⟩ := h
  have nd := sc_short_worth.nd
  refine ⟨_, (pss_cons (ps_if (pt_val (pe_callC c_has_box hr (pa_cons (pv 1) (pa_cons (pv 2) pa_nil)))) (pss_one (ps_ret (pe_op op_add (pe_callC c_size_of hr (pa_cons (pv 1) pa_nil)) pe_int))) pss_nil) (pss_one (ps_ret (pe_ifExp (pt_val (pe_callC c_has_box hr (pa_cons (pv 0) (pa_cons (pv 2) pa_nil)))) (pe_op op_add (pe_callC c_size_of hr (pa_cons (pv 1) pa_nil)) pe_int) pe_int)))), ?_⟩
  refine ⟨_, rfl, _, rfl, e, b, rfl, hb0, ?_⟩
  refine ⟨_, rfl, ?_⟩
  unfold shW at q
  cases e1 : hb e b with
  | true =>
    refine iteT ?_
    rw [e1, if_pos rfl] at q
    exact ⟨_, rfl, e, rfl, fun H1 s1 => ⟨_, _, rfl, rfl, q H1 s1⟩⟩
  | false =>
    refine iteF ?_
    rw [e1, if_neg Bool.false_ne_true] at q
    refine ⟨_, rfl, _, rfl, o, b, rfl, hb0, ?_⟩
    refine ⟨_, rfl, ?_⟩
    cases e2 : hb o b with
    | true =>
      refine iteT ?_
      rw [e2, if_pos rfl] at q
      exact ⟨_, rfl, e, rfl, fun H1 s1 => ⟨_, _, rfl, rfl, q H1 s1⟩⟩
    | false =>
      refine iteF ?_
      rw [e2, if_neg Bool.false_ne_true] at q
      exact q H (Same.refl _)
theorem ok_short_worths {n : Nat} {f : Addr} {fd : FuncData} (F : Fun K "short_worths" "short_worths" (top 26) f fd) {g_short_worth : Addr} {gd_short_worth : FuncData} (c_short_worth : Cal P w K mg base n "short_worth" ["one", "other", "box"] spShW g_short_worth gd_short_worth) (z_range : mg "range" = none) : FnOk P w K mg base CX0 (n + 1) f fd ["one", "other", "many"] spShWs := by
  refine F.ok sc_short_worths (fun vs H Q E h => ?_) (fun cdv A outer s H vs Q E hr h => ?_)
  · obtain ⟨o, e, m, rfl, _⟩ := h
    rfl
  obtain ⟨o, e, m, rfl, m0, m6, q⟩ := h
  have nd := sc_short_worths.nd
  refine ⟨_, (pss_one (ps_ret (pe_comp (ls := ["box"]) (M := ["one", "other", "many"]) rfl (CompOk.of (by rfl)) (NL.of (by rfl)) (pi_range1 rfl z_range (pa_cons (pv 2) pa_nil)) (fun _ _ _ _ => ⟨(pg_name (i := 0) (nd_of (by rfl)) rfl (Or.inl rfl)), pts_nil, (pe_callC c_short_worth hr (pa_cons (pv 1) (pa_cons (pv 2) (pa_cons (pv 0) pa_nil))))⟩)))), ?_⟩
  refine ⟨_, rfl, m, rfl, by omega, by omega, fun D hD => ?_⟩
  refine comp_range (n := m.toNat) (fun i τ H' => ∃ v0, τ = [v0, some (.int o), some (.int e), some (.int m)] ∧ Same H H' ∧ H' D = some (.lst (Is ((six i).map (shW o e))))) ⟨none, rfl, same_new hD _, upd_same⟩ ?turn ?done
  case turn =>
    rintro i j τ H' hm hi ⟨v0, rfl, hs, hD'⟩
    refine gyes ?_
    refine ⟨_, rfl, _, rfl, _, rfl, o, e, 0 + (i : Int), rfl, by omega, fun H2 s2 => ?_⟩
    refine comp_next hm hi (s2 _ _ hD') (by rw [is_length, List.length_map]; unfold six; rw [List.length_map, List.length_range]; exact small1000 (by omega)) ⟨_, rfl, (hs.trans s2).upd_new hD _, ?_⟩
    rw [upd_same, six_succ, List.map_append]
    show _ = some (HO.lst (Is (_ ++ [shW o e (0 + (i : Int))])))
    rw [is_snoc]
  case done =>
    rintro τ H' ⟨v0, rfl, hs, hD'⟩
    exact q D H' hs hD hD'
end
end K33
set_option Elab.async false
set_option linter.all false
set_option maxRecDepth 100000
set_option maxHeartbeats 4000000
namespace K33
open PySem L2 TD
open Builtin.Int (intBits)
section
variable {P : Program} {w : World} {K : PySem.W.Frag} {mg : Str → Option Value} {base : Heap}
theorem ok_less_flaw {n : Nat} {f : Addr} {fd : FuncData} (F : Fun K "less_flaw" "less_flaw" (top 18) f fd) {g_boxes_of : Addr} {gd_boxes_of : FuncData} (c_boxes_of : Cal P w K mg base n "boxes_of" ["kept"] spBxs g_boxes_of gd_boxes_of) (z_range : mg "range" = none) (z_len : mg "len" = none) : FnOk P w K mg base CX0 (n + 1) f fd ["lets"] spLess := by
  refine F.ok sc_less_flaw (fun vs H Q E h => ?_) (fun cdv A outer s H vs Q E hr h => ?_)
  · obtain ⟨a, bs, rfl, _⟩ := h
    rfl
  obtain ⟨a, bs, rfl, ha, h64, qn, ql⟩ := h
  have nd := sc_less_flaw.nd
  refine ⟨_, (pss_cons (ps_for PassesOwn.never rfl (pi_range1 rfl z_range (pa_cons (pe_callB call_len_seq rfl z_len bt_len (pa_cons (pv 0) pa_nil)) pa_nil)) (pg_name (i := 1) nd rfl (Or.inl rfl)) (pss_one (ps_for PassesOwn.never rfl (pi_list (pe_callC c_boxes_of hr (pa_cons (pv 1) pa_nil))) (pg_name (i := 2) nd rfl (Or.inl rfl)) (pss_cons (ps_set (i := 3) nd rfl (Or.inl rfl) (pe_op op_sub (pv 1) (pe_op op_shl pe_int (pv 2)))) (pss_one (ps_if (PW.pt (pw_and (pt_val (pe_ix ix_list (pv 0) (pv 1) (fun _ _ => rfl))) (pw_and1 (pt_not (pt_val (pe_ix ix_list (pv 0) (pv 3) (fun _ _ => rfl))))))) (pss_one (ps_ret (pe_tup (pa_cons pe_str (pa_cons (pv 1) (pa_cons (pv 3) pa_nil)))))) pss_nil)))))) (pss_one (ps_ret pe_non))), ?_⟩
  refine ⟨_, rfl, a, _, rfl, .inl (SqL.of ha), (bs.length : Int), by rw [bs_length], by omega, by omega, ?_⟩
  refine for_range (n := (bs.length : Int).toNat) (fun i σ H' => ∃ v1 v2 v3, σ = [some (.ref a), v1, v2, v3] ∧ Same H H' ∧ Down bs i) ⟨none, none, none, rfl, Same.refl _, fun o h => absurd h (Nat.not_lt_zero _)⟩ ?turn ?done
  case turn =>
    rintro i σ H' hi ⟨v1, v2, v3, rfl, hs, dn⟩
    have hil : i < bs.length := by omega
    refine ⟨_, rfl, 0 + (i : Int), rfl, fun B H1 s1 hBn hB => ?_⟩
    have ss := hs.trans s1
    refine ⟨B, rfl, ⟨_, SqL.of hB⟩, ?_⟩
    refine for_list (xs := Is (bxs (0 + (i : Int)))) (fun j σ H2 => ∃ v2 v3, σ = [some (.ref a), some (.int (0 + (i : Int))), v2, v3] ∧ H2 = H1 ∧ ∀ b ∈ (bxs (0 + (i : Int))).take j, bs.getD (0 + (i : Int)).toNat false = true → bs.getD (0 + (i : Int) - 1 * 2 ^ b.toNat).toNat false = true) ⟨v2, v3, rfl, rfl, fun _ h => nomatch h⟩ ?keep2 ?turn2 ?done2
    case keep2 =>
      rintro j σ H2 hj ⟨v2, v3, rfl, rfl, _⟩
      exact SqL.of hB
    case turn2 =>
      rintro j v σ H2 hv ⟨v2, v3, rfl, rfl, hd⟩
      obtain ⟨b, hb1, rfl⟩ := is_at hv
      have hbm := List.mem_of_getElem? hb1
      have r := bxs_mem hbm
      have lo := low (k := 0 + (i : Int)) (by omega) (by omega) hbm
      refine ⟨_, rfl, _, rfl, _, _, rfl, rfl, ⟨r.1, by omega, by decide⟩, _, _, rfl, rfl, ?_⟩
      refine ⟨_, rfl, _, rfl, a, _, _, _, rfl, rfl, SqL.of (ss _ _ ha), bs_at (k := 0 + (i : Int)) (by omega) (by omega), _, rfl, ?_⟩
      have stay : (bs.getD (0 + (i : Int)).toNat false = true → bs.getD (0 + (i : Int) - 1 * 2 ^ b.toNat).toNat false = true) → ∀ b' ∈ (bxs (0 + (i : Int))).take (j + 1), bs.getD (0 + (i : Int)).toNat false = true → bs.getD (0 + (i : Int) - 1 * 2 ^ b'.toNat).toNat false = true := fun h b' hb' => by
        rw [take_snoc hb1] at hb'
        rcases List.mem_append.mp hb' with u | u
        · exact hd b' u
        · rw [List.mem_singleton.mp u]
          exact h
      cases e1 : bs.getD (0 + (i : Int)).toNat false with
      | false =>
        refine ifF rfl ?_
        exact ⟨_, _, rfl, rfl, fun _ _ z => nomatch z⟩
      | true =>
        refine ifT rfl ?_
        refine ⟨_, rfl, _, rfl, a, _, _, _, rfl, rfl, SqL.of (ss _ _ ha), bs_at (k := 0 + (i : Int) - 1 * 2 ^ b.toNat) lo.1 (by omega), _, rfl, ?_⟩
        cases e2 : bs.getD (0 + (i : Int) - 1 * 2 ^ b.toNat).toNat false with
        | true =>
          refine iteF ?_
          exact ⟨_, _, rfl, rfl, fun b' hb' _ => stay (fun _ => e2) b' hb' e1⟩
        | false =>
          refine iteT ?_
          refine ⟨_, rfl, _, rfl, sz3, fun r hr0 => ?_⟩
          exact ql r _ _ _ (ss.trans (same_new hr0 _)) upd_same
    case done2 =>
      rintro σ H2 ⟨v2, v3, rfl, rfl, hd⟩
      rw [is_length, List.take_length] at hd
      refine ⟨_, _, _, rfl, ss, fun o ho b hb1 => ?_⟩
      by_cases e : o = i
      · subst e
        exact hd b hb1
      · exact dn o (by omega) b hb1
  case done =>
    rintro σ H' ⟨v1, v2, v3, rfl, hs, dn⟩
    rw [show (bs.length : Int).toNat = bs.length by omega] at dn
    exact qn H' hs dn
end
end K33
set_option Elab.async false
set_option linter.all false
set_option maxRecDepth 100000
set_option maxHeartbeats 4000000
namespace K33
open PySem L2 TD
open Builtin.Int (intBits)
section
variable {P : Program} {w : World} {K : PySem.W.Frag} {mg : Str → Option Value} {base : Heap}
theorem ok_can_grow {n : Nat} {f : Addr} {fd : FuncData} (F : Fun K "can_grow" "can_grow" (top 19) f fd) {g_boxes_of : Addr} {gd_boxes_of : FuncData} (c_boxes_of : Cal P w K mg base n "boxes_of" ["kept"] spBxs g_boxes_of gd_boxes_of) {g_has_box : Addr} {gd_has_box : FuncData} (c_has_box : Cal P w K mg base n "has_box" ["kept", "box"] spHas g_has_box gd_has_box) {g_with_box : Addr} {gd_with_box : FuncData} (c_with_box : Cal P w K mg base n "with_box" ["kept", "box"] spWith g_with_box gd_with_box) (z_any : mg "any" = none) : FnOk P w K mg base CX0 (n + 1) f fd ["lets", "one", "other"] spGrow := by
  refine F.ok sc_can_grow (fun vs H Q E h => ?_) (fun cdv A outer s H vs Q E hr h => ?_)
  · obtain ⟨a, bs, m, o, e, rfl, _⟩ := h
    rfl
  obtain ⟨a, bs, m, o, e, rfl, ha, hl, hm, o0, o1, e0, e1, q⟩ := h
  have nd := sc_can_grow.nd
  refine ⟨_, (pss_one (ps_ret (pe_callB (call_anyL rfl rfl) rfl z_any bt_any (pa_cons (pe_comp (ls := ["box"]) (M := ["lets", "one", "other"]) rfl (CompOk.of (by rfl)) (NL.of (by rfl)) (pi_list (pe_callC c_boxes_of hr (pa_cons (pv 1) pa_nil))) (fun _ _ _ _ => ⟨(pg_name (i := 0) (nd_of (by rfl)) rfl (Or.inl rfl)), (pts_one (pt_not (pt_val (pe_callC c_has_box hr (pa_cons (pv 3) (pa_cons (pv 0) pa_nil)))))), (pe_ix (ix_listK (K := K) rfl) (pv 1) (pe_callC c_with_box hr (pa_cons (pv 3) (pa_cons (pv 0) pa_nil))) (fun _ _ => rfl))⟩)) pa_nil)))), ?_⟩
  have bl := bxs_len o
  have pl : (bs.length : Int) = 2 ^ m := by rw [hl]; push_cast; rfl
  refine ⟨_, rfl, o, rfl, fun B H1 s1 hBn hB => ?_⟩
  refine ⟨B, rfl, ⟨_, SqL.of hB⟩, fun D hD => ?_⟩
  refine comp_list (xs := Is (bxs o)) (fun i τ H' => ∃ v0, τ = [v0, some (.ref a), some (.int o), some (.int e)] ∧ Same H1 H' ∧ H' D = some (.lst (Bs ((((bxs o).take i).filter fun b => !hb e b).map fun b => bs.getD (Builtin.bitOr e (1 * 2 ^ b.toNat)).toNat false)))) ⟨none, rfl, same_new hD _, upd_same⟩ ?keep ?turn ?done
  case keep =>
    rintro i τ H' hi ⟨v0, rfl, hs, _⟩
    exact SqL.of (hs _ _ hB)
  case turn =>
    rintro i j v τ H' hm' hi hv ⟨v0, rfl, hs, hD'⟩
    obtain ⟨b, hb1, rfl⟩ := is_at hv
    have hbm := List.mem_of_getElem? hb1
    have r := bxs_mem hbm
    have gi := grow_in hm o0 (by omega) e0 (by omega) hbm
    refine ⟨_, rfl, _, rfl, e, b, rfl, r.1, ?_⟩
    refine ⟨_, rfl, ?_⟩
    cases eb : hb e b with
    | true =>
      refine ifF rfl ?_
      refine comp_skip hm' hi ⟨_, rfl, hs, ?_⟩
      rw [take_snoc hb1, List.filter_append, show [b].filter (fun b => !hb e b) = [] by rw [List.filter_cons, eb]; rfl, List.append_nil]
      exact hD'
    | false =>
      refine ifT rfl ?_
      refine ⟨_, rfl, _, rfl, _, rfl, e, b, rfl, r.1, by omega, a, _, _, _, rfl, rfl, SqL.of ((s1.trans hs) _ _ ha), bs_at gi.1 (by omega), ?_⟩
      refine comp_next hm' hi hD' (by rw [bs_length, List.length_map]; exact small1000 (Nat.le_trans (List.length_filter_le _ _) (by rw [List.length_take]; omega))) ⟨_, rfl, hs.upd_new hD _, ?_⟩
      rw [upd_same, take_snoc hb1, List.filter_append, show [b].filter (fun b => !hb e b) = [b] by rw [List.filter_cons, eb]; rfl, List.map_append]
      show _ = some (HO.lst (List.map V.bl (_ ++ [bs.getD (Builtin.bitOr e (1 * 2 ^ b.toNat)).toNat false])))
      rw [List.map_append]
      rfl
  case done =>
    rintro τ H' ⟨v0, rfl, hs, hD'⟩
    rw [is_length, List.take_length] at hD'
    exact ⟨D, _, rfl, SqL.of hD', q H' (s1.trans hs)⟩
end
end K33
set_option Elab.async false
set_option linter.all false
set_option maxRecDepth 100000
set_option maxHeartbeats 4000000
namespace K33
open PySem L2 TD
open Builtin.Int (intBits)
section
variable {P : Program} {w : World} {K : PySem.W.Frag} {mg : Str → Option Value} {base : Heap}
theorem ok_sets_by_size {n : Nat} {f : Addr} {fd : FuncData} (F : Fun K "sets_by_size" "sets_by_size" (top 20) f fd) {g_size_of : Addr} {gd_size_of : FuncData} (c_size_of : Cal P w K mg base n "size_of" ["kept"] spSz g_size_of gd_size_of) (z_range : mg "range" = none) (z_len : mg "len" = none) {u_MOST_BOXES : Value} (g_MOST_BOXES : mg "MOST_BOXES" = some u_MOST_BOXES) (r_MOST_BOXES : RelV (.int 6) u_MOST_BOXES) : FnOk P w K mg base CX0 (n + 1) f fd ["lets"] spBySz := by
  refine F.ok sc_sets_by_size (fun vs H Q E h => ?_) (fun cdv A outer s H vs Q E hr h => ?_)
  · obtain ⟨a, bs, rfl, _⟩ := h
    rfl
  obtain ⟨a, bs, rfl, ha, h64, q⟩ := h
  have nd := sc_sets_by_size.nd
  refine ⟨_, (pss_cons (ps_setC (i := 1) (ls := ["size"]) (M := ["lets", "by_size", "kept"]) rfl (CompOk.of (by rfl)) (NL.of (by rfl)) nd rfl (Or.inl rfl) (pi_range1 rfl z_range (pa_cons (pe_op op_add (pe_glob (v := .int 6) rfl g_MOST_BOXES r_MOST_BOXES) pe_int) pa_nil)) (fun _ _ _ _ => ⟨(pg_name (i := 0) (nd_of (by rfl)) rfl (Or.inl rfl)), pts_nil, (pe_lst pa_nil)⟩)) (pss_cons (ps_for PassesOwn.never rfl (pi_range1 rfl z_range (pa_cons (pe_callB call_len_seq rfl z_len bt_len (pa_cons (pv 0) pa_nil)) pa_nil)) (pg_name (i := 2) nd rfl (Or.inl rfl)) (pss_one (ps_if (pt_val (pe_ix ix_list (pv 0) (pv 2) (fun _ _ => rfl))) (pss_one (ps_expr (pe_bm PySem.F.plainAttrs_list PySem.F.slot_list_append PySem.F.type_list_append mt_append (pe_ix ix_list (pv 1) (pe_callC c_size_of hr (pa_cons (pv 2) pa_nil)) (fun _ _ => rfl)) (pa_cons (pv 2) pa_nil)))) pss_nil))) (pss_one (ps_ret (pv 1))))), ?_⟩
  refine ⟨_, _, rfl, rfl, 7, rfl, by decide, by decide, fun D hD => ?_⟩
  refine comp_range (n := (7 : Int).toNat) (fun i τ H' => ∃ v0 ls, τ = [v0, some (.ref a), none, none] ∧ Same H H' ∧ H' D = some (.lst (ls.map V.ref)) ∧ ls.length = i ∧ ls.Nodup ∧ ∀ l ∈ ls, H' l = some (.lst []) ∧ l ≠ D ∧ H l = none) ⟨none, [], rfl, same_new hD _, upd_same, rfl, List.nodup_nil, fun _ h => nomatch h⟩ ?turn ?done
  case turn =>
    rintro i m τ H' hm hi ⟨v0, ls, rfl, hs, hD', ll, nd', hl⟩
    have hi7 : i < 7 := hi
    refine gyes ?_
    refine ⟨Nat.zero_le _, fun l hl0 => ?_⟩
    have n1 := same_new hl0 (.lst [])
    have nD : l ≠ D := fun e => by rw [e, hD'] at hl0; cases hl0
    have hD2 := n1 _ _ hD'
    refine comp_next hm hi hD2 (by rw [List.length_map]; exact small1000 (by omega)) ⟨_, ls ++ [l], rfl, (hs.trans n1).upd_new hD _, ?_, by rw [List.length_append, ll]; rfl, ?_, fun y hy => ?_⟩
    · rw [upd_same, List.map_append]
      rfl
    · exact List.nodup_append.mpr ⟨nd', List.nodup_cons.mpr ⟨List.not_mem_nil, List.nodup_nil⟩, fun u hu v hv => by rw [List.mem_singleton.mp hv]; rintro rfl; have := (hl _ hu).1; rw [this] at hl0; cases hl0⟩
    · rcases List.mem_append.mp hy with u | u
      · obtain ⟨x1, x2, x3⟩ := hl y u
        exact ⟨by rw [upd_ne x2]; exact n1 _ _ x1, x2, x3⟩
      · rw [List.mem_singleton.mp u]
        exact ⟨by rw [upd_ne nD]; exact upd_same, nD, hs.free hl0⟩
  case done =>
  rintro τ H1 ⟨v0, ls, rfl, s1, hD1, ll, nd1, hl1⟩
  have ll : ls.length = 7 := ll
  refine ⟨_, rfl, a, _, rfl, .inl (SqL.of (s1 _ _ ha)), (bs.length : Int), by rw [bs_length], by omega, by omega, ?_⟩
  refine for_range (n := (bs.length : Int).toNat) (fun i σ H' => ∃ v2, σ = [some (.ref a), some (.ref D), v2] ∧ Same H H' ∧ ByAt H' D ls bs i) ⟨none, rfl, s1, ⟨hD1, ll, nd1, fun l hl => (hl1 l hl).2.1, fun s l hl => (hl1 l (List.mem_of_getElem? hl)).1⟩⟩ ?turn2 ?done2
  case turn2 =>
    rintro i σ H' hi ⟨v2, rfl, hs, by1⟩
    have hil : i < bs.length := by omega
    refine ⟨_, rfl, _, rfl, a, _, _, _, rfl, rfl, SqL.of (hs _ _ ha), bs_at (k := 0 + (i : Int)) (by omega) (by omega), _, rfl, ?_⟩
    cases e1 : bs.getD (0 + (i : Int)).toNat false with
    | false =>
      refine ifF rfl ?_
      refine ⟨_, rfl, hs, by1.lst, by1.len, by1.nd, by1.ne, fun s l hl => ?_⟩
      have h := by1.each s l hl
      rw [selS_succ, if_neg (by unfold pick; rw [e1, Bool.false_and]; exact Bool.false_ne_true), List.append_nil]
      exact h
    | true =>
      refine ifT rfl ?_
      have bl := bxs_len (0 + (i : Int))
      obtain ⟨l, hl⟩ : ∃ l, ls[(bxs (0 + (i : Int))).length]? = some l := ⟨_, List.getElem?_eq_getElem (by omega)⟩
      refine ⟨_, rfl, _, rfl, 0 + (i : Int), rfl, fun H2 s2 => ?_⟩
      have h2 := s2 _ _ (by1.each _ l hl)
      refine ⟨D, _, _, _, rfl, rfl, SqL.of (s2 _ _ by1.lst), atI_nat (v := V.ref l) (by rw [List.getElem?_map, hl]; rfl), Or.inl ⟨rfl, _, SqL.of h2⟩, _, rfl, l, _, _, rfl, rfl, h2, by rw [is_length]; exact small1000 (Nat.le_trans (selS_len _ _ _) (by omega)), ?_⟩
      have nD := by1.ne l (List.mem_of_getElem? hl)
      refine ⟨_, rfl, (hs.trans s2).upd_new (hl1 l (List.mem_of_getElem? hl)).2.2 _, by rw [upd_ne (Ne.symm nD)]; exact s2 _ _ by1.lst, by1.len, by1.nd, by1.ne, fun s y hy => ?_⟩
      by_cases es : s = (bxs (0 + (i : Int))).length
      · subst es
        rw [hl] at hy
        cases hy
        rw [upd_same, selS_succ, if_pos (by unfold pick; rw [e1, Bool.true_and, beq_self_eq_true]), is_snoc]
      · have ny : y ≠ l := fun z => by
          subst z
          have a1 := (List.getElem?_eq_some_iff.mp hy)
          have a2 := (List.getElem?_eq_some_iff.mp hl)
          have pw := List.pairwise_iff_getElem.mp by1.nd
          rcases Nat.lt_or_gt_of_ne es with u | u
          · exact pw _ _ a1.1 a2.1 u (a1.2.trans a2.2.symm)
          · exact pw _ _ a2.1 a1.1 u (a2.2.trans a1.2.symm)
        rw [upd_ne ny, selS_succ, if_neg (by unfold pick; rw [e1, Bool.true_and]; intro z; exact es (beq_iff_eq.mp z).symm), List.append_nil]
        exact s2 _ _ (by1.each s y hy)
  case done2 =>
    rintro σ H' ⟨v2, rfl, hs, by1⟩
    rw [show (bs.length : Int).toNat = bs.length by omega] at by1
    exact ⟨_, rfl, q D H' ls hs by1⟩
end
end K33
set_option Elab.async false
set_option linter.all false
set_option maxRecDepth 100000
set_option maxHeartbeats 4000000
namespace K33
open PySem L2 TD
open Builtin.Int (intBits)
section
variable {P : Program} {w : World} {K : PySem.W.Frag} {mg : Str → Option Value} {base : Heap}
theorem ok_more_flaw {n : Nat} {f : Addr} {fd : FuncData} (F : Fun K "more_flaw" "more_flaw" (top 21) f fd) {g_can_grow : Addr} {gd_can_grow : FuncData} (c_can_grow : Cal P w K mg base n "can_grow" ["lets", "one", "other"] spGrow g_can_grow gd_can_grow) {g_sets_by_size : Addr} {gd_sets_by_size : FuncData} (c_sets_by_size : Cal P w K mg base n "sets_by_size" ["lets"] spBySz g_sets_by_size gd_sets_by_size) (z_range : mg "range" = none) {u_MOST_BOXES : Value} (g_MOST_BOXES : mg "MOST_BOXES" = some u_MOST_BOXES) (r_MOST_BOXES : RelV (.int 6) u_MOST_BOXES) : FnOk P w K mg base CX0 (n + 1) f fd ["lets"] spMore := by
  refine F.ok sc_more_flaw (fun vs H Q E h => ?_) (fun cdv A outer s H vs Q E hr h => ?_)
  · obtain ⟨a, bs, m, rfl, _⟩ := h
    rfl
  obtain ⟨a, bs, m, rfl, ha, hl, hm, qn, qm⟩ := h
  have nd := sc_more_flaw.nd
  refine ⟨_, (pss_cons (ps_set (i := 1) nd rfl (Or.inl rfl) (pe_callC c_sets_by_size hr (pa_cons (pv 0) pa_nil))) (pss_cons (ps_for PassesOwn.never rfl (pi_range1 rfl z_range (pa_cons (pe_glob (v := .int 6) rfl g_MOST_BOXES r_MOST_BOXES) pa_nil)) (pg_name (i := 2) nd rfl (Or.inl rfl)) (pss_one (ps_for PassesOwn.never rfl (pi_list (pe_ix ix_list (pv 1) (pv 2) (fun _ _ => rfl))) (pg_name (i := 3) nd rfl (Or.inl rfl)) (pss_one (ps_for PassesOwn.never rfl (pi_list (pe_ix ix_list (pv 1) (pe_op op_add (pv 2) pe_int) (fun _ _ => rfl))) (pg_name (i := 4) nd rfl (Or.inl rfl)) (pss_one (ps_if (pt_not (pt_val (pe_callC c_can_grow hr (pa_cons (pv 0) (pa_cons (pv 4) (pa_cons (pv 3) pa_nil)))))) (pss_one (ps_ret (pe_tup (pa_cons pe_str (pa_cons (pv 4) (pa_cons (pv 3) pa_nil)))))) pss_nil))))))) (pss_one (ps_ret pe_non)))), ?_⟩
  have h64 : bs.length ≤ 64 := by rw [hl]; exact Nat.le_trans (Nat.pow_le_pow_right (by decide) hm) (by decide)
  refine ⟨_, rfl, a, bs, rfl, ha, h64, fun D H1 ls s1 by1 => ?_⟩
  refine ⟨6, rfl, by decide, by decide, ?_⟩
  have len := by1.len
  refine for_range (n := (6 : Int).toNat) (fun i σ H' => ∃ v2 v3 v4, σ = [some (.ref a), some (.ref D), v2, v3, v4] ∧ Same H1 H') ⟨none, none, none, rfl, Same.refl _⟩ ?turn ?done
  case done =>
    rintro σ H' ⟨v2, v3, v4, rfl, hs⟩
    exact qn H' (s1.trans hs)
  case turn =>
    rintro i σ H' hi ⟨v2, v3, v4, rfl, hs⟩
    have hi6 : i < 6 := hi
    obtain ⟨l1, hl1⟩ : ∃ l, ls[i]? = some l := ⟨_, List.getElem?_eq_getElem (by omega)⟩
    obtain ⟨l2, hl2⟩ : ∃ l, ls[i + 1]? = some l := ⟨_, List.getElem?_eq_getElem (by omega)⟩
    have k1 := by1.each i l1 hl1
    have k2 := by1.each (i + 1) l2 hl2
    refine ⟨_, rfl, _, rfl, D, _, _, _, rfl, rfl, SqL.of (hs _ _ by1.lst), at0 (v := V.ref l1) (by rw [List.getElem?_map, hl1]; rfl), l1, rfl, ⟨_, SqL.of (hs _ _ k1)⟩, ?_⟩
    refine for_list (xs := Is (selS bs bs.length i)) (fun j σ H2 => ∃ v3 v4, σ = [some (.ref a), some (.ref D), some (.int (0 + (i : Int))), v3, v4] ∧ Same H1 H2) ⟨v3, v4, rfl, hs⟩ ?keep2 ?turn2 ?done2
    case keep2 =>
      rintro j σ H2 hj ⟨v3, v4, rfl, hs2⟩
      exact SqL.of (hs2 _ _ k1)
    case done2 =>
      rintro σ H2 ⟨v3, v4, rfl, hs2⟩
      exact ⟨_, _, _, rfl, hs2⟩
    case turn2 =>
      rintro j v σ H2 hv ⟨v3, v4, rfl, hs2⟩
      obtain ⟨e, he, rfl⟩ := is_at hv
      have me := selS_mem (List.mem_of_getElem? he)
      refine ⟨_, rfl, _, rfl, _, _, rfl, rfl, D, _, _, _, rfl, rfl, SqL.of (hs2 _ _ by1.lst), at1 (v := V.ref l2) (by rw [List.getElem?_map, hl2]; rfl), l2, rfl, ⟨_, SqL.of (hs2 _ _ k2)⟩, ?_⟩
      refine for_list (xs := Is (selS bs bs.length (i + 1))) (fun j σ H3 => ∃ v4, σ = [some (.ref a), some (.ref D), some (.int (0 + (i : Int))), some (.int e), v4] ∧ Same H1 H3) ⟨v4, rfl, hs2⟩ ?keep3 ?turn3 ?done3
      case keep3 =>
        rintro j σ H3 hj ⟨v4, rfl, hs3⟩
        exact SqL.of (hs3 _ _ k2)
      case done3 =>
        rintro σ H3 ⟨v4, rfl, hs3⟩
        exact ⟨_, _, rfl, hs3⟩
      case turn3 =>
        rintro j v σ H3 hv ⟨v4, rfl, hs3⟩
        obtain ⟨o, ho, rfl⟩ := is_at hv
        have mo := selS_mem (List.mem_of_getElem? ho)
        refine ⟨_, rfl, _, rfl, _, rfl, a, bs, m, o, e, rfl, (s1.trans hs3) _ _ ha, hl, hm, mo.1, mo.2.1, me.1, me.2.1, fun H4 s4 => ?_⟩
        refine ⟨_, rfl, ?_⟩
        cases eg : (growL bs o e).any id with
        | true =>
          refine iteF ?_
          exact ⟨_, rfl, hs3.trans s4⟩
        | false =>
          refine iteT ?_
          refine ⟨_, rfl, _, rfl, sz3, fun r hr0 => ?_⟩
          exact qm r _ o e (((s1.trans hs3).trans s4).trans (same_new hr0 _)) upd_same ⟨mo.1, mo.2.1, me.1, me.2.1, mo.2.2.1, me.2.2.1, by rw [mo.2.2.2, me.2.2.2], eg⟩
end
end K33
set_option Elab.async false
set_option linter.all false
set_option maxRecDepth 100000
set_option maxHeartbeats 4000000
namespace K33
open PySem L2 TD
open Builtin.Int (intBits)
section
variable {P : Program} {w : World} {K : PySem.W.Frag} {mg : Str → Option Value} {base : Heap}
theorem ok_flaw {n : Nat} {f : Addr} {fd : FuncData} (F : Fun K "flaw" "flaw" (top 22) f fd) {C_L : Addr} (cfL : Cls K C_L) {f_Lm : Addr} {fd_Lm : FuncData} (m_Lm : Meth K C_L "may" f_Lm) (G_Lm : FnOk P w K mg base CX0 n f_Lm fd_Lm ["self", "kept"] (spLmay C_L)) (b_Lm : Binds K fd_Lm ["self", "kept"] []) {g_more_flaw : Addr} {gd_more_flaw : FuncData} (c_more_flaw : Cal P w K mg base n "more_flaw" ["lets"] spMore g_more_flaw gd_more_flaw) {g_less_flaw : Addr} {gd_less_flaw : FuncData} (c_less_flaw : Cal P w K mg base n "less_flaw" ["lets"] spLess g_less_flaw gd_less_flaw) (z_range : mg "range" = none) : FnOk P w K mg base CX0 (n + 1) f fd ["pattern", "many"] (spFlaw C_L) := by
  refine F.ok sc_flaw (fun vs H Q E h => ?_) (fun cdv A outer s H vs Q E hr h => ?_)
  · obtain ⟨x, ms, m, rfl, _⟩ := h
    rfl
  obtain ⟨x, ms, m, rfl, hO, m1, m6, qn, qs, qm⟩ := h
  have nd := sc_flaw.nd
  refine ⟨_, (pss_cons (ps_setC (i := 2) (ls := ["kept"]) (M := ["pattern", "many", "lets", "less"]) rfl (CompOk.of (by rfl)) (NL.of (by rfl)) nd rfl (Or.inl rfl) (pi_range1 rfl z_range (pa_cons (pe_op op_shl pe_int (pv 1)) pa_nil)) (fun _ _ _ _ => ⟨(pg_name (i := 0) (nd_of (by rfl)) rfl (Or.inl rfl)), pts_nil, (pe_meth (pv 1) cfL m_Lm G_Lm hr b_Lm .nil pass0 (pa_cons (pv 0) pa_nil))⟩)) (pss_cons (ps_if (pt_not (pt_val (pe_ix ix_list (pv 2) pe_int (fun _ _ => rfl)))) (pss_one (ps_ret (pe_tup (pa_cons pe_str (pa_cons pe_int (pa_cons pe_int pa_nil)))))) pss_nil) (pss_cons (ps_set (i := 3) nd rfl (Or.inl rfl) (pe_callC c_less_flaw hr (pa_cons (pv 2) pa_nil))) (pss_one (ps_ret (pe_ifExp (pt_cmpR op_isN (pv 3) pe_non (nomark _)) (pe_callC c_more_flaw hr (pa_cons (pv 2) pa_nil)) (pv 3))))))), ?_⟩
  have hO' := hO
  obtain ⟨dx, t, hx, ht⟩ := hO'
  have p64 : 2 ^ m ≤ 64 := Nat.le_trans (Nat.pow_le_pow_right (by decide) m6) (by decide)
  obtain ⟨N, hN⟩ : ∃ N : Nat, N = 2 ^ m := ⟨_, rfl⟩
  have pe : (1 : Int) * 2 ^ ((m : Int)).toNat = (N : Int) := by rw [Int.one_mul, Int.toNat_natCast, hN]; push_cast; rfl
  rw [← hN] at p64
  refine ⟨_, rfl, _, _, rfl, rfl, ⟨by omega, by omega, by decide⟩, (N : Int), congrArg (fun v => [V.int v]) pe, by omega, by omega, fun D hD => ?_⟩
  refine comp_range (n := (N : Int).toNat) (fun i τ H' => ∃ v0, τ = [v0, some (.ref x), some (.int (m : Int)), none, none] ∧ Same H H' ∧ H' D = some (.lst (Bs (letsOf ms i)))) ⟨none, rfl, same_new hD _, upd_same⟩ ?turn ?done
  case turn =>
    rintro i j τ H' hm hi ⟨v0, rfl, hs, hD'⟩
    refine gyes ?_
    refine ⟨_, rfl, x, dx, _, rfl, hs _ _ hx, rfl, _, rfl, x, ms, 0 + (i : Int), rfl, hO.same hs, ?_⟩
    refine comp_next hm hi hD' (by rw [bs_length, letsOf_len]; exact small1000 (by omega)) ⟨_, rfl, hs.upd_new hD _, ?_⟩
    rw [upd_same]
    unfold letsOf
    rw [six_succ, List.map_append]
    show _ = some (HO.lst (List.map V.bl (_ ++ [inV (.int (0 + (i : Int))) (Is ms)])))
    rw [List.map_append]
    rfl
  case done =>
  rintro τ H1 ⟨v0, rfl, s1, hD1⟩
  rw [Int.toNat_natCast, hN] at hD1
  rw [hN] at p64
  have ll := letsOf_len ms (2 ^ m)
  have lp : 0 < (letsOf ms (2 ^ m)).length := by rw [ll]; exact Nat.pow_pos (by decide)
  refine ⟨_, rfl, D, _, _, _, rfl, rfl, SqL.of hD1, bs_at (k := 0) (by decide) (by omega), _, rfl, ?_⟩
  cases e0 : (letsOf ms (2 ^ m)).getD (0 : Int).toNat false with
  | false =>
    refine iteT ?_
    refine ⟨sz3, fun r hr0 => ?_⟩
    exact qs r _ "empty" 0 0 (s1.trans (same_new hr0 _)) upd_same (by decide)
  | true =>
  refine iteF ?_
  refine ⟨_, rfl, D, letsOf ms (2 ^ m), rfl, hD1, by omega, fun H2 s2 dn => ?_, fun r H2 o e s2 hr2 => ?_⟩
  · refine ⟨_, rfl, rfl, _, rfl, ?_⟩
    refine iteT ?_
    refine ⟨_, rfl, D, letsOf ms (2 ^ m), m, rfl, s2 _ _ hD1, ll, m6, fun H3 s3 => qn H3 ((s1.trans s2).trans s3), fun r H3 o e s3 hr3 mf => ?_⟩
    rw [ll] at dn
    exact qm r H3 o e ((s1.trans s2).trans s3) hr3 ⟨mf, dn, e0⟩
  · refine ⟨_, rfl, rfl, _, rfl, ?_⟩
    refine iteF ?_
    exact ⟨_, rfl, qs r H2 "less" o e (s1.trans s2) hr2 (by decide)⟩
end
end K33
set_option Elab.async false
set_option linter.all false
set_option maxRecDepth 100000
set_option maxHeartbeats 4000000
namespace K33
open PySem L2 TD
open Builtin.Int (intBits)
section
variable {P : Program} {w : World} {K : PySem.W.Frag} {mg : Str → Option Value} {base : Heap}
theorem neT {v u : V} (h : v = u) : (!decide (v = u)) = false := by rw [decide_eq_true h]; rfl
theorem ok__law_short {n : Nat} {f : Addr} {fd : FuncData} (F : Fun K "_law_short" "_law_short" (top 34) f fd) {g__law_size : Addr} {gd__law_size : FuncData} (c__law_size : Cal P w K mg base n "_law_size" ["_law_kept"] spLSz g__law_size gd__law_size) (z_range : mg "range" = none) (z_isinstance : mg "isinstance" = none) (z_bool : mg "bool" = none) (z_int : mg "int" = none) (z_len : mg "len" = none) (z_list : mg "list" = none) : FnOk P w K mg base CX0 (n + 1) f fd ["_law_found", "_law_one", "_law_other", "_law_many_here"] spLShort := by
  refine F.ok sc__law_short (fun vs H Q E h => ?_) (fun cdv A outer s H vs Q E hr h => ?_)
  · obtain ⟨r, o, e, m, rfl, _⟩ := h
    rfl
  obtain ⟨r, o, e, m, rfl, hr0, e0, e1, m6, q⟩ := h
  have nd := sc__law_short.nd
  refine ⟨_, (pss_cons (ps_set (i := 4) nd rfl (Or.inl rfl) (pe_callC c__law_size hr (pa_cons (pv 2) pa_nil))) (pss_cons (ps_if (PW.pt (pw_or (pt_not (pt_val (pe_callB (call_isinst (T := "list")) rfl z_isinstance bt_isinstance (pa_cons (pv 0) (pa_cons (pe_bltn (v := .ty "list") rfl z_list bt_list rfl) pa_nil))))) (pw_or1 (pt_cmpR op_ne (pe_callB call_len_seq rfl z_len bt_len (pa_cons (pv 0) pa_nil)) (pv 3) (nomark _))))) (pss_one (ps_ret pe_bl)) pss_nil) (pss_cons (ps_for PassesOwn.never rfl (pi_range1 rfl z_range (pa_cons (pv 3) pa_nil)) (pg_name (i := 5) nd rfl (Or.inl rfl)) (pss_cons (ps_set (i := 6) nd rfl (Or.inl rfl) pe_int) (pss_cons (ps_if (pt_cmpR op_eq (pe_op op_and (pe_op op_shr (pv 2) (pv 5)) pe_int) pe_int (nomark _)) (pss_one (ps_set (i := 6) nd rfl (Or.inl rfl) (pe_op op_add (pv 4) pe_int))) (pss_one (ps_if (pt_cmpR op_eq (pe_op op_and (pe_op op_shr (pv 1) (pv 5)) pe_int) pe_int (nomark _)) (pss_one (ps_set (i := 6) nd rfl (Or.inl rfl) (pe_op op_add (pv 4) pe_int))) pss_nil))) (pss_one (ps_if (PW.pt (pw_or (pt_not (pt_val (pe_callB (call_isinst (T := "int")) rfl z_isinstance bt_isinstance (pa_cons (pe_ix ix_list (pv 0) (pv 5) (fun _ _ => rfl)) (pa_cons (pe_bltn (v := .ty "int") rfl z_int bt_int rfl) pa_nil))))) (pw_or (pt_val (pe_callB (call_isinst (T := "bool")) rfl z_isinstance bt_isinstance (pa_cons (pe_ix ix_list (pv 0) (pv 5) (fun _ _ => rfl)) (pa_cons (pe_bltn (v := .ty "bool") rfl z_bool bt_bool rfl) pa_nil)))) (pw_or1 (pt_cmpR op_ne (pe_ix ix_list (pv 0) (pv 5) (fun _ _ => rfl)) (pv 6) (nomark _)))))) (pss_one (ps_ret pe_bl)) pss_nil))))) (pss_one (ps_ret pe_bl))))), ?_⟩
  refine ⟨_, rfl, e, rfl, e0, e1, ?_⟩
  refine ⟨_, rfl, _, _, _, rfl, .lst hr0, kit_same _, _, rfl, ?_⟩
  refine iteF ?_
  refine ⟨_, rfl, r, _, rfl, .inl (SqL.of hr0), _, rfl, rfl, _, rfl, ?_⟩
  refine ifF (neT (congrArg V.int (by rw [is_length, List.length_map]; unfold six; rw [List.length_map, List.length_range]))) ?_
  refine ⟨_, rfl, (m : Int), rfl, by omega, by omega, ?_⟩
  refine for_range (n := (m : Int).toNat) (fun i σ H' => ∃ v5 v6, σ = [some (.ref r), some (.int o), some (.int e), some (.int (m : Int)), some (.int ((bxs e).length : Nat)), v5, v6] ∧ H' = H) ⟨none, none, rfl, rfl⟩ ?turn ?done
  case done =>
    rintro σ H' ⟨v5, v6, rfl, rfl⟩
    exact q
  case turn =>
    rintro i σ H' hi ⟨v5, v6, rfl, rfl⟩
    have him : i < m := by omega
    refine ⟨_, rfl, _, rfl, _, _, rfl, rfl, (by show (0 : Int) ≤ 0 + (i : Int); omega), _, _, rfl, rfl, rfl, _, rfl, ?_⟩
    cases b1 : hb e (0 + (i : Int)) with
    | true =>
      refine ifT b1 ?_
      refine ⟨_, rfl, _, _, rfl, rfl, ?_⟩
      have she : shW o e (0 + (i : Int)) = (((bxs e).length : Nat) : Int) + 2 := by unfold shW; rw [if_pos b1]
      refine ⟨_, rfl, _, rfl, r, _, _, _, rfl, rfl, SqL.of hr0, sh_at him, _, _, _, rfl, .int _, kit_same _, _, rfl, ?_⟩
      refine iteF ?_
      refine ⟨_, rfl, _, rfl, r, _, _, _, rfl, rfl, SqL.of hr0, sh_at him, _, _, _, rfl, .int _, kit_int_bool, _, rfl, ?_⟩
      refine iteF ?_
      refine ⟨_, rfl, _, rfl, r, _, _, _, rfl, rfl, SqL.of hr0, sh_at him, _, rfl, rfl, _, rfl, ?_⟩
      refine ifF (neT (congrArg V.int she)) ?_
      exact ⟨_, _, rfl, rfl⟩
    | false =>
      refine ifF b1 ?_
      refine ⟨_, rfl, _, rfl, _, _, rfl, rfl, (by show (0 : Int) ≤ 0 + (i : Int); omega), _, _, rfl, rfl, rfl, _, rfl, ?_⟩
      cases b2 : hb o (0 + (i : Int)) with
      | true =>
        refine ifT b2 ?_
        refine ⟨_, rfl, _, _, rfl, rfl, ?_⟩
        have she : shW o e (0 + (i : Int)) = (((bxs e).length : Nat) : Int) + 1 := by unfold shW; rw [if_neg (by rw [b1]; exact Bool.false_ne_true), if_pos b2]
        refine ⟨_, rfl, _, rfl, r, _, _, _, rfl, rfl, SqL.of hr0, sh_at him, _, _, _, rfl, .int _, kit_same _, _, rfl, ?_⟩
        refine iteF ?_
        refine ⟨_, rfl, _, rfl, r, _, _, _, rfl, rfl, SqL.of hr0, sh_at him, _, _, _, rfl, .int _, kit_int_bool, _, rfl, ?_⟩
        refine iteF ?_
        refine ⟨_, rfl, _, rfl, r, _, _, _, rfl, rfl, SqL.of hr0, sh_at him, _, rfl, rfl, _, rfl, ?_⟩
        refine ifF (neT (congrArg V.int she)) ?_
        exact ⟨_, _, rfl, rfl⟩
      | false =>
        refine ifF b2 ?_
        have she : shW o e (0 + (i : Int)) = 0 := by unfold shW; rw [if_neg (by rw [b1]; exact Bool.false_ne_true), if_neg (by rw [b2]; exact Bool.false_ne_true)]
        refine ⟨_, rfl, _, rfl, r, _, _, _, rfl, rfl, SqL.of hr0, sh_at him, _, _, _, rfl, .int _, kit_same _, _, rfl, ?_⟩
        refine iteF ?_
        refine ⟨_, rfl, _, rfl, r, _, _, _, rfl, rfl, SqL.of hr0, sh_at him, _, _, _, rfl, .int _, kit_int_bool, _, rfl, ?_⟩
        refine iteF ?_
        refine ⟨_, rfl, _, rfl, r, _, _, _, rfl, rfl, SqL.of hr0, sh_at him, _, rfl, rfl, _, rfl, ?_⟩
        refine ifF (neT (congrArg V.int she)) ?_
        exact ⟨_, _, rfl, rfl⟩
end
end K33
set_option Elab.async false
set_option linter.all false
set_option maxRecDepth 100000
set_option maxHeartbeats 4000000
namespace K33
open PySem L2 TD
open Builtin.Int (intBits)
section
variable {P : Program} {w : World} {K : PySem.W.Frag} {mg : Str → Option Value} {base : Heap}
theorem ok__law_sum {n : Nat} {f : Addr} {fd : FuncData} (F : Fun K "_law_sum" "_law_sum" (top 35) f fd) (z_sum : mg "sum" = none) (z_range : mg "range" = none) (z_len : mg "len" = none) : FnOk P w K mg base CX0 (n + 1) f fd ["_law_worths", "_law_kept"] spLSum := by
  refine F.ok sc__law_sum (fun vs H Q E h => ?_) (fun cdv A outer s H vs Q E hr h => ?_)
  · obtain ⟨r, o, e, k, m, rfl, _⟩ := h
    rfl
  obtain ⟨r, o, e, k, m, rfl, hr0, m6, q⟩ := h
  have nd := sc__law_sum.nd
  refine ⟨_, (pss_one (ps_ret (pe_callB (call_sum rfl) rfl z_sum bt_sum (pa_cons (pe_comp (ls := ["_law_box"]) (M := ["_law_worths", "_law_kept"]) rfl (CompOk.of (by rfl)) (NL.of (by rfl)) (pi_range1 rfl z_range (pa_cons (pe_callB call_len_seq rfl z_len bt_len (pa_cons (pv 0) pa_nil)) pa_nil)) (fun _ _ _ _ => ⟨(pg_name (i := 0) (nd_of (by rfl)) rfl (Or.inl rfl)), (pts_one (pt_cmpR op_eq (pe_op op_and (pe_op op_shr (pv 2) (pv 0)) pe_int) pe_int (nomark _))), (pe_ix (ix_listK (K := K) rfl) (pv 1) (pv 0) (fun _ _ => rfl))⟩)) pa_nil)))), ?_⟩
  have hl : (Is ((six m).map (shW o e))).length = m := by rw [is_length, List.length_map]; unfold six; rw [List.length_map, List.length_range]
  refine ⟨_, rfl, r, _, rfl, .inl (SqL.of hr0), (m : Int), by rw [hl], by omega, by omega, fun D hD => ?_⟩
  refine comp_range (n := (m : Int).toNat) (fun i τ H' => ∃ v0, τ = [v0, some (.ref r), some (.int k)] ∧ Same H H' ∧ H' D = some (.lst (Is (((six i).filter (hb k)).map (shW o e))))) ⟨none, rfl, same_new hD _, upd_same⟩ ?turn ?done
  case turn =>
    rintro i j τ H' hm hi ⟨v0, rfl, hs, hD'⟩
    have him : i < m := by omega
    have fs := filt_snoc k i
    refine ⟨_, rfl, _, rfl, _, _, rfl, rfl, (by show (0 : Int) ≤ 0 + (i : Int); omega), _, _, rfl, rfl, rfl, _, rfl, ?_⟩
    cases b1 : hb k (0 + (i : Int)) with
    | false =>
      refine ifF b1 ?_
      refine comp_skip hm hi ⟨_, rfl, hs, ?_⟩
      rw [fs, b1, if_neg Bool.false_ne_true, List.append_nil]
      exact hD'
    | true =>
      refine ifT b1 ?_
      refine ⟨_, rfl, _, rfl, r, _, _, _, rfl, rfl, SqL.of (hs _ _ hr0), sh_at him, ?_⟩
      refine comp_next hm hi hD' (by rw [is_length, List.length_map]; exact small1000 (Nat.le_trans (List.length_filter_le _ _) (by unfold six; rw [List.length_map, List.length_range]; omega))) ⟨_, rfl, hs.upd_new hD _, ?_⟩
      rw [upd_same, fs, b1, if_pos rfl, List.map_append]
      show _ = some (HO.lst (Is (_ ++ [shW o e (0 + (i : Int))])))
      rw [is_snoc]
  case done =>
    rintro τ H' ⟨v0, rfl, hs, hD'⟩
    rw [Int.toNat_natCast] at hD'
    exact ⟨D, _, rfl, SqL.of hD', q H' hs⟩
end
end K33
set_option Elab.async false
set_option linter.all false
set_option maxRecDepth 100000
set_option maxHeartbeats 4000000
namespace K33
open PySem L2 TD
open Builtin.Int (intBits)
section
variable {P : Program} {w : World} {K : PySem.W.Frag} {mg : Str → Option Value} {base : Heap}
theorem ok_falling {n : Nat} {f : Addr} {fd : FuncData} (F : Fun K "falling" "falling" (top 23) f fd) {g_below : Addr} {gd_below : FuncData} (c_below : Cal P w K mg base n "below" ["one", "other"] (spBelow K) g_below gd_below) (z_range : mg "range" = none) (z_len : mg "len" = none) : FnOk P w K mg base CX0 (n + 1) f fd ["worths"] spFall := by
  refine F.ok sc_falling (fun vs H Q E h => ?_) (fun cdv A outer s H vs Q E hr h => ?_)
  · obtain ⟨a, qs, ns, rfl, _⟩ := h
    rfl
  obtain ⟨a, qs, ns, rfl, hW, l6, hz, q⟩ := h
  have nd := sc_falling.nd
  refine ⟨_, (pss_cons (ps_set (i := 1) nd rfl (Or.inl rfl) (pe_lst pa_nil)) (pss_cons (ps_for PassesOwn.never rfl (pi_range1 rfl z_range (pa_cons (pe_callB call_len_seq rfl z_len bt_len (pa_cons (pv 0) pa_nil)) pa_nil)) (pg_name (i := 2) nd rfl (Or.inl rfl)) (pss_cons (ps_set (i := 3) nd rfl (Or.inl rfl) (pe_callB call_len_seq rfl z_len bt_len (pa_cons (pv 1) pa_nil))) (pss_cons (ps_while PassesOwn.never (PW.pt (pw_and (pt_cmpR op_gt (pv 3) pe_int (nomark _)) (pw_and1 (pt_val (pe_callC c_below hr (pa_cons (pe_ix ix_list (pv 0) (pe_ix ix_list (pv 1) (pe_op op_sub (pv 3) pe_int) (fun _ _ => rfl)) (fun _ _ => rfl)) (pa_cons (pe_ix ix_list (pv 0) (pv 2) (fun _ _ => rfl)) pa_nil))))))) (pss_one (ps_set (i := 3) nd rfl (Or.inl rfl) (pe_op op_sub (pv 3) pe_int)))) (pss_one (ps_expr (pe_bm PySem.F.plainAttrs_list PySem.F.slot_list_insert PySem.F.type_list_insert mt_insert (pv 1) (pa_cons (pv 3) (pa_cons (pv 2) pa_nil)))))))) (pss_one (ps_ret (pv 1))))), ?_⟩
  have hql := hW.len
  have lq : (qs.map V.ref).length = ns.length := by rw [List.length_map, hql]
  refine ⟨Nat.zero_le _, fun O hO => ?_⟩
  have nO := same_new hO (.lst [])
  refine ⟨_, rfl, a, _, rfl, .inl (SqL.of (nO _ _ hW.lst)), (ns.length : Int), by rw [lq], by omega, by omega, ?_⟩
  refine for_range (n := (ns.length : Int).toNat) (fun i σ H' => ∃ v2 v3, σ = [some (.ref a), some (.ref O), v2, v3] ∧ Same H H' ∧ H' O = some (.lst (Is (fallN ns i)))) ⟨none, none, rfl, nO, upd_same⟩ ?turn ?done
  case done =>
    rintro σ H' ⟨v2, v3, rfl, hs, hO'⟩
    rw [Int.toNat_natCast] at hO'
    exact ⟨_, rfl, q O H' hs hO hO'⟩
  case turn =>
    rintro i σ H' hi ⟨v2, v3, rfl, hs, hO'⟩
    have hin : i < ns.length := by omega
    have fl := fallN_len ns i
    have hW' := hW.same hs
    refine ⟨_, rfl, O, _, rfl, .inl (SqL.of hO'), ?_⟩
    refine while_by (fun σ H'' => ∃ p : Nat, σ = [some (.ref a), some (.ref O), some (.int (0 + (i : Int))), some (.int (p : Int))] ∧ H'' = H' ∧ p ≤ i ∧ plc ns (fallN ns i) (0 + (i : Int)) p = plc ns (fallN ns i) (0 + (i : Int)) (fallN ns i).length) (fun σ _ => match σ with | [_, _, _, some (.int p)] => p.toNat | _ => 0) ⟨i, by rw [is_length, fl]; rfl, rfl, Nat.le_refl _, by rw [fl]⟩ ?step ?mono
    case mono =>
      intro σ H Q Q' hQ h
      obtain ⟨v1, e1, i, j, e5, e6, kk, e7, h⟩ := h
      refine ⟨v1, e1, i, j, e5, e6, kk, e7, ?_⟩
      cases kk with
      | false => exact ifF rfl (hQ _ _ (of_ifF h))
      | true =>
        refine ifT rfl ?_
        obtain ⟨w1, f1, w2, f2, w3, f3, i2, j2, g1, g2, p1, y1, k1, u1, a1, a2, a3, a4, p2, y2, k2, u2, b1, b2, b3, b4, w4, f4, w5, f5, p3, y3, k3, u3, c1, c2, c3, c4, P1, R1, A1, B1, C1, D1, d1, d2, d3, d4, k9, e9, h9⟩ := of_ifT h
        exact ⟨w1, f1, w2, f2, w3, f3, i2, j2, g1, g2, p1, y1, k1, u1, a1, a2, a3, a4, p2, y2, k2, u2, b1, b2, b3, b4, w4, f4, w5, f5, p3, y3, k3, u3, c1, c2, c3, c4, P1, R1, A1, B1, C1, D1, d1, d2, d3, d4, k9, e9, hQ _ _ h9⟩
    case step =>
      rintro σ H'' ⟨p, rfl, rfl, hp, ep⟩
      refine ⟨_, rfl, _, _, rfl, rfl, _, rfl, ?_⟩
      cases p with
      | zero =>
        refine ifF (decide_eq_false (by omega)) ?_
        refine iteF ?_
        refine ⟨_, rfl, .inl ⟨rfl, _, SqL.of hO'⟩, _, rfl, _, rfl, O, _, _, _, rfl, rfl, hO', by omega, by rw [is_length, fl]; omega, by rw [is_length, fl]; exact small1000 (by omega), ?_⟩
        refine ⟨_, _, rfl, hs.upd_new hO _, ?_⟩
        rw [upd_same]
        show _ = some (HO.lst (Is (insF ns (fallN ns i) (0 + (i : Int)))))
        rw [is_ins, show plc ns (fallN ns i) (0 + (i : Int)) (fallN ns i).length = 0 from ep.symm]
        rfl
      | succ p =>
        refine ifT (decide_eq_true (by omega)) ?_
        have hpl : p < (fallN ns i).length := by omega
        have bm := fallN_mem ns i _ (TD.getD_mem hpl)
        have ao : atI (Is (fallN ns i)) (((p + 1 : Nat) : Int) - 1) = some (.int ((fallN ns i).getD p 0)) := by
          have h := at_is (ns := fallN ns i) (k := ((p + 1 : Nat) : Int) - 1) (by omega) (by omega)
          rw [show (((p + 1 : Nat) : Int) - 1).toNat = p by omega] at h
          exact h
        obtain ⟨q1, hq1, hq1'⟩ := hW'.at' bm.1 (by omega)
        obtain ⟨q2, hq2, hq2'⟩ := hW'.at' (k := 0 + (i : Int)) (by omega) (by omega)
        have z1 := hz _ (TD.getD_mem (ns := ns) (i := ((fallN ns i).getD p 0).toNat) (by omega))
        have z2 := hz _ (TD.getD_mem (ns := ns) (i := (0 + (i : Int)).toNat) (by omega))
        refine ⟨_, rfl, _, rfl, _, rfl, _, _, rfl, rfl, O, _, _, _, rfl, rfl, SqL.of hO', ao, a, _, _, _, rfl, rfl, SqL.of hW'.lst, hq1, _, rfl, _, rfl, a, _, _, _, rfl, rfl, SqL.of hW'.lst, hq2, q1, q2, _, 1, _, 1, rfl, SqT.of hq1', SqT.of hq2', ⟨z1, by decide, z2, by decide⟩, _, rfl, ?_⟩
        by_cases hless : ns.getD ((fallN ns i).getD p 0).toNat 0 * 1 < ns.getD (0 + (i : Int)).toNat 0 * 1
        · refine ifT (decide_eq_true hless) ?_
          refine ⟨_, rfl, _, _, rfl, rfl, ?_⟩
          rw [Int.mul_one, Int.mul_one] at hless
          rw [show plc ns (fallN ns i) (0 + (i : Int)) (p + 1) = plc ns (fallN ns i) (0 + (i : Int)) p from if_pos hless] at ep
          refine ⟨⟨p, ?_, rfl, by omega, ep⟩, ?_⟩
          · show [_, _, _, some (V.int (((p + 1 : Nat) : Int) - 1))] = _
            rw [show (((p + 1 : Nat) : Int) - 1) = (p : Int) by omega]
          · show (((p + 1 : Nat) : Int) - 1).toNat < ((p + 1 : Nat) : Int).toNat
            omega
        · refine ifF (decide_eq_false hless) ?_
          rw [Int.mul_one, Int.mul_one] at hless
          rw [show plc ns (fallN ns i) (0 + (i : Int)) (p + 1) = p + 1 from if_neg hless] at ep
          refine ⟨_, rfl, .inl ⟨rfl, _, SqL.of hO'⟩, _, rfl, _, rfl, O, _, _, _, rfl, rfl, hO', by omega, by rw [is_length, fl]; omega, by rw [is_length, fl]; exact small1000 (by omega), ?_⟩
          refine ⟨_, _, rfl, hs.upd_new hO _, ?_⟩
          rw [upd_same]
          show _ = some (HO.lst (Is (insF ns (fallN ns i) (0 + (i : Int)))))
          rw [is_ins, ← ep]
          rfl
end
end K33
set_option Elab.async false
set_option linter.all false
set_option maxRecDepth 100000
set_option maxHeartbeats 4000000
namespace K33
open PySem L2 TD
open Builtin.Int (intBits)
section
variable {P : Program} {w : World} {K : PySem.W.Frag} {mg : Str → Option Value} {base : Heap}
theorem ok_chosen {n : Nat} {f : Addr} {fd : FuncData} (F : Fun K "chosen" "chosen" (top 24) f fd) {C_L : Addr} (cfL : Cls K C_L) {f_Lm : Addr} {fd_Lm : FuncData} (m_Lm : Meth K C_L "may" f_Lm) (G_Lm : FnOk P w K mg base CX0 n f_Lm fd_Lm ["self", "kept"] (spLmay C_L)) (b_Lm : Binds K fd_Lm ["self", "kept"] []) {g_boxes_of : Addr} {gd_boxes_of : FuncData} (c_boxes_of : Cal P w K mg base n "boxes_of" ["kept"] spBxs g_boxes_of gd_boxes_of) {g_falling : Addr} {gd_falling : FuncData} (c_falling : Cal P w K mg base n "falling" ["worths"] spFall g_falling gd_falling) {g_below : Addr} {gd_below : FuncData} (c_below : Cal P w K mg base n "below" ["one", "other"] (spBelow K) g_below gd_below) {g_whole : Addr} {gd_whole : FuncData} (c_whole : Cal P w K mg base n "whole" ["number"] spWh g_whole gd_whole) {g_with_box : Addr} {gd_with_box : FuncData} (c_with_box : Cal P w K mg base n "with_box" ["kept", "box"] spWith g_with_box gd_with_box) : FnOk P w K mg base CX0 (n + 1) f fd ["pattern", "worths"] (spChosen C_L) := by
  refine F.ok sc_chosen (fun vs H Q E h => ?_) (fun cdv A outer s H vs Q E hr h => ?_)
  · obtain ⟨x, a, ms, qs, ns, rfl, _⟩ := h
    rfl
  obtain ⟨x, a, ms, qs, ns, rfl, hO, hW, l6, hz, q⟩ := h
  have nd := sc_chosen.nd
  refine ⟨_, (pss_cons (ps_set (i := 2) nd rfl (Or.inl rfl) pe_int) (pss_cons (ps_for PassesOwn.never rfl (pi_list (pe_callC c_falling hr (pa_cons (pv 1) pa_nil))) (pg_name (i := 3) nd rfl (Or.inl rfl)) (pss_one (ps_if (PW.pt (pw_and (pt_val (pe_callC c_below hr (pa_cons (pe_callC c_whole hr (pa_cons pe_int pa_nil)) (pa_cons (pe_ix ix_list (pv 1) (pv 3) (fun _ _ => rfl)) pa_nil)))) (pw_and1 (pt_val (pe_meth (pv 0) cfL m_Lm G_Lm hr b_Lm .nil pass0 (pa_cons (pe_callC c_with_box hr (pa_cons (pv 2) (pa_cons (pv 3) pa_nil))) pa_nil)))))) (pss_one (ps_set (i := 2) nd rfl (Or.inl rfl) (pe_callC c_with_box hr (pa_cons (pv 2) (pa_cons (pv 3) pa_nil))))) pss_nil))) (pss_one (ps_ret (pe_callC c_boxes_of hr (pa_cons (pv 2) pa_nil)))))), ?_⟩
  have hO' := hO
  obtain ⟨dx, t, hx, ht⟩ := hO'
  refine ⟨_, rfl, a, qs, ns, rfl, hW, l6, hz, fun F H1 s1 hF0 hF => ?_⟩
  refine ⟨F, rfl, ⟨_, SqL.of hF⟩, ?_⟩
  refine for_list (xs := Is (fallN ns ns.length)) (fun j σ H' => ∃ kk v3, σ = [some (.ref x), some (.ref a), some (.int kk), v3] ∧ kk = ((fallN ns ns.length).take j).foldl (gst ms ns) 0 ∧ Same H1 H') ⟨0, none, rfl, rfl, Same.refl _⟩ ?keep ?turn ?done
  case keep =>
    rintro j σ H' hj ⟨kk, v3, rfl, ek, hs⟩
    exact SqL.of (hs _ _ hF)
  case done =>
    rintro σ H' ⟨kk, v3, rfl, ek, hs⟩
    rw [is_length, List.take_length] at ek
    refine ⟨_, rfl, kk, rfl, fun r H2 s2 _ hr2 => ?_⟩
    subst ek
    exact q r H2 ((s1.trans hs).trans s2) hr2
  case turn =>
    rintro j v σ H' hv ⟨kk, v3, rfl, ek, hs⟩
    obtain ⟨b, hb1, rfl⟩ := is_at hv
    have r := fallN_mem ns _ b (List.mem_of_getElem? hb1)
    have fs : ((fallN ns ns.length).take (j + 1)).foldl (gst ms ns) 0 = gst ms ns kk b := by rw [take_snoc hb1, List.foldl_append, ek]; rfl
    have ss := s1.trans hs
    refine ⟨0, rfl, fun p H2 s2 hp2 => ?_⟩
    have hW2 := hW.same (ss.trans s2)
    obtain ⟨q1, hq1, hq1'⟩ := hW2.at' r.1 r.2
    have z1 := hz _ (TD.getD_mem (ns := ns) (i := b.toNat) (by omega))
    refine ⟨_, rfl, _, rfl, a, _, _, _, rfl, rfl, SqL.of hW2.lst, hq1, p, q1, 0, 1, _, 1, rfl, SqT.of hp2, SqT.of hq1', ⟨by decide, by decide, z1, by decide⟩, _, rfl, ?_⟩
    cases e1 : decide (0 * 1 < ns.getD b.toNat 0 * 1) with
    | false =>
      refine ifF rfl ?_
      refine ⟨kk, _, rfl, ?_, hs.trans s2⟩
      rw [fs]
      exact (if_neg fun z => by rw [e1] at z; exact absurd z.1 Bool.false_ne_true).symm
    | true =>
      refine ifT rfl ?_
      refine ⟨_, rfl, x, dx, _, rfl, (ss.trans s2) _ _ hx, rfl, _, rfl, _, rfl, kk, b, rfl, r.1, by omega, x, ms, _, rfl, hO.same (ss.trans s2), ?_⟩
      refine ⟨_, rfl, ?_⟩
      cases e2 : inV (.int (Builtin.bitOr kk (1 * 2 ^ b.toNat))) (Is ms) with
      | false =>
        refine ifF rfl ?_
        refine ⟨kk, _, rfl, ?_, hs.trans s2⟩
        rw [fs]
        exact (if_neg fun z => by rw [e2] at z; exact absurd z.2 Bool.false_ne_true).symm
      | true =>
        refine ifT rfl ?_
        refine ⟨_, rfl, _, rfl, kk, b, rfl, r.1, by omega, ?_⟩
        refine ⟨_, _, rfl, ?_, hs.trans s2⟩
        rw [fs]
        exact (if_pos ⟨e1, e2⟩).symm
end
end K33
set_option Elab.async false
set_option linter.all false
set_option maxRecDepth 100000
set_option maxHeartbeats 4000000
namespace K33
open PySem L2 TD
open Builtin.Int (intBits)
section
variable {P : Program} {w : World} {K : PySem.W.Frag} {mg : Str → Option Value} {base : Heap}
theorem ok__law_forest {n : Nat} {f : Addr} {fd : FuncData} (F : Fun K "_law_forest" "_law_forest" (top 31) f fd) (z_range : mg "range" = none) (z_len : mg "len" = none) (z_int : mg "int" = none) : FnOk P w K mg base CX0 (n + 1) f fd ["_law_pairs", "_law_kept"] spForest := by
  refine F.ok sc__law_forest (fun vs H Q E h => ?_) (fun cdv A outer s H vs Q E hr h => ?_)
  · obtain ⟨a, qs, k, rfl, _⟩ := h
    rfl
  obtain ⟨a, qs, k, rfl, hP, l6, q⟩ := h
  have nd := sc__law_forest.nd
  refine ⟨_, (pss_cons (ps_set (i := 2) nd rfl (Or.inl rfl) (pe_lst (pa_cons pe_int (pa_cons pe_int (pa_cons pe_int (pa_cons pe_int pa_nil)))))) (pss_cons (ps_for PassesOwn.never rfl (pi_range1 rfl z_range (pa_cons (pe_callB call_len_seq rfl z_len bt_len (pa_cons (pv 0) pa_nil)) pa_nil)) (pg_name (i := 3) nd rfl (Or.inl rfl)) (pss_one (ps_if (pt_cmpR op_eq (pe_op op_and (pe_op op_shr (pv 1) (pv 3)) pe_int) pe_int (nomark _)) (pss_cons (ps_asg (pe_tup (pa_cons (pe_ix ix_list (pv 2) (pe_ix ix_tup (pe_ix ix_list (pv 0) (pv 3) (fun _ _ => rfl)) pe_int (fun _ _ => rfl)) (fun _ _ => rfl)) (pa_cons (pe_ix ix_list (pv 2) (pe_ix ix_tup (pe_ix ix_list (pv 0) (pv 3) (fun _ _ => rfl)) pe_int (fun _ _ => rfl)) (fun _ _ => rfl)) pa_nil))) (pg_tup rfl (pgs_cons (pg_name (i := 4) nd rfl (Or.inr rfl)) (pgs_cons (pg_name (i := 5) nd rfl (Or.inr rfl)) pgs_nil)))) (pss_cons (ps_if (pt_cmpR op_eq (pv 4) (pv 5) (nomark _)) (pss_one (ps_ret pe_bl)) pss_nil) (pss_one (ps_setC (i := 2) (ls := ["_law_root"]) (M := ["_law_pairs", "_law_kept", "_law_roots", "_law_box", "_law_one", "_law_other"]) rfl (CompOk.of (by rfl)) (NL.of (by rfl)) nd rfl (Or.inl rfl) (pi_list (pv 2)) (fun _ _ _ _ => ⟨(pg_name (i := 0) (nd_of (by rfl)) rfl (Or.inl rfl)), pts_nil, (pe_ix (ix_listK (K := K) rfl) (pe_lst (pa_cons (pv 0) (pa_cons (pv 5) pa_nil))) (pe_callTy call_int1 rfl z_int bt_int (pa_cons (pe_cmpR op_eq (pv 0) (pv 6) (nomark _)) pa_nil)) (fun _ _ => rfl))⟩))))) pss_nil))) (pss_one (ps_ret pe_bl)))), ?_⟩
  have lq : (qs.map V.ref).length = qs.length := List.length_map _
  refine ⟨Nat.le_of_lt (small1000 (show 4 ≤ 1000 by decide)), fun R hR => ?_⟩
  have nR := same_new hR (.lst [V.int 0, V.int 1, V.int 2, V.int 3])
  refine ⟨_, rfl, a, _, rfl, .inl (SqL.of (nR _ _ hP.1)), (qs.length : Int), by rw [lq], by omega, by omega, ?_⟩
  refine for_range (n := (qs.length : Int).toNat) (fun i σ H' => ∃ R rs v3 v4 v5, σ = [some (.ref a), some (.int k), some (.ref R), v3, v4, v5] ∧ Same H H' ∧ H' R = some (.lst (Is rs)) ∧ rs.length = 4) ⟨R, [0, 1, 2, 3], none, none, none, rfl, nR, upd_same, rfl⟩ ?turn ?done
  case done =>
    rintro σ H' ⟨R, rs, v3, v4, v5, rfl, hs, _, _⟩
    exact q true H' hs fun _ => rfl
  case turn =>
    rintro i σ H' hi ⟨R, rs, v3, v4, v5, rfl, hs, hR', rl⟩
    have hiq : i < qs.length := by omega
    refine ⟨_, rfl, _, rfl, _, _, rfl, rfl, (by show (0 : Int) ≤ 0 + (i : Int); omega), _, _, rfl, rfl, rfl, _, rfl, ?_⟩
    cases b1 : hb k (0 + (i : Int)) with
    | false =>
      refine ifF b1 ?_
      exact ⟨R, rs, _, _, _, rfl, hs, hR', rl⟩
    | true =>
    refine ifT b1 ?_
    have k0 : k ≠ 0 := fun z => by rw [z, hb0] at b1; cases b1
    obtain ⟨q1, hq1⟩ : ∃ q1, qs[i]? = some q1 := ⟨_, List.getElem?_eq_getElem hiq⟩
    obtain ⟨x, y, hxy, x0, x4, y0, y4⟩ := hP.2 q1 (List.mem_of_getElem? hq1)
    have hq' := hs _ _ hxy
    have ha' := hs _ _ hP.1
    have aq : atI (qs.map V.ref) (0 + (i : Int)) = some (.ref q1) := at0 (by rw [List.getElem?_map, hq1]; rfl)
    refine ⟨_, rfl, _, rfl, _, rfl, a, _, _, _, rfl, rfl, SqL.of ha', aq, q1, _, _, _, rfl, rfl, SqT.of hq', rfl, R, _, _, _, rfl, rfl, SqL.of hR', at_is x0 (by omega), _, rfl, _, rfl, _, rfl, a, _, _, _, rfl, rfl, SqL.of ha', aq, q1, _, _, _, rfl, rfl, SqT.of hq', rfl, R, _, _, _, rfl, rfl, SqL.of hR', at_is y0 (by omega), sz2, fun p hp => ?_⟩
    have n1 := same_new hp (.tup [V.int (rs.getD x.toNat 0), V.int (rs.getD y.toNat 0)])
    refine ⟨p, _, rfl, SqT.of upd_same, rfl, _, _, rfl, _, _, rfl, rfl, ?_⟩
    refine ⟨_, rfl, _, rfl, rfl, _, rfl, ?_⟩
    refine ite2 (fun c => ?_) (fun c => ?_)
    · exact q false _ (hs.trans n1) fun z => absurd z k0
    refine ⟨_, rfl, R, rfl, ⟨_, SqL.of (n1 _ _ hR')⟩, fun D hD => ?_⟩
    have hDn := n1.free hD
    refine comp_list (xs := Is rs) (fun j τ H2 => ∃ v0 ts, τ = [v0, some (.ref a), some (.int k), some (.ref R), some (.int (0 + (i : Int))), some (.int (rs.getD x.toNat 0)), some (.int (rs.getD y.toNat 0))] ∧ Same H' H2 ∧ H2 D = some (.lst (Is ts)) ∧ ts.length = j) ⟨none, [], rfl, n1.trans (same_new hD _), upd_same, rfl⟩ ?keep2 ?turn2 ?done2
    case keep2 =>
      rintro j τ H2 hj ⟨v0, ts, rfl, hs2, _⟩
      exact SqL.of (hs2 _ _ hR')
    case turn2 =>
      rintro j m v τ H2 hm hj hv ⟨v0, ts, rfl, hs2, hD2, tl⟩
      obtain ⟨z, hz, rfl⟩ := is_at hv
      have hj4 : j < 4 := by rw [is_length] at hj; omega
      refine gyes ?_
      refine ⟨_, rfl, _, rfl, sz2, fun l hl => ?_⟩
      have nl := same_new hl (.lst [V.int z, V.int (rs.getD x.toNat 0)])
      refine ⟨_, rfl, _, rfl, rfl, .inr ⟨_, rfl, ?_⟩⟩
      obtain ⟨u, hu⟩ : ∃ u : Int, atI [V.int z, V.int (rs.getD x.toNat 0)] (if decide (V.int z = V.int (rs.getD y.toNat 0)) = true then 1 else 0) = some (.int u) := by cases decide (V.int z = V.int (rs.getD y.toNat 0)) <;> exact ⟨_, rfl⟩
      refine ⟨l, _, _, _, rfl, rfl, SqL.of upd_same, hu, ?_⟩
      refine comp_next hm hj (nl _ _ hD2) (by rw [is_length]; exact small1000 (by omega)) ⟨_, ts ++ [u], rfl, (hs2.trans nl).upd_new hDn _, by rw [upd_same, is_snoc], by rw [List.length_append, tl]; rfl⟩
    case done2 =>
      rintro τ H2 ⟨v0, ts, rfl, hs2, hD2, tl⟩
      exact ⟨D, ts, _, _, _, rfl, hs.trans hs2, hD2, by rw [tl, is_length, rl]⟩
end
end K33
set_option Elab.async false
set_option linter.all false
set_option maxRecDepth 100000
set_option maxHeartbeats 4000000
namespace K33
open PySem L2 TD
open Builtin.Int (intBits)
section
variable {P : Program} {w : World} {K : PySem.W.Frag} {mg : Str → Option Value} {base : Heap}
theorem ok__law_under {n : Nat} {f : Addr} {fd : FuncData} (F : Fun K "_law_under" "_law_under" (top 32) f fd) (z_range : mg "range" = none) (z_any : mg "any" = none) : FnOk P w K mg base CX0 (n + 1) f fd ["_law_some", "_law_many_here"] spUnder := by
  refine F.ok sc__law_under (fun vs H Q E h => ?_) (fun cdv A outer s H vs Q E hr h => ?_)
  · obtain ⟨a, ss, m, rfl, _⟩ := h
    rfl
  obtain ⟨a, ss, m, rfl, ha, hne, hl, hr0, m6, q⟩ := h
  have nd := sc__law_under.nd
  refine ⟨_, (pss_cons (ps_set (i := 2) nd rfl (Or.inl rfl) (pe_lst pa_nil)) (pss_cons (ps_for PassesOwn.never rfl (pi_range1 rfl z_range (pa_cons (pe_op op_shl pe_int (pv 1)) pa_nil)) (pg_name (i := 3) nd rfl (Or.inr rfl)) (pss_one (ps_if (pt_val (pe_callB (call_anyL rfl rfl) rfl z_any bt_any (pa_cons (pe_comp (ls := ["_law_one"]) (M := ["_law_some", "_law_many_here", "_law_found", "_law_kept"]) rfl (CompOk.of (by rfl)) (NL.of (by rfl)) (pi_list (pv 0)) (fun _ _ _ _ => ⟨(pg_name (i := 0) (nd_of (by rfl)) rfl (Or.inl rfl)), pts_nil, (pe_cmpR op_eq (pe_op op_and (pv 4) (pv 0)) (pv 4) (nomark _))⟩)) pa_nil))) (pss_one (ps_expr (pe_bm PySem.F.plainAttrs_list PySem.F.slot_list_append PySem.F.type_list_append mt_append (pv 2) (pa_cons (pv 3) pa_nil)))) pss_nil))) (pss_one (ps_ret (pv 2))))), ?_⟩
  obtain ⟨N, hN⟩ : ∃ N : Nat, N = 2 ^ m := ⟨_, rfl⟩
  have p64 : N ≤ 64 := by rw [hN]; exact Nat.le_trans (Nat.pow_le_pow_right (by decide) m6) (by decide)
  have pp : 0 < N := by rw [hN]; exact Nat.pow_pos (by decide)
  have pe : (1 : Int) * 2 ^ ((m : Int)).toNat = (N : Int) := by rw [Int.one_mul, Int.toNat_natCast, hN]; push_cast; rfl
  refine ⟨Nat.zero_le _, fun R hR => ?_⟩
  have nR := same_new hR (.lst [])
  refine ⟨_, rfl, _, _, rfl, rfl, ⟨by omega, by omega, by decide⟩, (N : Int), congrArg (fun v => [V.int v]) pe, by omega, by omega, ?_⟩
  refine for_range (n := (N : Int).toNat) (fun i σ H' => ∃ v3 ks, σ = [some (.ref a), some (.int (m : Int)), some (.ref R), v3] ∧ Same H H' ∧ H' R = some (.lst (Is ks)) ∧ Part i ks) ⟨none, [], rfl, nR, upd_same, Part.nil⟩ ?turn ?done
  case done =>
    rintro σ H' ⟨v3, ks, rfl, hs, hR', pt⟩
    rw [Int.toNat_natCast, hN] at pt
    exact ⟨_, rfl, q R H' ks hs hR hR' pt⟩
  case turn =>
    rintro i σ H' hi ⟨v3, ks, rfl, hs, hR', pt⟩
    have ha' := hs _ _ ha
    refine ⟨_, rfl, a, rfl, ⟨_, SqL.of ha'⟩, fun D hD => ?_⟩
    refine comp_list (xs := Is ss) (fun j τ H2 => ∃ v0, τ = [v0, some (.ref a), some (.int (m : Int)), some (.ref R), some (.int (0 + (i : Int)))] ∧ Same H' H2 ∧ H2 D = some (.lst (Bs ((ss.take j).map fun o => decide (V.int (Builtin.bitAnd (0 + (i : Int)) o) = V.int (0 + (i : Int))))))) ⟨none, rfl, same_new hD _, upd_same⟩ ?keep2 ?turn2 ?done2
    case keep2 =>
      rintro j τ H2 hj ⟨v0, rfl, hs2, _⟩
      exact SqL.of (hs2 _ _ ha')
    case turn2 =>
      rintro j m' v τ H2 hm hj hv ⟨v0, rfl, hs2, hD2⟩
      obtain ⟨z, hz, rfl⟩ := is_at hv
      refine gyes ?_
      refine ⟨_, rfl, _, rfl, _, _, rfl, rfl, _, rfl, rfl, ?_⟩
      refine comp_next hm hj hD2 (by rw [bs_length, List.length_map]; exact small1000 (Nat.le_trans (List.length_take_le _ _) (by rw [is_length] at hj; omega))) ⟨_, rfl, hs2.upd_new hD _, ?_⟩
      rw [upd_same, take_snoc hz, List.map_append]
      show _ = some (HO.lst (List.map V.bl (_ ++ [decide (V.int (Builtin.bitAnd (0 + (i : Int)) z) = V.int (0 + (i : Int)))])))
      rw [List.map_append]
      rfl
    case done2 =>
      rintro τ H2 ⟨v0, rfl, hs2, hD2⟩
      rw [is_length, List.take_length] at hD2
      refine ⟨D, _, rfl, SqL.of hD2, _, rfl, ?_⟩
      cases eu : uF ss (0 + (i : Int)) with
      | true =>
        refine ifT (show uF ss (0 + (i : Int)) = true from eu) ?_
        refine ⟨_, rfl, .inl ⟨rfl, _, SqL.of (hs2 _ _ hR')⟩, _, rfl, R, _, _, rfl, rfl, hs2 _ _ hR', by rw [is_length]; exact small1000 (Nat.le_trans pt.l (by omega)), ?_⟩
        exact ⟨_, ks ++ [0 + (i : Int)], rfl, (hs.trans hs2).upd_new hR _, by rw [upd_same, is_snoc], pt.snoc⟩
      | false =>
        refine ifF (show uF ss (0 + (i : Int)) = false from eu) ?_
        have i0 : i ≠ 0 := fun z => by
          subst z
          rw [uF0 hne fun s hs => and0 (hr0 s hs).1 (hr0 s hs).2] at eu
          cases eu
        exact ⟨_, ks, rfl, hs.trans hs2, hs2 _ _ hR', pt.skip i0⟩
end
end K33
set_option Elab.async false
set_option linter.all false
set_option maxRecDepth 100000
set_option maxHeartbeats 4000000
namespace K33
open PySem L2 TD
open Builtin.Int (intBits)
section
variable {P : Program} {w : World} {K : PySem.W.Frag} {mg : Str → Option Value} {base : Heap}
theorem ok__law_listed {n : Nat} {f : Addr} {fd : FuncData} (F : Fun K "_law_listed" "_law_listed" (top 33) f fd) {g__law_cell_at : Addr} {gd__law_cell_at : FuncData} (c__law_cell_at : Cal P w K mg base n "_law_cell_at" ["_law_script", "_law_k"] (spCA K) g__law_cell_at gd__law_cell_at) {g__law_size : Addr} {gd__law_size : FuncData} (c__law_size : Cal P w K mg base n "_law_size" ["_law_kept"] spLSz g__law_size gd__law_size) {g__law_forest : Addr} {gd__law_forest : FuncData} (c__law_forest : Cal P w K mg base n "_law_forest" ["_law_pairs", "_law_kept"] spForest g__law_forest gd__law_forest) {g__law_under : Addr} {gd__law_under : FuncData} (c__law_under : Cal P w K mg base n "_law_under" ["_law_some", "_law_many_here"] spUnder g__law_under gd__law_under) {g__law_many : Addr} {gd__law_many : FuncData} (c__law_many : Cal P w K mg base n "_law_many" ["_law_script", "_law_first", "_law_most"] (spMn K) g__law_many gd__law_many) (z_len : mg "len" = none) (z_max : mg "max" = none) (z_range : mg "range" = none) : FnOk P w K mg base CX0 (n + 1) f fd ["_law_script", "_law_way", "_law_many_here"] (spListed K) := by
  refine F.ok sc__law_listed (fun vs H Q E h => ?_) (fun cdv A outer s H vs Q E hr h => ?_)
  · obtain ⟨a, ns, w, m, rfl, _⟩ := h
    rfl
  obtain ⟨a, ns, w, m, rfl, hS, m1, m6, q⟩ := h
  have nd := sc__law_listed.nd
  refine ⟨_, (pss_cons (ps_if (pt_cmpR op_lt (pv 1) pe_int (nomark _)) (pss_cons (ps_setC (i := 3) (ls := ["_law_k"]) (M := ["_law_script", "_law_way", "_law_many_here", "_law_some", "_law_pairs", "_law_found", "_law_most", "_law_tops", "_law_gone"]) rfl (CompOk.of (by rfl)) (NL.of (by rfl)) nd rfl (Or.inl rfl) (pi_range1 rfl z_range (pa_cons (pe_callB (call_max2 rfl) rfl z_max bt_max (pa_cons pe_int (pa_cons (pe_callC c__law_many hr (pa_cons (pv 0) (pa_cons pe_int (pa_cons pe_int pa_nil)))) pa_nil))) pa_nil)) (fun _ _ _ _ => ⟨(pg_name (i := 0) (nd_of (by rfl)) rfl (Or.inl rfl)), pts_nil, (pe_op op_mod (pe_callC c__law_cell_at hr (pa_cons (pv 1) (pa_cons (pe_op op_add pe_int (pv 0)) pa_nil))) (pe_op op_shl pe_int (pv 3)))⟩)) (pss_one (ps_ret (pe_callC c__law_under hr (pa_cons (pv 3) (pa_cons (pv 2) pa_nil)))))) pss_nil) (pss_cons (ps_set (i := 4) nd rfl (Or.inr rfl) (pe_comp (ls := ["_law_k"]) (M := ["_law_script", "_law_way", "_law_many_here", "_law_some", "_law_pairs", "_law_found", "_law_most", "_law_tops", "_law_gone"]) rfl (CompOk.of (by rfl)) (NL.of (by rfl)) (pi_range1 rfl z_range (pa_cons (pv 2) pa_nil)) (fun _ _ _ _ => ⟨(pg_name (i := 0) (nd_of (by rfl)) rfl (Or.inl rfl)), pts_nil, (pe_tup (pa_cons (pe_op op_mod (pe_callC c__law_cell_at hr (pa_cons (pv 1) (pa_cons (pe_op op_add pe_int (pv 0)) pa_nil))) pe_int) (pa_cons (pe_op op_mod (pe_callC c__law_cell_at hr (pa_cons (pv 1) (pa_cons (pe_op op_add pe_int (pv 0)) pa_nil))) pe_int) pa_nil)))⟩))) (pss_cons (ps_setC (i := 5) (ls := ["_law_kept"]) (M := ["_law_script", "_law_way", "_law_many_here", "_law_some", "_law_pairs", "_law_found", "_law_most", "_law_tops", "_law_gone"]) rfl (CompOk.of (by rfl)) (NL.of (by rfl)) nd rfl (Or.inl rfl) (pi_range1 rfl z_range (pa_cons (pe_op op_shl pe_int (pv 2)) pa_nil)) (fun _ _ _ _ => ⟨(pg_name (i := 0) (nd_of (by rfl)) rfl (Or.inl rfl)), (pts_one (pt_val (pe_callC c__law_forest hr (pa_cons (pv 5) (pa_cons (pv 0) pa_nil))))), (pv 0)⟩)) (pss_cons (ps_set (i := 6) nd rfl (Or.inr rfl) (pe_callB (call_maxL rfl) rfl z_max bt_max (pa_cons (pe_comp (ls := ["_law_kept"]) (M := ["_law_script", "_law_way", "_law_many_here", "_law_some", "_law_pairs", "_law_found", "_law_most", "_law_tops", "_law_gone"]) rfl (CompOk.of (by rfl)) (NL.of (by rfl)) (pi_list (pv 5)) (fun _ _ _ _ => ⟨(pg_name (i := 0) (nd_of (by rfl)) rfl (Or.inl rfl)), pts_nil, (pe_callC c__law_size hr (pa_cons (pv 0) pa_nil))⟩)) pa_nil))) (pss_cons (ps_setC (i := 7) (ls := ["_law_kept"]) (M := ["_law_script", "_law_way", "_law_many_here", "_law_some", "_law_pairs", "_law_found", "_law_most", "_law_tops", "_law_gone"]) rfl (CompOk.of (by rfl)) (NL.of (by rfl)) nd rfl (Or.inl rfl) (pi_list (pv 5)) (fun _ _ _ _ => ⟨(pg_name (i := 0) (nd_of (by rfl)) rfl (Or.inl rfl)), (pts_one (pt_cmpR op_eq (pe_callC c__law_size hr (pa_cons (pv 0) pa_nil)) (pv 7) (nomark _))), (pv 0)⟩)) (pss_cons (ps_set (i := 8) nd rfl (Or.inl rfl) (pe_ix ix_list (pv 7) (pe_op op_mod (pe_op op_fdiv (pe_callC c__law_cell_at hr (pa_cons (pv 0) (pa_cons pe_int pa_nil))) pe_int) (pe_callB call_len_seq rfl z_len bt_len (pa_cons (pv 7) pa_nil))) (fun _ _ => rfl))) (pss_cons (ps_if (pt_cmpR op_ne (pv 8) pe_int (nomark _)) (pss_one (ps_expr (pe_bm PySem.F.plainAttrs_list PySem.F.slot_list_remove PySem.F.type_list_remove mt_remove (pv 5) (pa_cons (pv 8) pa_nil)))) pss_nil) (pss_one (ps_ret (pv 5)))))))))), ?_⟩
  obtain ⟨N, hN⟩ : ∃ N : Nat, N = 2 ^ m := ⟨_, rfl⟩
  have p64 : N ≤ 64 := by rw [hN]; exact Nat.le_trans (Nat.pow_le_pow_right (by decide) m6) (by decide)
  have pp : 0 < N := by rw [hN]; exact Nat.pow_pos (by decide)
  have pe : (1 : Int) * 2 ^ ((m : Int)).toNat = (N : Int) := by rw [Int.one_mul, Int.toNat_natCast, hN]; push_cast; rfl
  refine ⟨_, rfl, _, _, rfl, rfl, _, rfl, ?_⟩
  refine ite2 (fun _ => ?_) (fun _ => ?_)
  · refine ⟨_, rfl, a, ns, 3, 8, rfl, hS, by decide, by decide, by decide, fun y y0 y1 => ?_⟩
    refine ⟨1, y, rfl, ?_⟩
    obtain ⟨M, eM, hM1, hM2⟩ : ∃ M : Int, (if y > 1 then y else 1) = M ∧ 1 ≤ M ∧ M ≤ 8 := ⟨_, rfl, by split <;> omega, by split <;> omega⟩
    refine ⟨M, congrArg (fun v => [V.int v]) eM, by omega, by omega, fun D hD => ?_⟩
    refine comp_range (n := M.toNat) (fun i τ H' => ∃ v0 ss, τ = [v0, some (.ref a), some (.int w), some (.int (m : Int)), none, none, none, none, none, none] ∧ Same H H' ∧ H' D = some (.lst (Is ss)) ∧ (∀ s ∈ ss, 0 ≤ s ∧ s < 64) ∧ ss.length = i) ⟨none, [], rfl, same_new hD _, upd_same, (fun _ h => nomatch h), rfl⟩ ?turn1 ?done1
    case turn1 =>
      rintro i j τ H' hm hi ⟨v0, ss, rfl, hs, hD', sr, sl⟩
      refine gyes ?_
      refine ⟨_, rfl, _, rfl, _, _, rfl, rfl, a, ns, 3 + (0 + (i : Int)), rfl, hs.seq hS, by omega, by omega, fun z z0 z1 => ?_⟩
      have y1 := Int.emod_nonneg z (show (N : Int) ≠ 0 by omega)
      have y2 := Int.emod_lt_of_pos z (show (0 : Int) < (N : Int) by omega)
      refine ⟨_, rfl, _, _, rfl, rfl, ⟨by omega, by omega, by decide⟩, _, _, rfl, rfl, (by show (0 : Int) < 1 * 2 ^ ((m : Int)).toNat; rw [pe]; omega), ?_⟩
      refine comp_next hm hi hD' (by rw [is_length]; exact small1000 (by omega)) ⟨_, ss ++ [z % (1 * 2 ^ ((m : Int)).toNat)], rfl, hs.upd_new hD _, by rw [upd_same, is_snoc], ?_, by rw [List.length_append, sl]; rfl⟩
      intro x hx
      rcases List.mem_append.mp hx with u | u
      · exact sr x u
      · rw [List.mem_singleton.mp u, pe]
        omega
    case done1 =>
    rintro τ H1 ⟨v0, ss, rfl, s1, hD1, sr, sl⟩
    exact ⟨_, rfl, _, rfl, D, ss, m, rfl, hD1, (fun z => by rw [z] at sl; have : 0 = M.toNat := sl; omega), by omega, sr, m6, fun r H2 ks s2 _ hr2 pt => q r H2 ks (s1.trans s2) hr2 pt⟩
  refine ⟨_, rfl, (m : Int), rfl, by omega, by omega, fun D hD => ?_⟩
  refine comp_range (n := (m : Int).toNat) (fun i τ H' => ∃ v0 qs, τ = [v0, some (.ref a), some (.int w), some (.int (m : Int)), none, none, none, none, none, none] ∧ Same H H' ∧ PrOk H' D qs ∧ qs.length = i) ⟨none, [], rfl, same_new hD _, ⟨upd_same, fun _ h => nomatch h⟩, rfl⟩ ?turn2 ?done2
  case turn2 =>
    rintro i j τ H' hm hi ⟨v0, qs, rfl, hs, pr, ql⟩
    refine gyes ?_
    refine ⟨_, rfl, _, rfl, _, _, rfl, rfl, a, ns, 3 + (0 + (i : Int)), rfl, hs.seq hS, by omega, by omega, fun z z0 z1 => ?_⟩
    have y1 := Int.emod_nonneg z (show (4 : Int) ≠ 0 by decide)
    have y2 := Int.emod_lt_of_pos z (show (0 : Int) < 4 by decide)
    refine ⟨_, _, rfl, rfl, (by show (0 : Int) < 4; decide), ?_⟩
    refine ⟨_, rfl, _, rfl, _, _, rfl, rfl, a, ns, 9 + (0 + (i : Int)), rfl, hs.seq hS, by omega, by omega, fun u u0 u1 => ?_⟩
    have x1 := Int.emod_nonneg u (show (4 : Int) ≠ 0 by decide)
    have x2 := Int.emod_lt_of_pos u (show (0 : Int) < 4 by decide)
    refine ⟨_, _, rfl, rfl, (by show (0 : Int) < 4; decide), sz2, fun p hp => ?_⟩
    have n1 := same_new hp (.tup [V.int (z % 4), V.int (u % 4)])
    have pr1 := pr.same n1
    refine comp_next hm hi pr1.1 (by rw [List.length_map]; exact small1000 (by omega)) ⟨_, qs ++ [p], rfl, (hs.trans n1).upd_new hD _, ⟨?_, fun q1 hq1 => ?_⟩, by rw [List.length_append, ql]; rfl⟩
    · rw [upd_same, List.map_append]
      rfl
    · rcases List.mem_append.mp hq1 with t | t
      · obtain ⟨c, d, e1, e2⟩ := pr1.2 q1 t
        exact ⟨c, d, by rw [upd_ne (ne_of e1 pr1.1 fun z => nomatch z)]; exact e1, e2⟩
      · rw [List.mem_singleton.mp t]
        exact ⟨z % 4, u % 4, by rw [upd_ne (ne_of upd_same pr1.1 fun z => nomatch z)]; exact upd_same, y1, y2, x1, x2⟩
  case done2 =>
  rintro τ H1 ⟨v0, qs, rfl, s1, pr, ql⟩
  rw [Int.toNat_natCast] at ql
  refine ⟨_, rfl, _, _, rfl, rfl, ⟨by omega, by omega, by decide⟩, (N : Int), congrArg (fun v => [V.int v]) pe, by omega, by omega, fun F hF => ?_⟩
  refine comp_range (n := (N : Int).toNat) (fun i τ H' => ∃ v0 ks, τ = [v0, some (.ref a), some (.int w), some (.int (m : Int)), none, some (.ref D), none, none, none, none] ∧ Same H1 H' ∧ H' F = some (.lst (Is ks)) ∧ Part i ks) ⟨none, [], rfl, same_new hF _, upd_same, Part.nil⟩ ?turn3 ?done3
  case turn3 =>
    rintro i j τ H' hm hi ⟨v0, ks, rfl, hs, hF', pt⟩
    refine ⟨_, rfl, _, rfl, D, qs, 0 + (i : Int), rfl, pr.same hs, by omega, fun b H2 s2 hb0' => ?_⟩
    refine ⟨_, rfl, ?_⟩
    have hF2 := s2 _ _ hF'
    cases b with
    | false =>
      refine ifF rfl ?_
      exact comp_skip hm hi ⟨_, ks, rfl, hs.trans s2, hF2, pt.skip fun z => by have h := hb0' (by rw [z]; rfl); cases h⟩
    | true =>
      refine ifT rfl ?_
      refine ⟨_, rfl, ?_⟩
      exact comp_next hm hi hF2 (by rw [is_length]; exact small1000 (Nat.le_trans pt.l (by omega))) ⟨_, ks ++ [0 + (i : Int)], rfl, (hs.trans s2).upd_new hF _, by rw [upd_same, is_snoc], pt.snoc⟩
  case done3 =>
  rintro τ H2 ⟨v1, ks, rfl, s2, hF2, pt⟩
  rw [Int.toNat_natCast] at pt
  have kr : ∀ x ∈ ks, 0 ≤ x ∧ x < 64 := fun x hx => by have := pt.r x hx; omega
  refine ⟨_, rfl, F, rfl, ⟨_, SqL.of hF2⟩, fun G hG => ?_⟩
  refine comp_list (xs := Is ks) (fun j τ H' => ∃ v0, τ = [v0, some (.ref a), some (.int w), some (.int (m : Int)), none, some (.ref D), some (.ref F), none, none, none] ∧ Same H2 H' ∧ H' G = some (.lst (Is ((ks.take j).map fun x => (((bxs x).length : Nat) : Int))))) ⟨none, rfl, same_new hG _, upd_same⟩ ?keep4 ?turn4 ?done4
  case keep4 =>
    rintro j τ H' hj ⟨v0, rfl, hs, _⟩
    exact SqL.of (hs _ _ hF2)
  case turn4 =>
    rintro j m' v τ H' hm hj hv ⟨v0, rfl, hs, hG'⟩
    obtain ⟨z, hz, rfl⟩ := is_at hv
    have r := kr z (List.mem_of_getElem? hz)
    refine gyes ?_
    refine ⟨_, rfl, z, rfl, r.1, r.2, ?_⟩
    refine comp_next hm hj hG' (by rw [is_length, List.length_map]; exact small1000 (Nat.le_trans (List.length_take_le' _ _) (Nat.le_trans pt.l (by omega)))) ⟨_, rfl, hs.upd_new hG _, ?_⟩
    rw [upd_same, take_snoc hz, List.map_append]
    show _ = some (HO.lst (Is (_ ++ [(((bxs z).length : Nat) : Int)])))
    rw [is_snoc]
  case done4 =>
  rintro τ H3 ⟨v2, rfl, s3, hG3⟩
  rw [is_length, List.take_length] at hG3
  have kne : ks ≠ [] := List.ne_nil_of_mem (pt.z pp)
  refine ⟨G, _, rfl, SqL.of hG3, (fun z => kne (List.map_eq_nil_iff.mp z)), fun M hM _ => ?_⟩
  obtain ⟨x0, hx0, eM⟩ := List.mem_map.mp hM
  have hF3 := s3 _ _ hF2
  refine ⟨_, rfl, F, rfl, ⟨_, SqL.of hF3⟩, fun T hT => ?_⟩
  refine comp_list (xs := Is ks) (fun j τ H' => ∃ v0, τ = [v0, some (.ref a), some (.int w), some (.int (m : Int)), none, some (.ref D), some (.ref F), some (.int M), none, none] ∧ Same H3 H' ∧ H' T = some (.lst (Is ((ks.take j).filter fun x => decide (V.int (((bxs x).length : Nat) : Int) = V.int M))))) ⟨none, rfl, same_new hT _, upd_same⟩ ?keep5 ?turn5 ?done5
  case keep5 =>
    rintro j τ H' hj ⟨v0, rfl, hs, _⟩
    exact SqL.of (hs _ _ hF3)
  case turn5 =>
    rintro j m' v τ H' hm hj hv ⟨v0, rfl, hs, hT'⟩
    obtain ⟨z, hz, rfl⟩ := is_at hv
    have r := kr z (List.mem_of_getElem? hz)
    refine ⟨_, rfl, z, rfl, r.1, r.2, _, rfl, rfl, _, rfl, ?_⟩
    cases ed : decide (V.int (((bxs z).length : Nat) : Int) = V.int M) with
    | false =>
      refine ifF rfl ?_
      refine comp_skip hm hj ⟨_, rfl, hs, ?_⟩
      rw [take_snoc hz, List.filter_append, show [z].filter (fun x => decide (V.int (((bxs x).length : Nat) : Int) = V.int M)) = [] by rw [List.filter_cons, ed]; rfl, List.append_nil]
      exact hT'
    | true =>
      refine ifT rfl ?_
      refine ⟨_, rfl, ?_⟩
      refine comp_next hm hj hT' (by rw [is_length]; exact small1000 (Nat.le_trans (List.length_filter_le _ _) (Nat.le_trans (List.length_take_le' _ _) (Nat.le_trans pt.l (by omega))))) ⟨_, rfl, hs.upd_new hT _, ?_⟩
      rw [upd_same, take_snoc hz, List.filter_append, show [z].filter (fun x => decide (V.int (((bxs x).length : Nat) : Int) = V.int M)) = [z] by rw [List.filter_cons, ed]; rfl, is_snoc]
  case done5 =>
  rintro τ H4 ⟨v3, rfl, s4, hT4⟩
  rw [is_length, List.take_length] at hT4
  obtain ⟨ts, hts⟩ : ∃ ts, ts = ks.filter fun x => decide (V.int (((bxs x).length : Nat) : Int) = V.int M) := ⟨_, rfl⟩
  rw [← hts] at hT4
  have tn : 0 < ts.length := List.length_pos_iff.mpr (List.ne_nil_of_mem (a := x0) (by rw [hts]; exact List.mem_filter.mpr ⟨hx0, decide_eq_true (congrArg V.int eM)⟩))
  refine ⟨_, rfl, _, rfl, a, ns, 2, rfl, ((s1.trans s2).trans (s3.trans s4)).seq hS, by decide, by decide, fun z z0 z1 => ?_⟩
  have g1 := Int.emod_nonneg (z / 7) (show (ts.length : Int) ≠ 0 by omega)
  have g2 := Int.emod_lt_of_pos (z / 7) (show (0 : Int) < (ts.length : Int) by omega)
  have lt2 := is_length ts
  refine ⟨_, _, rfl, rfl, ⟨by decide, by decide⟩, _, rfl, T, _, rfl, .inl (SqL.of hT4), _, _, rfl, rfl, (by show (0 : Int) < (((Is ts).length : Nat) : Int); rw [lt2]; omega), T, _, _, _, rfl, rfl, SqL.of hT4, (by rw [lt2]; exact at_is g1 g2), ?_⟩
  have gm : ts.getD (z / 7 % (ts.length : Int)).toNat 0 ∈ ks := by
    have := TD.getD_mem (ns := ts) (i := (z / 7 % (ts.length : Int)).toNat) (by omega)
    rw [hts] at this
    rw [hts]
    exact (List.mem_filter.mp this).1
  generalize ts.getD (z / 7 % (ts.length : Int)).toNat 0 = g at gm ⊢
  have hF4 := s4 _ _ hF3
  rw [hN] at pt
  have hFn := s1.free hF
  refine ⟨_, rfl, rfl, _, rfl, ?_⟩
  refine ite2 (fun c => ?_) (fun c => ?_)
  · have g0 : g ≠ 0 := fun z => by rw [z] at c; revert c; decide
    refine ⟨_, rfl, .inl ⟨rfl, _, SqL.of hF4⟩, _, rfl, F, ks, g, rfl, rfl, hF4, gm, ?_⟩
    exact ⟨_, rfl, q F _ (ks.erase g) (((s1.trans s2).trans (s3.trans s4)).upd_new hFn _) upd_same (pt.erase g0)⟩
  · exact ⟨_, rfl, q F _ ks ((s1.trans s2).trans (s3.trans s4)) hF4 pt⟩
end
end K33
set_option Elab.async false
set_option linter.all false
set_option maxRecDepth 100000
set_option maxHeartbeats 4000000
namespace K33
open PySem L2 TD
open Builtin.Int (intBits)
section
variable {P : Program} {w : World} {K : PySem.W.Frag} {mg : Str → Option Value} {base : Heap}
theorem ok__law_drawn {n : Nat} {f : Addr} {fd : FuncData} (F : Fun K "_law_drawn" "_law_drawn" (top 36) f fd) {g__law_size : Addr} {gd__law_size : FuncData} (c__law_size : Cal P w K mg base n "_law_size" ["_law_kept"] spLSz g__law_size gd__law_size) (z_range : mg "range" = none) : FnOk P w K mg base CX0 (n + 1) f fd ["_law_cell", "_law_more", "_law_many_here"] spDrawn := by
  refine F.ok sc__law_drawn (fun vs H Q E h => ?_) (fun cdv A outer s H vs Q E hr h => ?_)
  · obtain ⟨c, d, m, rfl, _⟩ := h
    rfl
  obtain ⟨c, d, m, rfl, m1, m6, q⟩ := h
  have nd := sc__law_drawn.nd
  refine ⟨_, (pss_cons (ps_set (i := 3) nd rfl (Or.inl rfl) (pe_op op_mod (pv 0) (pe_op op_shl pe_int (pv 2)))) (pss_cons (ps_if (pt_cmpR op_eq (pv 3) pe_int (nomark _)) (pss_one (ps_set (i := 3) nd rfl (Or.inl rfl) pe_int)) pss_nil) (pss_cons (ps_setC (i := 4) (ls := ["_law_box"]) (M := ["_law_cell", "_law_more", "_law_many_here", "_law_one", "_law_order", "_law_other", "_law_box#"]) rfl (CompOk.of (by rfl)) (NL.of (by rfl)) nd rfl (Or.inl rfl) (pi_range1 rfl z_range (pa_cons (pv 2) pa_nil)) (fun _ _ _ _ => ⟨(pg_name (i := 0) (nd_of (by rfl)) rfl (Or.inl rfl)), pts_nil, (pe_op op_mod (pe_op op_add (pv 0) (pe_op op_fdiv (pv 2) pe_int)) (pv 3))⟩)) (pss_cons (ps_set (i := 5) nd rfl (Or.inl rfl) pe_int) (pss_cons (ps_for PassesOwn.never rfl (pi_list (pv 4)) (pg_name (i := 6) nd rfl (Or.inl rfl)) (pss_one (ps_if (PW.pt (pw_and (PW.pt (pw_or (pt_cmpR op_eq (pe_op op_and (pe_op op_shr (pv 1) (pv 6)) pe_int) pe_int (nomark _)) (pw_or1 (pt_cmpR op_eq (pe_op op_and (pe_op op_shr (pv 3) (pv 6)) pe_int) pe_int (nomark _))))) (pw_and1 (pt_cmpR op_lt (pe_op op_add (pe_callC c__law_size hr (pa_cons (pv 5) pa_nil)) pe_int) (pe_callC c__law_size hr (pa_cons (pv 3) pa_nil)) (nomark _))))) (pss_one (ps_set (i := 5) nd rfl (Or.inl rfl) (pe_op op_or (pv 5) (pe_op op_shl pe_int (pv 6))))) pss_nil))) (pss_one (ps_ret (pe_lst (pa_cons (pv 3) (pa_cons (pv 5) pa_nil)))))))))), ?_⟩
  obtain ⟨N, hN⟩ : ∃ N : Nat, N = 2 ^ m := ⟨_, rfl⟩
  have p64 : N ≤ 64 := by rw [hN]; exact Nat.le_trans (Nat.pow_le_pow_right (by decide) m6) (by decide)
  have pp : 0 < N := by rw [hN]; exact Nat.pow_pos (by decide)
  have pe : (1 : Int) * 2 ^ ((m : Int)).toNat = (N : Int) := by rw [Int.one_mul, Int.toNat_natCast, hN]; push_cast; rfl
  have c1 := Int.emod_nonneg c (show (N : Int) ≠ 0 by omega)
  have c2 := Int.emod_lt_of_pos c (show (0 : Int) < (N : Int) by omega)
  have o0 : 0 ≤ c % (1 * 2 ^ ((m : Int)).toNat) := by rw [pe]; exact c1
  have o1 : c % (1 * 2 ^ ((m : Int)).toNat) < 64 := by rw [pe]; omega
  refine ⟨_, rfl, _, rfl, _, _, rfl, rfl, ⟨by omega, by omega, by decide⟩, _, _, rfl, rfl, (by show (0 : Int) < 1 * 2 ^ ((m : Int)).toNat; rw [pe]; omega), ?_⟩
  refine ⟨_, rfl, rfl, _, rfl, ?_⟩
  refine ite2 (fun _ => ?_) (fun _ => ?_)
  · clear o0 o1
    have o0 : (0 : Int) ≤ 1 := by decide
    have o1 : (1 : Int) < 64 := by decide
    refine ⟨_, rfl, (m : Int), rfl, by omega, by omega, fun D hD => ?_⟩
    refine comp_range (n := (m : Int).toNat) (fun i τ H' => ∃ v0 ts, τ = [v0, some (.int c), some (.int d), some (.int (m : Int)), some (.int 1), none, none, none] ∧ Same H H' ∧ H' D = some (.lst (Is ts)) ∧ (∀ t ∈ ts, 0 ≤ t ∧ t < (m : Int)) ∧ ts.length = i) ⟨none, [], rfl, same_new hD _, upd_same, (fun _ h => nomatch h), rfl⟩ ?turn1 ?done1
    case turn1 =>
      rintro i j τ H' hm hi ⟨v0, ts, rfl, hs, hD', tr, tl⟩
      refine gyes ?_
      refine ⟨_, rfl, _, rfl, _, _, rfl, rfl, ⟨by decide, by decide⟩, _, _, rfl, rfl, _, rfl, _, _, rfl, rfl, (by show (0 : Int) < (m : Int); omega), ?_⟩
      have x1 := Int.emod_nonneg (0 + (i : Int) + d / 64) (show (m : Int) ≠ 0 by omega)
      have x2 := Int.emod_lt_of_pos (0 + (i : Int) + d / 64) (show (0 : Int) < (m : Int) by omega)
      refine comp_next hm hi hD' (by rw [is_length]; exact small1000 (by omega)) ⟨_, ts ++ [(0 + (i : Int) + d / 64) % (m : Int)], rfl, hs.upd_new hD _, by rw [upd_same, is_snoc], ?_, by rw [List.length_append, tl]; rfl⟩
      intro x hx
      rcases List.mem_append.mp hx with u | u
      · exact tr x u
      · rw [List.mem_singleton.mp u]
        exact ⟨x1, x2⟩
    case done1 =>
    rintro τ H1 ⟨v0, ts, rfl, s1, hD1, tr, tl⟩
    refine ⟨_, rfl, D, rfl, ⟨_, SqL.of hD1⟩, ?_⟩
    refine for_list (xs := Is ts) (fun j σ H' => ∃ e v6, σ = [some (.int c), some (.int d), some (.int (m : Int)), some (.int 1), some (.ref D), some (.int e), v6] ∧ H' = H1 ∧ 0 ≤ e ∧ e < (N : Int)) ⟨0, none, rfl, rfl, by decide, by omega⟩ ?kep1 ?tun1 ?don1
    case kep1 =>
      rintro j σ H' hj ⟨e, v6, rfl, rfl, _⟩
      exact SqL.of hD1
    case don1 =>
      rintro σ H' ⟨e, v6, rfl, rfl, e0, e1⟩
      refine ⟨_, rfl, _, rfl, sz2, fun r hr0 => ?_⟩
      exact q r _ _ e (s1.trans (same_new hr0 _)) upd_same o0 o1 e0 (by omega)
    case tun1 =>
      rintro j v σ H' hv ⟨e, v6, rfl, rfl, e0, e1⟩
      obtain ⟨b, hb1, rfl⟩ := is_at hv
      have r := tr b (List.mem_of_getElem? hb1)
      have ol := or_lt m6 e0 (by rw [← hN]; exact e1) r.1 r.2
      rw [← hN] at ol
      refine ⟨_, rfl, _, rfl, _, _, rfl, rfl, r.1, _, _, rfl, rfl, rfl, _, rfl, ?_⟩
      refine ite2 (fun _ => ?_) (fun _ => ?_)
      · refine iteT ?_
        refine ⟨_, rfl, e, rfl, e0, by omega, _, _, rfl, rfl, _, rfl, _, rfl, o0, o1, _, _, rfl, rfl, _, rfl, ?_⟩
        refine ite2 (fun _ => ?_) (fun _ => ?_)
        · refine ⟨_, rfl, _, rfl, _, _, rfl, rfl, ⟨r.1, by omega, by decide⟩, _, _, rfl, rfl, ?_⟩
          exact ⟨_, _, rfl, rfl, ol.1, ol.2⟩
        · exact ⟨e, _, rfl, rfl, e0, e1⟩
      · refine ⟨_, rfl, _, rfl, _, _, rfl, rfl, r.1, _, _, rfl, rfl, rfl, _, rfl, ?_⟩
        refine ite2 (fun _ => ?_) (fun _ => ?_)
        · skip
          refine ⟨_, rfl, e, rfl, e0, by omega, _, _, rfl, rfl, _, rfl, _, rfl, o0, o1, _, _, rfl, rfl, _, rfl, ?_⟩
          refine ite2 (fun _ => ?_) (fun _ => ?_)
          · refine ⟨_, rfl, _, rfl, _, _, rfl, rfl, ⟨r.1, by omega, by decide⟩, _, _, rfl, rfl, ?_⟩
            exact ⟨_, _, rfl, rfl, ol.1, ol.2⟩
          · exact ⟨e, _, rfl, rfl, e0, e1⟩
        · exact ⟨e, _, rfl, rfl, e0, e1⟩
  · skip
    refine ⟨_, rfl, (m : Int), rfl, by omega, by omega, fun D hD => ?_⟩
    refine comp_range (n := (m : Int).toNat) (fun i τ H' => ∃ v0 ts, τ = [v0, some (.int c), some (.int d), some (.int (m : Int)), some (.int (c % (1 * 2 ^ ((m : Int)).toNat))), none, none, none] ∧ Same H H' ∧ H' D = some (.lst (Is ts)) ∧ (∀ t ∈ ts, 0 ≤ t ∧ t < (m : Int)) ∧ ts.length = i) ⟨none, [], rfl, same_new hD _, upd_same, (fun _ h => nomatch h), rfl⟩ ?turn2 ?done2
    case turn2 =>
      rintro i j τ H' hm hi ⟨v0, ts, rfl, hs, hD', tr, tl⟩
      refine gyes ?_
      refine ⟨_, rfl, _, rfl, _, _, rfl, rfl, ⟨by decide, by decide⟩, _, _, rfl, rfl, _, rfl, _, _, rfl, rfl, (by show (0 : Int) < (m : Int); omega), ?_⟩
      have x1 := Int.emod_nonneg (0 + (i : Int) + d / 64) (show (m : Int) ≠ 0 by omega)
      have x2 := Int.emod_lt_of_pos (0 + (i : Int) + d / 64) (show (0 : Int) < (m : Int) by omega)
      refine comp_next hm hi hD' (by rw [is_length]; exact small1000 (by omega)) ⟨_, ts ++ [(0 + (i : Int) + d / 64) % (m : Int)], rfl, hs.upd_new hD _, by rw [upd_same, is_snoc], ?_, by rw [List.length_append, tl]; rfl⟩
      intro x hx
      rcases List.mem_append.mp hx with u | u
      · exact tr x u
      · rw [List.mem_singleton.mp u]
        exact ⟨x1, x2⟩
    case done2 =>
    rintro τ H1 ⟨v0, ts, rfl, s1, hD1, tr, tl⟩
    refine ⟨_, rfl, D, rfl, ⟨_, SqL.of hD1⟩, ?_⟩
    refine for_list (xs := Is ts) (fun j σ H' => ∃ e v6, σ = [some (.int c), some (.int d), some (.int (m : Int)), some (.int (c % (1 * 2 ^ ((m : Int)).toNat))), some (.ref D), some (.int e), v6] ∧ H' = H1 ∧ 0 ≤ e ∧ e < (N : Int)) ⟨0, none, rfl, rfl, by decide, by omega⟩ ?kep2 ?tun2 ?don2
    case kep2 =>
      rintro j σ H' hj ⟨e, v6, rfl, rfl, _⟩
      exact SqL.of hD1
    case don2 =>
      rintro σ H' ⟨e, v6, rfl, rfl, e0, e1⟩
      refine ⟨_, rfl, _, rfl, sz2, fun r hr0 => ?_⟩
      exact q r _ _ e (s1.trans (same_new hr0 _)) upd_same o0 o1 e0 (by omega)
    case tun2 =>
      rintro j v σ H' hv ⟨e, v6, rfl, rfl, e0, e1⟩
      obtain ⟨b, hb1, rfl⟩ := is_at hv
      have r := tr b (List.mem_of_getElem? hb1)
      have ol := or_lt m6 e0 (by rw [← hN]; exact e1) r.1 r.2
      rw [← hN] at ol
      refine ⟨_, rfl, _, rfl, _, _, rfl, rfl, r.1, _, _, rfl, rfl, rfl, _, rfl, ?_⟩
      refine ite2 (fun _ => ?_) (fun _ => ?_)
      · refine iteT ?_
        refine ⟨_, rfl, e, rfl, e0, by omega, _, _, rfl, rfl, _, rfl, _, rfl, o0, o1, _, _, rfl, rfl, _, rfl, ?_⟩
        refine ite2 (fun _ => ?_) (fun _ => ?_)
        · refine ⟨_, rfl, _, rfl, _, _, rfl, rfl, ⟨r.1, by omega, by decide⟩, _, _, rfl, rfl, ?_⟩
          exact ⟨_, _, rfl, rfl, ol.1, ol.2⟩
        · exact ⟨e, _, rfl, rfl, e0, e1⟩
      · refine ⟨_, rfl, _, rfl, _, _, rfl, rfl, r.1, _, _, rfl, rfl, rfl, _, rfl, ?_⟩
        refine ite2 (fun _ => ?_) (fun _ => ?_)
        · skip
          refine ⟨_, rfl, e, rfl, e0, by omega, _, _, rfl, rfl, _, rfl, _, rfl, o0, o1, _, _, rfl, rfl, _, rfl, ?_⟩
          refine ite2 (fun _ => ?_) (fun _ => ?_)
          · refine ⟨_, rfl, _, rfl, _, _, rfl, rfl, ⟨r.1, by omega, by decide⟩, _, _, rfl, rfl, ?_⟩
            exact ⟨_, _, rfl, rfl, ol.1, ol.2⟩
          · exact ⟨e, _, rfl, rfl, e0, e1⟩
        · exact ⟨e, _, rfl, rfl, e0, e1⟩
end
end K33
set_option Elab.async false
set_option linter.all false
set_option maxRecDepth 100000
set_option maxHeartbeats 4000000
namespace K33
open PySem L2 TD
open Builtin.Int (intBits)
section
variable {P : Program} {w : World} {K : PySem.W.Frag} {mg : Str → Option Value} {base : Heap}
theorem de_is {K : PySem.W.Frag} {H : Hp} {a b : Addr} {ns : List Int} (h1 : H a = some (.lst (Is ns))) (h2 : H b = some (.lst (Is ns))) : DE K H (0 + 1) (.ref a) (.ref b) true := by
  have d := DE.lst (K := K) (n := 0) (fun _ => true) (SqL.of h1) (SqL.of h2) rfl (fun j x y hx hy => by
    rw [hx] at hy
    cases hy
    obtain ⟨z, _, rfl⟩ := is_at hx
    have := DE.int (K := K) (H := H) 0 z z
    rw [beq_self_eq_true] at this
    exact this)
  rw [show (List.range (Is ns).length).all (fun _ => true) = true by simp] at d
  exact d
theorem ok_law {n : Nat} {f : Addr} {fd : FuncData} (F : Fun K "law" "law" (top 37) f fd) {C_L : Addr} (cfL : Cls K C_L) {iL : Addr} {iDL : FuncData} {kOL : Nat} (M_Listed : Mk K C_L iL) (G_Listed : FnOk P w K mg base CX0 kOL iL iDL ["self", "sets"] (spLin C_L)) (b_Listed : Binds K iDL ["self", "sets"] []) (g_Listed : mg "Listed" = some (.ref C_L)) (hn_Listed : kOL + 1 ≤ n) {f_Lm : Addr} {fd_Lm : FuncData} (m_Lm : Meth K C_L "may" f_Lm) (G_Lm : FnOk P w K mg base CX0 n f_Lm fd_Lm ["self", "kept"] (spLmay C_L)) (b_Lm : Binds K fd_Lm ["self", "kept"] []) {g__law_sum : Addr} {gd__law_sum : FuncData} (c__law_sum : Cal P w K mg base n "_law_sum" ["_law_worths", "_law_kept"] spLSum g__law_sum gd__law_sum) {g_chosen : Addr} {gd_chosen : FuncData} (c_chosen : Cal P w K mg base n "chosen" ["pattern", "worths"] (spChosen C_L) g_chosen gd_chosen) {g__law_short : Addr} {gd__law_short : FuncData} (c__law_short : Cal P w K mg base n "_law_short" ["_law_found", "_law_one", "_law_other", "_law_many_here"] spLShort g__law_short gd__law_short) {g_short_worths : Addr} {gd_short_worths : FuncData} (c_short_worths : Cal P w K mg base n "short_worths" ["one", "other", "many"] spShWs g_short_worths gd_short_worths) {g_flaw : Addr} {gd_flaw : FuncData} (c_flaw : Cal P w K mg base n "flaw" ["pattern", "many"] (spFlaw C_L) g_flaw gd_flaw) {g__law_listed : Addr} {gd__law_listed : FuncData} (c__law_listed : Cal P w K mg base n "_law_listed" ["_law_script", "_law_way", "_law_many_here"] (spListed K) g__law_listed gd__law_listed) {g__law_cell_at : Addr} {gd__law_cell_at : FuncData} (c__law_cell_at : Cal P w K mg base n "_law_cell_at" ["_law_script", "_law_k"] (spCA K) g__law_cell_at gd__law_cell_at) {g__law_drawn : Addr} {gd__law_drawn : FuncData} (c__law_drawn : Cal P w K mg base n "_law_drawn" ["_law_cell", "_law_more", "_law_many_here"] spDrawn g__law_drawn gd__law_drawn) (z_range : mg "range" = none) : FnOk P w K mg base CX0 (n + 1) f fd ["_law_script"] (spLaw33 K) := by
  refine F.ok sc_law (fun vs H Q E h => ?_) (fun cdv A outer s H vs Q E hr h => ?_)
  · obtain ⟨a, ns, rfl, _⟩ := h
    rfl
  obtain ⟨a, ns, rfl, hS, hlen, q⟩ := h
  have nd := sc_law.nd
  have hu1 : _ + 0 + 1 < cLine := Nat.lt_of_le_of_lt (Nat.add_le_add_left (by decide : 1 ≤ 64) _) (Room.units hr)
  refine ⟨_, (pss_cons (ps_set (i := 1) nd rfl (Or.inl rfl) (pe_op op_add pe_int (pe_op op_mod (pe_callC c__law_cell_at hr (pa_cons (pv 0) (pa_cons pe_int pa_nil))) pe_int))) (pss_cons (ps_asg (pe_callC c__law_drawn hr (pa_cons (pe_callC c__law_cell_at hr (pa_cons (pv 0) (pa_cons pe_int pa_nil))) (pa_cons (pe_callC c__law_cell_at hr (pa_cons (pv 0) (pa_cons pe_int pa_nil))) (pa_cons (pv 1) pa_nil)))) (pg_seq (K := K) (n := 2) rfl rfl (pgs_cons (pg_name (i := 2) nd rfl (Or.inl rfl)) (pgs_cons (pg_name (i := 3) nd rfl (Or.inr rfl)) pgs_nil)))) (pss_cons (ps_if (pt_not (pt_val (pe_callC c__law_short hr (pa_cons (pe_callC c_short_worths hr (pa_cons (pv 2) (pa_cons (pv 3) (pa_cons (pv 1) pa_nil)))) (pa_cons (pv 2) (pa_cons (pv 3) (pa_cons (pv 1) pa_nil))))))) (pss_one (ps_ret pe_bl)) pss_nil) (pss_cons (ps_set (i := 4) nd rfl (Or.inl rfl) (pe_callC c__law_listed hr (pa_cons (pv 0) (pa_cons (pe_op op_mod (pe_callC c__law_cell_at hr (pa_cons (pv 0) (pa_cons pe_int pa_nil))) pe_int) (pa_cons (pv 1) pa_nil))))) (pss_cons (ps_set (i := 5) nd rfl (Or.inl rfl) (pe_make M_Listed G_Listed (hr.mono hn_Listed) rfl g_Listed b_Listed .nil pass0 (pa_cons (pv 4) pa_nil))) (pss_cons (ps_set (i := 6) nd rfl (Or.inl rfl) (pe_callC c_flaw hr (pa_cons (pv 5) (pa_cons (pv 1) pa_nil)))) (pss_cons (ps_if (PW.pt (pw_or (pt_cmpR op_isN (pv 6) pe_non (nomark _)) (pw_or1 (pt_cmpR op_ne (pe_ix ix_tup (pv 6) pe_int (fun _ _ => rfl)) pe_str (nomark _))))) (pss_one (ps_ret pe_bl)) pss_nil) (pss_cons (ps_asg (pe_tup (pa_cons (pe_ix ix_tup (pv 6) pe_int (fun _ _ => rfl)) (pa_cons (pe_ix ix_tup (pv 6) pe_int (fun _ _ => rfl)) pa_nil))) (pg_seq (K := K) (n := 2) rfl rfl (pgs_cons (pg_name (i := 2) nd rfl (Or.inl rfl)) (pgs_cons (pg_name (i := 3) nd rfl (Or.inr rfl)) pgs_nil)))) (pss_cons (ps_set (i := 7) nd rfl (Or.inl rfl) (pe_callC c_short_worths hr (pa_cons (pv 2) (pa_cons (pv 3) (pa_cons (pv 1) pa_nil))))) (pss_cons (ps_if (PW.pt (pw_or (pt_not (pt_val (pe_callC c__law_short hr (pa_cons (pv 7) (pa_cons (pv 2) (pa_cons (pv 3) (pa_cons (pv 1) pa_nil))))))) (pw_or1 (pt_not (pt_val (pe_meth (pv 5) cfL m_Lm G_Lm hr b_Lm .nil pass0 (pa_cons (pv 2) pa_nil))))))) (pss_one (ps_ret pe_bl)) pss_nil) (pss_cons (ps_set (i := 8) nd rfl (Or.inl rfl) (pe_callC c_chosen hr (pa_cons (pv 5) (pa_cons (pe_comp (ls := ["_law_number"]) (M := ["_law_script", "_law_many_here", "_law_one", "_law_other", "_law_sets", "_law_pattern", "_law_found", "_law_worths", "_law_boxes"]) rfl (CompOk.of (by rfl)) (NL.of (by rfl)) (pi_list (pv 7)) (fun _ _ _ _ => ⟨(pg_name (i := 0) (nd_of (by rfl)) rfl (Or.inl rfl)), pts_nil, (pe_tup (pa_cons (pv 0) (pa_cons pe_int pa_nil)))⟩)) pa_nil)))) (pss_cons (ps_if (pt_cmpR (op_neD (n := 0) hu1) (pv 8) (pe_comp (ls := ["_law_box"]) (M := ["_law_script", "_law_many_here", "_law_one", "_law_other", "_law_sets", "_law_pattern", "_law_found", "_law_worths", "_law_boxes"]) rfl (CompOk.of (by rfl)) (NL.of (by rfl)) (pi_range1 rfl z_range (pa_cons (pv 1) pa_nil)) (fun _ _ _ _ => ⟨(pg_name (i := 0) (nd_of (by rfl)) rfl (Or.inl rfl)), (pts_one (pt_cmpR op_eq (pe_op op_and (pe_op op_shr (pv 4) (pv 0)) pe_int) pe_int (nomark _))), (pv 0)⟩)) (nomark _)) (pss_one (ps_ret pe_bl)) pss_nil) (pss_one (ps_ret (pe_cmpR op_lt (pe_callC c__law_sum hr (pa_cons (pv 7) (pa_cons (pv 3) pa_nil))) (pe_callC c__law_sum hr (pa_cons (pv 7) (pa_cons (pv 2) pa_nil))) (nomark _)))))))))))))))), ?_⟩
  refine ⟨_, rfl, a, ns, 1, rfl, hS, by decide, by decide, fun j j0 j1 => ?_⟩
  have f1 := Int.emod_nonneg j (show (6 : Int) ≠ 0 by decide)
  have f2 := Int.emod_lt_of_pos j (show (0 : Int) < 6 by decide)
  refine ⟨_, _, rfl, rfl, (by show (0 : Int) < 6; decide), _, _, rfl, rfl, ?_⟩
  obtain ⟨m, hm⟩ : ∃ m : Nat, 1 + j % 6 = (m : Int) := ⟨(1 + j % 6).toNat, by omega⟩
  have m1 : 1 ≤ m := by omega
  have m6 : m ≤ 6 := by omega
  show gName 1 (V.int (1 + j % 6)) _ _ _
  generalize 1 + j % 6 = mi at hm ⊢
  subst hm
  refine ⟨_, rfl, a, ns, 9, rfl, hS, by decide, by decide, fun c c0 c1 => ?_⟩
  refine ⟨_, rfl, a, ns, 10, rfl, hS, by decide, by decide, fun d d0 d1 => ?_⟩
  refine ⟨_, rfl, c, d, m, rfl, m1, m6, fun r H1 o e s1 hr1 o0 o1 e0 e1 => ?_⟩
  refine ⟨r, _, rfl, .inr (SqL.of hr1), rfl, _, _, rfl, _, _, rfl, rfl, ?_⟩
  refine ⟨_, rfl, _, rfl, _, rfl, o, e, (m : Int), rfl, by omega, by omega, fun w1 H2 s2 _ hw => ?_⟩
  rw [Int.toNat_natCast] at hw
  refine ⟨_, rfl, _, rfl, _, rfl, w1, o, e, m, rfl, hw, e0, e1, m6, ?_⟩
  refine ⟨_, rfl, ?_⟩
  refine iteF ?_
  have hS2 := (s1.trans s2).seq hS
  refine ⟨_, rfl, _, rfl, a, ns, 0, rfl, hS2, by decide, by decide, fun z z0 z1 => ?_⟩
  refine ⟨_, _, rfl, rfl, (by show (0 : Int) < 8; decide), _, rfl, a, ns, z % 8, m, rfl, hS2, m1, m6, fun r2 H3 ks s3 hr2 pt => ?_⟩
  have p64 : 2 ^ m ≤ 64 := Nat.le_trans (Nat.pow_le_pow_right (by decide) m6) (by decide)
  have gl := pt.gls (Nat.pow_pos (by decide)) p64
  refine ⟨_, rfl, fun x dx hx hdx ndx => ?_⟩
  have nO : Same H3 (upd (upd H3 dx (.own x)) x (.ins C_L dx [])) := (same_new hdx (.own x)).trans (same_new (by rw [upd_ne (Ne.symm ndx)]; exact hx) _)
  refine ⟨x, dx, r2, ks, rfl, upd_same, nO _ _ hr2, gl, fun t ms H4 s4 pm so ht => ⟨rfl, ?_⟩⟩
  have hO : LiAt C_L (upd H4 x (.ins C_L dx [("sets", .ref t)])) x ms := ⟨dx, t, upd_same, by rw [upd_ne (ne_of ht (s4 _ _ upd_same) fun z => nomatch z)]; exact ht⟩
  generalize upd H4 x (.ins C_L dx [("sets", .ref t)]) = H5 at hO ⊢
  refine ⟨_, rfl, _, rfl, x, ms, m, rfl, hO, m1, m6, fun H6 s6 => ?_, fun r6 H6 st o2 e2 s6 hr6 nst => ?_, fun r6 H6 o2 e2 s6 hr6 fm => ?_⟩
  · refine ⟨_, rfl, rfl, _, rfl, ?_⟩
    refine iteT ?_
    exact q _
  · refine ⟨_, rfl, rfl, _, rfl, ?_⟩
    refine iteF ?_
    refine ⟨_, rfl, r6, _, _, _, rfl, rfl, SqT.of hr6, rfl, rfl, _, rfl, ?_⟩
    refine ifT (by rw [decide_eq_false (fun z => nst (by injection z))]; rfl) ?_
    exact q _
  refine ⟨_, rfl, rfl, _, rfl, ?_⟩
  refine iteF ?_
  refine ⟨_, rfl, r6, _, _, _, rfl, rfl, SqT.of hr6, rfl, rfl, _, rfl, ?_⟩
  refine ifF (neT rfl) ?_
  refine ⟨_, rfl, r6, _, _, _, rfl, rfl, SqT.of hr6, rfl, _, rfl, r6, _, _, _, rfl, rfl, SqT.of hr6, rfl, sz2, fun p hp => ?_⟩
  have n7 := same_new hp (.tup [V.int o2, V.int e2])
  refine ⟨p, _, rfl, .inl (SqT.of upd_same), rfl, _, _, rfl, _, _, rfl, rfl, ?_⟩
  obtain ⟨N64, eN, b0, b1, a0, a1⟩ := fm.bnd m6
  have hO7 := hO.same (s6.trans n7)
  generalize upd H6 p (.tup [V.int o2, V.int e2]) = H7 at hO7 ⊢
  refine ⟨_, rfl, _, rfl, _, rfl, o2, e2, (m : Int), rfl, by omega, by omega, fun w2 H8 s8 _ hw2 => ?_⟩
  rw [Int.toNat_natCast] at hw2
  refine ⟨_, rfl, _, rfl, _, rfl, _, rfl, w2, o2, e2, m, rfl, hw2, a0, by omega, m6, ?_⟩
  refine ⟨_, rfl, ?_⟩
  refine iteF ?_
  have hO8 := hO7.same s8
  have hO8' := hO8
  obtain ⟨dx8, t8, hx8, ht8⟩ := hO8'
  have mo : inV (.int o2) (Is ms) = true := by
    rw [← lets_at (n := 2 ^ m) b0 b1]
    exact fm.f.bo
  refine ⟨_, rfl, x, dx8, _, rfl, hx8, rfl, _, rfl, x, ms, o2, rfl, hO8, ?_⟩
  rw [mo]
  refine ⟨_, rfl, ?_⟩
  refine iteF ?_
  have hL : ((six m).map (shW o2 e2)).length = m := by rw [List.length_map, sixM_len]
  obtain ⟨L, eL⟩ : ∃ L, L = (six m).map (shW o2 e2) := ⟨_, rfl⟩
  have hw3 := hw2
  rw [← eL] at hw3 hL
  refine ⟨_, rfl, _, rfl, w2, rfl, ⟨_, SqL.of hw3⟩, fun D hD => ?_⟩
  refine comp_list (xs := Is L) (fun j τ H' => ∃ v0 qs, τ = [v0, some (.ref a), some (.int (m : Int)), some (.int o2), some (.int e2), some (.ref r2), some (.ref x), some (.ref r6), some (.ref w2), none] ∧ Same H8 H' ∧ H' D = some (.lst (qs.map V.ref)) ∧ qs.length = j ∧ ∀ (i : Nat) q, qs[i]? = some q → H' q = some (.tup [.int (L.getD i 0), .int 1])) ⟨none, [], rfl, same_new hD _, upd_same, rfl, fun i q h => by simp at h⟩ ?keep ?turn ?done
  case keep =>
    rintro j τ H' hj ⟨v0, qs, rfl, hs, _⟩
    exact SqL.of (hs _ _ hw3)
  case turn =>
    rintro j m' v τ H' hm' hj hv ⟨v0, qs, rfl, hs, hD', ql, each⟩
    obtain ⟨z, hz, rfl⟩ := is_at hv
    have hj6 : j < m := by rw [is_length, hL] at hj; exact hj
    refine gyes ?_
    refine ⟨_, rfl, sz2, fun p2 hp2 => ?_⟩
    have n1 := same_new hp2 (.tup [V.int z, V.int 1])
    have hD2 := n1 _ _ hD'
    refine comp_next hm' hj hD2 (by rw [List.length_map]; exact small1000 (by omega)) ⟨_, qs ++ [p2], rfl, (hs.trans n1).upd_new hD _, by rw [upd_same, List.map_append]; rfl, by rw [List.length_append, ql]; rfl, fun i q1 hq1 => ?_⟩
    rcases Nat.lt_trichotomy i qs.length with u | u | u
    · rw [List.getElem?_append_left u] at hq1
      have h1 := n1 _ _ (each i q1 hq1)
      rw [upd_ne (ne_of h1 hD2 fun z => nomatch z)]
      exact h1
    · subst u
      rw [List.getElem?_append_right (Nat.le_refl _), Nat.sub_self] at hq1
      cases hq1
      rw [upd_ne (ne_of upd_same hD2 fun z => nomatch z), upd_same, ql, List.getD_eq_getElem?_getD, hz]
      rfl
    · rw [List.getElem?_eq_none (by rw [List.length_append]; show qs.length + 1 ≤ i; omega)] at hq1
      cases hq1
  case done =>
  rintro τ H9 ⟨v0, qs, rfl, s9, hD9, ql, each⟩
  rw [is_length] at ql
  refine ⟨x, D, ms, qs, L, rfl, hO8.same s9, ⟨hD9, ql, each⟩, by omega, (fun n hn => by
    rw [eL] at hn
    obtain ⟨b, _, rfl⟩ := List.mem_map.mp hn
    have := shW_sm o2 e2 b
    exact bits8 this.1 this.2), fun r10 H10 s10 hr10 => ?_⟩
  rw [eL, chosen_e fm m6] at hr10
  refine ⟨_, rfl, _, rfl, (m : Int), rfl, by omega, by omega, fun B hB => ?_⟩
  refine comp_range (n := (m : Int).toNat) (fun i τ H' => ∃ v0, τ = [v0, some (.ref a), some (.int (m : Int)), some (.int o2), some (.int e2), some (.ref r2), some (.ref x), some (.ref r6), some (.ref w2), some (.ref r10)] ∧ Same H10 H' ∧ H' B = some (.lst (Is ((six i).filter (hb e2))))) ⟨none, rfl, same_new hB _, upd_same⟩ ?turn2 ?done2
  case turn2 =>
    rintro i j τ H' hm' hi ⟨v0, rfl, hs, hB'⟩
    have fs := filt_snoc e2 i
    refine ⟨_, rfl, _, rfl, _, _, rfl, rfl, (by show (0 : Int) ≤ 0 + (i : Int); omega), _, _, rfl, rfl, rfl, _, rfl, ?_⟩
    cases b1 : hb e2 (0 + (i : Int)) with
    | false =>
      refine ifF b1 ?_
      refine comp_skip hm' hi ⟨_, rfl, hs, ?_⟩
      rw [fs, b1, if_neg Bool.false_ne_true, List.append_nil]
      exact hB'
    | true =>
      refine ifT b1 ?_
      refine ⟨_, rfl, ?_⟩
      refine comp_next hm' hi hB' (by rw [is_length]; exact small1000 (Nat.le_trans (List.length_filter_le _ _) (by rw [sixM_len]; omega))) ⟨_, rfl, hs.upd_new hB _, ?_⟩
      rw [upd_same, fs, b1, if_pos rfl, is_snoc]
  case done2 =>
  rintro τ H11 ⟨v1, rfl, s11, hB11⟩
  rw [Int.toNat_natCast, boxes_e m6 a0 a1] at hB11
  refine ⟨r10, B, true, rfl, rfl, de_is (s11 _ _ hr10) hB11, _, rfl, ?_⟩
  refine iteF ?_
  have hw4 := ((s9.trans s10).trans s11) _ _ hw2
  refine ⟨_, rfl, _, rfl, w2, o2, e2, e2, m, rfl, hw4, m6, fun H12 s12 => ?_⟩
  refine ⟨_, rfl, _, rfl, w2, o2, e2, o2, m, rfl, s12 _ _ hw4, m6, fun H13 s13 => ?_⟩
  refine ⟨_, _, rfl, rfl, ?_⟩
  show Q (V.bl (decide (sumW o2 e2 e2 m < sumW o2 e2 o2 m))) _
  rw [decide_eq_true (sums_e fm m6)]
  exact q _
end
end K33
set_option Elab.async false
set_option linter.all false
set_option maxRecDepth 100000
set_option maxHeartbeats 4000000
namespace K33
open PySem L2 TD PyProof.Rows
theorem all_mk {l : PySem.W.OpenLaw} {w : World} {K : PySem.W.Frag} {h : Heap} {mg : Str → Option Value} {fa f1 f2 f3 f4 f5 f6 f7 f8 f9 f10 f11 f12 f13 f14 f15 f16 f17 f18 f19 f20 f21 f22 f23 f24 f25 f26 f27 f28 f29 cL : Addr} (X : K.In h) (G : h.Ns mainGlobals mg) (hfa : mg "law" = some (.ref fa))
    {od1 an1 od2 an2 od3 an3 od4 an4 od5 an5 od6 an6 od7 an7 od8 an8 od9 an9 od10 an10 od11 an11 od12 an12 od13 an13 od14 an14 od15 an15 od16 an16 od17 an17 od18 an18 od19 an19 od20 an20 od21 an21 od22 an22 od23 an23 od24 an24 od25 an25 od26 an26 od27 an27 od28 an28 od29 an29 : Option Addr} {sl1 sl2 sl3 sl4 sl5 sl6 sl7 sl8 sl9 sl10 sl11 sl12 sl13 sl14 sl15 sl16 sl17 sl18 sl19 sl20 sl21 sl22 sl23 sl24 sl25 sl26 sl27 sl28 sl29 : Array (Option Value)} {oc1 kV1 dc1 pm1 cd1 ct1 oc2 kV2 dc2 pm2 cd2 ct2 oc3 kV3 dc3 pm3 cd3 ct3 oc4 kV4 dc4 pm4 cd4 ct4 oc5 kV5 dc5 pm5 cd5 ct5 oc6 kV6 dc6 pm6 cd6 ct6 oc7 kV7 dc7 pm7 cd7 ct7 oc8 kV8 dc8 pm8 cd8 ct8 oc9 kV9 dc9 pm9 cd9 ct9 oc10 kV10 dc10 pm10 cd10 ct10 oc11 kV11 dc11 pm11 cd11 ct11 oc12 kV12 dc12 pm12 cd12 ct12 oc13 kV13 dc13 pm13 cd13 ct13 oc14 kV14 dc14 pm14 cd14 ct14 oc15 kV15 dc15 pm15 cd15 ct15 oc16 kV16 dc16 pm16 cd16 ct16 oc17 kV17 dc17 pm17 cd17 ct17 oc18 kV18 dc18 pm18 cd18 ct18 oc19 kV19 dc19 pm19 cd19 ct19 oc20 kV20 dc20 pm20 cd20 ct20 oc21 kV21 dc21 pm21 cd21 ct21 oc22 kV22 dc22 pm22 cd22 ct22 oc23 kV23 dc23 pm23 cd23 ct23 oc24 kV24 dc24 pm24 cd24 ct24 oc25 kV25 dc25 pm25 cd25 ct25 oc26 kV26 dc26 pm26 cd26 ct26 oc27 kV27 dc27 pm27 cd27 ct27 oc28 kV28 dc28 pm28 cd28 ct28 oc29 kV29 dc29 pm29 cd29 ct29 : Value}
    (aC_Listed : PySem.W.nsIn K mainGlobals "Listed" = some (some (.ref cL)))
    (a1 : PySem.W.nsIn K mainGlobals "is_whole" = some (some (.ref f1)))
    (l1 : K.lookup f1 = some ⟨oc1, od1, .func (PySem.W.fnOf "is_whole" "is_whole" (defArgs (top 5)) (defBody (top 5)) (defScope (top 5)) .none kV1 dc1 pm1 an1 cd1 ct1), sl1⟩) (c1 : PySem.W.codeIn K cd1 "is_whole" = true) (k1 : PySem.W.keepIn K (.ref f1) = true)
    (a2 : PySem.W.nsIn K mainGlobals "whole" = some (some (.ref f2)))
    (l2 : K.lookup f2 = some ⟨oc2, od2, .func (PySem.W.fnOf "whole" "whole" (defArgs (top 6)) (defBody (top 6)) (defScope (top 6)) .none kV2 dc2 pm2 an2 cd2 ct2), sl2⟩) (c2 : PySem.W.codeIn K cd2 "whole" = true) (k2 : PySem.W.keepIn K (.ref f2) = true)
    (a3 : PySem.W.nsIn K mainGlobals "below" = some (some (.ref f3)))
    (l3 : K.lookup f3 = some ⟨oc3, od3, .func (PySem.W.fnOf "below" "below" (defArgs (top 7)) (defBody (top 7)) (defScope (top 7)) .none kV3 dc3 pm3 an3 cd3 ct3), sl3⟩) (c3 : PySem.W.codeIn K cd3 "below" = true) (k3 : PySem.W.keepIn K (.ref f3) = true)
    (a4 : PySem.W.nsIn K mainGlobals "has_box" = some (some (.ref f4)))
    (l4 : K.lookup f4 = some ⟨oc4, od4, .func (PySem.W.fnOf "has_box" "has_box" (defArgs (top 11)) (defBody (top 11)) (defScope (top 11)) .none kV4 dc4 pm4 an4 cd4 ct4), sl4⟩) (c4 : PySem.W.codeIn K cd4 "has_box" = true) (k4 : PySem.W.keepIn K (.ref f4) = true)
    (a5 : PySem.W.nsIn K mainGlobals "boxes_of" = some (some (.ref f5)))
    (l5 : K.lookup f5 = some ⟨oc5, od5, .func (PySem.W.fnOf "boxes_of" "boxes_of" (defArgs (top 12)) (defBody (top 12)) (defScope (top 12)) .none kV5 dc5 pm5 an5 cd5 ct5), sl5⟩) (c5 : PySem.W.codeIn K cd5 "boxes_of" = true) (k5 : PySem.W.keepIn K (.ref f5) = true)
    (a6 : PySem.W.nsIn K mainGlobals "size_of" = some (some (.ref f6)))
    (l6 : K.lookup f6 = some ⟨oc6, od6, .func (PySem.W.fnOf "size_of" "size_of" (defArgs (top 13)) (defBody (top 13)) (defScope (top 13)) .none kV6 dc6 pm6 an6 cd6 ct6), sl6⟩) (c6 : PySem.W.codeIn K cd6 "size_of" = true) (k6 : PySem.W.keepIn K (.ref f6) = true)
    (a7 : PySem.W.nsIn K mainGlobals "with_box" = some (some (.ref f7)))
    (l7 : K.lookup f7 = some ⟨oc7, od7, .func (PySem.W.fnOf "with_box" "with_box" (defArgs (top 14)) (defBody (top 14)) (defScope (top 14)) .none kV7 dc7 pm7 an7 cd7 ct7), sl7⟩) (c7 : PySem.W.codeIn K cd7 "with_box" = true) (k7 : PySem.W.keepIn K (.ref f7) = true)
    (a8 : PySem.W.nsIn K mainGlobals "is_numbers" = some (some (.ref f8)))
    (l8 : K.lookup f8 = some ⟨oc8, od8, .func (PySem.W.fnOf "is_numbers" "is_numbers" (defArgs (top 15)) (defBody (top 15)) (defScope (top 15)) .none kV8 dc8 pm8 an8 cd8 ct8), sl8⟩) (c8 : PySem.W.codeIn K cd8 "is_numbers" = true) (k8 : PySem.W.keepIn K (.ref f8) = true)
    (a9 : PySem.W.nsIn K mainGlobals "less_flaw" = some (some (.ref f9)))
    (l9 : K.lookup f9 = some ⟨oc9, od9, .func (PySem.W.fnOf "less_flaw" "less_flaw" (defArgs (top 18)) (defBody (top 18)) (defScope (top 18)) .none kV9 dc9 pm9 an9 cd9 ct9), sl9⟩) (c9 : PySem.W.codeIn K cd9 "less_flaw" = true) (k9 : PySem.W.keepIn K (.ref f9) = true)
    (a10 : PySem.W.nsIn K mainGlobals "can_grow" = some (some (.ref f10)))
    (l10 : K.lookup f10 = some ⟨oc10, od10, .func (PySem.W.fnOf "can_grow" "can_grow" (defArgs (top 19)) (defBody (top 19)) (defScope (top 19)) .none kV10 dc10 pm10 an10 cd10 ct10), sl10⟩) (c10 : PySem.W.codeIn K cd10 "can_grow" = true) (k10 : PySem.W.keepIn K (.ref f10) = true)
    (a11 : PySem.W.nsIn K mainGlobals "sets_by_size" = some (some (.ref f11)))
    (l11 : K.lookup f11 = some ⟨oc11, od11, .func (PySem.W.fnOf "sets_by_size" "sets_by_size" (defArgs (top 20)) (defBody (top 20)) (defScope (top 20)) .none kV11 dc11 pm11 an11 cd11 ct11), sl11⟩) (c11 : PySem.W.codeIn K cd11 "sets_by_size" = true) (k11 : PySem.W.keepIn K (.ref f11) = true)
    (a12 : PySem.W.nsIn K mainGlobals "more_flaw" = some (some (.ref f12)))
    (l12 : K.lookup f12 = some ⟨oc12, od12, .func (PySem.W.fnOf "more_flaw" "more_flaw" (defArgs (top 21)) (defBody (top 21)) (defScope (top 21)) .none kV12 dc12 pm12 an12 cd12 ct12), sl12⟩) (c12 : PySem.W.codeIn K cd12 "more_flaw" = true) (k12 : PySem.W.keepIn K (.ref f12) = true)
    (a13 : PySem.W.nsIn K mainGlobals "flaw" = some (some (.ref f13)))
    (l13 : K.lookup f13 = some ⟨oc13, od13, .func (PySem.W.fnOf "flaw" "flaw" (defArgs (top 22)) (defBody (top 22)) (defScope (top 22)) .none kV13 dc13 pm13 an13 cd13 ct13), sl13⟩) (c13 : PySem.W.codeIn K cd13 "flaw" = true) (k13 : PySem.W.keepIn K (.ref f13) = true)
    (a14 : PySem.W.nsIn K mainGlobals "falling" = some (some (.ref f14)))
    (l14 : K.lookup f14 = some ⟨oc14, od14, .func (PySem.W.fnOf "falling" "falling" (defArgs (top 23)) (defBody (top 23)) (defScope (top 23)) .none kV14 dc14 pm14 an14 cd14 ct14), sl14⟩) (c14 : PySem.W.codeIn K cd14 "falling" = true) (k14 : PySem.W.keepIn K (.ref f14) = true)
    (a15 : PySem.W.nsIn K mainGlobals "chosen" = some (some (.ref f15)))
    (l15 : K.lookup f15 = some ⟨oc15, od15, .func (PySem.W.fnOf "chosen" "chosen" (defArgs (top 24)) (defBody (top 24)) (defScope (top 24)) .none kV15 dc15 pm15 an15 cd15 ct15), sl15⟩) (c15 : PySem.W.codeIn K cd15 "chosen" = true) (k15 : PySem.W.keepIn K (.ref f15) = true)
    (a16 : PySem.W.nsIn K mainGlobals "short_worth" = some (some (.ref f16)))
    (l16 : K.lookup f16 = some ⟨oc16, od16, .func (PySem.W.fnOf "short_worth" "short_worth" (defArgs (top 25)) (defBody (top 25)) (defScope (top 25)) .none kV16 dc16 pm16 an16 cd16 ct16), sl16⟩) (c16 : PySem.W.codeIn K cd16 "short_worth" = true) (k16 : PySem.W.keepIn K (.ref f16) = true)
    (a17 : PySem.W.nsIn K mainGlobals "short_worths" = some (some (.ref f17)))
    (l17 : K.lookup f17 = some ⟨oc17, od17, .func (PySem.W.fnOf "short_worths" "short_worths" (defArgs (top 26)) (defBody (top 26)) (defScope (top 26)) .none kV17 dc17 pm17 an17 cd17 ct17), sl17⟩) (c17 : PySem.W.codeIn K cd17 "short_worths" = true) (k17 : PySem.W.keepIn K (.ref f17) = true)
    (a18 : PySem.W.nsIn K mainGlobals "_law_cell_at" = some (some (.ref f18)))
    (l18 : K.lookup f18 = some ⟨oc18, od18, .func (PySem.W.fnOf "_law_cell_at" "_law_cell_at" (defArgs (top 28)) (defBody (top 28)) (defScope (top 28)) .none kV18 dc18 pm18 an18 cd18 ct18), sl18⟩) (c18 : PySem.W.codeIn K cd18 "_law_cell_at" = true) (k18 : PySem.W.keepIn K (.ref f18) = true)
    (a19 : PySem.W.nsIn K mainGlobals "_law_many" = some (some (.ref f19)))
    (l19 : K.lookup f19 = some ⟨oc19, od19, .func (PySem.W.fnOf "_law_many" "_law_many" (defArgs (top 29)) (defBody (top 29)) (defScope (top 29)) .none kV19 dc19 pm19 an19 cd19 ct19), sl19⟩) (c19 : PySem.W.codeIn K cd19 "_law_many" = true) (k19 : PySem.W.keepIn K (.ref f19) = true)
    (a20 : PySem.W.nsIn K mainGlobals "_law_size" = some (some (.ref f20)))
    (l20 : K.lookup f20 = some ⟨oc20, od20, .func (PySem.W.fnOf "_law_size" "_law_size" (defArgs (top 30)) (defBody (top 30)) (defScope (top 30)) .none kV20 dc20 pm20 an20 cd20 ct20), sl20⟩) (c20 : PySem.W.codeIn K cd20 "_law_size" = true) (k20 : PySem.W.keepIn K (.ref f20) = true)
    (a21 : PySem.W.nsIn K mainGlobals "_law_forest" = some (some (.ref f21)))
    (l21 : K.lookup f21 = some ⟨oc21, od21, .func (PySem.W.fnOf "_law_forest" "_law_forest" (defArgs (top 31)) (defBody (top 31)) (defScope (top 31)) .none kV21 dc21 pm21 an21 cd21 ct21), sl21⟩) (c21 : PySem.W.codeIn K cd21 "_law_forest" = true) (k21 : PySem.W.keepIn K (.ref f21) = true)
    (a22 : PySem.W.nsIn K mainGlobals "_law_under" = some (some (.ref f22)))
    (l22 : K.lookup f22 = some ⟨oc22, od22, .func (PySem.W.fnOf "_law_under" "_law_under" (defArgs (top 32)) (defBody (top 32)) (defScope (top 32)) .none kV22 dc22 pm22 an22 cd22 ct22), sl22⟩) (c22 : PySem.W.codeIn K cd22 "_law_under" = true) (k22 : PySem.W.keepIn K (.ref f22) = true)
    (a23 : PySem.W.nsIn K mainGlobals "_law_listed" = some (some (.ref f23)))
    (l23 : K.lookup f23 = some ⟨oc23, od23, .func (PySem.W.fnOf "_law_listed" "_law_listed" (defArgs (top 33)) (defBody (top 33)) (defScope (top 33)) .none kV23 dc23 pm23 an23 cd23 ct23), sl23⟩) (c23 : PySem.W.codeIn K cd23 "_law_listed" = true) (k23 : PySem.W.keepIn K (.ref f23) = true)
    (a24 : PySem.W.nsIn K mainGlobals "_law_short" = some (some (.ref f24)))
    (l24 : K.lookup f24 = some ⟨oc24, od24, .func (PySem.W.fnOf "_law_short" "_law_short" (defArgs (top 34)) (defBody (top 34)) (defScope (top 34)) .none kV24 dc24 pm24 an24 cd24 ct24), sl24⟩) (c24 : PySem.W.codeIn K cd24 "_law_short" = true) (k24 : PySem.W.keepIn K (.ref f24) = true)
    (a25 : PySem.W.nsIn K mainGlobals "_law_sum" = some (some (.ref f25)))
    (l25 : K.lookup f25 = some ⟨oc25, od25, .func (PySem.W.fnOf "_law_sum" "_law_sum" (defArgs (top 35)) (defBody (top 35)) (defScope (top 35)) .none kV25 dc25 pm25 an25 cd25 ct25), sl25⟩) (c25 : PySem.W.codeIn K cd25 "_law_sum" = true) (k25 : PySem.W.keepIn K (.ref f25) = true)
    (a26 : PySem.W.nsIn K mainGlobals "_law_drawn" = some (some (.ref f26)))
    (l26 : K.lookup f26 = some ⟨oc26, od26, .func (PySem.W.fnOf "_law_drawn" "_law_drawn" (defArgs (top 36)) (defBody (top 36)) (defScope (top 36)) .none kV26 dc26 pm26 an26 cd26 ct26), sl26⟩) (c26 : PySem.W.codeIn K cd26 "_law_drawn" = true) (k26 : PySem.W.keepIn K (.ref f26) = true)
    (a27 : PySem.W.nsIn K mainGlobals "law" = some (some (.ref f27)))
    (l27 : K.lookup f27 = some ⟨oc27, od27, .func (PySem.W.fnOf "law" "law" (defArgs (top 37)) (defBody (top 37)) (defScope (top 37)) .none kV27 dc27 pm27 an27 cd27 ct27), sl27⟩) (c27 : PySem.W.codeIn K cd27 "law" = true) (k27 : PySem.W.keepIn K (.ref f27) = true)
    (a28 : PySem.W.findIn K (.ref cL) "__init__" = some (some (.ref f28))) (i28 : PySem.W.isFn K (.ref f28) = true)
    (l28 : K.lookup f28 = some ⟨oc28, od28, .func (PySem.W.fnOf "__init__" "Listed.__init__" (defArgs (inClass (top 17) 0)) (defBody (inClass (top 17) 0)) (defScope (inClass (top 17) 0)) .none kV28 dc28 pm28 an28 cd28 ct28), sl28⟩) (c28 : PySem.W.codeIn K cd28 "Listed.__init__" = true) (k28 : PySem.W.keepIn K (.ref f28) = true)
    (a29 : PySem.W.findIn K (.ref cL) "may" = some (some (.ref f29))) (i29 : PySem.W.isFn K (.ref f29) = true)
    (l29 : K.lookup f29 = some ⟨oc29, od29, .func (PySem.W.fnOf "may" "Listed.may" (defArgs (inClass (top 17) 1)) (defBody (inClass (top 17) 1)) (defScope (inClass (top 17) 1)) .none kV29 dc29 pm29 an29 cd29 ct29), sl29⟩) (c29 : PySem.W.codeIn K cd29 "Listed.may" = true) (k29 : PySem.W.keepIn K (.ref f29) = true)
    (pgL : PySem.W.plainGet K cL Str.empty = true)
    (hdL : PySem.W.hasDictIn K cL = true)
    (poL : PySem.W.plainOver K cL = true)
    (saL : PySem.W.findIn K (.ref cL) "__setattr__" = some (some (.builtin "object.__setattr__")))
    (mkL : PySem.W.makesIn K cL = true)
    (kcL : PySem.W.keepIn K (.ref cL) = true)
    (nkL_sets : PySem.W.findIn K (.ref cL) "sets" = some none)
    (y_all : PySem.W.nsIn K mainGlobals "all" = some none)
    (y_any : PySem.W.nsIn K mainGlobals "any" = some none)
    (y_bool : PySem.W.nsIn K mainGlobals "bool" = some none)
    (y_int : PySem.W.nsIn K mainGlobals "int" = some none)
    (y_isinstance : PySem.W.nsIn K mainGlobals "isinstance" = some none)
    (y_len : PySem.W.nsIn K mainGlobals "len" = some none)
    (y_list : PySem.W.nsIn K mainGlobals "list" = some none)
    (y_max : PySem.W.nsIn K mainGlobals "max" = some none)
    (y_min : PySem.W.nsIn K mainGlobals "min" = some none)
    (y_range : PySem.W.nsIn K mainGlobals "range" = some none)
    (y_set : PySem.W.nsIn K mainGlobals "set" = some none)
    (y_sorted : PySem.W.nsIn K mainGlobals "sorted" = some none)
    (y_sum : PySem.W.nsIn K mainGlobals "sum" = some none)
    (y_tuple : PySem.W.nsIn K mainGlobals "tuple" = some none)
    {tk_MOST_BOXES : Tok} (yg_MOST_BOXES : PySem.W.nsIn K mainGlobals "MOST_BOXES" = some (some (.int 6 tk_MOST_BOXES)))
    {tk_MOST_SETS : Tok} (yg_MOST_SETS : PySem.W.nsIn K mainGlobals "MOST_SETS" = some (some (.int 64 tk_MOST_SETS)))
    : ∃ fd : FuncData, (∀ (s : Shared) (v : Value), BindsTo s fd ⟨[v], []⟩ [("_law_script", v)]) ∧ ∀ base : Heap, K.In base → base.Ns mainGlobals mg → FnOk l.prog w K mg base CX0 7 fa fd ["_law_script"] (spLaw33 K) := by
  have e := hfa.symm.trans (PySem.W.mg_of X G a27)
  cases e
  have F1 := fun_mk (st := (top 5)) l1 c1 k1
  have b1 := F1.binds (ps := ["thing", "least", "most"]) fun _ _ _ _ _ _ us hl => match us, hl with | [_, _, _], _ => rfl
  have F2 := fun_mk (st := (top 6)) l2 c2 k2
  have b2 := F2.binds (ps := ["number"]) fun _ _ _ _ _ _ us hl => match us, hl with | [_], _ => rfl
  have F3 := fun_mk (st := (top 7)) l3 c3 k3
  have b3 := F3.binds (ps := ["one", "other"]) fun _ _ _ _ _ _ us hl => match us, hl with | [_, _], _ => rfl
  have F4 := fun_mk (st := (top 11)) l4 c4 k4
  have b4 := F4.binds (ps := ["kept", "box"]) fun _ _ _ _ _ _ us hl => match us, hl with | [_, _], _ => rfl
  have F5 := fun_mk (st := (top 12)) l5 c5 k5
  have b5 := F5.binds (ps := ["kept"]) fun _ _ _ _ _ _ us hl => match us, hl with | [_], _ => rfl
  have F6 := fun_mk (st := (top 13)) l6 c6 k6
  have b6 := F6.binds (ps := ["kept"]) fun _ _ _ _ _ _ us hl => match us, hl with | [_], _ => rfl
  have F7 := fun_mk (st := (top 14)) l7 c7 k7
  have b7 := F7.binds (ps := ["kept", "box"]) fun _ _ _ _ _ _ us hl => match us, hl with | [_, _], _ => rfl
  have F8 := fun_mk (st := (top 15)) l8 c8 k8
  have b8 := F8.binds (ps := ["things", "fewest", "most", "greatest_number"]) fun _ _ _ _ _ _ us hl => match us, hl with | [_, _, _, _], _ => rfl
  have F9 := fun_mk (st := (top 18)) l9 c9 k9
  have b9 := F9.binds (ps := ["lets"]) fun _ _ _ _ _ _ us hl => match us, hl with | [_], _ => rfl
  have F10 := fun_mk (st := (top 19)) l10 c10 k10
  have b10 := F10.binds (ps := ["lets", "one", "other"]) fun _ _ _ _ _ _ us hl => match us, hl with | [_, _, _], _ => rfl
  have F11 := fun_mk (st := (top 20)) l11 c11 k11
  have b11 := F11.binds (ps := ["lets"]) fun _ _ _ _ _ _ us hl => match us, hl with | [_], _ => rfl
  have F12 := fun_mk (st := (top 21)) l12 c12 k12
  have b12 := F12.binds (ps := ["lets"]) fun _ _ _ _ _ _ us hl => match us, hl with | [_], _ => rfl
  have F13 := fun_mk (st := (top 22)) l13 c13 k13
  have b13 := F13.binds (ps := ["pattern", "many"]) fun _ _ _ _ _ _ us hl => match us, hl with | [_, _], _ => rfl
  have F14 := fun_mk (st := (top 23)) l14 c14 k14
  have b14 := F14.binds (ps := ["worths"]) fun _ _ _ _ _ _ us hl => match us, hl with | [_], _ => rfl
  have F15 := fun_mk (st := (top 24)) l15 c15 k15
  have b15 := F15.binds (ps := ["pattern", "worths"]) fun _ _ _ _ _ _ us hl => match us, hl with | [_, _], _ => rfl
  have F16 := fun_mk (st := (top 25)) l16 c16 k16
  have b16 := F16.binds (ps := ["one", "other", "box"]) fun _ _ _ _ _ _ us hl => match us, hl with | [_, _, _], _ => rfl
  have F17 := fun_mk (st := (top 26)) l17 c17 k17
  have b17 := F17.binds (ps := ["one", "other", "many"]) fun _ _ _ _ _ _ us hl => match us, hl with | [_, _, _], _ => rfl
  have F18 := fun_mk (st := (top 28)) l18 c18 k18
  have b18 := F18.binds (ps := ["_law_script", "_law_k"]) fun _ _ _ _ _ _ us hl => match us, hl with | [_, _], _ => rfl
  have F19 := fun_mk (st := (top 29)) l19 c19 k19
  have b19 := F19.binds (ps := ["_law_script", "_law_first", "_law_most"]) fun _ _ _ _ _ _ us hl => match us, hl with | [_, _, _], _ => rfl
  have F20 := fun_mk (st := (top 30)) l20 c20 k20
  have b20 := F20.binds (ps := ["_law_kept"]) fun _ _ _ _ _ _ us hl => match us, hl with | [_], _ => rfl
  have F21 := fun_mk (st := (top 31)) l21 c21 k21
  have b21 := F21.binds (ps := ["_law_pairs", "_law_kept"]) fun _ _ _ _ _ _ us hl => match us, hl with | [_, _], _ => rfl
  have F22 := fun_mk (st := (top 32)) l22 c22 k22
  have b22 := F22.binds (ps := ["_law_some", "_law_many_here"]) fun _ _ _ _ _ _ us hl => match us, hl with | [_, _], _ => rfl
  have F23 := fun_mk (st := (top 33)) l23 c23 k23
  have b23 := F23.binds (ps := ["_law_script", "_law_way", "_law_many_here"]) fun _ _ _ _ _ _ us hl => match us, hl with | [_, _, _], _ => rfl
  have F24 := fun_mk (st := (top 34)) l24 c24 k24
  have b24 := F24.binds (ps := ["_law_found", "_law_one", "_law_other", "_law_many_here"]) fun _ _ _ _ _ _ us hl => match us, hl with | [_, _, _, _], _ => rfl
  have F25 := fun_mk (st := (top 35)) l25 c25 k25
  have b25 := F25.binds (ps := ["_law_worths", "_law_kept"]) fun _ _ _ _ _ _ us hl => match us, hl with | [_, _], _ => rfl
  have F26 := fun_mk (st := (top 36)) l26 c26 k26
  have b26 := F26.binds (ps := ["_law_cell", "_law_more", "_law_many_here"]) fun _ _ _ _ _ _ us hl => match us, hl with | [_, _, _], _ => rfl
  have F27 := fun_mk (st := (top 37)) l27 c27 k27
  have F28 := fun_mk (st := (inClass (top 17) 0)) l28 c28 k28
  have b28 := F28.binds (ps := ["self", "sets"]) fun _ _ _ _ _ _ us hl => match us, hl with | [_, _], _ => rfl
  have F29 := fun_mk (st := (inClass (top 17) 1)) l29 c29 k29
  have b29 := F29.binds (ps := ["self", "kept"]) fun _ _ _ _ _ _ us hl => match us, hl with | [_, _], _ => rfl
  have m1 := PySem.W.mg_of X G a1
  have m2 := PySem.W.mg_of X G a2
  have m3 := PySem.W.mg_of X G a3
  have m4 := PySem.W.mg_of X G a4
  have m5 := PySem.W.mg_of X G a5
  have m6 := PySem.W.mg_of X G a6
  have m7 := PySem.W.mg_of X G a7
  have m8 := PySem.W.mg_of X G a8
  have m9 := PySem.W.mg_of X G a9
  have m10 := PySem.W.mg_of X G a10
  have m11 := PySem.W.mg_of X G a11
  have m12 := PySem.W.mg_of X G a12
  have m13 := PySem.W.mg_of X G a13
  have m14 := PySem.W.mg_of X G a14
  have m15 := PySem.W.mg_of X G a15
  have m16 := PySem.W.mg_of X G a16
  have m17 := PySem.W.mg_of X G a17
  have m18 := PySem.W.mg_of X G a18
  have m19 := PySem.W.mg_of X G a19
  have m20 := PySem.W.mg_of X G a20
  have m21 := PySem.W.mg_of X G a21
  have m22 := PySem.W.mg_of X G a22
  have m23 := PySem.W.mg_of X G a23
  have m24 := PySem.W.mg_of X G a24
  have m25 := PySem.W.mg_of X G a25
  have m26 := PySem.W.mg_of X G a26
  have g_Listed := PySem.W.mg_of X G aC_Listed
  have z_all := PySem.W.mg_none_of X G y_all
  have z_any := PySem.W.mg_none_of X G y_any
  have z_bool := PySem.W.mg_none_of X G y_bool
  have z_int := PySem.W.mg_none_of X G y_int
  have z_isinstance := PySem.W.mg_none_of X G y_isinstance
  have z_len := PySem.W.mg_none_of X G y_len
  have z_list := PySem.W.mg_none_of X G y_list
  have z_max := PySem.W.mg_none_of X G y_max
  have z_min := PySem.W.mg_none_of X G y_min
  have z_range := PySem.W.mg_none_of X G y_range
  have z_set := PySem.W.mg_none_of X G y_set
  have z_sorted := PySem.W.mg_none_of X G y_sorted
  have z_sum := PySem.W.mg_none_of X G y_sum
  have z_tuple := PySem.W.mg_none_of X G y_tuple
  have g_MOST_BOXES := PySem.W.mg_of X G yg_MOST_BOXES
  have r_MOST_BOXES : RelV (.int 6) (.int 6 tk_MOST_BOXES) := ⟨_, rfl⟩
  have g_MOST_SETS := PySem.W.mg_of X G yg_MOST_SETS
  have r_MOST_SETS : RelV (.int 64) (.int 64 tk_MOST_SETS) := ⟨_, rfl⟩
  refine ⟨PySem.W.fnOf "law" "law" (defArgs (top 37)) (defBody (top 37)) (defScope (top 37)) .none kV27 dc27 pm27 an27 cd27 ct27, fun s v => .of_eq rfl, fun base _ _ => ?_⟩
  have cfL : Cls K cL := ⟨pgL, hdL, poL, saL⟩
  have ML : Mk K cL f28 := ⟨mkL, a28, i28, kcL⟩
  have mt29 : Meth K cL "may" f29 := ⟨a29, i29, k29⟩
  have C1 : Cal l.prog w K mg base 1 "is_whole" ["thing", "least", "most"] spIsW f1 _ := ⟨ok_is_whole (n := 0) F1  z_isinstance z_bool z_int , b1, k1, m1⟩
  have C2 : Cal l.prog w K mg base 1 "whole" ["number"] spWh f2 _ := ⟨ok_whole (n := 0) F2   , b2, k2, m2⟩
  have C3 : Cal l.prog w K mg base 1 "below" ["one", "other"] (spBelow K) f3 _ := ⟨ok_below (n := 0) F3   , b3, k3, m3⟩
  have C4 : Cal l.prog w K mg base 1 "has_box" ["kept", "box"] spHas f4 _ := ⟨ok_has_box (n := 0) F4   , b4, k4, m4⟩
  have C5 : Cal l.prog w K mg base 2 "boxes_of" ["kept"] spBxs f5 _ := ⟨ok_boxes_of (n := 1) F5 (C4.up (by decide)) z_range g_MOST_BOXES r_MOST_BOXES, b5, k5, m5⟩
  have C6 : Cal l.prog w K mg base 3 "size_of" ["kept"] spSz f6 _ := ⟨ok_size_of (n := 2) F6 (C5.up (by decide)) z_len , b6, k6, m6⟩
  have C7 : Cal l.prog w K mg base 1 "with_box" ["kept", "box"] spWith f7 _ := ⟨ok_with_box (n := 0) F7   , b7, k7, m7⟩
  have C8 : Cal l.prog w K mg base 2 "is_numbers" ["things", "fewest", "most", "greatest_number"] spNums f8 _ := ⟨ok_is_numbers (n := 1) F8 (C1.up (by decide)) z_all z_len z_isinstance z_list , b8, k8, m8⟩
  have C9 : Cal l.prog w K mg base 3 "less_flaw" ["lets"] spLess f9 _ := ⟨ok_less_flaw (n := 2) F9 (C5.up (by decide)) z_range z_len , b9, k9, m9⟩
  have C10 : Cal l.prog w K mg base 3 "can_grow" ["lets", "one", "other"] spGrow f10 _ := ⟨ok_can_grow (n := 2) F10 (C5.up (by decide)) (C4.up (by decide)) (C7.up (by decide)) z_any , b10, k10, m10⟩
  have C11 : Cal l.prog w K mg base 4 "sets_by_size" ["lets"] spBySz f11 _ := ⟨ok_sets_by_size (n := 3) F11 (C6.up (by decide)) z_range z_len g_MOST_BOXES r_MOST_BOXES, b11, k11, m11⟩
  have C12 : Cal l.prog w K mg base 5 "more_flaw" ["lets"] spMore f12 _ := ⟨ok_more_flaw (n := 4) F12 (C10.up (by decide)) (C11.up (by decide)) z_range g_MOST_BOXES r_MOST_BOXES, b12, k12, m12⟩
  have G29 : FnOk l.prog w K mg base CX0 1 f29 _ ["self", "kept"] (spLmay cL) := ok_Listed_may (n := 0) F29 cfL nkL_sets
  have C13 : Cal l.prog w K mg base 6 "flaw" ["pattern", "many"] (spFlaw cL) f13 _ := ⟨ok_flaw (n := 5) F13 cfL mt29 (G29.mono (by decide)) b29 (C12.up (by decide)) (C9.up (by decide)) z_range , b13, k13, m13⟩
  have C14 : Cal l.prog w K mg base 2 "falling" ["worths"] spFall f14 _ := ⟨ok_falling (n := 1) F14 (C3.up (by decide)) z_range z_len , b14, k14, m14⟩
  have C15 : Cal l.prog w K mg base 3 "chosen" ["pattern", "worths"] (spChosen cL) f15 _ := ⟨ok_chosen (n := 2) F15 cfL mt29 (G29.mono (by decide)) b29 (C5.up (by decide)) (C14.up (by decide)) (C3.up (by decide)) (C2.up (by decide)) (C7.up (by decide))  , b15, k15, m15⟩
  have C16 : Cal l.prog w K mg base 4 "short_worth" ["one", "other", "box"] spShW f16 _ := ⟨ok_short_worth (n := 3) F16 (C4.up (by decide)) (C6.up (by decide))  , b16, k16, m16⟩
  have C17 : Cal l.prog w K mg base 5 "short_worths" ["one", "other", "many"] spShWs f17 _ := ⟨ok_short_worths (n := 4) F17 (C16.up (by decide)) z_range , b17, k17, m17⟩
  have C18 : Cal l.prog w K mg base 1 "_law_cell_at" ["_law_script", "_law_k"] (spCA K) f18 _ := ⟨ok__law_cell_at (n := 0) F18  z_len , b18, k18, m18⟩
  have C19 : Cal l.prog w K mg base 2 "_law_many" ["_law_script", "_law_first", "_law_most"] (spMn K) f19 _ := ⟨ok__law_many (n := 1) F19 (C18.up (by decide)) z_min z_max z_len , b19, k19, m19⟩
  have C20 : Cal l.prog w K mg base 1 "_law_size" ["_law_kept"] spLSz f20 _ := ⟨ok__law_size (n := 0) F20  z_range , b20, k20, m20⟩
  have C21 : Cal l.prog w K mg base 1 "_law_forest" ["_law_pairs", "_law_kept"] spForest f21 _ := ⟨ok__law_forest (n := 0) F21  z_range z_len z_int , b21, k21, m21⟩
  have C22 : Cal l.prog w K mg base 1 "_law_under" ["_law_some", "_law_many_here"] spUnder f22 _ := ⟨ok__law_under (n := 0) F22  z_range z_any , b22, k22, m22⟩
  have C23 : Cal l.prog w K mg base 3 "_law_listed" ["_law_script", "_law_way", "_law_many_here"] (spListed K) f23 _ := ⟨ok__law_listed (n := 2) F23 (C18.up (by decide)) (C20.up (by decide)) (C21.up (by decide)) (C22.up (by decide)) (C19.up (by decide)) z_len z_max z_range , b23, k23, m23⟩
  have C24 : Cal l.prog w K mg base 2 "_law_short" ["_law_found", "_law_one", "_law_other", "_law_many_here"] spLShort f24 _ := ⟨ok__law_short (n := 1) F24 (C20.up (by decide)) z_range z_isinstance z_bool z_int z_len z_list , b24, k24, m24⟩
  have C25 : Cal l.prog w K mg base 1 "_law_sum" ["_law_worths", "_law_kept"] spLSum f25 _ := ⟨ok__law_sum (n := 0) F25  z_sum z_range z_len , b25, k25, m25⟩
  have C26 : Cal l.prog w K mg base 2 "_law_drawn" ["_law_cell", "_law_more", "_law_many_here"] spDrawn f26 _ := ⟨ok__law_drawn (n := 1) F26 (C20.up (by decide)) z_range , b26, k26, m26⟩
  have G28 : FnOk l.prog w K mg base CX0 3 f28 _ ["self", "sets"] (spLin cL) := ok_Listed___init__ (n := 2) F28 cfL nkL_sets (C8.up (by decide)) z_tuple z_sorted z_len z_set g_MOST_SETS r_MOST_SETS
  exact ok_law (n := 6) F27 cfL ML G28 b28 g_Listed (by decide) mt29 (G29.mono (by decide)) b29 (C25.up (by decide)) (C15.up (by decide)) (C24.up (by decide)) (C17.up (by decide)) (C13.up (by decide)) (C23.up (by decide)) (C18.up (by decide)) (C26.up (by decide)) z_range
theorem walk {l : PySem.W.OpenLaw} {q : Program} {loose : List Str} {XP : (Str → Option Value) → Heap → Prop} {YP : World → Heap → Prop} {d : DefRec} {K : Params → PySem.W.Frag} (hn : l.most = some 63) (hdf : d.params.defaults = [])
    (hY : ∀ (w : World) (h : Heap), YP w h → (K w.params).In h)
    (F : ∀ (w : World) (mg : Str → Option Value) (fa : Addr) (h : Heap), (K w.params).In h → h.Ns mainGlobals mg → mg d.name = some (.ref fa) →
      ∃ fd : FuncData, (∀ (s : Shared) (u : Value), BindsTo s fd ⟨[u], []⟩ [("_law_script", u)]) ∧ ∀ base : Heap, (K w.params).In base → base.Ns mainGlobals mg → FnOk l.prog w (K w.params) mg base CX0 7 fa fd ["_law_script"] (spLaw33 (K w.params))) :
    PySem.W.WalkO q loose XP YP l.row.toRowW d [] (fun f vs => PySem.call f vs) :=
  L2.walk_of (n := 63) (k := 7) (x := "_law_script") (CX := fun _ => CX0) (sp := fun w => spLaw33 (K w.params)) hn (by decide) hdf ⟨rfl, by decide, by decide⟩ hY F (fun _ _ a ns hl _ hS => ⟨a, ns, rfl, hS, hl, fun _ => rfl⟩) fun _ _ _ _ _ z => z
end K33
open PySem PySem.W PyProof.Rows
set_option maxRecDepth 100000 in
set_option maxHeartbeats 0 in
theorem PySem.Challenge.cw_lidprice_k33_short_worths_holds : PySem.Challenge.rw_lidprice_k33_short_worths.Holds := by
  w_on; o_law; k_head; (case hw => w_witness2)
  k_fill
  refine K33.walk (l := PySem.Challenge.rw_lidprice_k33_short_worths) rfl rfl (fun w h Y => by first | exact PySem.W.kIn_of Y | exact PySem.W.km_in_of Y) ?F
  case F =>
    intro w mg fa h KX G hmg
    refine' K33.all_mk KX G hmg ?aC_Listed ?a1 ?l1 ?c1 ?k1 ?a2 ?l2 ?c2 ?k2 ?a3 ?l3 ?c3 ?k3 ?a4 ?l4 ?c4 ?k4 ?a5 ?l5 ?c5 ?k5 ?a6 ?l6 ?c6 ?k6 ?a7 ?l7 ?c7 ?k7 ?a8 ?l8 ?c8 ?k8 ?a9 ?l9 ?c9 ?k9 ?a10 ?l10 ?c10 ?k10 ?a11 ?l11 ?c11 ?k11 ?a12 ?l12 ?c12 ?k12 ?a13 ?l13 ?c13 ?k13 ?a14 ?l14 ?c14 ?k14 ?a15 ?l15 ?c15 ?k15 ?a16 ?l16 ?c16 ?k16 ?a17 ?l17 ?c17 ?k17 ?a18 ?l18 ?c18 ?k18 ?a19 ?l19 ?c19 ?k19 ?a20 ?l20 ?c20 ?k20 ?a21 ?l21 ?c21 ?k21 ?a22 ?l22 ?c22 ?k22 ?a23 ?l23 ?c23 ?k23 ?a24 ?l24 ?c24 ?k24 ?a25 ?l25 ?c25 ?k25 ?a26 ?l26 ?c26 ?k26 ?a27 ?l27 ?c27 ?k27 ?a28 ?i28 ?l28 ?c28 ?k28 ?a29 ?i29 ?l29 ?c29 ?k29 ?pgL ?hdL ?poL ?saL ?mkL ?kcL ?nkL_sets ?y_all ?y_any ?y_bool ?y_int ?y_isinstance ?y_len ?y_list ?y_max ?y_min ?y_range ?y_set ?y_sorted ?y_sum ?y_tuple ?yg_MOST_BOXES ?yg_MOST_SETS
    (case aC_Listed => first | k_is | kit_is | kernel_rfl)
    (case a1 => first | k_is | kit_is | kernel_rfl)
    (case l1 => first | k_is | kit_is | kernel_rfl)
    (case c1 => first | k_is | kit_is | kernel_rfl)
    (case k1 => first | k_is | kit_is | kernel_rfl)
    (case a2 => first | k_is | kit_is | kernel_rfl)
    (case l2 => first | k_is | kit_is | kernel_rfl)
    (case c2 => first | k_is | kit_is | kernel_rfl)
    (case k2 => first | k_is | kit_is | kernel_rfl)
    (case a3 => first | k_is | kit_is | kernel_rfl)
    (case l3 => first | k_is | kit_is | kernel_rfl)
    (case c3 => first | k_is | kit_is | kernel_rfl)
    (case k3 => first | k_is | kit_is | kernel_rfl)
    (case a4 => first | k_is | kit_is | kernel_rfl)
    (case l4 => first | k_is | kit_is | kernel_rfl)
    (case c4 => first | k_is | kit_is | kernel_rfl)
    (case k4 => first | k_is | kit_is | kernel_rfl)
    (case a5 => first | k_is | kit_is | kernel_rfl)
    (case l5 => first | k_is | kit_is | kernel_rfl)
    (case c5 => first | k_is | kit_is | kernel_rfl)
    (case k5 => first | k_is | kit_is | kernel_rfl)
    (case a6 => first | k_is | kit_is | kernel_rfl)
    (case l6 => first | k_is | kit_is | kernel_rfl)
    (case c6 => first | k_is | kit_is | kernel_rfl)
    (case k6 => first | k_is | kit_is | kernel_rfl)
    (case a7 => first | k_is | kit_is | kernel_rfl)
    (case l7 => first | k_is | kit_is | kernel_rfl)
    (case c7 => first | k_is | kit_is | kernel_rfl)
    (case k7 => first | k_is | kit_is | kernel_rfl)
    (case a8 => first | k_is | kit_is | kernel_rfl)
    (case l8 => first | k_is | kit_is | kernel_rfl)
    (case c8 => first | k_is | kit_is | kernel_rfl)
    (case k8 => first | k_is | kit_is | kernel_rfl)
    (case a9 => first | k_is | kit_is | kernel_rfl)
    (case l9 => first | k_is | kit_is | kernel_rfl)
    (case c9 => first | k_is | kit_is | kernel_rfl)
    (case k9 => first | k_is | kit_is | kernel_rfl)
    (case a10 => first | k_is | kit_is | kernel_rfl)
    (case l10 => first | k_is | kit_is | kernel_rfl)
    (case c10 => first | k_is | kit_is | kernel_rfl)
    (case k10 => first | k_is | kit_is | kernel_rfl)
    (case a11 => first | k_is | kit_is | kernel_rfl)
    (case l11 => first | k_is | kit_is | kernel_rfl)
    (case c11 => first | k_is | kit_is | kernel_rfl)
    (case k11 => first | k_is | kit_is | kernel_rfl)
    (case a12 => first | k_is | kit_is | kernel_rfl)
    (case l12 => first | k_is | kit_is | kernel_rfl)
    (case c12 => first | k_is | kit_is | kernel_rfl)
    (case k12 => first | k_is | kit_is | kernel_rfl)
    (case a13 => first | k_is | kit_is | kernel_rfl)
    (case l13 => first | k_is | kit_is | kernel_rfl)
    (case c13 => first | k_is | kit_is | kernel_rfl)
    (case k13 => first | k_is | kit_is | kernel_rfl)
    (case a14 => first | k_is | kit_is | kernel_rfl)
    (case l14 => first | k_is | kit_is | kernel_rfl)
    (case c14 => first | k_is | kit_is | kernel_rfl)
    (case k14 => first | k_is | kit_is | kernel_rfl)
    (case a15 => first | k_is | kit_is | kernel_rfl)
    (case l15 => first | k_is | kit_is | kernel_rfl)
    (case c15 => first | k_is | kit_is | kernel_rfl)
    (case k15 => first | k_is | kit_is | kernel_rfl)
    (case a16 => first | k_is | kit_is | kernel_rfl)
    (case l16 => first | k_is | kit_is | kernel_rfl)
    (case c16 => first | k_is | kit_is | kernel_rfl)
    (case k16 => first | k_is | kit_is | kernel_rfl)
    (case a17 => first | k_is | kit_is | kernel_rfl)
    (case l17 => first | k_is | kit_is | kernel_rfl)
    (case c17 => first | k_is | kit_is | kernel_rfl)
    (case k17 => first | k_is | kit_is | kernel_rfl)
    (case a18 => first | k_is | kit_is | kernel_rfl)
    (case l18 => first | k_is | kit_is | kernel_rfl)
    (case c18 => first | k_is | kit_is | kernel_rfl)
    (case k18 => first | k_is | kit_is | kernel_rfl)
    (case a19 => first | k_is | kit_is | kernel_rfl)
    (case l19 => first | k_is | kit_is | kernel_rfl)
    (case c19 => first | k_is | kit_is | kernel_rfl)
    (case k19 => first | k_is | kit_is | kernel_rfl)
    (case a20 => first | k_is | kit_is | kernel_rfl)
    (case l20 => first | k_is | kit_is | kernel_rfl)
    (case c20 => first | k_is | kit_is | kernel_rfl)
    (case k20 => first | k_is | kit_is | kernel_rfl)
    (case a21 => first | k_is | kit_is | kernel_rfl)
    (case l21 => first | k_is | kit_is | kernel_rfl)
    (case c21 => first | k_is | kit_is | kernel_rfl)
    (case k21 => first | k_is | kit_is | kernel_rfl)
    (case a22 => first | k_is | kit_is | kernel_rfl)
    (case l22 => first | k_is | kit_is | kernel_rfl)
    (case c22 => first | k_is | kit_is | kernel_rfl)
    (case k22 => first | k_is | kit_is | kernel_rfl)
    (case a23 => first | k_is | kit_is | kernel_rfl)
    (case l23 => first | k_is | kit_is | kernel_rfl)
    (case c23 => first | k_is | kit_is | kernel_rfl)
    (case k23 => first | k_is | kit_is | kernel_rfl)
    (case a24 => first | k_is | kit_is | kernel_rfl)
    (case l24 => first | k_is | kit_is | kernel_rfl)
    (case c24 => first | k_is | kit_is | kernel_rfl)
    (case k24 => first | k_is | kit_is | kernel_rfl)
    (case a25 => first | k_is | kit_is | kernel_rfl)
    (case l25 => first | k_is | kit_is | kernel_rfl)
    (case c25 => first | k_is | kit_is | kernel_rfl)
    (case k25 => first | k_is | kit_is | kernel_rfl)
    (case a26 => first | k_is | kit_is | kernel_rfl)
    (case l26 => first | k_is | kit_is | kernel_rfl)
    (case c26 => first | k_is | kit_is | kernel_rfl)
    (case k26 => first | k_is | kit_is | kernel_rfl)
    (case a27 => first | k_is | kit_is | kernel_rfl)
    (case l27 => first | k_is | kit_is | kernel_rfl)
    (case c27 => first | k_is | kit_is | kernel_rfl)
    (case k27 => first | k_is | kit_is | kernel_rfl)
    (case a28 => first | k_is | kit_is | kernel_rfl)
    (case i28 => first | k_is | kit_is | kernel_rfl)
    (case l28 => first | k_is | kit_is | kernel_rfl)
    (case c28 => first | k_is | kit_is | kernel_rfl)
    (case k28 => first | k_is | kit_is | kernel_rfl)
    (case a29 => first | k_is | kit_is | kernel_rfl)
    (case i29 => first | k_is | kit_is | kernel_rfl)
    (case l29 => first | k_is | kit_is | kernel_rfl)
    (case c29 => first | k_is | kit_is | kernel_rfl)
    (case k29 => first | k_is | kit_is | kernel_rfl)
    (case pgL => first | k_is | kit_is | kernel_rfl)
    (case hdL => first | k_is | kit_is | kernel_rfl)
    (case poL => first | k_is | kit_is | kernel_rfl)
    (case saL => first | k_is | kit_is | kernel_rfl)
    (case mkL => first | k_is | kit_is | kernel_rfl)
    (case kcL => first | k_is | kit_is | kernel_rfl)
    (case nkL_sets => first | k_is | kit_is | kernel_rfl)
    (case y_all => first | k_is | kit_is | kernel_rfl)
    (case y_any => first | k_is | kit_is | kernel_rfl)
    (case y_bool => first | k_is | kit_is | kernel_rfl)
    (case y_int => first | k_is | kit_is | kernel_rfl)
    (case y_isinstance => first | k_is | kit_is | kernel_rfl)
    (case y_len => first | k_is | kit_is | kernel_rfl)
    (case y_list => first | k_is | kit_is | kernel_rfl)
    (case y_max => first | k_is | kit_is | kernel_rfl)
    (case y_min => first | k_is | kit_is | kernel_rfl)
    (case y_range => first | k_is | kit_is | kernel_rfl)
    (case y_set => first | k_is | kit_is | kernel_rfl)
    (case y_sorted => first | k_is | kit_is | kernel_rfl)
    (case y_sum => first | k_is | kit_is | kernel_rfl)
    (case y_tuple => first | k_is | kit_is | kernel_rfl)
    (case yg_MOST_BOXES => first | k_is | kit_is | kernel_rfl)
    (case yg_MOST_SETS => first | k_is | kit_is | kernel_rfl)
