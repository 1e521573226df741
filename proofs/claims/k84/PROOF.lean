import PyProof.Rows.All
import Wide.All
import OpenK.AllK
import Wide.FinOn
import Lean
import PyProof.EqAt
import PyProof.EqKinds
import PyProof.TupleCall
import PyProof.NeKinds
import KE.IntBitsLaws
import KE.KRevIter
import KE.KSortKey
import KE.KLam
import KE.KNestM
import KE.KDictList
import PyProof.ZipIter
import PyProof.Rows.Range3
import PyProof.CollectWalk
import PyProof.ListNew
import PyProof.Rows.TupIter
import PyProof.Draws
import PyProof.EnumFor
import KE.KDictSum
import PyProof.ConsumeWalk
import KE.KUnpack
import PyProof.Rows.SetFrom
import PyProof.FactsAll.set_1
import PySem.Challenge.RW_lidprice_k84_ranks_refused
set_option Elab.async false
set_option linter.all false
set_option maxRecDepth 100000
namespace L2
open PySem PySem.Spec PyProof.Rows
abbrev Key := Sum Int Str
def keyIs : Key → Value → Bool
  | .inl k, v => Value.isInt k v
  | .inr x, v => Value.isStrOf x v
def keyH (w : World) : Key → Int
  | .inl k => hashInt k
  | .inr x => hashStr w x
theorem keyIs_shape : ∀ {k : Key} {v : Value}, keyIs k v = true → (∃ i t, k = Sum.inl i ∧ v = Value.int i t) ∨ (∃ x t, k = Sum.inr x ∧ v = Value.str x t)
  | .inl i, v, h => by
    obtain ⟨t, e⟩ := Value.isInt_shape (k := i) (v := v) h
    exact .inl ⟨i, t, rfl, e⟩
  | .inr x, v, h => by
    obtain ⟨t, e⟩ := Value.isStrOf_shape (x := x) (v := v) h
    exact .inr ⟨x, t, rfl, e⟩
theorem key_ll (a b : Int) : decide ((Sum.inl a : Key) = Sum.inl b) = (a == b) := by
  by_cases e : a = b
  · subst e; simp
  · have h : ¬ (Sum.inl a : Key) = Sum.inl b := fun q => e (Sum.inl.inj q)
    rw [decide_eq_false h]
    exact (beq_eq_false_iff_ne.mpr e).symm
theorem key_rr (a b : Str) : decide ((Sum.inr a : Key) = Sum.inr b) = decide (a = b) := by
  by_cases e : a = b
  · subst e; simp
  · have h : ¬ (Sum.inr a : Key) = Sum.inr b := fun q => e (Sum.inr.inj q)
    rw [decide_eq_false h, decide_eq_false e]
theorem key_lr (a : Int) (b : Str) : decide ((Sum.inl a : Key) = Sum.inr b) = false := decide_eq_false (fun q => nomatch q)
theorem key_rl (a : Str) (b : Int) : decide ((Sum.inr a : Key) = Sum.inl b) = false := decide_eq_false (fun q => nomatch q)
def mixKind (prog : Program) (w : World) : PySem.KeyKind prog w Key where
  is := keyIs
  hash := keyH w
  inj := fun v a b ha hb => by
    rcases keyIs_shape ha with ⟨i, t, rfl, rfl⟩ | ⟨x, t, rfl, rfl⟩
    · rcases keyIs_shape hb with ⟨j, u, rfl, e⟩ | ⟨y, u, rfl, e⟩
      · injection e with e1 _; rw [e1]
      · exact nomatch e
    · rcases keyIs_shape hb with ⟨j, u, rfl, e⟩ | ⟨y, u, rfl, e⟩
      · exact nomatch e
      · injection e with e1 _; rw [e1]
  byValue := fun k v h => by
    rcases keyIs_shape h with ⟨i, t, rfl, rfl⟩ | ⟨x, t, rfl, rfl⟩ <;> rfl
  pyHash := fun hv h => by
    rcases keyIs_shape hv with ⟨i, t, rfl, rfl⟩ | ⟨x, t, rfl, rfl⟩
    · exact wpAny_pyHash_int h
    · exact wpAny_pyHash_str h
  eqBool := fun hu hv h => by
    rcases keyIs_shape hu with ⟨i, t, rfl, rfl⟩ | ⟨x, t, rfl, rfl⟩
    · rcases keyIs_shape hv with ⟨j, u, rfl, rfl⟩ | ⟨y, u, rfl, rfl⟩
      · rw [key_ll] at h; exact wpAny_eqBool_int h
      · rw [key_lr] at h; exact SeqAt.EqAt.int_str i t y u _ _ _ _ h
    · rcases keyIs_shape hv with ⟨j, u, rfl, rfl⟩ | ⟨y, u, rfl, rfl⟩
      · rw [key_rl] at h; exact SeqAt.EqAt.str_int x t j u _ _ _ _ h
      · rw [key_rr] at h; exact wpAny_eqBool_str h
  «strs» := fun k x t v h => by
    rcases keyIs_shape h with ⟨i, u, rfl, e⟩ | ⟨y, u, rfl, e⟩
    · exact nomatch e
    · injection e with e1 _
      subst e1
      cases v <;> rfl
end L2
namespace L2
open PySem PySem.Spec PyProof.Rows
inductive V where
  | non | bl (b : Bool) | int (i : Int) | str (x : Str) | byt (b : Array UInt8) | flt (b : UInt64) | ref (a : Addr) | ty (n : String)
  deriving DecidableEq
def RelV : V → Value → Prop
  | .non, u => u = Value.none
  | .bl b, u => u = Value.bool b
  | .int i, u => ∃ t, u = Value.int i t
  | .str x, u => ∃ t, u = Value.str x t
  | .byt b, u => ∃ t, u = Value.bytes b t
  | .flt b, u => ∃ t, u = Value.float b t
  | .ref a, u => u = Value.ref a
  | .ty n, u => u = Value.type n
abbrev Vals : List V → List Value → Prop := Paired RelV
theorem Vals.length {xs : List V} {us : List Value} (r : Vals xs us) : xs.length = us.length := Paired.length r
theorem Vals.get : ∀ {xs : List V} {us : List Value} {i : Nat} {x : V}, Vals xs us → xs[i]? = some x → ∃ u, us[i]? = some u ∧ RelV x u
  | _, _, _, _, .nil, e => by simp at e
  | _, _, 0, _, .cons r _, e => by simp at e; subst e; exact ⟨_, rfl, r⟩
  | _, _, i + 1, x, .cons _ t, e => by
    obtain ⟨u, h1, h2⟩ := Vals.get (i := i) (x := x) t (by simpa using e)
    exact ⟨u, by simpa using h1, h2⟩
theorem Vals.set {x : V} {u : Value} (r : RelV x u) : ∀ {xs : List V} {us : List Value} (i : Nat), Vals xs us → Vals (xs.set i x) (us.set i u)
  | _, _, _, .nil => .nil
  | _, _, 0, .cons _ t => .cons r t
  | _, _, i + 1, .cons q t => .cons q (Vals.set r i t)
theorem Vals.append : ∀ {xs ys : List V} {us ws : List Value}, Vals xs us → Vals ys ws → Vals (xs ++ ys) (us ++ ws)
  | _, _, _, _, .nil, s => s
  | _, _, _, _, .cons r t, s => .cons r (Vals.append t s)
theorem Vals.take : ∀ {xs : List V} {us : List Value} (n : Nat), Vals xs us → Vals (xs.take n) (us.take n)
  | _, _, 0, _ => .nil
  | _, _, _ + 1, .nil => .nil
  | _, _, n + 1, .cons r t => .cons r (Vals.take n t)
theorem Vals.drop : ∀ {xs : List V} {us : List Value} (n : Nat), Vals xs us → Vals (xs.drop n) (us.drop n)
  | _, _, 0, r => r
  | _, _, _ + 1, .nil => .nil
  | _, _, n + 1, .cons _ t => Vals.drop n t
def RelO : Option V → Option Value → Prop
  | some v, some u => RelV v u
  | none, none => True
  | _, _ => False
def KV {κ : Type} : List (κ × V) → List (κ × Value) → Prop := Paired fun (p : κ × V) (q : κ × Value) => p.1 = q.1 ∧ RelV p.2 q.2
def kV : Key → V
  | .inl i => .int i
  | .inr x => .str x
inductive HO where
  | lst (xs : List V)
  | tup (xs : List V)
  | dK (kvs : List (Key × V)) | dT (kvs : List (List Key × V))
  | set (S : Int → Bool) (n : Nat)
  | ins (C dx : Addr) (fs : List (Str × V))
  | own (x : Addr)
  | xd (fs : List (Str × V))
  | met (f x : Addr)
  | rng (lo hi : Int)
  | frz (o : Obj) (u : HO)
  | tbl (ps : Array Value)
  | ext (φ : Heap → Prop)
abbrev Hp := Addr → Option HO
def upd (H : Hp) (a : Addr) (o : HO) : Hp := fun b => if b = a then some o else H b
theorem upd_same {H : Hp} {a : Addr} {o : HO} : upd H a o a = some o := by unfold upd; rw [if_pos rfl]
theorem upd_ne {H : Hp} {a b : Addr} {o : HO} (h : b ≠ a) : upd H a o b = H b := by unfold upd; rw [if_neg h]
theorem ne_of {H : Hp} {a b : Addr} {o u : HO} (h : H a = some o) (h' : H b = some u) (d : o ≠ u) : a ≠ b := by
  intro e; subst e; rw [h] at h'; exact d (Option.some.inj h')
theorem ne_of_none {H : Hp} {a b : Addr} {o : HO} (h : H a = some o) (h' : H b = none) : a ≠ b := by
  intro e; subst e; rw [h] at h'; cases h'
section
variable (P : Program) (w : World)
def ObjOk (H : Hp) (h : Heap) (a : Addr) : HO → Prop
  | .lst xs => xs.length ≤ sizeLine ∧ ∃ (its : List Value) (n : Nat), Vals xs its ∧ h.get? a = some { cls := .type "list", data := .seq its.toArray n }
  | .tup xs => xs.length ≤ sizeLine ∧ ∃ its : List Value, Vals xs its ∧ IsTup h a its.toArray
  | .dK kvs => kvs.length ≤ sizeLine ∧ (a == sysModules) = false ∧ ∃ vs, KV kvs vs ∧ h.DictOf (mixKind P w) a vs
  | .dT kvs => kvs.length ≤ sizeLine ∧ (a == sysModules) = false ∧ ∃ xs : List (List Key × Addr × Value),
      Paired (fun (p : List Key × V) (q : List Key × Addr × Value) => p.1 = q.1 ∧ H q.2.1 = some (.tup (p.1.map kV)) ∧ RelV p.2 q.2.2) kvs xs ∧
      ∃ o es ep, h.get? a = some o ∧ o.ExactDict ∧ o.data = .dict es ep ∧ es.toList = xs.map (entryOfKey (tupleKind (mixKind P w))) ∧ (xs.map (·.1)).Nodup
  | .set S n => h.SetOf (intKind P w) a S n
  | .ins C dx fs => H dx = some (.own a) ∧ fs.length ≤ 1000 ∧ dx ≠ a ∧ h.get? a = some (PySem.W.instObj C dx) ∧
      ∃ mA, h.Ns1 dx mA ∧ (∀ f, RelO (fs.lookup f) (mA f)) ∧ PySem.Within mA (fs.map (·.1))
  | .own _ => ∃ o, h.get? a = some o
  | .xd fs => ∃ mA, h.Ns1 a mA ∧ ∀ f, RelO (fs.lookup f) (mA f)
  | .rng lo hi => ∃ t u v, h.get? a = some { cls := .type "range", data := .fields #[.int lo t, .int hi u, .int 1 v] }
  | .frz o u => h.get? a = some o ∧ ObjOk H h a u
  | .tbl ps => h.get? a = some { cls := .none, data := .fields ps }
  | .met f x => h.get? a = some (PySem.W.methodObj (.ref f) (.ref x))
  | .ext φ => φ h ∧ (∃ o, h.get? a = some o) ∧ ∀ h1 h2 : Heap, φ h1 → (∀ o, h1.get? a = some o → h2.get? a = some o) → φ h2
def HOk (H : Hp) (h : Heap) : Prop := ∀ a o, H a = some o → ObjOk P w H h a o
end
section
variable {P : Program} {w : World} {H H' : Hp} {h h' : Heap} {a : Addr} {o : HO}
theorem ObjOk.lt (x : ObjOk P w H h a o) : a < h.objs.size := by
  cases o with
  | lst xs => obtain ⟨_, _, _, _, e⟩ := x; exact Heap.lt_size e
  | tup xs => obtain ⟨_, _, _, p⟩ := x; exact p.lt
  | dK kvs => obtain ⟨_, _, _, _, o, _, _, e, _⟩ := x; exact Heap.lt_size e
  | dT kvs => obtain ⟨_, _, _, _, o, _, _, e, _⟩ := x; exact Heap.lt_size e
  | set S n => obtain ⟨o, _, _, _, e, _⟩ := x; exact Heap.lt_size e
  | ins C dx fs => obtain ⟨_, _, _, e, _⟩ := x; exact Heap.lt_size e
  | own y => obtain ⟨_, e⟩ := x; exact Heap.lt_size e
  | xd fs => obtain ⟨_, ⟨_, _, _, e, _⟩, _⟩ := x; exact Heap.lt_size e
  | rng lo hi => obtain ⟨_, _, _, e⟩ := x; exact Heap.lt_size e
  | frz ob u => obtain ⟨e, _⟩ := x; exact Heap.lt_size e
  | tbl ps => exact Heap.lt_size (show h.get? a = some _ from x)
  | met f y => exact Heap.lt_size (show h.get? a = some _ from x)
  | ext φ => obtain ⟨_, ⟨_, e⟩, _⟩ := x; exact Heap.lt_size e
theorem Paired.mapP {α β : Type} {F G : α → β → Prop} : ∀ {l₁ : List α} {l₂ : List β}, Paired F l₁ l₂ → (∀ a b, F a b → G a b) → Paired G l₁ l₂
  | _, _, .nil, _ => .nil
  | _, _, .cons r t, f => .cons (f _ _ r) (Paired.mapP t f)
theorem ObjOk.stay (x : ObjOk P w H h a o) (k : ∀ b u, (b = a ∨ H b = some (.own a)) → h.get? b = some u → h'.get? b = some u)
    (ho : ∀ b, H b = some (.own a) → H' b = some (.own a)) (ht : ∀ b xs, H b = some (.tup xs) → H' b = some (.tup xs)) : ObjOk P w H' h' a o := by
  induction o with
  | lst xs => obtain ⟨z, its, n, r, e⟩ := x; exact ⟨z, its, n, r, k _ _ (.inl rfl) e⟩
  | tup xs => obtain ⟨z, its, r, ob, e, c⟩ := x; exact ⟨z, its, r, ob, k _ _ (.inl rfl) e, c⟩
  | dK kvs => obtain ⟨z, y, vs, r, ob, es, ep, e, c⟩ := x; exact ⟨z, y, vs, r, ob, es, ep, k _ _ (.inl rfl) e, c⟩
  | dT kvs =>
    obtain ⟨z, y, xs, r, ob, es, ep, e, c⟩ := x
    exact ⟨z, y, xs, Paired.mapP r fun p q z => ⟨z.1, ht _ _ z.2.1, z.2.2⟩, ob, es, ep, k _ _ (.inl rfl) e, c⟩
  | set S n => obtain ⟨ob, es, ep, t, e, c⟩ := x; exact ⟨ob, es, ep, t, k _ _ (.inl rfl) e, c⟩
  | ins C dx fs =>
    obtain ⟨d, z, ne, e, mA, ⟨od, es, ep, e2, c⟩, r⟩ := x
    exact ⟨ho _ d, z, ne, k _ _ (.inl rfl) e, mA, ⟨od, es, ep, k _ _ (.inr d) e2, c⟩, r⟩
  | own y => obtain ⟨ob, e⟩ := x; exact ⟨ob, k _ _ (.inl rfl) e⟩
  | xd fs => obtain ⟨mA, ⟨od, es, ep, e, c⟩, r⟩ := x; exact ⟨mA, ⟨od, es, ep, k _ _ (.inl rfl) e, c⟩, r⟩
  | rng lo hi => obtain ⟨t, u, v, e⟩ := x; exact ⟨t, u, v, k _ _ (.inl rfl) e⟩
  | frz ob u ih => obtain ⟨e, q⟩ := x; exact ⟨k _ _ (.inl rfl) e, ih q⟩
  | tbl ps =>
    have e : h.get? a = some { cls := .none, data := .fields ps } := x
    show h'.get? a = some { cls := .none, data := .fields ps }
    exact k a _ (.inl rfl) e
  | met f y =>
    have e : h.get? a = some (PySem.W.methodObj (.ref f) (.ref y)) := x
    show h'.get? a = some (PySem.W.methodObj (.ref f) (.ref y))
    exact k a _ (.inl rfl) e
  | ext φ => obtain ⟨p, ⟨o, e⟩, st⟩ := x; exact ⟨st _ _ p fun o q => k _ _ (.inl rfl) q, ⟨o, k _ _ (.inl rfl) e⟩, st⟩
theorem HOk.lt (x : HOk P w H h) (e : H a = some o) : a < h.objs.size := (x a o e).lt
theorem HOk.fresh (x : HOk P w H h) (e : h.objs.size ≤ a) : H a = none := by
  cases q : H a with
  | none => rfl
  | some u => exact absurd (Nat.lt_of_lt_of_le (x.lt q) e) (Nat.lt_irrefl _)
theorem HOk.kept (x : HOk P w H h) (k : ∀ b u, h.get? b = some u → h'.get? b = some u) : HOk P w H h' := fun a o e =>
  (x a o e).stay (fun b u _ q => k b u q) (fun _ q => q) fun _ _ q => q
theorem HOk.laid (x : HOk P w H h) (k : ∀ b u, h.get? b = some u → h'.get? b = some u) (hp : h.objs.size ≤ a) (new : ObjOk P w (upd H a o) h' a o) : HOk P w (upd H a o) h' := fun b u e => by
  have hn := x.fresh hp
  by_cases hb : b = a
  · subst hb; rw [upd_same] at e; cases e; exact new
  · rw [upd_ne hb] at e
    exact (x b u e).stay (fun c v _ q => k c v q) (fun c q => by rw [upd_ne (ne_of_none q hn)]; exact q) fun c xs q => by rw [upd_ne (ne_of_none q hn)]; exact q
end
def Rd (H : Hp) (a : Addr) (u : HO) : Prop := H a = some u ∨ ∃ o, H a = some (.frz o u)
theorem Rd.of {H : Hp} {a : Addr} {u : HO} (h : H a = some u) : Rd H a u := .inl h
theorem Rd.ok {P : Program} {w : World} {H : Hp} {h : Heap} {a : Addr} {u : HO} (r : Rd H a u) (x : HOk P w H h) : ObjOk P w H h a u := by
  rcases r with r | ⟨o, r⟩
  · exact x a u r
  · obtain ⟨_, q⟩ := x a _ r
    exact q
def Mut : Option HO → Prop
  | some (.lst _) => True
  | some (.dK _) => True
  | some (.dT _) => True
  | some (.set _ _) => True
  | some (.ins _ _ _) => True
  | some (.ext _) => True
  | _ => False
section
variable {P : Program} {w : World} {H : Hp} {h h' : Heap} {x e : Addr} {o' : HO}
theorem HOk.write (ok : HOk P w H h) (mu : Mut (H x)) (he : e = x ∨ H e = some (.own x)) (k : ∀ b u, b ≠ e → h.get? b = some u → h'.get? b = some u) (heo : ∃ u, h'.get? e = some u)
    (new : ObjOk P w (upd H x o') h' x o') : HOk P w (upd H x o') h' := fun b u q => by
  have nown : ∀ c y, H c = some (.own y) → c ≠ x := fun c y r z => by subst z; rw [r] at mu; exact mu
  have ntup : ∀ c xs, H c = some (.tup xs) → c ≠ x := fun c xs r z => by subst z; rw [r] at mu; exact mu
  by_cases hb : b = x
  · subst hb; rw [upd_same] at q; cases q; exact new
  · rw [upd_ne hb] at q
    by_cases hbe : b = e
    · have q' : H b = some (.own x) := by
        rcases he with z | z
        · exact absurd (hbe.trans z) hb
        · rw [hbe]; exact z
      rw [q] at q'; cases q'
      obtain ⟨v, hv⟩ := heo
      exact ⟨v, by rw [hbe]; exact hv⟩
    · refine (ok b u q).stay (fun c v hc r => k c v ?_ r) (fun c r => by rw [upd_ne (nown c b r)]; exact r) fun c xs r => by rw [upd_ne (ntup c xs r)]; exact r
      rcases hc with rfl | hc
      · exact hbe
      · rintro rfl
        rcases he with z | z
        · exact nown c b hc z
        · rw [hc] at z; cases z; exact hb rfl
end
structure Un (fs ex : List Addr) (H H' : Hp) (h h' : Heap) : Prop where
  keep : ∀ b o, h.get? b = some o → H b = none → b ∉ fs → b ∉ ex → h'.get? b = some o
  slot : ∀ b o, h.get? b = some o → H b = none → b ∈ fs → b ∉ ex → ∃ sl, h'.get? b = some { o with slots := sl }
  free : ∀ b o, h.get? b = some o → H b = none → b ∉ ex → H' b = none
  there : ∀ b o, h.get? b = some o → b ∉ ex → ∃ o', h'.get? b = some o'
  tups : ∀ b xs, H b = some (.tup xs) → H' b = some (.tup xs)
  frzs : ∀ b o u, H b = some (.frz o u) → H' b = some (.frz o u)
  tbls : ∀ b ps, H b = some (.tbl ps) → ∃ more, H' b = some (.tbl (ps ++ more))
section
variable {fs fs' ex ex' : List Addr} {H H1 H2 : Hp} {h h1 h2 h' : Heap} {a x e : Addr} {o : HO}
theorem Un.any (u : Un fs ex H H1 h h1) {b : Addr} {ob : Obj} (q : h.get? b = some ob) (n : H b = none) (hx : b ∉ ex) : ∃ sl, h1.get? b = some { ob with slots := sl } := by
  by_cases hb : b ∈ fs
  · exact u.slot b ob q n hb hx
  · exact ⟨ob.slots, u.keep b ob q n hb hx⟩
theorem Un.trans (a : Un fs ex H H1 h h1) (b : Un fs ex H1 H2 h1 h2) : Un fs ex H H2 h h2 where
  keep := fun c ob q n hc hx => b.keep c ob (a.keep c ob q n hc hx) (a.free c ob q n hx) hc hx
  slot := fun c ob q n hc hx => by
    obtain ⟨sl, e1⟩ := a.slot c ob q n hc hx
    obtain ⟨sl', e2⟩ := b.slot c _ e1 (a.free c ob q n hx) hc hx
    exact ⟨sl', e2⟩
  free := fun c ob q n hx => by
    obtain ⟨o', e1⟩ := a.there c ob q hx
    exact b.free c o' e1 (a.free c ob q n hx) hx
  there := fun c ob q hx => by
    obtain ⟨o', e1⟩ := a.there c ob q hx
    exact b.there c o' e1 hx
  tups := fun c xs q => b.tups c xs (a.tups c xs q)
  frzs := fun c ob xs q => b.frzs c ob xs (a.frzs c ob xs q)
  tbls := fun c ps q => by
    obtain ⟨m1, e1⟩ := a.tbls c ps q
    obtain ⟨m2, e2⟩ := b.tbls c _ e1
    exact ⟨m1 ++ m2, by rw [e2, Array.append_assoc]⟩
theorem Un.kept (k : ∀ b u, h.get? b = some u → h'.get? b = some u) : Un fs ex H H h h' :=
  ⟨fun b ob q _ _ _ => k b ob q, fun b ob q _ _ _ => ⟨ob.slots, k b ob q⟩, fun _ _ _ n _ => n, fun b ob q _ => ⟨ob, k b ob q⟩, fun _ _ q => q, fun _ _ _ q => q, fun _ ps q => ⟨#[], by rw [q]; simp⟩⟩
theorem Un.refl : Un fs ex H H h h := Un.kept fun _ _ q => q
theorem Un.laid (k : ∀ b u, h.get? b = some u → h'.get? b = some u) (hp : h.objs.size ≤ a) (hn : H a = none) : Un fs ex H (upd H a o) h h' where
  keep := fun b u q _ _ _ => k b u q
  slot := fun b u q _ _ _ => ⟨u.slots, k b u q⟩
  free := fun b u q n _ => by rw [upd_ne (Nat.ne_of_lt (Nat.lt_of_lt_of_le (Heap.lt_size q) hp))]; exact n
  there := fun b u q _ => ⟨u, k b u q⟩
  tups := fun b xs q => by rw [upd_ne (ne_of_none q hn)]; exact q
  frzs := fun b u xs q => by rw [upd_ne (ne_of_none q hn)]; exact q
  tbls := fun b ps q => ⟨#[], by rw [upd_ne (ne_of_none q hn), q]; simp⟩
theorem Un.write (mu : Mut (H x)) (he : e = x ∨ H e = some (.own x)) (k : ∀ b u, b ≠ e → h.get? b = some u → h'.get? b = some u) (heo : ∃ u, h'.get? e = some u) : Un fs ex H (upd H x o) h h' := by
  have hx : ∀ b, H b = none → b ≠ x := fun b n z => by subst z; rw [n] at mu; exact mu
  have hb : ∀ b, H b = none → b ≠ e := fun b n z => by
    subst z
    rcases he with r | r
    · exact hx b n r
    · rw [n] at r; cases r
  have hm : ∀ b u, H b = some u → ¬ Mut (some u) → b ≠ x := fun b u q nm z => by subst z; rw [q] at mu; exact nm mu
  refine ⟨fun b u q n _ _ => k b u (hb b n) q, fun b u q n _ _ => ⟨u.slots, k b u (hb b n) q⟩, fun b u q n _ => by rw [upd_ne (hx b n)]; exact n, fun b u q _ => ?_,
    fun b xs q => by rw [upd_ne (hm b _ q fun z => z)]; exact q, fun b u xs q => by rw [upd_ne (hm b _ q fun z => z)]; exact q, fun b ps q => ⟨#[], by rw [upd_ne (hm b _ q fun z => z), q]; simp⟩⟩
  by_cases hbe : b = e
  · subst hbe; exact heo
  · exact ⟨u, k b u hbe q⟩
theorem Un.mono (u : Un fs ex H H1 h h1) (hs : ∀ b ∈ fs, b ∈ fs') (hx : ∀ b ∈ ex, b ∈ ex') : Un fs' ex' H H1 h h1 :=
  ⟨fun b ob q n hb he => u.keep b ob q n (fun z => hb (hs b z)) fun z => he (hx b z), fun _ _ q n _ he => u.any q n fun z => he (hx _ z), fun b ob q n he => u.free b ob q n fun z => he (hx b z), fun b ob q he => u.there b ob q fun z => he (hx b z), u.tups, u.frzs, u.tbls⟩
end
def trk (h : Heap) (H : Hp) : List Addr := (List.range h.objs.size).filter fun a => (H a).isSome
def hidT (h : Heap) (H : Hp) : Heap := PySem.W.hideAll h (trk h H)
theorem hidT_size (h : Heap) (H : Hp) : (hidT h H).objs.size = h.objs.size := PySem.W.hideAll_size _ _
theorem hidT_get {h : Heap} {H : Hp} {b : Addr} {o : Obj} (e : h.get? b = some o) (n : H b = none) : (hidT h H).get? b = some o :=
  PySem.W.hideAll_get _ e fun hm => by
    have q : (H b).isSome = true := (List.mem_filter.mp hm).2
    rw [n] at q; simp at q
theorem of_hidT {h : Heap} {H : Hp} {b : Addr} {o : Obj} (e : (hidT h H).get? b = some o) : h.get? b = some o ∧ H b = none := by
  have e' : h.get? b = some o := PySem.W.of_hideAll (trk h H) e
  refine ⟨e', ?_⟩
  cases q : H b with
  | none => rfl
  | some x =>
    have hm : b ∈ trk h H := List.mem_filter.mpr ⟨List.mem_range.mpr (Heap.lt_size e'), by simp [q]⟩
    have z : (hidT h H).get? b = none := PySem.W.hideAll_none (trk h H) hm
    rw [z] at e; cases e
def allNews (g h : Heap) (L : Addr) : List (Addr × Obj) := (List.range h.objs.size).filterMap fun a => if a = L ∨ (g.get? a).isSome = true then none else (h.get? a).map fun o => (a, o)
def rest (g h : Heap) (L d : Addr) : List (Addr × Obj) := (allNews g h L).filter fun p => decide (p.1 ≠ d)
end L2
namespace L2
open PySem PySem.Spec PyProof.Rows
structure Mod (K : PySem.W.Frag) (mg : Str → Option Value) (base : Heap) : Prop where
  kin : K.In base
  glob : base.Ns mainGlobals mg
  blt : ∃ mb, base.Ns builtinsNs mb ∧ ∀ x : Str, x ≠ "__name__" → mb x = bootBuiltins x
  nolimit : base.NoLimit
structure Cx where
  prog : Program
  w : World
  K : PySem.W.Frag
  mg : Str → Option Value
  base : Heap
  A : Around
  N : List Str
  s₀ : Shared
  H₀ : Hp
  env : Env
  outer : List Env
  stack : List Env
  ex : List Addr
  fn : Str → Bool
  calm : Bool
  pn : List (Addr × Obj)
  xe : Value → Shared → Prop
def frs (l : List Env) : List Addr := l.filterMap (·.frame)
abbrev Cx.fs (X : Cx) : List Addr := frs X.outer
def Vis (sc : Scope) (x : Str) : Prop := sc.names.lookup x = some .local ∨ sc.names.lookup x = some .cell ∨ sc.names.lookup x = some .free
def Loc (sc : Scope) (x : Str) : Prop := sc.names.lookup x = some .local ∨ sc.names.lookup x = some .cell
def Look (env : Env) (h : Heap) (m : Str → Option Value) (x : Str) (u : Value) : Prop :=
  (env.kindOf x = some .local ∧ m x = some u) ∨ ((env.kindOf x = some .cell ∨ env.kindOf x = some .free) ∧ ∃ c, env.cells.lookup x = some c ∧ h.IsCell c (some u))
structure Cx.Ok (X : Cx) : Prop where
  mod : Mod X.K X.mg X.base
  kind : X.env.scope.kind = .function
  glob : X.env.globals = mainGlobals
  blt : X.env.builtins = builtinsNs
  above : X.s₀.heap.objs.size ≤ X.env.locals
  inj : ∀ x y c, X.env.cells.lookup x = some c → X.env.cells.lookup y = some c → x = y
  has : ∀ x, (X.env.kindOf x = some .cell ∨ X.env.kindOf x = some .free) → ∃ c, X.env.cells.lookup x = some c
  cab : ∀ x c, X.fn x = true → X.env.cells.lookup x = some c → X.s₀.heap.objs.size ≤ c
  hd : X.calm = true → X.A.handled = none
  frames : X.A.frames = some X.stack
  stk : X.stack = X.outer ∨ (X.stack = X.env :: X.outer ∧ X.env.frame = some X.env.locals)
  exf : ∀ b ∈ X.ex, b ≠ X.env.locals ∧ ∀ x c, X.env.cells.lookup x = some c → c ≠ b
  bs : ∀ b o, X.base.get? b = some o → X.s₀.heap.get? b = some o ∧ X.H₀ b = none
  bsz : X.base.objs.size ≤ X.s₀.heap.objs.size
  noex : ∀ b o, X.base.get? b = some o → b ∉ X.ex
  exfs : ∀ b ∈ X.ex, b ∉ X.fs
  funs : X.s₀.heap.FunFrames X.base X.outer
  frf : ∀ b ∈ X.fs, X.H₀ b = none
structure Inv (X : Cx) (pins : List (Addr × Obj)) (σ : List (Option V)) (H : Hp) (s : Shared) : Prop where
  ok : X.Ok
  os : s.os = X.s₀.os
  bare : AllBare s.gens
  base : Un X.fs X.ex X.H₀ H X.s₀.heap s.heap
  loc : ∃ m, s.heap.Ns X.env.locals m ∧ ∀ (i : Nat) (x : Str) (v : V), X.N[i]? = some x → σ[i]? = some (some v) → Vis X.env.scope x → ∃ u, RelV v u ∧ Look X.env s.heap m x u
  cell : ∀ x c, X.env.cells.lookup x = some c → ∃ v, s.heap.IsCell c v
  free : H X.env.locals = none
  freeC : ∀ x c, X.env.cells.lookup x = some c → H c = none
  pin : ∀ p ∈ X.pn ++ pins, s.heap.get? p.1 = some p.2 ∧ H p.1 = none ∧ p.1 ≠ X.env.locals ∧ p.1 ∉ X.fs ∧ ∀ v, p.2.data ≠ .cell v
  hok : HOk X.prog X.w H s.heap
  len : σ.length = X.N.length
section
variable {X : Cx} {pins : List (Addr × Obj)} {σ : List (Option V)} {H H' : Hp} {s : Shared} {h' : Heap}
theorem Cx.Ok.nofr (ok : X.Ok) {b : Addr} {o : Obj} (e : X.base.get? b = some o) : b ∉ X.fs := fun hb => by
  have := (ok.funs.mem hb).1
  rw [e] at this; cases this
theorem Inv.bs (I : Inv X pins σ H s) : ∀ b o, X.base.get? b = some o → s.heap.get? b = some o ∧ H b = none := fun b o e =>
  ⟨I.base.keep b o (I.ok.bs b o e).1 (I.ok.bs b o e).2 (I.ok.nofr e) (I.ok.noex b o e), I.base.free b o (I.ok.bs b o e).1 (I.ok.bs b o e).2 (I.ok.noex b o e)⟩
theorem Inv.bk (I : Inv X pins σ H s) : ∀ b o, X.base.get? b = some o → s.heap.get? b = some o := fun b o e => (I.bs b o e).1
theorem Inv.mod (I : Inv X pins σ H s) : Mod X.K X.mg X.base := I.ok.mod
theorem Inv.kIn (I : Inv X pins σ H s) : X.K.In s.heap := I.ok.mod.kin.keeps I.bk
theorem Inv.nolimit (I : Inv X pins σ H s) : s.heap.NoLimit := I.ok.mod.nolimit.keeps I.bk
theorem Inv.fr (I : Inv X pins σ H s) : ∃ m, Fr X.base X.env.locals s.heap m :=
  let ⟨m, hn, _⟩ := I.loc
  ⟨m, hn, I.bk, Nat.le_trans I.ok.bsz I.ok.above⟩
theorem Inv.lt (I : Inv X pins σ H s) : X.env.locals < s.heap.objs.size := let ⟨_, hn, _⟩ := I.loc; hn.lt
theorem Inv.sz (I : Inv X pins σ H s) : X.s₀.heap.objs.size ≤ s.heap.objs.size := Nat.le_trans I.ok.above (Nat.le_of_lt I.lt)
theorem Inv.nofs (I : Inv X pins σ H s) {a : Addr} (h : s.heap.objs.size ≤ a) : a ∉ X.fs := fun hb => by
  obtain ⟨_, o, ho, _⟩ := I.ok.funs.mem hb
  exact absurd (Nat.lt_of_lt_of_le (Heap.lt_size ho) (Nat.le_trans I.sz h)) (Nat.lt_irrefl _)
theorem Inv.cne (I : Inv X pins σ H s) : ∀ x c, X.env.cells.lookup x = some c → c ≠ X.env.locals := fun x c e z => by
  obtain ⟨v, o, ho, hd⟩ := I.cell x c e
  obtain ⟨m, ⟨o', es, ep, ho', hd', _⟩, _⟩ := I.loc
  rw [z, ho'] at ho; cases ho; rw [hd'] at hd; cases hd
theorem Inv.funs (I : Inv X pins σ H s) : s.heap.FunFrames X.base X.outer := by
  have all : ∀ (l : List Env), (∀ b ∈ frs l, b ∈ X.fs) → X.s₀.heap.FunFrames X.base l → s.heap.FunFrames X.base l := by
    intro l
    induction l with
    | nil => intro _ _; trivial
    | cons env r ih =>
      intro hs hl
      obtain ⟨hk, ⟨L, o, hf, hn, ho, hd⟩, hr⟩ := hl
      have hL : L ∈ X.fs := hs L (by unfold frs; rw [List.filterMap_cons, hf]; exact List.mem_cons_self)
      obtain ⟨sl, e⟩ := I.base.slot L o ho (I.ok.frf L hL) hL fun z => I.ok.exfs L z hL
      exact ⟨hk, ⟨L, _, hf, hn, e, hd⟩, ih (fun b hb => hs b (by unfold frs; rw [List.filterMap_cons, hf]; exact List.mem_cons_of_mem _ hb)) hr⟩
  exact all X.outer (fun _ hb => hb) I.ok.funs
theorem Inv.stack (I : Inv X pins σ H s) : s.heap.FunFrames X.base X.stack := by
  rcases I.ok.stk with e | ⟨e, hf⟩
  · rw [e]; exact I.funs
  · rw [e]
    obtain ⟨m, hn, _⟩ := I.loc
    refine .cons (by rw [I.ok.kind]; decide) hf hn ?_ I.funs
    exact Heap.get?_none_of_le (Nat.le_trans I.ok.bsz I.ok.above)
theorem Inv.stkSub (I : Inv X pins σ H s) : ∀ b ∈ frs X.stack, b ∈ X.env.locals :: X.fs := fun b hb => by
  rcases I.ok.stk with e | ⟨e, hf⟩
  · rw [e] at hb; exact List.mem_cons_of_mem _ hb
  · rw [e] at hb
    unfold frs at hb
    rw [List.filterMap_cons, hf] at hb
    exact hb
theorem Inv.stkFree (I : Inv X pins σ H s) : ∀ b ∈ frs X.stack, H b = none := fun b hb => by
  rcases List.mem_cons.mp (I.stkSub b hb) with e | hb
  · rw [e]; exact I.free
  · obtain ⟨_, o, ho, _⟩ := I.ok.funs.mem hb
    exact I.base.free b o ho (I.ok.frf b hb) fun z => I.ok.exfs b z hb
theorem Inv.step {g' : Array GenState} {t' : Nat} {d' : Drawn} {ch : List Addr} (I : Inv X pins σ H s)
    (hch : ∀ b ∈ ch, (b ∈ X.ex ∨ X.s₀.heap.objs.size ≤ b) ∧ b ≠ X.env.locals ∧ (∀ x c, X.env.cells.lookup x = some c → c ≠ b) ∧ ∀ p ∈ X.pn ++ pins, p.1 ≠ b)
    (keep : ∀ b o, b ≠ X.env.locals → b ∉ X.fs → b ∉ ch → s.heap.get? b = some o → H b = none → h'.get? b = some o)
    (slot : ∀ b o, b ≠ X.env.locals → b ∈ X.fs → b ∉ ch → s.heap.get? b = some o → H b = none → ∃ sl, h'.get? b = some { o with slots := sl }) (free : ∀ b o, b ∉ ch → s.heap.get? b = some o → H b = none → H' b = none)
    (there : ∀ b o, b ∉ ch → s.heap.get? b = some o → ∃ o', h'.get? b = some o')
    (tups : ∀ b xs, H b = some (.tup xs) → H' b = some (.tup xs)) (frzs : ∀ b o u, H b = some (.frz o u) → H' b = some (.frz o u)) (tbls : ∀ b ps, H b = some (.tbl ps) → ∃ more, H' b = some (.tbl (ps ++ more)))
    (ns : ∀ m, s.heap.Ns X.env.locals m → h'.Ns X.env.locals m) (hok : HOk X.prog X.w H' h') (hg : AllBare g') :
    Inv X pins σ H' { s with heap := h', gens := g', drawn := d', toks := t' } := by
  have neL : ∀ b o, X.s₀.heap.get? b = some o → b ≠ X.env.locals := fun b o e => Nat.ne_of_lt (Nat.lt_of_lt_of_le (Heap.lt_size e) I.ok.above)
  have neC : ∀ b o, X.s₀.heap.get? b = some o → b ∉ X.ex → b ∉ ch := fun b o e hx hb => by
    rcases (hch b hb).1 with z | z
    · exact hx z
    · exact absurd (Nat.lt_of_lt_of_le (Heap.lt_size e) z) (Nat.lt_irrefl _)
  have cellK : ∀ x c, X.env.cells.lookup x = some c → ∀ v, s.heap.IsCell c v → h'.IsCell c v := fun x c e v ⟨o, ho, hd⟩ => by
    have nch : c ∉ ch := fun z => (hch c z).2.2.1 x c e rfl
    by_cases hc : c ∈ X.fs
    · obtain ⟨sl, q⟩ := slot c o (I.cne x c e) hc nch ho (I.freeC x c e)
      exact ⟨_, q, hd⟩
    · exact ⟨o, keep c o (I.cne x c e) hc nch ho (I.freeC x c e), hd⟩
  refine ⟨I.ok, I.os, hg, ⟨fun b o e n hb hx => ?_, fun b o e n hb hx => ?_, fun b o e n hx => ?_, fun b o e hx => ?_, fun b xs e => tups b xs (I.base.tups b xs e), fun b o xs e => frzs b o xs (I.base.frzs b o xs e), fun b ps e => ?_⟩, ?_, fun x c e => ?_, ?_, fun x c e => ?_, fun p hp => ?_, hok, I.len⟩
  · exact keep b o (neL b o e) hb (neC b o e hx) (I.base.keep b o e n hb hx) (I.base.free b o e n hx)
  · obtain ⟨sl, e1⟩ := I.base.slot b o e n hb hx
    obtain ⟨sl', e2⟩ := slot b _ (neL b o e) hb (neC b o e hx) e1 (I.base.free b o e n hx)
    exact ⟨sl', e2⟩
  · obtain ⟨o', e1⟩ := I.base.there b o e hx
    exact free b o' (neC b o e hx) e1 (I.base.free b o e n hx)
  · obtain ⟨o', e1⟩ := I.base.there b o e hx
    exact there b o' (neC b o e hx) e1
  · obtain ⟨m1, e1⟩ := I.base.tbls b ps e
    obtain ⟨m2, e2⟩ := tbls b _ e1
    exact ⟨m1 ++ m2, by rw [e2, Array.append_assoc]⟩
  · obtain ⟨m, hn, hl⟩ := I.loc
    refine ⟨m, ns m hn, fun i x v e1 e2 e3 => ?_⟩
    obtain ⟨u, r, l⟩ := hl i x v e1 e2 e3
    refine ⟨u, r, ?_⟩
    rcases l with l | ⟨k, c, e, z⟩
    · exact .inl l
    · exact .inr ⟨k, c, e, cellK x c e _ z⟩
  · obtain ⟨v, z⟩ := I.cell x c e
    exact ⟨v, cellK x c e v z⟩
  · obtain ⟨m, ⟨o, _, _, ho, _⟩, _⟩ := I.loc
    exact free _ o (fun z => (hch _ z).2.1 rfl) ho I.free
  · obtain ⟨v, o, ho, hd⟩ := I.cell x c e
    exact free c o (fun z => (hch c z).2.2.1 x c e rfl) ho (I.freeC x c e)
  · obtain ⟨e, n, ne, nf, d⟩ := I.pin p hp
    have nch : p.1 ∉ ch := fun z => (hch p.1 z).2.2.2 p hp rfl
    exact ⟨keep p.1 p.2 ne nf nch e n, free p.1 p.2 nch e n, ne, nf, d⟩
theorem Inv.un {t' : Nat} (I : Inv X pins σ H s) (u : Un X.fs [] H H' s.heap h') (hok : HOk X.prog X.w H' h') : Inv X pins σ H' { s with heap := h', toks := t' } := by
  obtain ⟨m, ⟨o, es, ep, ho, r⟩, _⟩ := id I.loc
  obtain ⟨sl, hL⟩ := u.any ho I.free (by simp)
  exact I.step (g' := s.gens) (d' := s.drawn) (ch := []) (fun _ z => nomatch z) (fun b o _ hb _ e n => u.keep b o e n hb (by simp)) (fun b o _ hb _ e n => u.slot b o e n hb (by simp)) (fun b o _ e n => u.free b o e n (by simp)) (fun b o _ e => u.there b o e (by simp)) u.tups u.frzs u.tbls (fun m' hm => by
    obtain ⟨o', es', ep', ho', r'⟩ := hm
    rw [ho] at ho'; cases ho'
    exact ⟨_, es', ep', hL, r'⟩) hok I.bare
theorem Inv.call {g' : Array GenState} {t' : Nat} {d' : Drawn} {ch : List Addr} (I : Inv X pins σ H s) (u : Un (frs X.stack) ch H H' s.heap h') (hok : HOk X.prog X.w H' h') (hg : AllBare g')
    (hch : ∀ b ∈ ch, (b ∈ X.ex ∨ X.s₀.heap.objs.size ≤ b) ∧ b ≠ X.env.locals ∧ (∀ x c, X.env.cells.lookup x = some c → c ≠ b) ∧ ∀ p ∈ X.pn ++ pins, p.1 ≠ b) :
    Inv X pins σ H' { s with heap := h', gens := g', drawn := d', toks := t' } := by
  obtain ⟨m, ⟨o, es, ep, ho, r⟩, _⟩ := id I.loc
  obtain ⟨sl, hL⟩ := u.any ho I.free fun z => (hch _ z).2.1 rfl
  exact I.step (ch := ch) hch (fun b o hL hb hc e n => u.keep b o e n (fun z => (List.mem_cons.mp (I.stkSub b z)).elim hL hb) hc) (fun b o _ _ hc e n => u.any e n hc) (fun b o hc e n => u.free b o e n hc) (fun b o hc e => u.there b o e hc) u.tups u.frzs u.tbls (fun m' hm => by
    obtain ⟨o', es', ep', ho', r'⟩ := hm
    rw [ho] at ho'; cases ho'
    exact ⟨_, es', ep', hL, r'⟩) hok hg
theorem Inv.turned {t' : Nat} {it : Addr} (I : Inv X pins σ H s) (k : ∀ b o, b ≠ it → s.heap.get? b = some o → h'.get? b = some o) (hn : H it = none) (hL : it ≠ X.env.locals)
    (h1 : it ∈ X.ex ∨ X.s₀.heap.objs.size ≤ it) (h2 : ∀ x c, X.env.cells.lookup x = some c → c ≠ it) (h3 : ∀ p ∈ X.pn ++ pins, p.1 ≠ it) : Inv X pins σ H { s with heap := h', toks := t' } := by
  have nit : ∀ b u, H b = some u → b ≠ it := fun b u e z => by rw [z, hn] at e; cases e
  refine I.step (g' := s.gens) (d' := s.drawn) (ch := [it]) (fun b hb => ?_) (fun b o _ _ hc e _ => k b o (fun z => hc (by simp [z])) e) (fun b o _ _ hc e _ => ⟨o.slots, k b o (fun z => hc (by simp [z])) e⟩) (fun _ _ _ _ n => n)
    (fun b o hc e => ⟨o, k b o (fun z => hc (by simp [z])) e⟩) (fun _ _ e => e) (fun _ _ _ e => e) (fun b ps e => ⟨#[], by rw [e]; simp⟩) (fun m hm => ?_) (fun b u e => ?_) I.bare
  · have e : b = it := by simpa using hb
    subst e
    exact ⟨h1, hL, h2, h3⟩
  · obtain ⟨o, es, ep, ho, r⟩ := hm
    exact ⟨o, es, ep, k _ o (Ne.symm hL) ho, r⟩
  · refine (I.hok b u e).stay (fun c v hc q => k c v ?_ q) (fun _ q => q) fun _ _ q => q
    rcases hc with z | z
    · rw [z]; exact nit b u e
    · exact nit c _ z
theorem Inv.tok (I : Inv X pins σ H s) (t : Nat) : Inv X pins σ H { s with toks := t } := I.un (h' := s.heap) (t' := t) Un.refl I.hok
theorem Inv.kept {t' : Nat} (I : Inv X pins σ H s) (k : ∀ b u, s.heap.get? b = some u → h'.get? b = some u) : Inv X pins σ H { s with heap := h', toks := t' } := I.un (Un.kept k) (I.hok.kept k)
theorem Inv.laid {a : Addr} {o : HO} {t' : Nat} (I : Inv X pins σ H s) (k : ∀ b u, s.heap.get? b = some u → h'.get? b = some u) (hp : s.heap.objs.size ≤ a) (new : ObjOk X.prog X.w (upd H a o) h' a o) :
    Inv X pins σ (upd H a o) { s with heap := h', toks := t' } := I.un (Un.laid k hp (I.hok.fresh hp)) (I.hok.laid k hp new)
theorem Inv.write {x e : Addr} {o : HO} {t' : Nat} (I : Inv X pins σ H s) (mu : Mut (H x)) (he : e = x ∨ H e = some (.own x)) (k : ∀ b u, b ≠ e → s.heap.get? b = some u → h'.get? b = some u) (heo : ∃ u, h'.get? e = some u)
    (new : ObjOk X.prog X.w (upd H x o) h' x o) : Inv X pins σ (upd H x o) { s with heap := h', toks := t' } := I.un (Un.write mu he k heo) (I.hok.write mu he k heo new)
theorem Inv.weak {σ' : List (Option V)} (I : Inv X pins σ H s) (hl : σ'.length = σ.length) (w : ∀ (i : Nat) v, σ'[i]? = some (some v) → σ[i]? = some (some v)) : Inv X pins σ' H s :=
  ⟨I.ok, I.os, I.bare, I.base, let ⟨m, hn, hl'⟩ := I.loc; ⟨m, hn, fun i x v e1 e2 e3 => hl' i x v e1 (w i v e2) e3⟩, I.cell, I.free, I.freeC, I.pin, I.hok, hl.trans I.len⟩
theorem Inv.pins_of {pins' : List (Addr × Obj)} (I : Inv X pins σ H s) (h : ∀ p ∈ pins', s.heap.get? p.1 = some p.2 ∧ H p.1 = none ∧ p.1 ≠ X.env.locals ∧ p.1 ∉ X.fs ∧ ∀ v, p.2.data ≠ .cell v) : Inv X pins' σ H s :=
  ⟨I.ok, I.os, I.bare, I.base, I.loc, I.cell, I.free, I.freeC, fun p hp => (List.mem_append.mp hp).elim (fun z => I.pin p (List.mem_append_left _ z)) (h p), I.hok, I.len⟩
theorem nodup_ix {N : List Str} (hN : N.Nodup) {i j : Nat} {x : Str} (a : N[i]? = some x) (b : N[j]? = some x) : i = j := by
  obtain ⟨h1, e1⟩ := List.getElem?_eq_some_iff.mp a
  obtain ⟨h2, e2⟩ := List.getElem?_eq_some_iff.mp b
  exact (List.getElem_inj hN).mp (e1.trans e2.symm)
theorem store_ok2 {M : Model} {A : Around} {E : Value → Shared → Prop} {i : Nat} {x : Str} {v : V} {u : Value} {Q : Unit → Shared → Prop} (I : Inv X pins σ H s) (hN : X.N.Nodup) (hi : X.N[i]? = some x) (hx : Loc X.env.scope x) (r : RelV v u)
    (h : ∀ s', Inv X pins (σ.set i (some v)) H s' → (∃ a, Heap.SameBut a s.heap s'.heap ∧ (a = X.env.locals ∨ X.env.cells.lookup x = some a)) → Q () s') (hf : X.fn x = true ∨ X.env.scope.names.lookup x = some .local := by first | exact .inl rfl | exact .inr rfl | assumption) : wpAny M A (storeName X.env x u) Q E s := by
  obtain ⟨m, hn, hl⟩ := id I.loc
  have hcls : (X.env.scope.kind == .class || (X.env.scope.kind == .module && X.env.locals != X.env.globals)) = false := by rw [I.ok.kind]; rfl
  have hiσ : i < σ.length := by rw [I.len]; exact (List.getElem?_eq_some_iff.mp hi).1
  have cne := I.cne
  have tracked : ∀ {a : Addr} {h' : Heap}, (∃ o, s.heap.get? a = some o ∧ H a = none) → Heap.SameBut a s.heap h' → HOk X.prog X.w H h' := fun {a h'} ha hs b ob e => by
    obtain ⟨_, _, hfree⟩ := ha
    refine (I.hok b ob e).stay (fun c w' hc q => (hs.2 c ?_).trans q) (fun _ q => q) fun _ _ q => q
    rintro rfl
    rcases hc with rfl | hc
    · rw [hfree] at e; cases e
    · rw [hfree] at hc; cases hc
  rcases hx with hk | hk
  · refine wpAny_storeName_local hk hn (fun h' hn' hs => ?_) hcls
    obtain ⟨oL, _, _, hoL, _⟩ := id hn
    refine h _ ⟨I.ok, I.os, I.bare, ⟨fun b o e n hb hx => ?_, fun b o e n hb hx => ?_, I.base.free, fun b o e hx => ?_, I.base.tups, I.base.frzs, I.base.tbls⟩, ⟨_, hn', fun j y v' e1 e2 e3 => ?_⟩, fun y c e => ?_, I.free, I.freeC, fun p hp => ?_, tracked ⟨oL, hoL, I.free⟩ hs, by simpa using I.len⟩ ⟨_, hs, .inl rfl⟩
    · exact (hs.2 b (Nat.ne_of_lt (Nat.lt_of_lt_of_le (Heap.lt_size e) I.ok.above))).trans (I.base.keep b o e n hb hx)
    · obtain ⟨sl, e1⟩ := I.base.slot b o e n hb hx
      exact ⟨sl, (hs.2 b (Nat.ne_of_lt (Nat.lt_of_lt_of_le (Heap.lt_size e) I.ok.above))).trans e1⟩
    · obtain ⟨o', e1⟩ := I.base.there b o e hx
      exact ⟨o', (hs.2 b (Nat.ne_of_lt (Nat.lt_of_lt_of_le (Heap.lt_size e) I.ok.above))).trans e1⟩
    · by_cases hj : j = i
      · subst hj
        rw [hi] at e1; cases e1
        rw [List.getElem?_set_self hiσ] at e2
        cases e2
        exact ⟨u, r, .inl ⟨hk, by simp⟩⟩
      · rw [List.getElem?_set_ne (Ne.symm hj)] at e2
        obtain ⟨u', r', q⟩ := hl j y v' e1 e2 e3
        refine ⟨u', r', ?_⟩
        rcases q with ⟨k, e⟩ | ⟨k, c, e, z⟩
        · refine .inl ⟨k, ?_⟩
          have : y ≠ x := fun e => hj (nodup_ix hN e1 (e ▸ hi))
          simp [this, e]
        · exact .inr ⟨k, c, e, z.sameBut hs (cne y c e)⟩
    · obtain ⟨w', z⟩ := I.cell y c e
      exact ⟨w', z.sameBut hs (cne y c e)⟩
    · obtain ⟨e, n, ne, nf, d⟩ := I.pin p hp
      exact ⟨(hs.2 p.1 ne).trans e, n, ne, nf, d⟩
  · have hfn : X.fn x = true := by
      rcases hf with z | z
      · exact z
      · rw [z] at hk; cases hk
    obtain ⟨c, hc⟩ := I.ok.has x (.inl hk)
    obtain ⟨w', z⟩ := I.cell x c hc
    refine wpAny_storeName_cell I.ok.kind hk hc z (fun h' hc' hs => ?_)
    obtain ⟨oc, hoc, hocd⟩ := id z
    refine h { s with heap := h' } ⟨I.ok, I.os, I.bare, ⟨fun b o e n hb hx => ?_, fun b o e n hb hx => ?_, I.base.free, fun b o e hx => ?_, I.base.tups, I.base.frzs, I.base.tbls⟩, ⟨m, hn.sameBut hs (Ne.symm (cne x c hc)), fun j y v' e1 e2 e3 => ?_⟩, fun y c' e => ?_, I.free, I.freeC, fun p hp => ?_, tracked ⟨oc, hoc, I.freeC x c hc⟩ hs, by simpa using I.len⟩ ⟨c, hs, .inr hc⟩
    · exact (hs.2 b (Nat.ne_of_lt (Nat.lt_of_lt_of_le (Heap.lt_size e) (I.ok.cab x c hfn hc)))).trans (I.base.keep b o e n hb hx)
    · obtain ⟨sl, e1⟩ := I.base.slot b o e n hb hx
      exact ⟨sl, (hs.2 b (Nat.ne_of_lt (Nat.lt_of_lt_of_le (Heap.lt_size e) (I.ok.cab x c hfn hc)))).trans e1⟩
    · obtain ⟨o', e1⟩ := I.base.there b o e hx
      exact ⟨o', (hs.2 b (Nat.ne_of_lt (Nat.lt_of_lt_of_le (Heap.lt_size e) (I.ok.cab x c hfn hc)))).trans e1⟩
    · by_cases hj : j = i
      · subst hj
        rw [hi] at e1; cases e1
        rw [List.getElem?_set_self hiσ] at e2
        cases e2
        exact ⟨u, r, .inr ⟨.inl hk, c, hc, hc'⟩⟩
      · rw [List.getElem?_set_ne (Ne.symm hj)] at e2
        obtain ⟨u', r', q⟩ := hl j y v' e1 e2 e3
        refine ⟨u', r', ?_⟩
        rcases q with q | ⟨k, c', e, z'⟩
        · exact .inl q
        · refine .inr ⟨k, c', e, z'.sameBut hs ?_⟩
          rintro rfl
          exact hj (nodup_ix hN e1 (I.ok.inj _ _ _ e hc ▸ hi))
    · by_cases hcc : c' = c
      · subst hcc; exact ⟨_, hc'⟩
      · obtain ⟨w2, z2⟩ := I.cell y c' e
        exact ⟨w2, z2.sameBut hs hcc⟩
    · obtain ⟨e, n, ne, nf, d⟩ := I.pin p hp
      refine ⟨(hs.2 p.1 ?_).trans e, n, ne, nf, d⟩
      intro q
      rw [q, hoc] at e
      have q' : oc = p.2 := Option.some.inj e
      exact d w' (by rw [← q']; exact hocd)
theorem store_ok {M : Model} {A : Around} {E : Value → Shared → Prop} {i : Nat} {x : Str} {v : V} {u : Value} {Q : Unit → Shared → Prop} (I : Inv X pins σ H s) (hN : X.N.Nodup) (hi : X.N[i]? = some x) (hx : Loc X.env.scope x) (r : RelV v u)
    (h : ∀ s', Inv X pins (σ.set i (some v)) H s' → Q () s') (hf : X.fn x = true ∨ X.env.scope.names.lookup x = some .local := by first | exact .inl rfl | exact .inr rfl | assumption) : wpAny M A (storeName X.env x u) Q E s :=
  store_ok2 I hN hi hx r (fun s' I' _ => h s' I') hf
theorem Inv.call' {s' : Shared} {ch : List Addr} (I : Inv X pins σ H s) (ho : s'.os = s.os) (u : Un (frs X.stack) ch H H' s.heap s'.heap) (hok : HOk X.prog X.w H' s'.heap) (hg : AllBare s'.gens)
    (hch : ∀ b ∈ ch, (b ∈ X.ex ∨ X.s₀.heap.objs.size ≤ b) ∧ b ≠ X.env.locals ∧ (∀ x c, X.env.cells.lookup x = some c → c ≠ b) ∧ ∀ p ∈ X.pn ++ pins, p.1 ≠ b) : Inv X pins σ H' s' := by
  obtain ⟨h', g', d', t', o'⟩ := s'
  have e : o' = s.os := ho
  subst e
  exact I.call (g' := g') (t' := t') (d' := d') u hok hg hch
end
abbrev XK := Value → Option Addr → Hp → Prop
abbrev St := List (Option V)
abbrev VK := V → Hp → Prop
abbrev TE := St → Hp → VK → Prop
abbrev TT := St → Hp → (Bool → Hp → Prop) → Prop
abbrev TA := St → Hp → (List V → Hp → Prop) → Prop
structure Ends where
  nx : St → Hp → Prop
  rt : VK
  bk : St → Hp → Prop := fun _ _ => False
  ct : St → Hp → Prop := fun _ _ => False
abbrev TS := Ends → St → Hp → Prop
def EP (X : Cx) (pins : List (Addr × Obj)) (σ : St) (Q : VK) (u : Value) (s' : Shared) : Prop := ∃ v H', Inv X pins σ H' s' ∧ RelV v u ∧ Q v H'
def TP (X : Cx) (pins : List (Addr × Obj)) (σ : St) (Q : Bool → Hp → Prop) (b : Bool) (s' : Shared) : Prop := ∃ H', Inv X pins σ H' s' ∧ Q b H'
def AP (X : Cx) (pins : List (Addr × Obj)) (σ : St) (Q : List V → Hp → Prop) (us : List Value) (s' : Shared) : Prop := ∃ vs H', Inv X pins σ H' s' ∧ Vals vs us ∧ Q vs H'
def SP (X : Cx) (pins : List (Addr × Obj)) (D : Ends) (f : Flow) (s' : Shared) : Prop :=
  match f with
  | .next => ∃ σ' H', Inv X pins σ' H' s' ∧ D.nx σ' H'
  | .brk => ∃ σ' H', Inv X pins σ' H' s' ∧ D.bk σ' H'
  | .cont => ∃ σ' H', Inv X pins σ' H' s' ∧ D.ct σ' H'
  | .ret u => ∃ v σ' H', Inv X pins σ' H' s' ∧ RelV v u ∧ D.rt v H'
def PE (X : Cx) (e : Expr) (t : TE) : Prop :=
  ∀ (pins : List (Addr × Obj)) (s : Shared) (σ : St) (H : Hp) (Q : VK), Inv X pins σ H s → t σ H Q → wpAny (model X.prog X.w) X.A (eval e X.env) (EP X pins σ Q) X.xe s
def PT (X : Cx) (e : Expr) (t : TT) : Prop :=
  ∀ (pins : List (Addr × Obj)) (s : Shared) (σ : St) (H : Hp) (Q : Bool → Hp → Prop), Inv X pins σ H s → t σ H Q → wpAny (model X.prog X.w) X.A (isTrue e X.env (eval e X.env)) (TP X pins σ Q) X.xe s
def PW (X : Cx) (e : Expr) (t : TT) : Prop :=
  ∀ (whole : Sem Value) (pins : List (Addr × Obj)) (s : Shared) (σ : St) (H : Hp) (Q : Bool → Hp → Prop), Inv X pins σ H s → t σ H Q → wpAny (model X.prog X.w) X.A (isTrue e X.env whole) (TP X pins σ Q) X.xe s
theorem PW.pt {X : Cx} {e : Expr} {t : TT} (h : PW X e t) : PT X e t := h _
def PA (X : Cx) (es : List Expr) (t : TA) : Prop :=
  ∀ (pos : Pos) (pins : List (Addr × Obj)) (s : Shared) (σ : St) (H : Hp) (Q : List V → Hp → Prop), Inv X pins σ H s → t σ H Q → wpAny (model X.prog X.w) X.A (spliced (backTo pos (starEach es X.env))) (AP X pins σ Q) X.xe s
def PS (X : Cx) (st : Stmt) (t : TS) : Prop :=
  ∀ (pins : List (Addr × Obj)) (s : Shared) (σ : St) (H : Hp) (D : Ends), Inv X pins σ H s → t D σ H → wpAny (model X.prog X.w) X.A (exec st X.env) (SP X pins D) X.xe s
def PSs (X : Cx) (st : List Stmt) (t : TS) : Prop :=
  ∀ (pins : List (Addr × Obj)) (s : Shared) (σ : St) (H : Hp) (D : Ends), Inv X pins σ H s → t D σ H → wpAny (model X.prog X.w) X.A (execs st X.env) (SP X pins D) X.xe s
theorem thn {α : Type} {t : Sem α} {Q Q' : α → Shared → Prop} {M : Model} {A : Around} {E : Value → Shared → Prop} {s : Shared} (h : wpAny M A t Q E s) (hQ : ∀ a s, Q a s → Q' a s) : wpAny M A t Q' E s := wpAny_mono h hQ fun _ _ x => x
end L2
namespace L2
open PySem PySem.Spec PyProof.Rows
section
variable {X : Cx}
def tVar (i : Nat) : TE := fun σ H Q => ∃ v, σ[i]? = some (some v) ∧ Q v H
def tC (v : V) : TE := fun _ H Q => Q v H
theorem pe_var {i : Nat} {x : Str} {pos : Pos} (hN : X.N[i]? = some x) (hv : Vis X.env.scope x) (hd : (x == ("__debug__" : Str)) = false := by decide) (hcd : (x == ("__classdict__" : Str)) = false := by decide) : PE X (.Name x pos) (tVar i) := by
  intro pins s σ H Q I h
  obtain ⟨v, e, h⟩ := h
  obtain ⟨m, hn, hl⟩ := I.loc
  obtain ⟨u, r, l⟩ := hl i x v hN e hv
  have fin : EP X pins σ Q u s := ⟨v, H, I, r, h⟩
  rcases l with ⟨hk, hm⟩ | ⟨hk, c, hc, hcell⟩
  · exact wpAny_Name (wpAny_loadName_local I.ok.kind hk hn hm fin) hd
  · rcases hk with hk | hk
    · exact wpAny_Name (wpAny_loadName_cell I.ok.kind hk hc hcell fin) hd
    · exact wpAny_Name (wpAny_loadName_free I.ok.kind hk hc hcell fin hcd) hd
theorem pe_int {i j pos} : PE X (.Constant (.int i) j pos) (tC (.int i)) := fun _ _ _ H _ I h => wpAny_Constant_int ⟨.int i, H, I.tok _, ⟨_, rfl⟩, h⟩
theorem pe_bl {b j pos} : PE X (.Constant (.bool b) j pos) (tC (.bl b)) := fun _ _ _ H _ I h => Constant_bool ⟨.bl b, H, I, rfl, h⟩
theorem pe_non {j pos} : PE X (.Constant .none j pos) (tC .non) := fun _ _ _ H _ I h => Constant_none ⟨.non, H, I, rfl, h⟩
theorem pe_str {x j pos} : PE X (.Constant (.str x) j pos) (tC (.str x)) := fun _ _ _ H _ I h => Calls.Constant_str ⟨.str x, H, I.tok _, ⟨_, rfl⟩, h⟩
def Gl (X : Cx) (x : Str) : Prop := X.env.kindOf x = some .globalImplicit
theorem ld_glob {E : Value → Shared → Prop} {pins : List (Addr × Obj)} {s : Shared} {σ : St} {H : Hp} {x : Str} {u : Value} {pos : Pos} {Q : Value → Shared → Prop} (I : Inv X pins σ H s) (hg : Gl X x) (hm : X.mg x = some u) (h : Q u s)
    (hd : (x == ("__debug__" : Str)) = false := by decide) : wpAny (model X.prog X.w) X.A (eval (.Name x pos) X.env) Q E s :=
  Calls.Name_function_global I.ok.kind hg (Calls.loadGlobal_global (by rw [I.ok.glob]; exact I.mod.glob.keeps I.bk) hm h) hd
theorem ld_blt {E : Value → Shared → Prop} {pins : List (Addr × Obj)} {s : Shared} {σ : St} {H : Hp} {x : Str} {u : Value} {pos : Pos} {Q : Value → Shared → Prop} (I : Inv X pins σ H s) (hg : Gl X x) (hm : X.mg x = none) (hv : bootBuiltins x = some u) (h : Q u s)
    (hn : x ≠ "__name__" := by decide) (hd : (x == ("__debug__" : Str)) = false := by decide) : wpAny (model X.prog X.w) X.A (eval (.Name x pos) X.env) Q E s := by
  obtain ⟨mb, h1, h2⟩ := I.mod.blt
  exact Calls.Name_function_global I.ok.kind hg (Calls.loadGlobal_builtin (by rw [I.ok.glob]; exact I.mod.glob.keeps I.bk) hm (by rw [I.ok.blt]; exact h1.keeps I.bk) ((h2 x hn).trans hv) h) hd
theorem pe_glob {x : Str} {v : V} {u : Value} {pos : Pos} (hg : Gl X x) (hm : X.mg x = some u) (r : RelV v u) (hd : (x == ("__debug__" : Str)) = false := by decide) : PE X (.Name x pos) (tC v) :=
  fun _ _ _ H _ I h => ld_glob I hg hm ⟨v, H, I, r, h⟩ hd
theorem pe_bltn {x : Str} {v : V} {u : Value} {pos : Pos} (hg : Gl X x) (hm : X.mg x = none) (hv : bootBuiltins x = some u) (r : RelV v u) (hn : x ≠ "__name__" := by decide) (hd : (x == ("__debug__" : Str)) = false := by decide) : PE X (.Name x pos) (tC v) :=
  fun _ _ _ H _ I h => ld_blt I hg hm hv ⟨v, H, I, r, h⟩ hn hd
variable {a b : Expr} {ta tb : TE} {pos : Pos}
def tB (t : TE) : TT := fun σ H Q => t σ H fun x H1 => ∃ c, x = .bl c ∧ Q c H1
theorem pt_val {e : Expr} {t : TE} (h : PE X e t) (he : ∀ whole, isTrue e X.env whole = (do let v ← whole; standAt e.pos; holding [v] (truthy v)) := by intro _; rfl) : PT X e (tB t) := by
  intro pins s σ H Q I hw
  refine isTrue_plain (thn (h pins s σ H _ I hw) fun v s1 ⟨x, H1, I1, r1, q1⟩ => ?_) (he _)
  obtain ⟨d, rfl, q⟩ := q1
  cases r1
  exact wpAny_truthy_bool ⟨H1, I1, q⟩
variable {tA tB' : TT} {rest : List Expr}
def tAnd (t u : TT) : TT := fun σ H Q => t σ H fun c H1 => if c = true then u σ H1 Q else Q false H1
def tOr (t u : TT) : TT := fun σ H Q => t σ H fun c H1 => if c = true then Q true H1 else u σ H1 Q
def tNot (t : TT) : TT := fun σ H Q => t σ H fun c H1 => Q (!c) H1
theorem pw_and1 (ha : PT X a tA) : PW X (.BoolOp .And [a] pos) tA := by
  intro wh pins s σ H Q I h
  refine isTrue_and (thn (ha pins s σ H Q I h) fun c s1 e => ?_)
  cases c with
  | true => exact isTrue_and_nil e
  | false => exact e
theorem pw_or1 (ha : PT X a tA) : PW X (.BoolOp .Or [a] pos) tA := by
  intro wh pins s σ H Q I h
  refine isTrue_or (thn (ha pins s σ H Q I h) fun c s1 e => ?_)
  cases c with
  | false => exact isTrue_or_nil e
  | true => exact e
theorem pw_and (ha : PT X a tA) (hb : PW X (.BoolOp .And (b :: rest) pos) tB') : PW X (.BoolOp .And (a :: b :: rest) pos) (tAnd tA tB') := by
  intro wh pins s σ H Q I h
  refine isTrue_and (thn (ha pins s σ H _ I h) fun c s1 ⟨H1, I1, q1⟩ => ?_)
  cases c with
  | true => exact hb wh pins s1 σ H1 Q I1 q1
  | false => exact ⟨H1, I1, q1⟩
theorem pw_or (ha : PT X a tA) (hb : PW X (.BoolOp .Or (b :: rest) pos) tB') : PW X (.BoolOp .Or (a :: b :: rest) pos) (tOr tA tB') := by
  intro wh pins s σ H Q I h
  refine isTrue_or (thn (ha pins s σ H _ I h) fun c s1 ⟨H1, I1, q1⟩ => ?_)
  cases c with
  | true => exact ⟨H1, I1, q1⟩
  | false => exact hb wh pins s1 σ H1 Q I1 q1
theorem pt_not (ha : PT X a tA) : PT X (.UnaryOp .Not a pos) (tNot tA) := by
  intro pins s σ H Q I h
  exact isTrue_not (ha pins s σ H (fun c H1 => Q (!c) H1) I h)
def tAndV (ta tb : TE) : TE := fun σ H Q => ta σ H fun x H1 => ∃ c, x = .bl c ∧ if c = true then tb σ H1 Q else Q (.bl false) H1
def tNotV (ta : TE) : TE := fun σ H Q => ta σ H fun x H1 => ∃ c, x = .bl c ∧ Q (.bl (!c)) H1
theorem pe_one {op} {t : TE} (h : PE X a t) : PE X (.BoolOp op [a] pos) t := fun pins s σ H Q I hw => BoolOp_one (h pins s σ H Q I hw)
theorem pe_and (ha : PE X a ta) (hb : PE X (.BoolOp .And (b :: rest) pos) tb) : PE X (.BoolOp .And (a :: b :: rest) pos) (tAndV ta tb) := by
  intro pins s σ H Q I h
  refine BoolOp_and (thn (ha pins s σ H _ I h) fun v s1 ⟨x, H1, I1, r1, q1⟩ => ?_)
  obtain ⟨c, rfl, q1⟩ := q1
  cases r1
  refine wpAny_truthy_bool ?_
  cases c with
  | true => exact hb pins s1 σ H1 Q I1 q1
  | false => exact ⟨.bl false, H1, I1, rfl, q1⟩
theorem pe_not (ha : PE X a ta) : PE X (.UnaryOp .Not a pos) (tNotV ta) := by
  intro pins s σ H Q I h
  refine UnaryOp_ (thn (ha pins s σ H _ I h) fun v s1 ⟨x, H1, I1, r1, q1⟩ => ?_)
  obtain ⟨c, rfl, q1⟩ := q1
  cases r1
  exact not_of (wpAny_truthy_bool ⟨.bl (!c), H1, I1, rfl, q1⟩)
end
end L2
namespace L2
open PySem PySem.Spec PyProof.Rows
def SqL (K : PySem.W.Frag) (H : Hp) (a : Addr) (xs : List V) : Prop :=
  Rd H a (.lst xs) ∨
    ∃ (o : Obj) (its : Array Value) (n : Nat), K.lookup a = some o ∧ o.cls = .type "list" ∧ o.dict = none ∧ o.data = .seq its n ∧ its.size ≤ sizeLine ∧ Vals xs its.toList
def SqT (K : PySem.W.Frag) (H : Hp) (a : Addr) (xs : List V) : Prop :=
  Rd H a (.tup xs) ∨
    ∃ (o : Obj) (its : Array Value) (n : Nat), K.lookup a = some o ∧ o.cls = .type "tuple" ∧ o.data = .seq its n ∧ its.size ≤ sizeLine ∧ Vals xs its.toList
def absV : Value → Option V
  | .none => some .non
  | .bool b => some (.bl b)
  | .int i _ => some (.int i)
  | .str x _ => some (.str x)
  | .bytes b _ => some (.byt b)
  | .float b _ => some (.flt b)
  | .ref a => some (.ref a)
  | .type n => some (.ty n)
  | _ => none
theorem RelV.abs {x : V} {u : Value} (r : RelV x u) : absV u = some x := by
  cases x with
  | non => cases r; rfl
  | bl _ => cases r; rfl
  | int _ => obtain ⟨t, rfl⟩ := r; rfl
  | str _ => obtain ⟨t, rfl⟩ := r; rfl
  | byt _ => obtain ⟨t, rfl⟩ := r; rfl
  | flt _ => obtain ⟨t, rfl⟩ := r; rfl
  | ref _ => cases r; rfl
  | ty _ => cases r; rfl
theorem RelV.inj {x y : V} {u : Value} (r : RelV x u) (q : RelV y u) : x = y := Option.some.inj (r.abs.symm.trans q.abs)
theorem Vals.inj : ∀ {xs ys : List V} {us : List Value}, Vals xs us → Vals ys us → xs = ys
  | _, _, _, .nil, .nil => rfl
  | _, _, _, .cons r t, .cons r' t' => by rw [r.inj r', Vals.inj t t']
section
variable {X : Cx} {pins : List (Addr × Obj)} {σ : St} {H : Hp} {s : Shared} {a : Addr} {xs ys : List V}
theorem SqL.of {K : PySem.W.Frag} (h : H a = some (.lst xs)) : SqL K H a xs := .inl (.inl h)
theorem SqT.of {K : PySem.W.Frag} (h : H a = some (.tup xs)) : SqT K H a xs := .inl (.inl h)
theorem Inv.list (I : Inv X pins σ H s) (h : SqL X.K H a xs) : ∃ its : List Value, Vals xs its ∧ PlainL s.heap a its.toArray ∧ xs.length ≤ sizeLine := by
  rcases h with h | ⟨o, its, n, hk, hc, hd, hs, hz, r⟩
  · obtain ⟨z, its, n, r, e⟩ := h.ok I.hok
    exact ⟨its, r, ⟨_, n, e, rfl, rfl, rfl⟩, z⟩
  · refine ⟨its.toList, r, ⟨o, n, I.kIn a o hk, hc, hd, by simpa using hs⟩, ?_⟩
    have e := r.length
    simp only [Array.length_toList] at e
    omega
theorem Inv.tuple (I : Inv X pins σ H s) (h : SqT X.K H a xs) : ∃ its : List Value, Vals xs its ∧ IsTup s.heap a its.toArray ∧ xs.length ≤ sizeLine := by
  rcases h with h | ⟨o, its, n, hk, hc, hs, hz, r⟩
  · obtain ⟨z, its, r, p⟩ := h.ok I.hok
    exact ⟨its, r, p, z⟩
  · refine ⟨its.toList, r, ⟨o, I.kIn a o hk, hc, n, by simpa using hs⟩, ?_⟩
    have e := r.length
    simp only [Array.length_toList] at e
    omega
theorem Inv.list_inj (I : Inv X pins σ H s) (h : SqL X.K H a xs) (h' : SqL X.K H a ys) : xs = ys := by
  obtain ⟨its, r, ⟨o, n, e, _, _, d⟩, _⟩ := I.list h
  obtain ⟨its', r', ⟨o', n', e', _, _, d'⟩, _⟩ := I.list h'
  rw [e] at e'; cases e'
  rw [d] at d'
  injection d' with d1 _
  have : its = its' := by simpa using congrArg Array.toList d1
  subst this
  exact r.inj r'
theorem Inv.tuple_inj (I : Inv X pins σ H s) (h : SqT X.K H a xs) (h' : SqT X.K H a ys) : xs = ys := by
  obtain ⟨its, r, ⟨o, e, _, n, d⟩, _⟩ := I.tuple h
  obtain ⟨its', r', ⟨o', e', _, n', d'⟩, _⟩ := I.tuple h'
  rw [e] at e'; cases e'
  rw [d] at d'
  injection d' with d1 _
  have : its = its' := by simpa using congrArg Array.toList d1
  subst this
  exact r.inj r'
end
abbrev Cx.wish (X : Cx) (E : Value → Shared → Prop) : Cx := { X with xe := E }
abbrev Cx.nox (X : Cx) : Cx := X.wish fun _ _ => False
theorem Cx.Ok.wish {X : Cx} (ok : X.Ok) (E : Value → Shared → Prop) : (X.wish E).Ok :=
  ⟨ok.mod, ok.kind, ok.glob, ok.blt, ok.above, ok.inj, ok.has, ok.cab, ok.hd, ok.frames, ok.stk, ok.exf, ok.bs, ok.bsz, ok.noex, ok.exfs, ok.funs, ok.frf⟩
theorem Cx.Ok.unwish {X : Cx} {E : Value → Shared → Prop} (ok : (X.wish E).Ok) : X.Ok :=
  ⟨ok.mod, ok.kind, ok.glob, ok.blt, ok.above, ok.inj, ok.has, ok.cab, ok.hd, ok.frames, ok.stk, ok.exf, ok.bs, ok.bsz, ok.noex, ok.exfs, ok.funs, ok.frf⟩
section
variable {X : Cx} {pins : List (Addr × Obj)} {σ : St} {H : Hp} {s : Shared} {E : Value → Shared → Prop}
theorem Inv.wish (I : Inv X pins σ H s) (E : Value → Shared → Prop) : Inv (X.wish E) pins σ H s := ⟨I.ok.wish E, I.os, I.bare, I.base, I.loc, I.cell, I.free, I.freeC, I.pin, I.hok, I.len⟩
theorem Inv.unwish (I : Inv (X.wish E) pins σ H s) : Inv X pins σ H s := ⟨I.ok.unwish, I.os, I.bare, I.base, I.loc, I.cell, I.free, I.freeC, I.pin, I.hok, I.len⟩
theorem SP.unwish {D : Ends} {f : Flow} {s' : Shared} (h : SP (X.wish E) pins D f s') : SP X pins D f s' := by
  cases f with
  | next => obtain ⟨σ', H', I, q⟩ := h; exact ⟨σ', H', I.unwish, q⟩
  | brk => obtain ⟨σ', H', I, q⟩ := h; exact ⟨σ', H', I.unwish, q⟩
  | cont => obtain ⟨σ', H', I, q⟩ := h; exact ⟨σ', H', I.unwish, q⟩
  | ret u => obtain ⟨v, σ', H', I, r, q⟩ := h; exact ⟨v, σ', H', I.unwish, r, q⟩
theorem PE.nox {e : Expr} {t : TE} (h : PE X.nox e t) : PE X e t := fun pins s σ H Q I hw =>
  wpAny_mono (h pins s σ H Q (I.wish _) hw) (fun _ _ ⟨v, H', I', r, q⟩ => ⟨v, H', I'.unwish, r, q⟩) fun _ _ z => False.elim z
theorem PT.nox {e : Expr} {t : TT} (h : PT X.nox e t) : PT X e t := fun pins s σ H Q I hw =>
  wpAny_mono (h pins s σ H Q (I.wish _) hw) (fun _ _ ⟨H', I', q⟩ => ⟨H', I'.unwish, q⟩) fun _ _ z => False.elim z
theorem PSs.nox {st : List Stmt} {t : TS} (h : PSs X.nox st t) : PSs X st t := fun pins s σ H D I hw =>
  wpAny_mono (h pins s σ H D (I.wish _) hw) (fun _ _ q => q.unwish) fun _ _ z => False.elim z
end
section
variable {X : Cx} {st : Stmt} {rest : List Stmt} {t u : TS} {e : Expr} {te : TE} {pos : Pos}
def tNext : TS := fun D σ H => D.nx σ H
def tSeq (t u : TS) : TS := fun D σ H => t { D with nx := u D } σ H
theorem pss_nil : PSs X [] tNext := fun _ _ σ H _ I h => wpAny_execs_nil ⟨σ, H, I, h⟩
theorem pss_cons (h1 : PS X st t) (h2 : PSs X rest u) : PSs X (st :: rest) (tSeq t u) := by
  intro pins s σ H D I h
  refine wpAny_execs_cons (thn (h1 pins s σ H { D with nx := u D } I h) fun f s1 q => ?_)
  cases f with
  | next =>
    obtain ⟨σ', H', I', q⟩ := q
    exact h2 pins s1 σ' H' D I' q
  | ret v => exact q
  | brk => exact q
  | cont => exact q
theorem pss_one (h1 : PS X st t) : PSs X [st] t := by
  intro pins s σ H D I h
  refine wpAny_execs_cons (thn (h1 pins s σ H D I h) fun f s1 q => ?_)
  cases f with
  | next => exact wpAny_execs_nil q
  | ret v => exact q
  | brk => exact q
  | cont => exact q
theorem Inv.quiet {pins : List (Addr × Obj)} {σ : St} {H : Hp} {s : Shared} (I : Inv X pins σ H s) : interactive X.env = false := by simp [interactive, I.ok.kind]
def tDrop (te : TE) : TS := fun D σ H => te σ H fun _ H1 => D.nx σ H1
theorem ps_expr (he : PE X e te) (hs : swapsWith e none pos.line X.env = pure false := by rfl) : PS X (.Expr e pos) (tDrop te) := by
  intro pins s σ H D I h
  exact wpAny_Expr_any (thn (he pins s σ H _ I h) fun v s1 ⟨x, H1, I1, r1, q1⟩ => ⟨σ, H1, I1, q1⟩) I.quiet hs
def tRet (te : TE) : TS := fun D σ H => te σ H D.rt
theorem ps_ret (he : PE X e te) : PS X (.Return (some e) pos) (tRet te) := by
  intro pins s σ H D I h
  exact wpAny_Return_some (thn (he pins s σ H _ I h) fun v s1 ⟨x, H1, I1, r1, q1⟩ => ⟨x, σ, H1, I1, r1, q1⟩)
def tIfS (c : TT) (t u : TS) : TS := fun D σ H => c σ H fun b H1 => if b = true then t D σ H1 else u D σ H1
theorem ps_if {c : Expr} {a b : List Stmt} {tc : TT} (hc : PT X c tc) (ha : PSs X a t) (hb : PSs X b u) : PS X (.If c a b pos) (tIfS tc t u) := by
  intro pins s σ H D I h
  refine wpAny_If (thn (hc pins s σ H _ I h) fun d s1 ⟨H1, I1, q1⟩ => ?_)
  cases d with
  | true => exact ha pins s1 σ H1 D I1 q1
  | false => exact hb pins s1 σ H1 D I1 q1
def tNever : TS := fun _ _ _ => False
theorem pss_never {sts : List Stmt} : PSs X sts tNever := fun _ _ _ _ _ _ h => h.elim
end
abbrev TG := V → St → Hp → (St → Hp → Prop) → Prop
def PG (X : Cx) (target : Expr) (t : TG) : Prop :=
  ∀ (pins : List (Addr × Obj)) (s : Shared) (σ : St) (H : Hp) (v : V) (u : Value) (Q : St → Hp → Prop), Inv X pins σ H s → RelV v u → t v σ H Q →
    wpAny (model X.prog X.w) X.A (assign target X.env u) (fun _ s' => ∃ σ' H', Inv X pins σ' H' s' ∧ Q σ' H') X.xe s
section
variable {X : Cx} {pos : Pos}
def gName (i : Nat) : TG := fun v σ H Q => Q (σ.set i (some v)) H
theorem pg_name {i : Nat} {x : Str} (hN : X.N.Nodup) (hi : X.N[i]? = some x) (hx : Loc X.env.scope x) (hf : X.fn x = true ∨ X.env.scope.names.lookup x = some .local := by first | exact .inl rfl | exact .inr rfl | assumption) : PG X (.Name x pos) (gName i) := by
  intro pins s σ H v u Q I r h
  exact wpAny_assign_Name (store_ok I hN hi hx r (fun s' I' => ⟨_, H, I', h⟩) hf)
def tAsg (te : TE) (g : TG) : TS := fun D σ H => te σ H fun x H1 => g x σ H1 D.nx
theorem ps_set {i : Nat} {x : Str} {e : Expr} {te : TE} {pos' : Pos} (hN : X.N.Nodup) (hi : X.N[i]? = some x) (hx : Loc X.env.scope x) (he : PE X e te) (hs : swapsWith e (some (.Name x pos')) pos.line X.env = pure false := by rfl) (hf : X.fn x = true ∨ X.env.scope.names.lookup x = some .local := by first | exact .inl rfl | exact .inr rfl | assumption) :
    PS X (.Assign [.Name x pos'] e pos) (tAsg te (gName i)) := by
  intro pins s σ H D I h
  refine wpAny_Assign_Name (thn (he pins s σ H _ I h) fun v s1 ⟨y, H1, I1, r1, q1⟩ => ?_) hs
  exact store_ok I1 hN hi hx r1 (fun s2 I2 => ⟨_, H1, I2, q1⟩) hf
end
section
variable {X : Cx} {pos : Pos}
end
structure It where
  go : Nat → Hp → Prop
  yld : Nat → Hp → V → Hp → Prop
  stop : Nat → Hp → Prop
def FpOk (X : Cx) (pins : List (Addr × Obj)) (H : Hp) (b : Addr) : Prop :=
  H b = none ∧ b ≠ X.env.locals ∧ b ∉ X.fs ∧ (b ∈ X.ex ∨ X.s₀.heap.objs.size ≤ b) ∧ (∀ x c, X.env.cells.lookup x = some c → c ≠ b) ∧ ∀ p ∈ X.pn ++ pins, p.1 ≠ b
theorem Inv.fpOk {X : Cx} {pins : List (Addr × Obj)} {σ : St} {H H' : Hp} {s : Shared} {b : Addr} (I : Inv X pins σ H s) (hb : s.heap.objs.size ≤ b) (hn : H' b = none) : FpOk X pins H' b := by
  refine ⟨hn, Nat.ne_of_gt (Nat.lt_of_lt_of_le I.lt hb), I.nofs hb, .inr (Nat.le_trans I.sz hb), fun x c e z => ?_, fun p hp z => ?_⟩
  · obtain ⟨v, q⟩ := I.cell x c e
    exact absurd (Nat.lt_of_lt_of_le q.lt (by rw [z]; exact hb)) (Nat.lt_irrefl _)
  · exact absurd (Nat.lt_of_lt_of_le (Heap.lt_size (I.pin p hp).1) (by rw [z]; exact hb)) (Nat.lt_irrefl _)
structure Turn (P : Program) (w : World) (K : PySem.W.Frag) (tg : Expr) (J : It) (fp : List Addr) (it : Addr) (tn : Nat → Heap → Prop) : Prop where
  mem : it ∈ fp
  obj : ∀ i h, tn i h → ∀ b ∈ fp, ∃ o, h.get? b = some o ∧ ∀ v, o.data ≠ .cell v
  keep : ∀ i h h', tn i h → (∀ b ∈ fp, ∀ o, h.get? b = some o → h'.get? b = some o) → tn i h'
  item : ∀ (X : Cx), X.prog = P → X.w = w → X.K = K → X.calm = true → ∀ (i : Nat) (pins : List (Addr × Obj)) (s : Shared) (σ : St) (H : Hp) (E : Value → Shared → Prop), Inv X pins σ H s → (∀ b ∈ fp, FpOk X pins H b) → tn i s.heap → J.go i H →
    wpAny (model P w) X.A (pyNext (.ref it)) (fun r s1 => ∃ u, r = some u ∧
      wpAny (model P w) X.A (letOwnedTupleGo tg (.ref it) u) (fun _ s2 => ∃ x H', Inv X pins σ H' s2 ∧ RelV x u ∧ J.yld i H x H' ∧ tn (i + 1) s2.heap ∧ ∀ b ∈ fp, H' b = none) E s1) E s
  done : ∀ (X : Cx), X.prog = P → X.w = w → X.K = K → X.calm = true → ∀ (i : Nat) (pins : List (Addr × Obj)) (s : Shared) (σ : St) (H : Hp) (E : Value → Shared → Prop), Inv X pins σ H s → (∀ b ∈ fp, FpOk X pins H b) → tn i s.heap → J.stop i H →
    wpAny (model P w) X.A (pyNext (.ref it)) (fun r s1 => r = none ∧ Inv X pins σ H s1) E s
  self : ∀ (A : Around) (i : Nat) (s : Shared) (Q : Value → Shared → Prop) (E : Value → Shared → Prop), tn i s.heap → Q (.ref it) s → wpAny (model P w) A (pyIter (.ref it)) Q E s
abbrev TI := St → Hp → (It → Hp → Prop) → Prop
def PIE (X : Cx) (pins : List (Addr × Obj)) (σ : St) (tg : Expr) (R : It → Hp → Prop) (itv : Value) (s2 : Shared) : Prop :=
  ∃ (it : Addr) (fp : List Addr) (tn : Nat → Heap → Prop) (J : It) (H' : Hp), itv = .ref it ∧ Inv X pins σ H' s2 ∧ Turn X.prog X.w X.K tg J fp it tn ∧ tn 0 s2.heap ∧ (∀ b ∈ fp, FpOk X pins H' b) ∧ R J H'
def PI (X : Cx) (tg iter : Expr) (wi : TI) : Prop :=
  ∀ (pins : List (Addr × Obj)) (s : Shared) (σ : St) (H : Hp) (R : It → Hp → Prop), Inv X pins σ H s → wi σ H R →
    wpAny (model X.prog X.w) X.A (eval iter X.env) (fun v s1 => wpAny (model X.prog X.w) X.A (pyIter v) (PIE X pins σ tg R) X.xe s1) X.xe s
theorem go_of {M : Model} {A : Around} {E : Value → Shared → Prop} {s : Shared} {tg : Expr} {it : Addr} {u : Value} {o : Obj} {n : String} {vs : Array Value} {Q : Unit → Shared → Prop} (ho : s.heap.get? it = some o) (hc : o.cls = .type n) (hd : o.data = .fields vs)
    (hn : ["enumerate", "zip", "dict_itemiterator", "dict_reverseitemiterator", "odict_iterator", "itertools.zip_longest", "itertools.pairwise"].contains n = false) (hQ : Q () s) : wpAny M A (letOwnedTupleGo tg (.ref it) u) Q E s := by
  unfold letOwnedTupleGo
  cases tg <;> first
    | exact wpAny_pure hQ
    | (cases u <;> first
        | exact wpAny_pure hQ
        | (refine wpAny_bind (wpAny_load ho ?_)
           rw [hc, hd]
           show wpAny M A (if (["enumerate", "zip", "dict_itemiterator", "dict_reverseitemiterator", "odict_iterator", "itertools.zip_longest", "itertools.pairwise"].contains n && vs[0]? == some (rawInt _)) = true then _ else _) Q E s
           rw [if_neg (by intro h; rw [hn, Bool.false_and] at h; cases h)]
           exact wpAny_pure hQ))
def Itl (K : PySem.W.Frag) (a : Addr) : It :=
  ⟨fun i H => ∃ xs x, SqL K H a xs ∧ xs[i]? = some x, fun i H x H' => H' = H ∧ ∀ xs, SqL K H a xs → xs[i]? = some x, fun i H => ∃ xs, SqL K H a xs ∧ xs.length ≤ i⟩
def Itr (lo : Int) (n : Nat) : It := ⟨fun i _ => i < n, fun i H x H' => H' = H ∧ x = .int (lo + i), fun i _ => n ≤ i⟩
theorem turn_list {P : Program} {w : World} {K : PySem.W.Frag} {tg : Expr} (a it : Addr) : Turn P w K tg (Itl K a) [it] it (fun i h => h.IsListIter it a i) where
  mem := by simp
  obj := fun i h st b hb => by
    have e : b = it := by simpa using hb
    subst e
    obtain ⟨o, e, c, d⟩ := st
    exact ⟨o, e, fun v z => by rw [d] at z; cases z⟩
  keep := fun i h h' st k => st.at fun o e => k it (by simp) o e
  item := by
    intro X hP hw hK hc i pins s σ H E I hf st hg
    subst hP hw hK
    obtain ⟨xs, x, hq, hx⟩ := hg
    obtain ⟨its, rv, p, hz⟩ := I.list hq
    obtain ⟨u, hu, ru⟩ := rv.get hx
    obtain ⟨f0, f1, f2, f3, f4, f5⟩ := hf it (by simp)
    refine wpAny_pyNext_list_item st p.isList (x := u) (by simpa using hu) fun h' st' sb => ?_
    have I1 : Inv X pins σ H { s with heap := h' } := I.turned (t' := s.toks) (fun b o hb e => (sb.2 b hb).trans e) f0 f1 f3 f4 f5
    obtain ⟨o, e, c, d⟩ := id st'
    exact ⟨u, rfl, go_of (s := { s with heap := h' }) e c d (by decide) ⟨x, H, I1, ru, ⟨rfl, fun ys hy => by rw [I.list_inj hy hq]; exact hx⟩, st', fun b hb => (hf b hb).1⟩⟩
  done := by
    intro X hP hw hK hc i pins s σ H E I hf st hg
    subst hP hw hK
    obtain ⟨xs, hq, hx⟩ := hg
    obtain ⟨its, rv, p, hz⟩ := I.list hq
    obtain ⟨f0, f1, f2, f3, f4, f5⟩ := hf it (by simp)
    have hl := rv.length
    exact wpAny_pyNext_list_end (I.ok.hd hc) st p.isList (by simp; omega) fun h' eb => ⟨rfl, I.turned (t' := s.toks) (fun b o hb e => eb b o hb e) f0 f1 f3 f4 f5⟩
  self := fun _ _ _ _ _ st h => wpAny_pyIter_listiter st h
theorem turn_range {P : Program} {w : World} {K : PySem.W.Frag} {tg : Expr} (it : Addr) (lo : Int) (n : Nat) : Turn P w K tg (Itr lo n) [it] it (fun i h => IsRangeIter h it (lo + (i : Nat) * 1) ((n : Int) - (i : Nat)) 1) where
  mem := by simp
  obj := fun i h st b hb => by
    have e : b = it := by simpa using hb
    subst e
    exact ⟨_, st, fun v z => by
      have z' : Data.fields _ = Data.cell v := z
      cases z'⟩
  keep := fun i h h' st k => k it (by simp) _ st
  item := by
    intro X hP hw hK hc i pins s σ H E I hf st hg
    subst hP hw hK
    obtain ⟨f0, f1, f2, f3, f4, f5⟩ := hf it (by simp)
    have W := Walks.range (prog := X.prog) (w := X.w) (I.ok.hd hc) it lo 1 n
    refine W.item i s _ _ hg st fun v h' tk hv st' kk => ?_
    obtain ⟨t, rfl⟩ := hv
    have I1 : Inv X pins σ H { s with heap := h', toks := tk } := I.turned (fun b o hb e => kk b o (by simpa using hb) e) f0 f1 f3 f4 f5
    refine ⟨_, rfl, go_of (s := { s with heap := h', toks := tk }) (n := "range_iterator") st' rfl rfl (by decide) ⟨.int (lo + i), H, I1, ⟨t, ?_⟩, ⟨rfl, rfl⟩, st', fun b hb => (hf b hb).1⟩⟩
    rw [Int.mul_one]
  done := by
    intro X hP hw hK hc i pins s σ H E I hf st hg
    subst hP hw hK
    obtain ⟨f0, f1, f2, f3, f4, f5⟩ := hf it (by simp)
    exact wpAny_pyNext_range_end (I.ok.hd hc) st (by have : n ≤ i := hg; omega) fun h' eb => ⟨rfl, I.turned (t' := s.toks) (fun b o hb e => eb b o hb e) f0 f1 f3 f4 f5⟩
  self := fun _ _ _ _ _ st h => wpAny_pyIter_rangeiter st h
end L2
namespace L2
open PySem PySem.Spec PyProof.Rows
section
variable {X : Cx} {tg : Expr}
def iList (K : PySem.W.Frag) (tl : TE) : TI := fun σ H R => tl σ H fun x H1 => ∃ a, x = .ref a ∧ (∃ xs, SqL K H1 a xs) ∧ R (Itl K a) H1
theorem pi_list {l : Expr} {tl : TE} (hl : PE X l tl) : PI X tg l (iList X.K tl) := by
  intro pins s σ H R I h
  refine thn (hl pins s σ H _ I h) fun v s1 ⟨x, H1, I1, r1, q1⟩ => ?_
  obtain ⟨a, e, ⟨xs, hq⟩, q⟩ := q1
  subst e
  cases r1
  obtain ⟨its, rv, p, hz⟩ := I1.list hq
  refine wpAny_pyIter_list p.isList ?_
  refine ⟨s1.heap.objs.size, [s1.heap.objs.size], _, _, H1, rfl, I1.kept (t' := s1.toks) fun b o e => Heap.get?_push_of_some _ e, turn_list a _, ⟨_, Heap.get?_push_size _ rfl, rfl, rfl⟩, fun b hb => ?_, q⟩
  have e : b = s1.heap.objs.size := by simpa using hb
  subst e
  exact I1.fpOk (Nat.le_refl _) (I1.hok.fresh (Nat.le_refl _))
theorem range_it {pins : List (Addr × Obj)} {σ : St} {H : Hp} {s : Shared} {R : It → Hp → Prop} {E : Value → Shared → Prop} {lo hi : Int} {t u v : Tok} {tk : Nat} (I : Inv X pins σ H s) (h1 : -(2 ^ 62) ≤ lo) (h2 : lo < 2 ^ 62) (h3 : -(2 ^ 62) ≤ hi) (h4 : hi < 2 ^ 62)
    (q : R (Itr lo (hi - lo).toNat) H) : wpAny (model X.prog X.w) X.A (pyIter (.ref s.heap.objs.size)) (PIE X pins σ tg R) E { s with heap := s.heap.push { cls := .type "range", data := .fields #[.int lo t, .int hi u, .int 1 v] }, toks := tk } := by
  refine wpAny_pyIter_range (IsRange.new ..) (small_one h1 h2 h3 h4) ?_
  have I1 : Inv X pins σ H { s with heap := s.heap.push { cls := .type "range", data := .fields #[.int lo t, .int hi u, .int 1 v] }, toks := tk } := I.kept fun b o e => Heap.get?_push_of_some _ e
  refine ⟨(s.heap.push { cls := .type "range", data := .fields #[.int lo t, .int hi u, .int 1 v] }).objs.size, [(s.heap.push { cls := .type "range", data := .fields #[.int lo t, .int hi u, .int 1 v] }).objs.size], _, _, H, rfl,
    I1.kept (t' := tk) fun b o e => Heap.get?_push_of_some _ e, turn_range _ lo (hi - lo).toNat, ?_, fun b hb => ?_, q⟩
  · have e1 : lo + ((0 : Nat) : Int) * 1 = lo := by simp
    have e2 : (((hi - lo).toNat : Nat) : Int) - ((0 : Nat) : Int) = Builtin.Range.rangeSize lo hi 1 := by rw [rangeSize_one]; split <;> omega
    show IsRangeIter _ _ (lo + ((0 : Nat) : Int) * 1) ((((hi - lo).toNat : Nat) : Int) - ((0 : Nat) : Int)) 1
    rw [e1, e2]
    exact Heap.get?_push_size _ rfl
  · have e : b = (s.heap.push { cls := .type "range", data := .fields #[.int lo t, .int hi u, .int 1 v] }).objs.size := by simpa using hb
    subst e
    exact I1.fpOk (Nat.le_refl _) (I1.hok.fresh (Nat.le_refl _))
def iRng1 (ta : TA) : TI := fun σ H R => ta σ H fun vs H1 => ∃ j : Int, vs = [.int j] ∧ -(2 ^ 62) ≤ j ∧ j < 2 ^ 62 ∧ R (Itr 0 j.toNat) H1
theorem pi_range1 {a : Expr} {ta : TA} {p pos : Pos} (hg : Gl X "range") (hm : X.mg "range" = none) (ha : PA X [a] ta) (hs : starEach [a] X.env = [(false, eval a X.env)] := by rfl) : PI X tg (.Call (.Name "range" p) [a] [] pos) (iRng1 ta) := by
  intro pins s σ H R I h
  refine Call_ (ld_blt I hg hm boot_range (PyProof.Rows.callWith_type1 (thn (ha pos pins s σ H _ I h) fun us s1 ⟨vs, H1, I1, r1, q1⟩ => ?_) hs rfl))
  obtain ⟨j, e, q1, q2, q⟩ := q1
  subst e
  cases r1 with
  | cons r rr =>
    cases rr
    obtain ⟨t, rfl⟩ := r
    exact call_range_1 (range_it I1 (by omega) (by omega) q1 q2 (by simpa using q))
def tFor (wi : TI) (g : TG) (tb : TS) : TS := fun D σ H => wi σ H fun J H1 => ∃ W : Nat → Nat → St → Hp → Prop, (∃ m, W 0 m σ H1) ∧ ∀ i m σ H, W i m σ H →
  (J.stop i H ∧ D.nx σ H) ∨ (J.go i H ∧ ∃ N : St → Hp → Prop, (∀ σ' H', N σ' H' → ∃ m', m' < m ∧ W (i + 1) m' σ' H') ∧ ∀ x H', J.yld i H x H' → g x σ H' fun σ2 H2 => tb { D with nx := N, ct := N, bk := D.nx } σ2 H2)
def pinsAt (fp : List Addr) (h : Heap) : List (Addr × Obj) := fp.filterMap fun b => (h.get? b).map fun o => (b, o)
theorem mem_pinsAt {fp : List Addr} {h : Heap} {b : Addr} {o : Obj} (hb : b ∈ fp) (e : h.get? b = some o) : (b, o) ∈ pinsAt fp h := List.mem_filterMap.mpr ⟨b, hb, by rw [e]; rfl⟩
theorem of_pinsAt {fp : List Addr} {h : Heap} {p : Addr × Obj} (hp : p ∈ pinsAt fp h) : p.1 ∈ fp ∧ h.get? p.1 = some p.2 := by
  obtain ⟨b, hb, e⟩ := List.mem_filterMap.mp hp
  cases q : h.get? b with
  | none => rw [q] at e; cases e
  | some o =>
    rw [q] at e
    have e' : (b, o) = p := Option.some.inj e
    subst e'
    exact ⟨hb, q⟩
theorem Inv.pinned {pins : List (Addr × Obj)} {σ : St} {H : Hp} {s : Shared} {fp : List Addr} (I : Inv X pins σ H s) (hf : ∀ b ∈ fp, FpOk X pins H b) (ho : ∀ b ∈ fp, ∃ o, s.heap.get? b = some o ∧ ∀ v, o.data ≠ .cell v) : Inv X (pins ++ pinsAt fp s.heap) σ H s :=
  I.pins_of fun p hp => (List.mem_append.mp hp).elim (fun z => I.pin p (List.mem_append_right _ z)) fun z => by
    obtain ⟨hb, e⟩ := of_pinsAt z
    obtain ⟨f0, f1, f2, _⟩ := hf p.1 hb
    obtain ⟨o, e', d⟩ := ho p.1 hb
    rw [e] at e'; cases e'
    exact ⟨e, f0, f1, f2, d⟩
theorem Inv.unpinned {pins pl : List (Addr × Obj)} {σ : St} {H : Hp} {s : Shared} (I : Inv X (pins ++ pl) σ H s) : Inv X pins σ H s := I.pins_of fun p hp => I.pin p (List.mem_append_right _ (List.mem_append_left _ hp))
theorem ps_for {iter : Expr} {body : List Stmt} {wi : TI} {g : TG} {tb : TS} {pos : Pos} (hp : PassesOwn (model X.prog X.w) X.A X.env X.xe) (hc : X.calm = true) (hi : PI X tg iter wi) (hg : PG X tg g) (hb : PSs X body tb)
    (hs : ∀ x, foldedSetIterable iter X.env x = pure x := by intro _; rfl) : PS X (.For tg iter body [] pos) (tFor wi g tb) := by
  intro pins s σ H D I h
  refine wpAny_For (thn (hi pins s σ H _ I h) fun v s1 h1 => thn h1 fun itv s2 h2 => ?_) hs
  obtain ⟨it, fp, tn, J, H2, e, I2, T, st2, f2, W, ⟨m0, w0⟩, turn⟩ := h2
  subst e
  have stat : ∀ {H' : Hp}, (∀ b ∈ fp, H' b = none) → ∀ b ∈ fp, FpOk X pins H' b := fun hn b hb => ⟨hn b hb, (f2 b hb).2⟩
  refine codeAny_forLoop_any (fun n s' => ∃ i σ' H', Inv X pins σ' H' s' ∧ tn i s'.heap ∧ (∀ b ∈ fp, H' b = none) ∧ W i n σ' H') ?_ m0 ⟨0, σ, H2, I2, st2, fun b hb => (f2 b hb).1, w0⟩
  rintro n s3 ⟨i, σ3, H3, I3, st3, fr3, w3⟩
  rcases turn i n σ3 H3 w3 with ⟨stop, qn⟩ | ⟨go, N, hN, step⟩
  · refine wpAny_passesOwn hp (thn (T.done X rfl rfl rfl hc i pins s3 σ3 H3 X.xe I3 (stat fr3) st3 stop) fun r s4 ⟨hr, I4⟩ => ?_)
    subst hr
    exact wpAny_execs_nil ⟨σ3, H3, I4, qn⟩
  · refine wpAny_passesOwn hp (thn (T.item X rfl rfl rfl hc i pins s3 σ3 H3 X.xe I3 (stat fr3) st3 go) fun r s4 ⟨u, hr, h4⟩ => ?_)
    subst hr
    refine wpAny_passesOwn hp (thn h4 fun _ s5 ⟨x, H5, I5, r5, y5, st5, fr5⟩ => ?_)
    have I5' := I5.pinned (stat fr5) (T.obj _ _ st5)
    refine wpAny_passesOwn hp (thn (hg _ s5 σ3 H5 x u _ I5' r5 (step x H5 y5)) fun _ s6 ⟨σ6, H6, I6, q6⟩ => ?_)
    refine wpAny_passesOwn hp (thn (hb _ s6 σ6 H6 _ I6 q6) fun f s7 q7 => ?_)
    have again : ∀ {σ7 : St} {H7 : Hp}, Inv X (pins ++ pinsAt fp s5.heap) σ7 H7 s7 → N σ7 H7 → ∃ m, m < n ∧ ∃ i σ' H', Inv X pins σ' H' s7 ∧ tn i s7.heap ∧ (∀ b ∈ fp, H' b = none) ∧ W i m σ' H' := fun {σ7 H7} I7 n7 => by
      obtain ⟨m', hm, w7⟩ := hN σ7 H7 n7
      refine ⟨m', hm, i + 1, σ7, H7, I7.unpinned, T.keep _ _ _ st5 fun b hb o e => (I7.pin (b, o) (List.mem_append_right _ (List.mem_append_right _ (mem_pinsAt hb e)))).1, fun b hb => ?_, w7⟩
      obtain ⟨o, e, d⟩ := T.obj _ _ st5 b hb
      exact (I7.pin (b, o) (List.mem_append_right _ (List.mem_append_right _ (mem_pinsAt hb e)))).2.1
    cases f with
    | next => obtain ⟨σ7, H7, I7, n7⟩ := q7; exact again I7 n7
    | cont => obtain ⟨σ7, H7, I7, n7⟩ := q7; exact again I7 n7
    | brk => obtain ⟨σ7, H7, I7, q7⟩ := q7; exact ⟨σ7, H7, I7.unpinned, q7⟩
    | ret v => obtain ⟨x7, σ7, H7, I7, r7, q7⟩ := q7; exact ⟨x7, σ7, H7, I7.unpinned, r7, q7⟩
end
theorem for_range {lo : Int} {n : Nat} {g : TG} {tb : TS} {D : Ends} {σ : St} {H : Hp} (Pv : Nat → St → Hp → Prop) (h0 : Pv 0 σ H)
    (hs : ∀ i σ H, i < n → Pv i σ H → g (.int (lo + i)) σ H fun σ2 H2 => tb { D with nx := Pv (i + 1), ct := Pv (i + 1), bk := D.nx } σ2 H2) (hd : ∀ σ H, Pv n σ H → D.nx σ H) :
    ∃ W : Nat → Nat → St → Hp → Prop, (∃ m, W 0 m σ H) ∧ ∀ i m σ H, W i m σ H →
      ((Itr lo n).stop i H ∧ D.nx σ H) ∨ ((Itr lo n).go i H ∧ ∃ N : St → Hp → Prop, (∀ σ' H', N σ' H' → ∃ m', m' < m ∧ W (i + 1) m' σ' H') ∧ ∀ x H', (Itr lo n).yld i H x H' → g x σ H' fun σ2 H2 => tb { D with nx := N, ct := N, bk := D.nx } σ2 H2) := by
  refine ⟨fun i m σ H => m = n - i ∧ i ≤ n ∧ Pv i σ H, ⟨n, by simp, Nat.zero_le _, h0⟩, ?_⟩
  rintro i m σ H ⟨rfl, hi, p⟩
  by_cases hlt : i < n
  · refine .inr ⟨hlt, Pv (i + 1), fun σ' H' p' => ⟨n - (i + 1), by omega, rfl, hlt, p'⟩, fun x H' y => ?_⟩
    obtain ⟨e, y⟩ := y
    subst e y
    exact hs i σ _ hlt p
  · have e : i = n := by omega
    subst e
    exact .inl ⟨Nat.le_refl _, hd σ H p⟩
end L2
namespace L2
open PySem PySem.Spec PyProof.Rows
abbrev R2 := V → V → Hp → VK → Prop
def OpR (X : Cx) (f : Value → Value → Sem Value) (r : R2) : Prop :=
  ∀ (pins : List (Addr × Obj)) (s : Shared) (σ : St) (H : Hp) (x y : V) (v u : Value) (Q : VK), Inv X pins σ H s → RelV x v → RelV y u → r x y H Q →
    wpAny (model X.prog X.w) X.A (f v u) (EP X pins σ Q) X.xe s
def UnR (X : Cx) (f : Value → Sem Value) (r : V → Hp → VK → Prop) : Prop :=
  ∀ (pins : List (Addr × Obj)) (s : Shared) (σ : St) (H : Hp) (x : V) (v : Value) (Q : VK), Inv X pins σ H s → RelV x v → r x H Q →
    wpAny (model X.prog X.w) X.A (f v) (EP X pins σ Q) X.xe s
def CallR (X : Cx) (f : Value) (r : List V → Hp → VK → Prop) : Prop :=
  ∀ (pins : List (Addr × Obj)) (s : Shared) (σ : St) (H : Hp) (xs : List V) (us : List Value) (Q : VK), Inv X pins σ H s → Vals xs us → r xs H Q →
    wpAny (model X.prog X.w) X.A (call f us) (EP X pins σ Q) X.xe s
def tOp (r : R2) (ta tb : TE) : TE := fun σ H Q => ta σ H fun x H1 => tb σ H1 fun y H2 => r x y H2 Q
def tUn (r : V → Hp → VK → Prop) (ta : TE) : TE := fun σ H Q => ta σ H fun x H1 => r x H1 Q
def rI (C : Int → Int → Prop) (g : Int → Int → V) : R2 := fun x y H Q => ∃ i j, x = .int i ∧ y = .int j ∧ C i j ∧ Q (g i j) H
def rI0 (g : Int → Int → V) : R2 := fun x y H Q => ∃ i j, x = .int i ∧ y = .int j ∧ Q (g i j) H
def rU (g : Int → V) : V → Hp → VK → Prop := fun x H Q => ∃ i, x = .int i ∧ Q (g i) H
section
variable {X : Cx} {a b c : Expr} {ta tb tc : TE} {pos : Pos}
theorem binT (ha : PE X a ta) (hb : PE X b tb) {pins : List (Addr × Obj)} {s : Shared} {σ : St} {H : Hp} {R : V → V → Hp → Prop} (I : Inv X pins σ H s)
    (h : ta σ H fun x H1 => tb σ H1 fun y H2 => R x y H2) {Q : Value → Shared → Prop} {f : Value → Value → Sem Value}
    (hf : ∀ v u s2 x y H2, Inv X pins σ H2 s2 → RelV x v → RelV y u → R x y H2 → wpAny (model X.prog X.w) X.A (f v u) Q X.xe s2) :
    wpAny (model X.prog X.w) X.A (eval a X.env) (fun v s₁ => wpAny (model X.prog X.w) X.A (eval b X.env) (fun u s₂ => wpAny (model X.prog X.w) X.A (f v u) Q X.xe s₂) X.xe s₁) X.xe s := by
  refine thn (ha pins s σ H _ I h) fun v s1 ⟨x, H1, I1, r1, q1⟩ => ?_
  refine thn (hb pins s1 σ H1 _ I1 q1) fun u s2 ⟨y, H2, I2, r2, q2⟩ => ?_
  exact hf v u s2 x y H2 I2 r1 r2 q2
theorem pe_op {op : Operator} {r : R2} (ho : OpR X (binaryOp op) r) (ha : PE X a ta) (hb : PE X b tb) : PE X (.BinOp a op b pos) (tOp r ta tb) := by
  intro pins s σ H Q I h
  exact wpAny_BinOp (binT ha hb I h fun v u s2 x y H2 I2 rx ry q => ho pins s2 σ H2 x y v u Q I2 rx ry q)
theorem pe_un {op : UnaryOp} {r : V → Hp → VK → Prop} (ho : UnR X (unaryOp op) r) (ha : PE X a ta) : PE X (.UnaryOp op a pos) (tUn r ta) := by
  intro pins s σ H Q I h
  exact UnaryOp_ (thn (ha pins s σ H _ I h) fun v s1 ⟨x, H1, I1, r1, q1⟩ => ho pins s1 σ H1 x v Q I1 r1 q1)
theorem opI {f : Value → Value → Sem Value} {C : Int → Int → Prop} {g : Int → Int → Int}
    (rule : ∀ (i j : Int) (t u : Tok) (s : Shared) (Q : Value → Shared → Prop) (E : Value → Shared → Prop), C i j → Q (.int (g i j) s.toks) { s with toks := s.toks + 1 } → wpAny (model X.prog X.w) X.A (f (.int i t) (.int j u)) Q E s) :
    OpR X f (rI C fun i j => .int (g i j)) := by
  intro pins s σ H x y v u Q I rx ry h
  obtain ⟨i, j, rfl, rfl, hc, q⟩ := h
  obtain ⟨t, rfl⟩ := rx
  obtain ⟨t', rfl⟩ := ry
  exact rule i j t t' s _ _ hc ⟨.int (g i j), H, I.tok _, ⟨_, rfl⟩, q⟩
theorem opI0 {f : Value → Value → Sem Value} {g : Int → Int → Int}
    (rule : ∀ (i j : Int) (t u : Tok) (s : Shared) (Q : Value → Shared → Prop) (E : Value → Shared → Prop), Q (.int (g i j) s.toks) { s with toks := s.toks + 1 } → wpAny (model X.prog X.w) X.A (f (.int i t) (.int j u)) Q E s) :
    OpR X f (rI0 fun i j => .int (g i j)) := by
  intro pins s σ H x y v u Q I rx ry h
  obtain ⟨i, j, rfl, rfl, q⟩ := h
  obtain ⟨t, rfl⟩ := rx
  obtain ⟨t', rfl⟩ := ry
  exact rule i j t t' s _ _ ⟨.int (g i j), H, I.tok _, ⟨_, rfl⟩, q⟩
theorem opB0 {f : Value → Value → Sem Value} {g : Int → Int → Bool}
    (rule : ∀ (i j : Int) (t u : Tok) (s : Shared) (Q : Value → Shared → Prop) (E : Value → Shared → Prop), Q (.bool (g i j)) s → wpAny (model X.prog X.w) X.A (f (.int i t) (.int j u)) Q E s) :
    OpR X f (rI0 fun i j => .bl (g i j)) := by
  intro pins s σ H x y v u Q I rx ry h
  obtain ⟨i, j, rfl, rfl, q⟩ := h
  obtain ⟨t, rfl⟩ := rx
  obtain ⟨t', rfl⟩ := ry
  exact rule i j t t' s _ _ ⟨.bl (g i j), H, I, rfl, q⟩
def CDiv (i j : Int) : Prop := 0 < j ∧ j < 1073741824
def CPow (i j : Int) : Prop := 0 ≤ j ∧ j ≤ 1000000 ∧ i.natAbs < 2 ^ 64
def CMul (i j : Int) : Prop := (-(2 ^ 64) < i ∧ i < 2 ^ 64) ∨ (-(2 ^ 64) < j ∧ j < 2 ^ 64)
theorem CMul.ok {i j : Int} (h : CMul i j) : IntMulOk i j := by
  rcases h with ⟨h1, h2⟩ | ⟨h1, h2⟩
  · exact .of_left (intBits_le_64 h1 h2)
  · exact .of_right (intBits_le_64 h1 h2)
theorem op_add : OpR X (binaryOp .Add) (rI0 fun i j => .int (i + j)) := opI0 fun _ _ _ _ _ _ _ q => add_int q
theorem op_sub : OpR X (binaryOp .Sub) (rI0 fun i j => .int (i - j)) := opI0 fun _ _ _ _ _ _ _ q => sub_int q
theorem op_mul : OpR X (binaryOp .Mult) (rI CMul fun i j => .int (i * j)) := opI fun _ _ _ _ _ _ _ hc q => mul_int q hc.ok
theorem op_fdiv : OpR X (binaryOp .FloorDiv) (rI CDiv fun i j => .int (i / j)) := opI fun i j _ _ _ _ _ hc q => by
  have h1 : (0 : Int) < j := hc.1
  have h2 : j < 1073741824 := hc.2
  exact floordiv_int (by omega) (by rw [Int.fdiv_eq_ediv_of_nonneg i (by omega)]; exact q) (.inl (PyProof.noPylong_small (by omega)))
theorem op_mod : OpR X (binaryOp .Mod) (rI (fun _ j => 0 < j) fun i j => .int (i % j)) := opI fun i j _ _ _ _ _ hc q => by
  have h1 : (0 : Int) < j := hc
  exact mod_int' (by omega) (by rw [Int.fmod_eq_emod_of_nonneg i (by omega)]; exact q)
theorem op_pow : OpR X (binaryOp .Pow) (rI CPow fun i j => .int (i ^ j.toNat)) := opI fun _ _ _ _ _ _ _ hc q => pow_int_small hc.1 hc.2.1 hc.2.2 q
theorem unI {f : Value → Sem Value} {g : Int → Int}
    (rule : ∀ (i : Int) (t : Tok) (s : Shared) (Q : Value → Shared → Prop) (E : Value → Shared → Prop), Q (.int (g i) s.toks) { s with toks := s.toks + 1 } → wpAny (model X.prog X.w) X.A (f (.int i t)) Q E s) :
    UnR X f (rU fun i => .int (g i)) := by
  intro pins s σ H x v Q I rx h
  obtain ⟨i, rfl, q⟩ := h
  obtain ⟨t, rfl⟩ := rx
  exact rule i t s _ _ ⟨.int (g i), H, I.tok _, ⟨_, rfl⟩, q⟩
theorem un_neg : UnR X (unaryOp .USub) (rU fun i => .int (-i)) := unI fun _ _ _ _ _ q => neg_int q
end
def scal : V → V → Bool
  | .non, .non => true | .non, .int _ => true | .int _, .non => true | .non, .bl _ => true | .bl _, .non => true | .non, .str _ => true | .str _, .non => true
  | .int _, .int _ => true | .bl _, .bl _ => true | .str _, .str _ => true | .byt _, .byt _ => true
  | .int _, .str _ => true | .str _, .int _ => true | .bl _, .str _ => true | .str _, .bl _ => true
  | _, _ => false
def rEq : R2 := fun x y H Q => scal x y = true ∧ Q (.bl (decide (x = y))) H
theorem dec_int {i j : Int} : decide (V.int i = V.int j) = (i == j) := by
  rw [Bool.eq_iff_iff]
  simp
theorem dec_bl {i j : Bool} : decide (V.bl i = V.bl j) = (i == j) := by
  rw [Bool.eq_iff_iff]
  simp
theorem dec_str {i j : Str} : decide (V.str i = V.str j) = (i == j) := by
  rw [Bool.eq_iff_iff]
  simp
theorem dec_byt {i j : Array UInt8} : decide (V.byt i = V.byt j) = (i.toList == j.toList) := by
  rw [Bool.eq_iff_iff]
  cases i
  cases j
  simp
section
variable {X : Cx} {a b c : Expr} {ta tb tc : TE} {pos : Pos}
theorem fin_bl {pins : List (Addr × Obj)} {σ : St} {H : Hp} {s : Shared} {Q : VK} {k k' : Bool} (I : Inv X pins σ H s) (q : Q (.bl k) H) (e : k = k') : EP X pins σ Q (.bool k') s := by
  subst e
  exact ⟨.bl k, H, I, rfl, q⟩
theorem op_eq : OpR X (compareOp .Eq) rEq := by
  intro pins s σ H x y v u Q I rx ry h
  obtain ⟨hs, q⟩ := h
  cases x with
  | non =>
    cases rx
    cases y with
    | non => cases ry; exact PySem.EqNone.eq_none_none (fin_bl I q (by simp))
    | bl j => cases ry; exact PySem.EqNone.eq_none_bool (fin_bl I q (by simp))
    | int j => obtain ⟨t', rfl⟩ := ry; exact PySem.EqNone.eq_none_int (fin_bl I q (by simp))
    | str j => obtain ⟨t', rfl⟩ := ry; exact PySem.EqNone.eq_none_str (fin_bl I q (by simp))
    | _ => exact absurd (show false = true from hs) Bool.false_ne_true
  | bl i =>
    cases rx
    cases y with
    | non => cases ry; exact PySem.EqNone.eq_bool_none (fin_bl I q (by simp))
    | bl j => cases ry; exact eq_bool (fin_bl I q dec_bl)
    | str j => obtain ⟨t', rfl⟩ := ry; exact PySem.EqMixed.eq_bool_str (fin_bl I q (by simp))
    | _ => exact absurd (show false = true from hs) Bool.false_ne_true
  | int i =>
    obtain ⟨t, rfl⟩ := rx
    cases y with
    | non => cases ry; exact PySem.EqNone.eq_int_none (fin_bl I q (by simp))
    | int j => obtain ⟨t', rfl⟩ := ry; exact eq_int (fin_bl I q dec_int)
    | str j => obtain ⟨t', rfl⟩ := ry; exact PySem.EqMixed.eq_int_str (fin_bl I q (by simp))
    | _ => exact absurd (show false = true from hs) Bool.false_ne_true
  | str i =>
    obtain ⟨t, rfl⟩ := rx
    cases y with
    | non => cases ry; exact PySem.EqNone.eq_str_none (fin_bl I q (by simp))
    | bl j => cases ry; exact PySem.EqMixed.eq_str_bool (fin_bl I q (by simp))
    | int j => obtain ⟨t', rfl⟩ := ry; exact PySem.EqMixed.eq_str_int (fin_bl I q (by simp))
    | str j => obtain ⟨t', rfl⟩ := ry; exact eq_str (fin_bl I q dec_str)
    | _ => exact absurd (show false = true from hs) Bool.false_ne_true
  | byt i =>
    obtain ⟨t, rfl⟩ := rx
    cases y with
    | byt j => obtain ⟨t', rfl⟩ := ry; exact PySem.W.eq_bytes (fin_bl I q dec_byt)
    | _ => exact absurd (show false = true from hs) Bool.false_ne_true
  | _ => cases y <;> exact absurd (show false = true from hs) Bool.false_ne_true
theorem op_lt : OpR X (compareOp .Lt) (rI0 fun i j => .bl (decide (i < j))) := opB0 fun _ _ _ _ _ _ _ q => lt_int q
theorem op_le : OpR X (compareOp .LtE) (rI0 fun i j => .bl (decide (i ≤ j))) := opB0 fun _ _ _ _ _ _ _ q => le_int q
theorem op_gt : OpR X (compareOp .Gt) (rI0 fun i j => .bl (decide (j < i))) := opB0 fun _ _ _ _ _ _ _ q => gt_int q
theorem nomark (b : Expr) {op : CmpOp} (h : op ≠ .In := by decide) (h2 : op ≠ .NotIn := by decide) : behindInMarks op b = false := by
  have e1 : (op == CmpOp.In) = false := by cases op <;> first | rfl | exact absurd rfl h
  have e2 : (op == CmpOp.NotIn) = false := by cases op <;> first | rfl | exact absurd rfl h2
  cases b <;> simp [behindInMarks, e1, e2]
theorem pe_cmpR {op : CmpOp} {r : R2} (ho : OpR X (compareOp op) r) (ha : PE X a ta) (hb : PE X b tb) (hm : behindInMarks op b = false) : PE X (.Compare a [op] [b] pos) (tOp r ta tb) := by
  intro pins s σ H Q I h
  exact wpAny_Compare1 (binT ha hb I h fun v u s2 x y H2 I2 rx ry q => ho pins s2 σ H2 x y v u Q I2 rx ry q) hm
def tTest (t : TE) : TT := fun σ H Q => t σ H fun x H' => ∃ k, x = .bl k ∧ Q k H'
theorem pt_cmpR {op : CmpOp} {r : R2} (ho : OpR X (compareOp op) r) (ha : PE X a ta) (hb : PE X b tb) (hm : behindInMarks op b = false) : PT X (.Compare a [op] [b] pos) (tTest (tOp r ta tb)) := by
  intro pins s σ H Q I h
  refine wpAny_isTrue_Compare1 (thn (ha pins s σ H _ I h) fun v s1 ⟨x, H1, I1, r1, q1⟩ => thn (hb pins s1 σ H1 _ I1 q1) fun u s2 ⟨y, H2, I2, r2, q2⟩ =>
    thn (ho pins s2 σ H2 x y v u _ I2 r1 r2 q2) fun c s3 ⟨z, H3, I3, r3, k, e, q3⟩ => ?_) hm
  subst e
  cases r3
  exact wpAny_truthy_bool ⟨H3, I3, q3⟩
def tChain (r r' : R2) (ta tb tc : TE) : TE := fun σ H Q => ta σ H fun x H1 => tb σ H1 fun y H2 => r x y H2 fun z H3 => ∃ k, z = .bl k ∧
  (if k = true then tc σ H3 fun w' H4 => r' y w' H4 Q else Q (.bl false) H3)
theorem pe_chain {op op' : CmpOp} {r r' : R2} (ho : OpR X (compareOp op) r) (ho' : OpR X (compareOp op') r') (ha : PE X a ta) (hb : PE X b tb) (hc : PE X c tc)
    (hm : lastMarks [op, op'] [b, c] = false := by with_unfolding_all rfl) : PE X (.Compare a [op, op'] [b, c] pos) (tChain r r' ta tb tc) := by
  intro pins s σ H Q I h
  refine Compare_chain (thn (ha pins s σ H _ I h) fun v s1 ⟨x, H1, I1, r1, q1⟩ => chain_link (thn (hb pins s1 σ H1 _ I1 q1) fun u s2 ⟨y, H2, I2, r2, q2⟩ =>
    thn (ho pins s2 σ H2 x y v u _ I2 r1 r2 q2) fun d s3 ⟨z, H3, I3, r3, k, e, q3⟩ => ?_)) hm
  subst e
  cases r3
  refine wpAny_truthy_bool ?_
  cases k with
  | false => exact ite_ff ⟨.bl false, H3, I3, rfl, q3⟩
  | true => exact ite_tt (chain_last (thn (hc pins s3 σ H3 _ I3 q3) fun w' s4 ⟨z', H4, I4, r4, q4⟩ => ho' pins s4 σ H4 y z' u w' Q I4 r2 r4 q4))
theorem line63 : (sizeLine : Nat) < 2 ^ 63 := by rw [sizeLine_eq]; decide
theorem vals1 {x : V} {us : List Value} (r : Vals [x] us) : ∃ u, us = [u] ∧ RelV x u := by
  cases r with
  | cons r1 r2 => cases r2; exact ⟨_, rfl, r1⟩
theorem vals2 {x y : V} {us : List Value} (r : Vals [x, y] us) : ∃ u w', us = [u, w'] ∧ RelV x u ∧ RelV y w' := by
  cases r with
  | cons r1 r2 =>
    cases r2 with
    | cons r3 r4 => cases r4; exact ⟨_, _, rfl, r1, r3⟩
end
end L2
namespace L2
open PySem PySem.Spec PyProof.Rows
structure ObjM (h : Heap) (x dx C : Addr) (mA : Str → Option Value) : Prop where
  obj : h.get? x = some (PySem.W.instObj C dx)
  ns : h.Ns1 dx mA
  ne : dx ≠ x
theorem lookIn_ns {h : Heap} {dx : Addr} {mA : Str → Option Value} (n : h.Ns1 dx mA) : ∃ od, h.get? dx = some od ∧ ∀ name, PySem.W.lookIn name od = some (mA name) := by
  obtain ⟨o, es, ep, ho, hd, hk, _, hm⟩ := n
  refine ⟨o, ho, fun name => ?_⟩
  have e := hm name
  unfold nsFind findBy at e
  rw [← Array.find?_toList] at e
  unfold PySem.W.lookIn
  rw [hd]
  dsimp only
  split
  · rename_i y q
    rw [q] at e
    exact congrArg some e
  · rename_i q
    rw [q] at e
    have a : es.toList.any (·.refKey) = false := by
      rw [List.any_eq_false]
      intro y hy
      obtain ⟨z, t, hkey⟩ := hk y (Array.mem_toList_iff.mp hy)
      simp [DictEntry.refKey, hkey]
    have a' : ¬ es.toList.any (·.refKey) = true := by rw [a]; exact Bool.false_ne_true
    rw [if_neg a']
    exact congrArg some e
theorem ObjM.look {h : Heap} {x dx C : Addr} {mA : Str → Option Value} (I : ObjM h x dx C mA) : ∃ od, PySem.W.InstAt h x (PySem.W.instObj C dx) C (some od) ∧ ∀ name, PySem.W.lookIn name od = some (mA name) :=
  let ⟨od, ho, hl⟩ := lookIn_ns I.ns
  ⟨od, ⟨I.obj, rfl, rfl, ho⟩, hl⟩
section
variable {prog : Program} {w : World} {A : Around} {E : Value → Shared → Prop} {s : Shared} {K : PySem.W.Frag} {x dx C f : Addr} {mA : Str → Option Value} {name : Str} {v : Value}
end
section
variable {P : Program} {w : World} {H H' : Hp} {h h' : Heap} {a C dx : Addr} {fs fs' : List (Str × V)}
theorem ins_get (hok : HOk P w H h) (e : H a = some (.ins C dx fs)) : ∃ mA, ObjM h a dx C mA ∧ (∀ f, RelO (fs.lookup f) (mA f)) ∧ PySem.Within mA (fs.map (·.1)) ∧ fs.length ≤ 1000 ∧ H dx = some (.own a) := by
  obtain ⟨d, z, ne, ob, mA, n, r, q⟩ := (show ObjOk P w H h a (.ins C dx fs) from hok a _ e)
  exact ⟨mA, ⟨ob, n, ne⟩, r, q, z, d⟩
end
structure Cls (K : PySem.W.Frag) (C : Addr) : Prop where
  pg : PySem.W.plainGet K C Str.empty = true
  hd : PySem.W.hasDictIn K C = true
  po : PySem.W.plainOver K C = true
  sa : PySem.W.findIn K (.ref C) "__setattr__" = some (some (.builtin "object.__setattr__"))
theorem Cls.get {K : PySem.W.Frag} {C : Addr} (c : Cls K C) (f : Str) : PySem.W.plainGet K C f = true := c.pg
structure Con (K : PySem.W.Frag) (C : Addr) (f : Str) (v : V) (u : Value) : Prop where
  at_ : PySem.W.findIn K (.ref C) f = some (some u)
  rel : RelV v u
  get : PySem.W.specialIn K u "__get__" = some none
  cp : PySem.W.copiedNames.contains f = false
structure Meth (K : PySem.W.Frag) (C : Addr) (m : Str) (f : Addr) : Prop where
  at_ : PySem.W.findIn K (.ref C) m = some (some (.ref f))
  fn : PySem.W.isFn K (.ref f) = true
  kp : PySem.W.keepIn K (.ref f) = true
section
variable {X : Cx} {pins : List (Addr × Obj)} {σ : St} {H : Hp} {s : Shared} {a C dx : Addr} {fs : List (Str × V)} {f : Str} {v : V} {A : Around} {E : Value → Shared → Prop}
theorem Inv.made (I : Inv X pins σ H s) : Inv X pins σ (upd (upd H s.heap.objs.size (.own (s.heap.objs.size + 1))) (s.heap.objs.size + 1) (.ins C s.heap.objs.size []))
    { s with heap := (s.heap.push PySem.W.emptyDict).push (PySem.W.instObj C s.heap.objs.size) } := by
  have e1 : (s.heap.push PySem.W.emptyDict).get? s.heap.objs.size = some PySem.W.emptyDict := Heap.get?_push_size s.heap rfl
  have e2 : ((s.heap.push PySem.W.emptyDict).push (PySem.W.instObj C s.heap.objs.size)).get? (s.heap.objs.size + 1) = some (PySem.W.instObj C s.heap.objs.size) := by
    have := Heap.get?_push_size (s.heap.push PySem.W.emptyDict) (o := PySem.W.instObj C s.heap.objs.size) rfl
    rwa [Heap.size_push] at this
  have e3 : (s.heap.push PySem.W.emptyDict).Ns s.heap.objs.size (fun _ => none) := ⟨PySem.W.emptyDict, #[], _, e1, rfl, (fun e he => absurd he (by simp)), fun _ => rfl⟩
  have I1 := I.laid (a := s.heap.objs.size) (o := .own (s.heap.objs.size + 1)) (h' := s.heap.push PySem.W.emptyDict) (t' := s.toks) (fun b u q => Heap.get?_push_of_some _ q) (Nat.le_refl _) ⟨_, e1⟩
  refine I1.laid (a := s.heap.objs.size + 1) (o := .ins C s.heap.objs.size []) (t' := s.toks) (fun b u q => Heap.get?_push_of_some _ q) (Nat.le_of_eq (Heap.size_push _ _)) ?_
  have ne : s.heap.objs.size ≠ s.heap.objs.size + 1 := Nat.ne_of_lt (Nat.lt_succ_self _)
  refine ⟨by rw [upd_ne ne, upd_same], Nat.zero_le _, ne, e2, fun _ => none, (Heap.Ns1.of_empty e3).at fun o q => Heap.get?_push_of_some _ q, fun _ => True.intro, fun y hy => absurd rfl hy⟩
end
section
variable {X : Cx} {o e value : Expr} {f : Str} {pos pos' tpos : Pos} {ta tv : TE}
end
section
variable {X : Cx} {pins : List (Addr × Obj)} {σ : St} {H : Hp} {s : Shared} {A : Around} {E : Value → Shared → Prop} {Q : Value → Shared → Prop} {c : Value} {b : Bool}
inductive TyOf (K : PySem.W.Frag) (H : Hp) : V → Value → Prop where
  | non : TyOf K H .non (.type "NoneType")
  | bl (x : Bool) : TyOf K H (.bl x) (.type "bool")
  | int (i : Int) : TyOf K H (.int i) (.type "int")
  | str (x : Str) : TyOf K H (.str x) (.type "str")
  | flt (x : UInt64) : TyOf K H (.flt x) (.type "float")
  | lst {a : Addr} {xs : List V} (e : H a = some (.lst xs)) : TyOf K H (.ref a) (.type "list")
  | frz {a : Addr} {o : Obj} {xs : List V} (e : H a = some (.frz o (.lst xs))) : TyOf K H (.ref a) (.type "list")
  | tup {a : Addr} {xs : List V} (e : H a = some (.tup xs)) : TyOf K H (.ref a) (.type "tuple")
  | dK {a : Addr} {kvs : List (Key × V)} (e : H a = some (.dK kvs)) : TyOf K H (.ref a) (.type "dict")
  | dT {a : Addr} {kvs : List (List Key × V)} (e : H a = some (.dT kvs)) : TyOf K H (.ref a) (.type "dict")
  | ins {a C dx : Addr} {fs : List (Str × V)} (e : H a = some (.ins C dx fs)) (cl : Cls K C) (ha : PySem.W.findIn K (.ref C) "__class__" = some (some (.builtin "object.__class__")))
      (hn : PySem.W.specialIn K (.builtin "object.__class__") "__get__" = some (some (.builtin "getset_descriptor.__get__"))) (htk : PySem.W.takesIn K (.builtin "object.__class__") = some true)
      (hm : PySem.W.mroIn K C (.type "object") = some true) : TyOf K H (.ref a) (.ref C)
theorem isinst_ok {x : V} {u t : Value} (I : Inv X pins σ H s) (rx : RelV x u) (ty : TyOf X.K H x t) (e : PySem.W.kitOne X.K t c = some b) (h : ∀ tk, Q (.bool b) { s with toks := tk }) :
    wpAny (model X.prog X.w) A (call (.builtin "isinstance") [u, c]) Q E s := by
  cases ty with
  | non => cases (show u = Value.none from rx); exact PySem.W.kia_one PySem.W.kitx_none I.kIn True.intro e (fun z => nomatch z) h
  | bl y => cases (show u = Value.bool y from rx); exact PySem.W.kia_one PySem.W.kitx_bool I.kIn True.intro e (fun z => nomatch z) h
  | int i => obtain ⟨t, q⟩ := (show ∃ t, u = Value.int i t from rx); cases q; exact PySem.W.kia_one PySem.W.kitx_int I.kIn True.intro e (fun z => nomatch z) h
  | str y => obtain ⟨t, q⟩ := (show ∃ t, u = Value.str y t from rx); cases q; exact PySem.W.kia_one PySem.W.kitx_str I.kIn True.intro e (fun z => nomatch z) h
  | flt y => obtain ⟨t, q⟩ := (show ∃ t, u = Value.float y t from rx); cases q; exact PySem.W.kia_one PySem.W.kitx_float I.kIn True.intro e (fun z => nomatch z) h
  | @lst a xs ea =>
    cases (show u = Value.ref a from rx)
    obtain ⟨_, _, n, _, h1⟩ := (show ObjOk X.prog X.w H s.heap a (.lst xs) from I.hok a _ ea)
    exact PySem.W.kia_one PySem.W.kitx_list I.kIn ⟨_, h1, rfl⟩ e (fun z => nomatch z) h
  | @frz a ob xs ea =>
    cases (show u = Value.ref a from rx)
    obtain ⟨_, _, _, n, _, h1⟩ := (show ObjOk X.prog X.w H s.heap a (.frz ob (.lst xs)) from I.hok a _ ea)
    exact PySem.W.kia_one PySem.W.kitx_list I.kIn ⟨_, h1, rfl⟩ e (fun z => nomatch z) h
  | @tup a xs ea =>
    cases (show u = Value.ref a from rx)
    obtain ⟨_, _, _, p⟩ := (show ObjOk X.prog X.w H s.heap a (.tup xs) from I.hok a _ ea)
    obtain ⟨o, h1, h2, _⟩ := p
    exact PySem.W.kia_one PySem.W.kitx_tuple I.kIn ⟨o, h1, h2⟩ e (fun z => nomatch z) h
  | @dK a kvs ea =>
    cases (show u = Value.ref a from rx)
    obtain ⟨_, _, vs, _, p⟩ := (show ObjOk X.prog X.w H s.heap a (.dK kvs) from I.hok a _ ea)
    obtain ⟨o, es, ep, h1, h2, _⟩ := p
    exact PySem.W.kia_one PySem.W.kitx_dict I.kIn ⟨o, h1, h2.1⟩ e (fun z => nomatch z) h
  | @dT a kvs ea =>
    cases (show u = Value.ref a from rx)
    obtain ⟨_, _, xs, _, o, es, ep, h1, h2, _⟩ := (show ObjOk X.prog X.w H s.heap a (.dT kvs) from I.hok a _ ea)
    exact PySem.W.kia_one PySem.W.kitx_dict I.kIn ⟨o, h1, h2.1⟩ e (fun z => nomatch z) h
  | @ins a C dx fs ea cl ha hn htk hm =>
    cases (show u = Value.ref a from rx)
    obtain ⟨mA, O, _⟩ := ins_get I.hok ea
    obtain ⟨od, J, _⟩ := O.look
    exact PySem.W.kia_one (PySem.W.kitx_own (cl.get _) cl.hd ha hn htk hm) I.kIn J e (fun z => nomatch z) h
end
end L2
namespace L2
open PySem PySem.Spec PyProof.Rows
structure Room (k : Nat) (A : Around) : Prop where
  hd : A.handled = none
  dp : A.depth + 3 * k + 5 < recursionLimit
  un : A.units + 16 * k + 200 < cLine
theorem Room.mono {j k : Nat} {A : Around} (r : Room k A) (h : j ≤ k) : Room j A := ⟨r.hd, by have := r.dp; omega, by have := r.un; omega⟩
theorem Room.deeper {k : Nat} {A : Around} (r : Room (k + 1) A) (env : Env) : Room k (A.deeper env) :=
  ⟨r.hd, by have := r.dp; show A.depth + 1 + 3 * k + 5 < _; omega, by have := r.un; show A.units + 3 + 16 * k + 200 < _; omega⟩
theorem Room.in1 {k : Nat} {A : Around} (r : Room (k + 1) A) : Room k A.in1 :=
  ⟨r.hd, by have := r.dp; show A.depth + 3 * k + 5 < _; omega, by have := r.un; show A.units + 1 + 16 * k + 200 < _; omega⟩
theorem Room.depth {k : Nat} {A : Around} (r : Room k A) : A.depth < recursionLimit := by have := r.dp; omega
theorem Room.units {k : Nat} {A : Around} (r : Room k A) : A.units + 64 < cLine := by have := r.un; omega
def tNil : TA := fun _ H Q => Q [] H
def tCons (ta : TE) (tr : TA) : TA := fun σ H Q => ta σ H fun x H1 => tr σ H1 fun xs H2 => Q (x :: xs) H2
section
variable {X : Cx} {e : Expr} {es : List Expr} {te : TE} {t : TA} {pos : Pos}
theorem pa_nil : PA X [] tNil := fun _ _ _ _ H Q I h => Calls.spliced_nil ⟨[], H, I, .nil, h⟩
theorem pa_cons (ha : PE X e te) (hr : PA X es t) (hs : starEach (e :: es) X.env = (false, eval e X.env) :: starEach es X.env := by rfl) : PA X (e :: es) (tCons te t) := by
  intro pos pins s σ H Q I h
  rw [hs]
  show wpAny _ _ (spliced ((false, eval e X.env) :: backTo pos (starEach es X.env))) _ _ s
  refine Calls.spliced_cons (thn (ha pins s σ H _ I h) fun u s1 ⟨x, H1, I1, r1, q1⟩ => ?_)
  exact thn (hr pos pins s1 σ H1 _ I1 q1) fun us s2 ⟨xs, H2, I2, r2, q2⟩ => ⟨x :: xs, H2, I2, .cons r1 r2, q2⟩
def tTup (t : TA) : TE := fun σ H Q => t σ H fun xs H1 => xs.length ≤ sizeLine ∧ ∀ p, H1 p = none → Q (.ref p) (upd H1 p (.tup xs))
def tLst (t : TA) : TE := fun σ H Q => t σ H fun xs H1 => xs.length ≤ sizeLine ∧ ∀ p, H1 p = none → Q (.ref p) (upd H1 p (.lst xs))
theorem pe_tup {x1} (h : PA X es t) : PE X (.Tuple es x1 pos) (tTup t) := by
  intro pins s σ H Q I hq
  refine wpAny_Tuple_spliced (thn (h pos pins s σ H _ I hq) fun us s1 ⟨xs, H1, I1, r, z, q⟩ => ⟨by rw [← r.length]; exact z, ?_⟩)
  have hf : H1 s1.heap.objs.size = none := I1.hok.fresh (Nat.le_refl _)
  refine ⟨.ref s1.heap.objs.size, upd H1 s1.heap.objs.size (.tup xs), I1.laid (t' := s1.toks) (fun b u e => Heap.get?_push_of_some _ e) (Nat.le_refl _) ?_, rfl, q _ hf⟩
  exact ⟨z, us, r, ⟨_, Heap.get?_push_size _ rfl, rfl, _, rfl⟩⟩
theorem pe_lst (h : PA X es t) : PE X (.List es pos) (tLst t) := by
  intro pins s σ H Q I hq
  refine wpAny_List_spliced (thn (h pos pins s σ H _ I hq) fun us s1 ⟨xs, H1, I1, r, z, q⟩ => ⟨by rw [← r.length]; exact z, ?_⟩)
  have hf : H1 s1.heap.objs.size = none := I1.hok.fresh (Nat.le_refl _)
  refine ⟨.ref s1.heap.objs.size, upd H1 s1.heap.objs.size (.lst xs), I1.laid (t' := s1.toks) (fun b u e => Heap.get?_push_of_some _ e) (Nat.le_refl _) ?_, rfl, q _ hf⟩
  exact ⟨z, us, 0, r, Heap.get?_push_size _ rfl⟩
end
abbrev Sp := List V → Hp → VK → XK → Prop
abbrev CXT := List Env → Hp → Shared → XK → Value → Shared → Prop
structure Env0 (P : Program) (w : World) (K : PySem.W.Frag) (mg : Str → Option Value) (base : Heap) (A : Around) (outer : List Env) (s : Shared) (H : Hp) : Prop where
  frames : A.frames = some outer
  mod : Mod K mg base
  bs : ∀ b o, base.get? b = some o → s.heap.get? b = some o ∧ H b = none
  bsz : base.objs.size ≤ s.heap.objs.size
  funs : s.heap.FunFrames base outer
  frf : ∀ b ∈ frs outer, H b = none
  hok : HOk P w H s.heap
  bare : AllBare s.gens
def CE (outer : List Env) (P : Program) (w : World) (H : Hp) (s : Shared) (Q : VK) (u : Value) (s' : Shared) : Prop :=
  ∃ v H', s'.os = s.os ∧ AllBare s'.gens ∧ Un (frs outer) [] H H' s.heap s'.heap ∧ HOk P w H' s'.heap ∧ RelV v u ∧ Q v H'
def CR (CX : CXT) (outer : List Env) (P : Program) (w : World) (H : Hp) (s : Shared) (Q : VK) (E : XK) (r : Result) (s' : Shared) : Prop :=
  match r with
  | .ok (.ret u) => CE outer P w H s Q u s'
  | .ok _ => False
  | .error e => CX outer H s E e s'
structure FnOk (P : Program) (w : World) (K : PySem.W.Frag) (mg : Str → Option Value) (base : Heap) (CX : CXT) (k : Nat) (f : Addr) (fd : FuncData) (ps : List Str) (sp : Sp) : Prop where
  len : ∀ vs H Q E, sp vs H Q E → vs.length = ps.length
  run : ∀ (A : Around) (outer : List Env) (s : Shared) (H : Hp) (args : Args) (us : List Value) (vs : List V) (Q : VK) (E : XK), Room k A → Env0 P w K mg base A outer s H → BindsTo s fd args (ps.zip us) → Vals vs us → sp vs H Q E →
    codeAny (model P w) A (.call (.ref f) args) (CR CX outer P w H s Q E) s
theorem FnOk.mono {P : Program} {w : World} {K : PySem.W.Frag} {mg : Str → Option Value} {base : Heap} {CX : CXT} {j k : Nat} {f : Addr} {fd : FuncData} {ps : List Str} {sp : Sp} (F : FnOk P w K mg base CX j f fd ps sp) (h : j ≤ k) :
    FnOk P w K mg base CX k f fd ps sp := ⟨F.len, fun A outer s H args us vs Q E hr => F.run A outer s H args us vs Q E (hr.mono h)⟩
theorem Env0.in1 {P : Program} {w : World} {K : PySem.W.Frag} {mg : Str → Option Value} {base : Heap} {A : Around} {outer : List Env} {s : Shared} {H : Hp} (e : Env0 P w K mg base A outer s H) :
    Env0 P w K mg base A.in1 outer s H := ⟨e.frames, e.mod, e.bs, e.bsz, e.funs, e.frf, e.hok, e.bare⟩
section
variable {X : Cx} {pins : List (Addr × Obj)} {σ : St} {H : Hp} {s s' : Shared}
theorem Inv.env0 (I : Inv X pins σ H s) : Env0 X.prog X.w X.K X.mg X.base X.A X.stack s H :=
  ⟨I.ok.frames, I.ok.mod, I.bs, Nat.le_trans I.ok.bsz I.sz, I.stack, I.stkFree, I.hok, I.bare⟩
theorem Inv.after {Q : VK} {u : Value} (I : Inv X pins σ H s) (h : CE X.stack X.prog X.w H s Q u s') : EP X pins σ Q u s' := by
  obtain ⟨v, H', os, bare, un, hok, r, q⟩ := h
  obtain ⟨hh, g, d, t, os'⟩ := s'
  obtain rfl : os' = s.os := os
  exact ⟨v, H', I.call (h' := hh) (g' := g) (d' := d) (t' := t) (ch := []) un hok bare (fun b z => absurd z (by simp)), r, q⟩
end
def tCall (sp : Sp) (dvs : List V) (E : XK) (t : TA) : TE := fun σ H Q => t σ H fun vs H1 => sp (vs ++ dvs) H1 Q E
def Binds (K : PySem.W.Frag) (fd : FuncData) (ps : List Str) (ds : List Value) : Prop :=
  ∀ (s : Shared) (us : List Value), K.In s.heap → (us ++ ds).length = ps.length → BindsTo s fd ⟨us, []⟩ (ps.zip (us ++ ds))
theorem Binds.all {K : PySem.W.Frag} {fd : FuncData} {ps : List Str} (h : ∀ us : List Value, us.length = ps.length → bindArgs fd ⟨us, []⟩ = pure (ps.zip us)) : Binds K fd ps [] := fun s us _ hl => by
  rw [List.append_nil] at hl ⊢
  exact .of_eq (h us hl)
def Passes (CX : CXT) (X : Cx) (E : XK) : Prop := ∀ (pins : List (Addr × Obj)) (σ : St) (H : Hp) (s : Shared) (e : Value) (s' : Shared), Inv X pins σ H s → CX X.stack H s E e s' → X.xe e s'
section
variable {X : Cx} {CX : CXT} {k : Nat} {f C : Addr} {fd : FuncData} {ps : List Str} {sp : Sp} {dvs : List V} {ds : List Value} {E : XK} {x m : Str} {p pos apos : Pos} {e o : Expr} {es : List Expr} {ta : TE} {t : TA}
theorem run_fn {pins : List (Addr × Obj)} {σ : St} {H : Hp} {s : Shared} {Q : VK} {us : List Value} {vs : List V} (F : FnOk X.prog X.w X.K X.mg X.base CX k f fd ps sp) (hr : Room k X.A) (hb : Binds X.K fd ps ds) (hd : Vals dvs ds) (hx : Passes CX X E)
    (I : Inv X pins σ H s) (r : Vals vs us) (h : sp (vs ++ dvs) H Q E) : wpAny (model X.prog X.w) X.A (call (.ref f) us) (EP X pins σ Q) X.xe s := by
  have r2 : Vals (vs ++ dvs) (us ++ ds) := r.append hd
  have hl : (us ++ ds).length = ps.length := by rw [← r2.length]; exact F.len _ _ _ _ h
  refine wpAny_call (codeAny_mono (F.run X.A X.stack s H ⟨us, []⟩ (us ++ ds) (vs ++ dvs) Q E hr I.env0 (hb s us I.kIn hl) r2 h) fun r s' hq => ?_)
  cases r with
  | error e => exact hx pins σ H s e s' I hq
  | ok fl =>
    cases fl with
    | ret u => exact I.after hq
    | next => exact False.elim hq
    | brk => exact False.elim hq
    | cont => exact False.elim hq
theorem pe_call (F : FnOk X.prog X.w X.K X.mg X.base CX k f fd ps sp) (hr : Room k X.A) (hg : Gl X x) (hm : X.mg x = some (.ref f)) (hk : PySem.W.keepIn X.K (.ref f) = true) (hb : Binds X.K fd ps ds) (hd : Vals dvs ds) (hx : Passes CX X E)
    (ha : PA X (e :: es) t) (hdb : (x == ("__debug__" : Str)) = false := by decide) (he : starEach (e :: es) X.env = (false, eval e X.env) :: starEach es X.env := by rfl) (hpl : (backTo pos (starEach es X.env)).any (·.1) = false := by rfl) :
    PE X (.Call (.Name x p) (e :: es) [] pos) (tCall sp dvs E t) := by
  intro pins s σ H Q I h
  refine wpAny_Call_Name_kw (ld_glob I hg hm ?_ hdb)
  refine PySem.W.callWith_K (h₀ := X.base) I.ok.mod.kin hk (thn (ha pos pins s σ H _ I h) fun us s1 ⟨vs, H1, I1, r, q⟩ => ⟨I1.kIn, ?_⟩) he hpl
  exact run_fn F hr hb hd hx I1 r q
structure Mk (K : PySem.W.Frag) (C f : Addr) : Prop where
  makes : PySem.W.makesIn K C = true
  init : PySem.W.findIn K (.ref C) "__init__" = some (some (.ref f))
  fn : PySem.W.isFn K (.ref f) = true
  kp : PySem.W.keepIn K (.ref C) = true
end
section
variable {X : Cx} {CX : CXT} {k : Nat} {f C : Addr} {fd : FuncData} {ps ks : List Str} {sp : Sp} {E : XK} {x m : Str} {p pos apos kpos : Pos} {e o : Expr} {es : List Expr} {kws : List Keyword} {te ta : TE} {t tk : TA} {nm : Option Str}
structure KBinds (K : PySem.W.Frag) (fd : FuncData) (ps ks : List Str) (g : List Value → List Value → List Value) (gV : List V → List V → List V) : Prop where
  to : ∀ (s : Shared) (us ws : List Value), K.In s.heap → (g us ws).length = ps.length → BindsTo s fd ⟨us, ks.zip ws⟩ (ps.zip (g us ws))
  rel : ∀ {vs : List V} {us : List Value} {zs : List V} {ws : List Value}, Vals vs us → Vals zs ws → Vals (gV vs zs) (g us ws)
variable {g : List Value → List Value → List Value} {gV : List V → List V → List V}
end
structure FnScope (N P : List Str) (sc : Scope) : Prop where
  kind : sc.kind = .function
  co : sc.isCoroutine = false
  gen : sc.isGenerator = false
  nd : N.Nodup
  pre : N.take P.length = P
  par : ∀ x ∈ P, sc.names.lookup x = some .local ∨ sc.names.lookup x = some .cell
  nofree : ∀ y ∈ sc.names, y.2 ≠ .free
theorem bindL_out {kindOf : Str → Option NameKind} {x : Str} : ∀ {binds : List (Str × Value)} {m : Str → Option Value}, (∀ v, (x, v) ∉ binds) → bindL kindOf binds m x = m x
  | [], _, _ => rfl
  | (n, v) :: r, m, h => by
    unfold bindL
    rw [bindL_out fun w hw => h w (List.mem_cons_of_mem _ hw)]
    split
    · have : x ≠ n := by rintro rfl; exact h v List.mem_cons_self
      simp [this]
    · rfl
theorem bindC_out {kindOf : Str → Option NameKind} {x : Str} : ∀ {binds : List (Str × Value)} {m : Str → Option Value}, (∀ v, (x, v) ∉ binds) → bindC kindOf binds m x = m x
  | [], _, _ => rfl
  | (n, v) :: r, m, h => by
    unfold bindC
    rw [bindC_out fun w hw => h w (List.mem_cons_of_mem _ hw)]
    split
    · rfl
    · have : x ≠ n := by rintro rfl; exact h v List.mem_cons_self
      simp [this]
theorem bindL_get {kindOf : Str → Option NameKind} {x : Str} {v : Value} : ∀ {P : List Str} {vs : List Value} {i : Nat} {m : Str → Option Value}, P.Nodup → P[i]? = some x → vs[i]? = some v → kindOf x = some .local →
    bindL kindOf (P.zip vs) m x = some v
  | [], _, _, _, _, h, _, _ => by simp at h
  | _ :: _, [], _, _, _, _, h, _ => by simp at h
  | p :: P, w :: vs, 0, m, nd, h1, h2, hk => by
    simp at h1 h2; subst h1; subst h2
    show bindL kindOf ((p, w) :: P.zip vs) m p = _
    unfold bindL
    rw [bindL_out fun v hv => (List.nodup_cons.mp nd).1 (List.of_mem_zip hv).1, if_pos hk]
    simp
  | p :: P, w :: vs, i + 1, m, nd, h1, h2, hk => by
    show bindL kindOf ((p, w) :: P.zip vs) m x = _
    unfold bindL
    exact bindL_get (i := i) (List.nodup_cons.mp nd).2 (by simpa using h1) (by simpa using h2) hk
theorem bindC_get {kindOf : Str → Option NameKind} {x : Str} {v : Value} : ∀ {P : List Str} {vs : List Value} {i : Nat} {m : Str → Option Value}, P.Nodup → P[i]? = some x → vs[i]? = some v → kindOf x ≠ some .local →
    bindC kindOf (P.zip vs) m x = some v
  | [], _, _, _, _, h, _, _ => by simp at h
  | _ :: _, [], _, _, _, _, h, _ => by simp at h
  | p :: P, w :: vs, 0, m, nd, h1, h2, hk => by
    simp at h1 h2; subst h1; subst h2
    show bindC kindOf ((p, w) :: P.zip vs) m p = _
    unfold bindC
    rw [bindC_out fun v hv => (List.nodup_cons.mp nd).1 (List.of_mem_zip hv).1, if_neg hk]
    simp
  | p :: P, w :: vs, i + 1, m, nd, h1, h2, hk => by
    show bindC kindOf ((p, w) :: P.zip vs) m x = _
    unfold bindC
    exact bindC_get (i := i) (List.nodup_cons.mp nd).2 (by simpa using h1) (by simpa using h2) hk
def start (N : List Str) (vs : List V) : St := vs.map some ++ List.replicate (N.length - vs.length) none
def cxOf (CX : CXT) (P : Program) (w : World) (K : PySem.W.Frag) (mg : Str → Option Value) (base : Heap) (N : List Str) (qual : Str) (scope : Scope) (f : Addr) (cd : Value) (A : Around) (outer : List Env) (s : Shared) (H : Hp) (E : XK) : Cx where
  prog := P
  w := w
  K := K
  mg := mg
  base := base
  A := A.deeper (envOfC qual scope s.heap.objs.size f cd)
  N := N
  s₀ := s
  H₀ := H
  env := envOfC qual scope s.heap.objs.size f cd
  outer := outer
  stack := envOfC qual scope s.heap.objs.size f cd :: outer
  ex := []
  calm := true
  fn := fun _ => true
  pn := []
  xe := fun e s' => wpAny (model P w) (A.deeper (envOfC qual scope s.heap.objs.size f cd)) (leaving (envOfC qual scope s.heap.objs.size f cd) e) (fun _ s'' => CX outer H s E e s'') (fun e' s'' => CX outer H s E e' s'') s'
theorem cell_has {sc : Scope} {n : Nat} {x : Str} (h : sc.names.lookup x = some .cell) : ∃ c, (cellsFrom n sc.names []).lookup x = some c := by
  have q := PySem.W.cellsFrom_some sc.names n [] (.inl h)
  exact Option.isSome_iff_exists.mp q
theorem inv_start {CX : CXT} {P : Program} {w : World} {K : PySem.W.Frag} {mg : Str → Option Value} {base : Heap} {N ps : List Str} {qual : Str} {scope : Scope} {f : Addr} {cd : Value} {A : Around} {outer : List Env} {s s1 : Shared} {H : Hp} {E : XK} {us : List Value} {vs : List V}
    (S : FnScope N ps scope) (hd : A.handled = none) (e0 : Env0 P w K mg base A outer s H) (hl : vs.length = ps.length) (r : Vals vs us)
    (x : InCallC s s.heap.objs.size (bindL (envOfC qual scope s.heap.objs.size f cd).kindOf (ps.zip us) fun _ => none) (cellsFrom (s.heap.objs.size + 1) scope.names []) (bindC (envOfC qual scope s.heap.objs.size f cd).kindOf (ps.zip us) fun _ => none) s1) :
    Inv (cxOf CX P w K mg base N qual scope f cd A outer s H E) [] (start N vs) H s1 := by
  have hpl : ps.length ≤ N.length := by have := congrArg List.length S.pre; rw [List.length_take] at this; omega
  obtain ⟨h1, tk, rfl, hk⟩ := x.done
  have noA : ∀ b : Addr, b ∉ (cxOf CX P w K mg base N qual scope f cd A outer s H E).ex := fun b z => absurd (show b ∈ ([] : List Addr) from z) (by simp)
  refine ⟨⟨e0.mod, S.kind, rfl, rfl, Nat.le_refl _, fun y z c h1 h2 => ?_, fun y hy => ?_, fun y c _ h => ?_, fun _ => hd, Around.frames_deeper e0.frames, .inr ⟨rfl, rfl⟩, fun b z => absurd z (noA b), e0.bs, e0.bsz, fun b _ _ => noA b, fun b z => absurd z (noA b), e0.funs, e0.frf⟩,
    rfl, e0.bare, Un.kept hk, ⟨_, x.toInCall.ns, fun i y v h1 h2 h3 => ?_⟩, fun y c h => ⟨_, x.cell y c h⟩, e0.hok.fresh (Nat.le_refl _), fun y c h => ?_, fun p hp => absurd (show p ∈ ([] : List (Addr × Obj)) from hp) (by simp), e0.hok.kept hk, ?_⟩
  · exact name_of_addr x.apart (PySem.mem_of_lookup h1) (PySem.mem_of_lookup h2)
  · have hy : scope.names.lookup y = some .cell ∨ scope.names.lookup y = some .free := hy
    rcases hy with hy | hy
    · exact cell_has hy
    · exact absurd rfl (S.nofree _ (PySem.mem_of_lookup hy))
  · exact Nat.le_of_lt (x.above y c (PySem.mem_of_lookup h))
  · have hi : i < vs.length := by
      unfold start at h2
      by_cases hi : i < vs.length
      · exact hi
      · rw [List.getElem?_append_right (by simpa using hi)] at h2
        rw [List.getElem?_replicate] at h2
        split at h2 <;> cases h2
    have ha : vs[i]? = some v := by
      unfold start at h2
      rw [List.getElem?_append_left (by simpa using hi), List.getElem?_map] at h2
      cases e : vs[i]? with
      | none => rw [e] at h2; cases h2
      | some a => rw [e] at h2; cases h2; rfl
    obtain ⟨u, hu, rv⟩ := r.get ha
    have hp : ps[i]? = some y := by
      rw [← S.pre, List.getElem?_take_of_lt (by omega)]; exact h1
    have ndP : ps.Nodup := by rw [← S.pre]; exact S.nd.sublist (List.take_sublist _ _)
    refine ⟨u, rv, ?_⟩
    rcases S.par y (List.mem_of_getElem? hp) with k | k
    · exact .inl ⟨k, bindL_get ndP hp hu k⟩
    · obtain ⟨c, e⟩ := cell_has (n := s.heap.objs.size + 1) k
      refine .inr ⟨.inl k, c, e, ?_⟩
      have q := x.cell y c e
      rw [bindC_get ndP hp hu (by show scope.names.lookup y ≠ _; rw [k]; decide)] at q
      exact q
  · exact e0.hok.fresh (Nat.le_of_lt (x.above y c (PySem.mem_of_lookup h)))
  · unfold start
    show _ = N.length
    rw [List.length_append, List.length_map, List.length_replicate]
    omega
theorem fn_of {CX : CXT} {P : Program} {w : World} {K : PySem.W.Frag} {mg : Str → Option Value} {base : Heap} {k : Nat} {f : Addr} {name qual : Str} {params : Arguments} {body : List Stmt} {scope : Scope} {dV kV doc pm cdv ct oc : Value} {an od : Option Addr}
    {osl : Array (Option Value)} {N ps : List Str} {sp : Sp} (lk : K.lookup f = some ⟨oc, od, .func (PySem.W.fnOf name qual params body scope dV kV doc pm an cdv ct), osl⟩) (hcd : PySem.W.codeIn K cdv qual = true) (S : FnScope N ps scope)
    (len : ∀ vs H Q E, sp vs H Q E → vs.length = ps.length)
    (hbody : ∀ (A : Around) (outer : List Env) (s : Shared) (H : Hp) (vs : List V) (Q : VK) (E : XK), Room k (A.deeper (envOfC qual scope s.heap.objs.size f cdv)) → sp vs H Q E →
      ∃ t, PSs (cxOf CX P w K mg base N qual scope f cdv A outer s H E) body t ∧ t { nx := fun _ H' => Q .non H', rt := Q } (start N vs) H) :
    FnOk P w K mg base CX (k + 1) f (PySem.W.fnOf name qual params body scope dV kV doc pm an cdv ct) ps sp := by
  refine ⟨len, fun A outer s H args us vs Q E hr e0 hb r hsp => ?_⟩
  have hl := len _ _ _ _ hsp
  have KX : K.In s.heap := e0.mod.kin.keeps fun b o e => (e0.bs b o e).1
  have lim : s.heap.NoLimit := e0.mod.nolimit.keeps fun b o e => (e0.bs b o e).1
  have hkind : ∀ y ∈ ps.zip us, scope.names.lookup y.1 = some .local ∨ (scope.names.lookup y.1 = some .cell ∧ ((cellsFrom (s.heap.objs.size + 1) scope.names []).lookup y.1).isSome = true) := fun ⟨n, v⟩ hy => by
    rcases S.par n (List.of_mem_zip hy).1 with q | q
    · exact .inl q
    · exact .inr ⟨q, PySem.W.cellsFrom_some _ _ _ (.inl q)⟩
  refine codeAny_call_function hr.depth (KX _ _ lk) rfl S.co S.gen rfl (PySem.W.codeRec_of KX hcd) (hb _ _ _ _ ?_)
  refine wpAny_newFunctionEnv_cells S.kind hkind fun env he s1 x => ?_
  subst he
  refine ⟨lim.keeps x.toInCall.keep, codeAny_func ?_⟩
  obtain ⟨t, ht, hq⟩ := hbody A outer s H vs Q E (hr.deeper _) hsp
  have I : Inv (cxOf CX P w K mg base N qual scope f cdv A outer s H E) [] (start N vs) H s1 := inv_start S hr.hd e0 hl r x
  refine wpAny_mono (ht [] s1 (start N vs) H _ I hq) (fun fl s' hs => ?_) fun e s' hs => hs
  have fin : ∀ {σ' : St} {H' : Hp} {v : V} {u : Value}, Inv (cxOf CX P w K mg base N qual scope f cdv A outer s H E) [] σ' H' s' → RelV v u → Q v H' → CE outer P w H s Q u s' :=
    fun {σ' H' v u} J rv q => ⟨v, H', J.os, J.bare, J.base, J.hok, rv, q⟩
  cases fl with
  | ret u =>
    obtain ⟨v, σ', H', J, rv, q⟩ := hs
    exact fin J rv q
  | next =>
    obtain ⟨σ', H', J, q⟩ := hs
    exact fin (v := V.non) (u := Value.none) J rfl q
  | brk =>
    obtain ⟨_, _, _, q⟩ := hs
    exact False.elim q
  | cont =>
    obtain ⟨_, _, _, q⟩ := hs
    exact False.elim q
end L2
namespace L2
open PySem PySem.Spec PyProof.Rows
section
variable {X : Cx} {x : Str} {p pos : Pos} {e : Expr} {es : List Expr} {t : TA} {id T : String} {r : List V → Hp → VK → Prop}
def tCB (r : List V → Hp → VK → Prop) (t : TA) : TE := fun σ H Q => t σ H fun vs H1 => r vs H1 Q
theorem pe_callB (hc : CallR X (.builtin id) r) (hg : Gl X x) (hm : X.mg x = none) (hv : bootBuiltins x = some (.builtin id)) (ha : PA X (e :: es) t) (hn : x ≠ "__name__" := by decide) (hdb : (x == ("__debug__" : Str)) = false := by decide)
    (he : starEach (e :: es) X.env = (false, eval e X.env) :: starEach es X.env := by rfl) (hpl : (backTo pos (starEach es X.env)).any (·.1) = false := by rfl) : PE X (.Call (.Name x p) (e :: es) [] pos) (tCB r t) := by
  intro pins s σ H Q I h
  refine wpAny_Call_Name_kw (ld_blt I hg hm hv ?_ hn hdb)
  exact PyProof.Rows.callWith_builtin1 (thn (ha pos pins s σ H _ I h) fun us s1 ⟨vs, H1, I1, r1, q1⟩ => hc pins s1 σ H1 vs us Q I1 r1 q1) he hpl
theorem pe_callTy (hc : CallR X (.type T) r) (hg : Gl X x) (hm : X.mg x = none) (hv : bootBuiltins x = some (.type T)) (ha : PA X (e :: es) t) (hn : x ≠ "__name__" := by decide) (hdb : (x == ("__debug__" : Str)) = false := by decide)
    (he : starEach (e :: es) X.env = (false, eval e X.env) :: starEach es X.env := by rfl) (hpl : (backTo pos (starEach es X.env)).any (·.1) = false := by rfl) : PE X (.Call (.Name x p) (e :: es) [] pos) (tCB r t) := by
  intro pins s σ H Q I h
  refine wpAny_Call_Name_kw (ld_blt I hg hm hv ?_ hn hdb)
  exact PyProof.Rows.callWith_type1 (thn (ha pos pins s σ H _ I h) fun us s1 ⟨vs, H1, I1, r1, q1⟩ => hc pins s1 σ H1 vs us Q I1 r1 q1) he hpl
end
end L2
namespace HT
open PySem PyProof.Rows
section
open PySem.SeqAt
open PySem.AutoSeq1 (wpAny_loadPart')
open PySem.MeetsSeq PySem.MeetsSeq2 PySem.MeetsSeq3
end
section
variable {prog : Program} {w : World} {A : Around} {E : Value → Shared → Prop} {s : Shared}
end
end HT
namespace L2
open PySem PySem.Spec PyProof.Rows
abbrev TO := St → Hp → (Option Int → Hp → Prop) → Prop
def PO (X : Cx) (e : Option Expr) (t : TO) : Prop :=
  ∀ (pins : List (Addr × Obj)) (s : Shared) (σ : St) (H : Hp) (Q : Option Int → Hp → Prop), Inv X pins σ H s → t σ H Q →
    wpAny (model X.prog X.w) X.A (evalPart e X.env) (fun u s' => ∃ o H', Inv X pins σ H' s' ∧ IsPart u o ∧ Q o H') X.xe s
theorem intsAre_of {ns : List Int} : ∀ {us : List Value}, Vals (ns.map V.int) us → IntsAre us ns := by
  induction ns with
  | nil => intro us r; rw [List.map_nil] at r; cases r; exact .nil
  | cons n ns ih =>
    intro us r
    rw [List.map_cons] at r
    cases r with
    | cons r1 r2 =>
      obtain ⟨t, e⟩ := r1
      subst e
      exact .cons n t (ih r2)
section
variable {X : Cx} {e : Expr} {te : TE} {lo hi : Option Expr} {tl th : TO} {pos p2 : Pos}
end
end L2
namespace L2
open PySem PySem.Spec PyProof.Rows
def ixN (n : Nat) (i : Int) : Option Nat := if 0 ≤ i then (if i < n then some i.toNat else none) else if -(n : Int) ≤ i then some (i + n).toNat else none
def atI {α : Type} (xs : List α) (i : Int) : Option α := (ixN xs.length i).bind fun j => xs[j]?
theorem ixN_seq {n : Nat} {i : Int} {j : Nat} (h : ixN n i = some j) : seqIndex? i n = some j ∧ j < n ∧ -(n : Int) ≤ i ∧ i < n := by
  unfold ixN at h
  by_cases h0 : 0 ≤ i
  · rw [if_pos h0] at h
    by_cases h1 : i < n
    · rw [if_pos h1] at h
      have e : i.toNat = j := Option.some.inj h
      exact ⟨by rw [seqIndex_of h0 h1, e], by omega, by omega, h1⟩
    · rw [if_neg h1] at h; cases h
  · rw [if_neg h0] at h
    by_cases h1 : -(n : Int) ≤ i
    · rw [if_pos h1] at h
      have e : (i + n).toNat = j := Option.some.inj h
      exact ⟨by rw [seqIndex_neg (by omega) h1, e], by omega, h1, by omega⟩
    · rw [if_neg h1] at h; cases h
theorem atI_get {α : Type} {xs : List α} {i : Int} {v : α} (h : atI xs i = some v) : ∃ j, seqIndex? i xs.length = some j ∧ xs[j]? = some v ∧ j < xs.length ∧ -(xs.length : Int) ≤ i ∧ i < xs.length := by
  unfold atI at h
  cases e : ixN xs.length i with
  | none => rw [e] at h; cases h
  | some j =>
    rw [e] at h
    obtain ⟨h1, h2, h3, h4⟩ := ixN_seq e
    exact ⟨j, h1, h, h2, h3, h4⟩
theorem atI_nat {α : Type} {xs : List α} {j : Nat} {v : α} (h : xs[j]? = some v) : atI xs (j : Int) = some v := by
  have hj : j < xs.length := (List.getElem?_eq_some_iff.mp h).1
  have e : ixN xs.length (j : Int) = some j := by
    unfold ixN
    rw [if_pos (by omega), if_pos (by omega)]; simp
  unfold atI; rw [e]; exact h
def PlainIx (b : Expr) : Prop := ∀ o i, subscripted b false o i = operate [o, i] (getItem o i)
def IxR (X : Cx) (r : R2) : Prop :=
  ∀ (value slice : Expr) (pins : List (Addr × Obj)) (s : Shared) (σ : St) (H : Hp) (x y : V) (v u : Value) (Q : VK), Inv X pins σ H s → RelV x v → RelV y u → r x y H Q →
    subscripted slice false v u = operate [v, u] (getItem v u) → wpAny (model X.prog X.w) X.A (subscriptTail value slice v u) (EP X pins σ Q) X.xe s
def MtR (X : Cx) (id : String) (r : V → List V → Hp → VK → Prop) : Prop :=
  ∀ (pins : List (Addr × Obj)) (s : Shared) (σ : St) (H : Hp) (x : V) (xs : List V) (v : Value) (us : List Value) (Q : VK), Inv X pins σ H s → RelV x v → Vals xs us → r x xs H Q →
    wpAny (model X.prog X.w) X.A (call (.builtin id) (v :: us)) (EP X pins σ Q) X.xe s
section
variable {X : Cx} {a b : Expr} {ta tb : TE} {pos : Pos}
theorem pe_ix {r : R2} (hr : IxR X r) (ha : PE X a ta) (hb : PE X b tb) (hs : PlainIx b) : PE X (.Subscript a b pos) (tOp r ta tb) := by
  intro pins s σ H Q I h
  exact Subscript_ (binT ha hb I h fun v u s2 x y H2 I2 rx ry q => hr a b pins s2 σ H2 x y v u Q I2 rx ry q (hs _ _))
def rIxL (K : PySem.W.Frag) : R2 := fun x y H Q => ∃ p xs i v, x = .ref p ∧ y = .int i ∧ SqL K H p xs ∧ atI xs i = some v ∧ Q v H
theorem ix_list : IxR X (rIxL X.K) := by
  intro value slice pins s σ H x y v u Q I rx ry h hs
  obtain ⟨p, xs, i, z, rfl, rfl, hq, he, q⟩ := h
  cases rx
  obtain ⟨t, rfl⟩ := ry
  obtain ⟨its, r, pl, hz⟩ := I.list hq
  obtain ⟨j, h1, h2, h3, h4, h5⟩ := atI_get he
  obtain ⟨w, ew, rw'⟩ := r.get h2
  have hl := r.length
  have hn := line63
  have fin : EP X pins σ Q w s := ⟨z, H, I, rw', q⟩
  by_cases h0 : 0 ≤ i
  · have hj : i.toNat = j := by
      rw [seqIndex_of h0 h5] at h1
      exact Option.some.inj h1
    exact item_listR pl.isList h0 (by omega) (by rw [hj]; simpa using ew) fin hs
  · have hj : (i + (its.toArray.size : Int)).toNat = j := by
      rw [seqIndex_neg (by omega) h4] at h1
      rw [List.size_toArray, ← hl]
      exact Option.some.inj h1
    exact subscriptTail_builtinR (x := w) pl.isList.typeIs slot_list_getitem.lookup
      (wpAny_getItem_list_neg (Q := fun r s' => r = w ∧ EP X pins σ Q r s') pl.isList (by omega) (by rw [List.size_toArray] <;> omega) (by omega) (by rw [hj]; simpa using ew) ⟨rfl, fin⟩) hs
theorem Inv.lst {pins : List (Addr × Obj)} {σ : St} {H : Hp} {s : Shared} {p : Addr} {xs : List V} (I : Inv X pins σ H s) (h : H p = some (.lst xs)) :
    ∃ (its : List Value) (n : Nat), Vals xs its ∧ s.heap.get? p = some { cls := .type "list", data := .seq its.toArray n } ∧ xs.length ≤ sizeLine := by
  obtain ⟨z, its, n, r, e⟩ := I.hok p _ h
  exact ⟨its, n, r, e, z⟩
theorem call_len_seq : CallR X (.builtin "len") (fun xs H Q => ∃ p ys, xs = [.ref p] ∧ (SqL X.K H p ys ∨ SqT X.K H p ys) ∧ Q (.int ys.length) H) := by
  intro pins s σ H xs us Q I r h
  obtain ⟨p, ys, rfl, hq, q⟩ := h
  obtain ⟨u, rfl, rx⟩ := vals1 r
  cases rx
  have hn := line63
  rcases hq with hq | hq
  · obtain ⟨its, r', pl, hz⟩ := I.list hq
    have hlen := r'.length
    exact Calls.call_len_list pl.isList (by simp only [List.size_toArray] <;> omega) ⟨.int ys.length, H, I.tok _, ⟨s.toks + 1, by rw [List.size_toArray, hlen]⟩, q⟩
  · obtain ⟨its, r', pl, hz⟩ := I.tuple hq
    have hlen := r'.length
    exact len_tuple pl (by simp only [List.size_toArray] <;> omega) ⟨.int ys.length, H, I.tok _, ⟨s.toks + 1, by rw [List.size_toArray, hlen]⟩, q⟩
theorem call_tuple_of : CallR X (.type "tuple") (fun xs H Q => ∃ p ys, xs = [.ref p] ∧ ((SqL X.K H p ys ∧ ∀ l, H l = none → Q (.ref l) (upd H l (.tup ys))) ∨ (SqT X.K H p ys ∧ Q (.ref p) H))) := by
  intro pins s σ H xs us Q I r h
  obtain ⟨p, ys, rfl, h⟩ := h
  obtain ⟨u, rfl, rx⟩ := vals1 r
  cases rx
  rcases h with ⟨hq, q⟩ | ⟨hq, q⟩
  · obtain ⟨its, r', pl, hz⟩ := I.list hq
    have hlen := r'.length
    refine call_tuple_list pl.isList (fun h' kp => ?_) (by simp only [List.size_toArray] <;> omega)
    have I1 : Inv X pins σ H { s with heap := h' } := I.kept (t' := s.toks) kp
    have I2 : Inv X pins σ (upd H h'.objs.size (.tup ys)) { s with heap := h'.push { cls := .type "tuple", data := .seq its.toArray } } :=
      I1.laid (t' := s.toks) (fun b o e => Heap.get?_push_of_some _ e) (Nat.le_refl _) (show ObjOk X.prog X.w _ _ _ (.tup ys) from ⟨hz, its, r', IsTup.new _ _⟩)
    exact ⟨.ref h'.objs.size, _, I2, rfl, q _ (I1.hok.fresh (Nat.le_refl _))⟩
  · obtain ⟨its, r', pl, hz⟩ := I.tuple hq
    exact call_tuple_same pl ⟨.ref p, H, I, rfl, q⟩
def tyV (K : PySem.W.Frag) (T : String) (x : V) (H : Hp) : Prop := match x with
  | .str _ => T = "str"
  | .int _ => T = "int"
  | .ref p => (T = "list" ∧ ∃ xs, SqL K H p xs) ∨ (T = "tuple" ∧ ∃ o, K.lookup p = some o ∧ o.cls = .type "tuple" ∧ o.dict = none) ∨
      (T = "dict" ∧ ((∃ kvs, H p = some (.dK kvs)) ∨ ∃ kvs, H p = some (.dT kvs))) ∨ (T = "set" ∧ ∃ S n, H p = some (.set S n))
  | _ => False
theorem tyV_is {pins : List (Addr × Obj)} {σ : St} {H : Hp} {s : Shared} {T : String} {x : V} {v : Value} (I : Inv X pins σ H s) (r : RelV x v) (ty : tyV X.K T x H) :
    s.TypeIs v T ∧ ∀ a, v = .ref a → ∃ ob, s.heap.get? a = some ob ∧ ob.dict = none := by
  cases x with
  | str z =>
    obtain ⟨t, rfl⟩ := r
    cases (show T = "str" from ty)
    exact ⟨typeIs_str s z t, fun _ e => nomatch e⟩
  | int i =>
    obtain ⟨t, rfl⟩ := r
    cases (show T = "int" from ty)
    exact ⟨typeIs_int s i t, fun _ e => nomatch e⟩
  | ref p =>
    cases r
    rcases ty with ⟨rfl, xs, hq⟩ | ⟨rfl, o, hk, hc, hd⟩ | ⟨rfl, hk⟩ | ⟨rfl, S, n, hk⟩
    · obtain ⟨its, _, pl, _⟩ := I.list hq
      refine ⟨pl.isList.typeIs, fun a e => ?_⟩
      cases e
      obtain ⟨o, n, e, c, hd, _⟩ := pl
      exact ⟨o, e, hd⟩
    · refine ⟨⟨o, I.kIn p o hk, hc⟩, fun a e => ?_⟩
      cases e
      exact ⟨o, I.kIn _ o hk, hd⟩
    · have z : ∃ o, s.heap.get? p = some o ∧ o.ExactDict := by
        rcases hk with ⟨kvs, hk⟩ | ⟨kvs, hk⟩
        · obtain ⟨_, _, _, _, o, _, _, e, ex, _⟩ := I.hok p _ hk
          exact ⟨o, e, ex⟩
        · obtain ⟨_, _, _, _, o, _, _, e, ex, _⟩ := I.hok p _ hk
          exact ⟨o, e, ex⟩
      obtain ⟨o, e, ex⟩ := z
      refine ⟨⟨o, e, ex.1⟩, fun a e2 => ?_⟩
      cases e2
      exact ⟨o, e, ex.2.1⟩
    · obtain ⟨o, _, _, _, e, ex, _⟩ := I.hok p _ hk
      refine ⟨⟨o, e, ex.1⟩, fun a e2 => ?_⟩
      cases e2
      exact ⟨o, e, ex.2.1⟩
  | _ => exact False.elim ty
def tBM (K : PySem.W.Frag) (T : String) (r : V → List V → Hp → VK → Prop) (to : TE) (t : TA) : TE := fun σ H Q => to σ H fun x H1 => tyV K T x H1 ∧ t σ H1 fun xs H2 => r x xs H2 Q
variable {o e : Expr} {es : List Expr} {to : TE} {t : TA} {name : Str} {apos cpos : Pos} {T id : String} {r : V → List V → Hp → VK → Prop}
theorem pe_bm (pa : PlainAttrs T) (slot : Slot T name id) (hty : typeOf (.builtin id) = pure (.type "method_descriptor")) (hm : MtR X id r) (ho : PE X o to) (ha : PA X (e :: es) t)
    (hbase : attributeBase o name X.env (eval o X.env) = eval o X.env := by rfl)
    (hfew : ((backTo cpos (starEach (e :: es) X.env)).all (fun x => !x.1) && (backToKw cpos (keywordEach [] X.env)).all (fun x => x.1.isSome)
      && decide ((e :: es).length + ([] : List Keyword).length + (if ([] : List Keyword).isEmpty then 0 else 1) < 30)) = true := by rfl)
    (hline : (apos.endLine == cpos.line) = true := by rfl) (hs : starEach (e :: es) X.env = (false, eval e X.env) :: starEach es X.env := by rfl) (hplain : (backTo cpos (starEach es X.env)).any (·.1) = false := by rfl) :
    PE X (.Call (.Attribute o name apos) (e :: es) [] cpos) (tBM X.K T r to t) := by
  intro pins s σ H Q I h
  refine wpAny_Call_method_late hbase hfew hline rfl (thn (ho pins s σ H _ I h) fun v s1 ⟨x, H1, I1, r1, ty, q1⟩ => ?_)
  obtain ⟨h1, h2⟩ := tyV_is I1 r1 ty
  refine ⟨T, id, pa, slot, hty, h1, h2, ?_⟩
  have hA := ha cpos pins s1 σ H1 _ I1 q1
  rw [hs] at hA ⊢
  refine Calls.callWith_builtin (by show (false || (backTo cpos (starEach es X.env)).any (·.1)) = false; rw [hplain] <;> rfl) (Calls.evalArgs_plain ?_)
  exact thn hA fun us s2 ⟨vs, H2, I2, r2, q2⟩ => hm pins s2 σ H2 x vs v us Q I2 r1 r2 q2
end
end L2
namespace L2
open PySem PySem.Spec PyProof.Rows
def MtM (X : Cx) (id : String) (r : V → List V → Hp → VK → Prop) : Prop :=
  ∀ (pins : List (Addr × Obj)) (s : Shared) (σ : St) (H : Hp) (x : V) (xs : List V) (v : Value) (us : List Value) (Q : VK), Inv X pins σ H s → RelV x v → Vals xs us → r x xs H Q →
    wpAny (model X.prog X.w) X.A (call (.builtin id) (v :: us)) (EP X pins σ Q) X.xe s
theorem Vals.one : ∀ {x : V} {us : List Value}, Vals [x] us → ∃ u, us = [u] ∧ RelV x u
  | _, _, .cons r .nil => ⟨_, rfl, r⟩
theorem Vals.two : ∀ {x y : V} {us : List Value}, Vals [x, y] us → ∃ u v, us = [u, v] ∧ RelV x u ∧ RelV y v
  | _, _, _, .cons r (.cons q .nil) => ⟨_, _, rfl, r, q⟩
theorem Vals.zero : ∀ {us : List Value}, Vals [] us → us = []
  | _, .nil => rfl
section
variable {X : Cx} {pins : List (Addr × Obj)} {σ : St} {H : Hp} {s : Shared} {l b : Addr} {xs ys zs : List V}
theorem Inv.lset {its its' : List Value} {n : Nat} {f : Array Value → Array Value} {t' : Nat} (I : Inv X pins σ H s) (hH : H l = some (.lst xs))
    (e : s.heap.get? l = some { cls := .type "list", data := .seq its.toArray n }) (hf : f its.toArray = its'.toArray) (hv : Vals ys its') (hz : ys.length ≤ sizeLine) :
    Inv X pins σ (upd H l (.lst ys)) { s with heap := s.heap.update l (Obj.mapSeq f), toks := t' } := by
  have q := PySem.IsL.update e f
  rw [hf] at q
  refine I.write (x := l) (e := l) (by rw [hH]; exact trivial) (.inl rfl) (fun b' u hb hu => (Heap.get?_update_other s.heap (Obj.mapSeq f) (Ne.symm hb)).trans hu) ⟨_, q⟩ ?_
  exact ⟨hz, its', _, hv, q⟩
theorem Inv.lnew {its : List Value} {t' : Nat} (I : Inv X pins σ H s) (hv : Vals ys its) (hz : ys.length ≤ sizeLine) :
    Inv X pins σ (upd H s.heap.objs.size (.lst ys)) { s with heap := s.heap.push { cls := .type "list", data := .seq its.toArray }, toks := t' } :=
  I.laid (fun _ _ q => Heap.get?_push_of_some _ q) (Nat.le_refl _) ⟨hz, its, 0, hv, Heap.get?_push_size _ rfl⟩
theorem Inv.fresh (I : Inv X pins σ H s) : H s.heap.objs.size = none := I.hok.fresh (Nat.le_refl _)
theorem Inv.lstM (I : Inv X pins σ H s) (hH : H l = some (.lst xs)) : xs.length ≤ sizeLine ∧ ∃ (its : List Value) (n : Nat), Vals xs its ∧ xs.length = its.length ∧ s.heap.get? l = some { cls := .type "list", data := .seq its.toArray n } := by
  obtain ⟨z, its, n, r, e⟩ := I.hok l _ hH
  exact ⟨z, its, n, r, r.length, e⟩
end
section
variable {X : Cx}
def rAppend : V → List V → Hp → VK → Prop := fun x vs H Q => ∃ l xs y, x = .ref l ∧ vs = [y] ∧ H l = some (.lst xs) ∧ xs.length < sizeLine ∧ Q .non (upd H l (.lst (xs ++ [y])))
theorem mt_append : MtM X "list.append" rAppend := by
  intro pins s σ H x vs v us Q I rx rv h
  obtain ⟨l, xs, y, rfl, rfl, hH, hz, q⟩ := h
  cases rx
  obtain ⟨u, rfl, ru⟩ := rv.one
  obtain ⟨z, its, n, r, hl, e⟩ := I.lstM hH
  refine call_meets F.slot_list_append ⟨_, e, rfl⟩ F.entry_list_append (F.args_list_append_2 _ _) (PySem.list_append l its.toArray n u (by rw [List.size_toArray]; omega)) ⟨e, ?_⟩
  refine ⟨.non, _, I.lset (its' := its ++ [u]) hH e (by simp) (r.append (.cons ru .nil)) ?_, rfl, q⟩
  rw [List.length_append, List.length_singleton]
  omega
def rCat : R2 := fun x y H Q => ∃ l b xs zs, x = .ref l ∧ y = .ref b ∧ H l = some (.lst xs) ∧ H b = some (.lst zs) ∧ xs.length + zs.length ≤ sizeLine ∧ ∀ p, H p = none → Q (.ref p) (upd H p (.lst (xs ++ zs)))
theorem op_cat : OpR X (binaryOp .Add) rCat := by
  intro pins s σ H x y v u Q I rx ry h
  obtain ⟨l, b, xs, zs, rfl, rfl, hH, hB, hz, q⟩ := h
  cases rx
  cases ry
  obtain ⟨z, its, n, r, hl, e⟩ := I.lstM hH
  obtain ⟨z2, its2, n2, r2, hl2, e2⟩ := I.lstM hB
  refine PySem.P.add_list e e2 ?_ (by rw [List.size_toArray, List.size_toArray]; omega)
  have ea : its.toArray ++ its2.toArray = (its ++ its2).toArray := by simp
  rw [ea]
  exact ⟨.ref _, _, I.lnew (t' := s.toks) (r.append r2) (by rw [List.length_append]; omega), rfl, q _ I.fresh⟩
end
section
variable {prog : Program} {w : World} {A : Around} {E : Value → Shared → Prop} {s : Shared}
end
section
variable {X : Cx}
end
end L2
namespace Att
open PySem PySem.W PySem.Calls PyProof.Rows
theorem ints_of_wellAll {P : Params} {h : Heap} : ∀ (ns : List Int) (vs : List Value), WellAll P h vs (ns.map WData.int) → IntsAre vs ns := by
  intro ns
  induction ns with
  | nil =>
    intro vs w
    rw [List.map_nil] at w
    cases w
    exact .nil
  | cons n ns ih =>
    intro vs w
    rw [List.map_cons] at w
    cases w with
    | cons a b =>
      cases a
      exact .cons _ _ (ih _ b)
theorem script_of {l : OpenLaw} {n : Nat} (hn : l.most = some n) {P : Params} {h : Heap} {args : List WData} {vals : List Value}
    (hpre : l.row.toRowW.claim.pre args = true) (hwl : WellAll P h vals args) :
    ∃ a vs ns, vals = [Value.ref a] ∧ args = [WData.list (ns.map WData.int)] ∧ h.get? a = some { cls := .type "list", data := .seq vs.toArray } ∧ IntsAre vs ns ∧ ns.length ≤ n := by
  have hsh : WShape.hasAll [] args [.list .int] = true := (pre_splitW hpre).1
  have hc : l.pre.holds [] { args := args } = true := (pre_splitW hpre).2
  obtain ⟨d, r, rfl, h1, h2⟩ := hasAllW_cons hsh
  obtain rfl := hasAllW_nil h2
  obtain ⟨xs, rfl, h3⟩ := hasW_list h1
  obtain ⟨ns, rfl⟩ := items_int h3
  have hlen : ns.length ≤ n := by
    unfold OpenLaw.pre at hc
    have h4 : (WTm.not (.lt (.lit (.int (n : Int))) (.len (.arg 0)))).holds [] { args := [.list (ns.map .int)] } = true := by
      have h4 := (holds_andW hc).1
      rw [hn] at h4
      exact h4
    have h5 := condW_of h4 (w_not (w_lt w_lit (w_len_list (w_arg rfl))))
    rw [List.length_map] at h5
    refine Nat.le_of_not_lt fun q => ?_
    have q' : (n : Int) < ((ns.length : Nat) : Int) := by omega
    first
      | (rw [decide_eq_true q'] at h5; exact absurd h5 (by decide))
      | (simp at h5; omega)
  cases hwl with
  | cons w1 w2 =>
    cases w2
    cases w1 with
    | list ho hall => exact ⟨_, _, ns, rfl, rfl, ho, ints_of_wellAll ns _ hall, hlen⟩
theorem post_true (l : OpenLaw) (args : List WData) : l.row.toRowW.claim.post args (.bool true) args = true :=
  postW_of (r := l.row.toRowW) (X := (true == true))
    (show WShape.has [] (.bool true) .bool = true by first | rfl | decide | simp [WShape.has, WShape.arms, WShape.armsAll])
    (show (WTm.eq .res (.lit (.bool true))).value [] { args := args, res := some (.bool true), after := args } = some (.bool (true == true)) from w_eq_bool (w_res rfl) w_lit) rfl
theorem attach_call {l : OpenLaw} {n : Nat} {q : Program} {loose : List Str} {XP : (Str → Option Value) → Heap → Prop} {YP : World → Heap → Prop} {d : DefRec}
    (hn : l.most = some n) (hdf : d.params.defaults = [])
    (call : ∀ (w : World) (s₀ s₁ : Shared) (mg mb : Str → Option Value) (fa : Addr) (o : Obj) (pm cd doc : Value) (a : Addr) (vs : List Value) (ns : List Int),
      Ground q loose [] XP w s₀ mg mb s₁.heap → YP w s₁.heap →
      s₁.heap.get? fa = some o → o.data = .func (docDef d.name d.params d.body d.scope pm cd doc) → s₁.heap.CodeRec cd d.name → mg d.name = some (.ref fa) →
      s₁.heap.get? a = some { cls := .type "list", data := .seq vs.toArray } → IntsAre vs ns → ns.length ≤ n → s₁.gens = #[] →
      codeAny (model l.prog w) callerA (.call (.ref fa) ⟨[.ref a], []⟩) (fun r s' => r = .ok (.ret (.bool true)) ∧ OldK s₁.heap s'.heap ∧ s'.os = s₁.os ∧ AllBare s'.gens) s₁) :
    WalkO q loose XP YP l.row.toRowW d [] (fun f vs => PySem.call f vs) := by
  intro w s₀ s₁ mg mb G Y fa o pm cd doc dV kV ho hd hcd hD hmg hg args vals as hpre hlay hrd hwl hlo
  obtain rfl : dV = .none := Dflts.none hD hdf
  obtain rfl : kV = .none := Dflts.noKw hD
  obtain ⟨a, vs, ns, rfl, rfl, hobj, hints, hlen⟩ := script_of hn hpre hwl
  refine enter_call (codeAny_mono (call w s₀ s₁ mg mb fa o pm cd doc a vs ns G Y ho (fd_plain hd) hcd hmg hobj hints hlen hg) fun r s' hq => ?_)
  obtain ⟨rfl, h2, h3, h4⟩ := hq
  exact ⟨.inl ⟨.bool true, .bool true, [], rfl, fun _ => rfl, .bool true, post_true l _, fun _ => ⟨List.Pairwise.nil, fun _ hm => (nomatch hm)⟩⟩, h2, h3, h4⟩
section
variable {prog : Program} {w : World} {A : Around} {E : Value → Shared → Prop} {s : Shared} {K : Frag}
end
end Att
namespace L2
open PySem PySem.Spec PyProof.Rows
theorem vals_ints : ∀ {vs : List Value} {ns : List Int}, IntsAre vs ns → Vals (ns.map V.int) vs
  | _, _, .nil => .nil
  | _, _, .cons n t h => .cons ⟨t, rfl⟩ (vals_ints h)
def Only (H : Hp) : Prop := ∀ b, H b = none ∨ ∃ o xs, H b = some (.frz o (.lst xs))
theorem law_call {P : Program} {w : World} {K : PySem.W.Frag} {mg mb : Str → Option Value} {CX : CXT} {k : Nat} {fa a : Addr} {fd : FuncData} {x : Str} {sp : Sp} {s₁ : Shared} {vs : List Value} {ns : List Int}
    (KX : K.In s₁.heap) (hns : s₁.heap.Ns mainGlobals mg) (hb : s₁.heap.Ns builtinsNs mb) (hbb : ∀ x : Str, x ≠ "__name__" → mb x = bootBuiltins x) (hlim : s₁.heap.NoLimit) (hg : s₁.gens = #[])
    (ha : s₁.heap.get? a = some { cls := .type "list", data := .seq vs.toArray }) (hi : IntsAre vs ns) (hl : ns.length ≤ sizeLine) (hr : Room k callerA)
    (F : ∀ base : Heap, K.In base → base.Ns mainGlobals mg → FnOk P w K mg base CX k fa fd [x] sp) (hbind : ∀ (s : Shared) (u : Value), BindsTo s fd ⟨[u], []⟩ [(x, u)])
    (hsp : ∀ H : Hp, Only H → SqL K H a (ns.map V.int) → sp [.ref a] H (fun v _ => v = .bl true) fun _ _ _ => False)
    (hCX : ∀ H e s', CX [] H s₁ (fun _ _ _ => False) e s' → False) :
    codeAny (model P w) callerA (.call (.ref fa) ⟨[.ref a], []⟩) (fun r s' => r = .ok (.ret (.bool true)) ∧ OldK s₁.heap s'.heap ∧ s'.os = s₁.os ∧ AllBare s'.gens) s₁ := by
  have rv := vals_ints hi
  have lenV := hi.length
  have core : ∀ H : Hp, Only H → SqL K H a (ns.map V.int) → HOk P w H s₁.heap → (∀ b, H b ≠ none → b = a) → (H a ≠ none → K.lookup a = none) →
      codeAny (model P w) callerA (.call (.ref fa) ⟨[.ref a], []⟩) (fun r s' => r = .ok (.ret (.bool true)) ∧ OldK s₁.heap s'.heap ∧ s'.os = s₁.os ∧ AllBare s'.gens) s₁ := by
    intro H hO hS hok hA hK
    have base_of : ∀ {b : Addr} {o : Obj}, s₁.heap.get? b = some o → H b = none → (hidT s₁.heap H).get? b = some o := fun e n => hidT_get e n
    have noA : ∀ {b : Addr} {o : Obj} {es : Array DictEntry} {ep : Nat}, s₁.heap.get? b = some o → o.data = .dict es ep → H b = none := fun {b o es ep} e d => by
      cases q : H b with
      | none => rfl
      | some u =>
        have e' : b = a := hA b (by rw [q]; simp)
        subst e'
        rw [ha] at e; cases e
        have d' : Data.seq vs.toArray _ = Data.dict es ep := d
        cases d'
    have nsK : ∀ {b : Addr} {m : Str → Option Value}, s₁.heap.Ns b m → (hidT s₁.heap H).Ns b m := fun {b m} ⟨o, es, ep, e, d, r⟩ => ⟨o, es, ep, base_of e (noA e d), d, r⟩
    have hKb : K.In (hidT s₁.heap H) := fun b o e => base_of (KX b o e) (by
      cases q : H b with
      | none => rfl
      | some u =>
        have e' : b = a := hA b (by rw [q]; simp)
        subst e'
        rw [hK (by rw [q]; simp)] at e; cases e)
    have hM : Mod K mg (hidT s₁.heap H) := ⟨hKb, nsK hns, ⟨mb, nsK hb, hbb⟩, let ⟨mc, h1, h2⟩ := hlim; ⟨mc, nsK h1, h2⟩⟩
    have e0 : Env0 P w K mg (hidT s₁.heap H) callerA [] s₁ H := ⟨rfl, hM, fun b o e => of_hidT e, Nat.le_of_eq (hidT_size _ _), trivial, fun b hb => absurd (show b ∈ ([] : List Addr) from hb) (by simp), hok, .of_eq hg⟩
    refine codeAny_mono ((F _ hKb (nsK hns)).run callerA [] s₁ H ⟨[.ref a], []⟩ [.ref a] [.ref a] _ _ hr e0 (hbind s₁ (.ref a)) (.cons rfl .nil) (hsp H hO hS)) fun r s' h => ?_
    cases r with
    | error e => exact (hCX H e s' h).elim
    | ok fl =>
      cases fl with
      | next => exact False.elim h
      | brk => exact False.elim h
      | cont => exact False.elim h
      | ret u =>
        obtain ⟨v, H', os, bare, un, hok', r', q⟩ := h
        have q' : v = .bl true := q
        subst q'
        obtain rfl : u = Value.bool true := r'
        refine ⟨rfl, OldK.of_keep fun b o e => ?_, os, bare⟩
        cases q : H b with
        | none => exact un.keep b o e q (by intro z; exact absurd (show b ∈ ([] : List Addr) from z) (by simp)) (by simp)
        | some u =>
          rcases hO b with z | ⟨ob, xs, z⟩
          · rw [q] at z; cases z
          · have z2 := un.frzs b ob _ z
            obtain ⟨e1, _⟩ := hok b _ z
            obtain ⟨e2, _⟩ := hok' b _ z2
            rw [e] at e1; cases e1
            exact e2
  cases hk : K.lookup a with
  | some o =>
    have e := KX a o hk
    rw [ha] at e
    cases e
    refine core (fun _ => none) (fun _ => .inl rfl) (.inr ⟨_, vs.toArray, _, hk, rfl, rfl, rfl, by rw [List.size_toArray, lenV]; exact hl, by simpa using rv⟩) (fun b u z => by have z' : (none : Option HO) = some u := z; cases z') (fun b z => absurd rfl z) fun z => absurd rfl z
  | none =>
    refine core (fun b => if b = a then some (.frz { cls := .type "list", data := .seq vs.toArray } (.lst (ns.map V.int))) else none) (fun b => ?_) (.inl (.inr ⟨{ cls := .type "list", data := .seq vs.toArray }, if_pos rfl⟩)) (fun b u z => ?_) (fun b z => ?_) fun _ => hk
    · by_cases hb : b = a
      · exact .inr ⟨_, _, if_pos hb⟩
      · exact .inl (if_neg hb)
    · by_cases hb : b = a
      · have z' := (if_pos hb).symm.trans z
        cases z'
        subst hb
        exact ⟨ha, by rw [List.length_map]; exact hl, vs, _, rv, ha⟩
      · have z' := (if_neg hb).symm.trans z
        cases z'
    · by_cases hb : b = a
      · exact hb
      · exact absurd (if_neg hb) z
end L2
namespace L2
open PySem PySem.Spec PyProof.Rows
theorem walk_of {l : PySem.W.OpenLaw} {n k : Nat} {q : Program} {loose : List Str} {XP : (Str → Option Value) → Heap → Prop} {YP : World → Heap → Prop} {d : DefRec} {K : Params → PySem.W.Frag} {CX : World → CXT} {sp : World → Sp} {x : Str}
    (hn : l.most = some n) (hn2 : n ≤ sizeLine) (hdf : d.params.defaults = []) (hr : Room k callerA)
    (hY : ∀ (w : World) (h : Heap), YP w h → (K w.params).In h)
    (F : ∀ (w : World) (mg : Str → Option Value) (fa : Addr) (h : Heap), (K w.params).In h → h.Ns mainGlobals mg → mg d.name = some (.ref fa) →
      ∃ fd : FuncData, (∀ (s : Shared) (u : Value), BindsTo s fd ⟨[u], []⟩ [(x, u)]) ∧
        ∀ base : Heap, (K w.params).In base → base.Ns mainGlobals mg → FnOk l.prog w (K w.params) mg base (CX w) k fa fd [x] (sp w))
    (hsp : ∀ (w : World) (H : Hp) (a : Addr) (ns : List Int), ns.length ≤ n → Only H → SqL (K w.params) H a (ns.map V.int) → sp w [.ref a] H (fun v _ => v = .bl true) fun _ _ _ => False)
    (hCX : ∀ (w : World) (H : Hp) (s : Shared) (e : Value) (s' : Shared), CX w [] H s (fun _ _ _ => False) e s' → False) :
    PySem.W.WalkO q loose XP YP l.row.toRowW d [] (fun f vs => PySem.call f vs) := by
  refine Att.attach_call hn hdf fun w s₀ s₁ mg mb fa o pm cd doc a vs ns G Y ho hd hcd hmg hobj hints hlen hg => ?_
  have KX := hY w _ Y
  obtain ⟨fd, hb, hF⟩ := F w mg fa _ KX G.T.g hmg
  exact law_call KX G.T.g G.T.b G.T.builtins G.T.nolimit hg hobj hints (Nat.le_trans hlen hn2) hr hF hb (fun H hO hS => hsp w H a ns hlen hO hS) fun H e s' => hCX w H s₁ e s'
end L2
namespace L2
open PySem PySem.Spec PyProof.Rows
def inClass (s : Stmt) (j : Nat) : Stmt := match s with
  | .ClassDef _ _ _ body _ _ _ _ _ _ _ => body.getD j (.Pass ⟨0, 0, 0, 0⟩)
  | _ => .Pass ⟨0, 0, 0, 0⟩
def defArgs (s : Stmt) : Arguments := match s with
  | .FunctionDef _ a _ _ _ _ _ _ _ _ => a
  | _ => { posonlyargs := [], args := [], vararg := none, kwonlyargs := [], kw_defaults := [], kwarg := none, defaults := [] }
def defBody (s : Stmt) : List Stmt := match s with
  | .FunctionDef _ _ b _ _ _ _ _ _ _ => b
  | _ => []
def defScope (s : Stmt) : Scope := match s with
  | .FunctionDef _ _ _ _ _ _ sc _ _ _ => sc
  | _ => { kind := .function, names := [], isGenerator := false, isCoroutine := false }
abbrev CX0 : CXT := fun _ _ _ _ _ _ => False
abbrev E0 : XK := fun _ _ _ => False
theorem pass0 {X : Cx} : Passes CX0 X E0 := fun _ _ _ _ _ _ _ h => h.elim
structure Fun (K : PySem.W.Frag) (x qual : Str) (st : Stmt) (f : Addr) (fd : FuncData) : Prop where
  ex : ∃ (oc : Value) (od : Option Addr) (kV doc pm : Value) (an : Option Addr) (cdv ct : Value) (osl : Array (Option Value)),
    fd = PySem.W.fnOf x qual (defArgs st) (defBody st) (defScope st) .none kV doc pm an cdv ct ∧ K.lookup f = some ⟨oc, od, .func fd, osl⟩ ∧ PySem.W.codeIn K cdv qual = true
  kp : PySem.W.keepIn K (.ref f) = true
section
variable {P : Program} {w : World} {K : PySem.W.Frag} {mg : Str → Option Value} {base : Heap}
theorem Fun.ok {x qual : Str} {st : Stmt} {f : Addr} {fd : FuncData} {N ps : List Str} {k : Nat} {sp : Sp} (F : Fun K x qual st f fd) (S : FnScope N ps (defScope st)) (len : ∀ vs H Q E, sp vs H Q E → vs.length = ps.length)
    (hbody : ∀ (cdv : Value) (A : Around) (outer : List Env) (s : Shared) (H : Hp) (vs : List V) (Q : VK) (E : XK), Room k (A.deeper (envOfC qual (defScope st) s.heap.objs.size f cdv)) → sp vs H Q E →
      ∃ t, PSs (cxOf CX0 P w K mg base N qual (defScope st) f cdv A outer s H E).nox (defBody st) t ∧ t { nx := fun _ H' => Q .non H', rt := Q } (start N vs) H) : FnOk P w K mg base CX0 (k + 1) f fd ps sp := by
  obtain ⟨oc, od, kV, doc, pm, an, cdv, ct, osl, rfl, lk, hcd⟩ := F.ex
  refine fn_of lk hcd S len fun A outer s H vs Q E hr hsp => ?_
  obtain ⟨t, h, q⟩ := hbody cdv A outer s H vs Q E hr hsp
  exact ⟨t, h.nox, q⟩
theorem Fun.binds {x qual : Str} {st : Stmt} {f : Addr} {fd : FuncData} {ps : List Str} (F : Fun K x qual st f fd)
    (h : ∀ (kV doc pm : Value) (an : Option Addr) (cdv ct : Value) (us : List Value), us.length = ps.length → bindArgs (PySem.W.fnOf x qual (defArgs st) (defBody st) (defScope st) .none kV doc pm an cdv ct) ⟨us, []⟩ = pure (ps.zip us)) : Binds K fd ps [] := by
  obtain ⟨oc, od, kV, doc, pm, an, cdv, ct, osl, rfl, lk, hcd⟩ := F.ex
  exact .all (h kV doc pm an cdv ct)
theorem fun_mk {x qual : Str} {st : Stmt} {f : Addr} {oc : Value} {od an : Option Addr} {osl : Array (Option Value)} {kV doc pm cdv ct : Value} (l : K.lookup f = some ⟨oc, od, .func (PySem.W.fnOf x qual (defArgs st) (defBody st) (defScope st) .none kV doc pm an cdv ct), osl⟩)
    (c : PySem.W.codeIn K cdv qual = true) (k : PySem.W.keepIn K (.ref f) = true) : Fun K x qual st f (PySem.W.fnOf x qual (defArgs st) (defBody st) (defScope st) .none kV doc pm an cdv ct) := ⟨⟨oc, od, kV, doc, pm, an, cdv, ct, osl, rfl, l, c⟩, k⟩
end
theorem small1000 {n : Nat} (h : n ≤ 1000) : n < sizeLine := Nat.lt_of_le_of_lt h (by decide)
section
variable {X : Cx}
theorem pv (i : Nat) {x : Str} {pos : Pos} (hN : X.N[i]? = some x := by rfl) (hv : Vis X.env.scope x := by first | exact Or.inl rfl | exact Or.inr (Or.inl rfl) | exact Or.inr (Or.inr rfl)) (hd : (x == ("__debug__" : Str)) = false := by decide)
    (hcd : (x == ("__classdict__" : Str)) = false := by decide) : PE X (.Name x pos) (tVar i) := pe_var hN hv hd hcd
end
theorem iteF {A B : Prop} (h : B) : if false = true then A else B := by
  rw [if_neg Bool.false_ne_true]
  exact h
theorem iteT {A B : Prop} (h : A) : if true = true then A else B := by
  rw [if_pos rfl]
  exact h
theorem ite2 {c A B : Prop} [Decidable c] (h1 : c → A) (h2 : ¬ c → B) : if c then A else B := by
  by_cases h : c
  · rw [if_pos h]
    exact h1 h
  · rw [if_neg h]
    exact h2 h
def Same (H H' : Hp) : Prop := ∀ b o, H b = some o → H' b = some o
theorem Same.refl (H : Hp) : Same H H := fun _ _ h => h
theorem Same.trans {H H1 H2 : Hp} (a : Same H H1) (b : Same H1 H2) : Same H H2 := fun c o h => b c o (a c o h)
theorem Same.free {H H' : Hp} (e : Same H H') {l : Addr} (h : H' l = Option.none) : H l = Option.none := by
  cases q : H l with
  | none => rfl
  | some o =>
    rw [e l o q] at h
    cases h
theorem Same.seq {K : PySem.W.Frag} {H H' : Hp} {a : Addr} {xs : List V} (e : Same H H') (h : SqL K H a xs) : SqL K H' a xs := by
  rcases h with (h | ⟨o, h⟩) | h
  · exact .inl (.inl (e _ _ h))
  · exact .inl (.inr ⟨o, e _ _ h⟩)
  · exact .inr h
end L2
namespace L2
open PySem PySem.Spec PyProof.Rows
section
variable {κ : Type} [DecidableEq κ]
def valV (kvs : List (κ × V)) (k : κ) : Option V := (kvs.find? fun kv => decide (kv.1 = k)).map (·.2)
def putK (kvs : List (κ × V)) (k : κ) (v : V) : List (κ × V) :=
  if (kvs.any fun kv => decide (kv.1 = k)) = true then kvs.map (fun kv => if kv.1 = k then (kv.1, v) else kv) else kvs ++ [(k, v)]
def dropK (kvs : List (κ × V)) (k : κ) : List (κ × V) := kvs.filter fun kv => decide (kv.1 ≠ k)
theorem valV_pos {p : κ × V} {r : List (κ × V)} {k : κ} (e : p.1 = k) : valV (p :: r) k = some p.2 := by simp [valV, List.find?_cons, e]
theorem valV_neg {p : κ × V} {r : List (κ × V)} {k : κ} (e : ¬ p.1 = k) : valV (p :: r) k = valV r k := by simp [valV, List.find?_cons, e]
theorem valV_any (k : κ) : ∀ kvs : List (κ × V), (kvs.any fun kv => decide (kv.1 = k)) = (valV kvs k).isSome
  | [] => rfl
  | p :: r => by
    rw [List.any_cons]
    by_cases e : p.1 = k
    · simp only [valV_pos e, decide_eq_true e, Bool.true_or, Option.isSome_some]
    · rw [valV_neg e, decide_eq_false e, Bool.false_or]; exact valV_any k r
theorem RelO.isSome_eq {o : Option V} {u : Option Value} (r : RelO o u) : o.isSome = u.isSome := by
  cases o with
  | none => cases u with
    | none => rfl
    | some _ => exact (show False from r).elim
  | some _ => cases u with
    | none => exact (show False from r).elim
    | some _ => rfl
theorem RelO.getD {o : Option V} {u : Option Value} {d : V} {d' : Value} (r : RelO o u) (rd : RelV d d') : RelV (o.getD d) (u.getD d') := by
  cases o with
  | none => cases u with
    | none => exact rd
    | some _ => exact (show False from r).elim
  | some _ => cases u with
    | none => exact (show False from r).elim
    | some _ => exact r
theorem KV.val {kvs : List (κ × V)} {vs : List (κ × Value)} (r : KV kvs vs) (k : κ) : RelO (valV kvs k) (valueAt vs k) := by
  unfold KV at r
  induction r with
  | nil => exact True.intro
  | @cons p q ps qs h t ih =>
    obtain ⟨h1, h2⟩ := h
    by_cases e : p.1 = k
    · have e' : q.1 = k := h1.symm.trans e
      have b : valueAt (q :: qs) k = some q.2 := by simp [valueAt, List.find?_cons, e']
      rw [valV_pos e, b]; exact h2
    · have e' : ¬ q.1 = k := fun z => e (h1.trans z)
      have b : valueAt (q :: qs) k = valueAt qs k := by simp [valueAt, List.find?_cons, e']
      rw [valV_neg e, b]; exact ih
theorem KV.any {kvs : List (κ × V)} {vs : List (κ × Value)} (r : KV kvs vs) (k : κ) : (kvs.any fun kv => decide (kv.1 = k)) = vs.any fun kv => decide (kv.1 = k) := by
  unfold KV at r
  induction r with
  | nil => rfl
  | cons h t ih => rw [List.any_cons, List.any_cons, ih, h.1]
theorem KV.repl {kvs : List (κ × V)} {vs : List (κ × Value)} (r : KV kvs vs) (k : κ) {y : V} {u : Value} (ry : RelV y u) :
    KV (kvs.map fun kv => if kv.1 = k then (kv.1, y) else kv) (vs.map fun kv => if kv.1 = k then (kv.1, u) else kv) := by
  unfold KV at r ⊢
  induction r with
  | nil => exact .nil
  | @cons p q ps qs h t ih =>
    rw [List.map_cons, List.map_cons]
    refine .cons ?_ ih
    obtain ⟨h1, h2⟩ := h
    by_cases e : p.1 = k
    · rw [if_pos e, if_pos (h1.symm.trans e)]; exact ⟨h1, ry⟩
    · rw [if_neg e, if_neg (fun z => e (h1.trans z))]; exact ⟨h1, h2⟩
theorem KV.put {kvs : List (κ × V)} {vs : List (κ × Value)} (r : KV kvs vs) (k : κ) {y : V} {u : Value} (ry : RelV y u) : KV (putK kvs k y) (stored vs k u) := by
  unfold putK stored
  rw [r.any k]
  by_cases e : (vs.any fun kv => decide (kv.1 = k)) = true
  · rw [if_pos e, if_pos e]; exact r.repl k ry
  · rw [if_neg e, if_neg e]; exact Paired.snoc r ⟨rfl, ry⟩
theorem KV.drop {kvs : List (κ × V)} {vs : List (κ × Value)} (r : KV kvs vs) (k : κ) : KV (dropK kvs k) (without vs k) := by
  unfold KV at r ⊢
  unfold dropK without
  induction r with
  | nil => exact .nil
  | @cons p q ps qs h t ih =>
    obtain ⟨h1, h2⟩ := h
    rw [List.filter_cons, List.filter_cons]
    by_cases e : p.1 = k
    · have a : ¬ decide (p.1 ≠ k) = true := by simp [e]
      have b : ¬ decide (q.1 ≠ k) = true := by simp [h1.symm.trans e]
      rw [if_neg a, if_neg b]; exact ih
    · have e' : ¬ q.1 = k := fun z => e (h1.trans z)
      have a : decide (p.1 ≠ k) = true := by simp [e]
      have b : decide (q.1 ≠ k) = true := by simp [e']
      rw [if_pos a, if_pos b]; exact .cons ⟨h1, h2⟩ ih
theorem KV.keys {kvs : List (κ × V)} {vs : List (κ × Value)} (r : KV kvs vs) : kvs.map (·.1) = vs.map (·.1) := by
  unfold KV at r
  induction r with
  | nil => rfl
  | cons h t ih => rw [List.map_cons, List.map_cons, ih, h.1]
theorem KV.length {kvs : List (κ × V)} {vs : List (κ × Value)} (r : KV kvs vs) : kvs.length = vs.length := Paired.length r
end
abbrev KT (H : Hp) : List (List Key × V) → List (List Key × Addr × Value) → Prop := Paired fun p q => p.1 = q.1 ∧ H q.2.1 = some (.tup (p.1.map kV)) ∧ RelV p.2 q.2.2
theorem KT.val {H : Hp} {kvs : List (List Key × V)} {xs : List (List Key × Addr × Value)} (r : KT H kvs xs) (k : List Key) : RelO (valV kvs k) ((atKey xs k).map (·.2)) := by
  induction r with
  | nil => exact True.intro
  | @cons p q ps qs h t ih =>
    obtain ⟨h1, _, h2⟩ := h
    by_cases e : p.1 = k
    · have e' : q.1 = k := h1.symm.trans e
      have b : atKey (q :: qs) k = some q.2 := by simp [atKey, List.find?_cons, e']
      rw [valV_pos e, b]; exact h2
    · have e' : ¬ q.1 = k := fun z => e (h1.trans z)
      have b : atKey (q :: qs) k = atKey qs k := by simp [atKey, List.find?_cons, e']
      rw [valV_neg e, b]; exact ih
theorem KT.repl {H : Hp} {kvs : List (List Key × V)} {xs : List (List Key × Addr × Value)} (r : KT H kvs xs) (k : List Key) {y : V} {u : Value} (ry : RelV y u) :
    KT H (kvs.map fun kv => if kv.1 = k then (kv.1, y) else kv) (xs.map (putAt k u)) := by
  induction r with
  | nil => exact .nil
  | @cons p q ps qs h t ih =>
    rw [List.map_cons, List.map_cons]
    refine .cons ?_ ih
    obtain ⟨h1, h2, h3⟩ := h
    unfold putAt
    by_cases e : p.1 = k
    · rw [if_pos e, if_pos (h1.symm.trans e)]; exact ⟨h1, h2, ry⟩
    · rw [if_neg e, if_neg (fun z => e (h1.trans z))]; exact ⟨h1, h2, h3⟩
theorem KT.put {H : Hp} {kvs : List (List Key × V)} {xs : List (List Key × Addr × Value)} (r : KT H kvs xs) (k : List Key) {b : Addr} {y : V} {u : Value} (hb : H b = some (.tup (k.map kV))) (ry : RelV y u) :
    KT H (putK kvs k y) (storedH xs k b u) := by
  have e : (kvs.any fun kv => decide (kv.1 = k)) = (atKey xs k).isSome := by
    rw [valV_any, (r.val k).isSome_eq, Option.isSome_map]
  unfold putK storedH
  rw [e]
  by_cases q : (atKey xs k).isSome = true
  · rw [if_pos q, if_pos q]; exact r.repl k ry
  · rw [if_neg q, if_neg q]; exact Paired.snoc r ⟨rfl, hb, ry⟩
theorem KT.keeps {H H' : Hp} {kvs : List (List Key × V)} {xs : List (List Key × Addr × Value)} (r : KT H kvs xs) (ht : ∀ b ys, H b = some (.tup ys) → H' b = some (.tup ys)) : KT H' kvs xs :=
  Paired.mapP r fun _ _ z => ⟨z.1, ht _ _ z.2.1, z.2.2⟩
section
variable {P : Program} {w : World} {H : Hp} {h : Heap} {a : Addr}
end
def DGet (H : Hp) (a : Addr) (y : V) (r : Option V) : Prop :=
  (∃ kvs k, Rd H a (.dK kvs) ∧ y = kV k ∧ r = valV kvs k) ∨ ∃ kvs k b, Rd H a (.dT kvs) ∧ y = .ref b ∧ H b = some (.tup (k.map kV)) ∧ r = valV kvs k
def DPut (H : Hp) (a : Addr) (y v : V) (H' : Hp) : Prop :=
  (∃ kvs k, H a = some (.dK kvs) ∧ y = kV k ∧ kvs.length < sizeLine ∧ H' = upd H a (.dK (putK kvs k v))) ∨
  ∃ kvs k b, H a = some (.dT kvs) ∧ y = .ref b ∧ H b = some (.tup (k.map kV)) ∧ kvs.length < sizeLine ∧ H' = upd H a (.dT (putK kvs k v))
theorem DGet.k {H : Hp} {a : Addr} {kvs : List (Key × V)} {k : Key} (e : H a = some (.dK kvs)) : DGet H a (kV k) (valV kvs k) := .inl ⟨kvs, k, .inl e, rfl, rfl⟩
theorem DGet.t {H : Hp} {a b : Addr} {kvs : List (List Key × V)} {k : List Key} (e : H a = some (.dT kvs)) (eb : H b = some (.tup (k.map kV))) : DGet H a (.ref b) (valV kvs k) := .inr ⟨kvs, k, b, .inl e, rfl, eb, rfl⟩
theorem DPut.k {H : Hp} {a : Addr} {kvs : List (Key × V)} {k : Key} {v : V} (e : H a = some (.dK kvs)) (hl : kvs.length < sizeLine) : DPut H a (kV k) v (upd H a (.dK (putK kvs k v))) := .inl ⟨kvs, k, e, rfl, hl, rfl⟩
theorem DPut.t {H : Hp} {a b : Addr} {kvs : List (List Key × V)} {k : List Key} {v : V} (e : H a = some (.dT kvs)) (eb : H b = some (.tup (k.map kV))) (hl : kvs.length < sizeLine) :
    DPut H a (.ref b) v (upd H a (.dT (putK kvs k v))) := .inr ⟨kvs, k, b, e, rfl, eb, hl, rfl⟩
section
variable {X : Cx} {pins : List (Addr × Obj)} {σ : St} {H : Hp} {s : Shared} {a : Addr} {y v : V} {u r : Value} {o : Option V} {A : Around} {E : Value → Shared → Prop}
theorem Inv.big (I : Inv X pins σ H s) : sysModules < s.heap.objs.size := by
  have h : mainGlobals < s.heap.objs.size := (I.mod.glob.keeps I.bk).lt
  exact Nat.lt_trans (by decide) h
end
section
variable {X : Cx} {pins : List (Addr × Obj)} {σ : St} {H : Hp} {s : Shared} {a : Addr} {kvs : List (Key × V)} {k : Key} {u : Value} {A : Around} {E : Value → Shared → Prop}
end
section
variable {X : Cx} {o i e value : Expr} {pos pos' tpos : Pos} {td ty tv : TE}
end
section
variable {X : Cx} {pos : Pos}
end
def tPairs : List (TE × TE) → St → Hp → (List (V × V) → Hp → Prop) → Prop
  | [], _, H, Q => Q [] H
  | (tk, tv) :: r, σ, H, Q => tk σ H fun x H1 => tv σ H1 fun y H2 => tPairs r σ H2 fun ps H3 => Q ((x, y) :: ps) H3
abbrev VV : List (V × V) → List (Value × Value) → Prop := Paired fun p q => RelV p.1 q.1 ∧ RelV p.2 q.2
def PPs (X : Cx) (pos : Pos) (keys : List (Option Expr)) (values : List Expr) (trs : List (TE × TE)) : Prop :=
  ∀ (pins : List (Addr × Obj)) (s : Shared) (σ : St) (H : Hp) (Q : List (V × V) → Hp → Prop), Inv X pins σ H s → tPairs trs σ H Q →
    wpAny (model X.prog X.w) X.A (evalPairs (pairTrees keys values X.env pos)) (fun vs s' => ∃ ps H', Inv X pins σ H' s' ∧ VV ps vs ∧ Q ps H') X.xe s
structure M1 (X : Cx) (o : Expr) (m : Str) (apos : Pos) (e : Expr) (cpos : Pos) : Prop where
  base : attributeBase o m X.env (eval o X.env) = eval o X.env
  few : ((backTo cpos (starEach [e] X.env)).all (fun x => !x.1) && (backToKw cpos (keywordEach [] X.env)).all (fun x => x.1.isSome)
    && decide (([e] : List Expr).length + ([] : List Keyword).length + (if ([] : List Keyword).isEmpty then 0 else 1) < 30)) = true
  line : (apos.endLine == cpos.line) = true
  trees : backTo cpos (starEach [e] X.env) = [(false, eval e X.env)]
structure M2 (X : Cx) (o : Expr) (m : Str) (apos : Pos) (e f : Expr) (cpos : Pos) : Prop where
  base : attributeBase o m X.env (eval o X.env) = eval o X.env
  few : ((backTo cpos (starEach [e, f] X.env)).all (fun x => !x.1) && (backToKw cpos (keywordEach [] X.env)).all (fun x => x.1.isSome)
    && decide (([e, f] : List Expr).length + ([] : List Keyword).length + (if ([] : List Keyword).isEmpty then 0 else 1) < 30)) = true
  line : (apos.endLine == cpos.line) = true
  trees : backTo cpos (starEach [e, f] X.env) = [(false, eval e X.env), (false, eval f X.env)]
section
variable {X : Cx} {pins : List (Addr × Obj)} {σ : St} {H : Hp} {s : Shared} {a : Addr} {y d : V} {u r : Value} {o : Option V} {A : Around} {E : Value → Shared → Prop}
end
section
variable {X : Cx} {o e f : Expr} {apos cpos : Pos} {td ty tx : TE}
end
section
variable {X : Cx} {pins : List (Addr × Obj)} {σ : St} {H : Hp} {s : Shared} {a : Addr} {kvs : List (Key × V)} {A : Around} {E : Value → Shared → Prop}
end
section
variable {X : Cx} {pins : List (Addr × Obj)} {σ : St} {H : Hp} {s : Shared} {a : Addr} {y : V} {u : Value} {A : Around} {E : Value → Shared → Prop}
end
end L2
namespace L2
open PySem PySem.Spec PyProof.Rows
section
variable {X : Cx}
end
section
variable {κ : Type} [DecidableEq κ]
theorem valV_not {kvs : List (κ × V)} {k : κ} (h : valV kvs k = none) : ¬ k ∈ kvs.map (·.1) := by
  intro m
  obtain ⟨p, hp, e⟩ := List.mem_map.mp m
  have q : (kvs.any fun kv => decide (kv.1 = k)) = true := List.any_eq_true.mpr ⟨p, hp, decide_eq_true e⟩
  rw [valV_any, h] at q
  exact absurd q (by simp)
end
end L2
namespace PySem
section
variable {prog : Program} {w : World} {A : Around} {E : Value → Shared → Prop} {R : Result → Shared → Prop} {s : Shared}
theorem compLoop_any {elt target iter : Expr} {ifs : List Expr} {scope : Scope} {pos : Pos} {it acc : Value} {env : Env} (I : Nat → Shared → Prop)
    (turn : ∀ n s, I n s → ∀ E' : Value → Shared → Prop, wpAny (model prog w) A (pyNext it) (fun r s₁ => match r with
      | none => R (.ok .next) s₁
      | some v => wpAny (model prog w) A (letOwnedTupleGo target it v) (fun _ s₁' => wpAny (model prog w) A (assign target env v) (fun _ s₂ =>
          wpAny (model prog w) A (forIn ifs true fun c r => if r = true then do let ok ← isTrue c env (eval c env); pure (ForInStep.yield ok) else pure (ForInStep.yield r)) (fun ok s₃ =>
            if ok = true then wpAny (model prog w) A (eval elt env) (fun x s₄ =>
              wpAny (model prog w) A (call (.builtin "list.append") [acc, x]) (fun _ s₅ => ∃ m, m < n ∧ I m s₅) E' s₄) E' s₃
            else ∃ m, m < n ∧ I m s₃) E' s₂) E' s₁') E' s₁) E' s)
    (n : Nat) (h : I n s) :
    codeAny (model prog w) A (.compLoop (.ListComp elt [⟨target, iter, ifs, 0⟩] scope pos) 0 it acc env) R s := by
  refine codeAny_loop rfl I (fun n s hI => ?_) n h
  show wpAny _ A ((compTurn (.ListComp elt [⟨target, iter, ifs, 0⟩] scope pos) 0 it acc env).onRaise (fun x => do noteFrame x env; theTreesLotGoes x)) _ _ s
  refine wpAny_noted ?_
  rw [compTurn_list]
  refine wpAny_bind (wpAny_standAt (wpAny_bind (wpAny_mono (turn n s hI _) (fun r s₁ h₁ => ?_) fun _ _ h' => h')))
  cases r with
  | none => exact wpAny_pure h₁
  | some v =>
    refine wpAny_bind (wpAny_mono h₁ (fun _ s₁' h₁' => ?_) fun _ _ h' => h')
    refine wpAny_bind (wpAny_mono h₁' (fun _ s₂ h₂ => wpAny_bind (wpAny_mono h₂ (fun ok s₃ h₃ => ?_) fun _ _ h' => h')) fun _ _ h' => h')
    cases ok with
    | false => exact wpAny_pure ⟨rfl, h₃⟩
    | true =>
      exact wpAny_bind (wpAny_bind (wpAny_mono h₃ (fun x s₄ h₄ => wpAny_bind (wpAny_mono h₄ (fun _ s₅ h₅ => wpAny_pure (wpAny_pure ⟨rfl, h₅⟩)) fun _ _ h' => h')) fun _ _ h' => h'))
end
end PySem
namespace PySem
def closL (env : Env) : List (Str × NameKind) → List (Str × Addr) → List (Str × Addr)
  | [], cs => cs
  | (n, k) :: r, cs => closL env r (if k == .free then (match env.cells.lookup n with | some a => (n, a) :: cs | none => cs) else cs)
theorem closureFor_closL {scope : Scope} {env : Env} (h : ∀ y ∈ scope.names, y.2 = .free → ∃ c, env.cells.lookup y.1 = some c) : closureFor scope env = pure (closL env scope.names []) := by
  unfold closureFor
  have key : ∀ (l : List (Str × NameKind)) (cs : List (Str × Addr)), (∀ y ∈ l, y.2 = .free → ∃ c, env.cells.lookup y.1 = some c) →
      (forIn l cs fun x r => (match x with
        | (name, kind) => if (kind == NameKind.free) = true then (do let a ← cellOf env name; pure (ForInStep.yield ((name, a) :: r))) else pure (ForInStep.yield r) : Sem (ForInStep (List (Str × Addr))))) = (pure (closL env l cs) : Sem _) := by
    intro l
    induction l with
    | nil => intro cs _; rfl
    | cons y r ih =>
      intro cs hy
      obtain ⟨n, k⟩ := y
      rw [List.forIn_cons]
      by_cases hk : (k == NameKind.free) = true
      · obtain ⟨c, hc⟩ := hy (n, k) List.mem_cons_self (by simpa using hk)
        have e : cellOf env n = pure c := by unfold cellOf; rw [hc]
        simp only [hk, if_true, e, pure_bind]
        rw [ih _ fun z hz => hy z (List.mem_cons_of_mem _ hz)]
        show _ = pure (closL env r (if (k == NameKind.free) = true then (match env.cells.lookup n with | some a => (n, a) :: cs | none => cs) else cs))
        rw [if_pos hk, hc]
      · have hk2 : (k == NameKind.free) = false := by simpa using hk
        simp only [hk2, Bool.false_eq_true, if_false, pure_bind]
        rw [ih _ fun z hz => hy z (List.mem_cons_of_mem _ hz)]
        show _ = pure (closL env r (if (k == NameKind.free) = true then (match env.cells.lookup n with | some a => (n, a) :: cs | none => cs) else cs))
        rw [if_neg hk]
  have k2 := key scope.names [] h
  simp only [bind_pure]
  first
    | exact k2
    | (rw [← k2]; rfl)
theorem closL_mem {env : Env} : ∀ (l : List (Str × NameKind)) (cs : List (Str × Addr)) (p : Str × Addr), p ∈ closL env l cs → p ∈ cs ∨ env.cells.lookup p.1 = some p.2
  | [], _, _, h => .inl h
  | (n, k) :: r, cs, p, h => by
    rcases closL_mem r _ p h with q | q
    · by_cases hk : (k == NameKind.free) = true
      · rw [if_pos hk] at q
        cases e : env.cells.lookup n with
        | none => rw [e] at q; exact .inl q
        | some a =>
          rw [e] at q
          rcases List.mem_cons.mp q with z | z
          · subst z; exact .inr e
          · exact .inl z
      · rw [if_neg hk] at q; exact .inl q
    · exact .inr q
theorem closL_sub {env : Env} : ∀ (l : List (Str × NameKind)) (cs : List (Str × Addr)) (p : Str × Addr), p ∈ cs → p ∈ closL env l cs
  | [], _, _, h => h
  | (n, k) :: r, cs, p, h => by
    refine closL_sub r _ p ?_
    by_cases hk : (k == NameKind.free) = true
    · rw [if_pos hk]
      cases e : env.cells.lookup n with
      | none => exact h
      | some a => exact List.mem_cons_of_mem _ h
    · rw [if_neg hk]; exact h
theorem closL_has {env : Env} {n : Str} {c : Addr} (e : env.cells.lookup n = some c) : ∀ (l : List (Str × NameKind)) (cs : List (Str × Addr)), (n, NameKind.free) ∈ l → (n, c) ∈ closL env l cs
  | [], _, h => nomatch h
  | (m, k) :: r, cs, h => by
    rcases List.mem_cons.mp h with z | z
    · cases z
      refine closL_sub r _ _ ?_
      rw [if_pos (by rfl), e]
      exact List.mem_cons_self
    · exact closL_has e r _ z
theorem lookup_of_mem {β : Type} {n : Str} {c : β} : ∀ {l : List (Str × β)}, (n, c) ∈ l → ∃ d, l.lookup n = some d
  | [], h => nomatch h
  | (m, d) :: r, h => by
    cases q : n == m with
    | true => exact ⟨d, by simp only [List.lookup_cons, q]⟩
    | false =>
      rcases List.mem_cons.mp h with z | z
      · cases z
        simp at q
      · obtain ⟨d', e⟩ := lookup_of_mem z
        exact ⟨d', by simp only [List.lookup_cons, q, e]⟩
theorem relabel_inv {env : Env} : ∀ {names : List (Str × NameKind)} {x : Str} {k : NameKind},
    (names.map fun (n, k) => if (k == NameKind.free && env.scope.kind == .function && env.kindOf n == some .cell) then (n, NameKind.cell) else (n, k)).lookup x = some k →
    ∃ k', names.lookup x = some k' ∧ (k' = k ∨ (k' = .free ∧ k = .cell))
  | [], _, _, h => by simp at h
  | (n, j) :: r, x, k, h => by
    cases hx : x == n with
    | true =>
      refine ⟨j, by simp only [List.lookup_cons, hx], ?_⟩
      by_cases hc : (j == NameKind.free && env.scope.kind == .function && env.kindOf n == some .cell) = true
      · simp only [List.map_cons, if_pos hc, List.lookup_cons, hx] at h
        cases h
        refine .inr ⟨?_, rfl⟩
        simp only [Bool.and_eq_true, beq_iff_eq] at hc
        exact hc.1.1
      · simp only [List.map_cons, if_neg hc, List.lookup_cons, hx] at h
        cases h
        exact .inl rfl
    | false =>
      by_cases hc : (j == NameKind.free && env.scope.kind == .function && env.kindOf n == some .cell) = true
      · simp only [List.map_cons, if_pos hc, List.lookup_cons, hx] at h
        obtain ⟨k', e1, e2⟩ := relabel_inv h
        exact ⟨k', by simp only [List.lookup_cons, hx, e1], e2⟩
      · simp only [List.map_cons, if_neg hc, List.lookup_cons, hx] at h
        obtain ⟨k', e1, e2⟩ := relabel_inv h
        exact ⟨k', by simp only [List.lookup_cons, hx, e1], e2⟩
end PySem
namespace L2
open PySem PySem.Spec PyProof.Rows
open Builtin.Int (intBits)
section
variable {X : Cx}
theorem call_isinst {T : String} : CallR X (.builtin "isinstance") (fun xs H Q => ∃ x t b, xs = [x, .ty T] ∧ TyOf X.K H x t ∧ PySem.W.kitOne X.K t (.type T) = some b ∧ Q (.bl b) H) := by
  intro pins s σ H xs us Q I r h
  obtain ⟨x, t, b, rfl, ty, e, q⟩ := h
  obtain ⟨u, w', rfl, rx, rt⟩ := vals2 r
  cases (show w' = Value.type T from rt)
  exact isinst_ok I rx ty e fun tk => ⟨.bl b, H, I.tok _, rfl, q⟩
theorem getD_at {α : Type} {l : List α} {d : α} {i : Nat} (h : i < l.length) : l.getD i d = l[i] := by simp [h]
end
structure CompOk (sc scope : Scope) : Prop where
  kind : scope.kind = .function
  nocell : ∀ y ∈ scope.names, y.2 ≠ .cell
  loc : ∀ y ∈ scope.names, y.2 = .local → scope.names.lookup y.1 = some .local
  free : ∀ y ∈ scope.names, y.2 = .free → sc.names.lookup y.1 = some .cell ∨ sc.names.lookup y.1 = some .free
def compOkB (sc scope : Scope) : Bool := (scope.kind == .function) && scope.names.all fun y => (y.2 != .cell) && ((y.2 != .local) || (scope.names.lookup y.1 == some .local)) && ((y.2 != .free) || (sc.names.lookup y.1 == some .cell) || (sc.names.lookup y.1 == some .free))
theorem CompOk.of {sc scope : Scope} (h : compOkB sc scope = true) : CompOk sc scope := by
  unfold compOkB at h
  rw [Bool.and_eq_true, List.all_eq_true] at h
  obtain ⟨hk, h⟩ := h
  refine ⟨eq_of_beq hk, fun y hy => ?_, fun y hy e => ?_, fun y hy e => ?_⟩
  · have q := h y hy
    simp only [Bool.and_eq_true, bne_iff_ne] at q
    exact q.1.1
  · have q := h y hy
    simp only [Bool.and_eq_true, Bool.or_eq_true, bne_iff_ne, beq_iff_eq] at q
    exact q.1.2.resolve_left fun z => z e
  · have q := h y hy
    simp only [Bool.and_eq_true, Bool.or_eq_true, bne_iff_ne, beq_iff_eq] at q
    rcases q.2 with (z | z) | z
    · exact absurd e z
    · exact .inl z
    · exact .inr z
structure NL (N M : List Str) (scope : Scope) : Prop where
  len : M.length = N.length
  loc : ∀ (j : Nat) x, M[j]? = some x → scope.names.lookup x ≠ some .local
  free : ∀ (j : Nat) x, M[j]? = some x → scope.names.lookup x = some .free → N[j]? = some x
def nlB (scope : Scope) : List Str → List Str → Bool
  | [], [] => true
  | x :: M, y :: N => (scope.names.lookup x != some .local) && ((scope.names.lookup x != some .free) || x == y) && nlB scope M N
  | _, _ => false
theorem NL.of {scope : Scope} : ∀ {N M : List Str}, nlB scope M N = true → NL N M scope
  | [], [], _ => ⟨rfl, fun j x h => by simp at h, fun j x h => by simp at h⟩
  | [], _ :: _, h => by cases h
  | _ :: _, [], h => by cases h
  | y :: N, x :: M, h => by
    have h' : ((scope.names.lookup x != some .local) && ((scope.names.lookup x != some .free) || x == y) && nlB scope M N) = true := h
    simp only [Bool.and_eq_true, Bool.or_eq_true, bne_iff_ne, beq_iff_eq] at h'
    obtain ⟨⟨h1, h2⟩, h3⟩ := h'
    have q := NL.of h3
    refine ⟨by simp [q.len], fun j z e => ?_, fun j z e f => ?_⟩
    · cases j with
      | zero => simp at e; subst e; exact h1
      | succ j => exact q.loc j z (by simpa using e)
    · cases j with
      | zero =>
        simp at e; subst e
        rcases h2 with w | w
        · exact absurd f w
        · simp [w]
      | succ j => simpa using q.free j z (by simpa using e) f
def cxComp (X : Cx) (ls M : List Str) (scope : Scope) (C : Addr) (fp : List Addr) (s : Shared) (H : Hp) : Cx where
  prog := X.prog
  w := X.w
  K := X.K
  mg := X.mg
  base := X.base
  A := X.A
  N := ls ++ M
  s₀ := s
  H₀ := H
  env := compEnvC scope (closL X.env scope.names []) C X.env
  outer := X.stack
  stack := X.stack
  ex := fp
  fn := fun _ => false
  calm := X.calm
  pn := []
  xe := fun _ _ => False
def PTs (Y : Cx) (ifs : List Expr) (c : TT) : Prop :=
  ∀ (pins : List (Addr × Obj)) (s : Shared) (σ : St) (H : Hp) (Q : Bool → Hp → Prop), Inv Y pins σ H s → c σ H Q →
    wpAny (model Y.prog Y.w) Y.A (forIn ifs true fun c r => if r = true then do let ok ← isTrue c Y.env (eval c Y.env); pure (ForInStep.yield ok) else pure (ForInStep.yield r)) (TP Y pins σ Q) Y.xe s
def tYes : TT := fun _ H Q => Q true H
theorem pts_nil {Y : Cx} : PTs Y [] tYes := fun _ _ _ H _ I h => wpAny_tests_nil ⟨H, I, h⟩
def CompW (k : Nat) (J : It) (g : TG) (c : TT) (te : TE) (σ : St) (H1 : Hp) (D : Addr) (Q : VK) : Prop :=
  ∃ W : Nat → Nat → St → Hp → Prop, (∃ m, W 0 m (List.replicate k none ++ σ) (upd H1 D (.lst []))) ∧ ∀ i m τ H, W i m τ H →
    (J.stop i H ∧ Q (.ref D) H) ∨ (J.go i H ∧ ∀ x H', J.yld i H x H' → g x τ H' fun τ2 H2 => c τ2 H2 fun b H3 => if b = true then te τ2 H3 fun y H4 => ∃ ys m', m' < m ∧ H4 D = some (.lst ys) ∧ ys.length < sizeLine ∧ W (i + 1) m' τ2 (upd H4 D (.lst (ys ++ [y]))) else ∃ m', m' < m ∧ W (i + 1) m' τ2 H3)
def tComp (k : Nat) (wi : TI) (g : TG) (c : TT) (te : TE) : TE := fun σ H Q => wi σ H fun J H1 => ∀ D, H1 D = none → CompW k J g c te σ H1 D Q
structure COff (X : Cx) (pins : List (Addr × Obj)) (H : Hp) (C : Addr) (s : Shared) : Prop where
  ns : ∃ m, s.heap.Ns C m
  none : H C = none
  ne : C ≠ X.env.locals
  young : X.s₀.heap.objs.size ≤ C
  cells : ∀ x c, X.env.cells.lookup x = some c → c ≠ C
  pins : ∀ p ∈ X.pn ++ pins, p.1 ≠ C
theorem Inv.gone {X : Cx} {pins : List (Addr × Obj)} {σ : St} {H : Hp} {C : Addr} {s : Shared} {h' : Heap} (I : Inv X pins σ H s) (o : COff X pins H C s) (hs : Heap.SameBut C s.heap h') : Inv X pins σ H { s with heap := h' } :=
  I.turned (t' := s.toks) (it := C) (fun b ob hb e => (hs.2 b hb).trans e) o.none o.ne (.inr o.young) o.cells o.pins
section
variable {X : Cx} {elt tg iter : Expr} {ifs : List Expr} {scope : Scope} {pos : Pos} {ls M : List Str} {g : TG} {c : TT} {te : TE}
theorem comp_core {J : It} {fp : List Addr} {tn : Nat → Heap → Prop} {it : Addr} {pins : List (Addr × Obj)} {σ : St} {H2 : Hp} {s2 : Shared} {Qe : VK} {RR : Value → Addr → Result → Shared → Prop} {E : Value → Shared → Prop}
    (hc : X.calm = true) (S : CompOk X.env.scope scope) (nl : NL X.N M scope)
    (hb : ∀ C fp s H, PG (cxComp X ls M scope C fp s H) tg g ∧ PTs (cxComp X ls M scope C fp s H) ifs c ∧ PE (cxComp X ls M scope C fp s H) elt te)
    (I2 : Inv X pins σ H2 s2) (T : Turn X.prog X.w X.K tg J fp it tn) (st2 : tn 0 s2.heap) (f2 : ∀ b ∈ fp, FpOk X pins H2 b)
    (hW : ∀ D, H2 D = none → CompW ls.length J g c te σ H2 D Qe)
    (hRR : ∀ D C H' s', Inv X pins σ H' s' → COff X pins H' C s' → Qe (.ref D) H' → RR (.ref D) C (.ok .next) s') :
    wpAny (model X.prog X.w) X.A (newList []) (fun acc s₃ => wpAny (model X.prog X.w) X.A (newFunctionEnv scope X.env.globals (closL X.env scope.names []) [] X.env.qual none .none (some X.env)) (fun cenv s₄ =>
      codeAny (model X.prog X.w) X.A (.compStart (.ListComp elt [⟨tg, iter, ifs, 0⟩] scope pos) 0 (.ref it) acc { cenv with scope := relabel scope X.env }) (RR acc cenv.locals) s₄) E s₃) E s2 := by
  refine wpAny_newObj_type (wpAny_newFunctionEnv S.nocell (by intro y hy; simp at hy) (fun h₁ hns₁ hsb₁ => ?_) S.kind)
  dsimp only at hns₁ hsb₁ ⊢
  have I3 : Inv X pins σ (upd H2 s2.heap.objs.size (.lst [])) { s2 with heap := s2.heap.push { cls := .type "list", dict := none, data := .seq ([] : List Value).toArray }, toks := s2.toks } :=
    I2.laid (fun _ _ q => Heap.get?_push_of_some _ q) (Nat.le_refl _) ⟨Nat.zero_le _, [], 0, .nil, Heap.get?_push_size _ rfl⟩
  have hfreshD : H2 s2.heap.objs.size = none := I2.hok.fresh (Nat.le_refl _)
  generalize hHH : s2.heap.push { cls := .type "list", dict := none, data := .seq ([] : List Value).toArray } = HH at hns₁ hsb₁ I3 ⊢
  have up : ∀ b o, s2.heap.get? b = some o → HH.get? b = some o := fun b o e => by rw [← hHH]; exact Heap.get?_push_of_some _ e
  have old : ∀ b o, HH.get? b = some o → h₁.get? b = some o := fun b o e => hsb₁.extBut b o (Nat.ne_of_lt (Heap.lt_size e)) (Heap.get?_push_of_some _ e)
  generalize hH3 : upd H2 s2.heap.objs.size (.lst []) = H3 at I3
  have f3 : ∀ b ∈ fp, FpOk X pins H3 b := fun b hb => by
    obtain ⟨f0, fr⟩ := f2 b hb
    refine ⟨?_, fr⟩
    obtain ⟨o, e, _⟩ := T.obj 0 _ st2 b hb
    rw [← hH3, upd_ne (Nat.ne_of_lt (Heap.lt_size e))]
    exact f0
  have fplt : ∀ b ∈ fp, b < HH.objs.size := fun b hb => by
    obtain ⟨o, e, _⟩ := T.obj 0 _ st2 b hb
    exact Heap.lt_size (up b o e)
  have sub : ∀ x a, (closL X.env scope.names []).lookup x = some a → X.env.cells.lookup x = some a := fun x a e => by
    rcases closL_mem _ _ _ (PySem.mem_of_lookup e) with z | z
    · exact absurd z (by simp)
    · exact z
  have kin : ∀ x, scope.names.lookup x = some .free → X.env.kindOf x = some .cell ∨ X.env.kindOf x = some .free := fun x e => S.free (x, .free) (PySem.mem_of_lookup e) rfl
  have has : ∀ x a, scope.names.lookup x = some .free → X.env.cells.lookup x = some a → (closL X.env scope.names []).lookup x = some a := fun x a e ec => by
    obtain ⟨d, hd⟩ := lookup_of_mem (closL_has ec scope.names [] (PySem.mem_of_lookup e))
    have := sub x d hd
    rw [ec] at this
    cases this
    exact hd
  have rel : ∀ x k, (relabel scope X.env).names.lookup x = some k → (k = .cell ∨ k = .free) → scope.names.lookup x = some .free := fun x k e hk => by
    obtain ⟨k', e1, e2⟩ := relabel_inv (show (scope.names.map fun (n, k) => if (k == NameKind.free && X.env.scope.kind == .function && X.env.kindOf n == some .cell) then (n, NameKind.cell) else (n, k)).lookup x = some k from e)
    rcases e2 with e2 | ⟨e2, _⟩
    · subst e2
      rcases hk with hk | hk
      · subst hk; exact absurd rfl (S.nocell _ (PySem.mem_of_lookup e1))
      · subst hk; exact e1
    · subst e2; exact e1
  have okY : (cxComp X ls M scope HH.objs.size fp { s2 with heap := HH, toks := s2.toks } H3).Ok := by
    refine ⟨I3.ok.mod, S.kind, I3.ok.glob, I3.ok.blt, Nat.le_refl _, fun x y a h1 h2 => I3.ok.inj x y a (sub x a h1) (sub y a h2), fun x hx => ?_, (fun x a h => nomatch h), I3.ok.hd, I3.ok.frames, .inl rfl, fun b hb' => ⟨Nat.ne_of_lt (fplt b hb'), fun x a e => (f3 b hb').2.2.2.2.1 x a (sub x a e)⟩,
      I3.bs, Nat.le_trans I3.ok.bsz I3.sz, fun b o e hb' => ?_, fun b hb' hs => ?_, I3.stack, I3.stkFree⟩
    · have hf : scope.names.lookup x = some .free := by
        rcases hx with hx | hx
        · exact rel x _ hx (.inl rfl)
        · exact rel x _ hx (.inr rfl)
      obtain ⟨a, ea⟩ := I3.ok.has x (kin x hf)
      exact ⟨a, has x a hf ea⟩
    · rcases (f3 b hb').2.2.2.1 with z | z
      · exact I3.ok.noex b o e z
      · exact absurd (Nat.lt_of_lt_of_le (Heap.lt_size e) (Nat.le_trans I3.ok.bsz z)) (Nat.lt_irrefl _)
    · rcases List.mem_cons.mp (I3.stkSub b hs) with z | z
      · exact (f3 b hb').2.1 z
      · exact (f3 b hb').2.2.1 z
  have IY : Inv (cxComp X ls M scope HH.objs.size fp { s2 with heap := HH, toks := s2.toks } H3) [] (List.replicate ls.length none ++ σ) H3 { s2 with heap := h₁, toks := s2.toks + ([] : List (Str × Value)).length } := by
    refine ⟨okY, rfl, I2.bare, Un.kept old, ⟨_, hns₁, fun i x v e1 e2 e3 => ?_⟩, fun x a e => ?_, I3.hok.fresh (Nat.le_refl _), fun x a e => I3.freeC x a (sub x a e), fun p hp => absurd (show p ∈ ([] : List (Addr × Obj)) from hp) (by simp), I3.hok.kept old, ?_⟩
    · have hi : ls.length ≤ i := by
        by_cases hi : ls.length ≤ i
        · exact hi
        · rw [List.getElem?_append_left (by simp; omega), List.getElem?_replicate] at e2
          split at e2 <;> cases e2
      rw [List.getElem?_append_right (by simpa using hi), List.length_replicate] at e2
      have e0 : M[i - ls.length]? = some x := by
        have z : (ls ++ M)[i]? = some x := e1
        rw [List.getElem?_append_right hi] at z
        exact z
      have hnl := nl.loc _ x e0
      have hf : scope.names.lookup x = some .free := by
        rcases e3 with e3 | e3 | e3
        · obtain ⟨k', q1, q2⟩ := relabel_inv (show (scope.names.map fun (n, k) => if (k == NameKind.free && X.env.scope.kind == .function && X.env.kindOf n == some .cell) then (n, NameKind.cell) else (n, k)).lookup x = some .local from e3)
          rcases q2 with q2 | ⟨_, q2⟩
          · subst q2; exact absurd q1 hnl
          · cases q2
        · exact rel x _ e3 (.inl rfl)
        · exact rel x _ e3 (.inr rfl)
      have e1' := nl.free _ x e0 hf
      have hk := kin x hf
      obtain ⟨m, hn, hl⟩ := I3.loc
      obtain ⟨u, ru, lk⟩ := hl (i - ls.length) x v e1' e2 (hk.elim (fun z => .inr (.inl z)) fun z => .inr (.inr z))
      refine ⟨u, ru, ?_⟩
      rcases lk with ⟨z, _⟩ | ⟨_, a, ea, hcell⟩
      · rcases hk with hk | hk <;> (rw [hk] at z; cases z)
      · obtain ⟨o, eo, hd⟩ := hcell
        refine .inr ⟨?_, a, has x a hf ea, ⟨o, old a o eo, hd⟩⟩
        rcases e3 with e3 | e3 | e3
        · obtain ⟨k', q1, q2⟩ := relabel_inv (show (scope.names.map fun (n, k) => if (k == NameKind.free && X.env.scope.kind == .function && X.env.kindOf n == some .cell) then (n, NameKind.cell) else (n, k)).lookup x = some .local from e3)
          rcases q2 with q2 | ⟨_, q2⟩
          · subst q2; exact absurd q1 hnl
          · cases q2
        · exact .inl e3
        · exact .inr e3
    · obtain ⟨v, o, eo, hd⟩ := I3.cell x a (sub x a e)
      exact ⟨v, o, old a o eo, hd⟩
    · show (List.replicate ls.length none ++ σ).length = (ls ++ M).length
      rw [List.length_append, List.length_append, List.length_replicate, I3.len, nl.len]
  have st1 : tn 0 h₁ := T.keep 0 _ _ st2 fun b _ o e => old b o (up b o e)
  obtain ⟨hPG, hPT, hPE⟩ := hb HH.objs.size fp { s2 with heap := HH, toks := s2.toks } H3
  obtain ⟨W, ⟨m0, w0⟩, turn⟩ := hW s2.heap.objs.size hfreshD
  rw [hH3] at w0
  have back : ∀ {τ : St} {H' : Hp} {s' : Shared}, Inv (cxComp X ls M scope HH.objs.size fp { s2 with heap := HH, toks := s2.toks } H3) [] τ H' s' → Inv X pins σ H' s' ∧ COff X pins H' HH.objs.size s' := fun {τ H' s'} J => by
    refine ⟨I3.call' (ch := fp) J.os J.base J.hok J.bare fun b hb' => ?_, ?_⟩
    · obtain ⟨_, g1, g2, g3, g4, g5⟩ := f3 b hb'
      exact ⟨g3, g1, g4, g5⟩
    · obtain ⟨m, hn, _⟩ := J.loc
      refine ⟨⟨m, hn⟩, J.free, Ne.symm (Nat.ne_of_lt I3.lt), I3.sz, fun x a e => ?_, fun p hp => Nat.ne_of_lt (Heap.lt_size (I3.pin p hp).1)⟩
      obtain ⟨v, q⟩ := I3.cell x a e
      exact Nat.ne_of_lt q.lt
  have stat : ∀ {H' : Hp}, (∀ b ∈ fp, H' b = none) → ∀ b ∈ fp, FpOk (cxComp X ls M scope HH.objs.size fp { s2 with heap := HH, toks := s2.toks } H3) [] H' b := fun {H'} hn b hb' => by
    obtain ⟨_, g1, g2, g3, g4, g5⟩ := f3 b hb'
    refine ⟨hn b hb', Nat.ne_of_lt (fplt b hb'), fun hs => ?_, .inl hb', fun x a e => g4 x a (sub x a e), fun p hp => absurd (show p ∈ ([] : List (Addr × Obj)) from hp) (by simp)⟩
    rcases List.mem_cons.mp (I3.stkSub b hs) with z | z
    · exact g1 z
    · exact g2 z
  have loop : ∀ s₃ : Shared, s₃ = { s2 with heap := h₁, toks := s2.toks + ([] : List (Str × Value)).length } →
      codeAny (model X.prog X.w) X.A (.compLoop (.ListComp elt [⟨tg, iter, ifs, 0⟩] scope pos) 0 (.ref it) (.ref s2.heap.objs.size) (compEnvC scope (closL X.env scope.names []) HH.objs.size X.env)) (RR (.ref s2.heap.objs.size) HH.objs.size) s₃ := by
    rintro s₃ rfl
    refine compLoop_any (fun n s' => ∃ i τ H', Inv (cxComp X ls M scope HH.objs.size fp { s2 with heap := HH, toks := s2.toks } H3) [] τ H' s' ∧ tn i s'.heap ∧ (∀ b ∈ fp, H' b = none) ∧ W i n τ H') ?_ m0 ⟨0, _, H3, IY, st1, fun b hb' => (f3 b hb').1, w0⟩
    rintro n s3 ⟨i, τ, H', I4, st4, fr4, w4⟩ E'
    rcases turn i n τ H' w4 with ⟨stop, qn⟩ | ⟨go, step⟩
    · refine thn (T.done (cxComp X ls M scope HH.objs.size fp { s2 with heap := HH, toks := s2.toks } H3) rfl rfl rfl hc i [] s3 τ H' E' I4 (stat fr4) st4 stop) fun r s4 ⟨hr, I5⟩ => ?_
      subst hr
      obtain ⟨b1, b2⟩ := back I5
      exact hRR _ _ H' s4 b1 b2 qn
    · refine thn (T.item (cxComp X ls M scope HH.objs.size fp { s2 with heap := HH, toks := s2.toks } H3) rfl rfl rfl hc i [] s3 τ H' E' I4 (stat fr4) st4 go) fun r s4 ⟨u, hr, h4⟩ => ?_
      subst hr
      refine thn h4 fun _ s5 ⟨x, H5, I5, r5, y5, st5, fr5⟩ => ?_
      have I5' := I5.pinned (stat fr5) (T.obj _ _ st5)
      refine wpAny_mono (hPG _ s5 τ H5 x u _ I5' r5 (step x H5 y5)) (fun _ s6 ⟨σ6, H6, I6, q6⟩ => ?_) fun _ _ z => z.elim
      refine wpAny_mono (hPT _ s6 σ6 H6 _ I6 q6) (fun ok s7 ⟨H7, I7, q7⟩ => ?_) fun _ _ z => z.elim
      have again : ∀ {σ8 : St} {H8 : Hp} {s8 : Shared} {m' : Nat}, Inv (cxComp X ls M scope HH.objs.size fp { s2 with heap := HH, toks := s2.toks } H3) ([] ++ pinsAt fp s5.heap) σ8 H8 s8 → m' < n → W (i + 1) m' σ8 H8 →
          ∃ m, m < n ∧ ∃ i τ H', Inv (cxComp X ls M scope HH.objs.size fp { s2 with heap := HH, toks := s2.toks } H3) [] τ H' s8 ∧ tn i s8.heap ∧ (∀ b ∈ fp, H' b = none) ∧ W i m τ H' := fun {σ8 H8 s8 m'} I8 hm w8 => by
        refine ⟨m', hm, i + 1, σ8, H8, I8.unpinned, T.keep _ _ _ st5 fun b hb' o e => (I8.pin (b, o) (List.mem_append_right _ (List.mem_append_right _ (mem_pinsAt hb' e)))).1, fun b hb' => ?_, w8⟩
        obtain ⟨o, e, d⟩ := T.obj _ _ st5 b hb'
        exact (I8.pin (b, o) (List.mem_append_right _ (List.mem_append_right _ (mem_pinsAt hb' e)))).2.1
      cases ok with
      | false =>
        rw [if_neg Bool.false_ne_true] at q7 ⊢
        obtain ⟨m', hm, w7⟩ := q7
        exact again I7 hm w7
      | true =>
        rw [if_pos rfl] at q7 ⊢
        refine wpAny_mono (hPE _ s7 σ6 H7 _ I7 q7) (fun yv s8 ⟨y, H8, I8, r8, ys, m', hm, hD, hz, w8⟩ => ?_) fun _ _ z => z.elim
        refine wpAny_mono (mt_append (X := (cxComp X ls M scope HH.objs.size fp { s2 with heap := HH, toks := s2.toks } H3)) _ s8 σ6 H8 (.ref s2.heap.objs.size) [y] (.ref s2.heap.objs.size) [yv] (fun _ H9 => W (i + 1) m' σ6 H9) I8 rfl (.cons r8 .nil) ⟨_, ys, y, rfl, rfl, hD, hz, w8⟩) (fun _ s9 ⟨_, H9, I9, _, w9⟩ => ?_) fun _ _ z => z.elim
        exact again I9 hm w9
  exact codeAny_compStart_list (loop _ rfl) (T.self _ 0 _ _ _ st1 (loop _ rfl))
theorem closOk (S : CompOk X.env.scope scope) (ok : X.Ok) : closureFor scope X.env = pure (closL X.env scope.names []) :=
  closureFor_closL fun y hy e => ok.has y.1 (S.free y hy e)
theorem pe_comp {wi : TI} (hc : X.calm = true) (S : CompOk X.env.scope scope) (nl : NL X.N M scope) (hi : PI X tg iter wi)
    (hb : ∀ C fp s H, PG (cxComp X ls M scope C fp s H) tg g ∧ PTs (cxComp X ls M scope C fp s H) ifs c ∧ PE (cxComp X ls M scope C fp s H) elt te)
    (hs : ∀ x, foldedSetIterable iter X.env x = pure x := by intro _; rfl) : PE X (.ListComp elt [⟨tg, iter, ifs, 0⟩] scope pos) (tComp ls.length wi g c te) := by
  intro pins s σ H Q I h
  rw [eval_ListComp]
  refine wpAny_comprehension_free (use := none) rfl hs (closOk S I.ok) S.kind S.loc (thn (hi pins s σ H _ I h) fun xv s1 h1 => thn h1 fun itv s2 h2 => ?_)
  obtain ⟨it, fp, tn, J, H2, e, I2, T, st2, f2, hW⟩ := h2
  subst e
  refine comp_core (RR := fun acc C => compPost (model X.prog X.w) X.A X.xe none (EP X pins σ Q) acc C) (Qe := Q) hc S nl hb I2 T st2 f2 hW fun D C H' s' I' o q => ?_
  exact ⟨o.ns.choose, o.ns.choose_spec, fun h' hs' => ⟨.ref D, H', I'.gone o hs', rfl, q⟩⟩
end
def CW (n : Nat) (Pv : Nat → St → Hp → Prop) (i m : Nat) (τ : St) (H : Hp) : Prop := m = n - i ∧ i ≤ n ∧ Pv i τ H
theorem comp_next {n i m : Nat} {Pv : Nat → St → Hp → Prop} {τ : St} {H4 : Hp} {D : Addr} {ys : List V} {y : V} (hm : m = n - i) (hi : i < n) (e1 : H4 D = some (.lst ys)) (e2 : ys.length < sizeLine) (p : Pv (i + 1) τ (upd H4 D (.lst (ys ++ [y])))) :
    ∃ ys m', m' < m ∧ H4 D = some (.lst ys) ∧ ys.length < sizeLine ∧ CW n Pv (i + 1) m' τ (upd H4 D (.lst (ys ++ [y]))) := ⟨ys, n - (i + 1), by omega, e1, e2, rfl, hi, p⟩
theorem comp_list {K : PySem.W.Frag} {a : Addr} {xs : List V} {k : Nat} {g : TG} {c : TT} {te : TE} {σ : St} {H1 : Hp} {D : Addr} {Q : VK} (Pv : Nat → St → Hp → Prop) (h0 : Pv 0 (List.replicate k none ++ σ) (upd H1 D (.lst [])))
    (hl : ∀ i τ H, i ≤ xs.length → Pv i τ H → SqL K H a xs)
    (hs : ∀ i m x τ H, m = xs.length - i → i < xs.length → xs[i]? = some x → Pv i τ H → g x τ H fun τ2 H2 => c τ2 H2 fun b H3 => if b = true then te τ2 H3 fun y H4 => ∃ ys m', m' < m ∧ H4 D = some (.lst ys) ∧ ys.length < sizeLine ∧ CW xs.length Pv (i + 1) m' τ2 (upd H4 D (.lst (ys ++ [y]))) else ∃ m', m' < m ∧ CW xs.length Pv (i + 1) m' τ2 H3)
    (hd : ∀ τ H, Pv xs.length τ H → Q (.ref D) H) : CompW k (Itl K a) g c te σ H1 D Q := by
  refine ⟨CW xs.length Pv, ⟨xs.length, rfl, Nat.zero_le _, h0⟩, ?_⟩
  rintro i m τ H ⟨hm, hi, p⟩
  have q := hl i τ H hi p
  by_cases hlt : i < xs.length
  · refine .inr ⟨⟨xs, xs[i], q, by simp [hlt]⟩, fun x H' y => ?_⟩
    obtain ⟨e, y⟩ := y
    subst e
    exact hs i m x τ _ hm hlt (y xs q) p
  · have e : i = xs.length := by omega
    subst e
    exact .inl ⟨⟨xs, q, Nat.le_refl _⟩, hd τ H p⟩
theorem tyes_if {τ : St} {H : Hp} {A B : Hp → Prop} (h : A H) : tYes τ H (fun b H3 => if b = true then A H3 else B H3) := by
  show (if true = true then A H else B H)
  rw [if_pos rfl]
  exact h
theorem ifT {c : Bool} {A B : Prop} (h : c = true) (a : A) : if c = true then A else B := by
  rw [if_pos h]
  exact a
theorem ifF {c : Bool} {A B : Prop} (h : c = false) (b : B) : if c = true then A else B := by
  rw [if_neg (by rw [h]; exact Bool.false_ne_true)]
  exact b
theorem bt_int : bootBuiltins "int" = some (.type "int") := by decide +kernel
theorem bt_bool : bootBuiltins "bool" = some (.type "bool") := by decide +kernel
theorem bt_list : bootBuiltins "list" = some (.type "list") := by decide +kernel
theorem bt_tuple : bootBuiltins "tuple" = some (.type "tuple") := by decide +kernel
theorem bt_len : bootBuiltins "len" = some (.builtin "len") := by decide +kernel
theorem bt_isinstance : bootBuiltins "isinstance" = some (.builtin "isinstance") := by decide +kernel
theorem bt_sorted : bootBuiltins "sorted" = some (.builtin "sorted") := by decide +kernel
theorem bt_all : bootBuiltins "all" = some (.builtin "all") := by decide +kernel
def nodupB : List Str → Bool
  | [] => true
  | x :: r => (r.all fun y => x != y) && nodupB r
theorem nd_of : ∀ {l : List Str}, nodupB l = true → l.Nodup
  | [], _ => .nil
  | x :: r, h => by
    have h' : ((r.all fun y => x != y) && nodupB r) = true := h
    rw [Bool.and_eq_true, List.all_eq_true] at h'
    refine List.nodup_cons.mpr ⟨fun z => ?_, nd_of h'.2⟩
    have := h'.1 x z
    simp at this
structure Cal (P : Program) (w : World) (K : PySem.W.Frag) (mg : Str → Option Value) (base : Heap) (n : Nat) (x : Str) (ps : List Str) (sp : Sp) (g : Addr) (gd : FuncData) : Prop where
  ok : FnOk P w K mg base CX0 n g gd ps sp
  bi : Binds K gd ps []
  kp : PySem.W.keepIn K (.ref g) = true
  at_ : mg x = some (.ref g)
theorem Cal.up {P : Program} {w : World} {K : PySem.W.Frag} {mg : Str → Option Value} {base : Heap} {n m : Nat} {x : Str} {ps : List Str} {sp : Sp} {g : Addr} {gd : FuncData} (c : Cal P w K mg base n x ps sp g gd) (h : n ≤ m) : Cal P w K mg base m x ps sp g gd := ⟨c.ok.mono h, c.bi, c.kp, c.at_⟩
theorem pe_callC {X : Cx} {n : Nat} {x : Str} {ps : List Str} {sp : Sp} {g : Addr} {gd : FuncData} {p pos : Pos} {e : Expr} {es : List Expr} {t : TA} (c : Cal X.prog X.w X.K X.mg X.base n x ps sp g gd) (hr : Room n X.A) (ha : PA X (e :: es) t) (hg : Gl X x := by rfl)
    (hd : (x == ("__debug__" : Str)) = false := by decide) (he : starEach (e :: es) X.env = (false, eval e X.env) :: starEach es X.env := by rfl) (hpl : (backTo pos (starEach es X.env)).any (·.1) = false := by rfl) :
    PE X (.Call (.Name x p) (e :: es) [] pos) (tCall sp [] E0 t) := pe_call c.ok hr hg c.at_ c.kp c.bi .nil pass0 ha hd he hpl
theorem Same.tup {K : PySem.W.Frag} {H H' : Hp} {a : Addr} {xs : List V} (e : Same H H') (h : SqT K H a xs) : SqT K H' a xs := by
  rcases h with (h | ⟨o, h⟩) | h
  · exact .inl (.inl (e _ _ h))
  · exact .inl (.inr ⟨o, e _ _ h⟩)
  · exact .inr h
theorem same_new {H : Hp} {p : Addr} (h : H p = none) (o : HO) : Same H (upd H p o) := fun b u q => by rw [upd_ne (ne_of_none q h)]; exact q
theorem Same.upd_new {H H' : Hp} {p : Addr} (s : Same H H') (h : H p = none) (o : HO) : Same H (upd H' p o) := fun b u q => by rw [upd_ne (ne_of_none q h)]; exact s b u q
theorem atI_ints {L : List Int} {i : Int} (h0 : 0 ≤ i) (h1 : i < (L.length : Int)) : atI (L.map V.int) i = some (.int (L.getD i.toNat 0)) := by
  have hi : i.toNat < L.length := by omega
  have e : i = ((i.toNat : Nat) : Int) := by omega
  have q : atI (L.map V.int) ((i.toNat : Nat) : Int) = some (.int (L.getD i.toNat 0)) := atI_nat (by rw [List.getElem?_map, List.getElem?_eq_getElem hi, getD_at hi] <;> rfl)
  rw [← e] at q
  exact q
end L2
namespace L2
open PySem PySem.Spec PyProof.Rows
section
variable {X : Cx} {pins : List (Addr × Obj)} {σ : St} {H : Hp} {s : Shared}
theorem FpOk.pin {b : Addr} {o : Obj} (f : FpOk X pins H b) (e : s.heap.get? b = some o) (d : ∀ v, o.data ≠ .cell v) : s.heap.get? b = some o ∧ H b = none ∧ b ≠ X.env.locals ∧ b ∉ X.fs ∧ ∀ v, o.data ≠ .cell v := ⟨e, f.1, f.2.1, f.2.2.1, d⟩
variable {A : Around} {E : Value → Shared → Prop} {P : PySem.Fin → Shared → Prop} {a kS : Addr} {b : Bool} {vs : List Value} {kz : List Int} {keys : Array Value} {e e1 : Nat} {f : Value}
end
end L2
namespace L2
open PySem PySem.Spec PyProof.Rows
section
variable {X : Cx} {pins : List (Addr × Obj)} {σ : St} {H : Hp} {s : Shared} {A : Around} {E : Value → Shared → Prop} {P : PySem.Fin → Shared → Prop} {a : Addr} {vs : List Value} {kz : List Int} {n : Nat} {f : Value}
end
end L2
namespace L2
open PySem PySem.Spec PyProof.Rows
abbrev CodeO (c' : Addr) (qual : Str) : HO := .ext fun h => h.CodeRec (.ref c') qual
section
variable {X : Cx} {pins : List (Addr × Obj)} {σ : St} {H : Hp} {A : Around} {p qual : Str} {M : List Str} {scope : Scope} {params : Arguments} {body : Expr} {pm ctv : Value} {c' f : Addr} {te : TE}
end
end L2
namespace L2
open PySem PySem.Spec PyProof.Rows
def tbN (pos : Pos) (c' : Addr) : Array Value := #[rawInt pos.line, rawInt pos.col, .ref c']
def Hit (P : Addr) (pos : Pos) (qual : Str) (c' : Addr) (H : Hp) : Prop := H P = some (.tbl (tbN pos c')) ∧ H c' = some (CodeO c' qual)
def TbOk (P : Addr) (pos : Pos) (qual : Str) (H : Hp) : Prop := H P = some (.tbl #[]) ∨ ∃ c', Hit P pos qual c' H
def SameT (P : Addr) (H H' : Hp) : Prop := ∀ b o, b ≠ P → H b = some o → H' b = some o
theorem SameT.refl {P : Addr} (H : Hp) : SameT P H H := fun _ _ _ e => e
theorem SameT.trans {P : Addr} {H H1 H2 : Hp} (a : SameT P H H1) (b : SameT P H1 H2) : SameT P H H2 := fun c o n e => b c o n (a c o n e)
theorem SameT.free {P : Addr} {H H' : Hp} (a : SameT P H H') {l : Addr} (h : H' l = none) (hP : ∃ ps, H' P = some (.tbl ps)) : H l = none := by
  cases q : H l with
  | none => rfl
  | some o =>
    by_cases e : l = P
    · obtain ⟨ps, z⟩ := hP
      rw [e, z] at h; cases h
    · rw [a l o e q] at h; cases h
theorem SameT.upd_new {P : Addr} {H H' : Hp} {p : Addr} (s : SameT P H H') (h : H p = none) (o : HO) : SameT P H (upd H' p o) := fun b u n q => by rw [upd_ne (ne_of_none q h)]; exact s b u n q
theorem TbOk.at_ {P : Addr} {pos : Pos} {qual : Str} {H : Hp} (t : TbOk P pos qual H) : ∃ ps, H P = some (.tbl ps) := by
  rcases t with t | ⟨c, t, _⟩
  · exact ⟨_, t⟩
  · exact ⟨_, t⟩
theorem SameT.get {P : Addr} {pos : Pos} {qual : Str} {H H' : Hp} (a : SameT P H H') (t : TbOk P pos qual H) {b : Addr} {o : HO} (e : H b = some o) (n : ∀ ps, o ≠ .tbl ps) : H' b = some o := by
  obtain ⟨ps, z⟩ := t.at_
  exact a b o (ne_of e z (n ps)) e
theorem TbOk.same {P : Addr} {pos : Pos} {qual : Str} {H H' : Hp} (t : TbOk P pos qual H) (s : Same H H') : TbOk P pos qual H' := by
  rcases t with t | ⟨c, t, u⟩
  · exact .inl (s _ _ t)
  · exact .inr ⟨c, s _ _ t, s _ _ u⟩
theorem SameT.lst {K : PySem.W.Frag} {P : Addr} {pos : Pos} {qual : Str} {H H' : Hp} (a : SameT P H H') (t : TbOk P pos qual H) {b : Addr} {xs : List V} (h : SqL K H b xs) : SqL K H' b xs := by
  rcases h with (h | ⟨o, h⟩) | h
  · exact .inl (.inl (a.get t h fun _ z => nomatch z))
  · exact .inl (.inr ⟨o, a.get t h fun _ z => nomatch z⟩)
  · exact .inr h
section
variable {X : Cx} {pins : List (Addr × Obj)} {σ : St} {H : Hp} {s : Shared} {E : Value → Shared → Prop} {c P : Addr} {pos : Pos} {params : Arguments} {body : Expr} {scope : Scope} {Q : Value → Shared → Prop}
end
end L2
namespace L2
open PySem PySem.Spec PyProof.Rows
end L2
namespace L2
open PySem PySem.W
noncomputable def stT (T : BT) (n k : Nat) (os : OsState) : SharedT := ⟨T, n, {}, Array.mk [], boot_drawn, k, os⟩
theorem run_app {tb : String → Option Builtin} {p : Program} {w : World} {m0 : Nat} {ann : Option Value} {env : Env} {q : Pos} {n N : Nat} {s s' : SharedT} {r : Shared} {l rest : List Stmt} {c : Code} {pos p' : Pos}
    (h : segRunT tb p w m0 ann 1 n s (piecesOf l env c pos [topFrame q]) = some (.next, s', c, p')) (k : topRun tb p w m0 ann N s'.abs (restOf rest env c p' [topFrame q]) = some r) : topRun tb p w m0 ann (n + N) s.abs (restOf (l ++ rest) env c pos [topFrame q]) = some r :=
  piece_app (segRun_of h) k
theorem left_run {p q : Program} {loose : List Str} {Xt : Shared → Bool} {α : Type} {Yf : Shared → α} {Ya : World → α} {N : Nat} {Tb Tf : Params → BT} {nb nf ka kf : Nat} {env : Env} {C : Code} {gs : List Stmt} {posA posB qp : Pos} {m0 : Nat} {ann : Option Value} {a b c : Nat}
    (e1 : opening p = plainProg p.main.scope.names) (h6 : Nat.ble 600 N = true) (e2 : ∀ s, fenceModules? p s = some s)
    (size : ∀ w : World, ((boot_heap w.params).isNs mainGlobals && (Array.mk [] : Array GenState).size == 0, (boot_heap w.params).objs.size, (boot_heap w.params).nsMap mainGlobals "__annotations__") = (true, m0, ann))
    (pre : ∀ (w : World) (os : OsState), topGo treeTable p w m0 ann a ⟨boot_heap w.params, Array.mk [], boot_drawn, boot_toks, os⟩ (topStub p) = some ((stT (Tb w.params) nb ka os).abs, ⟨denote treeTable (.body gs env), C, posA, [topFrame qp]⟩))
    (blk : ∀ (w : World) (os : OsState), segRun treeTable p w m0 ann 1 b (stT (Tb w.params) nb ka os).abs (blockOf gs env C posA [topFrame qp]) = some (.next, (stT (Tb w.params) nb ka os).abs, C, posB))
    (run : ∀ (w : World) (os : OsState), topRun treeTable p w m0 ann c (stT (Tb w.params) nb ka os).abs (restOf gs env C posB [topFrame qp]) = some (stT (Tf w.params) nf kf os).abs)
    (le : Nat.ble (a + (b + c)) N = true)
    (looks : ∀ w : World, (fun os => ((staticsOk (importedModules p.main.body) (boot_heap w.params) (absHeap (Tf w.params) nf {}) && namesBound p (absHeap (Tf w.params) nf {}) && gensDone ⟨absHeap (Tf w.params) nf {}, Array.mk [], boot_drawn, kf, os⟩ && laidKept (boot_heap w.params) (absHeap (Tf w.params) nf {})),
        openSeen q loose (importedModules p.main.body) Xt true ⟨absHeap (Tf w.params) nf {}, Array.mk [], boot_drawn, kf, os⟩, Yf ⟨absHeap (Tf w.params) nf {}, Array.mk [], boot_drawn, kf, os⟩)) = fun _ => (true, openGood q loose, Ya w)) : LeftO p q loose Xt Yf Ya N :=
  LeftO.of_pieces (H₁ := fun P => absHeap (Tf P) nf {}) (boot_open e1 h6 e2) size (fun w os => go_top (pre w os) (piece_block (blk w os) (run w os))) le looks
end L2
namespace L2
open PySem PySem.Spec PyProof.Rows
inductive DE (K : PySem.W.Frag) (H : Hp) : Nat → V → V → Bool → Prop
  | int (n : Nat) (i j : Int) : DE K H n (.int i) (.int j) (i == j)
  | bl (n : Nat) (i j : Bool) : DE K H n (.bl i) (.bl j) (i == j)
  | str (n : Nat) (i j : Str) : DE K H n (.str i) (.str j) (i == j)
  | tup {n : Nat} {a b : Addr} {xs ys : List V} (e : Nat → Bool) (ha : SqT K H a xs) (hb : SqT K H b ys) (h : ∀ (j : Nat) x y, xs[j]? = some x → ys[j]? = some y → DE K H n x y (e j)) :
      DE K H (n + 1) (.ref a) (.ref b) ((List.range (min xs.length ys.length)).all e && xs.length == ys.length)
  | lst {n : Nat} {a b : Addr} {xs ys : List V} (e : Nat → Bool) (ha : SqL K H a xs) (hb : SqL K H b ys) (hl : xs.length = ys.length) (h : ∀ (j : Nat) x y, xs[j]? = some x → ys[j]? = some y → DE K H n x y (e j)) :
      DE K H (n + 1) (.ref a) (.ref b) ((List.range xs.length).all e)
  | lstN {n : Nat} {a b : Addr} {xs ys : List V} (ha : SqL K H a xs) (hb : SqL K H b ys) (hl : xs.length ≠ ys.length) : DE K H (n + 1) (.ref a) (.ref b) false
section
variable {X : Cx} {pins : List (Addr × Obj)} {σ : St} {H : Hp} {s : Shared}
theorem DE.self (I : Inv X pins σ H s) {n : Nat} {x y : V} {k : Bool} (d : DE X.K H n x y k) : x = y → k = true := by
  induction d with
  | int n i j => intro e; cases e; simp
  | bl n i j => intro e; cases e; simp
  | str n i j => intro e; cases e; simp
  | @tup n a b xs ys e ha hb h ih =>
    intro z
    cases z
    have q := I.tuple_inj ha hb
    subst q
    rw [Bool.and_eq_true]
    refine ⟨List.all_eq_true.mpr fun j hj => ?_, by simp⟩
    rw [List.mem_range, Nat.min_self] at hj
    exact ih j _ _ (List.getElem?_eq_getElem hj) (List.getElem?_eq_getElem hj) rfl
  | @lst n a b xs ys e ha hb hl h ih =>
    intro z
    cases z
    have q := I.list_inj ha hb
    subst q
    refine List.all_eq_true.mpr fun j hj => ?_
    rw [List.mem_range] at hj
    exact ih j _ _ (List.getElem?_eq_getElem hj) (List.getElem?_eq_getElem hj) rfl
  | @lstN n a b xs ys ha hb hl =>
    intro z
    cases z
    exact absurd (congrArg List.length (I.list_inj ha hb)) hl
theorem vals_at {xs : List V} {its : List Value} (r : Vals xs its) {j : Nat} (hj : j < its.length) : ∃ x, xs[j]? = some x ∧ RelV x its[j] := by
  have hl := r.length
  obtain ⟨u, hu, ru⟩ := r.get (List.getElem?_eq_getElem (l := xs) (i := j) (by omega))
  rw [List.getElem?_eq_getElem hj] at hu
  cases hu
  exact ⟨_, List.getElem?_eq_getElem (by omega), ru⟩
theorem in1_units (A : Around) : A.in1.units = A.units + 1 := rfl
theorem DE.eqAt (I : Inv X pins σ H s) {n : Nat} {x y : V} {k : Bool} (d : DE X.K H n x y k) : ∀ (A : Around) (u v : Value), A.units + n < cLine → RelV x u → RelV y v → PySem.SeqAt.EqAt A s u v k := by
  induction d with
  | int n i j =>
    intro A u v _ ru rv
    obtain ⟨t, rfl⟩ := ru
    obtain ⟨t', rfl⟩ := rv
    exact PySem.SeqAt.EqAt.int_int _ _ _ _
  | bl n i j =>
    intro A u v _ ru rv
    cases (show u = Value.bool i from ru)
    cases (show v = Value.bool j from rv)
    exact PySem.SeqAt.EqAt.bool_bool _ _
  | str n i j =>
    intro A u v _ ru rv
    obtain ⟨t, rfl⟩ := ru
    obtain ⟨t', rfl⟩ := rv
    exact PySem.SeqAt.EqAt.str_str _ _ _ _
  | @tup n a b xs ys e ha hb h ih =>
    intro A u v hu ru rv
    cases (show u = Value.ref a from ru)
    cases (show v = Value.ref b from rv)
    by_cases hab : a = b
    · have q := (DE.tup e ha hb h).self I (by rw [hab])
      rw [q]
      subst hab
      exact PySem.SeqAt.EqAt.same _
    · obtain ⟨its, r1, p1, _⟩ := I.tuple ha
      obtain ⟨its2, r2, p2, _⟩ := I.tuple hb
      refine PySem.SeqAt.EqAt.of_refs hab ?_
      have q := PySem.SeqAt.RcAt.tuples (A := A) (e := e) (show s.heap.IsTuple a its.toArray from p1) (show s.heap.IsTuple b its2.toArray from p2) (by omega) (fun j h1 h2 => by
        obtain ⟨x, ex, rx⟩ := vals_at r1 (j := j) (by simpa using h1)
        obtain ⟨y, ey, ry⟩ := vals_at r2 (j := j) (by simpa using h2)
        rw [List.getElem_toArray, List.getElem_toArray]
        exact ih j x y ex ey A.in1 _ _ (by rw [in1_units]; omega) rx ry)
      rw [List.size_toArray, List.size_toArray, ← r1.length, ← r2.length] at q
      exact q
  | @lst n a b xs ys e ha hb hl h ih =>
    intro A u v hu ru rv
    cases (show u = Value.ref a from ru)
    cases (show v = Value.ref b from rv)
    by_cases hab : a = b
    · have q := (DE.lst e ha hb hl h).self I (by rw [hab])
      rw [q]
      subst hab
      exact PySem.SeqAt.EqAt.same _
    · obtain ⟨its, r1, p1, _⟩ := I.list ha
      obtain ⟨its2, r2, p2, _⟩ := I.list hb
      refine PySem.SeqAt.EqAt.of_refs hab ?_
      have q := PySem.SeqAt.RcAt.lists (A := A) (e := e) p1.isList p2.isList (by rw [List.size_toArray, List.size_toArray, ← r1.length, ← r2.length]; exact hl) (by omega) (fun j h1 h2 => by
        obtain ⟨x, ex, rx⟩ := vals_at r1 (j := j) (by simpa using h1)
        obtain ⟨y, ey, ry⟩ := vals_at r2 (j := j) (by simpa using h2)
        rw [List.getElem_toArray, List.getElem_toArray]
        exact ih j x y ex ey A.in1 _ _ (by rw [in1_units]; omega) rx ry)
      rw [List.size_toArray, ← r1.length] at q
      exact q
  | @lstN n a b xs ys ha hb hl =>
    intro A u v hu ru rv
    cases (show u = Value.ref a from ru)
    cases (show v = Value.ref b from rv)
    have hab : a ≠ b := fun z => by subst z; exact hl (congrArg List.length (I.list_inj ha hb))
    obtain ⟨its, r1, p1, _⟩ := I.list ha
    obtain ⟨its2, r2, p2, _⟩ := I.list hb
    refine PySem.SeqAt.EqAt.of_refs hab (PySem.SeqAt.RcAt.lists_lengths p1.isList p2.isList ?_ (by omega))
    rw [List.size_toArray, List.size_toArray, ← r1.length, ← r2.length]
    simpa using hl
def rEqD (K : PySem.W.Frag) (n : Nat) : R2 := fun x y H Q => ∃ a b k, x = .ref a ∧ y = .ref b ∧ DE K H (n + 1) x y k ∧ Q (.bl k) H
theorem op_eqD {n : Nat} (hu : X.A.units + n + 1 < cLine) : OpR X (compareOp .Eq) (rEqD X.K n) := by
  intro pins s σ H x y v u Q I rx ry h
  obtain ⟨a, b, k, rfl, rfl, d, q⟩ := h
  cases (show v = Value.ref a from rx)
  cases (show u = Value.ref b from ry)
  cases d with
  | @tup n a b xs ys e ha hb h =>
    obtain ⟨its, r1, p1, _⟩ := I.tuple ha
    obtain ⟨its2, r2, p2, _⟩ := I.tuple hb
    refine PySem.SeqAt.eq_tupleAt (e := e) (show s.heap.IsTuple a its.toArray from p1) (show s.heap.IsTuple b its2.toArray from p2) (by omega) (fun j h1 h2 => by
        obtain ⟨x, ex, rx⟩ := vals_at r1 (j := j) (by simpa using h1)
        obtain ⟨y, ey, ry⟩ := vals_at r2 (j := j) (by simpa using h2)
        rw [List.getElem_toArray, List.getElem_toArray]
        exact (h j x y ex ey).eqAt I X.A.in1 _ _ (by rw [in1_units]; omega) rx ry) ?_
    rw [List.size_toArray, List.size_toArray, ← r1.length, ← r2.length]
    exact ⟨.bl _, H, I, rfl, q⟩
  | @lst n a b xs ys e ha hb hl h =>
    obtain ⟨its, r1, p1, _⟩ := I.list ha
    obtain ⟨its2, r2, p2, _⟩ := I.list hb
    refine PySem.SeqAt.eq_listAt (e := e) p1.isList p2.isList (by rw [List.size_toArray, List.size_toArray, ← r1.length, ← r2.length]; exact hl) (by omega) (fun j h1 h2 => by
        obtain ⟨x, ex, rx⟩ := vals_at r1 (j := j) (by simpa using h1)
        obtain ⟨y, ey, ry⟩ := vals_at r2 (j := j) (by simpa using h2)
        rw [List.getElem_toArray, List.getElem_toArray]
        exact (h j x y ex ey).eqAt I X.A.in1 _ _ (by rw [in1_units]; omega) rx ry) ?_
    rw [List.size_toArray, ← r1.length]
    exact ⟨.bl _, H, I, rfl, q⟩
  | @lstN n a b xs ys ha hb hl =>
    obtain ⟨its, r1, p1, _⟩ := I.list ha
    obtain ⟨its2, r2, p2, _⟩ := I.list hb
    exact PySem.SeqAt.eq_list_lengthsAt p1.isList p2.isList (by rw [List.size_toArray, List.size_toArray, ← r1.length, ← r2.length]; simpa using hl) (by omega) ⟨.bl _, H, I, rfl, q⟩
end
end L2
namespace L2
open PySem PySem.Spec PyProof.Rows
section
variable {X : Cx}
section
variable {prog : Program} {w : World} {A : Around} {E : Value → Shared → Prop} {s : Shared} {d it : Addr} {od : Obj} {es : Array DictEntry} {ep i : Nat}
end
end
end L2
namespace L2
open PySem PySem.Spec PyProof.Rows
end L2
namespace L2
open PySem PySem.Spec PyProof.Rows
end L2
namespace Fr
def dv (t b : Int) : Int := if b < 0 then -(Int.gcd t b : Int) else (Int.gcd t b : Int)
def sh (t b : Int) : Int × Int := (t.fdiv (dv t b), b.fdiv (dv t b))
structure IsFr (t b : Int) : Prop where
  pos : 0 < b
  red : Int.gcd t b = 1
theorem dv_natAbs (t b : Int) : (dv t b).natAbs = Int.gcd t b := by unfold dv; split <;> omega
theorem dv_ne {t b : Int} (hb : b ≠ 0) : dv t b ≠ 0 := by
  have := Int.gcd_pos_of_ne_zero_right t hb
  have e := dv_natAbs t b
  omega
theorem dv_dvd_left (t b : Int) : dv t b ∣ t := by
  have h := Int.gcd_dvd_left t b
  unfold dv
  split
  · exact Int.neg_dvd.mpr h
  · exact h
theorem dv_dvd_right (t b : Int) : dv t b ∣ b := by
  have h := Int.gcd_dvd_right t b
  unfold dv
  split
  · exact Int.neg_dvd.mpr h
  · exact h
theorem sh_fst (t b : Int) : (sh t b).1 * dv t b = t := Int.fdiv_mul_cancel (dv_dvd_left t b)
theorem sh_snd (t b : Int) : (sh t b).2 * dv t b = b := Int.fdiv_mul_cancel (dv_dvd_right t b)
theorem sh_cross (t b : Int) : (sh t b).1 * b = t * (sh t b).2 := by
  have h1 := sh_fst t b
  have h2 := sh_snd t b
  generalize (sh t b).1 = x at *
  generalize (sh t b).2 = y at *
  generalize dv t b = d at *
  rw [← h1, ← h2]
  rw [Int.mul_assoc x d y, Int.mul_comm d y]
theorem sh_pos {t b : Int} (hb : b ≠ 0) : 0 < (sh t b).2 := by
  have h2 := sh_snd t b
  have g := Int.gcd_pos_of_ne_zero_right t hb
  rcases Int.lt_or_gt_of_ne hb with h | h
  · have e : dv t b < 0 := by unfold dv; rw [if_pos h]; omega
    rcases (by omega : 0 < (sh t b).2 ∨ (sh t b).2 ≤ 0) with q | q
    · exact q
    · have := Int.mul_nonneg_of_nonpos_of_nonpos q (Int.le_of_lt e)
      omega
  · have e : 0 < dv t b := by unfold dv; rw [if_neg (by omega)]; omega
    rcases (by omega : 0 < (sh t b).2 ∨ (sh t b).2 ≤ 0) with q | q
    · exact q
    · have := Int.mul_nonpos_of_nonpos_of_nonneg q (Int.le_of_lt e)
      omega
theorem sh_red {t b : Int} (hb : b ≠ 0) : Int.gcd (sh t b).1 (sh t b).2 = 1 := by
  have h := Int.gcd_mul_right (sh t b).1 (dv t b) (sh t b).2
  rw [sh_fst, sh_snd, dv_natAbs] at h
  have g := Int.gcd_pos_of_ne_zero_right t hb
  have : 1 * Int.gcd t b = Int.gcd (sh t b).1 (sh t b).2 * Int.gcd t b := by omega
  exact (Nat.eq_of_mul_eq_mul_right g this).symm
theorem sh_ok {t b : Int} (hb : b ≠ 0) : IsFr (sh t b).1 (sh t b).2 := ⟨sh_pos hb, sh_red hb⟩
theorem le_mul_abs {x d z : Int} (e : x * d = z) (hd : d ≠ 0) : x.natAbs ≤ z.natAbs := by
  rw [← e, Int.natAbs_mul]
  have : 1 ≤ d.natAbs := by omega
  calc x.natAbs = x.natAbs * 1 := by omega
    _ ≤ x.natAbs * d.natAbs := Nat.mul_le_mul_left _ this
theorem sh_le1 {t b : Int} (hb : b ≠ 0) : (sh t b).1.natAbs ≤ t.natAbs := le_mul_abs (sh_fst t b) (dv_ne hb)
theorem sh_le2 {t b : Int} (hb : b ≠ 0) : (sh t b).2.natAbs ≤ b.natAbs := le_mul_abs (sh_snd t b) (dv_ne hb)
theorem cop {a b d : Int} (g : Int.gcd a b = 1) (h : b ∣ a * d) : b ∣ d := by
  have h1 := Int.natAbs_dvd_natAbs.mpr h
  rw [Int.natAbs_mul] at h1
  have h2 : Nat.Coprime b.natAbs a.natAbs := by
    show Nat.gcd b.natAbs a.natAbs = 1
    rw [Nat.gcd_comm]
    exact g
  exact Int.natAbs_dvd_natAbs.mp (h2.dvd_of_dvd_mul_left h1)
theorem unique {a b c d : Int} (p : IsFr a b) (q : IsFr c d) (e : a * d = c * b) : a = c ∧ b = d := by
  have pp := p.pos
  have qp := q.pos
  have h1 : b ∣ d := by
    have : b ∣ a * d := ⟨c, by rw [e, Int.mul_comm]⟩
    exact cop p.red this
  have h2 : d ∣ b := by
    have : d ∣ c * b := ⟨a, by rw [← e, Int.mul_comm]⟩
    exact cop q.red this
  have hbd : b = d := Int.dvd_antisymm (Int.le_of_lt pp) (Int.le_of_lt qp) h1 h2
  subst hbd
  exact ⟨Int.eq_of_mul_eq_mul_right (by omega) e, rfl⟩
end Fr
namespace Tb
structure Rw where
  t : Int
  b : Int
  w : Int
def T (B : Int) (r : Rw) : Int := r.t * (B / r.b)
def mx (x : Int) : Int := if 0 < x then x else 0
def S (B l0 l1 : Int) (rs : List Rw) : Int := (rs.map fun r => r.w * mx (T B r * l1 - l0 * B)).sum
def WT (B : Int) (rs : List Rw) : Int := (rs.map fun r => r.w * T B r).sum
def W (rs : List Rw) : Int := (rs.map (·.w)).sum
structure CM (B : Int) (rs : List Rw) : Prop where
  pos : 0 < B
  dv : ∀ r ∈ rs, 0 < r.b ∧ r.b ∣ B
theorem W_cons (r : Rw) (rs : List Rw) : W (r :: rs) = r.w + W rs := by simp [W]
theorem WT_cons (B : Int) (r : Rw) (rs : List Rw) : WT B (r :: rs) = r.w * T B r + WT B rs := by simp [WT]
theorem S_cons (B l0 l1 : Int) (r : Rw) (rs : List Rw) : S B l0 l1 (r :: rs) = r.w * mx (T B r * l1 - l0 * B) + S B l0 l1 rs := by simp [S]
theorem S_append (B l0 l1 : Int) (xs ys : List Rw) : S B l0 l1 (xs ++ ys) = S B l0 l1 xs + S B l0 l1 ys := by simp [S]
theorem cof {B b : Int} (hb : 0 < b) (hB : 0 < B) (h : b ∣ B) : ∃ c, 0 < c ∧ B = b * c ∧ B / b = c := by
  obtain ⟨c, e⟩ := h
  have hc : 0 < c := by
    rcases (by omega : 0 < c ∨ c ≤ 0) with z | z
    · exact z
    · have := Int.mul_nonpos_of_nonneg_of_nonpos (Int.le_of_lt hb) z
      omega
  refine ⟨c, hc, e, ?_⟩
  rw [e, Int.mul_comm, Int.mul_ediv_cancel _ (by omega)]
theorem T_mul {B : Int} {r : Rw} (hb : 0 < r.b) (hB : 0 < B) (h : r.b ∣ B) : T B r * r.b = r.t * B := by
  obtain ⟨c, hc, e, q⟩ := cof hb hB h
  unfold T
  rw [q, e]
  grind
theorem mx_nn (x : Int) : 0 ≤ mx x := by unfold mx; split <;> omega
theorem mx_ge (x : Int) : x ≤ mx x := by unfold mx; split <;> omega
theorem S_hi {B l0 l1 ws tops : Int} (hw : 0 < ws) (hl : 0 < l1) (hc : l0 * (ws * B) = tops * l1) : ∀ {hi : List Rw}, (∀ r ∈ hi, tops ≤ T B r * ws) → ws * S B l0 l1 hi = l1 * (ws * WT B hi - tops * W hi)
  | [], _ => by simp [S, WT, W]
  | r :: hi, h => by
    have ih := S_hi hw hl hc (fun x hx => h x (List.mem_cons_of_mem _ hx))
    have hr := h r List.mem_cons_self
    have e : ws * (T B r * l1 - l0 * B) = l1 * (T B r * ws - tops) := by grind
    have m : mx (T B r * l1 - l0 * B) = T B r * l1 - l0 * B := by
      unfold mx
      split
      · rfl
      · rename_i n
        have h1 : 0 ≤ l1 * (T B r * ws - tops) := Int.mul_nonneg (Int.le_of_lt hl) (by omega)
        rw [← e] at h1
        rcases (by omega : T B r * l1 - l0 * B = 0 ∨ T B r * l1 - l0 * B < 0) with z | z
        · omega
        · have := Int.mul_neg_of_pos_of_neg hw z
          omega
    rw [S_cons, WT_cons, W_cons, m]
    have a1 : ws * (r.w * (T B r * l1 - l0 * B) + S B l0 l1 hi) = r.w * (ws * (T B r * l1 - l0 * B)) + ws * S B l0 l1 hi := by grind
    rw [a1, e, ih]
    grind
theorem S_lo {B l0 l1 ws tops : Int} (hw : 0 < ws) (hl : 0 < l1) (hc : l0 * (ws * B) = tops * l1) : ∀ {lo : List Rw}, (∀ r ∈ lo, T B r * ws ≤ tops) → S B l0 l1 lo = 0
  | [], _ => by simp [S]
  | r :: lo, h => by
    have ih := S_lo hw hl hc (fun x hx => h x (List.mem_cons_of_mem _ hx))
    have hr := h r List.mem_cons_self
    have e : ws * (T B r * l1 - l0 * B) = l1 * (T B r * ws - tops) := by grind
    have m : mx (T B r * l1 - l0 * B) = 0 := by
      unfold mx
      split
      · rename_i n
        have h1 := Int.mul_pos hw n
        have h2 : l1 * (T B r * ws - tops) ≤ 0 := Int.mul_nonpos_of_nonneg_of_nonpos (Int.le_of_lt hl) (by omega)
        omega
      · rfl
    rw [S_cons, m, ih]
    simp
theorem level_has {B l0 l1 ws tops P : Int} {lo hi : List Rw} (hw : 0 < ws) (hl : 0 < l1) (hc : l0 * (ws * B) = tops * l1) (ew : ws = W hi) (et : tops = WT B hi - P) (h1 : ∀ r ∈ hi, tops ≤ T B r * ws) (h2 : ∀ r ∈ lo, T B r * ws ≤ tops) :
    S B l0 l1 (lo ++ hi) = P * l1 := by
  have a := S_hi hw hl hc h1
  have b := S_lo hw hl hc h2
  rw [S_append, b, Int.zero_add]
  have : ws * S B l0 l1 hi = ws * (P * l1) := by rw [a, ← ew]; grind
  exact Int.eq_of_mul_eq_mul_left (by omega) this
theorem S_ge (B m0 m1 : Int) : ∀ {hi : List Rw}, (∀ r ∈ hi, 0 ≤ r.w) → m1 * WT B hi - m0 * B * W hi ≤ S B m0 m1 hi
  | [], _ => by simp [S, WT, W]
  | r :: hi, h => by
    have ih := S_ge B m0 m1 (fun x hx => h x (List.mem_cons_of_mem _ hx))
    have hr := h r List.mem_cons_self
    have g := Int.mul_le_mul_of_nonneg_left (mx_ge (T B r * m1 - m0 * B)) hr
    rw [S_cons, WT_cons, W_cons]
    have e : m1 * (r.w * T B r + WT B hi) - m0 * B * (r.w + W hi) = r.w * (T B r * m1 - m0 * B) + (m1 * WT B hi - m0 * B * W hi) := by grind
    rw [e]
    omega
theorem S_nn (B m0 m1 : Int) : ∀ {lo : List Rw}, (∀ r ∈ lo, 0 ≤ r.w) → 0 ≤ S B m0 m1 lo
  | [], _ => by simp [S]
  | r :: lo, h => by
    have ih := S_nn B m0 m1 (fun x hx => h x (List.mem_cons_of_mem _ hx))
    have g := Int.mul_nonneg (h r List.mem_cons_self) (mx_nn (T B r * m1 - m0 * B))
    rw [S_cons]
    omega
theorem lower_more {B l0 l1 m0 m1 ws tops P : Int} {lo hi : List Rw} (hB : 0 < B) (hw : 0 < ws) (hl : 0 < l1) (hc : l0 * (ws * B) = tops * l1) (ew : ws = W hi) (et : tops = WT B hi - P)
    (hp : ∀ r ∈ lo ++ hi, 0 ≤ r.w) (lt : m0 * l1 < l0 * m1) : P * m1 < S B m0 m1 (lo ++ hi) := by
  have a := S_ge B m0 m1 (hi := hi) (fun r hr => hp r (List.mem_append_right _ hr))
  have b := S_nn B m0 m1 (lo := lo) (fun r hr => hp r (List.mem_append_left _ hr))
  rw [S_append]
  have q := Int.mul_lt_mul_of_pos_left lt (Int.mul_pos hw hB)
  have e1 : ws * B * (m0 * l1) = l1 * (m0 * B * ws) := by grind
  have e2 : ws * B * (l0 * m1) = l1 * (m1 * tops) := by grind
  rw [e1, e2] at q
  have q2 : m0 * B * ws < m1 * tops := Int.lt_of_mul_lt_mul_left q (Int.le_of_lt hl)
  have e3 : m1 * WT B hi - m0 * B * W hi = m1 * tops + P * m1 - m0 * B * ws := by rw [← ew]; grind
  omega
def Le (x y : Rw) : Prop := x.t * y.b ≤ y.t * x.b
theorem T_mono {B : Int} {x y : Rw} (hB : 0 < B) (hx : 0 < x.b) (hy : 0 < y.b) (dx : x.b ∣ B) (dy : y.b ∣ B) (h : Le x y) : T B x ≤ T B y := by
  have e1 := T_mul hx hB dx
  have e2 := T_mul hy hB dy
  have g := Int.mul_le_mul_of_nonneg_left h (Int.le_of_lt hB)
  have k : (x.b * y.b) * T B x ≤ (x.b * y.b) * T B y := by
    have a1 : (x.b * y.b) * T B x = B * (x.t * y.b) := by grind
    have a2 : (x.b * y.b) * T B y = B * (y.t * x.b) := by grind
    rw [a1, a2]
    exact g
  exact Int.le_of_mul_le_mul_left k (Int.mul_pos hx hy)
structure Lp (B P : Int) (rs : List Rw) (i : Nat) (tops ws : Int) : Prop where
  le : i ≤ rs.length
  ew : ws = W (rs.drop (rs.length - i))
  et : tops = WT B (rs.drop (rs.length - i)) - P
  hi : 0 < i → ∀ r ∈ rs.drop (rs.length - i), tops ≤ T B r * ws
  z : P = 0 → i ≤ 1
theorem Lp.start {B P : Int} {rs : List Rw} (e : 0 ≤ P) : Lp B P rs 0 (-P) 0 := by
  refine ⟨Nat.zero_le _, ?_, ?_, fun h => absurd h (by omega), fun _ => by omega⟩
  · simp [W]
  · simp [WT]
structure Tab (B : Int) (rs : List Rw) : Prop where
  cm : CM B rs
  w : ∀ r ∈ rs, 1 ≤ r.w
  so : rs.Pairwise Le
theorem W_pos : ∀ {rs : List Rw}, (∀ r ∈ rs, 1 ≤ r.w) → rs ≠ [] → 0 < W rs
  | [], _, h => absurd rfl h
  | [r], h, _ => by
    have := h r List.mem_cons_self
    simp [W]
    omega
  | r :: s :: rs, h, _ => by
    have := h r List.mem_cons_self
    have q := W_pos (rs := s :: rs) (fun x hx => h x (List.mem_cons_of_mem _ hx)) (by simp)
    rw [W_cons]
    omega
theorem drop_next {rs : List Rw} {i : Nat} (h : i < rs.length) : ∃ r, rs[rs.length - 1 - i]? = some r ∧ rs.drop (rs.length - (i + 1)) = r :: rs.drop (rs.length - i) ∧ r ∈ rs := by
  have hk : rs.length - 1 - i < rs.length := by omega
  refine ⟨rs[rs.length - 1 - i], List.getElem?_eq_getElem hk, ?_, List.getElem_mem hk⟩
  have e1 : rs.length - (i + 1) = rs.length - 1 - i := by omega
  have e2 : rs.length - i = rs.length - 1 - i + 1 := by omega
  rw [e1, e2]
  exact List.drop_eq_getElem_cons hk
theorem Tab.mono {B : Int} {rs : List Rw} (tb : Tab B rs) {x y : Rw} (hx : x ∈ rs) (hy : y ∈ rs) (h : Le x y) : T B x ≤ T B y :=
  T_mono tb.cm.pos (tb.cm.dv x hx).1 (tb.cm.dv y hy).1 (tb.cm.dv x hx).2 (tb.cm.dv y hy).2 h
theorem Lp.ws_pos {B P tops ws : Int} {rs : List Rw} {i : Nat} (tb : Tab B rs) (l : Lp B P rs i tops ws) (h : 0 < i) : 0 < ws := by
  rw [l.ew]
  have := l.le
  refine W_pos (fun r hr => tb.w r (List.mem_of_mem_drop hr)) ?_
  intro e
  have := congrArg List.length e
  simp at this
  omega
theorem Lp.next {B P tops ws : Int} {rs : List Rw} {i : Nat} {r : Rw} (tb : Tab B rs) (hP : 0 ≤ P) (l : Lp B P rs i tops ws) (hi : i < rs.length) (hr : rs[rs.length - 1 - i]? = some r) (go : ¬ (0 < ws ∧ T B r * ws ≤ tops)) :
    Lp B P rs (i + 1) (tops + r.w * T B r) (ws + r.w) := by
  obtain ⟨r', e1, e2, hm⟩ := drop_next hi
  rw [hr] at e1
  cases e1
  have hw := tb.w r hm
  have last : tops ≤ T B r * ws := by
    by_cases h0 : 0 < i
    · have := l.ws_pos tb h0
      omega
    · have z : i = 0 := by omega
      subst z
      have a := l.ew
      have b := l.et
      simp [W] at a
      simp [WT] at b
      rw [a, b]
      omega
  have mine : tops + r.w * T B r ≤ T B r * (ws + r.w) := by
    have : T B r * (ws + r.w) = T B r * ws + r.w * T B r := by grind
    omega
  have wp : 0 < ws + r.w := by
    by_cases h0 : 0 < i
    · have := l.ws_pos tb h0
      omega
    · have z : i = 0 := by omega
      subst z
      have a := l.ew
      simp [W] at a
      omega
  refine ⟨hi, ?_, ?_, fun _ x hx => ?_, fun p0 => ?_⟩
  · rw [e2, W_cons, ← l.ew]; omega
  · rw [e2, WT_cons, l.et]; omega
  · rw [e2] at hx
    rcases List.mem_cons.mp hx with z | z
    · subst z; exact mine
    · have pw : (r :: rs.drop (rs.length - i)).Pairwise Le := by
        rw [← e2]
        exact tb.so.sublist (List.drop_sublist _ _)
      have le := (List.pairwise_cons.mp pw).1 x z
      have tm := tb.mono hm (List.mem_of_mem_drop z) le
      have := Int.mul_le_mul_of_nonneg_right tm (Int.le_of_lt wp)
      omega
  · have k := l.z p0
    rcases (by omega : i = 0 ∨ i = 1) with z | z
    · omega
    · exfalso
      subst z
      apply go
      have wp1 := l.ws_pos tb (by decide)
      refine ⟨wp1, ?_⟩
      obtain ⟨r2, f1, f2, fm⟩ := drop_next (rs := rs) (i := 0) (by omega)
      have f3 : rs.drop (rs.length - 1) = [r2] := by
        have : rs.drop (rs.length - 0) = [] := by simp
        rw [f2, this]
      have a := l.ew
      have b := l.et
      rw [f3] at a b
      simp [W] at a
      simp [WT] at b
      have pw : (r :: rs.drop (rs.length - 1)).Pairwise Le := by
        rw [← e2]
        exact tb.so.sublist (List.drop_sublist _ _)
      have le := (List.pairwise_cons.mp pw).1 r2 (by rw [f3]; exact List.mem_cons_self)
      have tm := tb.mono hm fm le
      have := Int.mul_le_mul_of_nonneg_right tm (Int.le_of_lt wp1)
      rw [b, a] at *
      have e : T B r2 * r2.w = r2.w * T B r2 := Int.mul_comm _ _
      omega
structure Lv (B P l0 l1 : Int) (rs : List Rw) : Prop where
  pos : 0 < l1
  has : S B l0 l1 rs = P * l1
  more : ∀ m0 m1 : Int, m0 * l1 < l0 * m1 → P * m1 < S B m0 m1 rs
theorem Lp.ends {B P tops ws l0 l1 : Int} {rs : List Rw} {i : Nat} (tb : Tab B rs) (l : Lp B P rs i tops ws) (h0 : 0 < i) (stop : i = rs.length ∨ ∃ r, rs[rs.length - 1 - i]? = some r ∧ i < rs.length ∧ T B r * ws ≤ tops)
    (hl : 0 < l1) (hc : l0 * (ws * B) = tops * l1) : Lv B P l0 l1 rs := by
  have wp := l.ws_pos tb h0
  have e : rs = rs.take (rs.length - i) ++ rs.drop (rs.length - i) := (List.take_append_drop _ _).symm
  have lo : ∀ r ∈ rs.take (rs.length - i), T B r * ws ≤ tops := by
    rcases stop with z | ⟨r, hr, hi, ht⟩
    · subst z
      simp
    · intro x hx
      obtain ⟨j, hj, ex⟩ := List.mem_iff_getElem.mp hx
      rw [List.length_take] at hj
      rw [List.getElem_take] at ex
      have hk : rs.length - 1 - i < rs.length := by omega
      rw [List.getElem?_eq_getElem hk] at hr
      have er := Option.some.inj hr
      have tm : T B x ≤ T B r := by
        by_cases ej : j = rs.length - 1 - i
        · subst ej
          rw [← ex, ← er]
          exact Int.le_refl _
        · have le := List.pairwise_iff_getElem.mp tb.so j (rs.length - 1 - i) (by omega) hk (by omega)
          rw [ex, er] at le
          exact tb.mono (by rw [← ex]; exact List.getElem_mem _) (by rw [← er]; exact List.getElem_mem _) le
      have := Int.mul_le_mul_of_nonneg_right tm (Int.le_of_lt wp)
      omega
  refine ⟨hl, ?_, fun m0 m1 lt => ?_⟩
  · rw [e]
    exact level_has wp hl hc l.ew l.et (l.hi h0) lo
  · rw [e]
    exact lower_more tb.cm.pos wp hl hc l.ew l.et (fun r hr => by rw [← e] at hr; have := tb.w r hr; omega) lt
theorem Lp.zero {B tops ws : Int} {rs : List Rw} {i : Nat} (tb : Tab B rs) (fr : ∀ r ∈ rs, Fr.IsFr r.t r.b) (l : Lp B 0 rs i tops ws) (h0 : 0 < i) : ∃ r, rs[rs.length - 1]? = some r ∧ (Fr.sh tops (ws * B)) = (r.t, r.b) := by
  have k := l.z rfl
  have z : i = 1 := by omega
  subst z
  have hle := l.le
  obtain ⟨r2, f1, f2, fm⟩ := drop_next (rs := rs) (i := 0) (by omega)
  have f3 : rs.drop (rs.length - 1) = [r2] := by
    have : rs.drop (rs.length - 0) = [] := by simp
    rw [f2, this]
  have a := l.ew
  have b := l.et
  rw [f3] at a b
  simp [W] at a
  simp [WT] at b
  have hw := tb.w r2 fm
  have hB := tb.cm.pos
  have hb := (tb.cm.dv r2 fm).1
  refine ⟨r2, by simpa using f1, ?_⟩
  have ne : ws * B ≠ 0 := Int.ne_of_gt (Int.mul_pos (by omega) hB)
  have cr := Fr.sh_cross tops (ws * B)
  have tm := T_mul hb hB (tb.cm.dv r2 fm).2
  have ok := Fr.sh_ok (t := tops) ne
  have q : (Fr.sh tops (ws * B)).1 * r2.b = r2.t * (Fr.sh tops (ws * B)).2 := by
    generalize (Fr.sh tops (ws * B)).1 = x at *
    generalize (Fr.sh tops (ws * B)).2 = y at *
    rw [a, b] at cr
    have : (r2.w * B) * (x * r2.b) = (r2.w * B) * (r2.t * y) := by grind
    exact Int.eq_of_mul_eq_mul_left (Int.ne_of_gt (Int.mul_pos (by omega) hB)) this
  obtain ⟨u1, u2⟩ := Fr.unique ok (fr r2 fm) q
  exact Prod.ext u1 u2
end Tb
namespace Tb
def Wt (ps : List Rw) (t b : Int) : Int := (ps.map fun r => if r.t = t ∧ r.b = b then r.w else 0).sum
def Has (ps : List Rw) (t b : Int) : Prop := ∃ p ∈ ps, p.t = t ∧ p.b = b
def Lt (x y : Rw) : Prop := x.t * y.b < y.t * x.b
structure IsTab (ps ys : List Rw) : Prop where
  lt : ys.Pairwise Lt
  fr : ∀ y ∈ ys, Fr.IsFr y.t y.b
  has : ∀ t b, Has ys t b ↔ Has ps t b
  d : ∃ d, 0 < d ∧ ∀ y ∈ ys, Wt ps y.t y.b = y.w * d
  one : ∀ e : Int, (∀ y ∈ ys, e ∣ y.w) → e ∣ 1
theorem Wt_nil (t b : Int) : Wt [] t b = 0 := rfl
theorem Wt_cons (r : Rw) (ps : List Rw) (t b : Int) : Wt (r :: ps) t b = (if r.t = t ∧ r.b = b then r.w else 0) + Wt ps t b := by simp [Wt]
theorem Wt_append (ps qs : List Rw) (t b : Int) : Wt (ps ++ qs) t b = Wt ps t b + Wt qs t b := by simp [Wt]
theorem Has_append {ps qs : List Rw} {t b : Int} : Has (ps ++ qs) t b ↔ Has ps t b ∨ Has qs t b := by
  constructor
  · rintro ⟨p, hp, e⟩
    rcases List.mem_append.mp hp with z | z
    · exact .inl ⟨p, z, e⟩
    · exact .inr ⟨p, z, e⟩
  · rintro (⟨p, hp, e⟩ | ⟨p, hp, e⟩)
    · exact ⟨p, List.mem_append_left _ hp, e⟩
    · exact ⟨p, List.mem_append_right _ hp, e⟩
theorem Has_cons {r : Rw} {ps : List Rw} {t b : Int} : Has (r :: ps) t b ↔ (r.t = t ∧ r.b = b) ∨ Has ps t b := by
  constructor
  · rintro ⟨p, hp, e⟩
    rcases List.mem_cons.mp hp with z | z
    · subst z; exact .inl e
    · exact .inr ⟨p, z, e⟩
  · rintro (e | ⟨p, hp, e⟩)
    · exact ⟨r, List.mem_cons_self, e⟩
    · exact ⟨p, List.mem_cons_of_mem _ hp, e⟩
theorem Has_nil {t b : Int} : ¬ Has [] t b := by rintro ⟨p, hp, _⟩; cases hp
theorem Wt_zero : ∀ {ps : List Rw} {t b : Int}, ¬ Has ps t b → Wt ps t b = 0
  | [], _, _, _ => rfl
  | r :: ps, t, b, h => by
    rw [Wt_cons, if_neg fun e => h (Has_cons.mpr (.inl e)), Wt_zero fun e => h (Has_cons.mpr (.inr e))]
    rfl
end Tb
set_option maxHeartbeats 4000000
namespace TD
open PySem L2
open Builtin.Int (intBits)
structure Row where
  p : Addr
  q : Addr
  t : Int
  b : Int
  w : Int
def Row.r (x : Row) : Tb.Rw := ⟨x.t, x.b, x.w⟩
def RowAt (H : Hp) (x : Row) : Prop := H x.p = some (.tup [.ref x.q, .int x.w]) ∧ H x.q = some (.tup [.int x.t, .int x.b])
def refs (xs : List Row) : List V := xs.map fun x => V.ref x.p
structure TabAt (H : Hp) (a : Addr) (xs : List Row) : Prop where
  lst : H a = some (.lst (refs xs))
  rows : ∀ x ∈ xs, RowAt H x
def rws (xs : List Row) : List Tb.Rw := xs.map Row.r
theorem RowAt.same {H H' : Hp} {x : Row} (s : Same H H') (h : RowAt H x) : RowAt H' x := ⟨s _ _ h.1, s _ _ h.2⟩
theorem TabAt.same {H H' : Hp} {a : Addr} {xs : List Row} (s : Same H H') (h : TabAt H a xs) : TabAt H' a xs := ⟨s _ _ h.lst, fun x hx => (h.rows x hx).same s⟩
theorem take_snoc {α : Type} {xs : List α} {i : Nat} {x : α} (h : xs[i]? = some x) : xs.take (i + 1) = xs.take i ++ [x] := by
  rw [List.take_add_one, h]
  rfl
theorem RowAt.over {H : Hp} {a : Addr} {xs zs : List V} {x : Row} (h : RowAt H x) (e : H a = some (.lst xs)) : RowAt (upd H a (.lst zs)) x :=
  ⟨by rw [upd_ne (ne_of h.1 e fun z => nomatch z)]; exact h.1, by rw [upd_ne (ne_of h.2 e fun z => nomatch z)]; exact h.2⟩
theorem sz1 : 1 ≤ sizeLine := Nat.le_of_lt (small1000 (by decide))
theorem sz3 : 3 ≤ sizeLine := Nat.le_of_lt (small1000 (by decide))
theorem kit_same {K : PySem.W.Frag} (T : String) : PySem.W.kitOne K (.type T) (.type T) = some true := by
  unfold PySem.W.kitOne
  rw [if_pos (beq_self_eq_true _)]
theorem kit_int_bool {K : PySem.W.Frag} : PySem.W.kitOne K (.type "int") (.type "bool") = some false := by rfl
structure Rs where
  q : Addr
  t : Int
  b : Int
def rrefs (rs : List Rs) : List V := rs.map fun r => V.ref r.q
def RsAt (H : Hp) (r : Rs) : Prop := H r.q = some (.tup [.int r.t, .int r.b])
structure Dk (ps : List Tb.Rw) (kvs : List (List Key × V)) : Prop where
  nd : (kvs.map (·.1)).Nodup
  en : ∀ kv ∈ kvs, ∃ t b, kv = ([.inl t, .inl b], .int (Tb.Wt ps t b)) ∧ Tb.Has ps t b
  all : ∀ t b, Tb.Has ps t b → ([Sum.inl t, Sum.inl b] : List Key) ∈ kvs.map (·.1)
theorem Dk.nil : Dk [] [] := ⟨List.nodup_nil, (fun _ h => nomatch h), fun t b h => absurd h Tb.Has_nil⟩
theorem valV_mem {kvs : List (List Key × V)} {k : List Key} {v : V} (h : valV kvs k = some v) : (k, v) ∈ kvs := by
  unfold valV at h
  cases e : kvs.find? fun kv => decide (kv.1 = k) with
  | none => rw [e] at h; cases h
  | some kv =>
    rw [e] at h
    have h1 : kv.2 = v := Option.some.inj h
    have h2 := List.find?_some e
    have h3 : kv.1 = k := of_decide_eq_true h2
    rw [← h1, ← h3]
    exact List.mem_of_find?_eq_some e
theorem key_inj {t b t' b' : Int} (h : ([Sum.inl t, Sum.inl b] : List Key) = [.inl t', .inl b']) : t = t' ∧ b = b' := by
  injection h with h1 h2
  injection h2 with h2 _
  injection h1 with h1
  injection h2 with h2
  exact ⟨h1, h2⟩
theorem Dk.val {ps : List Tb.Rw} {kvs : List (List Key × V)} (d : Dk ps kvs) {t b : Int} (h : Tb.Has ps t b) : valV kvs [.inl t, .inl b] = some (.int (Tb.Wt ps t b)) := by
  cases e : valV kvs [.inl t, .inl b] with
  | none => exact absurd (d.all t b h) (valV_not e)
  | some v =>
    obtain ⟨t', b', e2, _⟩ := d.en _ (valV_mem e)
    injection e2 with e3 e4
    obtain ⟨rfl, rfl⟩ := key_inj e3
    rw [e4]
theorem Dk.get {ps : List Tb.Rw} {kvs : List (List Key × V)} (d : Dk ps kvs) (t b : Int) : (valV kvs [.inl t, .inl b]).getD (.int 0) = .int (Tb.Wt ps t b) := by
  by_cases h : Tb.Has ps t b
  · rw [d.val h]; rfl
  · cases e : valV kvs [.inl t, .inl b] with
    | none => rw [Tb.Wt_zero h]; rfl
    | some v =>
      obtain ⟨t', b', e2, h2⟩ := d.en _ (valV_mem e)
      injection e2 with e3 e4
      obtain ⟨rfl, rfl⟩ := key_inj e3
      exact absurd h2 h
theorem putK_mem {kvs : List (List Key × V)} {k : List Key} {v : V} {kv : List Key × V} (h : kv ∈ putK kvs k v) : kv = (k, v) ∨ (kv ∈ kvs ∧ kv.1 ≠ k) := by
  unfold putK at h
  split at h
  · obtain ⟨x, hx, e⟩ := List.mem_map.mp h
    split at e
    · rename_i ek
      left
      rw [← e, ek]
    · rename_i ek
      right
      rw [← e]
      exact ⟨hx, ek⟩
  · rename_i na
    rcases List.mem_append.mp h with z | z
    · right
      refine ⟨z, fun ek => na ?_⟩
      exact List.any_eq_true.mpr ⟨kv, z, decide_eq_true ek⟩
    · exact .inl (by simpa using z)
theorem putK_keys {kvs : List (List Key × V)} {k : List Key} {v : V} : (putK kvs k v).map (·.1) = if (kvs.any fun kv => decide (kv.1 = k)) = true then kvs.map (·.1) else kvs.map (·.1) ++ [k] := by
  unfold putK
  split
  · rw [List.map_map]
    refine List.map_congr_left fun x _ => ?_
    show (if x.1 = k then (x.1, v) else x).1 = x.1
    split <;> rfl
  · rw [List.map_append]; rfl
theorem Dk.put {ps : List Tb.Rw} {kvs : List (List Key × V)} (d : Dk ps kvs) (x : Tb.Rw) : Dk (ps ++ [x]) (putK kvs [.inl x.t, .inl x.b] (.int (Tb.Wt ps x.t x.b + x.w))) := by
  have hx : ∀ t b, Tb.Wt [x] t b = if x.t = t ∧ x.b = b then x.w else 0 := fun t b => by rw [Tb.Wt_cons, Tb.Wt_nil, Int.add_zero]
  refine ⟨?_, fun kv hkv => ?_, fun t b h => ?_⟩
  · rw [putK_keys]
    split
    · exact d.nd
    · rename_i na
      refine List.nodup_append.mpr ⟨d.nd, List.nodup_cons.mpr ⟨List.not_mem_nil, List.nodup_nil⟩, fun y hy z hz => ?_⟩
      rw [List.mem_singleton.mp hz]
      rintro rfl
      obtain ⟨kv, hkv, e⟩ := List.mem_map.mp hy
      exact na (List.any_eq_true.mpr ⟨kv, hkv, decide_eq_true e⟩)
  · rcases putK_mem hkv with z | ⟨z, ne⟩
    · refine ⟨x.t, x.b, ?_, Tb.Has_append.mpr (.inr ⟨x, List.mem_cons_self, rfl, rfl⟩)⟩
      rw [z, Tb.Wt_append, hx, if_pos ⟨rfl, rfl⟩]
    · obtain ⟨t, b, e, h⟩ := d.en kv z
      refine ⟨t, b, ?_, Tb.Has_append.mpr (.inl h)⟩
      rw [Tb.Wt_append, hx, if_neg ?_, Int.add_zero]
      · exact e
      · rintro ⟨rfl, rfl⟩
        exact ne (by rw [e])
  · rw [putK_keys]
    have key : ([Sum.inl t, Sum.inl b] : List Key) ∈ kvs.map (·.1) ∨ ([Sum.inl t, Sum.inl b] : List Key) = [.inl x.t, .inl x.b] := by
      rcases Tb.Has_append.mp h with z | ⟨p, hp, e1, e2⟩
      · exact .inl (d.all t b z)
      · right
        rw [List.mem_singleton.mp hp] at e1 e2
        rw [e1, e2]
    split
    · rename_i ya
      rcases key with z | z
      · exact z
      · obtain ⟨kv, hkv, e⟩ := List.any_eq_true.mp ya
        rw [z, ← of_decide_eq_true e]
        exact List.mem_map.mpr ⟨kv, hkv, rfl⟩
    · rcases key with z | z
      · exact List.mem_append_left _ z
      · rw [z]; exact List.mem_append_right _ (.head _)
theorem Dk.ne {ps : List Tb.Rw} {kvs : List (List Key × V)} (d : Dk ps kvs) (h : ps ≠ []) : kvs ≠ [] := by
  cases ps with
  | nil => exact absurd rfl h
  | cons p ps =>
    intro e
    have := d.all p.t p.b (Tb.Has_cons.mpr (.inl ⟨rfl, rfl⟩))
    rw [e] at this
    cases this
end TD
namespace L2
open PySem PySem.Spec PyProof.Rows
end L2
namespace TD
open PySem L2
open Builtin.Int (intBits)
def lcmStep (m n : Int) : Int := m * (n.fdiv ((Int.gcd m n : Nat) : Int))
def lcmL (ns : List Int) : Int := ns.foldl lcmStep 1
theorem lcmStep_ok {m n : Int} (hm : 0 < m) (hn : 0 < n) : 0 < lcmStep m n ∧ m ∣ lcmStep m n ∧ n ∣ lcmStep m n := by
  have hg : 0 < ((Int.gcd m n : Nat) : Int) := by have := Int.gcd_pos_of_ne_zero_right m (Int.ne_of_gt hn); omega
  obtain ⟨c, hc⟩ := Int.gcd_dvd_right m n
  obtain ⟨d, hd⟩ := Int.gcd_dvd_left m n
  have e : n.fdiv ((Int.gcd m n : Nat) : Int) = c := by
    have h := Int.mul_fdiv_cancel_left (a := ((Int.gcd m n : Nat) : Int)) c (by omega)
    rw [← hc] at h
    exact h
  have cp : 0 < c := by
    rcases (by omega : 0 < c ∨ c ≤ 0) with z | z
    · exact z
    · have := Int.mul_nonpos_of_nonneg_of_nonpos (Int.le_of_lt hg) z
      omega
  unfold lcmStep
  rw [e]
  refine ⟨Int.mul_pos hm cp, ⟨c, rfl⟩, ⟨d, ?_⟩⟩
  generalize ((Int.gcd m n : Nat) : Int) = g at *
  rw [hc, hd]
  grind
theorem lcm_fold : ∀ (ns : List Int) (m : Int), 0 < m → (∀ n ∈ ns, 0 < n) → 0 < ns.foldl lcmStep m ∧ m ∣ ns.foldl lcmStep m ∧ ∀ n ∈ ns, n ∣ ns.foldl lcmStep m
  | [], m, hm, _ => ⟨hm, Int.dvd_refl m, fun _ h => nomatch h⟩
  | n :: ns, m, hm, h => by
    obtain ⟨a, b, c⟩ := lcmStep_ok hm (h n List.mem_cons_self)
    obtain ⟨x, y, z⟩ := lcm_fold ns (lcmStep m n) a fun k hk => h k (List.mem_cons_of_mem _ hk)
    refine ⟨x, Int.dvd_trans b y, fun k hk => ?_⟩
    rcases List.mem_cons.mp hk with e | e
    · subst e; exact Int.dvd_trans c y
    · exact z k e
theorem lcmL_ok {ns : List Int} (h : ∀ n ∈ ns, 0 < n) : 0 < lcmL ns ∧ ∀ n ∈ ns, n ∣ lcmL ns := by
  obtain ⟨a, _, c⟩ := lcm_fold ns 1 (by decide) h
  exact ⟨a, c⟩
structure Sz (a b c d : Int) : Prop where
  a : intBits a ≤ 10000
  b : intBits b ≤ 10000
  c : intBits c ≤ 10000
  d : intBits d ≤ 10000
def cellF (ns : List Int) (k : Int) : Int := if k < (ns.length : Int) then ns.getD k.toNat 0 else 7919 * k + 13
def spCell (K : PySem.W.Frag) : Sp := fun vs H Q _ => ∃ (a : Addr) (ns : List Int) (k : Int), vs = [.ref a, .int k] ∧ SqL K H a (ns.map V.int) ∧ 0 ≤ k ∧ Q (.int (cellF ns k)) H
def m300 : Int := 2 ^ 300
def PB (xs : List Row) : Prop := ∀ x ∈ xs, Fr.IsFr x.t x.b ∧ intBits x.t ≤ 300 ∧ intBits x.b ≤ 300 ∧ 1 ≤ x.w ∧ x.w ≤ m300
structure Out (ps : List Tb.Rw) (ys : List Row) : Prop where
  tab : Tb.IsTab ps (rws ys)
  w : ∀ y ∈ ys, 1 ≤ y.w ∧ y.w ≤ Tb.Wt ps y.t y.b
theorem PB.ps {xs : List Row} (h : PB xs) : (∀ p ∈ rws xs, 1 ≤ p.w) ∧ ∀ p ∈ rws xs, Fr.IsFr p.t p.b := by
  refine ⟨fun p hp => ?_, fun p hp => ?_⟩ <;>
  · obtain ⟨x, hx, rfl⟩ := List.mem_map.mp hp
    first | exact (h x hx).2.2.2.1 | exact (h x hx).1
theorem W_le {m : Int} (hm : 0 ≤ m) : ∀ {ps : List Tb.Rw}, (∀ p ∈ ps, 1 ≤ p.w ∧ p.w ≤ m) → 0 ≤ Tb.W ps ∧ Tb.W ps ≤ m * (ps.length : Int)
  | [], _ => by simp [Tb.W]
  | p :: ps, h => by
    obtain ⟨a, b⟩ := W_le hm (ps := ps) fun y hy => h y (List.mem_cons_of_mem _ hy)
    obtain ⟨c, d⟩ := h p List.mem_cons_self
    have f : m * ((p :: ps).length : Int) = m + m * (ps.length : Int) := by rw [List.length_cons]; grind
    rw [Tb.W_cons]
    omega
theorem Out.key {ps : List Tb.Rw} {ys : List Row} (o : Out ps ys) {y : Row} (hy : y ∈ ys) : ∃ p ∈ ps, p.t = y.t ∧ p.b = y.b := (o.tab.has y.t y.b).mp ⟨y.r, List.mem_map.mpr ⟨y, hy, rfl⟩, rfl, rfl⟩
theorem Out.ne {ps : List Tb.Rw} {ys : List Row} (o : Out ps ys) (h : ps ≠ []) : ys ≠ [] := by
  rintro rfl
  cases ps with
  | nil => exact h rfl
  | cons p ps => exact Tb.Has_nil ((o.tab.has p.t p.b).mpr (Tb.Has_cons.mpr (.inl ⟨rfl, rfl⟩)))
end TD
namespace L2
open PySem PySem.Spec PyProof.Rows
section
variable {X : Cx}
end
end L2
namespace L2
open PySem PySem.Spec PyProof.Rows
section
variable {X : Cx} {tg : Expr}
end
end L2
namespace PySem
namespace F
end F
end PySem
namespace L2
open PySem PySem.Spec PyProof.Rows
section
variable {X : Cx}
end
end L2
namespace Rk
abbrev Fc := Int × Int
def hd (l : List Fc) : Fc := match l with | [] => (0, 1) | p :: _ => p
def tk (many place : Int) (p : Fc) : Fc := if p.1 * many > place * p.2 then p else (place, many)
def onStep (many place : Int) (p : Fc) : Fc := Fr.sh ((tk many place p).1 * p.2 + (place - 1) * p.1 * (tk many place p).2) (place * (tk many place p).2 * p.2)
def onR (many : Int) : Nat → List Fc
  | 0 => [(0, 1)]
  | i + 1 => onStep many (many - i) (hd (onR many i)) :: onR many i
def goodP (p : Fc) : Bool := decide (0 < p.2) && decide (p.1.natAbs < 2 ^ 1000) && decide (p.2.natAbs < 2 ^ 1000)
def turns (f : Nat → Fc → Fc) : Nat → List Fc
  | 0 => [(0, 1)]
  | i + 1 => (fun l => f i (hd l) :: l) (turns f i)
theorem onR_turns (many : Int) : ∀ n, onR many n = turns (fun i p => onStep many (many - i) p) n
  | 0 => rfl
  | n + 1 => by
    show onStep many (many - n) (hd (onR many n)) :: onR many n = onStep many (many - n) (hd (turns _ n)) :: turns _ n
    rw [onR_turns many n]
def pl (x y : Fc) : Fc := Fr.sh (x.1 * y.2 + y.1 * x.2) (x.2 * y.2)
def mi (x y : Fc) : Fc := Fr.sh (x.1 * y.2 - y.1 * x.2) (x.2 * y.2)
def ti (x y : Fc) : Fc := Fr.sh (x.1 * y.1) (x.2 * y.2)
def ov (x y : Fc) : Fc := Fr.sh (x.1 * y.2) (x.2 * y.1)
def lt (x y : Fc) : Bool := decide (x.1 * y.2 < y.1 * x.2)
def gr (x y : Fc) : Fc := if lt x y then y else x
def rwStep (many place : Int) (p : Fc) : Fc := pl (ov (gr (Fr.sh place many) p) (place, 1)) (ti p (Fr.sh (place - 1) place))
def fbT (gone : Int) : Nat → List Fc := turns fun i p => pl p (Fr.sh 1 (gone + i))
def fb (many gone : Int) : Fc := if gone = 0 then Fr.sh 1 many else ti (Fr.sh gone many) (hd (fbT gone (many - gone).toNat))
def bgF (many : Int) : Nat → Int × Fc
  | 0 => (0, fb many 0)
  | i + 1 => (fun r f => if lt r.2 f then (1 + (i : Int), f) else r) (bgF many i) (fb many (1 + i))
def chk (m : Nat) : Bool := (fun l => l.all goodP && decide (turns (fun i p => rwStep ((m : Int) + 1) ((m : Int) + 1 - i) p) (m + 1) = l) && (fun r => decide (0 ≤ r.1) && decide (r.1 < (m : Int) + 1) && decide (fb ((m : Int) + 1) r.1 = hd l) && goodP r.2) (bgF ((m : Int) + 1) m)) (turns (fun i p => onStep ((m : Int) + 1) ((m : Int) + 1 - i) p) (m + 1))
theorem chk_all : ∀ m : Fin 60, chk m.val = true := by decide +kernel
structure Gd (p : Fc) : Prop where
  pos : 0 < p.2
  t : p.1.natAbs < 2 ^ 1000
  b : p.2.natAbs < 2 ^ 1000
theorem Gd.of {p : Fc} (h : goodP p = true) : Gd p := by
  unfold goodP at h
  simp only [Bool.and_eq_true, decide_eq_true_eq] at h
  exact ⟨h.1.1, h.1.2, h.2⟩
structure Ck (m : Int) : Prop where
  good : ∀ p ∈ onR m m.toNat, Gd p
  rw : turns (fun i p => rwStep m (m - i) p) m.toNat = onR m m.toNat
  g0 : 0 ≤ (bgF m (m.toNat - 1)).1
  g1 : (bgF m (m.toNat - 1)).1 < m
  best : fb m (bgF m (m.toNat - 1)).1 = hd (onR m m.toNat)
theorem Ck.of {m : Int} (h1 : 1 ≤ m) (h2 : m ≤ 60) : Ck m := by
  obtain ⟨k, hk⟩ : ∃ k : Nat, m = (k : Int) + 1 := ⟨(m - 1).toNat, by omega⟩
  have c := chk_all ⟨k, by omega⟩
  have c : chk k = true := c
  have e1 : m.toNat = k + 1 := by omega
  unfold chk at c
  rw [← hk, ← e1, ← onR_turns] at c
  simp only [Bool.and_eq_true, List.all_eq_true, decide_eq_true_eq] at c
  have e2 : m.toNat - 1 = k := by omega
  refine ⟨fun p hp => Gd.of (c.1.1 p hp), c.1.2, ?_, ?_, ?_⟩
  · rw [e2]; exact c.2.1.1.1
  · rw [e2]; exact c.2.1.1.2
  · rw [e2]; exact c.2.1.2
end Rk
namespace TD
open PySem L2
open Builtin.Int (intBits)
def vals (rs : List Rs) : List Rk.Fc := rs.map fun r => (r.t, r.b)
structure FrsAt (H : Hp) (a : Addr) (rs : List Rs) : Prop where
  lst : H a = some (.lst (rrefs rs))
  at_ : ∀ r ∈ rs, RsAt H r
theorem FrsAt.same {H H' : Hp} {a : Addr} {rs : List Rs} (s : Same H H') (h : FrsAt H a rs) : FrsAt H' a rs := ⟨s _ _ h.lst, fun r hr => s _ _ (h.at_ r hr)⟩
theorem rrefs_snoc (xs : List Rs) (y : Rs) : rrefs (xs ++ [y]) = rrefs xs ++ [V.ref y.q] := by unfold rrefs; rw [List.map_append]; rfl
theorem FrsAt.push {H : Hp} {D : Addr} {rs : List Rs} {r : Rs} (h : FrsAt H D rs) (hr : RsAt H r) : FrsAt (upd H D (.lst (rrefs rs ++ [.ref r.q]))) D (rs ++ [r]) := by
  have one : ∀ x : Rs, RsAt H x → RsAt (upd H D (.lst (rrefs rs ++ [.ref r.q]))) x := fun x hx => by
    unfold RsAt at hx ⊢
    rw [upd_ne (ne_of hx h.lst fun z => nomatch z)]
    exact hx
  refine ⟨by rw [upd_same, rrefs_snoc], fun x hx => ?_⟩
  rcases List.mem_append.mp hx with z | z
  · exact one x (h.at_ x z)
  · rw [List.mem_singleton.mp z]; exact one r hr
structure SzS (a b c d : Int) : Prop where
  a : intBits a ≤ 4400
  b : intBits b ≤ 4400
  c : intBits c ≤ 4400
  d : intBits d ≤ 4400
def pT (a b c d : Int) : Int := a * d + c * b
end TD
namespace Rk
def v (p : Fc) : Rat := (p.1 : Rat) / (p.2 : Rat)
theorem cast_ne {b : Int} (h : b ≠ 0) : (b : Rat) ≠ 0 := by exact_mod_cast h
theorem div_eq {a b c d : Int} (hb : b ≠ 0) (hd : d ≠ 0) : (a : Rat) / b = (c : Rat) / d ↔ a * d = c * b := by
  have hb' := cast_ne hb
  have hd' := cast_ne hd
  constructor
  · intro h
    have h' : (a : Rat) * d = c * b := by grind
    exact_mod_cast h'
  · intro h
    have h' : (a : Rat) * d = c * b := by exact_mod_cast h
    grind
theorem v_sh {t b : Int} (hb : b ≠ 0) : v (Fr.sh t b) = (t : Rat) / b :=
  (div_eq (Int.ne_of_gt (Fr.sh_pos hb)) hb).mpr (Fr.sh_cross t b)
theorem v_inj {p q : Fc} (hp : Fr.IsFr p.1 p.2) (hq : Fr.IsFr q.1 q.2) (e : v p = v q) : p = q := by
  obtain ⟨a, b⟩ := Fr.unique hp hq ((div_eq (Int.ne_of_gt hp.pos) (Int.ne_of_gt hq.pos)).mp e)
  exact Prod.ext a b
theorem v_int (i : Int) : v (i, 1) = (i : Rat) := by
  unfold v
  have : ((1 : Int) : Rat) = 1 := by norm_cast
  grind
theorem v_pl {x y : Fc} (hx : x.2 ≠ 0) (hy : y.2 ≠ 0) : v (pl x y) = v x + v y := by
  have hx' := cast_ne hx
  have hy' := cast_ne hy
  unfold pl
  rw [v_sh (Int.mul_ne_zero hx hy)]
  unfold v
  push_cast
  grind
theorem v_mi {x y : Fc} (hx : x.2 ≠ 0) (hy : y.2 ≠ 0) : v (mi x y) = v x - v y := by
  have hx' := cast_ne hx
  have hy' := cast_ne hy
  unfold mi
  rw [v_sh (Int.mul_ne_zero hx hy)]
  unfold v
  push_cast
  grind
theorem v_ti {x y : Fc} (hx : x.2 ≠ 0) (hy : y.2 ≠ 0) : v (ti x y) = v x * v y := by
  have hx' := cast_ne hx
  have hy' := cast_ne hy
  unfold ti
  rw [v_sh (Int.mul_ne_zero hx hy)]
  unfold v
  push_cast
  grind
end Rk
namespace TD
open PySem L2
open Builtin.Int (intBits)
theorem gyes {i : Nat} {v : V} {τ : St} {H : Hp} {A B : St → Hp → Prop} (h : A (τ.set i (some v)) H) : gName i v τ H (fun τ2 H2 => tYes τ2 H2 (fun b H3 => if b = true then A τ2 H3 else B τ2 H3)) := tyes_if (τ := τ.set i (some v)) (A := A (τ.set i (some v))) (B := B (τ.set i (some v))) h
theorem div_rat {m b : Int} (hb : 0 < b) (h : b ∣ m) : ((m.fdiv b : Int) : Rat) = (m : Rat) / (b : Rat) := by
  obtain ⟨c, rfl⟩ := h
  rw [Int.mul_fdiv_cancel_left c (Int.ne_of_gt hb)]
  have hb' := Rk.cast_ne (Int.ne_of_gt hb)
  push_cast
  grind
structure TotB (rs : List Rs) : Prop where
  len : rs.length ≤ 1000
  b : ∀ r ∈ rs, 0 < r.b
  t : ∀ r ∈ rs, intBits r.t ≤ 2500
  z : ((rs.map Rs.b).map intBits).sum ≤ 4200
end TD
namespace Lg
open Rk TD
open PySem.Builtin.Int (intBits)
structure Ld where
  pt : Int
  pb : Int
  h : Int
  lt : Int
  lb : Int
  mt : Int
  mb : Int
structure Gd (d : Ld) : Prop where
  p : 0 < d.pb
  l : 0 < d.lb
  m : 0 < d.mb
  p1 : intBits d.pt ≤ 64
  p2 : intBits d.pb ≤ 40
  h1 : intBits d.h ≤ 64
  l1 : intBits d.lt ≤ 64
  l2 : intBits d.lb ≤ 40
  m1 : intBits d.mt ≤ 64
  m2 : intBits d.mb ≤ 40
theorem sh_bits {t b : Int} {x y : Nat} (hb : b ≠ 0) (h1 : intBits t ≤ x) (h2 : intBits b ≤ y) : intBits (Fr.sh t b).1 ≤ x ∧ intBits (Fr.sh t b).2 ≤ y :=
  ⟨PySem.intBits_le_of_natAbs (Fr.sh_le1 hb) h1, PySem.intBits_le_of_natAbs (Fr.sh_le2 hb) h2⟩
structure Fb (f : Fc) (x y : Nat) : Prop where
  pos : 0 < f.2
  t : intBits f.1 ≤ x
  b : intBits f.2 ≤ y
theorem Fb.le {f : Fc} {x y x' y' : Nat} (h : Fb f x y) (h1 : x ≤ x') (h2 : y ≤ y') : Fb f x' y' := ⟨h.pos, Nat.le_trans h.t h1, Nat.le_trans h.b h2⟩
theorem Fb.pl {f g : Fc} {x y z w n : Nat} (h : Fb f x y) (k : Fb g z w) (h1 : x + w + 1 ≤ n) (h2 : z + y + 1 ≤ n) : Fb (pl f g) n (y + w) := by
  have hb : f.2 * g.2 ≠ 0 := Int.ne_of_gt (Int.mul_pos h.pos k.pos)
  have z1 := PySem.intBits_add_le (PySem.intBits_mul_le h.t k.b) (PySem.intBits_mul_le k.t h.b)
  have z2 := sh_bits hb (Nat.le_trans z1 (show max (x + w) (z + y) + 1 ≤ n by omega)) (PySem.intBits_mul_le h.b k.b)
  exact ⟨Fr.sh_pos hb, z2.1, z2.2⟩
theorem Fb.ti {f g : Fc} {x y z w : Nat} (h : Fb f x y) (k : Fb g z w) : Fb (ti f g) (x + z) (y + w) := by
  have hb : f.2 * g.2 ≠ 0 := Int.ne_of_gt (Int.mul_pos h.pos k.pos)
  have z2 := sh_bits hb (PySem.intBits_mul_le h.t k.t) (PySem.intBits_mul_le h.b k.b)
  exact ⟨Fr.sh_pos hb, z2.1, z2.2⟩
theorem Gd.fp {d : Ld} (g : Gd d) : Fb (d.pt, d.pb) 64 40 := ⟨g.p, g.p1, g.p2⟩
theorem Gd.fl {d : Ld} (g : Gd d) : Fb (d.lt, d.lb) 64 40 := ⟨g.l, g.l1, g.l2⟩
theorem Gd.fm {d : Ld} (g : Gd d) : Fb (d.mt, d.mb) 64 40 := ⟨g.m, g.m1, g.m2⟩
theorem v0 : v (0, 1) = 0 := by rw [v_int]; rfl
theorem v1 : v (1, 1) = 1 := by rw [v_int]; rfl
end Lg
namespace Of
open Rk TD
open PySem.Builtin.Int (intBits)
abbrev Tab := List (Int × Int)
structure GT (T : Tab) : Prop where
  ne : T ≠ []
  len : T.length ≤ 8
  v : ∀ r ∈ T, 0 ≤ r.1 ∧ r.1 ≤ 1000000000
  w : ∀ r ∈ T, 1 ≤ r.2 ∧ r.2 ≤ 8000
def W (T : Tab) : Int := (T.map (·.2)).sum
def onTop (T : Tab) (f : Fc) : Int := (T.map fun r => r.2 * (if f.1 > r.1 * f.2 then f.1 else r.1 * f.2)).sum
def onStep (T : Tab) (f : Fc) : Fc := Fr.sh (onTop T f) (W T * f.2)
def lcmR (rs : List (Fc × Int)) : Int := lcmL (rs.map fun r => r.1.2)
def byF (rs : List (Fc × Int)) (w : Int) : Fc := Fr.sh ((rs.map fun r => r.2 * r.1.1 * (lcmR rs).fdiv r.1.2).sum) (lcmR rs * w)
theorem W_pos {T : Tab} (h : ∀ r ∈ T, 1 ≤ r.2) : (T.length : Int) ≤ W T := by
  unfold W
  induction T with
  | nil => simp
  | cons r T ih =>
    have a := ih fun x hx => h x (List.mem_cons_of_mem _ hx)
    have b := h r List.mem_cons_self
    simp only [List.map_cons, List.sum_cons, List.length_cons]
    omega
theorem W_le {T : Tab} (h : ∀ r ∈ T, r.2 ≤ 8000) : W T ≤ 8000 * (T.length : Int) := by
  unfold W
  induction T with
  | nil => simp
  | cons r T ih =>
    have a := ih fun x hx => h x (List.mem_cons_of_mem _ hx)
    have b := h r List.mem_cons_self
    simp only [List.map_cons, List.sum_cons, List.length_cons]
    omega
theorem GT.W1 {T : Tab} (g : GT T) : 1 ≤ W T ∧ W T ≤ 64000 := by
  have a := W_pos fun r hr => (g.w r hr).1
  have b := W_le fun r hr => (g.w r hr).2
  have c := g.len
  have d : 0 < T.length := List.length_pos_iff.mpr g.ne
  omega
theorem by_sum {m : Int} (hm : 0 < m) : ∀ rs : List (Fc × Int), (∀ r ∈ rs, 0 < r.1.2 ∧ r.1.2 ∣ m) → (((rs.map fun r => r.2 * r.1.1 * m.fdiv r.1.2).sum : Int) : Rat) / (m : Rat) = (rs.map fun r => (r.2 : Rat) * v r.1).sum
  | [], _ => by simp; grind
  | r :: rs, h => by
    have ih := by_sum hm rs fun g hg => h g (List.mem_cons_of_mem _ hg)
    obtain ⟨a, b⟩ := h r List.mem_cons_self
    simp only [List.map_cons, List.sum_cons]
    rw [← ih]
    have hm' := cast_ne (Int.ne_of_gt hm)
    have hf' := cast_ne (Int.ne_of_gt a)
    unfold v
    push_cast
    rw [div_rat a b]
    grind
theorem lcmR_ok {rs : List (Fc × Int)} (h : ∀ r ∈ rs, 0 < r.1.2) : 0 < lcmR rs ∧ ∀ r ∈ rs, r.1.2 ∣ lcmR rs := by
  obtain ⟨a, b⟩ := lcmL_ok (ns := rs.map fun r => r.1.2) fun n hn => by
    obtain ⟨f, hf, rfl⟩ := List.mem_map.mp hn
    exact h f hf
  exact ⟨a, fun f hf => b _ (List.mem_map.mpr ⟨f, hf, rfl⟩)⟩
theorem v_byF {rs : List (Fc × Int)} {w : Int} (h : ∀ r ∈ rs, 0 < r.1.2) (hw : 0 < w) : v (byF rs w) = (rs.map fun r => (r.2 : Rat) * v r.1).sum / (w : Rat) := by
  obtain ⟨a, b⟩ := lcmR_ok h
  unfold byF
  rw [v_sh (Int.ne_of_gt (Int.mul_pos a hw)), ← by_sum a rs fun r hr => ⟨h r hr, b r hr⟩]
  have ha' := cast_ne (Int.ne_of_gt a)
  have hw' := cast_ne (Int.ne_of_gt hw)
  push_cast
  grind
theorem byF_fr {rs : List (Fc × Int)} {w : Int} (h : ∀ r ∈ rs, 0 < r.1.2) (hw : 0 < w) : Fr.IsFr (byF rs w).1 (byF rs w).2 := Fr.sh_ok (Int.ne_of_gt (Int.mul_pos (lcmR_ok h).1 hw))
def takenOf (T : Tab) (R : List Bool) : List (Fc × Int) := ((T.zip R).filter (·.2)).map fun x => ((x.1.1, 1), x.1.2)
def had (T : Tab) (R : List Bool) : Int := (((T.zip R).filter (·.2)).map fun x => x.1.1 * x.1.2).sum
def wYes (T : Tab) (R : List Bool) : Int := (((T.zip R).filter (·.2)).map fun x => x.1.2).sum
def wNo (T : Tab) (R : List Bool) : Int := (((T.zip R).filter (fun x => !x.2)).map fun x => x.1.2).sum
theorem yes_no : ∀ (T : Tab) (R : List Bool), T.length = R.length → wYes T R + wNo T R = W T
  | [], [], _ => rfl
  | [], _ :: _, h => by simp at h
  | _ :: _, [], h => by simp at h
  | r :: T, b :: R, h => by
    have ih := yes_no T R (by simpa using h)
    unfold wYes wNo W at ih ⊢
    cases b <;> simp only [List.zip_cons_cons, List.filter_cons, Bool.not_true, Bool.not_false, if_true, if_false, Bool.false_eq_true, List.map_cons, List.sum_cons] <;> omega
def meanS (T : Tab) (R : List Bool) : Fc := byF (takenOf T R) (W T)
def shareS (T : Tab) (R : List Bool) : Fc := Fr.sh (wYes T R) (W T)
theorem had_v : ∀ l : List ((Int × Int) × Bool), ((l.map fun x => (((x.1.1, 1) : Fc), x.1.2)).map fun r => (r.2 : Rat) * v r.1).sum = (((l.map fun x => x.1.1 * x.1.2).sum : Int) : Rat)
  | [] => by simp
  | x :: l => by
    have ih := had_v l
    simp only [List.map_cons, List.sum_cons]
    rw [ih, v_int]
    push_cast
    grind
theorem v_meanS {T : Tab} {R : List Bool} (g : GT T) : v (meanS T R) = (had T R : Rat) / (W T : Rat) := by
  have hw : 0 < W T := by have := g.W1; omega
  have hp : ∀ r ∈ takenOf T R, 0 < r.1.2 := fun r hr => by
    obtain ⟨x, hx, rfl⟩ := List.mem_map.mp hr
    show (0 : Int) < 1; decide
  unfold meanS
  rw [v_byF hp hw]
  unfold takenOf had
  rw [had_v]
structure St where
  f : Fc
  r : Fc
def mStep (s : St) (T : Tab) (R : List Bool) : St := ⟨pl s.f (ti s.r (meanS T R)), ti s.r (mi (1, 1) (shareS T R))⟩
structure Sl where
  f : Fc
  t : Int
  b : Int
def tStep (s : Sl) (T : Tab) (R : List Bool) : Sl := ⟨Fr.sh (s.f.1 * (s.b * W T) + s.t * had T R * s.f.2) (s.f.2 * (s.b * W T)), s.t * wNo T R, s.b * W T⟩
structure Alike (s : St) (z : Sl) : Prop where
  eq : s.f = z.f
  fr : Fr.IsFr s.f.1 s.f.2
  rp : 0 < s.r.2
  bp : 0 < z.b
  re : v s.r = (z.t : Rat) / (z.b : Rat)
theorem Alike.step {s : St} {z : Sl} {T : Tab} {R : List Bool} (a : Alike s z) (g : GT T) (hl : T.length = R.length) : Alike (mStep s T R) (tStep z T R) := by
  have hw : 0 < W T := by have := g.W1; omega
  have hp : ∀ r ∈ takenOf T R, 0 < r.1.2 := fun r hr => by
    obtain ⟨x, hx, rfl⟩ := List.mem_map.mp hr
    show (0 : Int) < 1; decide
  have m2 : 0 < (meanS T R).2 := (byF_fr hp hw).pos
  have s2 : 0 < (shareS T R).2 := Fr.sh_pos (Int.ne_of_gt hw)
  have t2 : 0 < (ti s.r (meanS T R)).2 := Fr.sh_pos (Int.ne_of_gt (Int.mul_pos a.rp m2))
  have i2 : 0 < (mi (1, 1) (shareS T R)).2 := Fr.sh_pos (Int.ne_of_gt (Int.mul_pos (show (0 : Int) < 1 by decide) s2))
  have fp := a.fr.pos
  have bw : 0 < z.b * W T := Int.mul_pos a.bp hw
  have zf : 0 < z.f.2 := by rw [← a.eq]; exact fp
  have hb' := cast_ne (Int.ne_of_gt a.bp)
  have hw' := cast_ne (Int.ne_of_gt hw)
  have ok : Fr.IsFr (pl s.f (ti s.r (meanS T R))).1 (pl s.f (ti s.r (meanS T R))).2 := Fr.sh_ok (Int.ne_of_gt (Int.mul_pos fp t2))
  refine ⟨v_inj ok (Fr.sh_ok (Int.ne_of_gt (Int.mul_pos zf bw))) ?_, ok, Fr.sh_pos (Int.ne_of_gt (Int.mul_pos a.rp i2)), bw, ?_⟩
  · show v (pl s.f (ti s.r (meanS T R))) = v (Fr.sh (z.f.1 * (z.b * W T) + z.t * had T R * z.f.2) (z.f.2 * (z.b * W T)))
    rw [v_pl (Int.ne_of_gt fp) (Int.ne_of_gt t2), v_ti (Int.ne_of_gt a.rp) (Int.ne_of_gt m2), v_meanS g, a.re, a.eq, v_sh (Int.ne_of_gt (Int.mul_pos zf bw))]
    have hz' := cast_ne (Int.ne_of_gt zf)
    unfold v
    push_cast
    grind
  · show v (ti s.r (mi (1, 1) (shareS T R))) = ((z.t * wNo T R : Int) : Rat) / ((z.b * W T : Int) : Rat)
    have e := yes_no T R hl
    have e' : (wYes T R : Rat) + (wNo T R : Rat) = (W T : Rat) := by exact_mod_cast e
    rw [v_ti (Int.ne_of_gt a.rp) (Int.ne_of_gt i2), v_mi (show (1 : Int) ≠ 0 by decide) (Int.ne_of_gt s2), Lg.v1, a.re]
    unfold shareS
    rw [v_sh (Int.ne_of_gt hw)]
    push_cast
    grind
open Lg (Fb)
end Of
namespace L2
open PySem PySem.Spec PyProof.Rows
def cSq (tp : Bool) : String := if tp then "tuple" else "list"
def cIt (tp : Bool) : String := if tp then "tuple_iterator" else "list_iterator"
def SqIs (tp : Bool) (h : Heap) (l : Addr) (its : Array Value) : Prop := ∃ o, h.get? l = some o ∧ o.cls = .type (cSq tp) ∧ ∃ n, o.data = .seq its n
def SqIt (tp : Bool) (h : Heap) (it l : Addr) (i : Nat) : Prop := ∃ o, h.get? it = some o ∧ o.cls = .type (cIt tp) ∧ o.data = .fields #[.ref l, .int i 0]
theorem SqIs.keep {tp : Bool} {h h' : Heap} {l : Addr} {its : Array Value} (x : SqIs tp h l its) (k : ∀ o, h.get? l = some o → h'.get? l = some o) : SqIs tp h' l its := let ⟨o, e, r⟩ := x; ⟨o, k o e, r⟩
theorem SqIt.keep {tp : Bool} {h h' : Heap} {it l : Addr} {i : Nat} (x : SqIt tp h it l i) (k : ∀ o, h.get? it = some o → h'.get? it = some o) : SqIt tp h' it l i := let ⟨o, e, r⟩ := x; ⟨o, k o e, r⟩
theorem SqIs.lt {tp : Bool} {h : Heap} {l : Addr} {its : Array Value} (x : SqIs tp h l its) : l < h.objs.size := let ⟨_, e, _⟩ := x; Heap.lt_size e
section
variable {X : Cx} {pins : List (Addr × Obj)} {σ : St} {H : Hp} {s : Shared}
end
section
variable {prog : Program} {w : World} {A : Around} {E : Value → Shared → Prop} {s : Shared}
end
end L2
namespace L2
open PySem PySem.Spec PyProof.Rows
structure ZAt (p q : Bool) (h : Heap) (z ti to a b l m : Addr) (i : Nat) : Prop where
  zip : IsZip h z ti to .none
  its : IsPair h ti (.ref a) (.ref b)
  own : ∃ x y, IsPair h to x y
  one : SqIt p h a l i
  two : SqIt q h b m i
structure ZNe (z ti to a b l m : Addr) : Prop where
  tz : ti ≠ z
  oz : to ≠ z
  az : a ≠ z
  bz : b ≠ z
  ot : to ≠ ti
  ta : ti ≠ a
  tb : ti ≠ b
  oa : to ≠ a
  ob : to ≠ b
  ab : a ≠ b
  lz : l ≠ z
  lo : l ≠ to
  la : l ≠ a
  lb : l ≠ b
  mz : m ≠ z
  mo : m ≠ to
  ma : m ≠ a
  mb : m ≠ b
section
variable {prog : Program} {w : World} {A : Around} {E : Value → Shared → Prop} {s : Shared} {p q : Bool} {z ti to a b l m : Addr} {i : Nat} {xs ys : Array Value}
end
end L2
namespace L2
open PySem PySem.Spec PyProof.Rows
section
variable {prog : Program} {w : World} {A : Around} {E : Value → Shared → Prop} {s : Shared} {p q : Bool} {z ti to a b l m : Addr} {i : Nat} {xs ys : Array Value}
end
theorem SqIs.push {tp : Bool} {h : Heap} {l : Addr} {its : Array Value} (x : SqIs tp h l its) (o : Obj) : SqIs tp (h.push o) l its := x.keep fun _ e => Heap.get?_push_of_some _ e
section
variable {prog : Program} {w : World} {A : Around} {E : Value → Shared → Prop} {s : Shared} {p q : Bool} {l m : Addr} {xs ys : Array Value}
end
end L2
namespace L2
open PySem PySem.Spec PyProof.Rows
section
variable {X : Cx}
end
end L2
namespace L2
open PySem PySem.Spec PyProof.Rows
section
variable {prog : Program} {w : World} {A : Around} {E : Value → Shared → Prop} {s : Shared} {r t : Addr} {xs : Array Value}
end
section
variable {X : Cx}
end
end L2
namespace L2
open PySem PySem.Spec PyProof.Rows
section
variable {X : Cx}
end
end L2
namespace L2
open PySem PySem.Spec PyProof.Rows
theorem range_all (bs : List Bool) : (List.range bs.length).all (fun i => bs.getD i false) = bs.all id := by
  rw [Bool.eq_iff_iff]
  simp only [List.all_eq_true, List.mem_range]
  constructor
  · intro h b hb
    obtain ⟨i, hi, e⟩ := List.mem_iff_getElem.mp hb
    have q := h i hi
    rw [getD_at hi, e] at q
    exact q
  · intro h i hi
    rw [getD_at hi]
    exact h _ (List.getElem_mem hi)
section
variable {X : Cx} {K : PySem.W.Frag}
theorem bls_at {us : List Value} {bs : List Bool} (h : Vals (bs.map V.bl) us) {i : Nat} {v : Value} (e : us[i]? = some v) : v = .bool (bs.getD i false) := by
  have hl := h.length
  rw [List.length_map] at hl
  have hi : i < us.length := (List.getElem?_eq_some_iff.mp e).1
  have e2 : (bs.map V.bl)[i]? = some (.bl (bs.getD i false)) := by
    rw [List.getElem?_map, List.getElem?_eq_getElem (by omega), getD_at (by omega)]
    rfl
  obtain ⟨u, hu, r⟩ := h.get e2
  rw [e] at hu
  cases hu
  exact r
theorem call_allL (hK : X.K = K) (hc : X.calm = true) : CallR X (.builtin "all") (fun xs H Q => ∃ (a : Addr) (bs : List Bool), xs = [.ref a] ∧ SqL K H a (bs.map V.bl) ∧ Q (.bl (bs.all id)) H) := by
  subst hK
  intro pins s σ H xs us Q I r h
  obtain ⟨a, bs, rfl, hS, q⟩ := h
  obtain ⟨u, rfl, ru⟩ := vals1 r
  cases (show u = Value.ref a from ru)
  obtain ⟨its, rv, pl, hz⟩ := I.list hS
  have lt : a < s.heap.objs.size := by obtain ⟨o, e, _⟩ := pl.isList; exact Heap.lt_size e
  have hl := rv.length
  rw [List.length_map] at hl
  refine call_all_walk (wpAny_pyIter_list pl.isList ⟨s.heap.objs.size, _, _, _, _, _, fun i => bs.getD i false, rfl, Walks.list (A := X.A.in1) (I.ok.hd hc) s.heap.objs.size a (Nat.ne_of_lt lt) its.toArray, ⟨⟨_, Heap.get?_push_size _ rfl, rfl, rfl⟩, pl.isList.push _⟩, ?_, fun h' tk hk => ?_⟩)
  · intro i v s' Q' E' hv hQ
    have e := bls_at rv (i := i) (v := v) (by simpa using hv)
    rw [e]
    exact wpAny_truthy_bool hQ
  · refine ⟨.bl (bs.all id), H, I.kept (t' := tk) fun b o e => hk b o (fun z => ?_) (Heap.get?_push_of_some _ e), ?_, q⟩
    · rw [List.mem_singleton.mp z] at e
      exact absurd (Heap.lt_size e) (Nat.lt_irrefl _)
    · show Value.bool _ = Value.bool _
      rw [List.size_toArray, ← hl, range_all]
end
end L2
namespace L2
open PySem PySem.Spec PyProof.Rows
structure ClsM (K : PySem.W.Frag) (C : Addr) (m : Str) (f : Addr) : Prop where
  ga : PySem.W.specialIn K (.ref C) "__getattribute__" = some (some (.builtin "type.__getattribute__"))
  rd : PySem.W.readsIn K C (.type "type") = true
  at_ : PySem.W.findCls K (.ref C) (.type "type") m = some (.val (.ref f))
  hd : PySem.W.handedIn (.ref f) = true
  kp : PySem.W.keepIn K (.ref f) = true
section
variable {X : Cx} {CX : CXT} {C f : Addr} {fd : FuncData} {k : Nat} {x m : Str} {ps : List Str} {ds : List Value} {dvs : List V} {sp : Sp} {E : XK} {e : Expr} {es : List Expr} {t : TA} {p apos pos : Pos}
end
end L2
namespace L2
open PySem PySem.Spec PySem.Calls PyProof.Rows
section
variable {X : Cx}
end
end L2
namespace L2
open PySem PySem.Spec PyProof.Rows
theorem call_tuple_ofK {X : Cx} {K : PySem.W.Frag} (h : X.K = K) : CallR X (.type "tuple") (fun xs H Q => ∃ p ys, xs = [.ref p] ∧ ((SqL K H p ys ∧ ∀ l, H l = none → Q (.ref l) (upd H l (.tup ys))) ∨ (SqT K H p ys ∧ Q (.ref p) H))) := by subst h; exact call_tuple_of
end L2
namespace L2
open PySem PySem.Spec PyProof.Rows
structure MkN (K : PySem.W.Frag) (C : Addr) : Prop where
  makes : PySem.W.makesIn K C = true
  init : PySem.W.findIn K (.ref C) "__init__" = some (some (.builtin "object.__init__"))
  kp : PySem.W.keepIn K (.ref C) = true
section
variable {X : Cx} {C : Addr} {x : Str} {p pos : Pos}
end
end L2
namespace L2
open PySem PySem.Spec PyProof.Rows
end L2
namespace TD
open PySem L2
open Builtin.Int (intBits)
structure Ir where
  p : Addr
  v : Int
  w : Int
def IrAt (H : Hp) (x : Ir) : Prop := H x.p = some (.tup [.int x.v, .int x.w])
def irefs (xs : List Ir) : List V := xs.map fun x => V.ref x.p
structure IrsAt (H : Hp) (a : Addr) (xs : List Ir) : Prop where
  lst : H a = some (.lst (irefs xs))
  rows : ∀ x ∈ xs, IrAt H x
def tab (xs : List Ir) : Of.Tab := xs.map fun x => (x.v, x.w)
theorem IrsAt.same {H H' : Hp} {a : Addr} {xs : List Ir} (s : Same H H') (h : IrsAt H a xs) : IrsAt H' a xs := ⟨s _ _ h.lst, fun x hx => s _ _ (h.rows x hx)⟩
theorem irefs_length (xs : List Ir) : (irefs xs).length = xs.length := List.length_map _
theorem irefs_at {xs : List Ir} {i : Nat} {v : V} (h : (irefs xs)[i]? = some v) : ∃ x, xs[i]? = some x ∧ v = .ref x.p := by
  unfold irefs at h
  rw [List.getElem?_map] at h
  cases e : xs[i]? with
  | none => rw [e] at h; cases h
  | some x => rw [e] at h; cases h; exact ⟨x, rfl, rfl⟩
theorem irefs_snoc (xs : List Ir) (y : Ir) : irefs (xs ++ [y]) = irefs xs ++ [V.ref y.p] := by unfold irefs; rw [List.map_append]; rfl
theorem IrsAt.push {H : Hp} {a : Addr} {xs : List Ir} {y : Ir} (h : IrsAt H a xs) (hy : IrAt H y) : IrsAt (upd H a (.lst (irefs xs ++ [.ref y.p]))) a (xs ++ [y]) := by
  have one : ∀ x : Ir, IrAt H x → IrAt (upd H a (.lst (irefs xs ++ [.ref y.p]))) x := fun x hx => by unfold IrAt at hx ⊢; rw [upd_ne (ne_of hx h.lst fun z => nomatch z)]; exact hx
  refine ⟨by rw [upd_same, irefs_snoc], fun x hx => ?_⟩
  rcases List.mem_append.mp hx with z | z
  · exact one x (h.rows x z)
  · rw [List.mem_singleton.mp z]; exact one y hy
structure GI (xs : List Ir) : Prop where
  ne : xs ≠ []
  len : xs.length ≤ 8
  v : ∀ x ∈ xs, 0 ≤ x.v ∧ x.v ≤ 1000000000
  w : ∀ x ∈ xs, 1 ≤ x.w ∧ x.w ≤ 1000
structure Ls where
  a : Addr
  xs : List Ir
def lsrefs (ls : List Ls) : List V := ls.map fun l => V.ref l.a
structure LsAt (H : Hp) (a : Addr) (ls : List Ls) : Prop where
  lst : H a = some (.lst (lsrefs ls))
  each : ∀ l ∈ ls, IrsAt H l.a l.xs
theorem LsAt.same {H H' : Hp} {a : Addr} {ls : List Ls} (s : Same H H') (h : LsAt H a ls) : LsAt H' a ls := ⟨s _ _ h.lst, fun l hl => (h.each l hl).same s⟩
structure Tn where
  a : Addr
  ys : List Row
def trefs (ts : List Tn) : List V := ts.map fun t => V.ref t.a
structure TpAt (H : Hp) (a : Addr) (ys : List Row) : Prop where
  tp : H a = some (.tup (refs ys))
  rows : ∀ y ∈ ys, RowAt H y
structure KAt (H : Hp) (k : Addr) (ts : List Tn) : Prop where
  tp : H k = some (.tup (trefs ts))
  each : ∀ t ∈ ts, TpAt H t.a t.ys
theorem TpAt.same {H H' : Hp} {a : Addr} {ys : List Row} (s : Same H H') (h : TpAt H a ys) : TpAt H' a ys := ⟨s _ _ h.tp, fun y hy => (h.rows y hy).same s⟩
theorem KAt.same {H H' : Hp} {k : Addr} {ts : List Tn} (s : Same H H') (h : KAt H k ts) : KAt H' k ts := ⟨s _ _ h.tp, fun t ht => (h.each t ht).same s⟩
def tabY (ys : List Row) : Of.Tab := ys.map fun y => (y.t, y.w)
structure GY (ys : List Row) : Prop where
  g : Of.GT (tabY ys)
  one : ∀ y ∈ ys, y.b = 1
structure BRows (xs : List Row) : Prop where
  len : xs.length ≤ 1000
  b : ∀ x ∈ xs, 0 < x.b
  t : ∀ x ∈ xs, intBits x.t ≤ 2500
  w : ∀ x ∈ xs, intBits x.w ≤ 64
  z : ((xs.map Row.b).map intBits).sum ≤ 4200
end TD
namespace L2
open PySem PySem.Spec PyProof.Rows
def CXr (P : Program) (w : World) : CXT := fun outer H s E e s' =>
  ∃ (a : Addr) (cls a0 : Value) (H' : Hp) (B : Heap), e = .ref a ∧ s'.os = s.os ∧ AllBare s'.gens ∧ Un (frs outer) [] H H' s.heap s'.heap ∧ HOk P w H' s'.heap ∧ Heap.FlyingW B outer a cls a0 s'.heap ∧
    (∀ b o, s.heap.get? b = some o → b ∉ frs outer → ∃ o', B.get? b = some o') ∧ (∀ b u, H' b = some u → ∃ o', B.get? b = some o') ∧ E cls none H'
section
variable {P : Program} {w : World} {H H' : Hp} {B h0 h1 h2 : Heap} {fs : List Addr}
theorem same_by (b1 : B.StaysIn h1) (b2 : B.StaysIn h2) {b : Addr} {o : Obj} (q : h1.get? b = some o) (x : ∃ o', B.get? b = some o') : h2.get? b = some o := by
  obtain ⟨o', e⟩ := x
  have := b1 b o' e
  rw [q] at this
  cases this
  exact b2 b _ e
theorem un_fly (u : Un fs [] H H' h0 h1) (b1 : B.StaysIn h1) (b2 : B.StaysIn h2) (up : h1.UpToSlots h2) (nf : ∀ b ∈ fs, ∃ o, h1.get? b = some o ∧ ∀ vs, o.data ≠ .fields vs)
    (hB : ∀ b o, h0.get? b = some o → b ∉ fs → ∃ o', B.get? b = some o') : Un fs [] H H' h0 h2 := by
  refine ⟨fun b o q n hb hx => same_by b1 b2 (u.keep b o q n hb hx) (hB b o q hb), fun b o q n hb hx => ?_, u.free, fun b o q hx => ?_, u.tups, u.frzs, u.tbls⟩
  · obtain ⟨sl, e⟩ := u.slot b o q n hb hx
    obtain ⟨o1, e1, d1⟩ := nf b hb
    rw [e] at e1
    cases e1
    obtain ⟨sl2, e2⟩ := up b _ e d1
    exact ⟨sl2, e2⟩
  · by_cases hb : b ∈ fs
    · obtain ⟨o1, e1, d1⟩ := nf b hb
      obtain ⟨sl2, e2⟩ := up b _ e1 d1
      exact ⟨_, e2⟩
    · obtain ⟨o1, e1⟩ := hB b o q hb
      exact ⟨_, b2 b _ e1⟩
theorem hok_fly (x : HOk P w H h1) (b1 : B.StaysIn h1) (b2 : B.StaysIn h2) (hH : ∀ b u, H b = some u → ∃ o', B.get? b = some o') : HOk P w H h2 := fun a o e =>
  (x a o e).stay (fun b u hb q => same_by b1 b2 q (by
    rcases hb with rfl | hb
    · exact hH _ _ e
    · exact hH _ _ hb)) (fun _ q => q) fun _ _ q => q
end
theorem obj_some {P : Program} {w : World} {H : Hp} {h : Heap} {b : Addr} {u : HO} (x : ObjOk P w H h b u) (z : h.get? b = none) : False := by
  cases u with
  | lst xs => obtain ⟨_, _, _, _, e⟩ := x; rw [z] at e; cases e
  | tup xs => obtain ⟨_, _, _, _, e, _⟩ := x; rw [z] at e; cases e
  | dK kvs => obtain ⟨_, _, _, _, o, _, _, e, _⟩ := x; rw [z] at e; cases e
  | dT kvs => obtain ⟨_, _, _, _, o, _, _, e, _⟩ := x; rw [z] at e; cases e
  | set S n => obtain ⟨o, _, _, _, e, _⟩ := x; rw [z] at e; cases e
  | ins C dx fs => obtain ⟨_, _, _, e, _⟩ := x; rw [z] at e; cases e
  | own y => obtain ⟨_, e⟩ := x; rw [z] at e; cases e
  | xd fs => obtain ⟨_, ⟨_, _, _, e, _⟩, _⟩ := x; rw [z] at e; cases e
  | rng lo hi => obtain ⟨_, _, _, e⟩ := x; rw [z] at e; cases e
  | frz ob v => obtain ⟨e, _⟩ := x; rw [z] at e; cases e
  | tbl ps => have e := (show h.get? b = some _ from x); rw [z] at e; cases e
  | met f y => have e := (show h.get? b = some _ from x); rw [z] at e; cases e
  | ext φ => obtain ⟨_, ⟨_, e⟩, _⟩ := x; rw [z] at e; cases e
theorem mem_frs {env : Env} {outer : List Env} {L b : Addr} (hf : env.frame = some L) : b ∈ frs (env :: outer) ↔ b = L ∨ b ∈ frs outer := by
  unfold frs
  rw [List.filterMap_cons, hf]
  exact List.mem_cons
structure XCls (K : PySem.W.Frag) (C : Addr) : Prop where
  isx : PySem.W.excIn K C ([.type "ValueError", .type "Exception", .type "BaseException", .type "object"]) "ValueError.__new__" = true
section
variable {X : Cx}
def Throws (X : Cx) (E : XK) : Prop := ∀ (pins : List (Addr × Obj)) (σ : St) (H : Hp) (s : Shared) (h' : Heap) (e : Addr) (cls : Value) (args : List Value), Inv X pins σ H s → Heap.MadeExcOf s.heap h' e cls args → E cls none H →
  X.xe (.ref e) { s with heap := h' }
end
section
variable {P : Program} {w : World} {K : PySem.W.Frag} {mg : Str → Option Value} {base : Heap} {N : List Str} {qual : Str} {scope : Scope} {f : Addr} {cd : Value} {A : Around} {outer : List Env} {s : Shared} {H : Hp} {E : XK}
theorem throws_cx : Throws (cxOf (CXr P w) P w K mg base N qual scope f cd A outer s H E) E := by
  intro pins σ H1 s1 h' e cls args I mk hE
  have hfr := I.ok.frames
  have hst := I.stack
  have nsz : ∀ b o, s.heap.get? b = some o → b ≠ s.heap.objs.size := fun b o q z => absurd (Heap.lt_size q) (by rw [z]; exact Nat.lt_irrefl _)
  have hide : ∀ b o, s1.heap.get? b = some o → b ∉ frs (envOfC qual scope s.heap.objs.size f cd :: outer) → (PySem.W.hideAll s1.heap (frs (envOfC qual scope s.heap.objs.size f cd :: outer))).get? b = some o := fun b o q hb => PySem.W.hideAll_get _ q hb
  have inS : ∀ b o, s.heap.get? b = some o → b ∉ frs outer → ∃ o', (PySem.W.hideAll s1.heap (frs (envOfC qual scope s.heap.objs.size f cd :: outer))).get? b = some o' := fun b o q hb => by
    obtain ⟨o', e'⟩ := I.base.there b o q (by show b ∉ ([] : List Addr); simp)
    exact ⟨o', hide b o' e' fun z => ((mem_frs rfl).mp z).elim (nsz b o q) hb⟩
  have inH : ∀ b u, H1 b = some u → ∃ o', (PySem.W.hideAll s1.heap (frs (envOfC qual scope s.heap.objs.size f cd :: outer))).get? b = some o' := fun b u q => by
    have lt := I.hok.lt q
    obtain ⟨o', e'⟩ : ∃ o', s1.heap.get? b = some o' := by
      have := I.hok b u q
      cases z : s1.heap.get? b with
      | some o' => exact ⟨o', rfl⟩
      | none => exact (obj_some this z).elim
    refine ⟨o', hide b o' e' fun z => ?_⟩
    have := I.stkFree b z
    rw [q] at this
    cases this
  show wpAny (model P w) (A.deeper (envOfC qual scope s.heap.objs.size f cd)) (leaving (envOfC qual scope s.heap.objs.size f cd) (.ref e)) _ _ _
  refine wpAny_leaves_madeW (h := s1.heap) (base := PySem.W.hideAll s1.heap (frs (envOfC qual scope s.heap.objs.size f cd :: outer))) hfr rfl (fun b o q => PySem.W.of_hideAll _ q)
    (PySem.W.funFrames_hide hst fun env he b hb => List.mem_filterMap.mpr ⟨env, he, hb⟩) mk fun h'' t fl _ _ up => ?_
  have b1 : Heap.StaysIn (PySem.W.hideAll s1.heap (frs (envOfC qual scope s.heap.objs.size f cd :: outer))) h' := fun b o q => mk.keeps _ _ (PySem.W.of_hideAll _ q)
  refine ⟨e, cls, .ref t, H1, _, rfl, I.os, I.bare, ?_, hok_fly (I.hok.kept mk.keeps) b1 fl.1 inH, fl, inS, inH, hE⟩
  have u1 : Un (frs outer) [] H H1 s.heap h' := Un.trans (show Un (frs outer) [] H H1 s.heap s1.heap from I.base) (Un.kept mk.keeps)
  refine un_fly u1 b1 fl.1 up (fun b hb => ?_) inS
  obtain ⟨_, o, ho, hd⟩ := I.funs.mem hb
  exact ⟨o, mk.keeps _ _ ho, hd⟩
theorem passes_cx : Passes (CXr P w) (cxOf (CXr P w) P w K mg base N qual scope f cd A outer s H E) E := by
  rintro pins σ H1 s1 e s' I ⟨a, cls, a0, H', B, rfl, hos, hg, un, hok, fl, inB, inH, hE⟩
  have nsz : ∀ b o, s.heap.get? b = some o → b ≠ s.heap.objs.size := fun b o q z => absurd (Heap.lt_size q) (by rw [z]; exact Nat.lt_irrefl _)
  have J := I.call' (s' := s') (H' := H') (ch := []) hos un hok hg (fun b z => absurd z (by simp))
  have inS : ∀ b o, s.heap.get? b = some o → b ∉ frs outer → ∃ o', B.get? b = some o' := fun b o q hb => by
    obtain ⟨o', e'⟩ := I.base.there b o q (by show b ∉ ([] : List Addr); simp)
    exact inB b o' e' fun z => ((mem_frs rfl).mp z).elim (nsz b o q) hb
  show wpAny (model P w) (A.deeper (envOfC qual scope s.heap.objs.size f cd)) (leaving (envOfC qual scope s.heap.objs.size f cd) (.ref a)) _ _ _
  refine wpAny_leaves_onW I.ok.frames rfl fl fun h'' fl' up => ?_
  refine ⟨a, cls, a0, H', B, rfl, J.os, hg, ?_, hok_fly hok fl.1 fl'.1 inH, fl', inS, inH, hE⟩
  refine un_fly (show Un (frs outer) [] H H' s.heap s'.heap from J.base) fl.1 fl'.1 up (fun b hb => ?_) inS
  obtain ⟨_, o, ho, hd⟩ := fl.2.2.1.mem (List.mem_filterMap.mpr (by
    obtain ⟨env, he, z⟩ := List.mem_filterMap.mp hb
    exact ⟨env, List.mem_cons_of_mem _ he, z⟩))
  exact ⟨o, ho, hd⟩
end
end L2
namespace L2
open PySem PySem.Spec PyProof.Rows
abbrev tailV : List Value := [.type "ValueError", .type "Exception", .type "BaseException", .type "object"]
theorem XCls.obj {K : PySem.W.Frag} {h : Heap} {C : Addr} (x : XCls K C) (k : K.In h) : ∃ (bm : List Value) (N : Addr) (nm q : Str) (bs : List Value) (hdct : Bool) (sn : List Str) (sub : List Value) (ab : Bool) (col : Option Bool) (dd : Option Addr) (k0 k1 k2 k3 k5 : Option Value) (mN : Str → Option Value),
    h.get? C = some (excClassObj nm q C N bs bm hdct sn sub ab col dd k0 k1 k2 k3 k5 "ValueError.__new__") ∧ h.Ns N mN ∧ mN "__init__" = none ∧ OwnTail h tailV bm := by
  have z := x.isx
  unfold PySem.W.excIn at z
  split at z
  case h_2 => cases z
  case h_1 dd cd sl ho =>
    split at z
    case h_2 => cases z
    case h_1 C' bm k0 k1 k2 k3 n k5 hm hs =>
      simp only [Bool.and_eq_true, beq_iff_eq, Bool.not_eq_true'] at z
      obtain ⟨⟨⟨⟨⟨e1, e2⟩, hdel⟩, ht⟩, hok⟩, hni⟩ := z
      subst e1
      subst e2
      obtain ⟨nm, bs, mro, ns, qn, hd, sn, sub, ab, col, del⟩ := cd
      dsimp only at hm hdel hok hni
      subst hm
      subst hdel
      obtain ⟨l⟩ := sl
      obtain rfl : l = [k0, k1, k2, k3, some (.builtin "ValueError.__new__"), k5] := hs
      have g := k _ _ ho
      have nn := PySem.W.isNs_of_in k hok
      exact ⟨bm, ns, nm, qn, bs, hd, sn, sub, ab, col, dd, k0, k1, k2, k3, k5, _, g, .of_isNs nn, PySem.W.nsMap_none_of_in k hok hni, PySem.W.tail_of_in k ht⟩
theorem ps_raise {X : Cx} {x : Str} {C : Addr} {E : XK} {np cpos pos : Pos} (T : Throws X E) (hc : X.calm = true) (hg : Gl X x) (hm : X.mg x = some (.ref C)) (xc : XCls X.K C) (hd : (x == ("__debug__" : Str)) = false := by decide) :
    PS X (.Raise (some (.Call (.Name x np) [] [] cpos)) none pos) (fun _ _ H => E (.ref C) none H) := by
  intro pins s σ H D I h
  obtain ⟨bm, N, nm, q, bs, hdct, sn, sub, ab, col, dd, k0, k1, k2, k3, k5, mN, hC, hN, hni, TL⟩ := xc.obj I.kIn
  refine wpAny_Raise_call_subT (C := C) (nm := nm) (q := q) (N := N) (bs := bs) (bm := bm) (hdct := hdct) (sn := sn) (sub := sub) (ab := ab) (col := col) (dd := dd) (k0 := k0) (k1 := k1) (k2 := k2) (k3 := k3) (k5 := k5) PySem.F.excBase_ValueError (mN := mN)
    (TL.hasType PySem.F.excBase_ValueError.hasBase) (I.ok.hd hc) rfl hni (ld_glob I hg hm ⟨rfl, ?_⟩ hd)
  exact evalArgs_empty ⟨rfl, Nat.zero_le _, hC, hN, TL, fun h' e mk => T pins σ H s h' e _ _ I mk h⟩
section
variable {P : Program} {w : World} {K : PySem.W.Frag} {mg : Str → Option Value} {base : Heap}
theorem Fun.okX {x qual : Str} {st : Stmt} {f : Addr} {fd : FuncData} {N ps : List Str} {k : Nat} {sp : Sp} (F : Fun K x qual st f fd) (S : FnScope N ps (defScope st)) (len : ∀ vs H Q E, sp vs H Q E → vs.length = ps.length)
    (hbody : ∀ (cdv : Value) (A : Around) (outer : List Env) (s : Shared) (H : Hp) (vs : List V) (Q : VK) (E : XK), Room k (A.deeper (envOfC qual (defScope st) s.heap.objs.size f cdv)) → sp vs H Q E →
      ∃ t, PSs (cxOf (CXr P w) P w K mg base N qual (defScope st) f cdv A outer s H E) (defBody st) t ∧ t { nx := fun _ H' => Q .non H', rt := Q } (start N vs) H) : FnOk P w K mg base (CXr P w) (k + 1) f fd ps sp := by
  obtain ⟨oc, od, kV, doc, pm, an, cdv, ct, osl, rfl, lk, hcd⟩ := F.ex
  exact fn_of lk hcd S len fun A outer s H vs Q E hr hsp => hbody cdv A outer s H vs Q E hr hsp
def PS0 (X : Cx) (st : Stmt) (t : TS) : Prop :=
  ∀ (s : Shared) (σ : St) (H : Hp) (D : Ends), Inv X [] σ H s → t D σ H → wpAny (model X.prog X.w) X.A (exec st X.env) (SP X [] D) X.xe s
def PSs0 (X : Cx) (st : List Stmt) (t : TS) : Prop :=
  ∀ (s : Shared) (σ : St) (H : Hp) (D : Ends), Inv X [] σ H s → t D σ H → wpAny (model X.prog X.w) X.A (execs st X.env) (SP X [] D) X.xe s
theorem PSs.zero {X : Cx} {st : List Stmt} {t : TS} (h : PSs X st t) : PSs0 X st t := fun s σ H D I q => h [] s σ H D I q
theorem PS.zero {X : Cx} {st : Stmt} {t : TS} (h : PS X st t) : PS0 X st t := fun s σ H D I q => h [] s σ H D I q
theorem Fun.ok0 {x qual : Str} {st : Stmt} {f : Addr} {fd : FuncData} {N ps : List Str} {k : Nat} {sp : Sp} (F : Fun K x qual st f fd) (S : FnScope N ps (defScope st)) (len : ∀ vs H Q E, sp vs H Q E → vs.length = ps.length)
    (hbody : ∀ (cdv : Value) (A : Around) (outer : List Env) (s : Shared) (H : Hp) (vs : List V) (Q : VK) (E : XK), Room k (A.deeper (envOfC qual (defScope st) s.heap.objs.size f cdv)) → sp vs H Q E →
      ∃ t, PSs0 (cxOf CX0 P w K mg base N qual (defScope st) f cdv A outer s H E).nox (defBody st) t ∧ t { nx := fun _ H' => Q .non H', rt := Q } (start N vs) H) : FnOk P w K mg base CX0 (k + 1) f fd ps sp := by
  obtain ⟨oc, od, kV, doc, pm, an, cdv, ct, osl, rfl, lk, hcd⟩ := F.ex
  refine ⟨len, fun A outer s H args us vs Q E hr e0 hb r hsp => ?_⟩
  have hl := len _ _ _ _ hsp
  have KX : K.In s.heap := e0.mod.kin.keeps fun b o e => (e0.bs b o e).1
  have lim : s.heap.NoLimit := e0.mod.nolimit.keeps fun b o e => (e0.bs b o e).1
  have hkind : ∀ y ∈ ps.zip us, (defScope st).names.lookup y.1 = some .local ∨ ((defScope st).names.lookup y.1 = some .cell ∧ ((cellsFrom (s.heap.objs.size + 1) (defScope st).names []).lookup y.1).isSome = true) := fun ⟨n, v⟩ hy => by
    rcases S.par n (List.of_mem_zip hy).1 with q | q
    · exact .inl q
    · exact .inr ⟨q, PySem.W.cellsFrom_some _ _ _ (.inl q)⟩
  refine codeAny_call_function hr.depth (KX _ _ lk) rfl S.co S.gen rfl (PySem.W.codeRec_of KX hcd) (hb _ _ _ _ ?_)
  refine wpAny_newFunctionEnv_cells S.kind hkind fun env he s1 x => ?_
  subst he
  refine ⟨lim.keeps x.toInCall.keep, codeAny_func ?_⟩
  obtain ⟨t, ht, hq⟩ := hbody cdv A outer s H vs Q E (hr.deeper _) hsp
  have I : Inv (cxOf CX0 P w K mg base N qual (defScope st) f cdv A outer s H E) [] (start N vs) H s1 := inv_start S hr.hd e0 hl r x
  refine wpAny_mono (ht s1 (start N vs) H _ (I.wish _) hq) (fun fl s' hs => ?_) fun e s' hs => False.elim hs
  have hs := SP.unwish hs
  have fin : ∀ {σ' : St} {H' : Hp} {v : V} {u : Value}, Inv (cxOf CX0 P w K mg base N qual (defScope st) f cdv A outer s H E) [] σ' H' s' → RelV v u → Q v H' → CE outer P w H s Q u s' :=
    fun {σ' H' v u} J rv q => ⟨v, H', J.os, J.bare, J.base, J.hok, rv, q⟩
  cases fl with
  | ret u =>
    obtain ⟨v, σ', H', J, rv, q⟩ := hs
    exact fin J rv q
  | next =>
    obtain ⟨σ', H', J, q⟩ := hs
    exact fin (v := V.non) (u := Value.none) J rfl q
  | brk =>
    obtain ⟨_, _, _, q⟩ := hs
    exact False.elim q
  | cont =>
    obtain ⟨_, _, _, q⟩ := hs
    exact False.elim q
end
end L2
namespace L2
open PySem PySem.Spec PySem.Calls PyProof.Rows PySem.W Builtin Builtin.ObjectAttr Builtin.Getset_descriptor
def IsX (a : Addr) (cls : Value) (h : Heap) : Prop := ∃ o, h.get? a = some o ∧ o.cls = cls
theorem IsX.ty {a : Addr} {cls : Value} {h : Heap} {M : Model} (x : IsX a cls h) : Looks M h (typeOf (.ref a)) cls := by
  obtain ⟨o, e, rfl⟩ := x
  exact (Looks.ld e).andThen .now
structure XTy (K : Frag) (D : Addr) : Prop where
  ga : findIn K (.ref D) "__getattribute__" = some (some (.builtin "BaseException.__getattribute__"))
  gt : findIn K (.ref D) "__getattr__" = some none
  mb : mroIn K D (.type "BaseException") = some true
  cl : (clsIn K D).isSome = true
  fi : findIn K (.ref D) "__class__" = some (some (.builtin "object.__class__"))
  sp : specialIn K (.builtin "object.__class__") "__get__" = some (some (.builtin "getset_descriptor.__get__"))
  tk : takesIn K (.builtin "object.__class__") = some true
  mr : mroIn K D (.type "object") = some true
section
variable {prog : Program} {w : World} {A : Around} {E : Value → Shared → Prop} {s : Shared} {K : Frag} {a D : Addr}
theorem looks_descr {M : Model} {h : Heap} (k : K.In h) (x : XTy K D) : Looks M h (find (.ref a) (.ref D) "__class__") (.bind (.builtin "getset_descriptor.__get__") (.builtin "object.__class__")) := by
  have l3 : Looks M h (dataDescriptor? (some (.builtin "object.__class__")) (some (.builtin "getset_descriptor.__get__"))) (some (.builtin "getset_descriptor.__get__", .builtin "object.__class__")) := (looks_takesIn (M := M) k x.tk).andThen .now
  exact (looks_findIn (M := M) k x.fi).andThen ((looks_specialIn (M := M) k x.sp).andThen (l3.andThen (Looks.tag .now)))
theorem descr_ret {R : Result → Shared → Prop} (k : K.In s.heap) (i : IsX a (.ref D) s.heap) (hm : mroIn K D (.type "object") = some true) (h : R (.ok (.ret (.ref D))) s) :
    codeAny (model prog w) A (.call (.builtin "getset_descriptor.__get__") ⟨[.builtin "object.__class__", .ref a, .ref D], []⟩) R s := by
  obtain ⟨hh, gg, dr, tt, os⟩ := s
  have ly := i.ty (M := model prog w)
  have lm := looks_mroIn (M := model prog w) k hm
  refine codeAny_call_builtin KF.slot_gs.plain KF.entry_gs (KF.slot_gs.check _ _ _ _ _ _ _ _ KF.type_class (KF.args_gs _ _ _) ?_)
  unfold Builtin.«getset_descriptor.__get__»
  unfold descrGet
  rw [dga_obj]
  refine wpAny_bind (wpAny_pure ?_)
  unfold descrGetter
  unfold descrCheckInstance descrNameAndClass
  unfold isInstance
  simp only [KF.owner_class]
  repeat lk
  refine ⟨Code.quiet_builtin _ (by decide +kernel), codeAny_builtin KF.entry_class ?_⟩
  unfold Builtin.«object.__class__»
  unfold shownTypeOf
  repeat lk
  exact h
theorem exc_body {tk : Tok} {Q : Fin → Shared → Prop} (k : K.In s.heap) (i : IsX a (.ref D) s.heap) (x : XTy K D) (h : Q (.done (.ret (.ref D))) s) :
    wpAny (model prog w) A (Builtin.«object.__getattribute__» ⟨[.ref a, .str "__class__" tk], []⟩) Q E s := by
  obtain ⟨hh, gg, dr, tt, os⟩ := s
  have ly := i.ty (M := model prog w)
  have lf := looks_descr (M := model prog w) (a := a) k x
  have e1 : slotArgs "__getattribute__" 1 ⟨[.ref a, .str "__class__" tk], []⟩ = pure (.ref a, [.str "__class__" tk]) := rfl
  unfold Builtin.«object.__getattribute__»
  rw [e1]
  refine wpAny_bind (wpAny_pure ?_)
  refine wpAny_bind (wpAny_pure (wpAny_bind (ly.at (wpAny_bind (lf.at ?_)))))
  show wpAny _ _ (bindTo (.builtin "getset_descriptor.__get__") (.builtin "object.__class__") (.ref a) (.ref D)) _ _ _
  unfold bindTo
  first
    | exact wpAny_bind (wpAny_holding (wpAny_call (descr_ret k i x.mr (wpAny_pure h))))
    | exact wpAny_bind (wpAny_call (descr_ret k i x.mr (wpAny_pure h)))
    | exact wpAny_pure ⟨Code.quiet_call _ _, descr_ret k i x.mr h⟩
theorem exc_check {nameV : Value} {Q : Unit → Shared → Prop} {M : Model} (k : K.In s.heap) (i : IsX a (.ref D) s.heap) (x : XTy K D) (hq : Q () s) : wpAny M A (checkBuiltinCall "BaseException.__getattribute__" ⟨[.ref a, nameV], []⟩) Q E s := by
  obtain ⟨hh, gg, dr, tt, os⟩ := s
  have ly := i.ty (M := M)
  have lm := looks_mroIn (M := M) k x.mb
  have hki : builtinKind "BaseException.__getattribute__" = some .slot := by decide +kernel
  have hsp : splitId "BaseException.__getattribute__" = some ("BaseException", "__getattribute__") := by decide +kernel
  have ha := PySem.F.args_bexc_ga (.ref a) nameV
  simp only [checkBuiltinCall, hki, hsp]
  unfold isInstance
  refine wpAny_bind (wpAny_bind (ly.at (lm.at ?_)))
  repeat (any_goals (first | assumption | wp_step))
theorem descr_class {Q : Option Value → Shared → Prop} (k : K.In s.heap) (i : IsX a (.ref D) s.heap) (x : XTy K D) (h : Q (some (.ref D)) { s with toks := s.toks + 1 }) : wpAny (model prog w) A (getAttr? (.ref a) "__class__") Q E s := by
  obtain ⟨hh, gg, dr, tt, os⟩ := s
  have ly := i.ty (M := model prog w)
  have lga := looks_findIn (M := model prog w) k x.ga
  have lgt := looks_findIn (M := model prog w) k x.gt
  unfold getAttr? getAttrBy?
  unfold getAttrBy
  refine wpAny_bind (wpAny_mkText (wpAny_bind (wpAny_attempt (wpAny_holding (wpAny_bind (ly.at (wpAny_bind (lga.at ?_))))))))
  show wpAny _ _ (getAttrByItsOwn _ _ _ _ _ _) _ _ _
  unfold getAttrByItsOwn
  refine wpAny_bind (lgt.at ?_)
  refine wpAny_bind (wpAny_attempt (wpAny_holding ?_))
  show wpAny _ _ (boundAndCalled _ _ _) _ _ _
  unfold boundAndCalled
  rw [PySem.F.attr_ValueError.ga.bind (.ref a)]
  refine wpAny_bind (wpAny_pure (wpAny_call (codeAny_call_builtin PySem.F.attr_ValueError.ga.plain PySem.F.entry_bexc_ga (exc_check (s := ⟨hh, gg, dr, tt + 1, os⟩) k i x (exc_body (s := ⟨hh, gg, dr, tt + 1, os⟩) k i x ?_)))))
  refine handed_on rfl ?_
  exact wpAny_pure h
theorem kitx_exc (x : XTy K D) : KitX K (.ref a) (.ref D) (IsX a (.ref D)) where
  ty := fun _ _ _ i => i.ty
  it := fun M h k _ => by
    obtain ⟨cd, hc⟩ := Option.isSome_iff_exists.mp x.cl
    unfold clsIn at hc
    split at hc
    case h_2 => cases hc
    case h_1 c' d' cd' sl' ho =>
      intro A' Q' E' s' k' q
      unfold isType
      unfold loadHead
      exact wpAny_bind (wpAny_loadPart (k' _ _ (k _ _ ho)) (wpAny_pure q))
  ne := fun h tp dd its n sl k htp => by
    obtain ⟨cd, hc⟩ := Option.isSome_iff_exists.mp x.cl
    refine Bool.eq_false_iff.mpr fun q => ?_
    obtain rfl : D = tp := Value.ref.inj (beq_iff_eq.mp q)
    unfold clsIn at hc
    split at hc
    case h_2 => cases hc
    case h_1 c' d' cd' sl' ho =>
      have z := (k _ _ ho).symm.trans htp
      cases z
  ca := fun k i q => descr_class k i x q
end
section
variable {X : Cx}
theorem call_isX {K : Frag} (hK : X.K = K) : CallR X (.builtin "isinstance") (fun xs H Q => ∃ (a D : Addr) (c : V) (u : Value) (b : Bool), xs = [.ref a, c] ∧ (∀ u', RelV c u' → u' = u) ∧ H a = some (.ext (IsX a (.ref D))) ∧ XTy K D ∧ kitOne K (.ref D) u = some b ∧ Q (.bl b) H) := by
  subst hK
  rintro pins s σ H vs us Q I r ⟨a, D, c, u, b, rfl, hu, ha, xt, e, q⟩
  obtain ⟨u1, u2, rfl, r1, r2⟩ := vals2 r
  obtain rfl : u1 = Value.ref a := r1
  obtain rfl := hu u2 r2
  obtain ⟨i, _⟩ := (show ObjOk X.prog X.w H s.heap a (.ext (IsX a (.ref D))) from I.hok a _ ha)
  exact kia_one (kitx_exc xt) I.kIn i e (fun z => nomatch z) fun tk => ⟨.bl b, H, I.tok _, rfl, q⟩
theorem call_isXT {K : Frag} (hK : X.K = K) : CallR X (.builtin "isinstance") (fun xs H Q => ∃ (a D t : Addr) (cs : List Addr) (b : Bool), xs = [.ref a, .ref t] ∧ H a = some (.ext (IsX a (.ref D))) ∧ H t = some (.tup (cs.map V.ref)) ∧ XTy K D ∧ kitAny K (.ref D) (cs.map Value.ref) = some b ∧ Q (.bl b) H) := by
  subst hK
  rintro pins s σ H vs us Q I r ⟨a, D, t, cs, b, rfl, ha, ht, xt, e, q⟩
  obtain ⟨u1, u2, rfl, r1, r2⟩ := vals2 r
  obtain rfl : u1 = Value.ref a := r1
  obtain rfl : u2 = Value.ref t := r2
  obtain ⟨i, _⟩ := (show ObjOk X.prog X.w H s.heap a (.ext (IsX a (.ref D))) from I.hok a _ ha)
  obtain ⟨_, its, rv, o, ho, hc, n, hd⟩ := (show ObjOk X.prog X.w H s.heap t (.tup (cs.map V.ref)) from I.hok t _ ht)
  have hits : ∀ (cs : List Addr) (its : List Value), Vals (cs.map V.ref) its → its = cs.map Value.ref := by
    intro cs
    induction cs with
    | nil => intro its r; cases r; rfl
    | cons c cs ih => intro its r; cases r with | cons r1 r2 => rw [ih _ r2]; cases r1; rfl
  obtain rfl := hits cs its rv
  obtain ⟨oc, od, oda, osl⟩ := o
  dsimp only at hc hd
  subst hc
  subst hd
  exact kia_tup (kitx_exc xt) I.kIn i ho e (fun z => nomatch z) fun tk => ⟨.bl b, H, I.tok _, rfl, q⟩
end
end L2
namespace L2
open PySem PySem.Spec PyProof.Rows
abbrev Cx.marked (X : Cx) (a : Addr) : Cx := { X with A := X.A.mark (some (.ref a)), calm := false, xe := fun _ _ => False }
def XeT (X : Cx) (G : Value → Hp → Prop) (e : Value) (s' : Shared) : Prop :=
  ∃ (a : Addr) (cls a0 : Value) (σ' : St) (H' : Hp) (B : Heap), e = .ref a ∧ Inv X [] σ' H' s' ∧ Heap.FlyingW B X.stack a cls a0 s'.heap ∧ (∀ b o, X.s₀.heap.get? b = some o → b ∉ X.fs → ∃ o', B.get? b = some o') ∧
    (∀ b u, H' b = some u → ∃ o', B.get? b = some o') ∧ G cls H'
section
variable {X : Cx} {σ : St} {H : Hp} {s : Shared} {a : Addr} {h' : Heap} {B : Heap}
theorem Inv.mark (I : Inv X [] σ H s) (a : Addr) : Inv (X.marked a) [] σ H s :=
  ⟨⟨I.ok.mod, I.ok.kind, I.ok.glob, I.ok.blt, I.ok.above, I.ok.inj, I.ok.has, I.ok.cab, fun z => Bool.noConfusion (show false = true from z), I.ok.frames, I.ok.stk, I.ok.exf, I.ok.bs, I.ok.bsz, I.ok.noex, I.ok.exfs, I.ok.funs, I.ok.frf⟩, I.os, I.bare, I.base, I.loc, I.cell, I.free, I.freeC, I.pin, I.hok, I.len⟩
theorem Inv.unmark (ok : X.Ok) (I : Inv (X.marked a) [] σ H s) : Inv X [] σ H s := ⟨ok, I.os, I.bare, I.base, I.loc, I.cell, I.free, I.freeC, I.pin, I.hok, I.len⟩
theorem Inv.fly (hex : X.ex = []) (hpn : X.pn = []) (I : Inv X [] σ H s) (b1 : B.StaysIn s.heap) (b2 : B.StaysIn h') (up : s.heap.UpToSlots h') (hB : ∀ b o, X.s₀.heap.get? b = some o → b ∉ X.fs → ∃ o', B.get? b = some o')
    (hH : ∀ b u, H b = some u → ∃ o', B.get? b = some o') : Inv X [] σ H { s with heap := h' } := by
  have cellK : ∀ c v, s.heap.IsCell c v → h'.IsCell c v := fun c v ⟨o, ho, hd⟩ => by
    obtain ⟨sl, e⟩ := up c o ho (fun vs z => by rw [hd] at z; cases z)
    exact ⟨_, e, hd⟩
  refine ⟨I.ok, I.os, I.bare, ?_, ?_, fun x c e => let ⟨v, z⟩ := I.cell x c e; ⟨v, cellK c v z⟩, I.free, I.freeC, fun p hp => ?_, hok_fly I.hok b1 b2 hH, I.len⟩
  · rw [hex]
    refine un_fly (by have := I.base; rw [hex] at this; exact this) b1 b2 up (fun b hb => ?_) hB
    obtain ⟨_, o, ho, hd⟩ := I.funs.mem hb
    exact ⟨o, ho, hd⟩
  · obtain ⟨m, hn, hl⟩ := I.loc
    refine ⟨m, up.ns hn, fun i x v e1 e2 e3 => ?_⟩
    obtain ⟨u, r, l⟩ := hl i x v e1 e2 e3
    refine ⟨u, r, ?_⟩
    rcases l with l | ⟨k, c, e, z⟩
    · exact .inl l
    · exact .inr ⟨k, c, e, cellK _ _ z⟩
  · rw [hpn] at hp
    exact absurd hp (by simp)
theorem Inv.trackX {o : HO} (hex : X.ex = []) (hpn : X.pn = []) (I : Inv X [] σ H s) (n : H a = none) (n0 : X.s₀.heap.get? a = none) (nL : a ≠ X.env.locals) (nC : ∀ x c, X.env.cells.lookup x = some c → c ≠ a) (new : ObjOk X.prog X.w (upd H a o) s.heap a o) :
    Inv X [] σ (upd H a o) s := by
  have ne : ∀ b u, H b = some u → b ≠ a := fun b u q z => by rw [z, n] at q; cases q
  have ne0 : ∀ b u, X.s₀.heap.get? b = some u → b ≠ a := fun b u q z => by rw [z, n0] at q; cases q
  refine ⟨I.ok, I.os, I.bare, ⟨I.base.keep, I.base.slot, fun b u q nb hx => ?_, I.base.there, fun b xs q => ?_, fun b ob u q => ?_, fun b ps q => ?_⟩, I.loc, I.cell, ?_, fun x c e => ?_, fun p hp => ?_, fun b u q => ?_, I.len⟩
  · rw [upd_ne (ne0 b u q)]; exact I.base.free b u q nb hx
  · have z := I.base.tups b xs q; rw [upd_ne (ne b _ z)]; exact z
  · have z := I.base.frzs b ob u q; rw [upd_ne (ne b _ z)]; exact z
  · obtain ⟨more, z⟩ := I.base.tbls b ps q; exact ⟨more, by rw [upd_ne (ne b _ z)]; exact z⟩
  · rw [upd_ne (Ne.symm nL)]; exact I.free
  · rw [upd_ne (nC x c e)]; exact I.freeC x c e
  · rw [hpn] at hp
    exact absurd hp (by simp)
  · by_cases z : b = a
    · subst z; rw [upd_same] at q; cases q; exact new
    · rw [upd_ne z] at q
      exact (I.hok b u q).stay (fun _ _ _ r => r) (fun c r => by rw [upd_ne (ne c _ r)]; exact r) fun c xs r => by rw [upd_ne (ne c _ r)]; exact r
theorem Inv.unbind {i : Nat} {n : Str} {pins : List (Addr × Obj)} {M : Model} {A : Around} {E : Value → Shared → Prop} {pos : Pos} {Q : Unit → Shared → Prop} (I : Inv X pins σ H s) (hN : X.N.Nodup) (hi : X.N[i]? = some n) (hk : X.env.scope.names.lookup n = some .local) (hf : X.fn n = true)
    (h : ∀ s', Inv X pins (σ.set i none) H s' → Q () s') : wpAny M A (do bindName X.env n .none; unbindBehindTheSuite X.env n pos) Q E s := by
  have hcls : (X.env.scope.kind == .class || (X.env.scope.kind == .module && X.env.locals != X.env.globals)) = false := by rw [I.ok.kind]; rfl
  refine wpAny_bind (wpAny_bindName (store_ok2 (v := V.non) I hN hi (.inl hk) rfl (fun s1 I1 _ => ?_) (.inl hf)))
  unfold unbindBehindTheSuite
  refine wpAny_onRaise ?_
  obtain ⟨m, hn, hl⟩ := id I1.loc
  have hiσ : i < σ.length := by rw [I.len]; exact (List.getElem?_eq_some_iff.mp hi).1
  obtain ⟨u, ru, lk⟩ := hl i n .non hi (by rw [List.getElem?_set_self hiσ]) (.inl hk)
  have hm : m n = some u := by
    rcases lk with ⟨_, e⟩ | ⟨k, _⟩
    · exact e
    · have hk' : X.env.kindOf n = some .local := hk
      rw [hk'] at k
      rcases k with k | k <;> cases k
  refine wpAny_unbindName_local hk hn hm hcls fun h2 u2 hn2 hs2 => ?_
  obtain ⟨oL, _, _, hoL, _⟩ := id hn
  have other : ∀ b o, s1.heap.get? b = some o → b ≠ X.env.locals → h2.get? b = some o := fun b o q nb => (hs2.2 b nb).trans q
  have gt : ∀ b o, X.s₀.heap.get? b = some o → b ≠ X.env.locals := fun b o q => Nat.ne_of_lt (Nat.lt_of_lt_of_le (Heap.lt_size q) I.ok.above)
  refine h _ ⟨I1.ok, I1.os, I1.bare, ⟨fun b o q nb hb hx => other b o (I1.base.keep b o q nb hb hx) (gt b o q), fun b o q nb hb hx => ?_, I1.base.free, fun b o q hx => ?_, I1.base.tups, I1.base.frzs, I1.base.tbls⟩, ⟨_, hn2, fun j y v e1 e2 e3 => ?_⟩, fun y c e => ?_, I1.free, I1.freeC, fun p hp => ?_, fun b ob e => ?_, by simpa using I.len⟩
  · obtain ⟨sl, e⟩ := I1.base.slot b o q nb hb hx
    exact ⟨sl, other b _ e (gt b o q)⟩
  · obtain ⟨o', e⟩ := I1.base.there b o q hx
    exact ⟨o', other b _ e (gt b o q)⟩
  · have hj : j ≠ i := by
      rintro rfl
      rw [List.getElem?_set_self hiσ] at e2
      cases e2
    rw [List.getElem?_set_ne (Ne.symm hj)] at e2
    obtain ⟨u', r', q⟩ := hl j y v e1 (by rw [List.getElem?_set_ne (Ne.symm hj)]; exact e2) e3
    refine ⟨u', r', ?_⟩
    rcases q with ⟨k, e⟩ | ⟨k, c, e, o, ho, hd⟩
    · refine .inl ⟨k, ?_⟩
      have : y ≠ n := fun e => hj (nodup_ix hN e1 (e ▸ hi))
      show (if y = n then u2 else m y) = some u'
      rw [if_neg this]
      exact e
    · exact .inr ⟨k, c, e, o, other c o ho (I1.cne y c e), hd⟩
  · obtain ⟨v, o, ho, hd⟩ := I1.cell y c e
    exact ⟨v, o, other c o ho (I1.cne y c e), hd⟩
  · obtain ⟨e, n', ne, nf, d⟩ := I1.pin p hp
    exact ⟨other _ _ e ne, n', ne, nf, d⟩
  · refine (I1.hok b ob e).stay (fun c w' hc q => other c w' q ?_) (fun _ q => q) fun _ _ q => q
    rintro rfl
    rcases hc with rfl | hc
    · rw [I1.free] at e; cases e
    · rw [I1.free] at hc; cases hc
end
section
variable {X : Cx}
theorem passes_try {G : Value → Hp → Prop} (hst : X.stack = X.env :: X.outer) (hf : X.env.frame = some X.env.locals) (hex : X.ex = []) (hpn : X.pn = []) : Passes (CXr X.prog X.w) (X.wish (XeT X G)) (fun cls _ H' => G cls H') := by
  rintro pins σ H s e s' I ⟨a, cls, a0, H', B, rfl, hos, hg, un, hok, fl, inB, inH, hE⟩
  have J := (I.unwish.pins_of (pins' := []) (fun p hp => absurd hp (by simp))).call' (s' := s') (H' := H') (ch := []) hos un hok hg (fun b z => absurd z (by simp))
  refine ⟨a, cls, a0, σ, H', B, rfl, J, fl, fun b o q hb => ?_, inH, hE⟩
  obtain ⟨o', e'⟩ := I.base.there b o q (by show b ∉ X.ex; rw [hex]; simp)
  refine inB b o' e' fun z => ?_
  have z' : b ∈ frs X.stack := z
  rw [hst] at z'
  rcases (mem_frs hf).mp z' with z' | z'
  · exact absurd z' (Nat.ne_of_lt (Nat.lt_of_lt_of_le (Heap.lt_size q) I.ok.above))
  · exact hb z'
def tTry (K : PySem.W.Frag) (C : Addr) (len i : Nat) (tb : (Value → Hp → Prop) → TS) (ts : Addr → TS) : TS := fun D σ H =>
  tb (fun cls H' => PySem.W.exmOne K cls (.ref C) = some true ∧ ∀ a, H' a = none → ts a { nx := fun σ' H'' => D.nx (σ'.set i none) H'', rt := D.rt, bk := fun σ' H'' => D.bk (σ'.set i none) H'', ct := fun σ' H'' => D.ct (σ'.set i none) H'' }
    ((List.replicate len none).set i (some (.ref a))) (upd H' a (.ext (IsX a cls)))) D σ H
theorem ps0_try {body suite : List Stmt} {b0 : Stmt} {x n : Str} {np hpos pos : Pos} {C : Addr} {i : Nat} {tb : (Value → Hp → Prop) → TS} {ts : Addr → TS} (hst : X.stack = X.env :: X.outer) (hf : X.env.frame = some X.env.locals) (hex : X.ex = []) (hpn : X.pn = [])
    (hN : X.N.Nodup) (hi : X.N[i]? = some n) (hk : X.env.scope.names.lookup n = some .local) (hfn : X.fn n = true) (hg : Gl X x) (hm : X.mg x = some (.ref C)) (hb : ∀ G, PSs (X.wish (XeT X G)) body (tb G)) (hs : ∀ a, PSs (X.marked a) (b0 :: suite) (ts a)) (hd : (x == ("__debug__" : Str)) = false := by decide) :
    PS0 X (.Try body [.ExceptHandler (some (.Name x np)) (some n) (b0 :: suite) hpos] [] [] pos) (tTry X.K C X.N.length i tb ts) := by
  intro s σ H D I h
  refine wpAny_Try_except (wpAny_mono (hb _ [] s σ H D (I.wish _) h) (fun fl s1 hq => ?_) fun e s1 hx => ?_)
  · have hq := SP.unwish hq
    cases fl with
    | next =>
      obtain ⟨σ', H', J, q⟩ := hq
      exact pss_nil [] s1 σ' H' D J q
    | brk => exact hq
    | cont => exact hq
    | ret u => exact hq
  · obtain ⟨a, cls, a0, σ', H', B, rfl, J, fl, inB, inH, hc, hG⟩ := hx
    rw [hst] at fl
    refine wpAny_looks_onW (by rw [J.ok.frames, hst]) hf fl fun h4 held up4 => ?_
    refine wpAny_landsW held fun h5 fl5 up5' => ?_
    have up5 := up4.trans up5'
    have J5 : Inv X [] σ' H' { s1 with heap := h5 } := J.fly hex hpn fl.1 fl5.1 up5 inB inH
    refine wpAny_handleBy_cons (codeAny_handlers_test (ld_glob (X := X.marked a) (J5.mark a) hg hm ?_ hd)) (by intro q; cases q)
    have kin : X.K.In h5 := J5.kIn
    obtain ⟨ob, hob, hobc⟩ := fl5.there
    have isx : IsX a cls h5 := ⟨ob, hob, hobc⟩
    refine (PySem.W.exm_one kin isx.ty hc).here ?_
    refine codeAny_handlers_suite_as ?_
    refine lands_againW fl5 fun h6 fl6 up6 => ?_
    have J6 : Inv X [] σ' H' { s1 with heap := h6 } := J.fly hex hpn fl.1 fl6.1 (up5.trans up6) inB inH
    obtain ⟨oe, ws, hoe, hoec, hoed, _⟩ := fl6.first
    have na : H' a = none := by
      cases z : H' a with
      | none => rfl
      | some u =>
        obtain ⟨o', e'⟩ := inH a u z
        have := fl6.2.1
        rw [e'] at this
        cases this
    have nL : a ≠ X.env.locals := fun z => by
      obtain ⟨m, ⟨o, es, ep, ho, hd', _⟩, _⟩ := J6.loc
      have ho : h6.get? X.env.locals = some o := ho
      rw [← z, hoe] at ho
      cases ho
      rw [hoed] at hd'
      cases hd'
    have n0 : X.s₀.heap.get? a = none := by
      cases z : X.s₀.heap.get? a with
      | none => rfl
      | some u =>
        by_cases ha : a ∈ X.fs
        · obtain ⟨_, o, ho, hd'⟩ := J6.funs.mem ha
          have ho : h6.get? a = some o := ho
          rw [hoe] at ho
          cases ho
          exact absurd hoed (hd' _)
        · obtain ⟨o', e'⟩ := inB a u z ha
          have := fl6.2.1
          rw [e'] at this
          cases this
    have nC : ∀ x c, X.env.cells.lookup x = some c → c ≠ a := fun x c e z => by
      obtain ⟨v, o, ho, hd'⟩ := J6.cell x c e
      have ho : h6.get? c = some o := ho
      rw [z, hoe] at ho
      cases ho
      rw [hoed] at hd'
      cases hd'
    have isx6 : IsX a cls h6 := ⟨oe, hoe, hoec⟩
    have J7 : Inv X [] σ' (upd H' a (.ext (IsX a cls))) { s1 with heap := h6 } := J6.trackX hex hpn na n0 nL nC ⟨isx6, ⟨oe, hoe⟩, fun h1 h2 ⟨o, e, c⟩ k => ⟨o, k o e, c⟩⟩
    have J8 : Inv X [] (List.replicate X.N.length none) (upd H' a (.ext (IsX a cls))) { s1 with heap := h6 } := J7.weak (by rw [List.length_replicate, J7.len]) fun j v e => by
      rw [List.getElem?_replicate] at e
      split at e <;> cases e
    refine store_ok2 (X := X.marked a) (v := V.ref a) (J8.mark a) hN hi (.inl hk) rfl (fun s9 J9 _ => ?_) (.inl hfn)
    refine wpAny_mono (hs a [] s9 _ _ _ J9 (hG a na)) (fun fl' s10 hq => ?_) fun _ _ z => False.elim z
    show wpAny _ X.A (do bindName X.env n .none; unbindBehindTheSuite X.env n hpos) _ _ s10
    cases fl' with
    | next =>
      obtain ⟨σ2, H2, K2, q⟩ := hq
      exact (K2.unmark I.ok).unbind hN hi hk hfn fun s' K3 => ⟨_, H2, K3, q⟩
    | brk =>
      obtain ⟨σ2, H2, K2, q⟩ := hq
      exact (K2.unmark I.ok).unbind hN hi hk hfn fun s' K3 => ⟨_, H2, K3, q⟩
    | cont =>
      obtain ⟨σ2, H2, K2, q⟩ := hq
      exact (K2.unmark I.ok).unbind hN hi hk hfn fun s' K3 => ⟨_, H2, K3, q⟩
    | ret u =>
      obtain ⟨v, σ2, H2, K2, r, q⟩ := hq
      exact (K2.unmark I.ok).unbind hN hi hk hfn fun s' K3 => ⟨v, _, H2, K3, r, q⟩
end
end L2
namespace L2
open PySem PySem.Spec PyProof.Rows
structure CalX (P : Program) (w : World) (K : PySem.W.Frag) (mg : Str → Option Value) (base : Heap) (n : Nat) (x : Str) (ps : List Str) (sp : Sp) (g : Addr) (gd : FuncData) : Prop where
  ok : FnOk P w K mg base (CXr P w) n g gd ps sp
  bi : Binds K gd ps []
  kp : PySem.W.keepIn K (.ref g) = true
  at_ : mg x = some (.ref g)
theorem CalX.up {P : Program} {w : World} {K : PySem.W.Frag} {mg : Str → Option Value} {base : Heap} {n m : Nat} {x : Str} {ps : List Str} {sp : Sp} {g : Addr} {gd : FuncData} (c : CalX P w K mg base n x ps sp g gd) (h : n ≤ m) : CalX P w K mg base m x ps sp g gd := ⟨c.ok.mono h, c.bi, c.kp, c.at_⟩
theorem pe_callX {X : Cx} {n : Nat} {x : Str} {ps : List Str} {sp : Sp} {g : Addr} {gd : FuncData} {E : XK} {p pos : Pos} {e : Expr} {es : List Expr} {t : TA} (c : CalX X.prog X.w X.K X.mg X.base n x ps sp g gd) (hr : Room n X.A) (hx : Passes (CXr X.prog X.w) X E) (ha : PA X (e :: es) t) (hg : Gl X x := by rfl)
    (hd : (x == ("__debug__" : Str)) = false := by decide) (he : starEach (e :: es) X.env = (false, eval e X.env) :: starEach es X.env := by rfl) (hpl : (backTo pos (starEach es X.env)).any (·.1) = false := by rfl) :
    PE X (.Call (.Name x p) (e :: es) [] pos) (tCall sp [] E t) := pe_call c.ok hr hg c.at_ c.kp c.bi .nil hx ha hd he hpl
theorem PS.nox {X : Cx} {st : Stmt} {t : TS} (h : PS X.nox st t) : PS X st t := fun pins s σ H D I hw =>
  wpAny_mono (h pins s σ H D (I.wish _) hw) (fun _ _ q => q.unwish) fun _ _ z => False.elim z
theorem pss0_cons {X : Cx} {st : Stmt} {rest : List Stmt} {t u : TS} (hs : PS0 X st t) (hr : PSs0 X rest u) : PSs0 X (st :: rest) (tSeq t u) := by
  intro s σ H D I h
  refine wpAny_execs_cons (thn (hs s σ H _ I h) fun fl s1 hq => ?_)
  cases fl with
  | next =>
    obtain ⟨σ', H', J, q⟩ := hq
    exact hr s1 σ' H' D J q
  | brk => exact hq
  | cont => exact hq
  | ret u => exact hq
theorem vref {c : Addr} : ∀ u', RelV (.ref c) u' → u' = Value.ref c := fun _ h => h
theorem vty {T : String} : ∀ u', RelV (.ty T) u' → u' = Value.type T := fun _ h => h
end L2
namespace TD
open PySem L2
open Builtin.Int (intBits)
theorem TyOf.same {K : PySem.W.Frag} {H H' : Hp} {v : V} {t : Value} (s : Same H H') (h : TyOf K H v t) : TyOf K H' v t := by
  cases h with
  | non => exact .non
  | bl x => exact .bl x
  | int i => exact .int i
  | str x => exact .str x
  | flt x => exact .flt x
  | lst e => exact .lst (s _ _ e)
  | frz e => exact .frz (s _ _ e)
  | tup e => exact .tup (s _ _ e)
  | dK e => exact .dK (s _ _ e)
  | dT e => exact .dT (s _ _ e)
  | ins e a b c d f => exact .ins (s _ _ e) a b c d f
def Oth (H : Hp) (T : String) (v : V) : Prop := ∀ K : PySem.W.Frag, ∃ t, TyOf K H v t ∧ PySem.W.kitOne K t (.type T) = some false
theorem Oth.same {H H' : Hp} {T : String} {v : V} (s : Same H H') (h : Oth H T v) : Oth H' T v := fun K => let ⟨t, a, b⟩ := h K; ⟨t, TyOf.same s a, b⟩
theorem kit_bool_int {K : PySem.W.Frag} : PySem.W.kitOne K (.type "bool") (.type "int") = some true := by rfl
inductive IsW (H : Hp) (lo hi : Int) : V → Bool → Prop where
  | no {v : V} (h : Oth H "int" v) : IsW H lo hi v false
  | bl (c : Bool) : IsW H lo hi (.bl c) false
  | int (i : Int) : IsW H lo hi (.int i) (decide (lo ≤ i) && decide (i ≤ hi))
theorem IsW.same {H H' : Hp} {lo hi : Int} {v : V} {b : Bool} (s : Same H H') (h : IsW H lo hi v b) : IsW H' lo hi v b := by
  cases h with
  | no h => exact .no (h.same s)
  | bl c => exact .bl c
  | int i => exact .int i
theorem IsW.yes {H : Hp} {lo hi i : Int} (h1 : lo ≤ i) (h2 : i ≤ hi) : IsW H lo hi (.int i) true := by
  have h := IsW.int (H := H) (lo := lo) (hi := hi) i
  rw [decide_eq_true h1, decide_eq_true h2] at h
  exact h
theorem IsW.not {H : Hp} {lo hi i : Int} (h1 : i < lo ∨ hi < i) : IsW H lo hi (.int i) false := by
  have h := IsW.int (H := H) (lo := lo) (hi := hi) i
  have e : (decide (lo ≤ i) && decide (i ≤ hi)) = false := by
    rcases h1 with h1 | h1
    · rw [decide_eq_false (by omega)]; rfl
    · rw [decide_eq_false (p := i ≤ hi) (by omega), Bool.and_false]
  rw [e] at h
  exact h
inductive IsRow (H : Hp) : V → Bool → Prop where
  | no {v : V} (h : Oth H "tuple" v) : IsRow H v false
  | len {a : Addr} {xs : List V} (e : H a = some (.tup xs)) (hl : xs.length ≠ 2) : IsRow H (.ref a) false
  | two {a : Addr} {x y : V} {b c : Bool} (e : H a = some (.tup [x, y])) (hx : IsW H 0 1000000000 x b) (hy : IsW H 1 1000 y c) : IsRow H (.ref a) (b && c)
theorem IsRow.same {H H' : Hp} {v : V} {b : Bool} (s : Same H H') (h : IsRow H v b) : IsRow H' v b := by
  cases h with
  | no h => exact .no (h.same s)
  | len e hl => exact .len (s _ _ e) hl
  | two e hx hy => exact .two (s _ _ e) (hx.same s) (hy.same s)
inductive IsRows (H : Hp) : V → Bool → Prop where
  | no {v : V} (h : Oth H "list" v) : IsRows H v false
  | len {a : Addr} {xs : List V} (e : H a = some (.lst xs)) (hl : ¬ (1 ≤ xs.length ∧ xs.length ≤ 8)) : IsRows H (.ref a) false
  | all {a : Addr} {xs : List V} {bs : List Bool} (e : H a = some (.lst xs)) (h1 : 1 ≤ xs.length) (h8 : xs.length ≤ 8) (hb : bs.length = xs.length) (h : ∀ (i : Nat) x, xs[i]? = some x → IsRow H x (bs.getD i false)) : IsRows H (.ref a) (bs.all id)
theorem IsRows.same {H H' : Hp} {v : V} {b : Bool} (s : Same H H') (h : IsRows H v b) : IsRows H' v b := by
  cases h with
  | no h => exact .no (h.same s)
  | len e hl => exact .len (s _ _ e) hl
  | all e h1 h8 hb h => exact .all (s _ _ e) h1 h8 hb fun i x hx => (h i x hx).same s
theorem IsRows.good {H : Hp} {a : Addr} {xs : List Ir} (hL : IrsAt H a xs) (g : GI xs) : IsRows H (.ref a) true := by
  have h := IsRows.all (bs := List.replicate xs.length true) hL.lst (by rw [irefs_length]; exact List.length_pos_iff.mpr g.ne) (by rw [irefs_length]; exact g.len) (by rw [List.length_replicate, irefs_length]) fun i v hv => by
    obtain ⟨x, hx, rfl⟩ := irefs_at hv
    have hm := List.mem_of_getElem? hx
    have hi := (List.getElem?_eq_some_iff.mp hx).1
    have e : (List.replicate xs.length true).getD i false = true := by simp [List.getD, hi]
    rw [e]
    exact IsRow.two (hL.rows x hm) (IsW.yes (g.v x hm).1 (g.v x hm).2) (IsW.yes (g.w x hm).1 (g.w x hm).2)
  have e : (List.replicate xs.length true).all id = true := by simp
  rw [e] at h
  exact h
def spIsWx : Sp := fun vs H Q _ => ∃ (v : V) (lo hi : Int) (b : Bool), vs = [v, .int lo, .int hi] ∧ IsW H lo hi v b ∧ Q (.bl b) H
end TD
namespace L2
open PySem PySem.Spec PyProof.Rows
section
variable {X : Cx}
def ddI (ns : List Int) : List Int := ns.foldl step_dedup []
theorem firstMet_is (ns : List Int) : firstMet (fun i => ns.getD i 0) ns.length = ddI ns := by
  unfold firstMet ddI
  congr 1
  apply List.ext_getElem
  · simp
  · intro i h1 h2
    simp [h2]
end
end L2
set_option maxHeartbeats 3200000
namespace L2
open PySem PySem.Spec PyProof.Rows
theorem lay_led (t : SetTable) (es : Array (Int × Value)) (h : Int) (x : Value) : (layNew t es h x).2.1.led = t.led := by
  unfold layNew
  split
  · simp only [SetTable.put, SetTable.orStandIn, SetTable.standIn]
    split <;> split <;> rfl
  · rfl
theorem relay_led (t : SetTable) (es : Array (Int × Value)) (m : Nat) : (relayAll t es m).2.1.led = t.led := by
  unfold relayAll
  split
  · rename_i t' order hr
    have e : t'.led = t.led := by
      unfold SetTable.relaid SetTable.laid at hr
      cases hc : SetTable.layClean (SetTable.sizeAbove m - 1) (es.map (·.1)) with
      | none => rw [hc] at hr; cases hr
      | some ow =>
        rw [hc] at hr
        injection hr with hr
        injection hr with h1 h2
        rw [← h1]
    dsimp only
    split
    · exact e
    · rfl
  · rfl
def SetG (P : Program) (w : World) (G : SetTable → Prop) (h : Heap) (a : Addr) (S : Int → Bool) (n : Nat) : Prop :=
  ∃ o es ep t, h.get? a = some o ∧ o.ExactSet ∧ o.data = .set es ep t ∧ ElemsOf (intKind P w) es.toList ∧ (∀ k, S k = true ↔ ∃ e ∈ es.toList, (intKind P w).is k e.2 = true) ∧ es.size < scanBound ∧ t.fits es.size = true ∧ es.size = n ∧ G t
structure KeepT (G : SetTable → Prop) : Prop where
  lay : ∀ t es h x, G t → t.fits es.size = true → G (layNew t es h x).2.1
  rel : ∀ t es m, G t → t.fits es.size = true → G (relayAll t es m).2.1
theorem keep_led (b : Bool) : KeepT (fun t => t.led = b) := ⟨fun t es h x g _ => (lay_led t es h x).trans g, fun t es m g _ => (relay_led t es m).trans g⟩
section
variable {P : Program} {w : World} {A : Around} {E : Value → Shared → Prop} {s : Shared} {G : SetTable → Prop}
theorem storeG {h : Heap} {a : Addr} {o : Obj} {es es' : Array (Int × Value)} {ep : Nat} {t t' : SetTable} {S' : Int → Bool} (ho : h.get? a = some o) (hx : o.ExactSet) (hd : o.data = .set es ep t) (he : ElemsOf (intKind P w) es'.toList)
    (hm : ∀ k, S' k = true ↔ ∃ e ∈ es'.toList, (intKind P w).is k e.2 = true) (hb : es'.size < scanBound) (hf : t'.fits es'.size = true) (g : G t') :
    (h.update a (Obj.putSet es' t')).get? a = some { o with data := .set es' (ep + 1) t' } ∧ SetG P w G (h.update a (Obj.putSet es' t')) a S' es'.size := by
  obtain ⟨e1, _⟩ := SetOf_store (knd := intKind P w) ho hx hd he hm hb hf
  exact ⟨e1, _, es', ep + 1, t', e1, hx, rfl, he, hm, hb, hf, rfl, g⟩
theorem addTailG (KT : KeepT G) {gw : Bool → Sem Unit} (hgw : ∀ (b : Bool) (s1 : Shared) (Q1 : Unit → Shared → Prop), Q1 () s1 → wpAny (model P w) A (gw b) Q1 E s1) {a : Addr} {o : Obj} {es es1 : Array (Int × Value)} {ep : Nat} {t t2 : SetTable} {S' : Int → Bool} {wd : Bool} {R : Option Bool → Shared → Prop}
    (ho : s.heap.get? a = some o) (hx : o.ExactSet) (hd : o.data = .set es ep t) (he : ElemsOf (intKind P w) es1.toList) (hm : ∀ k, S' k = true ↔ ∃ e ∈ es1.toList, (intKind P w).is k e.2 = true) (hb : es1.size < scanBound) (hf : t2.fits es1.size = true) (g : G t2)
    (h : ∀ h', Heap.SameBut a s.heap h' → SetG P w G h' a S' es1.size → R (some true) { s with heap := h' }) :
    wpAny (model P w) A (do
      storeSet a es1 t2
      if (!wd && t2.tooFull) = true then do
        gw (relayAll t2 es1 (SetTable.grown es1.size)).2.2
        storeSet a (relayAll t2 es1 (SetTable.grown es1.size)).1 (relayAll t2 es1 (SetTable.grown es1.size)).2.1
        pure (some true)
      else pure (some true)) R E s := by
  obtain ⟨o1, g1⟩ := storeG (G := G) ho hx hd he hm hb hf g
  refine wpAny_bind (wpAny_storeSet_of ho hd ?_ (fits_of_scanBound hb))
  split
  · have p := relayAll_perm t2 es1 (SetTable.grown es1.size)
    have f := relayAll_fits t2 es1 (SetTable.grown es1.size)
    have r := KT.rel t2 es1 (SetTable.grown es1.size) g hf
    generalize relayAll t2 es1 (SetTable.grown es1.size) = Z at p f r ⊢
    obtain ⟨es2, t3, b2⟩ := Z
    dsimp only at p f r ⊢
    have z : es2.size = es1.size := by rw [← Array.length_toList, p.length_eq, Array.length_toList]
    have m2 : ∀ k, S' k = true ↔ ∃ e ∈ es2.toList, (intKind P w).is k e.2 = true := fun k => by rw [hm k]; exact ⟨fun ⟨e, x, y⟩ => ⟨e, p.mem_iff.mpr x, y⟩, fun ⟨e, x, y⟩ => ⟨e, p.mem_iff.mp x, y⟩⟩
    obtain ⟨_, g2⟩ := storeG (G := G) o1 hx rfl (he.perm p) m2 (by omega) f r
    refine wpAny_bind (hgw _ _ _ (wpAny_bind (wpAny_storeSet_of o1 rfl (wpAny_pure (h _ ?_ (z ▸ g2))) (fits_of_scanBound (by omega)))))
    exact (Heap.SameBut.update s.heap a (Obj.putSet es1 t2)).trans (Heap.SameBut.update _ a _)
  · exact wpAny_pure (h _ (Heap.SameBut.update s.heap a (Obj.putSet es1 t2)) g1)
theorem addG (KT : KeepT G) {a : Addr} {S : Int → Bool} {n : Nat} {k : Int} {tk : Nat} {Q : Bool → Shared → Prop} (hS : SetG P w G s.heap a S n) (hn : n + 1 < scanBound)
    (h : ∀ h', Heap.SameBut a s.heap h' → SetG P w G h' a (fun j => S j || decide (j = k)) (if S k then n else n + 1) → Q (!S k) { s with heap := h' }) :
    wpAny (model P w) A (setAddHashed a (.int k tk) ((intKind P w).hash k)) Q E s := by
  have ky : (intKind P w).is k (.int k tk) = true := intKind_is _ _ _ _
  obtain ⟨o, es, ep, t, ho, hx, hd, he, hm, hb, hf, hz, g⟩ := hS
  unfold setAddHashed setAddHashedIn
  refine wpAny_holding (wpAny_bind (wpAny_setState_of ho hd hf ?_))
  dsimp only
  rw [byScan_of (x := Value.int k tk) rfl hb he]
  simp only [↓reduceIte]
  unfold setAddByScan
  refine wpAny_bind (wpAny_bind (wpAny_rule (wpAny_bind (wpAny_setScan_of ky ho hd hf he ?_))))
  cases hr : List.findIdx? (fun e => (intKind P w).is k e.2) es.toList with
  | some j =>
    obtain ⟨j1, j2, _⟩ := List.findIdx?_eq_some_iff_getElem.mp hr
    have hk : S k = true := (hm k).mpr ⟨_, List.getElem_mem j1, j2⟩
    have q := h s.heap (Heap.SameBut.refl a s.heap) ⟨o, es, ep, t, ho, hx, hd, he, fun k' => by
      rw [Bool.or_eq_true, decide_eq_true_eq, ← hm k']
      exact ⟨fun z => z.elim id fun e => e ▸ hk, .inl⟩, hb, hf, (by rw [hk]; exact hz), g⟩
    rw [hk] at q
    exact wpAny_pure (wpAny_pure q)
  | none =>
    have hk : S k = false := by
      rw [← Bool.not_eq_true, hm k]
      rintro ⟨e, x, y⟩
      have z := List.findIdx?_eq_none_iff.mp hr e x
      rw [y] at z
      cases z
    have p := layNew_perm t es ((intKind P w).hash k) (.int k tk)
    have f := layNew_fits t es ((intKind P w).hash k) (.int k tk)
    have r := KT.lay t es ((intKind P w).hash k) (.int k tk) g hf
    generalize layNew t es ((intKind P w).hash k) (.int k tk) = Z at p f r ⊢
    obtain ⟨es1, t1, wd, gv⟩ := Z
    dsimp only at p f r ⊢
    rw [Array.toList_push] at p
    have z1 : es1.size = n + 1 := by rw [← Array.length_toList, p.length_eq, List.length_append, Array.length_toList, hz]; rfl
    have e1 := (he.push ky (x := .int k tk) rfl).perm p
    have m1 := mem_push_iff ky hm p
    have fin : ∀ h', Heap.SameBut a s.heap h' → SetG P w G h' a (fun j => S j || decide (j = k)) es1.size → Q true { s with heap := h' } := fun h' sb g' => by
      have q := h h' sb
      rw [hk] at q
      exact q (z1 ▸ g')
    have gw : ∀ (b : Bool) (s1 : Shared) (Q1 : Unit → Shared → Prop), Q1 () s1 → wpAny (model P w) A (match b with | true => rule "set.scan.the-table-gave-way" | false => pure ()) Q1 E s1 := fun b s1 Q1 q => by
      cases b
      · exact wpAny_pure q
      · exact wpAny_rule q
    refine wpAny_bind (gw _ _ _ ?_)
    split
    · rw [hashByValue_scannable 8 (x := Value.int k tk) rfl]
      refine wpAny_bind (wpAny_pure ?_)
      exact addTailG KT gw ho hx hd e1 m1 (by omega) f r fun h' sb g' => wpAny_pure (fin h' sb g')
    · refine wpAny_bind (wpAny_pure ?_)
      exact addTailG KT gw ho hx hd e1 m1 (by omega) f r fun h' sb g' => wpAny_pure (fin h' sb g')
theorem loopG (KT : KeepT G) {I : Addr} {fp wr : List Addr} {Gs : Array GenState → Array GenState → Prop} {n : Nat} {Pv : Nat → Value → Prop} {St : Nat → Shared → Prop} {R : Result → Shared → Prop} (W : WalksS P w A.in1 I fp wr Gs n Pv St) {a : Addr} (na : a ∉ fp) {val : Nat → Int}
    (hv : ∀ i v, Pv i v → ∃ t, v = .int (val i) t) (hn : n + 1 < scanBound) : ∀ (d i : Nat) (s : Shared), n - i = d → i ≤ n → St i s → SetG P w G s.heap a (fun j => (firstMet val i).any (· == j)) (firstMet val i).length →
      (∀ s', Moved (a :: wr) Gs s s' → SetG P w G s'.heap a (fun j => (firstMet val n).any (· == j)) (firstMet val n).length → R (.ok (.ret .none)) s') → codeAny (model P w) A (.builtin "set.update.loop" ⟨[.ref a, .ref I], []⟩) R s := by
  have nw : a ∉ wr := fun z => na (W.sub _ z)
  have wk : ∀ {s s' : Shared} {S : Int → Bool} {m : Nat}, Moved wr Gs s s' → SetG P w G s.heap a S m → SetG P w G s'.heap a S m := fun hm ⟨o, es, ep, t, e, r⟩ => ⟨o, es, ep, t, hm.heap a _ nw e, r⟩
  have up : ∀ b ∈ wr, b ∈ a :: wr := fun b hb => List.mem_cons_of_mem _ hb
  intro d
  induction d with
  | zero =>
    intro i s hd hi st g hR
    obtain rfl : i = n := by omega
    refine codeAny_builtin PyProof.Rows.F.entry_set_update_loop ?_
    rw [Around.under_plainId PyProof.Rows.F.plain_set_update_loop _]
    show wpAny _ A.in1 (pyNext (.ref I) >>= _) _ _ s
    exact wpAny_bind (W.done s _ _ st fun s' hm => wpAny_pure (hR s' (hm.mono up) (wk hm g)))
  | succ d ih =>
    intro i s hd hi st g hR
    refine codeAny_builtin PyProof.Rows.F.entry_set_update_loop ?_
    rw [Around.under_plainId PyProof.Rows.F.plain_set_update_loop _]
    show wpAny _ A.in1 (pyNext (.ref I) >>= _) _ _ s
    refine wpAny_bind (W.item i s _ _ (by omega) st fun v s' pv st' hm => ?_)
    obtain ⟨t, rfl⟩ := hv i v pv
    show wpAny _ A.in1 (holding [Value.int (val i) t] (setAdd a (.int (val i) t)) >>= _) _ _ s'
    refine wpAny_bind (wpAny_holding ?_)
    unfold setAdd
    refine wpAny_holding (wpAny_bind ((intKind P w).pyHash (k := val i) (intKind_is _ _ _ _) ?_))
    have hl := firstMet_length_le val i
    have gk := wk hm g
    refine addG (s := { s' with toks := s'.toks + 1 }) KT gk (by omega) fun h' sb g2 => ?_
    have g3 : SetG P w G h' a (fun j => (firstMet val (i + 1)).any (· == j)) (firstMet val (i + 1)).length := by
      have e1 : (fun j => (firstMet val (i + 1)).any (· == j)) = fun j => ((firstMet val i).any (· == j) || decide (j = val i)) := funext fun j => by rw [firstMet_succ, step_any]
      rw [e1, firstMet_succ, step_length]
      exact g2
    refine wpAny_pure ⟨plainId_quiet PyProof.Rows.F.plain_set_update_loop _, ih (i + 1) _ (by omega) (by omega) (W.frame _ s' _ _ st' (Nat.le_succ _) fun b hb o e => ?_) g3 fun s2 hm2 g4 => ?_⟩
    · exact (sb.2 b fun z : b = a => na (z ▸ hb)).trans e
    · exact hR s2 (Moved.trans W.gtrans ((hm.mono up).then_heap (Nat.le_succ _) fun b o hb e => (sb.2 b fun z : b = a => hb (z ▸ List.mem_cons_self)).trans e) hm2) g4
theorem newG (v : Value) {Q : Value → Shared → Prop} (h : Q (.ref s.heap.objs.size) { s with heap := s.heap.push { cls := .type "set", dict := none, data := .set #[] 0 (.fresh 0 0 (!w.params.followText "set-order")) } }) :
    codeAny (model P w) A (.call (.builtin "set.__new__") ⟨[.type "set", v], []⟩) (wants Q E) s := by
  refine codeAny_of_tree ?_
  show wpAny _ A.in1 (do checkBuiltinCall "set.__new__" ⟨[.type "set", v], []⟩; again (.builtin "set.__new__" ⟨[.type "set", v], []⟩)) _ _ s
  refine wpAny_bind (wpAny_of_eq (PySem.F.newCall_set_1 v) (wpAny_pure ⟨plainId_quiet PySem.F.plain_set_new _, codeAny_builtin PySem.F.entry_set_new ?_⟩))
  rw [Around.under_plainId PySem.F.plain_set_new _]
  unfold Builtin.«set.__new__» Builtin.Frozenset.newClass
  have sb := sub_set_self
  cases s
  dsimp only
  wp_walk
  refine wpAny_askSetting (wpAny_pure ?_)
  dsimp only
  simp only [newObj]
  exact wpAny_bind (wpAny_alloc (wpAny_pure (wpAny_pure h)))
theorem call_setG (KT : KeepT G) {l : Addr} {its : Array Value} {ns : List Int} {Q : Value → Shared → Prop} (hh : A.handled = none) (hl : s.heap.IsList l its) (hi : IntsAre its.toList ns) (hb : its.size + 1 < scanBound) (g0 : G (.fresh 0 0 (!w.params.followText "set-order")))
    (h : ∀ (h' : Heap) (tk : Nat), SetG P w G h' s.heap.objs.size (fun j => (firstMet (fun i => ns.getD i 0) its.size).any (· == j)) (firstMet (fun i => ns.getD i 0) its.size).length → (∀ b o, b < s.heap.objs.size → s.heap.get? b = some o → h'.get? b = some o) → Q (.ref s.heap.objs.size) { s with heap := h', toks := tk }) :
    wpAny (model P w) A (call (.type "set") [.ref l]) Q E s := by
  obtain ⟨c0, tl0, hm0⟩ := PySem.F.called_set.mro
  have t1 := PySem.F.called_set.made; have t2 := PySem.F.called_set.sub
  refine wpAny_call (codeAny_of_tree (show wpAny _ _ (callAny (.type "set") _) _ _ _ from ?_))
  refine wpAny_pure ⟨Code.quiet_builtin _ (by decide +kernel), codeAny_builtin PySem.F.entry_type_call ?_⟩
  rw [Around.under_plain (weight_type_call_type "set" [.ref l] []) rfl]
  have t3 := PySem.F.called_set.notType; have t4 := PySem.F.called_set.canCreate
  have t5 := PySem.F.typeCall_set_1 (.ref l); repeat (any_goals (first | assumption | wp_step))
  generalize hO : ({ cls := .type "set", dict := none, data := .set #[] 0 (.fresh 0 0 (!w.params.followText "set-order")) } : Obj) = ob
  refine codeAny_mono (newG (.ref l) (E := E) (Q := fun v s1 => v = .ref s.heap.objs.size ∧ s1 = { s with heap := s.heap.push ob }) (by rw [hO]; exact ⟨rfl, rfl⟩)) fun r s1 hr => ?_
  have hfr : ob.isFreed = false := by rw [← hO]; rfl
  cases r with
  | error e => exact hr
  | ok fl =>
    cases fl with
    | next => exact hr.elim
    | brk => exact hr.elim
    | cont => exact hr.elim
    | ret v =>
      obtain ⟨rfl, rfl⟩ := hr
      have eS : (s.heap.push ob).get? s.heap.objs.size = some ob := Heap.get?_push_size _ hfr
      have tS : Shared.TypeIs { s with heap := s.heap.push ob } (.ref s.heap.objs.size) "set" := ⟨_, eS, by rw [← hO]⟩
      have t6 := PySem.F.called_set.init.lookup
      have t7 := PySem.F.called_set.init.bind (.ref s.heap.objs.size); repeat (any_goals (first | assumption | wp_step))
      refine codeAny_mono (codeAny_call_builtin (R := wants (fun r s2 => r = .none ∧ ∃ h' tk, s2 = { s with heap := h', toks := tk } ∧ SetG P w G h' s.heap.objs.size (fun j => (firstMet (fun i => ns.getD i 0) its.size).any (· == j)) (firstMet (fun i => ns.getD i 0) its.size).length ∧
        (∀ b o, b < s.heap.objs.size → s.heap.get? b = some o → h'.get? b = some o)) E) PySem.F.called_set.init.plain PySem.F.entry_set_init (check_set_init_1 tS ?_)) fun r2 s2 hr2 => ?_
      · subst hO
        obtain ⟨⟨c1, d1, a1, l1⟩, hol, hc1, n1, hd1⟩ := hl
        simp only at hc1 hd1
        subst hc1 hd1
        have hol1 : (s.heap.push { cls := .type "set", dict := none, data := .set #[] 0 (.fresh 0 0 (!w.params.followText "set-order")) }).get? l = some { cls := .type "list", dict := d1, data := .seq its n1, slots := l1 } := Heap.get?_push_of_some _ hol
        have u1 := PySem.F.sub_list_set; have u2 := PySem.F.sub_list_frozenset
        have u3 : (Value.type "list" == Value.type "dict") = false := by decide
        have L1 : (s.heap.push { cls := .type "set", dict := none, data := .set #[] 0 (.fresh 0 0 (!w.params.followText "set-order")) }).IsList l its := ⟨_, hol1, rfl, n1, rfl⟩
        have ll : l < s.heap.objs.size := Heap.lt_size hol
        unfold Builtin.«set.__init__» noKeywords Builtin.Frozenset.updateFrom
        generalize hIt : pyIter = It
        wp_walk
        subst hIt
        refine wpAny_pyIter_list L1 ?_
        refine wpAny_bind (m := runValue _) (wpAny_runValue ?_)
        have sz : (s.heap.push { cls := .type "set", dict := none, data := .set #[] 0 (.fresh 0 0 (!w.params.followText "set-order")) }).objs.size = s.heap.objs.size + 1 := Heap.size_push _ _
        have nI : l ≠ (s.heap.push { cls := .type "set", dict := none, data := .set #[] 0 (.fresh 0 0 (!w.params.followText "set-order")) }).objs.size := by rw [sz]; exact Nat.ne_of_lt (Nat.lt_succ_of_lt ll)
        refine loopG KT ((Walks.list (show A.in1.in1.in1.handled = none by simp [hh]) _ l nI its).toS) (a := s.heap.objs.size) (by rw [sz]; simp only [List.mem_cons, List.not_mem_nil, or_false, not_or]; exact ⟨Nat.ne_of_lt (Nat.lt_succ_self _), Nat.ne_of_gt ll⟩)
          (val := fun i => ns.getD i 0) (fun i v hv => IntsAre.int_at hi i v (by rw [Array.getElem?_toList]; exact hv)) hb (its.size - 0) 0 _ (by omega) (Nat.zero_le _) ⟨⟨_, Heap.get?_push_size _ rfl, rfl, rfl⟩, L1.push _⟩ ?_ ?_
        · refine ⟨_, #[], 0, .fresh 0 0 (!w.params.followText "set-order"), Heap.get?_push_of_some _ eS, ⟨rfl, rfl, rfl⟩, rfl, (fun e he => by simp at he), fun k => ?_, by decide, rfl, rfl, g0⟩
          simp [firstMet]
        · intro s3 hm g3
          obtain ⟨h3, gs3, d3, k3, o3⟩ := s3
          have e1 : gs3 = s.gens := hm.gens
          have e2 : d3 = s.drawn := hm.drawn
          have e3 : o3 = s.os := hm.os
          subst e1 e2 e3
          show wpAny _ _ _ _ _ _
          refine wpAny_pure (show wpAny _ _ (ret Value.none) _ _ _ from wpAny_pure ⟨rfl, h3, k3, rfl, g3, fun b o hb e => ?_⟩)
          exact hm.heap b o (by simp only [List.mem_cons, List.not_mem_nil, or_false, not_or]; exact ⟨Nat.ne_of_lt hb, by rw [sz]; exact Nat.ne_of_lt (Nat.lt_succ_of_lt hb)⟩) (Heap.get?_push_of_some _ (Heap.get?_push_of_some _ e))
      · cases r2 with
        | error e => exact hr2
        | ok fl2 =>
          cases fl2 with
          | next => exact hr2.elim
          | brk => exact hr2.elim
          | cont => exact hr2.elim
          | ret r =>
            obtain ⟨rfl, h2, k2, rfl, g2, kp⟩ := hr2; repeat (any_goals (first | assumption | wp_step))
            exact h _ _ g2 kp
end
end L2
namespace L2
open PySem PySem.Spec PyProof.Rows
theorem slot_sit_next : Slot "set_iterator" "__next__" "set_iterator.__next__" :=
  .of (owner := "set_iterator") (n := "__next__") (by rw [typeLookup_type, builtinLookup_eq_fast]; kernel_rfl) (by decide +kernel) (by decide +kernel) (by decide +kernel) (by first | exact .inl (by decide +kernel) | exact .inr (by decide +kernel)) (by rw [isSubtype_type]; kernel_rfl)
theorem entry_sit_next : entryFor table "set_iterator.__next__" = some Builtin.«set_iterator.__next__» := entryFor_of_tree (by kernel_rfl)
theorem args_sit_next (v : Value) : argsOk "set_iterator.__next__" ⟨[v], []⟩ := by unfold argsOk; kernel_rfl
theorem slot_sit_iter : Slot "set_iterator" "__iter__" "set_iterator.__iter__" :=
  .of (owner := "set_iterator") (n := "__iter__") (by rw [typeLookup_type, builtinLookup_eq_fast]; kernel_rfl) (by decide +kernel) (by decide +kernel) (by decide +kernel) (by first | exact .inl (by decide +kernel) | exact .inr (by decide +kernel)) (by rw [isSubtype_type]; kernel_rfl)
theorem entry_sit_iter : entryFor table "set_iterator.__iter__" = some Builtin.«dict_keyiterator.__iter__» := entryFor_alias (id' := "dict_keyiterator.__iter__") (by kernel_rfl) rfl (by decide +kernel) (by kernel_rfl)
theorem args_sit_iter (v : Value) : argsOk "set_iterator.__iter__" ⟨[v], []⟩ := by unfold argsOk; kernel_rfl
theorem entry_set_iter' : entryFor table "set.__iter__" = some Builtin.«frozenset.__iter__» := entryFor_alias (id' := "frozenset.__iter__") (by kernel_rfl) rfl (by decide +kernel) (by kernel_rfl)
def SIt (h : Heap) (it a : Addr) (slot i n ep : Nat) : Prop := ∃ o, h.get? it = some o ∧ o.cls = .type "set_iterator" ∧ o.data = .fields #[.int slot 0, .int i 0, .ref a, .int n 0, .int ep 0]
theorem SIt.typeIs {s : Shared} {it a : Addr} {slot i n ep : Nat} (h : SIt s.heap it a slot i n ep) : s.TypeIs (.ref it) "set_iterator" := let ⟨o, e, c, _⟩ := h; ⟨o, e, c⟩
def Past (w : World) (t : SetTable) (slot i : Nat) : Prop := if i = 0 then slot = 0 else i = 1 ∧ (w.params.followText "set-order" = true ∨ SetTable.below t.place slot = 1)
section
variable {P : Program} {w : World} {A : Around} {E : Value → Shared → Prop} {s : Shared} {a it : Addr} {o : Obj} {e : Int × Value} {ep : Nat} {t : SetTable}
theorem one_place (hf : t.fits 1 = true) : ∃ p, t.place = #[p] := by
  simp only [SetTable.fits, Bool.and_eq_true, beq_iff_eq] at hf
  exact ⟨t.place[0]'(by omega), by
    apply Array.ext
    · simpa using hf.1
    · intro i h1 h2
      have : i = 0 := by simp at h2; omega
      subst this
      rfl⟩
theorem pick1 (f : Nat → Nat) (e : Int × Value) : pickOrder f #[e] = #[e] := by
  show pickOrder.go f 1 0 [e] #[] = #[e]
  unfold pickOrder.go
  simp [Nat.mod_one, pickOrder.go]
theorem below_0 (p : Nat) : SetTable.below #[p] 0 = 0 := by
  show SetTable.below.go #[p] 0 1 0 1 = 0
  unfold SetTable.below.go
  rw [if_pos (by decide)]
  show (if p < 0 then _ else SetTable.below.go #[p] 0 0 0 0) = 0
  rw [if_neg (by omega)]
  rfl
theorem below_1 (p : Nat) : SetTable.below #[p] (p + 1) = 1 := by
  show SetTable.below.go #[p] (p + 1) 1 0 1 = 1
  unfold SetTable.below.go
  rw [if_pos (by decide)]
  show (if p < p + 1 then SetTable.below.go #[p] (p + 1) 0 1 1 else _) = 1
  rw [if_pos (by omega)]
  rfl
theorem next_one (ho : s.heap.get? a = some o) (hd : o.data = .set #[e] ep t) (hf : t.fits 1 = true) (hl : t.led = !w.params.followText "set-order") {Q : Option (Value × Nat) → Shared → Prop} (h : ∀ nx, Past w t nx 1 → Q (some (e.2, nx)) s) :
    wpAny (model P w) A (setNext a 0 0 ep) Q E s := by
  unfold setNext setsByText
  refine wpAny_bind (wpAny_setState_of ho hd hf ?_)
  dsimp only
  refine wpAny_bind (wpAny_bind (wpAny_askSetting (wpAny_pure ?_)))
  refine wpAny_ite_split (fun hw => ?_) (fun hw => ?_)
  · replace hw : w.params.followText "set-order" = true := hw
    rw [if_neg (by simp)]
    unfold setWalk setsByText
    refine wpAny_bind (wpAny_bind (wpAny_setState_of ho hd hf ?_))
    refine wpAny_bind (wpAny_bind (wpAny_askSetting (wpAny_pure ?_)))
    refine wpAny_ite_split (fun _ => ?_) (fun z => absurd hw z)
    refine wpAny_bind (wpAny_askSetting (wpAny_pure ?_))
    refine wpAny_pure ?_
    rw [pick1]
    exact h 0 ⟨rfl, .inl hw⟩
  · replace hw : ¬ w.params.followText "set-order" = true := hw
    obtain ⟨p, hp⟩ := one_place hf
    have hl1 : t.led = true := by rw [hl]; simpa using hw
    refine wpAny_ite_split (fun z => absurd (show (!t.plain && decide (1 > 1)) = true from z) (by simp)) (fun _ => ?_)
    refine wpAny_bind ?_
    refine wpAny_ite_split (fun z => absurd (show (!t.led && true) = true from z) (by rw [hl1]; decide)) (fun _ => ?_)
    refine wpAny_pure ?_
    rw [hp, below_0]
    exact wpAny_pure (h (p + 1) ⟨rfl, .inr (by rw [hp]; exact below_1 p)⟩)
theorem next_none (ho : s.heap.get? a = some o) (hd : o.data = .set #[e] ep t) (hf : t.fits 1 = true) (hl : t.led = !w.params.followText "set-order") {slot : Nat} (hp : Past w t slot 1) {Q : Option (Value × Nat) → Shared → Prop} (h : Q none s) :
    wpAny (model P w) A (setNext a slot 1 ep) Q E s := by
  unfold setNext setsByText
  refine wpAny_bind (wpAny_setState_of ho hd hf ?_)
  dsimp only
  refine wpAny_bind (wpAny_bind (wpAny_askSetting (wpAny_pure ?_)))
  refine wpAny_ite_split (fun hw => ?_) (fun hw => ?_)
  · replace hw : w.params.followText "set-order" = true := hw
    rw [if_neg (by simp)]
    unfold setWalk setsByText
    refine wpAny_bind (wpAny_bind (wpAny_setState_of ho hd hf ?_))
    refine wpAny_bind (wpAny_bind (wpAny_askSetting (wpAny_pure ?_)))
    refine wpAny_ite_split (fun _ => ?_) (fun z => absurd hw z)
    refine wpAny_bind (wpAny_askSetting (wpAny_pure ?_))
    refine wpAny_pure ?_
    rw [pick1]
    exact h
  · replace hw : ¬ w.params.followText "set-order" = true := hw
    have hl1 : t.led = true := by rw [hl]; simpa using hw
    have hb : SetTable.below t.place slot = 1 := by
      rcases hp.2 with z | z
      · exact absurd z hw
      · exact z
    refine wpAny_ite_split (fun z => absurd (show (!t.plain && decide (1 > 1)) = true from z) (by simp)) (fun _ => ?_)
    refine wpAny_bind ?_
    refine wpAny_ite_split (fun z => absurd (show (!t.led && true) = true from z) (by rw [hl1]; decide)) (fun _ => ?_)
    refine wpAny_pure ?_
    rw [hb]
    exact wpAny_pure h
theorem sit_item (hit : SIt s.heap it a 0 0 1 ep) (ho : s.heap.get? a = some o) (hd : o.data = .set #[e] ep t) (hf : t.fits 1 = true) (hl : t.led = !w.params.followText "set-order") {Q : Option Value → Shared → Prop}
    (hQ : ∀ h' nx, Past w t nx 1 → SIt h' it a nx 1 1 ep → Heap.SameBut it s.heap h' → Q (some e.2) { s with heap := h' }) : wpAny (model P w) A (pyNext (.ref it)) Q E s := by
  obtain ⟨oi, hoi, hci, hdi⟩ := id hit
  unfold pyNext
  refine wpAny_bind (wpAny_attempt (wpAny_callSpecial?_slot (name := Str.ofString "__next__") hit.typeIs slot_sit_next (wpAny_call_entry slot_sit_next hit.typeIs entry_sit_next ?_ (args_sit_next _))))
  unfold Builtin.«set_iterator.__next__»
  refine wpAny_bind (m := slotArgs "__next__" 0 _) (wpAny_pure ?_)
  refine wpAny_bind (wpAny_fieldsOf hoi hdi ?_)
  show wpAny _ _ (setEntries a >>= _) _ _ s
  refine wpAny_bind (wpAny_setEntries_of ho hd hf ?_)
  refine wpAny_ite_split (fun z => absurd z (by simp)) (fun _ => ?_)
  show wpAny _ _ (setNext a 0 0 ep >>= _) _ _ s
  refine wpAny_bind (next_one ho hd hf hl fun nx px => ?_)
  show wpAny _ _ (setField (.ref it) 0 (rawInt nx) >>= _) _ _ s
  refine wpAny_bind (wpAny_setField hoi hdi (by simp) ?_)
  have g1 : (s.heap.update it (Obj.mapFields (·.setIfInBounds 0 (rawInt nx)))).get? it = some (Obj.mapFields (·.setIfInBounds 0 (rawInt nx)) oi) := Heap.get?_update_self _ hoi (Obj.isFreed_of_fields (Obj.data_mapFields hdi _))
  have d1 := Obj.data_mapFields hdi (·.setIfInBounds 0 (rawInt nx))
  refine wpAny_bind (wpAny_setField g1 d1 (by simp) ?_)
  refine wpAny_pure ⟨_, rfl, wpAny_pure (hQ _ nx px ⟨_, Heap.get?_update_self _ g1 (Obj.isFreed_of_fields (Obj.data_mapFields d1 _)), (Obj.cls_mapFields ..).trans ((Obj.cls_mapFields ..).trans hci), ?_⟩ ((Heap.SameBut.update ..).trans (Heap.SameBut.update ..)))⟩
  rw [Obj.data_mapFields d1]
  simp [rawInt]
theorem sit_end (hh : A.handled = none) {slot : Nat} (hit : SIt s.heap it a slot 1 1 ep) (hp : Past w t slot 1) (ho : s.heap.get? a = some o) (hd : o.data = .set #[e] ep t) (hf : t.fits 1 = true) (hl : t.led = !w.params.followText "set-order") {Q : Option Value → Shared → Prop}
    (hQ : ∀ h', Heap.ExtBut it s.heap h' → Q none { s with heap := h' }) : wpAny (model P w) A (pyNext (.ref it)) Q E s := by
  obtain ⟨oi, hoi, hci, hdi⟩ := id hit
  unfold pyNext
  refine wpAny_bind (wpAny_attempt (wpAny_callSpecial?_slot (name := Str.ofString "__next__") hit.typeIs slot_sit_next (wpAny_call_entry slot_sit_next hit.typeIs entry_sit_next ?_ (args_sit_next _))))
  unfold Builtin.«set_iterator.__next__»
  refine wpAny_bind (m := slotArgs "__next__" 0 _) (wpAny_pure ?_)
  refine wpAny_bind (wpAny_fieldsOf hoi hdi ?_)
  show wpAny _ _ (setEntries a >>= _) _ _ s
  refine wpAny_bind (wpAny_setEntries_of ho hd hf ?_)
  refine wpAny_ite_split (fun z => absurd z (by simp)) (fun _ => ?_)
  show wpAny _ _ (setNext a slot 1 ep >>= _) _ _ s
  refine wpAny_bind (next_none ho hd hf hl hp ?_)
  show wpAny _ _ (setField (.ref it) 2 .none >>= _) _ _ s
  refine wpAny_bind (wpAny_setField hoi hdi (by simp) ?_)
  show wpAny _ _ (newExc (.type "StopIteration") [] >>= fun _ => _) _ _ _
  apply wpAny_bind
  simp only [newExc, newTuple]
  refine wpAny_bind (wpAny_newObj_type (wpAny_bind (m := firstArgMember _ _) (wpAny_of_eq (a := Value.none) (by first | rfl | (simp only [firstArgMember]; rfl)) (wpAny_newObj_type ?_ (by size_fits)))) (by size_fits))
  simp only [raiseNew]
  refine wpAny_bind (wpAny_handled ?_)
  rw [show A.in1.handled = Option.none from hh]
  refine wpAny_bind (wpAny_pure (wpAny_throw ?thr))
  apply wpAny_bind
  refine wpAny_isInstance (T := "StopIteration") (b := true) ⟨_, Heap.get?_push_size _ rfl, rfl⟩ isSubtype_stop ?ends
  exact wpAny_pure (hQ _ (((Heap.SameBut.update ..).extBut.push _).push _))
theorem sit_self {slot i n : Nat} (hit : SIt s.heap it a slot i n ep) {Q : Value → Shared → Prop} (h : Q (.ref it) s) : wpAny (model P w) A (pyIter (.ref it)) Q E s := by
  refine wpAny_pyIter_slot hit.typeIs slot_sit_iter (wpAny_call_entry slot_sit_iter hit.typeIs entry_sit_iter ?_ (args_sit_iter _))
  show wpAny _ _ (ret (.ref it)) _ _ s
  exact wpAny_pure ⟨_, rfl, "set_iterator", _, hit.typeIs, slot_sit_next.lookup, h⟩
theorem set_iter (ho : s.heap.get? a = some o) (hx : o.ExactSet) (hd : o.data = .set #[e] ep t) (hf : t.fits 1 = true) {Q : Value → Shared → Prop}
    (h : Q (.ref s.heap.objs.size) { s with heap := s.heap.push { cls := .type "set_iterator", data := .fields #[.int 0 0, .int 0 0, .ref a, .int 1 0, .int ep 0] } }) : wpAny (model P w) A (pyIter (.ref a)) Q E s := by
  have ty : s.TypeIs (.ref a) "set" := ⟨o, ho, hx.1⟩
  refine wpAny_pyIter_slot ty F.slot_set_iter (wpAny_call_entry F.slot_set_iter ty entry_set_iter' ?_ (F.args_set_iter_1 _))
  unfold Builtin.«frozenset.__iter__»
  refine wpAny_bind (m := Builtin.Frozenset.slot0 "__iter__" _) (wpAny_pure ?_)
  unfold Builtin.Frozenset.sizeOf
  refine wpAny_bind (wpAny_bind (wpAny_setEntries_of ho hd hf (wpAny_pure ?_)))
  unfold setDrawn setsByText
  refine wpAny_bind (wpAny_bind (wpAny_setState_of ho hd hf ?_))
  refine wpAny_bind (wpAny_bind (wpAny_askSetting (wpAny_pure ?_)))
  refine wpAny_pure ?_
  refine wpAny_ite_split (fun z => ?_) (fun _ => ?_)
  · exfalso
    have z := (Bool.and_eq_true _ _ ▸ z).2
    have z : (!t.plain && decide (1 > 1)) = true := z
    simp at z
  refine wpAny_bind (wpAny_pure ?_)
  refine wpAny_bind (wpAny_setEpoch_of ho hd hf ?_)
  exact wpAny_bind (wpAny_newObj_type (wpAny_pure ⟨_, rfl, "set_iterator", _, ⟨_, Heap.get?_push_size _ rfl, rfl⟩, slot_sit_next.lookup, h⟩))
theorem hint_set {r : Addr} (hT : s.TypeIs (.ref r) "set") {Q : Bool → Shared → Prop} (h : Q false s) : wpAny (model P w) A (Builtin.List.listLengthHint (.ref r)) Q E s := by
  unfold Builtin.List.listLengthHint
  refine wpAny_bind (wpAny_specialOf hT F.slot_set_len.lookup ?_)
  generalize hid : ("set.__len__" : String) = id0
  wp_delta
  rw [show splitId id0 = some ("set", "__len__") from by subst hid; decide +kernel]
  subst hid
  refine wpAny_bind (wpAny_isInstance (T := "set") (b := true) hT (by rw [isSubtype_type]; kernel_rfl) ?_)
  refine wpAny_ite_split (fun z => absurd z (by decide)) (fun _ => wpAny_ite_split (fun _ => wpAny_bind (wpAny_typeOf hT (wpAny_pure h))) (fun z => absurd (by decide +kernel) z))
theorem set_walk (hh : A.handled = none) (hne : it ≠ a) (hd : o.data = .set #[e] ep t) (hf : t.fits 1 = true) (hl : t.led = !w.params.followText "set-order") :
    Walks P w A it [it, a] [it] 1 (fun _ v => v = e.2) (fun i h => ∃ slot, Past w t slot i ∧ SIt h it a slot i 1 ep ∧ h.get? a = some o) where
  sub := fun b hb => by rw [List.mem_singleton.mp hb]; exact .head _
  frame := fun i h h' st k => let ⟨slot, p, ⟨oi, e1, c1, d1⟩, e2⟩ := st; ⟨slot, p, ⟨oi, k it (.head _) _ e1, c1, d1⟩, k a (.tail _ (.head _)) _ e2⟩
  item := fun i s Q E hi st hQ => by
    obtain ⟨slot, p, si, e2⟩ := st
    obtain rfl : i = 0 := by omega
    obtain rfl : slot = 0 := p
    refine sit_item si e2 hd hf hl fun h' nx px si' sb => ?_
    exact hQ _ h' s.toks rfl ⟨nx, px, si', (sb.2 a (Ne.symm hne)).trans e2⟩ fun b o hb e => (sb.2 b (fun z => hb (by rw [z]; exact .head _))).trans e
  done := fun s Q E st hQ => by
    obtain ⟨slot, p, si, e2⟩ := st
    refine sit_end hh si p e2 hd hf hl fun h' eb => ?_
    exact hQ h' s.toks fun b o hb e => eb b o (fun z => hb (by rw [z]; exact .head _)) e
  self := fun i s Q E st hQ => let ⟨_, _, si, _⟩ := st; sit_self si hQ
theorem set_src (hx : o.ExactSet) (hd : o.data = .set #[e] ep t) (hf : t.fits 1 = true) (hl : t.led = !w.params.followText "set-order") : PySem.W.KdlSrc P w "set" a a 1 (fun _ v => v = e.2) (fun h => h.get? a = some o) where
  type := fun s e => ⟨o, e, hx.1⟩
  there := fun h e => ⟨Heap.lt_size e, Heap.lt_size e⟩
  keep := fun h h' e k => k a (.inl rfl) o e
  notList := by decide
  notTuple := by decide
  hint := fun A E s Q e hq => hint_set ⟨o, e, hx.1⟩ hq
  iter := fun A s hh e => ⟨_, _, (fun E Q hq => set_iter e hx hd hf hq), set_walk hh (Nat.ne_of_gt (Heap.lt_size e)) hd hf hl, ⟨0, rfl, ⟨_, Heap.get?_push_size _ rfl, rfl, rfl⟩, Heap.get?_push_of_some _ e⟩⟩
end
theorem isInt_shape {k : Int} {v : Value} (h : Value.isInt k v = true) : ∃ tk, v = .int k tk := by
  unfold Value.isInt at h
  split at h
  · rename_i i tk
    obtain rfl : i = k := by simpa using h
    exact ⟨tk, rfl⟩
  · cases h
def One1 (w : World) (a : Addr) (g : Int) (h : Heap) : Prop := ∃ o hs tk ep t, h.get? a = some o ∧ o.ExactSet ∧ o.data = .set #[(hs, .int g tk)] ep t ∧ t.fits 1 = true ∧ t.led = !w.params.followText "set-order"
theorem one_of {P : Program} {w : World} {h : Heap} {a : Addr} {S : Int → Bool} {g : Int} (x : SetG P w (fun t => t.led = !w.params.followText "set-order") h a S 1) (hS : ∀ k, S k = true → k = g) : One1 w a g h := by
  obtain ⟨o, es, ep, t, e1, ex, hd, he, hm, _, hf, hz, hl⟩ := x
  obtain ⟨⟨hs, v⟩, rfl⟩ : ∃ e, es = #[e] := ⟨es[0]'(by omega), by
    apply Array.ext
    · simpa using hz
    · intro i h1 h2
      have : i = 0 := by simp at h2; omega
      subst this
      rfl⟩
  obtain ⟨⟨k, hk, _⟩, _⟩ := he (hs, v) (by simp)
  obtain rfl : k = g := hS k ((hm k).mpr ⟨(hs, v), by simp, hk⟩)
  obtain ⟨tk, rfl⟩ : ∃ tk, v = .int k tk := by
    exact isInt_shape hk
  exact ⟨o, hs, tk, ep, t, e1, ex, hd, hf, hl⟩
section
variable {X : Cx}
theorem dd2 (g : Int) : ddI [g, g] = [g] := by simp [ddI, step_dedup]
theorem call_set2 (hc : X.calm = true) : CallR X (.type "set") (fun xs H Q => ∃ (a : Addr) (g : Int), xs = [.ref a] ∧ SqL X.K H a [.int g, .int g] ∧ ∀ r, H r = none → Q (.ref r) (upd H r (.ext (One1 X.w r g)))) := by
  intro pins s σ H xs us Q I r h
  obtain ⟨a, g, rfl, hS, q⟩ := h
  obtain ⟨u, rfl, ru⟩ := vals1 r
  cases (show u = Value.ref a from ru)
  obtain ⟨its, rv, p, hz⟩ := I.list hS
  have hi : IntsAre its [g, g] := intsAre_of rv
  have hl : its.toArray.size = 2 := by simpa using rv.length.symm
  refine call_setG (keep_led _) (I.ok.hd hc) p.isList hi (by rw [hl]; decide) rfl fun h' tk hG kp => ?_
  have e2 := firstMet_is [g, g]
  rw [hl] at hG
  rw [show firstMet (fun i => [g, g].getD i 0) 2 = [g] from e2.trans (dd2 g)] at hG
  have one : One1 X.w s.heap.objs.size g h' := one_of hG fun k hk => (of_decide_eq_true (by rw [List.any_cons, List.any_nil, Bool.or_false] at hk; exact hk) : g = k).symm
  have hk2 : ∃ o, h'.get? s.heap.objs.size = some o := let ⟨o, _, _, _, _, e, _⟩ := one; ⟨o, e⟩
  refine ⟨.ref s.heap.objs.size, _, I.laid (t' := tk) (fun b o e => kp b o (Heap.lt_size e) e) (Nat.le_refl _) (show ObjOk X.prog X.w _ h' _ (.ext _) from ⟨one, hk2, fun h1 h2 x k => let ⟨o, a1, a2, a3, a4, e, r⟩ := x; ⟨o, a1, a2, a3, a4, k o e, r⟩⟩), rfl, q _ (I.hok.fresh (Nat.le_refl _))⟩
theorem call_sorted1 (hc : X.calm = true) : CallR X (.builtin "sorted") (fun xs H Q => ∃ (r : Addr) (g : Int), xs = [.ref r] ∧ H r = some (.ext (One1 X.w r g)) ∧ ∀ l, H l = none → Q (.ref l) (upd H l (.lst [.int g]))) := by
  intro pins s σ H xs us Q I r h
  obtain ⟨a, g, rfl, hS, q⟩ := h
  obtain ⟨u, rfl, ru⟩ := vals1 r
  cases (show u = Value.ref a from ru)
  obtain ⟨⟨o, hs, tk0, ep, t, e, ex, hd, hf, hl⟩, _, _⟩ := (show ObjOk X.prog X.w H s.heap a (.ext (One1 X.w a g)) from I.hok a _ hS)
  refine Calls.call_function_entry kind_sorted plain_sorted entry_sorted (args_sorted1 _) ?_
  unfold Builtin.«sorted»
  refine wpAny_bind (m := checkCount "sorted" 1 1 _) (wpAny_pure ?_)
  refine wpAny_bind (PySem.W.kdu_collect (set_src ex hd hf hl) (by first | exact I.ok.hd hc | (rw [show X.A.in1.handled = X.A.handled from rfl]; exact I.ok.hd hc)) e (by rw [sizeLine_eq]; decide) fun h' tk acc hk hacc => ?_)
  have ha : acc.toList = [.int g tk0] := by
    obtain ⟨z, y⟩ := hacc
    apply List.ext_getElem
    · simpa using z
    · intro i h1 h2
      have hi : i < acc.size := by simpa using h1
      have := y i acc[i] (Array.getElem?_eq_getElem hi)
      have : i = 0 := by omega
      subst this
      simpa using y 0 acc[0] (Array.getElem?_eq_getElem hi)
  have ia : IntsAre acc.toList [g] := by rw [ha]; exact intsAre_of (ns := [g]) (.cons ⟨tk0, rfl⟩ .nil)
  refine wpAny_bind (wpAny_newList ?_ (by rw [ha, sizeLine_eq]; exact (by decide : 1 ≤ 16777216)))
  have hoL : (h'.push (seqObj "list" acc.toList.toArray 0)).get? h'.objs.size = some (seqObj "list" acc.toList.toArray 0) := Heap.get?_push_size _ rfl
  refine wpAny_bind (wpAny_holding (wpAny_call_entry slot_list_sort ⟨_, hoL, rfl⟩ entry_list_sort (list_sort_tree hoL ia (by rw [ha]; exact (by decide : 1 < 64)) fun out ns' a1 a2 a3 => ⟨_, rfl, ?_⟩) (args_list_sort _)))
  refine wpAny_pure ⟨_, rfl, ?_⟩
  obtain rfl : ns' = [g] := List.perm_singleton.mp a2
  have I1 : Inv X pins σ H { s with heap := h', toks := tk } := I.kept (t' := tk) hk
  have fr : H h'.objs.size = none := I1.hok.fresh (Nat.le_refl _)
  obtain ⟨ep2, eo⟩ := sortedHeap_at (out := out) hoL
  refine ⟨.ref h'.objs.size, upd H h'.objs.size (.lst [V.int g]), I1.laid (t' := tk) (fun b u q => ?_) (Nat.le_refl _) ⟨by rw [sizeLine_eq]; exact (by decide : 1 ≤ 16777216), out.toList, ep2, vals_ints (ns := [g]) a1, by rw [Array.toArray_toList]; exact eo⟩, rfl, q _ fr⟩
  rw [sortedHeap_old (Nat.ne_of_lt (Heap.lt_size q)) (by rw [Heap.size_push]; exact Nat.lt_succ_of_lt (Heap.lt_size q))]
  exact Heap.get?_push_of_some _ q
end
end L2
namespace L2
open PySem PySem.Spec PyProof.Rows
theorem call_set2K {X : Cx} {K : PySem.W.Frag} {w : World} (hK : X.K = K) (hw : X.w = w) (hc : X.calm = true) : CallR X (.type "set") (fun xs H Q => ∃ (a : Addr) (g : Int), xs = [.ref a] ∧ SqL K H a [.int g, .int g] ∧ ∀ r, H r = none → Q (.ref r) (upd H r (.ext (One1 w r g)))) := by subst hK; subst hw; exact call_set2 hc
theorem call_sorted1K {X : Cx} {w : World} (hw : X.w = w) (hc : X.calm = true) : CallR X (.builtin "sorted") (fun xs H Q => ∃ (r : Addr) (g : Int), xs = [.ref r] ∧ H r = some (.ext (One1 w r g)) ∧ ∀ l, H l = none → Q (.ref l) (upd H l (.lst [.int g]))) := by subst hw; exact call_sorted1 hc
theorem bt_set1 : bootBuiltins "set" = some (.type "set") := by decide +kernel
end L2
namespace TD
open PySem L2
inductive BadPl (H : Hp) (m : Int) : V → Prop where
  | no {v : V} (h : Oth H "list" v) : BadPl H m v
  | bad {a : Addr} {xs : List V} {bs : List Bool} (e : H a = some (.lst xs)) (h8 : xs.length ≤ 8) (hb : bs.length = xs.length) (h : ∀ (i : Nat) x, xs[i]? = some x → IsW H 1 m x (bs.getD i false)) (hf : bs.all id = false) : BadPl H m (.ref a)
  | two {a : Addr} {g : Int} (e : H a = some (.lst [.int g, .int g])) (h1 : 1 ≤ g) (h2 : g ≤ m) : BadPl H m (.ref a)
theorem BadPl.same {H H' : Hp} {m : Int} {v : V} (s : Same H H') (h : BadPl H m v) : BadPl H' m v := by
  cases h with
  | no h => exact .no (h.same s)
  | bad e h8 hb h hf => exact .bad (s _ _ e) h8 hb (fun i x hx => (h i x hx).same s) hf
  | two e h1 h2 => exact .two (s _ _ e) h1 h2
theorem BadPl.one {H : Hp} {m : Int} {a : Addr} {x : V} (e : H a = some (.lst [x])) (h : IsW H 1 m x false) : BadPl H m (.ref a) :=
  .bad (bs := [false]) e (by show 1 ≤ 8; decide) rfl (fun i y hy => by
    match i, hy with
    | 0, hy => cases hy; exact h
    | j + 1, hy => simp at hy) rfl
theorem BadPl.snd {H : Hp} {m : Int} {a : Addr} {x y : V} {b : Bool} (e : H a = some (.lst [x, y])) (h1 : IsW H 1 m x b) (h : IsW H 1 m y false) : BadPl H m (.ref a) :=
  .bad (bs := [b, false]) e (by show 2 ≤ 8; decide) rfl (fun i z hz => by
    match i, hz with
    | 0, hz => cases hz; exact h1
    | 1, hz => cases hz; exact h
    | j + 2, hz => simp at hz) (by simp)
def BadA (H : Hp) (v : V) (R : Int → Prop) : Prop := IsW H 1 60 v false ∨ ∃ m, v = .int m ∧ 1 ≤ m ∧ m ≤ 60 ∧ R m
def spNeedX (C : Addr) : Sp := fun vs H Q E => ∃ v b, vs = [v] ∧ IsW H 1 60 v b ∧ if b = true then Q .non H else E (.ref C) none H
def spPl : Sp := fun vs H Q _ => ∃ (v : V) (m : Int), vs = [v, .int m] ∧ BadPl H m v ∧ ∀ H', Same H H' → Q (.bl false) H'
def spNP (C : Addr) : Sp := fun vs H _ E => ∃ v p, vs = [v, p] ∧ BadA H v (fun m => BadPl H m p) ∧ ∀ H', Same H H' → E (.ref C) none H'
def spFBx (C : Addr) : Sp := fun vs H _ E => ∃ v p, vs = [v, p] ∧ BadA H v (fun m => IsW H 0 (m - 1) p false) ∧ E (.ref C) none H
def spBad1 (C : Addr) : Sp := fun vs H _ E => ∃ v, vs = [v] ∧ IsW H 1 60 v false ∧ E (.ref C) none H
def spNoM : Sp := fun vs H Q _ => ∃ c : Int, vs = [.int c] ∧ ∀ v H', Same H H' → IsW H' 1 60 v false → Q v H'
def spNoG : Sp := fun vs H Q _ => ∃ m c : Int, vs = [.int m, .int c] ∧ 1 ≤ m ∧ m ≤ 60 ∧ ∀ v H', Same H H' → IsW H' 0 (m - 1) v false → Q v H'
def spNoP : Sp := fun vs H Q _ => ∃ m c : Int, vs = [.int m, .int c] ∧ 1 ≤ m ∧ m ≤ 60 ∧ ∀ v H', Same H H' → BadPl H' m v → Q v H'
def spCalled : Sp := fun vs H Q _ => ∃ (k : Int) (v p : V), vs = [.int k, v, p] ∧ 0 ≤ k ∧ k ≤ 4 ∧ BadA H v (fun m => (k = 2 ∧ IsW H 0 (m - 1) p false) ∨ (2 < k ∧ BadPl H m p)) ∧ ∀ H', Same H H' → Q (.bl true) H'
def spLaw84 (K : PySem.W.Frag) : Sp := fun vs H Q _ => ∃ (a : Addr) (ns : List Int), vs = [.ref a] ∧ SqL K H a (ns.map V.int) ∧ ns.length ≤ 63 ∧ ∀ H', Q (.bl true) H'
end TD
namespace L2
open PySem PySem.Spec PyProof.Rows
structure QE (X : Cx) (e : Expr) (t : TE) : Prop where
  h : PE X e t
structure QT (X : Cx) (e : Expr) (t : TT) : Prop where
  h : PT X e t
structure QA (X : Cx) (es : List Expr) (t : TA) : Prop where
  h : PA X es t
structure QO (X : Cx) (e : Option Expr) (t : TO) : Prop where
  h : PO X e t
structure QP (X : Cx) (pos : Pos) (ks : List (Option Expr)) (vs : List Expr) (trs : List (TE × TE)) : Prop where
  h : PPs X pos ks vs trs
structure QS (X : Cx) (st : Stmt) (t : TS) : Prop where
  h : PS X st t
structure QSs (X : Cx) (st : List Stmt) (t : TS) : Prop where
  h : PSs X st t
section
variable {X : Cx} {pos pos' p p2 : Pos} {e a b : Expr} {es : List Expr} {te ta tb : TE} {t : TA} {x : Str} {st : Stmt} {rest : List Stmt} {ts us : TS}
theorem qv (i : Nat) {x : Str} {pos : Pos} (hN : X.N[i]? = some x := by rfl) (hv : Vis X.env.scope x := by first | exact Or.inl rfl | exact Or.inr (Or.inl rfl) | exact Or.inr (Or.inr rfl)) (hd : (x == ("__debug__" : Str)) = false := by decide)
    (hcd : (x == ("__classdict__" : Str)) = false := by decide) : QE X (.Name x pos) (tVar i) := ⟨pe_var hN hv hd hcd⟩
theorem qe_int {i : Int} {j : Nat} : QE X (.Constant (.int i) j pos) (tC (.int i)) := ⟨pe_int⟩
theorem qe_bl {c : Bool} {j : Nat} : QE X (.Constant (.bool c) j pos) (tC (.bl c)) := ⟨pe_bl⟩
theorem qe_non {j : Nat} : QE X (.Constant .none j pos) (tC .non) := ⟨pe_non⟩
theorem qe_str {y : Str} {j : Nat} : QE X (.Constant (.str y) j pos) (tC (.str y)) := ⟨pe_str⟩
theorem qe_op {op : Operator} {r : R2} (ho : OpR X (binaryOp op) r) (ha : QE X a ta) (hb : QE X b tb) : QE X (.BinOp a op b pos) (tOp r ta tb) := ⟨pe_op ho ha.h hb.h⟩
theorem qe_un {op : UnaryOp} {r : V → Hp → VK → Prop} (ho : UnR X (unaryOp op) r) (ha : QE X a ta) : QE X (.UnaryOp op a pos) (tUn r ta) := ⟨pe_un ho ha.h⟩
theorem qe_ix {r : R2} (hr : IxR X r) (ha : QE X a ta) (hb : QE X b tb) (hs : PlainIx b) : QE X (.Subscript a b pos) (tOp r ta tb) := ⟨pe_ix hr ha.h hb.h hs⟩
theorem qe_lst (h : QA X es t) : QE X (.List es pos) (tLst t) := ⟨pe_lst h.h⟩
theorem qe_tup {k : Nat} (h : QA X es t) : QE X (.Tuple es k pos) (tTup t) := ⟨pe_tup h.h⟩
theorem qa_nil : QA X [] tNil := ⟨pa_nil⟩
theorem qa_cons (ha : QE X e te) (hr : QA X es t) (hs : starEach (e :: es) X.env = (false, eval e X.env) :: starEach es X.env := by rfl) : QA X (e :: es) (tCons te t) := ⟨pa_cons ha.h hr.h hs⟩
theorem qe_callTy {T : String} {r : List V → Hp → VK → Prop} (hc : CallR X (.type T) r) (hg : Gl X x) (hm : X.mg x = none) (hv : bootBuiltins x = some (.type T)) (ha : QA X (e :: es) t) (hn : x ≠ "__name__" := by decide) (hdb : (x == ("__debug__" : Str)) = false := by decide)
    (he : starEach (e :: es) X.env = (false, eval e X.env) :: starEach es X.env := by rfl) (hpl : (backTo pos (starEach es X.env)).any (·.1) = false := by rfl) : QE X (.Call (.Name x p) (e :: es) [] pos) (tCB r t) := ⟨pe_callTy hc hg hm hv ha.h hn hdb he hpl⟩
theorem qs_set {i : Nat} (hN : X.N.Nodup) (hi : X.N[i]? = some x) (hx : Loc X.env.scope x) (he : QE X e te) (hs : swapsWith e (some (.Name x pos')) pos.line X.env = pure false := by rfl) (hf : X.fn x = true ∨ X.env.scope.names.lookup x = some .local := by first | exact .inl rfl | exact .inr rfl | assumption) :
    QS X (.Assign [.Name x pos'] e pos) (tAsg te (gName i)) := ⟨ps_set hN hi hx he.h hs hf⟩
theorem qs_ret (he : QE X e te) : QS X (.Return (some e) pos) (tRet te) := ⟨ps_ret he.h⟩
theorem qss_one (h1 : QS X st ts) : QSs X [st] ts := ⟨pss_one h1.h⟩
theorem qss_cons (h1 : QS X st ts) (h2 : QSs X rest us) : QSs X (st :: rest) (tSeq ts us) := ⟨pss_cons h1.h h2.h⟩
end
end L2
namespace L2
open PySem PySem.Spec PyProof.Rows
structure QW (X : Cx) (e : Expr) (t : TT) : Prop where
  h : PW X e t
section
variable {X : Cx} {CX : CXT} {k n : Nat} {f C : Addr} {fd : FuncData} {ps : List Str} {sp : Sp} {dvs : List V} {ds : List Value} {E : XK} {x m name : Str} {p pos apos cpos : Pos} {a b e o : Expr} {es rest : List Expr} {ta tb te to : TE} {t : TA} {tA tB' : TT} {T id : String} {r : V → List V → Hp → VK → Prop}
end
end L2
namespace L2
open PySem PySem.Spec PyProof.Rows
section
variable {prog : Program} {w : World} {A : Around} {E : Value → Shared → Prop} {s : Shared} {a₀ : Array PyProof.Rows.Keyed}
end
section
variable {X : Cx}
end
end L2
namespace L2
open PySem PySem.Spec PyProof.Rows
section
variable {X : Cx}
end
end L2
namespace L2
open PySem PySem.Spec PyProof.Rows
end L2
namespace L2
open PySem PySem.Spec PyProof.Rows
section
variable {X : Cx} {K : PySem.W.Frag} {o e : Expr} {es : List Expr} {ta to : TE} {t : TA} {f name : Str} {pos apos cpos : Pos} {T id : String} {r : V → List V → Hp → VK → Prop}
end
end L2
set_option maxHeartbeats 4000000
namespace K84
open PySem L2 TD
def top (i : Nat) : Stmt := PySem.Challenge.pw_lidprice_k84_ranks_refused.main.body.getD i (.Pass ⟨0, 0, 0, 0⟩)
theorem sc_is_whole : FnScope ["thing", "least", "most"] ["thing", "least", "most"] (defScope (top 14)) := ⟨rfl, rfl, rfl, by decide +kernel, rfl, by decide +kernel, by decide +kernel⟩
theorem sc_need_many : FnScope ["many"] ["many"] (defScope (top 28)) := ⟨rfl, rfl, rfl, by decide +kernel, rfl, by decide +kernel, by decide +kernel⟩
theorem sc_is_places : FnScope ["places", "many"] ["places", "many"] (defScope (top 29)) := ⟨rfl, rfl, rfl, by decide +kernel, rfl, by decide +kernel, by decide +kernel⟩
theorem sc_need_places : FnScope ["many", "places"] ["many", "places"] (defScope (top 30)) := ⟨rfl, rfl, rfl, by decide +kernel, rfl, by decide +kernel, by decide +kernel⟩
theorem sc_first_better : FnScope ["many", "gone"] ["many", "gone"] (defScope (top 31)) := ⟨rfl, rfl, rfl, by decide +kernel, rfl, by decide +kernel, by decide +kernel⟩
theorem sc_best_gone : FnScope ["many", "found", "gone"] ["many"] (defScope (top 32)) := ⟨rfl, rfl, rfl, by decide +kernel, rfl, by decide +kernel, by decide +kernel⟩
theorem sc_rank_worths : FnScope ["many", "found", "place", "later", "here"] ["many"] (defScope (top 33)) := ⟨rfl, rfl, rfl, by decide +kernel, rfl, by decide +kernel, by decide +kernel⟩
theorem sc_share_by : FnScope ["many", "places", "reached"] ["many", "places"] (defScope (top 35)) := ⟨rfl, rfl, rfl, by decide +kernel, rfl, by decide +kernel, by decide +kernel⟩
theorem sc_rank_losses : FnScope ["many", "places", "worths", "reached", "found", "place", "taken", "later", "lack"] ["many", "places"] (defScope (top 36)) := ⟨rfl, rfl, rfl, by decide +kernel, rfl, by decide +kernel, by decide +kernel⟩
theorem sc__law_cell : FnScope ["_law_script", "_law_k"] ["_law_script", "_law_k"] (defScope (top 38)) := ⟨rfl, rfl, rfl, by decide +kernel, rfl, by decide +kernel, by decide +kernel⟩
theorem sc__law_no_many : FnScope ["_law_cell_here", "_law_some"] ["_law_cell_here"] (defScope (top 40)) := ⟨rfl, rfl, rfl, by decide +kernel, rfl, by decide +kernel, by decide +kernel⟩
theorem sc__law_no_gone : FnScope ["_law_many", "_law_cell_here"] ["_law_many", "_law_cell_here"] (defScope (top 41)) := ⟨rfl, rfl, rfl, by decide +kernel, rfl, by decide +kernel, by decide +kernel⟩
theorem sc__law_no_places : FnScope ["_law_many", "_law_cell_here", "_law_good", "_law_some"] ["_law_many", "_law_cell_here"] (defScope (top 42)) := ⟨rfl, rfl, rfl, by decide +kernel, rfl, by decide +kernel, by decide +kernel⟩
theorem sc__law_called : FnScope ["_law_way", "_law_many", "_law_thing", "_law_kinds", "e"] ["_law_way", "_law_many", "_law_thing"] (defScope (top 43)) := ⟨rfl, rfl, rfl, by decide +kernel, rfl, by decide +kernel, by decide +kernel⟩
theorem sc_law : FnScope ["_law_script", "_law_many", "_law_bad", "_law_gone", "_law_places", "_law_way", "_law_thing"] ["_law_script"] (defScope (top 44)) := ⟨rfl, rfl, rfl, by decide +kernel, rfl, by decide +kernel, by decide +kernel⟩
end K84
namespace K84
open PySem L2 TD
open Builtin.Int (intBits)
section
variable {P : Program} {w : World} {K : PySem.W.Frag} {mg : Str → Option Value} {base : Heap} {C_NoRanks : Addr}
theorem ok_is_whole {n : Nat} {f : Addr} {fd : FuncData} (F : Fun K "is_whole" "is_whole" (top 14) f fd) (z_isinstance : mg "isinstance" = none) (z_bool : mg "bool" = none) (z_int : mg "int" = none) : FnOk P w K mg base CX0 (n + 1) f fd ["thing", "least", "most"] spIsWx := by
  refine F.ok sc_is_whole (fun vs H Q E h => ?_) (fun cdv A outer s H vs Q E hr h => ?_)
  · obtain ⟨v, lo, hi, b, rfl, _⟩ := h
    rfl
  obtain ⟨v, lo, hi, b, rfl, h, q⟩ := h
  have nd := sc_is_whole.nd
  refine ⟨_, (pss_one (ps_ret (pe_and (pe_callB (call_isinst (T := "int")) rfl z_isinstance bt_isinstance (pa_cons (pv 0) (pa_cons (pe_bltn (v := .ty "int") rfl z_int bt_int rfl) pa_nil))) (pe_and (pe_not (pe_callB (call_isinst (T := "bool")) rfl z_isinstance bt_isinstance (pa_cons (pv 0) (pa_cons (pe_bltn (v := .ty "bool") rfl z_bool bt_bool rfl) pa_nil)))) (pe_one (pe_chain op_le op_le (pv 1) (pv 0) (pv 2))))))), ?_⟩
  cases h with
  | no h =>
    obtain ⟨t, ht, hk⟩ := h K
    refine ⟨_, rfl, _, _, _, rfl, ht, hk, _, rfl, ?_⟩
    exact iteF q
  | bl c =>
    refine ⟨_, rfl, _, _, _, rfl, .bl c, kit_bool_int, _, rfl, ?_⟩
    refine iteT ?_
    refine ⟨_, rfl, _, _, _, rfl, .bl c, kit_same _, _, rfl, ?_⟩
    refine ⟨_, rfl, ?_⟩
    exact iteF q
  | int i =>
    refine ⟨_, rfl, _, _, _, rfl, .int i, kit_same _, _, rfl, ?_⟩
    refine iteT ?_
    refine ⟨_, rfl, _, _, _, rfl, .int i, kit_int_bool, _, rfl, ?_⟩
    refine ⟨_, rfl, ?_⟩
    refine iteT ?_
    refine ⟨_, rfl, _, rfl, _, _, rfl, rfl, _, rfl, ?_⟩
    by_cases h1 : lo ≤ i
    · refine ifT (decide_eq_true h1) ?_
      refine ⟨_, rfl, _, _, rfl, rfl, ?_⟩
      rw [decide_eq_true h1] at q
      exact q
    · refine ifF (decide_eq_false h1) ?_
      rw [decide_eq_false h1] at q
      exact q
theorem ok_need_many {n : Nat} {f : Addr} {fd : FuncData} (F : Fun K "need_many" "need_many" (top 28) f fd) (g_NoRanks : mg "NoRanks" = some (.ref C_NoRanks)) (x_NoRanks : XCls K C_NoRanks) {g_is_whole : Addr} {gd_is_whole : FuncData} (c_is_whole : Cal P w K mg base n "is_whole" ["thing", "least", "most"] spIsWx g_is_whole gd_is_whole) {u_MOST_RANKS : Value} (g_MOST_RANKS : mg "MOST_RANKS" = some u_MOST_RANKS) (r_MOST_RANKS : RelV (.int 60) u_MOST_RANKS) : FnOk P w K mg base (CXr P w) (n + 1) f fd ["many"] (spNeedX C_NoRanks) := by
  refine F.okX sc_need_many (fun vs H Q E h => ?_) (fun cdv A outer s H vs Q E hr h => ?_)
  · obtain ⟨v, b, rfl, _⟩ := h
    rfl
  obtain ⟨v, b, rfl, h, q⟩ := h
  have nd := sc_need_many.nd
  refine ⟨_, (pss_one (ps_if (PT.nox (pt_not (pt_val (pe_callC c_is_whole hr (pa_cons (pv 0) (pa_cons pe_int (pa_cons (pe_glob (v := .int 60) rfl g_MOST_RANKS r_MOST_RANKS) pa_nil))))))) (pss_one (ps_raise throws_cx rfl rfl g_NoRanks x_NoRanks)) pss_nil)), ?_⟩
  refine ⟨_, rfl, v, 1, 60, b, rfl, h, ?_⟩
  refine ⟨_, rfl, ?_⟩
  cases b with
  | true => exact iteF q
  | false => exact iteT q
theorem ok_is_places {n : Nat} {f : Addr} {fd : FuncData} (F : Fun K "is_places" "is_places" (top 29) f fd) {g_is_whole : Addr} {gd_is_whole : FuncData} (c_is_whole : Cal P w K mg base n "is_whole" ["thing", "least", "most"] spIsWx g_is_whole gd_is_whole) (z_all : mg "all" = none) (z_isinstance : mg "isinstance" = none) (z_list : mg "list" = none) (z_set : mg "set" = none) (z_sorted : mg "sorted" = none) : FnOk P w K mg base CX0 (n + 1) f fd ["places", "many"] spPl := by
  refine F.ok sc_is_places (fun vs H Q E h => ?_) (fun cdv A outer s H vs Q E hr h => ?_)
  · obtain ⟨v, m, rfl, _⟩ := h
    rfl
  obtain ⟨v, m, rfl, h, q⟩ := h
  have nd := sc_is_places.nd
  have hu1 : _ + 0 + 1 < cLine := Nat.lt_of_le_of_lt (Nat.add_le_add_left (by decide : 1 ≤ 64) _) (Room.units hr)
  refine ⟨_, (pss_cons (ps_if (PW.pt (pw_or (pt_not (pt_val (pe_callB (call_isinst (T := "list")) rfl z_isinstance bt_isinstance (pa_cons (pv 0) (pa_cons (pe_bltn (v := .ty "list") rfl z_list bt_list rfl) pa_nil))))) (pw_or1 (pt_not (pt_val (pe_callB (call_allL rfl rfl) rfl z_all bt_all (pa_cons (pe_comp (ls := ["place"]) (M := ["places", "many"]) rfl (CompOk.of (by rfl)) (NL.of (by rfl)) (pi_list (pv 0)) (fun _ _ _ _ => ⟨(pg_name (i := 0) (nd_of (by rfl)) rfl (Or.inl rfl)), pts_nil, (pe_callC c_is_whole hr (pa_cons (pv 0) (pa_cons pe_int (pa_cons (pv 2) pa_nil))))⟩)) pa_nil))))))) (pss_one (ps_ret pe_bl)) pss_nil) (pss_one (ps_ret (pe_cmpR (op_eqD (n := 0) hu1) (pv 0) (pe_callB (call_sorted1K (w := w) rfl rfl) rfl z_sorted bt_sorted (pa_cons (pe_callTy (call_set2K (K := K) (w := w) rfl rfl rfl) rfl z_set bt_set1 (pa_cons (pv 0) pa_nil)) pa_nil)) (nomark _))))), ?_⟩
  cases h with
  | no h =>
    obtain ⟨t, ht, hk⟩ := h K
    refine ⟨_, rfl, _, _, _, rfl, ht, hk, _, rfl, ?_⟩
    exact iteT (iteT (q H (Same.refl _)))
  | @bad a xs bs e h8 hb h hf =>
    refine ⟨_, rfl, _, _, _, rfl, .lst e, kit_same _, _, rfl, ?_⟩
    refine iteF ?_
    refine ⟨_, rfl, a, rfl, ⟨_, SqL.of e⟩, fun D hD => ?_⟩
    refine comp_list (xs := xs) (fun i τ H' => ∃ v0, τ = [v0, some (.ref a), some (.int m)] ∧ Same H H' ∧ H' D = some (.lst ((bs.take i).map V.bl))) ⟨none, rfl, same_new hD _, upd_same⟩ ?keep ?turn ?done
    case keep =>
      rintro i τ H' hi ⟨v0, rfl, hs, _⟩
      exact SqL.of (hs _ _ e)
    case turn =>
      rintro i mm v τ H' hm hi hv ⟨v0, rfl, hs, hD'⟩
      have hib : i < bs.length := by omega
      have eb : bs[i]? = some (bs.getD i false) := by rw [List.getElem?_eq_getElem hib, getD_at hib]
      refine gyes ?_
      refine ⟨_, rfl, _, rfl, v, 1, m, bs.getD i false, rfl, (h i v hv).same hs, ?_⟩
      refine comp_next hm hi hD' (by rw [List.length_map, List.length_take]; exact small1000 (by omega)) ⟨_, rfl, hs.upd_new hD _, ?_⟩
      rw [upd_same, take_snoc eb, List.map_append]
      rfl
    case done =>
      rintro τ H' ⟨v0, rfl, hs, hD'⟩
      rw [← hb, List.take_length] at hD'
      refine ⟨D, bs, rfl, SqL.of hD', _, rfl, ?_⟩
      rw [hf]
      exact iteT (q H' hs)
  | @two a g e h1 h2 =>
    refine ⟨_, rfl, _, _, _, rfl, .lst e, kit_same _, _, rfl, ?_⟩
    refine iteF ?_
    refine ⟨_, rfl, a, rfl, ⟨_, SqL.of e⟩, fun D hD => ?_⟩
    have hb : [true, true].length = [V.int g, V.int g].length := rfl
    have h8 : [V.int g, V.int g].length ≤ 8 := (by decide : 2 ≤ 8)
    have h : ∀ (i : Nat) x, [V.int g, V.int g][i]? = some x → IsW H 1 m x ([true, true].getD i false) := fun i x hx => by
      match i, hx with
      | 0, hx => cases hx; exact IsW.yes h1 h2
      | 1, hx => cases hx; exact IsW.yes h1 h2
      | j + 2, hx => simp at hx
    refine comp_list (xs := [V.int g, V.int g]) (fun i τ H' => ∃ v0, τ = [v0, some (.ref a), some (.int m)] ∧ Same H H' ∧ H' D = some (.lst (([true, true].take i).map V.bl))) ⟨none, rfl, same_new hD _, upd_same⟩ ?keep ?turn ?done
    case keep =>
      rintro i τ H' hi ⟨v0, rfl, hs, _⟩
      exact SqL.of (hs _ _ e)
    case turn =>
      rintro i mm v τ H' hm hi hv ⟨v0, rfl, hs, hD'⟩
      have hib : i < [true, true].length := by omega
      have eb : [true, true][i]? = some ([true, true].getD i false) := by rw [List.getElem?_eq_getElem hib, getD_at hib]
      refine gyes ?_
      refine ⟨_, rfl, _, rfl, v, 1, m, [true, true].getD i false, rfl, (h i v hv).same hs, ?_⟩
      refine comp_next hm hi hD' (by rw [List.length_map, List.length_take]; exact small1000 (by omega)) ⟨_, rfl, hs.upd_new hD _, ?_⟩
      rw [upd_same, take_snoc eb, List.map_append]
      rfl
    case done =>
      rintro τ H' ⟨v0, rfl, hs, hD'⟩
      refine ⟨D, [true, true], rfl, SqL.of hD', _, rfl, ?_⟩
      refine iteF ?_
      refine ⟨_, rfl, _, rfl, a, g, rfl, SqL.of (hs _ _ e), fun r hr => ?_⟩
      have s1 := same_new hr (.ext (One1 w r g))
      refine ⟨r, g, rfl, upd_same, fun l hl => ?_⟩
      have s2 := same_new hl (.lst [V.int g])
      exact ⟨a, l, false, rfl, rfl, DE.lstN (SqL.of ((hs.trans (s1.trans s2)) _ _ e)) (SqL.of upd_same) (by show 2 ≠ 1; decide), q _ (hs.trans (s1.trans s2))⟩
theorem ok_need_places {n : Nat} {f : Addr} {fd : FuncData} (F : Fun K "need_places" "need_places" (top 30) f fd) (g_NoRanks : mg "NoRanks" = some (.ref C_NoRanks)) (x_NoRanks : XCls K C_NoRanks) {g_need_many : Addr} {gd_need_many : FuncData} (c_need_many : CalX P w K mg base n "need_many" ["many"] (spNeedX C_NoRanks) g_need_many gd_need_many) {g_is_places : Addr} {gd_is_places : FuncData} (c_is_places : Cal P w K mg base n "is_places" ["places", "many"] spPl g_is_places gd_is_places) : FnOk P w K mg base (CXr P w) (n + 1) f fd ["many", "places"] (spNP C_NoRanks) := by
  refine F.okX sc_need_places (fun vs H Q E h => ?_) (fun cdv A outer s H vs Q E hr h => ?_)
  · obtain ⟨v, p, rfl, _⟩ := h
    rfl
  obtain ⟨v, p, rfl, h, q⟩ := h
  have nd := sc_need_places.nd
  refine ⟨_, (pss_cons (ps_expr (pe_callX c_need_many hr passes_cx (pa_cons (pv 0) pa_nil))) (pss_one (ps_if (PT.nox (pt_not (pt_val (pe_callC c_is_places hr (pa_cons (pv 1) (pa_cons (pv 0) pa_nil)))))) (pss_one (ps_raise throws_cx rfl rfl g_NoRanks x_NoRanks)) pss_nil))), ?_⟩
  rcases h with h | ⟨m, rfl, m1, m2, h⟩
  · exact ⟨_, rfl, v, false, rfl, h, iteF (q H (Same.refl _))⟩
  refine ⟨_, rfl, _, true, rfl, IsW.yes m1 m2, iteT ?_⟩
  refine ⟨_, rfl, _, rfl, p, m, rfl, h, fun H1 s1 => ?_⟩
  refine ⟨_, rfl, ?_⟩
  exact iteT (q H1 s1)
theorem ok_first_better {n : Nat} {f : Addr} {fd : FuncData} (F : Fun K "first_better" "first_better" (top 31) f fd) (g_NoRanks : mg "NoRanks" = some (.ref C_NoRanks)) (x_NoRanks : XCls K C_NoRanks) {g_need_many : Addr} {gd_need_many : FuncData} (c_need_many : CalX P w K mg base n "need_many" ["many"] (spNeedX C_NoRanks) g_need_many gd_need_many) {g_is_whole : Addr} {gd_is_whole : FuncData} (c_is_whole : Cal P w K mg base n "is_whole" ["thing", "least", "most"] spIsWx g_is_whole gd_is_whole) : FnOk P w K mg base (CXr P w) (n + 1) f fd ["many", "gone"] (spFBx C_NoRanks) := by
  refine F.okX sc_first_better (fun vs H Q E h => ?_) (fun cdv A outer s H vs Q E hr h => ?_)
  · obtain ⟨v, p, rfl, _⟩ := h
    rfl
  obtain ⟨v, p, rfl, h, q⟩ := h
  have nd := sc_first_better.nd
  refine ⟨_, (pss_cons (ps_expr (pe_callX c_need_many hr passes_cx (pa_cons (pv 0) pa_nil))) (pss_cons (ps_if (PT.nox (pt_not (pt_val (pe_callC c_is_whole hr (pa_cons (pv 1) (pa_cons pe_int (pa_cons (pe_op op_sub (pv 0) pe_int) pa_nil))))))) (pss_one (ps_raise throws_cx rfl rfl g_NoRanks x_NoRanks)) pss_nil) pss_never)), ?_⟩
  rcases h with h | ⟨m, rfl, m1, m2, h⟩
  · exact ⟨_, rfl, v, false, rfl, h, iteF q⟩
  refine ⟨_, rfl, _, true, rfl, IsW.yes m1 m2, iteT ?_⟩
  refine ⟨_, rfl, _, rfl, _, _, rfl, rfl, p, 0, m - 1, false, rfl, h, ?_⟩
  refine ⟨_, rfl, ?_⟩
  exact iteT q
theorem ok_best_gone {n : Nat} {f : Addr} {fd : FuncData} (F : Fun K "best_gone" "best_gone" (top 32) f fd) {g_need_many : Addr} {gd_need_many : FuncData} (c_need_many : CalX P w K mg base n "need_many" ["many"] (spNeedX C_NoRanks) g_need_many gd_need_many) : FnOk P w K mg base (CXr P w) (n + 1) f fd ["many"] (spBad1 C_NoRanks) := by
  refine F.okX sc_best_gone (fun vs H Q E h => ?_) (fun cdv A outer s H vs Q E hr h => ?_)
  · obtain ⟨v, rfl, _⟩ := h
    rfl
  obtain ⟨v, rfl, h, q⟩ := h
  have nd := sc_best_gone.nd
  refine ⟨_, (pss_cons (ps_expr (pe_callX c_need_many hr passes_cx (pa_cons (pv 0) pa_nil))) pss_never), ?_⟩
  exact ⟨_, rfl, v, false, rfl, h, iteF q⟩
theorem ok_rank_worths {n : Nat} {f : Addr} {fd : FuncData} (F : Fun K "rank_worths" "rank_worths" (top 33) f fd) {g_need_many : Addr} {gd_need_many : FuncData} (c_need_many : CalX P w K mg base n "need_many" ["many"] (spNeedX C_NoRanks) g_need_many gd_need_many) : FnOk P w K mg base (CXr P w) (n + 1) f fd ["many"] (spBad1 C_NoRanks) := by
  refine F.okX sc_rank_worths (fun vs H Q E h => ?_) (fun cdv A outer s H vs Q E hr h => ?_)
  · obtain ⟨v, rfl, _⟩ := h
    rfl
  obtain ⟨v, rfl, h, q⟩ := h
  have nd := sc_rank_worths.nd
  refine ⟨_, (pss_cons (ps_expr (pe_callX c_need_many hr passes_cx (pa_cons (pv 0) pa_nil))) pss_never), ?_⟩
  exact ⟨_, rfl, v, false, rfl, h, iteF q⟩
theorem ok_share_by {n : Nat} {f : Addr} {fd : FuncData} (F : Fun K "share_by" "share_by" (top 35) f fd) {g_need_places : Addr} {gd_need_places : FuncData} (c_need_places : CalX P w K mg base n "need_places" ["many", "places"] (spNP C_NoRanks) g_need_places gd_need_places) : FnOk P w K mg base (CXr P w) (n + 1) f fd ["many", "places"] (spNP C_NoRanks) := by
  refine F.okX sc_share_by (fun vs H Q E h => ?_) (fun cdv A outer s H vs Q E hr h => ?_)
  · obtain ⟨v, p, rfl, _⟩ := h
    rfl
  obtain ⟨v, p, rfl, h, q⟩ := h
  have nd := sc_share_by.nd
  refine ⟨_, (pss_cons (ps_expr (pe_callX c_need_places hr passes_cx (pa_cons (pv 0) (pa_cons (pv 1) pa_nil)))) pss_never), ?_⟩
  exact ⟨_, rfl, _, rfl, v, p, rfl, h, q⟩
theorem ok_rank_losses {n : Nat} {f : Addr} {fd : FuncData} (F : Fun K "rank_losses" "rank_losses" (top 36) f fd) {g_need_places : Addr} {gd_need_places : FuncData} (c_need_places : CalX P w K mg base n "need_places" ["many", "places"] (spNP C_NoRanks) g_need_places gd_need_places) : FnOk P w K mg base (CXr P w) (n + 1) f fd ["many", "places"] (spNP C_NoRanks) := by
  refine F.okX sc_rank_losses (fun vs H Q E h => ?_) (fun cdv A outer s H vs Q E hr h => ?_)
  · obtain ⟨v, p, rfl, _⟩ := h
    rfl
  obtain ⟨v, p, rfl, h, q⟩ := h
  have nd := sc_rank_losses.nd
  refine ⟨_, (pss_cons (ps_expr (pe_callX c_need_places hr passes_cx (pa_cons (pv 0) (pa_cons (pv 1) pa_nil)))) pss_never), ?_⟩
  exact ⟨_, rfl, _, rfl, v, p, rfl, h, q⟩
theorem ok__law_cell {n : Nat} {f : Addr} {fd : FuncData} (F : Fun K "_law_cell" "_law_cell" (top 38) f fd) (z_len : mg "len" = none) : FnOk P w K mg base CX0 (n + 1) f fd ["_law_script", "_law_k"] (spCell K) := by
  refine F.ok sc__law_cell (fun vs H Q E h => ?_) (fun cdv A outer s H vs Q E hr h => ?_)
  · obtain ⟨a, ns, k, rfl, _⟩ := h
    rfl
  obtain ⟨a, ns, k, rfl, hS, h0, q⟩ := h
  have nd := sc__law_cell.nd
  refine ⟨_, (pss_cons (ps_if (pt_cmpR op_lt (pv 1) (pe_callB call_len_seq rfl z_len bt_len (pa_cons (pv 0) pa_nil)) (nomark _)) (pss_one (ps_ret (pe_ix ix_list (pv 0) (pv 1) (fun _ _ => rfl)))) pss_nil) (pss_one (ps_ret (pe_op op_add (pe_op op_mul pe_int (pv 1)) pe_int)))), ?_⟩
  have hl : (ns.map V.int).length = ns.length := List.length_map _
  refine ⟨_, rfl, _, rfl, a, _, rfl, .inl hS, _, _, rfl, rfl, _, rfl, ?_⟩
  refine ite2 (fun c => ?_) (fun c => ?_)
  · have c' : k < (((ns.map V.int).length : Nat) : Int) := of_decide_eq_true c
    rw [hl] at c'
    refine ⟨_, rfl, _, rfl, a, _, _, _, rfl, rfl, hS, atI_ints h0 c', ?_⟩
    unfold cellF at q
    rw [if_pos c'] at q
    exact q
  · have c' : ¬ k < (((ns.map V.int).length : Nat) : Int) := of_decide_eq_false (Bool.eq_false_iff.mpr c)
    rw [hl] at c'
    unfold cellF at q
    rw [if_neg c'] at q
    exact ⟨_, rfl, _, _, rfl, rfl, .inl ⟨by decide, by decide⟩, _, _, rfl, rfl, q⟩
theorem powOk2 (e : Int) (h1 : 0 ≤ e) (h2 : e ≤ 1000000) : CPow 10 e := ⟨h1, h2, by decide⟩
theorem oth {H : Hp} {T : String} {v : V} {t : Value} (h1 : ∀ K : PySem.W.Frag, TyOf K H v t) (h2 : ∀ K : PySem.W.Frag, PySem.W.kitOne K t (.type T) = some false) : Oth H T v := fun K => ⟨t, h1 K, h2 K⟩
theorem szs {n : Nat} (h : n ≤ 1000) : n ≤ sizeLine := Nat.le_of_lt (small1000 h)
theorem pick8 {v0 v1 v2 v3 v4 v5 v6 v7 : V} {m : Int} {R : V → Prop} (h0 : R v0) (h1 : R v1) (h2 : R v2) (h3 : R v3) (h4 : R v4) (h5 : R v5) (h6 : R v6) (h7 : R v7) : ∃ v, atI [v0, v1, v2, v3, v4, v5, v6, v7] (m % 8) = some v ∧ R v := by
  have a1 := Int.emod_nonneg m (show (8 : Int) ≠ 0 by decide)
  have a2 := Int.emod_lt_of_pos m (show (0 : Int) < 8 by decide)
  rcases (by omega : m % 8 = 0 ∨ m % 8 = 1 ∨ m % 8 = 2 ∨ m % 8 = 3 ∨ m % 8 = 4 ∨ m % 8 = 5 ∨ m % 8 = 6 ∨ m % 8 = 7) with e | e | e | e | e | e | e | e <;> rw [e]
  · exact ⟨_, rfl, h0⟩
  · exact ⟨_, rfl, h1⟩
  · exact ⟨_, rfl, h2⟩
  · exact ⟨_, rfl, h3⟩
  · exact ⟨_, rfl, h4⟩
  · exact ⟨_, rfl, h5⟩
  · exact ⟨_, rfl, h6⟩
  · exact ⟨_, rfl, h7⟩
theorem pick10 {v0 v1 v2 v3 v4 v5 v6 v7 v8 v9 : V} {m : Int} {R : V → Prop} (h0 : R v0) (h1 : R v1) (h2 : R v2) (h3 : R v3) (h4 : R v4) (h5 : R v5) (h6 : R v6) (h7 : R v7) (h8 : R v8) (h9 : R v9) : ∃ v, atI [v0, v1, v2, v3, v4, v5, v6, v7, v8, v9] (m % 10) = some v ∧ R v := by
  have a1 := Int.emod_nonneg m (show (10 : Int) ≠ 0 by decide)
  have a2 := Int.emod_lt_of_pos m (show (0 : Int) < 10 by decide)
  rcases (by omega : m % 10 = 0 ∨ m % 10 = 1 ∨ m % 10 = 2 ∨ m % 10 = 3 ∨ m % 10 = 4 ∨ m % 10 = 5 ∨ m % 10 = 6 ∨ m % 10 = 7 ∨ m % 10 = 8 ∨ m % 10 = 9) with e | e | e | e | e | e | e | e | e | e <;> rw [e]
  · exact ⟨_, rfl, h0⟩
  · exact ⟨_, rfl, h1⟩
  · exact ⟨_, rfl, h2⟩
  · exact ⟨_, rfl, h3⟩
  · exact ⟨_, rfl, h4⟩
  · exact ⟨_, rfl, h5⟩
  · exact ⟨_, rfl, h6⟩
  · exact ⟨_, rfl, h7⟩
  · exact ⟨_, rfl, h8⟩
  · exact ⟨_, rfl, h9⟩
theorem pick12 {v0 v1 v2 v3 v4 v5 v6 v7 v8 v9 v10 v11 : V} {m : Int} {R : V → Prop} (h0 : R v0) (h1 : R v1) (h2 : R v2) (h3 : R v3) (h4 : R v4) (h5 : R v5) (h6 : R v6) (h7 : R v7) (h8 : R v8) (h9 : R v9) (h10 : R v10) (h11 : R v11) : ∃ v, atI [v0, v1, v2, v3, v4, v5, v6, v7, v8, v9, v10, v11] (m % 12) = some v ∧ R v := by
  have a1 := Int.emod_nonneg m (show (12 : Int) ≠ 0 by decide)
  have a2 := Int.emod_lt_of_pos m (show (0 : Int) < 12 by decide)
  rcases (by omega : m % 12 = 0 ∨ m % 12 = 1 ∨ m % 12 = 2 ∨ m % 12 = 3 ∨ m % 12 = 4 ∨ m % 12 = 5 ∨ m % 12 = 6 ∨ m % 12 = 7 ∨ m % 12 = 8 ∨ m % 12 = 9 ∨ m % 12 = 10 ∨ m % 12 = 11) with e | e | e | e | e | e | e | e | e | e | e | e <;> rw [e]
  · exact ⟨_, rfl, h0⟩
  · exact ⟨_, rfl, h1⟩
  · exact ⟨_, rfl, h2⟩
  · exact ⟨_, rfl, h3⟩
  · exact ⟨_, rfl, h4⟩
  · exact ⟨_, rfl, h5⟩
  · exact ⟨_, rfl, h6⟩
  · exact ⟨_, rfl, h7⟩
  · exact ⟨_, rfl, h8⟩
  · exact ⟨_, rfl, h9⟩
  · exact ⟨_, rfl, h10⟩
  · exact ⟨_, rfl, h11⟩
theorem ok__law_no_many {n : Nat} {f : Addr} {fd : FuncData} (F : Fun K "_law_no_many" "_law_no_many" (top 40) f fd) : FnOk P w K mg base CX0 (n + 1) f fd ["_law_cell_here"] spNoM := by
  refine F.ok sc__law_no_many (fun vs H Q E h => ?_) (fun cdv A outer s H vs Q E hr h => ?_)
  · obtain ⟨c, rfl, _⟩ := h
    rfl
  obtain ⟨c, rfl, q⟩ := h
  have nd := sc__law_no_many.nd
  refine ⟨_, QSs.h (qss_cons (qs_set (i := 1) nd rfl (Or.inl rfl) (qe_lst (qa_cons qe_int (qa_cons (qe_un un_neg qe_int) (qa_cons qe_int (qa_cons (qe_op op_add qe_int (qe_op op_mod (qe_op op_fdiv (qv 0) qe_int) (qe_op op_pow qe_int qe_int))) (qa_cons qe_bl (qa_cons qe_non (qa_cons qe_str (qa_cons (qe_lst (qa_cons qe_int qa_nil)) (qa_cons (qe_tup (qa_cons qe_int qa_nil)) (qa_cons qe_bl qa_nil)))))))))))) (qss_one (qs_ret (qe_ix ix_list (qv 1) (qe_op op_mod (qv 0) qe_int) (fun _ _ => rfl))))), ?_⟩
  have big := Int.emod_nonneg (c / 10) (show (100000000000000000000 : Int) ≠ 0 by decide)
  refine ⟨_, rfl, _, rfl, _, _, rfl, rfl, ⟨by decide, by decide⟩, _, _, rfl, rfl, powOk2 20 (by decide) (by decide), _, _, rfl, rfl, (by show (0 : Int) < 100000000000000000000; decide), _, _, rfl, rfl, ?_⟩
  refine ⟨sz1, fun l1 h1 => ?_⟩
  have t1 := same_new h1 (.lst [V.int 3])
  refine ⟨sz1, fun l2 h2 => ?_⟩
  have t2 := same_new h2 (.tup [V.int 3])
  refine ⟨szs (by decide : 10 ≤ 1000), fun S hS => ?_⟩
  have tS := same_new hS (.lst [V.int 0, V.int (-1), V.int 61, V.int (61 + c / 10 % 100000000000000000000), V.bl true, V.non, V.str "3", V.ref l1, V.ref l2, V.bl false])
  obtain ⟨v, hv, iw⟩ := pick10 (m := c) (R := fun v => IsW _ 1 60 v false) (v0 := V.int 0) (v1 := V.int (-1)) (v2 := V.int 61) (v3 := V.int (61 + c / 10 % 100000000000000000000)) (IsW.not (by omega)) (IsW.not (by omega)) (IsW.not (by omega)) (IsW.not (by omega)) (IsW.bl true) (IsW.no (oth (fun K => .non) fun K => rfl)) (IsW.no (oth (fun K => .str "3") fun K => rfl))
    (IsW.no (oth (fun K => .lst ((t2.trans tS) _ _ upd_same)) fun K => rfl)) (IsW.no (oth (fun K => .tup (tS _ _ upd_same)) fun K => rfl)) (IsW.bl false)
  refine ⟨_, rfl, _, rfl, _, _, rfl, rfl, (by show (0 : Int) < 10; decide), S, _, _, _, rfl, rfl, SqL.of upd_same, hv, ?_⟩
  exact q v _ (t1.trans (t2.trans tS)) iw
theorem ok__law_no_gone {n : Nat} {f : Addr} {fd : FuncData} (F : Fun K "_law_no_gone" "_law_no_gone" (top 41) f fd) : FnOk P w K mg base CX0 (n + 1) f fd ["_law_many", "_law_cell_here"] spNoG := by
  refine F.ok sc__law_no_gone (fun vs H Q E h => ?_) (fun cdv A outer s H vs Q E hr h => ?_)
  · obtain ⟨m, c, rfl, _⟩ := h
    rfl
  obtain ⟨m, c, rfl, m1, m2, q⟩ := h
  have nd := sc__law_no_gone.nd
  refine ⟨_, QSs.h (qss_one (qs_ret (qe_ix ix_list (qe_lst (qa_cons (qe_un un_neg qe_int) (qa_cons (qv 0) (qa_cons (qe_op op_add (qv 0) (qe_op op_mod (qe_op op_fdiv (qv 1) qe_int) (qe_op op_pow qe_int qe_int))) (qa_cons qe_bl (qa_cons qe_non (qa_cons qe_str (qa_cons (qe_lst (qa_cons qe_int qa_nil)) (qa_cons qe_bl qa_nil))))))))) (qe_op op_mod (qv 1) qe_int) (fun _ _ => rfl)))), ?_⟩
  have big := Int.emod_nonneg (c / 8) (show (100000000000000000000 : Int) ≠ 0 by decide)
  refine ⟨_, rfl, _, rfl, _, rfl, _, rfl, _, _, rfl, rfl, ⟨by decide, by decide⟩, _, _, rfl, rfl, powOk2 20 (by decide) (by decide), _, _, rfl, rfl, (by show (0 : Int) < 100000000000000000000; decide), _, _, rfl, rfl, ?_⟩
  refine ⟨sz1, fun l1 h1 => ?_⟩
  have t1 := same_new h1 (.lst [V.int 0])
  refine ⟨szs (by decide : 8 ≤ 1000), fun S hS => ?_⟩
  have tS := same_new hS (.lst [V.int (-1), V.int m, V.int (m + c / 8 % 100000000000000000000), V.bl true, V.non, V.str "0", V.ref l1, V.bl false])
  obtain ⟨v, hv, iw⟩ := pick8 (m := c) (R := fun v => IsW _ 0 (m - 1) v false) (v0 := V.int (-1)) (v1 := V.int m) (v2 := V.int (m + c / 8 % 100000000000000000000)) (IsW.not (by omega)) (IsW.not (by omega)) (IsW.not (by omega)) (IsW.bl true) (IsW.no (oth (fun K => .non) fun K => rfl)) (IsW.no (oth (fun K => .str "0") fun K => rfl))
    (IsW.no (oth (fun K => .lst (tS _ _ upd_same)) fun K => rfl)) (IsW.bl false)
  refine ⟨_, rfl, _, _, rfl, rfl, (by show (0 : Int) < 8; decide), S, _, _, _, rfl, rfl, SqL.of upd_same, hv, ?_⟩
  exact q v _ (t1.trans tS) iw
theorem ok__law_no_places {n : Nat} {f : Addr} {fd : FuncData} (F : Fun K "_law_no_places" "_law_no_places" (top 42) f fd) (z_tuple : mg "tuple" = none) : FnOk P w K mg base CX0 (n + 1) f fd ["_law_many", "_law_cell_here"] spNoP := by
  refine F.ok sc__law_no_places (fun vs H Q E h => ?_) (fun cdv A outer s H vs Q E hr h => ?_)
  · obtain ⟨m, c, rfl, _⟩ := h
    rfl
  obtain ⟨m, c, rfl, m1, m2, q⟩ := h
  have nd := sc__law_no_places.nd
  refine ⟨_, QSs.h (qss_cons (qs_set (i := 2) nd rfl (Or.inl rfl) (qe_lst (qa_cons (qe_op op_add qe_int (qe_op op_mod (qe_op op_fdiv (qv 1) qe_int) (qv 0))) qa_nil))) (qss_cons (qs_set (i := 3) nd rfl (Or.inl rfl) (qe_lst (qa_cons (qe_lst (qa_cons qe_int qa_nil)) (qa_cons (qe_lst (qa_cons (qe_op op_add (qv 0) qe_int) qa_nil)) (qa_cons (qe_op op_cat (qv 2) (qv 2)) (qa_cons (qe_lst (qa_cons (qe_op op_add (qe_op op_add (qv 0) qe_int) (qe_op op_mod (qe_op op_fdiv (qv 1) qe_int) (qe_op op_pow qe_int qe_int))) qa_nil)) (qa_cons (qe_callTy (call_tuple_ofK (K := K) rfl) rfl z_tuple bt_tuple (qa_cons (qv 2) qa_nil)) (qa_cons qe_non (qa_cons qe_int (qa_cons qe_str (qa_cons (qe_lst (qa_cons qe_bl qa_nil)) qa_nil))))))))))) (qss_one (qs_ret (qe_ix ix_list (qe_op op_cat (qv 3) (qe_lst (qa_cons (qe_op op_cat (qv 2) (qe_lst (qa_cons qe_int qa_nil))) (qa_cons (qe_lst (qa_cons qe_non qa_nil)) (qa_cons (qe_lst (qa_cons (qv 2) qa_nil)) qa_nil))))) (qe_op op_mod (qv 1) qe_int) (fun _ _ => rfl)))))), ?_⟩
  have big := Int.emod_nonneg (c / 12) (show (100000000000000000000 : Int) ≠ 0 by decide)
  have g1 := Int.emod_nonneg (c / 12) (show m ≠ 0 by omega)
  have g2 := Int.emod_lt_of_pos (c / 12) (show (0 : Int) < m by omega)
  refine ⟨_, rfl, _, _, rfl, rfl, ⟨by decide, by decide⟩, _, rfl, _, _, rfl, rfl, (by show 0 < m; omega), _, _, rfl, rfl, ?_⟩
  refine ⟨sz1, fun G hG => ?_⟩
  have tG := same_new hG (.lst [V.int (1 + c / 12 % m)])
  refine ⟨sz1, fun l1 h1 => ?_⟩
  have u1 := same_new h1 (.lst [V.int 0])
  refine ⟨_, rfl, _, _, rfl, rfl, sz1, fun l2 h2 => ?_⟩
  have u2 := same_new h2 (.lst [V.int (m + 1)])
  have eG : upd H G (.lst [V.int (1 + c / 12 % m)]) G = some (.lst [V.int (1 + c / 12 % m)]) := upd_same
  refine ⟨_, rfl, _, rfl, G, G, _, _, rfl, rfl, (u1.trans u2) _ _ eG, (u1.trans u2) _ _ eG, szs (by decide : 1 + 1 ≤ 1000), fun l3 h3 => ?_⟩
  have u3 := same_new h3 (.lst [V.int (1 + c / 12 % m), V.int (1 + c / 12 % m)])
  refine ⟨_, rfl, _, _, rfl, rfl, _, rfl, _, _, rfl, rfl, ⟨by decide, by decide⟩, _, _, rfl, rfl, powOk2 20 (by decide) (by decide), _, _, rfl, rfl, (by show (0 : Int) < 100000000000000000000; decide), _, _, rfl, rfl, sz1, fun l4 h4 => ?_⟩
  have u4 := same_new h4 (.lst [V.int (m + 1 + c / 12 % 100000000000000000000)])
  refine ⟨_, rfl, G, _, rfl, .inl ⟨SqL.of ((u1.trans (u2.trans (u3.trans u4))) _ _ eG), fun l5 h5 => ?_⟩⟩
  have u5 := same_new h5 (.tup [V.int (1 + c / 12 % m)])
  refine ⟨sz1, fun l6 h6 => ?_⟩
  have u6 := same_new h6 (.lst [V.bl true])
  refine ⟨szs (by decide : 9 ≤ 1000), fun S hS => ?_⟩
  have uS := same_new hS (.lst [V.ref l1, V.ref l2, V.ref l3, V.ref l4, V.ref l5, V.non, V.int 1, V.str "1", V.ref l6])
  have w6 := u6.trans uS
  have w5 := u5.trans w6
  have w4 := u4.trans w5
  have w3 := u3.trans w4
  have w2 := u2.trans w3
  have w1 := u1.trans w2
  refine ⟨_, rfl, _, rfl, sz1, fun l7 h7 => ?_⟩
  have u7 := same_new h7 (.lst [V.int 0])
  refine ⟨G, l7, _, _, rfl, rfl, (w1.trans u7) _ _ eG, upd_same, szs (by decide : 1 + 1 ≤ 1000), fun l8 h8 => ?_⟩
  have u8 := same_new h8 (.lst [V.int (1 + c / 12 % m), V.int 0])
  refine ⟨sz1, fun l9 h9 => ?_⟩
  have u9 := same_new h9 (.lst [V.non])
  refine ⟨_, rfl, sz1, fun l10 h10 => ?_⟩
  have u10 := same_new h10 (.lst [V.ref G])
  refine ⟨szs (by decide : 3 ≤ 1000), fun T hT => ?_⟩
  have uT := same_new hT (.lst [V.ref l8, V.ref l9, V.ref l10])
  have x10 := u10.trans uT
  have x9 := u9.trans x10
  have x8 := u8.trans x9
  have x7 := u7.trans x8
  refine ⟨S, T, _, _, rfl, rfl, x7 _ _ upd_same, upd_same, szs (by decide : 9 + 3 ≤ 1000), fun Z hZ => ?_⟩
  have uZ := same_new hZ (.lst ([V.ref l1, V.ref l2, V.ref l3, V.ref l4, V.ref l5, V.non, V.int 1, V.str "1", V.ref l6] ++ [V.ref l8, V.ref l9, V.ref l10]))
  have y := x7.trans uZ
  obtain ⟨v, hv, iw⟩ := pick12 (m := c) (R := fun v => BadPl _ m v) (BadPl.one ((w2.trans y) _ _ upd_same) (IsW.not (by omega))) (BadPl.one ((w3.trans y) _ _ upd_same) (IsW.not (by omega))) (BadPl.two ((w4.trans y) _ _ upd_same) (by omega) (by omega)) (BadPl.one ((w5.trans y) _ _ upd_same) (IsW.not (by omega)))
    (BadPl.no (oth (fun K => .tup ((w6.trans y) _ _ upd_same)) fun K => rfl)) (BadPl.no (oth (fun K => .non) fun K => rfl)) (BadPl.no (oth (fun K => .int 1) fun K => rfl)) (BadPl.no (oth (fun K => .str "1") fun K => rfl)) (BadPl.one ((uS.trans y) _ _ upd_same) (IsW.bl true))
    (BadPl.snd ((x9.trans uZ) _ _ upd_same) (IsW.yes (by omega) (by omega)) (IsW.not (by omega))) (BadPl.one ((x10.trans uZ) _ _ upd_same) (IsW.no (oth (fun K => .non) fun K => rfl))) (BadPl.one ((uT.trans uZ) _ _ upd_same) (IsW.no (oth (fun K => .lst ((w1.trans y) _ _ eG)) fun K => rfl)))
  refine ⟨_, rfl, _, _, rfl, rfl, (by show (0 : Int) < 12; decide), Z, _, _, _, rfl, rfl, SqL.of upd_same, hv, ?_⟩
  exact q v _ (tG.trans (w1.trans y)) iw
theorem bt_ValueError : bootBuiltins "ValueError" = some (.type "ValueError") := by decide +kernel
theorem kit_self (v : Value) : PySem.W.kitOne K v v = some true := by
  unfold PySem.W.kitOne
  rw [if_pos (beq_self_eq_true _)]
theorem eqT {i : Int} : decide (V.int i = V.int i) = true := decide_eq_true rfl
theorem eqF {i j : Int} (h : i ≠ j) : decide (V.int i = V.int j) = false := decide_eq_false fun z => h (by injection z)
theorem kinds_eq {H : Hp} {a b : Addr} {bs : List Bool} (h1 : H a = some (.lst (bs.map V.bl))) (h2 : H b = some (.lst (bs.map V.bl))) : DE K H 1 (.ref a) (.ref b) true := by
  have d := DE.lst (K := K) (n := 0) (fun _ => true) (SqL.of h1) (SqL.of h2) rfl (fun j x y hx hy => by
    rw [hx] at hy
    cases hy
    rw [List.getElem?_map] at hx
    cases e : bs[j]? with
    | none => rw [e] at hx; cases hx
    | some c =>
      rw [e] at hx
      cases hx
      have h := DE.bl (K := K) (H := H) 0 c c
      rw [beq_self_eq_true] at h
      exact h)
  have e : (List.range (bs.map V.bl).length).all (fun _ => true) = true := by simp
  rw [e] at d
  exact d
theorem ok__law_called {n : Nat} {f : Addr} {fd : FuncData} (F : Fun K "_law_called" "_law_called" (top 43) f fd) {g_best_gone : Addr} {gd_best_gone : FuncData} (c_best_gone : CalX P w K mg base n "best_gone" ["many"] (spBad1 C_NoRanks) g_best_gone gd_best_gone) {g_rank_worths : Addr} {gd_rank_worths : FuncData} (c_rank_worths : CalX P w K mg base n "rank_worths" ["many"] (spBad1 C_NoRanks) g_rank_worths gd_rank_worths) {g_first_better : Addr} {gd_first_better : FuncData} (c_first_better : CalX P w K mg base n "first_better" ["many", "gone"] (spFBx C_NoRanks) g_first_better gd_first_better) {g_share_by : Addr} {gd_share_by : FuncData} (c_share_by : CalX P w K mg base n "share_by" ["many", "places"] (spNP C_NoRanks) g_share_by gd_share_by) {g_rank_losses : Addr} {gd_rank_losses : FuncData} (c_rank_losses : CalX P w K mg base n "rank_losses" ["many", "places"] (spNP C_NoRanks) g_rank_losses gd_rank_losses) {C_LidError C_NoBox C_NoDeed C_NoSets C_NoOffers C_NoRule C_NoTable C_NoText C_NoPattern C_NoPlan C_TooMany : Addr} (g_LidError : mg "LidError" = some (.ref C_LidError)) (g_NoRanks : mg "NoRanks" = some (.ref C_NoRanks)) (g_NoBox : mg "NoBox" = some (.ref C_NoBox)) (g_NoDeed : mg "NoDeed" = some (.ref C_NoDeed)) (g_NoSets : mg "NoSets" = some (.ref C_NoSets)) (g_NoOffers : mg "NoOffers" = some (.ref C_NoOffers)) (g_NoRule : mg "NoRule" = some (.ref C_NoRule)) (g_NoTable : mg "NoTable" = some (.ref C_NoTable)) (g_NoText : mg "NoText" = some (.ref C_NoText)) (g_NoPattern : mg "NoPattern" = some (.ref C_NoPattern)) (g_NoPlan : mg "NoPlan" = some (.ref C_NoPlan)) (g_TooMany : mg "TooMany" = some (.ref C_TooMany)) (z_isinstance : mg "isinstance" = none) (z_ValueError : mg "ValueError" = none) (xt : XTy K C_NoRanks) (ex : PySem.W.exmOne K (.ref C_NoRanks) (.ref C_LidError) = some true) (k1 : PySem.W.kitOne K (.ref C_NoRanks) (.type "ValueError") = some true) (k2 : PySem.W.kitAny K (.ref C_NoRanks) ([C_NoBox, C_NoDeed, C_NoSets, C_NoOffers].map Value.ref) = some false) (k3 : PySem.W.kitAny K (.ref C_NoRanks) ([C_NoRule, C_NoTable, C_NoText, C_NoPattern, C_NoPlan, C_TooMany].map Value.ref) = some false) : FnOk P w K mg base CX0 (n + 1) f fd ["_law_way", "_law_many", "_law_thing"] spCalled := by
  refine F.ok0 sc__law_called (fun vs H Q E h => ?_) (fun cdv A outer s H vs Q E hr h => ?_)
  · obtain ⟨kk, v, p, rfl, _⟩ := h
    rfl
  obtain ⟨kk, v, p, rfl, hk0, hk4, h, q⟩ := h
  have nd := sc__law_called.nd
  have hu1 : _ + 0 + 1 < cLine := Nat.lt_of_le_of_lt (Nat.add_le_add_left (by decide : 1 ≤ 64) _) (Room.units hr)
  refine ⟨_, (pss0_cons (PS.zero (ps_set (i := 3) nd rfl (Or.inl rfl) (pe_lst pa_nil))) (pss0_cons (ps0_try (i := 4) rfl rfl rfl rfl nd rfl rfl rfl rfl g_LidError (fun G => (pss_one (ps_if (pt_cmpR op_eq (pv 0) pe_int (nomark _)) (pss_one (ps_expr (pe_callX c_best_gone hr (passes_try rfl rfl rfl rfl) (pa_cons (pv 1) pa_nil)))) (pss_one (ps_if (pt_cmpR op_eq (pv 0) pe_int (nomark _)) (pss_one (ps_expr (pe_callX c_rank_worths hr (passes_try rfl rfl rfl rfl) (pa_cons (pv 1) pa_nil)))) (pss_one (ps_if (pt_cmpR op_eq (pv 0) pe_int (nomark _)) (pss_one (ps_expr (pe_callX c_first_better hr (passes_try rfl rfl rfl rfl) (pa_cons (pv 1) (pa_cons (pv 2) pa_nil))))) (pss_one (ps_if (pt_cmpR op_eq (pv 0) pe_int (nomark _)) (pss_one (ps_expr (pe_callX c_share_by hr (passes_try rfl rfl rfl rfl) (pa_cons (pv 1) (pa_cons (pv 2) pa_nil))))) (pss_one (ps_expr (pe_callX c_rank_losses hr (passes_try rfl rfl rfl rfl) (pa_cons (pv 1) (pa_cons (pv 2) pa_nil)))))))))))))) (fun a => (pss_cons (ps_set (i := 3) nd rfl (Or.inl rfl) (pe_lst (pa_cons (pe_callB (call_isX (K := K) rfl) rfl z_isinstance bt_isinstance (pa_cons (pv 4) (pa_cons (pe_glob (v := .ref C_NoRanks) rfl g_NoRanks rfl) pa_nil))) (pa_cons (pe_callB (call_isX (K := K) rfl) rfl z_isinstance bt_isinstance (pa_cons (pv 4) (pa_cons (pe_bltn (v := .ty "ValueError") rfl z_ValueError bt_ValueError rfl) pa_nil))) (pa_cons (pe_callB (call_isXT (K := K) rfl) rfl z_isinstance bt_isinstance (pa_cons (pv 4) (pa_cons (pe_tup (pa_cons (pe_glob (v := .ref C_NoBox) rfl g_NoBox rfl) (pa_cons (pe_glob (v := .ref C_NoDeed) rfl g_NoDeed rfl) (pa_cons (pe_glob (v := .ref C_NoSets) rfl g_NoSets rfl) (pa_cons (pe_glob (v := .ref C_NoOffers) rfl g_NoOffers rfl) pa_nil))))) pa_nil))) pa_nil))))) (pss_one (ps_expr (pe_bm PySem.F.plainAttrs_list PySem.F.slot_list_append PySem.F.type_list_append mt_append (pv 3) (pa_cons (pe_callB (call_isXT (K := K) rfl) rfl z_isinstance bt_isinstance (pa_cons (pv 4) (pa_cons (pe_tup (pa_cons (pe_glob (v := .ref C_NoRule) rfl g_NoRule rfl) (pa_cons (pe_glob (v := .ref C_NoTable) rfl g_NoTable rfl) (pa_cons (pe_glob (v := .ref C_NoText) rfl g_NoText rfl) (pa_cons (pe_glob (v := .ref C_NoPattern) rfl g_NoPattern rfl) (pa_cons (pe_glob (v := .ref C_NoPlan) rfl g_NoPlan rfl) (pa_cons (pe_glob (v := .ref C_TooMany) rfl g_TooMany rfl) pa_nil))))))) pa_nil))) pa_nil))))))) (PSs.zero (pss_one (ps_ret (pe_cmpR (op_eqD (n := 0) hu1) (pv 3) (pe_lst (pa_cons pe_bl (pa_cons pe_bl (pa_cons pe_bl (pa_cons pe_bl pa_nil))))) (nomark _))))))), ?_⟩
  refine ⟨Nat.zero_le _, fun l0 h0 => ?_⟩
  have s0 := same_new h0 (.lst [])
  have e1 : kk < 2 → IsW H 1 60 v false := fun z => by
    rcases h with h | ⟨m, rfl, m1, m2, h⟩
    · exact h
    · rcases h with ⟨h, _⟩ | ⟨h, _⟩ <;> omega
  have e2 : kk = 2 → BadA H v (fun m => IsW H 0 (m - 1) p false) := fun z => by
    rcases h with h | ⟨m, rfl, m1, m2, h⟩
    · exact .inl h
    · rcases h with ⟨_, h⟩ | ⟨h, _⟩
      · exact .inr ⟨m, rfl, m1, m2, h⟩
      · omega
  have e3 : 2 < kk → BadA H v (fun m => BadPl H m p) := fun z => by
    rcases h with h | ⟨m, rfl, m1, m2, h⟩
    · exact .inl h
    · rcases h with ⟨h, _⟩ | ⟨_, h⟩
      · omega
      · exact .inr ⟨m, rfl, m1, m2, h⟩
  have e2' : kk = 2 → BadA (upd H l0 (.lst [])) v (fun m => IsW (upd H l0 (.lst [])) 0 (m - 1) p false) := fun z => by
    rcases e2 z with h | ⟨m, e, m1, m2, h⟩
    · exact .inl (h.same s0)
    · exact .inr ⟨m, e, m1, m2, h.same s0⟩
  have e3' : 2 < kk → BadA (upd H l0 (.lst [])) v (fun m => BadPl (upd H l0 (.lst [])) m p) := fun z => by
    rcases e3 z with h | ⟨m, e, m1, m2, h⟩
    · exact .inl (h.same s0)
    · exact .inr ⟨m, e, m1, m2, h.same s0⟩
  clear e2 e3 h
  rcases (by omega : kk = 0 ∨ kk = 1 ∨ kk = 2 ∨ kk = 3 ∨ kk = 4) with rfl | rfl | rfl | rfl | rfl
  · refine ⟨_, rfl, rfl, _, rfl, ifT eqT ?_⟩
    refine ⟨_, rfl, v, rfl, (e1 (by decide)).same s0, ?_⟩
    have s1 := s0
    generalize upd H l0 (.lst []) = H1 at s1 ⊢
    refine ⟨ex, fun a na => ?_⟩
    have s2 := s1.trans (same_new na (.ext (IsX a (.ref C_NoRanks))))
    have ha : upd H1 a (.ext (IsX a (.ref C_NoRanks))) a = some (.ext (IsX a (.ref C_NoRanks))) := upd_same
    generalize upd H1 a (.ext (IsX a (.ref C_NoRanks))) = H2 at s2 ha ⊢
    refine ⟨_, rfl, a, C_NoRanks, .ref C_NoRanks, _, true, rfl, vref, ha, xt, kit_self _, ?_⟩
    refine ⟨_, rfl, a, C_NoRanks, .ty "ValueError", _, true, rfl, vty, ha, xt, k1, ?_⟩
    refine ⟨_, rfl, szs (show 4 ≤ 1000 by decide), fun t ht => ?_⟩
    have s3 := same_new ht (.tup [V.ref C_NoBox, V.ref C_NoDeed, V.ref C_NoSets, V.ref C_NoOffers])
    refine ⟨a, C_NoRanks, t, [C_NoBox, C_NoDeed, C_NoSets, C_NoOffers], false, rfl, s3 _ _ ha, upd_same, xt, k2, ?_⟩
    refine ⟨sz3, fun L hL => ?_⟩
    have s4 := same_new hL (.lst [V.bl true, V.bl true, V.bl false])
    have s24 := s2.trans (s3.trans s4)
    have ha4 := (s3.trans s4) _ _ ha
    have hLn : H L = none := (s2.trans s3).free hL
    refine ⟨_, rfl, .inl ⟨rfl, _, SqL.of upd_same⟩, ?_⟩
    refine ⟨_, rfl, szs (show 6 ≤ 1000 by decide), fun t2 ht2 => ?_⟩
    have s5 := same_new ht2 (.tup [V.ref C_NoRule, V.ref C_NoTable, V.ref C_NoText, V.ref C_NoPattern, V.ref C_NoPlan, V.ref C_TooMany])
    refine ⟨a, C_NoRanks, t2, [C_NoRule, C_NoTable, C_NoText, C_NoPattern, C_NoPlan, C_TooMany], false, rfl, s5 _ _ ha4, upd_same, xt, k3, ?_⟩
    refine ⟨L, _, _, rfl, rfl, s5 _ _ upd_same, small1000 (by show 3 ≤ 1000; decide), ?_⟩
    have s6 := (s24.trans s5).upd_new hLn (.lst ([V.bl true, V.bl true, V.bl false] ++ [V.bl false]))
    refine ⟨_, rfl, szs (show 4 ≤ 1000 by decide), fun M hM => ?_⟩
    have s7 := same_new hM (.lst [V.bl true, V.bl true, V.bl false, V.bl false])
    exact ⟨L, M, true, rfl, rfl, kinds_eq (bs := [true, true, false, false]) (s7 _ _ upd_same) upd_same, q _ (s6.trans s7)⟩
  · refine ⟨_, rfl, rfl, _, rfl, ifF (eqF (by decide)) ?_⟩
    refine ⟨_, rfl, rfl, _, rfl, ifT eqT ?_⟩
    refine ⟨_, rfl, v, rfl, (e1 (by decide)).same s0, ?_⟩
    have s1 := s0
    generalize upd H l0 (.lst []) = H1 at s1 ⊢
    refine ⟨ex, fun a na => ?_⟩
    have s2 := s1.trans (same_new na (.ext (IsX a (.ref C_NoRanks))))
    have ha : upd H1 a (.ext (IsX a (.ref C_NoRanks))) a = some (.ext (IsX a (.ref C_NoRanks))) := upd_same
    generalize upd H1 a (.ext (IsX a (.ref C_NoRanks))) = H2 at s2 ha ⊢
    refine ⟨_, rfl, a, C_NoRanks, .ref C_NoRanks, _, true, rfl, vref, ha, xt, kit_self _, ?_⟩
    refine ⟨_, rfl, a, C_NoRanks, .ty "ValueError", _, true, rfl, vty, ha, xt, k1, ?_⟩
    refine ⟨_, rfl, szs (show 4 ≤ 1000 by decide), fun t ht => ?_⟩
    have s3 := same_new ht (.tup [V.ref C_NoBox, V.ref C_NoDeed, V.ref C_NoSets, V.ref C_NoOffers])
    refine ⟨a, C_NoRanks, t, [C_NoBox, C_NoDeed, C_NoSets, C_NoOffers], false, rfl, s3 _ _ ha, upd_same, xt, k2, ?_⟩
    refine ⟨sz3, fun L hL => ?_⟩
    have s4 := same_new hL (.lst [V.bl true, V.bl true, V.bl false])
    have s24 := s2.trans (s3.trans s4)
    have ha4 := (s3.trans s4) _ _ ha
    have hLn : H L = none := (s2.trans s3).free hL
    refine ⟨_, rfl, .inl ⟨rfl, _, SqL.of upd_same⟩, ?_⟩
    refine ⟨_, rfl, szs (show 6 ≤ 1000 by decide), fun t2 ht2 => ?_⟩
    have s5 := same_new ht2 (.tup [V.ref C_NoRule, V.ref C_NoTable, V.ref C_NoText, V.ref C_NoPattern, V.ref C_NoPlan, V.ref C_TooMany])
    refine ⟨a, C_NoRanks, t2, [C_NoRule, C_NoTable, C_NoText, C_NoPattern, C_NoPlan, C_TooMany], false, rfl, s5 _ _ ha4, upd_same, xt, k3, ?_⟩
    refine ⟨L, _, _, rfl, rfl, s5 _ _ upd_same, small1000 (by show 3 ≤ 1000; decide), ?_⟩
    have s6 := (s24.trans s5).upd_new hLn (.lst ([V.bl true, V.bl true, V.bl false] ++ [V.bl false]))
    refine ⟨_, rfl, szs (show 4 ≤ 1000 by decide), fun M hM => ?_⟩
    have s7 := same_new hM (.lst [V.bl true, V.bl true, V.bl false, V.bl false])
    exact ⟨L, M, true, rfl, rfl, kinds_eq (bs := [true, true, false, false]) (s7 _ _ upd_same) upd_same, q _ (s6.trans s7)⟩
  · refine ⟨_, rfl, rfl, _, rfl, ifF (eqF (by decide)) ?_⟩
    refine ⟨_, rfl, rfl, _, rfl, ifF (eqF (by decide)) ?_⟩
    refine ⟨_, rfl, rfl, _, rfl, ifT eqT ?_⟩
    refine ⟨_, rfl, _, rfl, v, p, rfl, e2' rfl, ?_⟩
    have s1 := s0
    generalize upd H l0 (.lst []) = H1 at s1 ⊢
    refine ⟨ex, fun a na => ?_⟩
    have s2 := s1.trans (same_new na (.ext (IsX a (.ref C_NoRanks))))
    have ha : upd H1 a (.ext (IsX a (.ref C_NoRanks))) a = some (.ext (IsX a (.ref C_NoRanks))) := upd_same
    generalize upd H1 a (.ext (IsX a (.ref C_NoRanks))) = H2 at s2 ha ⊢
    refine ⟨_, rfl, a, C_NoRanks, .ref C_NoRanks, _, true, rfl, vref, ha, xt, kit_self _, ?_⟩
    refine ⟨_, rfl, a, C_NoRanks, .ty "ValueError", _, true, rfl, vty, ha, xt, k1, ?_⟩
    refine ⟨_, rfl, szs (show 4 ≤ 1000 by decide), fun t ht => ?_⟩
    have s3 := same_new ht (.tup [V.ref C_NoBox, V.ref C_NoDeed, V.ref C_NoSets, V.ref C_NoOffers])
    refine ⟨a, C_NoRanks, t, [C_NoBox, C_NoDeed, C_NoSets, C_NoOffers], false, rfl, s3 _ _ ha, upd_same, xt, k2, ?_⟩
    refine ⟨sz3, fun L hL => ?_⟩
    have s4 := same_new hL (.lst [V.bl true, V.bl true, V.bl false])
    have s24 := s2.trans (s3.trans s4)
    have ha4 := (s3.trans s4) _ _ ha
    have hLn : H L = none := (s2.trans s3).free hL
    refine ⟨_, rfl, .inl ⟨rfl, _, SqL.of upd_same⟩, ?_⟩
    refine ⟨_, rfl, szs (show 6 ≤ 1000 by decide), fun t2 ht2 => ?_⟩
    have s5 := same_new ht2 (.tup [V.ref C_NoRule, V.ref C_NoTable, V.ref C_NoText, V.ref C_NoPattern, V.ref C_NoPlan, V.ref C_TooMany])
    refine ⟨a, C_NoRanks, t2, [C_NoRule, C_NoTable, C_NoText, C_NoPattern, C_NoPlan, C_TooMany], false, rfl, s5 _ _ ha4, upd_same, xt, k3, ?_⟩
    refine ⟨L, _, _, rfl, rfl, s5 _ _ upd_same, small1000 (by show 3 ≤ 1000; decide), ?_⟩
    have s6 := (s24.trans s5).upd_new hLn (.lst ([V.bl true, V.bl true, V.bl false] ++ [V.bl false]))
    refine ⟨_, rfl, szs (show 4 ≤ 1000 by decide), fun M hM => ?_⟩
    have s7 := same_new hM (.lst [V.bl true, V.bl true, V.bl false, V.bl false])
    exact ⟨L, M, true, rfl, rfl, kinds_eq (bs := [true, true, false, false]) (s7 _ _ upd_same) upd_same, q _ (s6.trans s7)⟩
  · refine ⟨_, rfl, rfl, _, rfl, ifF (eqF (by decide)) ?_⟩
    refine ⟨_, rfl, rfl, _, rfl, ifF (eqF (by decide)) ?_⟩
    refine ⟨_, rfl, rfl, _, rfl, ifF (eqF (by decide)) ?_⟩
    refine ⟨_, rfl, rfl, _, rfl, ifT eqT ?_⟩
    refine ⟨_, rfl, _, rfl, v, p, rfl, e3' (by decide), fun H1 s1' => ?_⟩
    have s1 := s0.trans s1'
    refine ⟨ex, fun a na => ?_⟩
    have s2 := s1.trans (same_new na (.ext (IsX a (.ref C_NoRanks))))
    have ha : upd H1 a (.ext (IsX a (.ref C_NoRanks))) a = some (.ext (IsX a (.ref C_NoRanks))) := upd_same
    generalize upd H1 a (.ext (IsX a (.ref C_NoRanks))) = H2 at s2 ha ⊢
    refine ⟨_, rfl, a, C_NoRanks, .ref C_NoRanks, _, true, rfl, vref, ha, xt, kit_self _, ?_⟩
    refine ⟨_, rfl, a, C_NoRanks, .ty "ValueError", _, true, rfl, vty, ha, xt, k1, ?_⟩
    refine ⟨_, rfl, szs (show 4 ≤ 1000 by decide), fun t ht => ?_⟩
    have s3 := same_new ht (.tup [V.ref C_NoBox, V.ref C_NoDeed, V.ref C_NoSets, V.ref C_NoOffers])
    refine ⟨a, C_NoRanks, t, [C_NoBox, C_NoDeed, C_NoSets, C_NoOffers], false, rfl, s3 _ _ ha, upd_same, xt, k2, ?_⟩
    refine ⟨sz3, fun L hL => ?_⟩
    have s4 := same_new hL (.lst [V.bl true, V.bl true, V.bl false])
    have s24 := s2.trans (s3.trans s4)
    have ha4 := (s3.trans s4) _ _ ha
    have hLn : H L = none := (s2.trans s3).free hL
    refine ⟨_, rfl, .inl ⟨rfl, _, SqL.of upd_same⟩, ?_⟩
    refine ⟨_, rfl, szs (show 6 ≤ 1000 by decide), fun t2 ht2 => ?_⟩
    have s5 := same_new ht2 (.tup [V.ref C_NoRule, V.ref C_NoTable, V.ref C_NoText, V.ref C_NoPattern, V.ref C_NoPlan, V.ref C_TooMany])
    refine ⟨a, C_NoRanks, t2, [C_NoRule, C_NoTable, C_NoText, C_NoPattern, C_NoPlan, C_TooMany], false, rfl, s5 _ _ ha4, upd_same, xt, k3, ?_⟩
    refine ⟨L, _, _, rfl, rfl, s5 _ _ upd_same, small1000 (by show 3 ≤ 1000; decide), ?_⟩
    have s6 := (s24.trans s5).upd_new hLn (.lst ([V.bl true, V.bl true, V.bl false] ++ [V.bl false]))
    refine ⟨_, rfl, szs (show 4 ≤ 1000 by decide), fun M hM => ?_⟩
    have s7 := same_new hM (.lst [V.bl true, V.bl true, V.bl false, V.bl false])
    exact ⟨L, M, true, rfl, rfl, kinds_eq (bs := [true, true, false, false]) (s7 _ _ upd_same) upd_same, q _ (s6.trans s7)⟩
  · refine ⟨_, rfl, rfl, _, rfl, ifF (eqF (by decide)) ?_⟩
    refine ⟨_, rfl, rfl, _, rfl, ifF (eqF (by decide)) ?_⟩
    refine ⟨_, rfl, rfl, _, rfl, ifF (eqF (by decide)) ?_⟩
    refine ⟨_, rfl, rfl, _, rfl, ifF (eqF (by decide)) ?_⟩
    refine ⟨_, rfl, _, rfl, v, p, rfl, e3' (by decide), fun H1 s1' => ?_⟩
    have s1 := s0.trans s1'
    refine ⟨ex, fun a na => ?_⟩
    have s2 := s1.trans (same_new na (.ext (IsX a (.ref C_NoRanks))))
    have ha : upd H1 a (.ext (IsX a (.ref C_NoRanks))) a = some (.ext (IsX a (.ref C_NoRanks))) := upd_same
    generalize upd H1 a (.ext (IsX a (.ref C_NoRanks))) = H2 at s2 ha ⊢
    refine ⟨_, rfl, a, C_NoRanks, .ref C_NoRanks, _, true, rfl, vref, ha, xt, kit_self _, ?_⟩
    refine ⟨_, rfl, a, C_NoRanks, .ty "ValueError", _, true, rfl, vty, ha, xt, k1, ?_⟩
    refine ⟨_, rfl, szs (show 4 ≤ 1000 by decide), fun t ht => ?_⟩
    have s3 := same_new ht (.tup [V.ref C_NoBox, V.ref C_NoDeed, V.ref C_NoSets, V.ref C_NoOffers])
    refine ⟨a, C_NoRanks, t, [C_NoBox, C_NoDeed, C_NoSets, C_NoOffers], false, rfl, s3 _ _ ha, upd_same, xt, k2, ?_⟩
    refine ⟨sz3, fun L hL => ?_⟩
    have s4 := same_new hL (.lst [V.bl true, V.bl true, V.bl false])
    have s24 := s2.trans (s3.trans s4)
    have ha4 := (s3.trans s4) _ _ ha
    have hLn : H L = none := (s2.trans s3).free hL
    refine ⟨_, rfl, .inl ⟨rfl, _, SqL.of upd_same⟩, ?_⟩
    refine ⟨_, rfl, szs (show 6 ≤ 1000 by decide), fun t2 ht2 => ?_⟩
    have s5 := same_new ht2 (.tup [V.ref C_NoRule, V.ref C_NoTable, V.ref C_NoText, V.ref C_NoPattern, V.ref C_NoPlan, V.ref C_TooMany])
    refine ⟨a, C_NoRanks, t2, [C_NoRule, C_NoTable, C_NoText, C_NoPattern, C_NoPlan, C_TooMany], false, rfl, s5 _ _ ha4, upd_same, xt, k3, ?_⟩
    refine ⟨L, _, _, rfl, rfl, s5 _ _ upd_same, small1000 (by show 3 ≤ 1000; decide), ?_⟩
    have s6 := (s24.trans s5).upd_new hLn (.lst ([V.bl true, V.bl true, V.bl false] ++ [V.bl false]))
    refine ⟨_, rfl, szs (show 4 ≤ 1000 by decide), fun M hM => ?_⟩
    have s7 := same_new hM (.lst [V.bl true, V.bl true, V.bl false, V.bl false])
    exact ⟨L, M, true, rfl, rfl, kinds_eq (bs := [true, true, false, false]) (s7 _ _ upd_same) upd_same, q _ (s6.trans s7)⟩
theorem ok_law {n : Nat} {f : Addr} {fd : FuncData} (F : Fun K "law" "law" (top 44) f fd) {g__law_called : Addr} {gd__law_called : FuncData} (c__law_called : Cal P w K mg base n "_law_called" ["_law_way", "_law_many", "_law_thing"] spCalled g__law_called gd__law_called) {g__law_no_places : Addr} {gd__law_no_places : FuncData} (c__law_no_places : Cal P w K mg base n "_law_no_places" ["_law_many", "_law_cell_here"] spNoP g__law_no_places gd__law_no_places) {g__law_cell : Addr} {gd__law_cell : FuncData} (c__law_cell : Cal P w K mg base n "_law_cell" ["_law_script", "_law_k"] (spCell K) g__law_cell gd__law_cell) {g__law_no_gone : Addr} {gd__law_no_gone : FuncData} (c__law_no_gone : Cal P w K mg base n "_law_no_gone" ["_law_many", "_law_cell_here"] spNoG g__law_no_gone gd__law_no_gone) {g__law_no_many : Addr} {gd__law_no_many : FuncData} (c__law_no_many : Cal P w K mg base n "_law_no_many" ["_law_cell_here"] spNoM g__law_no_many gd__law_no_many) (z_range : mg "range" = none) : FnOk P w K mg base CX0 (n + 1) f fd ["_law_script"] (spLaw84 K) := by
  refine F.ok sc_law (fun vs H Q E h => ?_) (fun cdv A outer s H vs Q E hr h => ?_)
  · obtain ⟨a, ns, rfl, _⟩ := h
    rfl
  obtain ⟨a, ns, rfl, hS, hlen, q⟩ := h
  have nd := sc_law.nd
  refine ⟨_, (pss_cons (ps_set (i := 1) nd rfl (Or.inl rfl) (pe_op op_add pe_int (pe_op op_mod (pe_callC c__law_cell hr (pa_cons (pv 0) (pa_cons pe_int pa_nil))) pe_int))) (pss_cons (ps_set (i := 2) nd rfl (Or.inl rfl) (pe_callC c__law_no_many hr (pa_cons (pe_callC c__law_cell hr (pa_cons (pv 0) (pa_cons pe_int pa_nil))) pa_nil))) (pss_cons (ps_set (i := 3) nd rfl (Or.inl rfl) (pe_callC c__law_no_gone hr (pa_cons (pv 1) (pa_cons (pe_callC c__law_cell hr (pa_cons (pv 0) (pa_cons pe_int pa_nil))) pa_nil)))) (pss_cons (ps_set (i := 4) nd rfl (Or.inl rfl) (pe_callC c__law_no_places hr (pa_cons (pv 1) (pa_cons (pe_callC c__law_cell hr (pa_cons (pv 0) (pa_cons pe_int pa_nil))) pa_nil)))) (pss_cons (ps_for PassesOwn.never rfl (pi_range1 rfl z_range (pa_cons pe_int pa_nil)) (pg_name (i := 5) nd rfl (Or.inl rfl)) (pss_cons (ps_set (i := 6) nd rfl (Or.inl rfl) (pe_ix ix_list (pe_lst (pa_cons pe_int (pa_cons pe_int (pa_cons (pv 3) (pa_cons (pv 4) (pa_cons (pv 4) pa_nil)))))) (pv 5) (fun _ _ => rfl))) (pss_cons (ps_if (pt_not (pt_val (pe_callC c__law_called hr (pa_cons (pv 5) (pa_cons (pv 2) (pa_cons (pv 6) pa_nil)))))) (pss_one (ps_ret pe_bl)) pss_nil) (pss_one (ps_if (PW.pt (pw_and (pt_cmpR op_gt (pv 5) pe_int (nomark _)) (pw_and1 (pt_not (pt_val (pe_callC c__law_called hr (pa_cons (pv 5) (pa_cons (pv 1) (pa_cons (pv 6) pa_nil))))))))) (pss_one (ps_ret pe_bl)) pss_nil))))) (pss_one (ps_ret (pe_and (pe_callC c__law_called hr (pa_cons pe_int (pa_cons (pv 2) (pa_cons pe_int pa_nil)))) (pe_and (pe_callC c__law_called hr (pa_cons pe_int (pa_cons (pv 2) (pa_cons (pe_lst pa_nil) pa_nil)))) (pe_one (pe_callC c__law_called hr (pa_cons pe_int (pa_cons (pv 2) (pa_cons (pe_lst (pa_cons pe_int pa_nil)) pa_nil)))))))))))))), ?_⟩
  have d1 := Int.emod_nonneg (cellF ns 0) (show (60 : Int) ≠ 0 by decide)
  have d2 := Int.emod_lt_of_pos (cellF ns 0) (show (0 : Int) < 60 by decide)
  refine ⟨_, rfl, a, ns, 0, rfl, hS, by decide, _, _, rfl, rfl, (by show (0 : Int) < 60; decide), _, _, rfl, rfl, ?_⟩
  refine ⟨_, rfl, a, ns, 1, rfl, hS, by decide, _, rfl, fun bad H1 s1 hbad => ?_⟩
  refine ⟨_, rfl, _, rfl, a, ns, 2, rfl, s1.seq hS, by decide, 1 + cellF ns 0 % 60, _, rfl, by omega, by omega, fun gone H2 s2 hgone => ?_⟩
  refine ⟨_, rfl, _, rfl, a, ns, 3, rfl, (s1.trans s2).seq hS, by decide, 1 + cellF ns 0 % 60, _, rfl, by omega, by omega, fun pl H3 s3 hpl => ?_⟩
  have b3 := hbad.same (s2.trans s3)
  have g3 := hgone.same s3
  refine ⟨5, rfl, by decide, by decide, ?_⟩
  refine for_range (n := 5) (fun i σ H' => ∃ v5 v6, σ = [some (.ref a), some (.int (1 + cellF ns 0 % 60)), some bad, some gone, some pl, v5, v6] ∧ Same H3 H') ⟨none, none, rfl, Same.refl _⟩ ?_ ?_
  · rintro i σ H' hi ⟨v5, v6, rfl, hs⟩
    refine ⟨_, rfl, _, rfl, _, rfl, szs (by decide : 5 ≤ 1000), fun T hT => ?_⟩
    have sT := same_new hT (.lst [V.int 0, V.int 0, gone, pl, pl])
    have bT := b3.same (hs.trans sT)
    have gT := g3.same (hs.trans sT)
    have pT := hpl.same (hs.trans sT)
    obtain ⟨th, hth, hgood⟩ : ∃ th, atI [V.int 0, V.int 0, gone, pl, pl] (0 + (i : Int)) = some th ∧ (1 < (0 + (i : Int)) → BadA (upd H' T (.lst [V.int 0, V.int 0, gone, pl, pl])) (.int (1 + cellF ns 0 % 60)) (fun m => (0 + (i : Int) = 2 ∧ IsW (upd H' T (.lst [V.int 0, V.int 0, gone, pl, pl])) 0 (m - 1) th false) ∨ (2 < 0 + (i : Int) ∧ BadPl (upd H' T (.lst [V.int 0, V.int 0, gone, pl, pl])) m th))) := by
      rcases (by omega : i = 0 ∨ i = 1 ∨ i = 2 ∨ i = 3 ∨ i = 4) with rfl | rfl | rfl | rfl | rfl
      · exact ⟨_, rfl, fun z => absurd z (by decide)⟩
      · exact ⟨_, rfl, fun z => absurd z (by decide)⟩
      · exact ⟨_, rfl, fun _ => .inr ⟨_, rfl, by omega, by omega, .inl ⟨rfl, gT⟩⟩⟩
      · exact ⟨_, rfl, fun _ => .inr ⟨_, rfl, by omega, by omega, .inr ⟨by decide, pT⟩⟩⟩
      · exact ⟨_, rfl, fun _ => .inr ⟨_, rfl, by omega, by omega, .inr ⟨by decide, pT⟩⟩⟩
    refine ⟨_, rfl, T, _, _, _, rfl, rfl, SqL.of upd_same, hth, ?_⟩
    refine ⟨_, rfl, _, rfl, _, rfl, _, _, _, rfl, by omega, by omega, .inl bT, fun H5 s5 => ?_⟩
    refine ⟨_, rfl, ?_⟩
    refine iteF ?_
    refine ⟨_, rfl, _, _, rfl, rfl, _, rfl, ?_⟩
    by_cases hw : (1 : Int) < 0 + (i : Int)
    · refine ifT (decide_eq_true hw) ?_
      refine ⟨_, rfl, _, rfl, _, rfl, _, _, _, rfl, by omega, by omega, ?_, fun H6 s6 => ?_⟩
      · rcases hgood hw with z | ⟨m, e, m1, m2, z⟩
        · exact .inl (z.same s5)
        · refine .inr ⟨m, e, m1, m2, ?_⟩
          rcases z with ⟨z1, z2⟩ | ⟨z1, z2⟩
          · exact .inl ⟨z1, z2.same s5⟩
          · exact .inr ⟨z1, z2.same s5⟩
      refine ⟨_, rfl, ?_⟩
      refine iteF ?_
      exact ⟨_, _, rfl, hs.trans (sT.trans (s5.trans s6))⟩
    · refine ifF (decide_eq_false hw) ?_
      refine iteF ?_
      exact ⟨_, _, rfl, hs.trans (sT.trans s5)⟩
  · rintro σ H4 ⟨v5, v6, rfl, hs⟩
    have b4 := b3.same hs
    refine ⟨_, rfl, _, _, _, rfl, by decide, by decide, .inl b4, fun H5 s5 => ?_⟩
    refine ⟨_, rfl, ?_⟩
    refine iteT ?_
    refine ⟨_, rfl, Nat.zero_le _, fun l1 h1 => ?_⟩
    have t1 := same_new h1 (.lst [])
    refine ⟨_, _, _, rfl, by decide, by decide, .inl (b4.same (s5.trans t1)), fun H6 s6 => ?_⟩
    refine ⟨_, rfl, ?_⟩
    refine iteT ?_
    refine ⟨_, rfl, sz1, fun l2 h2 => ?_⟩
    have t2 := same_new h2 (.lst [V.int 1])
    exact ⟨_, _, _, rfl, by decide, by decide, .inl (b4.same (s5.trans (t1.trans (s6.trans t2)))), fun H7 s7 => q H7⟩
end
end K84
namespace K84
open PySem L2 TD PyProof.Rows
theorem all_mk {l : W.OpenLaw} {w : World} {K : W.Frag} {h : Heap} {mg : Str → Option Value} {fa f1 f2 f3 f4 f5 f6 f7 f8 f9 f10 f11 f12 f13 f14 f15 C_LidError C_NoRanks C_NoBox C_NoDeed C_NoSets C_NoOffers C_NoRule C_NoTable C_NoText C_NoPattern C_NoPlan C_TooMany : Addr} (X : K.In h) (G : h.Ns mainGlobals mg) (hfa : mg "law" = some (.ref fa))
    {od1 an1 od2 an2 od3 an3 od4 an4 od5 an5 od6 an6 od7 an7 od8 an8 od9 an9 od10 an10 od11 an11 od12 an12 od13 an13 od14 an14 od15 an15 : Option Addr} {sl1 sl2 sl3 sl4 sl5 sl6 sl7 sl8 sl9 sl10 sl11 sl12 sl13 sl14 sl15 : Array (Option Value)} {oc1 kV1 dc1 pm1 cd1 ct1 oc2 kV2 dc2 pm2 cd2 ct2 oc3 kV3 dc3 pm3 cd3 ct3 oc4 kV4 dc4 pm4 cd4 ct4 oc5 kV5 dc5 pm5 cd5 ct5 oc6 kV6 dc6 pm6 cd6 ct6 oc7 kV7 dc7 pm7 cd7 ct7 oc8 kV8 dc8 pm8 cd8 ct8 oc9 kV9 dc9 pm9 cd9 ct9 oc10 kV10 dc10 pm10 cd10 ct10 oc11 kV11 dc11 pm11 cd11 ct11 oc12 kV12 dc12 pm12 cd12 ct12 oc13 kV13 dc13 pm13 cd13 ct13 oc14 kV14 dc14 pm14 cd14 ct14 oc15 kV15 dc15 pm15 cd15 ct15 : Value}
    (aC_LidError : W.nsIn K mainGlobals "LidError" = some (some (.ref C_LidError)))
    (aC_NoRanks : W.nsIn K mainGlobals "NoRanks" = some (some (.ref C_NoRanks)))
    (aC_NoBox : W.nsIn K mainGlobals "NoBox" = some (some (.ref C_NoBox)))
    (aC_NoDeed : W.nsIn K mainGlobals "NoDeed" = some (some (.ref C_NoDeed)))
    (aC_NoSets : W.nsIn K mainGlobals "NoSets" = some (some (.ref C_NoSets)))
    (aC_NoOffers : W.nsIn K mainGlobals "NoOffers" = some (some (.ref C_NoOffers)))
    (aC_NoRule : W.nsIn K mainGlobals "NoRule" = some (some (.ref C_NoRule)))
    (aC_NoTable : W.nsIn K mainGlobals "NoTable" = some (some (.ref C_NoTable)))
    (aC_NoText : W.nsIn K mainGlobals "NoText" = some (some (.ref C_NoText)))
    (aC_NoPattern : W.nsIn K mainGlobals "NoPattern" = some (some (.ref C_NoPattern)))
    (aC_NoPlan : W.nsIn K mainGlobals "NoPlan" = some (some (.ref C_NoPlan)))
    (aC_TooMany : W.nsIn K mainGlobals "TooMany" = some (some (.ref C_TooMany)))
    (a1 : W.nsIn K mainGlobals "is_whole" = some (some (.ref f1)))
    (l1 : K.lookup f1 = some ⟨oc1, od1, .func (W.fnOf "is_whole" "is_whole" (defArgs (top 14)) (defBody (top 14)) (defScope (top 14)) .none kV1 dc1 pm1 an1 cd1 ct1), sl1⟩) (c1 : W.codeIn K cd1 "is_whole" = true) (k1 : W.keepIn K (.ref f1) = true)
    (a2 : W.nsIn K mainGlobals "need_many" = some (some (.ref f2)))
    (l2 : K.lookup f2 = some ⟨oc2, od2, .func (W.fnOf "need_many" "need_many" (defArgs (top 28)) (defBody (top 28)) (defScope (top 28)) .none kV2 dc2 pm2 an2 cd2 ct2), sl2⟩) (c2 : W.codeIn K cd2 "need_many" = true) (k2 : W.keepIn K (.ref f2) = true)
    (a3 : W.nsIn K mainGlobals "is_places" = some (some (.ref f3)))
    (l3 : K.lookup f3 = some ⟨oc3, od3, .func (W.fnOf "is_places" "is_places" (defArgs (top 29)) (defBody (top 29)) (defScope (top 29)) .none kV3 dc3 pm3 an3 cd3 ct3), sl3⟩) (c3 : W.codeIn K cd3 "is_places" = true) (k3 : W.keepIn K (.ref f3) = true)
    (a4 : W.nsIn K mainGlobals "need_places" = some (some (.ref f4)))
    (l4 : K.lookup f4 = some ⟨oc4, od4, .func (W.fnOf "need_places" "need_places" (defArgs (top 30)) (defBody (top 30)) (defScope (top 30)) .none kV4 dc4 pm4 an4 cd4 ct4), sl4⟩) (c4 : W.codeIn K cd4 "need_places" = true) (k4 : W.keepIn K (.ref f4) = true)
    (a5 : W.nsIn K mainGlobals "first_better" = some (some (.ref f5)))
    (l5 : K.lookup f5 = some ⟨oc5, od5, .func (W.fnOf "first_better" "first_better" (defArgs (top 31)) (defBody (top 31)) (defScope (top 31)) .none kV5 dc5 pm5 an5 cd5 ct5), sl5⟩) (c5 : W.codeIn K cd5 "first_better" = true) (k5 : W.keepIn K (.ref f5) = true)
    (a6 : W.nsIn K mainGlobals "best_gone" = some (some (.ref f6)))
    (l6 : K.lookup f6 = some ⟨oc6, od6, .func (W.fnOf "best_gone" "best_gone" (defArgs (top 32)) (defBody (top 32)) (defScope (top 32)) .none kV6 dc6 pm6 an6 cd6 ct6), sl6⟩) (c6 : W.codeIn K cd6 "best_gone" = true) (k6 : W.keepIn K (.ref f6) = true)
    (a7 : W.nsIn K mainGlobals "rank_worths" = some (some (.ref f7)))
    (l7 : K.lookup f7 = some ⟨oc7, od7, .func (W.fnOf "rank_worths" "rank_worths" (defArgs (top 33)) (defBody (top 33)) (defScope (top 33)) .none kV7 dc7 pm7 an7 cd7 ct7), sl7⟩) (c7 : W.codeIn K cd7 "rank_worths" = true) (k7 : W.keepIn K (.ref f7) = true)
    (a8 : W.nsIn K mainGlobals "share_by" = some (some (.ref f8)))
    (l8 : K.lookup f8 = some ⟨oc8, od8, .func (W.fnOf "share_by" "share_by" (defArgs (top 35)) (defBody (top 35)) (defScope (top 35)) .none kV8 dc8 pm8 an8 cd8 ct8), sl8⟩) (c8 : W.codeIn K cd8 "share_by" = true) (k8 : W.keepIn K (.ref f8) = true)
    (a9 : W.nsIn K mainGlobals "rank_losses" = some (some (.ref f9)))
    (l9 : K.lookup f9 = some ⟨oc9, od9, .func (W.fnOf "rank_losses" "rank_losses" (defArgs (top 36)) (defBody (top 36)) (defScope (top 36)) .none kV9 dc9 pm9 an9 cd9 ct9), sl9⟩) (c9 : W.codeIn K cd9 "rank_losses" = true) (k9 : W.keepIn K (.ref f9) = true)
    (a10 : W.nsIn K mainGlobals "_law_cell" = some (some (.ref f10)))
    (l10 : K.lookup f10 = some ⟨oc10, od10, .func (W.fnOf "_law_cell" "_law_cell" (defArgs (top 38)) (defBody (top 38)) (defScope (top 38)) .none kV10 dc10 pm10 an10 cd10 ct10), sl10⟩) (c10 : W.codeIn K cd10 "_law_cell" = true) (k10 : W.keepIn K (.ref f10) = true)
    (a11 : W.nsIn K mainGlobals "_law_no_many" = some (some (.ref f11)))
    (l11 : K.lookup f11 = some ⟨oc11, od11, .func (W.fnOf "_law_no_many" "_law_no_many" (defArgs (top 40)) (defBody (top 40)) (defScope (top 40)) .none kV11 dc11 pm11 an11 cd11 ct11), sl11⟩) (c11 : W.codeIn K cd11 "_law_no_many" = true) (k11 : W.keepIn K (.ref f11) = true)
    (a12 : W.nsIn K mainGlobals "_law_no_gone" = some (some (.ref f12)))
    (l12 : K.lookup f12 = some ⟨oc12, od12, .func (W.fnOf "_law_no_gone" "_law_no_gone" (defArgs (top 41)) (defBody (top 41)) (defScope (top 41)) .none kV12 dc12 pm12 an12 cd12 ct12), sl12⟩) (c12 : W.codeIn K cd12 "_law_no_gone" = true) (k12 : W.keepIn K (.ref f12) = true)
    (a13 : W.nsIn K mainGlobals "_law_no_places" = some (some (.ref f13)))
    (l13 : K.lookup f13 = some ⟨oc13, od13, .func (W.fnOf "_law_no_places" "_law_no_places" (defArgs (top 42)) (defBody (top 42)) (defScope (top 42)) .none kV13 dc13 pm13 an13 cd13 ct13), sl13⟩) (c13 : W.codeIn K cd13 "_law_no_places" = true) (k13 : W.keepIn K (.ref f13) = true)
    (a14 : W.nsIn K mainGlobals "_law_called" = some (some (.ref f14)))
    (l14 : K.lookup f14 = some ⟨oc14, od14, .func (W.fnOf "_law_called" "_law_called" (defArgs (top 43)) (defBody (top 43)) (defScope (top 43)) .none kV14 dc14 pm14 an14 cd14 ct14), sl14⟩) (c14 : W.codeIn K cd14 "_law_called" = true) (k14 : W.keepIn K (.ref f14) = true)
    (a15 : W.nsIn K mainGlobals "law" = some (some (.ref f15)))
    (l15 : K.lookup f15 = some ⟨oc15, od15, .func (W.fnOf "law" "law" (defArgs (top 44)) (defBody (top 44)) (defScope (top 44)) .none kV15 dc15 pm15 an15 cd15 ct15), sl15⟩) (c15 : W.codeIn K cd15 "law" = true) (k15 : W.keepIn K (.ref f15) = true)
    (xc : W.excIn K C_NoRanks ([.type "ValueError", .type "Exception", .type "BaseException", .type "object"]) "ValueError.__new__" = true)
    (gaX : W.findIn K (.ref C_NoRanks) "__getattribute__" = some (some (.builtin "BaseException.__getattribute__")))
    (gtX : W.findIn K (.ref C_NoRanks) "__getattr__" = some none)
    (mbX : W.mroIn K C_NoRanks (.type "BaseException") = some true)
    (clX : (W.clsIn K C_NoRanks).isSome = true)
    (fiX : W.findIn K (.ref C_NoRanks) "__class__" = some (some (.builtin "object.__class__")))
    (spX : W.specialIn K (.builtin "object.__class__") "__get__" = some (some (.builtin "getset_descriptor.__get__")))
    (tkX : W.takesIn K (.builtin "object.__class__") = some true)
    (mrX : W.mroIn K C_NoRanks (.type "object") = some true)
    (exX : W.exmOne K (.ref C_NoRanks) (.ref C_LidError) = some true)
    (k1X : W.kitOne K (.ref C_NoRanks) (.type "ValueError") = some true)
    (k2X : W.kitAny K (.ref C_NoRanks) ([C_NoBox, C_NoDeed, C_NoSets, C_NoOffers].map Value.ref) = some false)
    (k3X : W.kitAny K (.ref C_NoRanks) ([C_NoRule, C_NoTable, C_NoText, C_NoPattern, C_NoPlan, C_TooMany].map Value.ref) = some false)
    (y_ValueError : W.nsIn K mainGlobals "ValueError" = some none)
    (y_all : W.nsIn K mainGlobals "all" = some none)
    (y_bool : W.nsIn K mainGlobals "bool" = some none)
    (y_int : W.nsIn K mainGlobals "int" = some none)
    (y_isinstance : W.nsIn K mainGlobals "isinstance" = some none)
    (y_len : W.nsIn K mainGlobals "len" = some none)
    (y_list : W.nsIn K mainGlobals "list" = some none)
    (y_range : W.nsIn K mainGlobals "range" = some none)
    (y_set : W.nsIn K mainGlobals "set" = some none)
    (y_sorted : W.nsIn K mainGlobals "sorted" = some none)
    (y_tuple : W.nsIn K mainGlobals "tuple" = some none)
    {tk_MOST_RANKS : Tok} (yg_MOST_RANKS : W.nsIn K mainGlobals "MOST_RANKS" = some (some (.int 60 tk_MOST_RANKS)))
    : ∃ fd : FuncData, (∀ (s : Shared) (v : Value), BindsTo s fd ⟨[v], []⟩ [("_law_script", v)]) ∧ ∀ base : Heap, K.In base → base.Ns mainGlobals mg → FnOk l.prog w K mg base CX0 6 fa fd ["_law_script"] (spLaw84 K) := by
  have e := hfa.symm.trans (W.mg_of X G a15)
  cases e
  have F1 := fun_mk (st := (top 14)) l1 c1 k1
  have b1 := F1.binds (ps := ["thing", "least", "most"]) fun _ _ _ _ _ _ us hl => match us, hl with | [_, _, _], _ => rfl
  have F2 := fun_mk (st := (top 28)) l2 c2 k2
  have b2 := F2.binds (ps := ["many"]) fun _ _ _ _ _ _ us hl => match us, hl with | [_], _ => rfl
  have F3 := fun_mk (st := (top 29)) l3 c3 k3
  have b3 := F3.binds (ps := ["places", "many"]) fun _ _ _ _ _ _ us hl => match us, hl with | [_, _], _ => rfl
  have F4 := fun_mk (st := (top 30)) l4 c4 k4
  have b4 := F4.binds (ps := ["many", "places"]) fun _ _ _ _ _ _ us hl => match us, hl with | [_, _], _ => rfl
  have F5 := fun_mk (st := (top 31)) l5 c5 k5
  have b5 := F5.binds (ps := ["many", "gone"]) fun _ _ _ _ _ _ us hl => match us, hl with | [_, _], _ => rfl
  have F6 := fun_mk (st := (top 32)) l6 c6 k6
  have b6 := F6.binds (ps := ["many"]) fun _ _ _ _ _ _ us hl => match us, hl with | [_], _ => rfl
  have F7 := fun_mk (st := (top 33)) l7 c7 k7
  have b7 := F7.binds (ps := ["many"]) fun _ _ _ _ _ _ us hl => match us, hl with | [_], _ => rfl
  have F8 := fun_mk (st := (top 35)) l8 c8 k8
  have b8 := F8.binds (ps := ["many", "places"]) fun _ _ _ _ _ _ us hl => match us, hl with | [_, _], _ => rfl
  have F9 := fun_mk (st := (top 36)) l9 c9 k9
  have b9 := F9.binds (ps := ["many", "places"]) fun _ _ _ _ _ _ us hl => match us, hl with | [_, _], _ => rfl
  have F10 := fun_mk (st := (top 38)) l10 c10 k10
  have b10 := F10.binds (ps := ["_law_script", "_law_k"]) fun _ _ _ _ _ _ us hl => match us, hl with | [_, _], _ => rfl
  have F11 := fun_mk (st := (top 40)) l11 c11 k11
  have b11 := F11.binds (ps := ["_law_cell_here"]) fun _ _ _ _ _ _ us hl => match us, hl with | [_], _ => rfl
  have F12 := fun_mk (st := (top 41)) l12 c12 k12
  have b12 := F12.binds (ps := ["_law_many", "_law_cell_here"]) fun _ _ _ _ _ _ us hl => match us, hl with | [_, _], _ => rfl
  have F13 := fun_mk (st := (top 42)) l13 c13 k13
  have b13 := F13.binds (ps := ["_law_many", "_law_cell_here"]) fun _ _ _ _ _ _ us hl => match us, hl with | [_, _], _ => rfl
  have F14 := fun_mk (st := (top 43)) l14 c14 k14
  have b14 := F14.binds (ps := ["_law_way", "_law_many", "_law_thing"]) fun _ _ _ _ _ _ us hl => match us, hl with | [_, _, _], _ => rfl
  have F15 := fun_mk (st := (top 44)) l15 c15 k15
  have m1 := W.mg_of X G a1
  have m2 := W.mg_of X G a2
  have m3 := W.mg_of X G a3
  have m4 := W.mg_of X G a4
  have m5 := W.mg_of X G a5
  have m6 := W.mg_of X G a6
  have m7 := W.mg_of X G a7
  have m8 := W.mg_of X G a8
  have m9 := W.mg_of X G a9
  have m10 := W.mg_of X G a10
  have m11 := W.mg_of X G a11
  have m12 := W.mg_of X G a12
  have m13 := W.mg_of X G a13
  have m14 := W.mg_of X G a14
  have g_LidError := W.mg_of X G aC_LidError
  have g_NoRanks := W.mg_of X G aC_NoRanks
  have g_NoBox := W.mg_of X G aC_NoBox
  have g_NoDeed := W.mg_of X G aC_NoDeed
  have g_NoSets := W.mg_of X G aC_NoSets
  have g_NoOffers := W.mg_of X G aC_NoOffers
  have g_NoRule := W.mg_of X G aC_NoRule
  have g_NoTable := W.mg_of X G aC_NoTable
  have g_NoText := W.mg_of X G aC_NoText
  have g_NoPattern := W.mg_of X G aC_NoPattern
  have g_NoPlan := W.mg_of X G aC_NoPlan
  have g_TooMany := W.mg_of X G aC_TooMany
  have z_ValueError := W.mg_none_of X G y_ValueError
  have z_all := W.mg_none_of X G y_all
  have z_bool := W.mg_none_of X G y_bool
  have z_int := W.mg_none_of X G y_int
  have z_isinstance := W.mg_none_of X G y_isinstance
  have z_len := W.mg_none_of X G y_len
  have z_list := W.mg_none_of X G y_list
  have z_range := W.mg_none_of X G y_range
  have z_set := W.mg_none_of X G y_set
  have z_sorted := W.mg_none_of X G y_sorted
  have z_tuple := W.mg_none_of X G y_tuple
  have g_MOST_RANKS := W.mg_of X G yg_MOST_RANKS
  have r_MOST_RANKS : RelV (.int 60) (.int 60 tk_MOST_RANKS) := ⟨_, rfl⟩
  refine ⟨W.fnOf "law" "law" (defArgs (top 44)) (defBody (top 44)) (defScope (top 44)) .none kV15 dc15 pm15 an15 cd15 ct15, fun s v => .of_eq rfl, fun base _ _ => ?_⟩
  have xcl : XCls K C_NoRanks := ⟨xc⟩
  have xty : XTy K C_NoRanks := ⟨gaX, gtX, mbX, clX, fiX, spX, tkX, mrX⟩
  have C1 : Cal l.prog w K mg base 1 "is_whole" ["thing", "least", "most"] spIsWx f1 _ := ⟨ok_is_whole (n := 0) F1  z_isinstance z_bool z_int , b1, k1, m1⟩
  have C2 : CalX l.prog w K mg base 2 "need_many" ["many"] (spNeedX C_NoRanks) f2 _ := ⟨ok_need_many (n := 1) F2 g_NoRanks xcl (C1.up (by decide))  g_MOST_RANKS r_MOST_RANKS, b2, k2, m2⟩
  have C3 : Cal l.prog w K mg base 2 "is_places" ["places", "many"] spPl f3 _ := ⟨ok_is_places (n := 1) F3 (C1.up (by decide)) z_all z_isinstance z_list z_set z_sorted , b3, k3, m3⟩
  have C4 : CalX l.prog w K mg base 3 "need_places" ["many", "places"] (spNP C_NoRanks) f4 _ := ⟨ok_need_places (n := 2) F4 g_NoRanks xcl (C2.up (by decide)) (C3.up (by decide))  , b4, k4, m4⟩
  have C5 : CalX l.prog w K mg base 3 "first_better" ["many", "gone"] (spFBx C_NoRanks) f5 _ := ⟨ok_first_better (n := 2) F5 g_NoRanks xcl (C2.up (by decide)) (C1.up (by decide))  , b5, k5, m5⟩
  have C6 : CalX l.prog w K mg base 3 "best_gone" ["many"] (spBad1 C_NoRanks) f6 _ := ⟨ok_best_gone (n := 2) F6 (C2.up (by decide))  , b6, k6, m6⟩
  have C7 : CalX l.prog w K mg base 3 "rank_worths" ["many"] (spBad1 C_NoRanks) f7 _ := ⟨ok_rank_worths (n := 2) F7 (C2.up (by decide))  , b7, k7, m7⟩
  have C8 : CalX l.prog w K mg base 4 "share_by" ["many", "places"] (spNP C_NoRanks) f8 _ := ⟨ok_share_by (n := 3) F8 (C4.up (by decide))  , b8, k8, m8⟩
  have C9 : CalX l.prog w K mg base 4 "rank_losses" ["many", "places"] (spNP C_NoRanks) f9 _ := ⟨ok_rank_losses (n := 3) F9 (C4.up (by decide))  , b9, k9, m9⟩
  have C10 : Cal l.prog w K mg base 1 "_law_cell" ["_law_script", "_law_k"] (spCell K) f10 _ := ⟨ok__law_cell (n := 0) F10  z_len , b10, k10, m10⟩
  have C11 : Cal l.prog w K mg base 1 "_law_no_many" ["_law_cell_here"] spNoM f11 _ := ⟨ok__law_no_many (n := 0) F11   , b11, k11, m11⟩
  have C12 : Cal l.prog w K mg base 1 "_law_no_gone" ["_law_many", "_law_cell_here"] spNoG f12 _ := ⟨ok__law_no_gone (n := 0) F12   , b12, k12, m12⟩
  have C13 : Cal l.prog w K mg base 1 "_law_no_places" ["_law_many", "_law_cell_here"] spNoP f13 _ := ⟨ok__law_no_places (n := 0) F13  z_tuple , b13, k13, m13⟩
  have C14 : Cal l.prog w K mg base 5 "_law_called" ["_law_way", "_law_many", "_law_thing"] spCalled f14 _ := ⟨ok__law_called (n := 4) F14 (C6.up (by decide)) (C7.up (by decide)) (C5.up (by decide)) (C8.up (by decide)) (C9.up (by decide)) g_LidError g_NoRanks g_NoBox g_NoDeed g_NoSets g_NoOffers g_NoRule g_NoTable g_NoText g_NoPattern g_NoPlan g_TooMany z_isinstance z_ValueError xty exX k1X k2X k3X, b14, k14, m14⟩
  exact ok_law (n := 5) F15 (C14.up (by decide)) (C13.up (by decide)) (C10.up (by decide)) (C12.up (by decide)) (C11.up (by decide)) z_range
theorem walk {l : W.OpenLaw} {q : Program} {loose : List Str} {XP : (Str → Option Value) → Heap → Prop} {YP : World → Heap → Prop} {d : DefRec} {K : Params → W.Frag} (hn : l.most = some 63) (hdf : d.params.defaults = [])
    (hY : ∀ (w : World) (h : Heap), YP w h → (K w.params).In h)
    (F : ∀ (w : World) (mg : Str → Option Value) (fa : Addr) (h : Heap), (K w.params).In h → h.Ns mainGlobals mg → mg d.name = some (.ref fa) →
      ∃ fd : FuncData, (∀ (s : Shared) (u : Value), BindsTo s fd ⟨[u], []⟩ [("_law_script", u)]) ∧ ∀ base : Heap, (K w.params).In base → base.Ns mainGlobals mg → FnOk l.prog w (K w.params) mg base CX0 6 fa fd ["_law_script"] (spLaw84 (K w.params))) :
    W.WalkO q loose XP YP l.row.toRowW d [] (fun f vs => PySem.call f vs) :=
  L2.walk_of (n := 63) (k := 6) (x := "_law_script") (CX := fun _ => CX0) (sp := fun w => spLaw84 (K w.params)) hn (by decide) hdf ⟨rfl, by decide, by decide⟩ hY F (fun _ _ a ns hl _ hS => ⟨a, ns, rfl, hS, hl, fun _ => rfl⟩) fun _ _ _ _ _ z => z
noncomputable section
abbrev OO := Params → Obj
def E (P : Params) (x : Str) (t : Tok) (v : Value) : DictEntry := ⟨PyData.keyHash P x, .str x t, v⟩
abbrev fnO (n q : Str) (st : Stmt) (dV kV doc pm : Value) (an : Option Addr) (cdv ct : Value) : FuncData := W.fnOf n q (defArgs st) (defBody st) (defScope st) dV kV doc pm an cdv ct
def fnT (n q : Str) (st : Stmt) : FuncData := { name := n, qualname := q, params := defArgs st, body := .stmts (defBody st), scope := defScope st, globals := 0, closure := [], defaults := .none, kwdefaults := .none }
def s0  : Obj := ⟨(.type "tuple"), none, (.seq #[] 0), #[]⟩
def s1  : Obj := ⟨.none, none, (.fields #[]), #[]⟩
def s2 (x0 : Str) (x1 : Nat) (x3 : Nat) (x5 : Nat) (x6 : Int) (x16 : Nat) (x19 : Nat) (x20 : Int) (x25 : Nat) : Obj := ⟨(.type "code"), none, (.fields #[(.str x0 x1), (.str x0 x3), (.str "/claim/cut.py" x5), (.int x6 0), (.int 0 0), (.int 0 0), (.int 0 0), (.int 0 0), (.ref x16), (.bool false), (.int 181 0), (.ref x19), .none, .none, .none, .none, (.int x20 0), (.int x6 0), (.str "/claim/cut.py" x25)]), #[]⟩
def s3 (x0 : Nat) (x2 : Nat) (x3 : Str) (x4 : Nat) : Obj := ⟨(.type "frame"), none, .plain, #[(some (.ref x0)), (some (.ref 3)), (some (.ref x2)), none, (some (.str x3 x4)), none, (some (.ref 0))]⟩
def s4  : Obj := ⟨(.type "builtin_function_or_method"), none, (.fields #[(.builtin "type.__prepare__"), (.type "type")]), #[]⟩
def s5 (P : Params) (x1 : Nat) (x5 : Nat) (x6 : Str) (x7 : Nat) (x9 : Nat) (x10 : Int) (x11 : Nat) (x13 : Nat) (x14 : Nat) : Obj := ⟨(.type "dict"), none, (.dict #[E P "__module__" x1 (.str "lidprice.errors" 187), E P "__qualname__" x5 (.str x6 x7), E P "__firstlineno__" x9 (.int x10 x11), E P "__static_attributes__" x13 (.ref x14)] 4), #[]⟩
def s6 (P : Params) (x1 : Nat) (x5 : Nat) (x6 : Int) (x7 : Nat) (x8 : Str) (x9 : Nat) (x10 : Nat) (x11 : Str) (x12 : Nat) (x13 : Nat) (x15 : Nat) (x16 : Nat) : Obj := ⟨(.type "dict"), none, (.dict #[E P "__module__" x1 (.str "lidprice.errors" 187), E P "__firstlineno__" x5 (.int x6 x7), E P x8 x9 (.ref x10), E P x11 x12 (.ref x13), E P "__doc__" x15 .none] x16), #[]⟩
def s7 (x0 : Nat) : Obj := ⟨(.type "super"), none, (.fields #[(.ref x0), (.ref x0), (.ref x0)]), #[]⟩
def s8 (x0 : Nat) : Obj := ⟨(.type "builtin_function_or_method"), none, (.fields #[(.builtin "object.__init_subclass__"), (.ref x0)]), #[]⟩
def s9  : Obj := ⟨(.type "tuple"), none, (.seq #[(.ref 24)] 0), #[]⟩
def s10 (P : Params) (x1 : Nat) (x5 : Nat) (x6 : Int) (x7 : Nat) (x9 : Nat) (x10 : Nat) (x12 : Nat) : Obj := ⟨(.type "dict"), none, (.dict #[E P "__module__" x1 (.str "lidprice.errors" 187), E P "__firstlineno__" x5 (.int x6 x7), E P "__static_attributes__" x9 (.ref x10), E P "__doc__" x12 .none] 2), #[]⟩
def s11 (x0 : Str) (x2 : Nat) (x4 : Nat) (x6 : Nat) (x8 : Nat) (x10 : Nat) : Obj := ⟨(.type "type"), none, (.cls ⟨x0, [(.ref 24)], [(.ref x2), (.ref 24), (.type "ValueError"), (.type "Exception"), (.type "BaseException"), (.type "object")], x4, x0, true, [], [], false, none, false⟩), #[(some (.ref x6)), none, (some (.str x0 x8)), (some (.str x0 x10)), (some (.builtin "ValueError.__new__")), (some (.bool true))]⟩
def s12 (x0 : Str) (x1 : Nat) (x2 : Str) (x3 : Nat) (x4 : Str) (x5 : Nat) : Obj := ⟨(.type "tuple"), none, (.seq #[(.str x0 x1), (.str x2 x3), (.str x4 x5)] 0), #[]⟩
def s13 (x0 : Str) (x1 : Str) (x2 : Stmt) : Obj := ⟨.none, none, (.func (fnT x0 x1 x2)), #[]⟩
def s14 (x0 : Str) (x1 : Nat) (x2 : Str) (x3 : Nat) (x5 : Nat) (x6 : Int) (x8 : Int) (x16 : Nat) (x19 : Nat) (x20 : Nat) (x21 : Nat) (x22 : Nat) (x23 : Int) (x28 : Nat) : Obj := ⟨(.type "code"), none, (.fields #[(.str x0 x1), (.str x2 x3), (.str "/claim/cut.py" x5), (.int x6 0), (.int x8 0), (.int 0 0), (.int 0 0), (.int 3 0), (.ref x16), (.bool true), (.int 181 0), (.ref x19), .none, (.ref x20), (.ref x21), (.ref x22), (.int x23 0), (.int x6 0), (.str "/claim/cut.py" x28)]), #[]⟩
def s15 (x0 : Str) (x1 : Str) (x2 : Stmt) (x3 : Str) (x4 : Nat) (x5 : Nat) : Obj := ⟨(.type "function"), none, (.func (fnO x0 x1 x2 .none .none .none (.str x3 x4) none (.ref x5) .none)), #[]⟩
def s16 (x0 : Str) (x1 : Nat) (x2 : Str) (x3 : Nat) : Obj := ⟨(.type "tuple"), none, (.seq #[(.str x0 x1), (.str x2 x3)] 0), #[]⟩
def s17 (x0 : Str) (x1 : Nat) : Obj := ⟨(.type "tuple"), none, (.seq #[(.str x0 x1)] 0), #[]⟩
def s18 (x0 : Str) (x1 : Nat) (x3 : Nat) (x5 : Nat) (x6 : Int) (x8 : Int) (x16 : Nat) (x19 : Nat) (x20 : Nat) (x21 : Int) (x26 : Nat) : Obj := ⟨(.type "code"), none, (.fields #[(.str x0 x1), (.str x0 x3), (.str "/claim/cut.py" x5), (.int x6 0), (.int x8 0), (.int 0 0), (.int 0 0), (.int 3 0), (.ref x16), (.bool true), (.int 181 0), (.ref x19), .none, .none, .none, (.ref x20), (.int x21 0), (.int x6 0), (.str "/claim/cut.py" x26)]), #[]⟩
def o13 : OO := fun _ => s2 "<module>" 182 183 184 1 11 12 185 186
def o14 : OO := fun _ => s3 13 3 "__main__" 164
def o3 : OO := fun P => ⟨(.type "dict"), none, (.dict #[E P "__name__" 165 (.str "lidprice.errors" 187), E P "__doc__" 166 .none, E P "__package__" 167 .none, E P "__loader__" 168 (.builtin "__main__.__loader__#opaque"), E P "__spec__" 169 .none, E P "__annotations__" 170 (.ref 6), E P "__builtins__" 171 (.ref 4), E P "__file__" 173 (.str "/claim/cut.py" 172), E P "__cached__" 174 .none, E P "LidError" 206 (.ref 24), E P "NoTable" 222 (.ref 37), E P "NoBox" 238 (.ref 49), E P "NoDeed" 254 (.ref 61), E P "NoSets" 270 (.ref 73), E P "NoOffers" 286 (.ref 85)] 15), #[]⟩
def o12_1 : OO := fun _ => ⟨.none, none, (.fields #[(.int 2 0), (.int 0 0), (.ref 20), (.int 4 0), (.int 0 0), (.ref 33), (.int 6 0), (.int 0 0), (.ref 45), (.int 8 0), (.int 0 0), (.ref 57), (.int 10 0), (.int 0 0), (.ref 69), (.int 12 0), (.int 0 0), (.ref 81)]), #[]⟩
def o15 : OO := fun _ => ⟨(.type "tuple"), none, (.seq #[(.type "ValueError")] 0), #[]⟩
def o17 : OO := fun P => s5 P 196 198 "LidError" 197 200 2 199 201 22
def o20 : OO := fun _ => s2 "LidError" 191 192 193 2 18 19 194 195
def o21 : OO := fun _ => s3 20 17 "lidprice.errors" 187
def o23 : OO := fun P => s6 P 196 200 2 199 "__static_attributes__" 201 22 "__weakref__" 203 25 204 3
def o24 : OO := fun _ => ⟨(.type "type"), none, (.cls ⟨"LidError", [(.type "ValueError")], [(.ref 24), (.type "ValueError"), (.type "Exception"), (.type "BaseException"), (.type "object")], 23, "LidError", true, [], [(.ref 37), (.ref 49), (.ref 61), (.ref 73), (.ref 85)], false, none, false⟩), #[(some (.ref 15)), none, (some (.str "LidError" 189)), (some (.str "LidError" 197)), (some (.builtin "ValueError.__new__")), (some (.bool true))]⟩
def o25 : OO := fun _ => ⟨(.type "getset_descriptor"), none, (.fields #[(.str "__weakref__" 202), (.ref 24), (.builtin "ExceptionGroup.__weakref__"), .none]), #[]⟩
def o26 : OO := fun _ => s7 24
def o27 : OO := fun _ => s8 24
def o30 : OO := fun P => s5 P 214 216 "NoTable" 215 218 4 217 219 35
def o33 : OO := fun _ => s2 "NoTable" 209 210 211 4 31 32 212 213
def o34 : OO := fun _ => s3 33 30 "lidprice.errors" 187
def o36 : OO := fun P => s10 P 214 218 4 217 219 35 220
def o37 : OO := fun _ => s11 "NoTable" 37 36 28 207 215
def o38 : OO := fun _ => s7 37
def o39 : OO := fun _ => s8 37
def o42 : OO := fun P => s5 P 230 232 "NoBox" 231 234 6 233 235 47
def o45 : OO := fun _ => s2 "NoBox" 225 226 227 6 43 44 228 229
def o46 : OO := fun _ => s3 45 42 "lidprice.errors" 187
def o48 : OO := fun P => s10 P 230 234 6 233 235 47 236
def o49 : OO := fun _ => s11 "NoBox" 49 48 40 223 231
def o50 : OO := fun _ => s7 49
def o51 : OO := fun _ => s8 49
def o54 : OO := fun P => s5 P 246 248 "NoDeed" 247 250 8 249 251 59
def o57 : OO := fun _ => s2 "NoDeed" 241 242 243 8 55 56 244 245
def o58 : OO := fun _ => s3 57 54 "lidprice.errors" 187
def o60 : OO := fun P => s10 P 246 250 8 249 251 59 252
def o61 : OO := fun _ => s11 "NoDeed" 61 60 52 239 247
def o62 : OO := fun _ => s7 61
def o63 : OO := fun _ => s8 61
def o66 : OO := fun P => s5 P 262 264 "NoSets" 263 266 10 265 267 71
def o69 : OO := fun _ => s2 "NoSets" 257 258 259 10 67 68 260 261
def o70 : OO := fun _ => s3 69 66 "lidprice.errors" 187
def o72 : OO := fun P => s10 P 262 266 10 265 267 71 268
def o73 : OO := fun _ => s11 "NoSets" 73 72 64 255 263
def o74 : OO := fun _ => s7 73
def o75 : OO := fun _ => s8 73
def o78 : OO := fun P => s5 P 278 280 "NoOffers" 279 282 12 281 283 83
def o81 : OO := fun _ => s2 "NoOffers" 273 274 275 12 79 80 276 277
def o82 : OO := fun _ => s3 81 78 "lidprice.errors" 187
def o84 : OO := fun P => s10 P 278 282 12 281 283 83 284
def o85 : OO := fun _ => s11 "NoOffers" 85 84 76 271 279
def o86 : OO := fun _ => s7 85
def o87 : OO := fun _ => s8 85
def o3_1 : OO := fun P => ⟨(.type "dict"), none, (.dict #[E P "__name__" 165 (.str "lidprice.errors" 187), E P "__doc__" 166 .none, E P "__package__" 167 .none, E P "__loader__" 168 (.builtin "__main__.__loader__#opaque"), E P "__spec__" 169 .none, E P "__annotations__" 170 (.ref 6), E P "__builtins__" 171 (.ref 4), E P "__file__" 173 (.str "/claim/cut.py" 172), E P "__cached__" 174 .none, E P "LidError" 206 (.ref 24), E P "NoTable" 222 (.ref 37), E P "NoBox" 238 (.ref 49), E P "NoDeed" 254 (.ref 61), E P "NoSets" 270 (.ref 73), E P "NoOffers" 286 (.ref 85), E P "NoRule" 302 (.ref 97), E P "NoRanks" 318 (.ref 109), E P "NoText" 334 (.ref 121), E P "NoPattern" 361 (.ref 140), E P "NoPlan" 386 (.ref 159), E P "TooMany" 411 (.ref 178)] 21), #[]⟩
def o12_2 : OO := fun _ => ⟨.none, none, (.fields #[(.int 2 0), (.int 0 0), (.ref 20), (.int 4 0), (.int 0 0), (.ref 33), (.int 6 0), (.int 0 0), (.ref 45), (.int 8 0), (.int 0 0), (.ref 57), (.int 10 0), (.int 0 0), (.ref 69), (.int 12 0), (.int 0 0), (.ref 81), (.int 14 0), (.int 0 0), (.ref 93), (.int 16 0), (.int 0 0), (.ref 105), (.int 18 0), (.int 0 0), (.ref 117), (.int 20 0), (.int 0 0), (.ref 129), (.int 25 0), (.int 0 0), (.ref 148), (.int 29 0), (.int 0 0), (.ref 167)]), #[]⟩
def o24_1 : OO := fun _ => ⟨(.type "type"), none, (.cls ⟨"LidError", [(.type "ValueError")], [(.ref 24), (.type "ValueError"), (.type "Exception"), (.type "BaseException"), (.type "object")], 23, "LidError", true, [], [(.ref 37), (.ref 49), (.ref 61), (.ref 73), (.ref 85), (.ref 97), (.ref 109), (.ref 121), (.ref 140), (.ref 159), (.ref 178)], false, none, false⟩), #[(some (.ref 15)), none, (some (.str "LidError" 189)), (some (.str "LidError" 197)), (some (.builtin "ValueError.__new__")), (some (.bool true))]⟩
def o90 : OO := fun P => s5 P 294 296 "NoRule" 295 298 14 297 299 95
def o93 : OO := fun _ => s2 "NoRule" 289 290 291 14 91 92 292 293
def o94 : OO := fun _ => s3 93 90 "lidprice.errors" 187
def o96 : OO := fun P => s10 P 294 298 14 297 299 95 300
def o97 : OO := fun _ => s11 "NoRule" 97 96 88 287 295
def o98 : OO := fun _ => s7 97
def o99 : OO := fun _ => s8 97
def o102 : OO := fun P => s5 P 310 312 "NoRanks" 311 314 16 313 315 107
def o105 : OO := fun _ => s2 "NoRanks" 305 306 307 16 103 104 308 309
def o106 : OO := fun _ => s3 105 102 "lidprice.errors" 187
def o108 : OO := fun P => s10 P 310 314 16 313 315 107 316
def o109 : OO := fun _ => s11 "NoRanks" 109 108 100 303 311
def o110 : OO := fun _ => s7 109
def o111 : OO := fun _ => s8 109
def o114 : OO := fun P => s5 P 326 328 "NoText" 327 330 18 329 331 119
def o117 : OO := fun _ => s2 "NoText" 321 322 323 18 115 116 324 325
def o118 : OO := fun _ => s3 117 114 "lidprice.errors" 187
def o120 : OO := fun P => s10 P 326 330 18 329 331 119 332
def o121 : OO := fun _ => s11 "NoText" 121 120 112 319 327
def o122 : OO := fun _ => s7 121
def o123 : OO := fun _ => s8 121
def o126 : OO := fun P => ⟨(.type "dict"), none, (.dict #[E P "__module__" 342 (.str "lidprice.errors" 187), E P "__qualname__" 344 (.str "NoPattern" 343), E P "__firstlineno__" 346 (.int 20 345), E P "__init__" 355 (.ref 137), E P "__static_attributes__" 358 (.ref 138)] 5), #[]⟩
def o128 : OO := fun _ => ⟨.none, none, (.fields #[(.int 22 0), (.int 4 0), (.ref 136)]), #[]⟩
def o129 : OO := fun _ => s2 "NoPattern" 337 338 339 20 127 128 340 341
def o130 : OO := fun _ => s3 129 126 "lidprice.errors" 187
def o133 : OO := fun _ => s12 "self" 350 "one" 351 "other" 352
def o135 : OO := fun _ => s13 "__init__" "NoPattern.__init__" (inClass (top 10) 0)
def o136 : OO := fun _ => s14 "__init__" 347 "NoPattern.__init__" 348 349 22 3 131 132 133 134 135 353 354
def o137 : OO := fun _ => s15 "__init__" "NoPattern.__init__" (inClass (top 10) 0) "lidprice.errors" 187 136
def o138 : OO := fun _ => s16 "one" 356 "other" 357
def o139 : OO := fun P => s6 P 342 346 20 345 "__init__" 355 137 "__static_attributes__" 358 138 359 2
def o140 : OO := fun _ => s11 "NoPattern" 140 139 124 335 343
def o141 : OO := fun _ => s7 140
def o142 : OO := fun _ => s8 140
def o145 : OO := fun P => ⟨(.type "dict"), none, (.dict #[E P "__module__" 369 (.str "lidprice.errors" 187), E P "__qualname__" 371 (.str "NoPlan" 370), E P "__firstlineno__" 373 (.int 25 372), E P "__init__" 381 (.ref 156), E P "__static_attributes__" 383 (.ref 157)] 5), #[]⟩
def o147 : OO := fun _ => ⟨.none, none, (.fields #[(.int 27 0), (.int 4 0), (.ref 155)]), #[]⟩
def o148 : OO := fun _ => s2 "NoPlan" 364 365 366 25 146 147 367 368
def o149 : OO := fun _ => s3 148 145 "lidprice.errors" 187
def o152 : OO := fun _ => s16 "self" 377 "way" 378
def o154 : OO := fun _ => s13 "__init__" "NoPlan.__init__" (inClass (top 11) 0)
def o155 : OO := fun _ => s14 "__init__" 374 "NoPlan.__init__" 375 376 27 2 150 151 152 153 154 379 380
def o156 : OO := fun _ => s15 "__init__" "NoPlan.__init__" (inClass (top 11) 0) "lidprice.errors" 187 155
def o157 : OO := fun _ => s17 "way" 382
def o158 : OO := fun P => s6 P 369 373 25 372 "__init__" 381 156 "__static_attributes__" 383 157 384 2
def o159 : OO := fun _ => s11 "NoPlan" 159 158 143 362 370
def o160 : OO := fun _ => s7 159
def o161 : OO := fun _ => s8 159
def o164 : OO := fun P => ⟨(.type "dict"), none, (.dict #[E P "__module__" 394 (.str "lidprice.errors" 187), E P "__qualname__" 396 (.str "TooMany" 395), E P "__firstlineno__" 398 (.int 29 397), E P "__init__" 406 (.ref 175), E P "__static_attributes__" 408 (.ref 176)] 5), #[]⟩
def o166 : OO := fun _ => ⟨.none, none, (.fields #[(.int 31 0), (.int 4 0), (.ref 174)]), #[]⟩
def o167 : OO := fun _ => s2 "TooMany" 389 390 391 29 165 166 392 393
def o168 : OO := fun _ => s3 167 164 "lidprice.errors" 187
def o171 : OO := fun _ => s16 "self" 402 "many" 403
def o173 : OO := fun _ => s13 "__init__" "TooMany.__init__" (inClass (top 12) 0)
def o174 : OO := fun _ => s14 "__init__" 399 "TooMany.__init__" 400 401 31 2 169 170 171 172 173 404 405
def o175 : OO := fun _ => s15 "__init__" "TooMany.__init__" (inClass (top 12) 0) "lidprice.errors" 187 174
def o176 : OO := fun _ => s17 "many" 407
def o177 : OO := fun P => s6 P 394 398 29 397 "__init__" 406 175 "__static_attributes__" 408 176 409 2
def o178 : OO := fun _ => s11 "TooMany" 178 177 162 387 395
def o179 : OO := fun _ => s7 178
def o180 : OO := fun _ => s8 178
def o3_2 : OO := fun P => ⟨(.type "dict"), none, (.dict #[E P "__name__" 165 (.str "law_lidprice_k84_ranks_refused" 594), E P "__doc__" 166 .none, E P "__package__" 167 .none, E P "__loader__" 168 (.builtin "__main__.__loader__#opaque"), E P "__spec__" 169 .none, E P "__annotations__" 170 (.ref 6), E P "__builtins__" 171 (.ref 4), E P "__file__" 173 (.str "/claim/cut.py" 172), E P "__cached__" 174 .none, E P "LidError" 206 (.ref 24), E P "NoTable" 222 (.ref 37), E P "NoBox" 238 (.ref 49), E P "NoDeed" 254 (.ref 61), E P "NoSets" 270 (.ref 73), E P "NoOffers" 286 (.ref 85), E P "NoRule" 302 (.ref 97), E P "NoRanks" 318 (.ref 109), E P "NoText" 334 (.ref 121), E P "NoPattern" 361 (.ref 140), E P "NoPlan" 386 (.ref 159), E P "TooMany" 411 (.ref 178), E P "is_whole" 422 (.ref 187), E P "common_divisor" 431 (.ref 194), E P "common_multiple" 440 (.ref 201), E P "share" 449 (.ref 208), E P "whole" 456 (.ref 215), E P "plus" 464 (.ref 222), E P "minus" 472 (.ref 229), E P "total" 478 (.ref 234), E P "times" 486 (.ref 241), E P "over" 494 (.ref 248), E P "below" 502 (.ref 255), E P "greater" 510 (.ref 262), E P "MOST_RANKS" 514 (.int 60 513), E P "need_many" 521 (.ref 269), E P "is_places" 527 (.ref 274), E P "need_places" 535 (.ref 281), E P "first_better" 541 (.ref 286), E P "best_gone" 550 (.ref 293), E P "rank_worths" 561 (.ref 300), E P "reached_places" 572 (.ref 307), E P "share_by" 578 (.ref 312), E P "rank_losses" 593 (.ref 319), E P "_law_cell" 603 (.ref 326), E P "_law_mix" 612 (.ref 333), E P "_law_no_many" 620 (.ref 340), E P "_law_no_gone" 628 (.ref 347), E P "_law_no_places" 638 (.ref 354), E P "_law_called" 649 (.ref 361), E P "law" 662 (.ref 368)] 50), #[]⟩
def o12_3 : OO := fun _ => ⟨.none, none, (.fields #[(.int 2 0), (.int 0 0), (.ref 20), (.int 4 0), (.int 0 0), (.ref 33), (.int 6 0), (.int 0 0), (.ref 45), (.int 8 0), (.int 0 0), (.ref 57), (.int 10 0), (.int 0 0), (.ref 69), (.int 12 0), (.int 0 0), (.ref 81), (.int 14 0), (.int 0 0), (.ref 93), (.int 16 0), (.int 0 0), (.ref 105), (.int 18 0), (.int 0 0), (.ref 117), (.int 20 0), (.int 0 0), (.ref 129), (.int 25 0), (.int 0 0), (.ref 148), (.int 29 0), (.int 0 0), (.ref 167), (.int 34 0), (.int 0 0), (.ref 186), (.int 36 0), (.int 0 0), (.ref 193), (.int 42 0), (.int 0 0), (.ref 200), (.int 47 0), (.int 0 0), (.ref 207), (.int 52 0), (.int 0 0), (.ref 214), (.int 54 0), (.int 0 0), (.ref 221), (.int 56 0), (.int 0 0), (.ref 228), (.int 58 0), (.int 0 0), (.ref 233), (.int 61 0), (.int 0 0), (.ref 240), (.int 63 0), (.int 0 0), (.ref 247), (.int 65 0), (.int 0 0), (.ref 254), (.int 67 0), (.int 0 0), (.ref 261), (.int 71 0), (.int 0 0), (.ref 268), (.int 74 0), (.int 0 0), (.ref 273), (.int 78 0), (.int 0 0), (.ref 280), (.int 82 0), (.int 0 0), (.ref 285), (.int 89 0), (.int 0 0), (.ref 292), (.int 96 0), (.int 0 0), (.ref 299), (.int 104 0), (.int 0 0), (.ref 306), (.int 112 0), (.int 0 0), (.ref 311), (.int 116 0), (.int 0 0), (.ref 318), (.int 128 0), (.int 0 0), (.ref 325), (.int 132 0), (.int 0 0), (.ref 332), (.int 136 0), (.int 0 0), (.ref 339), (.int 139 0), (.int 0 0), (.ref 346), (.int 141 0), (.int 0 0), (.ref 353), (.int 145 0), (.int 0 0), (.ref 360), (.int 162 0), (.int 0 0), (.ref 367)]), #[]⟩
def o183 : OO := fun _ => s12 "thing" 417 "least" 418 "most" 419
def o185 : OO := fun _ => s13 "is_whole" "is_whole" (top 14)
def o186 : OO := fun _ => s14 "is_whole" 414 "is_whole" 415 416 34 3 181 182 183 184 185 420 421
def o187 : OO := fun _ => s15 "is_whole" "is_whole" (top 14) "lidprice.shares" 412 186
def o190 : OO := fun _ => s12 "one" 426 "other" 427 "rest" 428
def o192 : OO := fun _ => s13 "common_divisor" "common_divisor" (top 15)
def o193 : OO := fun _ => s14 "common_divisor" 423 "common_divisor" 424 425 36 2 188 189 190 191 192 429 430
def o194 : OO := fun _ => s15 "common_divisor" "common_divisor" (top 15) "lidprice.shares" 412 193
def o197 : OO := fun _ => s12 "numbers" 435 "multiple" 436 "number" 437
def o199 : OO := fun _ => s13 "common_multiple" "common_multiple" (top 16)
def o200 : OO := fun _ => s14 "common_multiple" 432 "common_multiple" 433 434 42 1 195 196 197 198 199 438 439
def o201 : OO := fun _ => s15 "common_multiple" "common_multiple" (top 16) "lidprice.shares" 412 200
def o204 : OO := fun _ => s12 "top" 444 "bottom" 445 "divisor" 446
def o206 : OO := fun _ => s13 "share" "share" (top 17)
def o207 : OO := fun _ => s14 "share" 441 "share" 442 443 47 2 202 203 204 205 206 447 448
def o208 : OO := fun _ => s15 "share" "share" (top 17) "lidprice.shares" 412 207
def o211 : OO := fun _ => s17 "number" 453
def o213 : OO := fun _ => s13 "whole" "whole" (top 18)
def o214 : OO := fun _ => s14 "whole" 450 "whole" 451 452 52 1 209 210 211 212 213 454 455
def o215 : OO := fun _ => s15 "whole" "whole" (top 18) "lidprice.shares" 412 214
def o218 : OO := fun _ => s16 "one" 460 "other" 461
def o220 : OO := fun _ => s13 "plus" "plus" (top 19)
def o221 : OO := fun _ => s14 "plus" 457 "plus" 458 459 54 2 216 217 218 219 220 462 463
def o222 : OO := fun _ => s15 "plus" "plus" (top 19) "lidprice.shares" 412 221
def o225 : OO := fun _ => s16 "one" 468 "other" 469
def o227 : OO := fun _ => s13 "minus" "minus" (top 20)
def o228 : OO := fun _ => s14 "minus" 465 "minus" 466 467 56 2 223 224 225 226 227 470 471
def o229 : OO := fun _ => s15 "minus" "minus" (top 20) "lidprice.shares" 412 228
def o232 : OO := fun _ => s13 "total" "total" (top 21)
def o233 : OO := fun _ => s18 "total" 473 474 475 58 1 230 231 232 476 477
def o234 : OO := fun _ => s15 "total" "total" (top 21) "lidprice.shares" 412 233
def o237 : OO := fun _ => s16 "one" 482 "other" 483
def o239 : OO := fun _ => s13 "times" "times" (top 22)
def o240 : OO := fun _ => s14 "times" 479 "times" 480 481 61 2 235 236 237 238 239 484 485
def o241 : OO := fun _ => s15 "times" "times" (top 22) "lidprice.shares" 412 240
def o244 : OO := fun _ => s16 "one" 490 "other" 491
def o246 : OO := fun _ => s13 "over" "over" (top 23)
def o247 : OO := fun _ => s14 "over" 487 "over" 488 489 63 2 242 243 244 245 246 492 493
def o248 : OO := fun _ => s15 "over" "over" (top 23) "lidprice.shares" 412 247
def o251 : OO := fun _ => s16 "one" 498 "other" 499
def o253 : OO := fun _ => s13 "below" "below" (top 24)
def o254 : OO := fun _ => s14 "below" 495 "below" 496 497 65 2 249 250 251 252 253 500 501
def o255 : OO := fun _ => s15 "below" "below" (top 24) "lidprice.shares" 412 254
def o258 : OO := fun _ => s16 "one" 506 "other" 507
def o260 : OO := fun _ => s13 "greater" "greater" (top 25)
def o261 : OO := fun _ => s14 "greater" 503 "greater" 504 505 67 2 256 257 258 259 260 508 509
def o262 : OO := fun _ => s15 "greater" "greater" (top 25) "lidprice.shares" 412 261
def o265 : OO := fun _ => s17 "many" 518
def o267 : OO := fun _ => s13 "need_many" "need_many" (top 28)
def o268 : OO := fun _ => s14 "need_many" 515 "need_many" 516 517 71 1 263 264 265 266 267 519 520
def o269 : OO := fun _ => s15 "need_many" "need_many" (top 28) "lidprice.ranks" 511 268
def o272 : OO := fun _ => s13 "is_places" "is_places" (top 29)
def o273 : OO := fun _ => s18 "is_places" 522 523 524 74 2 270 271 272 525 526
def o274 : OO := fun _ => s15 "is_places" "is_places" (top 29) "lidprice.ranks" 511 273
def o277 : OO := fun _ => s16 "many" 531 "places" 532
def o279 : OO := fun _ => s13 "need_places" "need_places" (top 30)
def o280 : OO := fun _ => s14 "need_places" 528 "need_places" 529 530 78 2 275 276 277 278 279 533 534
def o281 : OO := fun _ => s15 "need_places" "need_places" (top 30) "lidprice.ranks" 511 280
def o284 : OO := fun _ => s13 "first_better" "first_better" (top 31)
def o285 : OO := fun _ => s18 "first_better" 536 537 538 82 2 282 283 284 539 540
def o286 : OO := fun _ => s15 "first_better" "first_better" (top 31) "lidprice.ranks" 511 285
def o289 : OO := fun _ => s12 "many" 545 "found" 546 "gone" 547
def o291 : OO := fun _ => s13 "best_gone" "best_gone" (top 32)
def o292 : OO := fun _ => s14 "best_gone" 542 "best_gone" 543 544 89 1 287 288 289 290 291 548 549
def o293 : OO := fun _ => s15 "best_gone" "best_gone" (top 32) "lidprice.ranks" 511 292
def o296 : OO := fun _ => ⟨(.type "tuple"), none, (.seq #[(.str "many" 554), (.str "found" 555), (.str "place" 556), (.str "later" 557), (.str "here" 558)] 0), #[]⟩
def o298 : OO := fun _ => s13 "rank_worths" "rank_worths" (top 33)
def o299 : OO := fun _ => s14 "rank_worths" 551 "rank_worths" 552 553 96 1 294 295 296 297 298 559 560
def o300 : OO := fun _ => s15 "rank_worths" "rank_worths" (top 33) "lidprice.ranks" 511 299
def o303 : OO := fun _ => ⟨(.type "tuple"), none, (.seq #[(.str "many" 565), (.str "places" 566), (.str "reached" 567), (.str "found" 568), (.str "place" 569)] 0), #[]⟩
def o305 : OO := fun _ => s13 "reached_places" "reached_places" (top 34)
def o306 : OO := fun _ => s14 "reached_places" 562 "reached_places" 563 564 104 2 301 302 303 304 305 570 571
def o307 : OO := fun _ => s15 "reached_places" "reached_places" (top 34) "lidprice.ranks" 511 306
def o310 : OO := fun _ => s13 "share_by" "share_by" (top 35)
def o311 : OO := fun _ => s18 "share_by" 573 574 575 112 2 308 309 310 576 577
def o312 : OO := fun _ => s15 "share_by" "share_by" (top 35) "lidprice.ranks" 511 311
def o315 : OO := fun _ => ⟨(.type "tuple"), none, (.seq #[(.str "many" 582), (.str "places" 583), (.str "worths" 584), (.str "reached" 585), (.str "found" 586), (.str "place" 587), (.str "taken" 588), (.str "later" 589), (.str "lack" 590)] 0), #[]⟩
def o317 : OO := fun _ => s13 "rank_losses" "rank_losses" (top 36)
def o318 : OO := fun _ => s14 "rank_losses" 579 "rank_losses" 580 581 116 2 313 314 315 316 317 591 592
def o319 : OO := fun _ => s15 "rank_losses" "rank_losses" (top 36) "lidprice.ranks" 511 318
def o322 : OO := fun _ => s16 "_law_script" 599 "_law_k" 600
def o324 : OO := fun _ => s13 "_law_cell" "_law_cell" (top 38)
def o325 : OO := fun _ => s14 "_law_cell" 596 "_law_cell" 597 598 128 2 320 321 322 323 324 601 602
def o326 : OO := fun _ => s15 "_law_cell" "_law_cell" (top 38) "law_lidprice_k84_ranks_refused" 594 325
def o329 : OO := fun _ => s12 "_law_cell_here" 607 "_law_k" 608 "_law_number" 609
def o331 : OO := fun _ => s13 "_law_mix" "_law_mix" (top 39)
def o332 : OO := fun _ => s14 "_law_mix" 604 "_law_mix" 605 606 132 2 327 328 329 330 331 610 611
def o333 : OO := fun _ => s15 "_law_mix" "_law_mix" (top 39) "law_lidprice_k84_ranks_refused" 594 332
def o336 : OO := fun _ => s16 "_law_cell_here" 616 "_law_some" 617
def o338 : OO := fun _ => s13 "_law_no_many" "_law_no_many" (top 40)
def o339 : OO := fun _ => s14 "_law_no_many" 613 "_law_no_many" 614 615 136 1 334 335 336 337 338 618 619
def o340 : OO := fun _ => s15 "_law_no_many" "_law_no_many" (top 40) "law_lidprice_k84_ranks_refused" 594 339
def o343 : OO := fun _ => s16 "_law_many" 624 "_law_cell_here" 625
def o345 : OO := fun _ => s13 "_law_no_gone" "_law_no_gone" (top 41)
def o346 : OO := fun _ => s14 "_law_no_gone" 621 "_law_no_gone" 622 623 139 2 341 342 343 344 345 626 627
def o347 : OO := fun _ => s15 "_law_no_gone" "_law_no_gone" (top 41) "law_lidprice_k84_ranks_refused" 594 346
def o350 : OO := fun _ => ⟨(.type "tuple"), none, (.seq #[(.str "_law_many" 632), (.str "_law_cell_here" 633), (.str "_law_good" 634), (.str "_law_some" 635)] 0), #[]⟩
def o352 : OO := fun _ => s13 "_law_no_places" "_law_no_places" (top 42)
def o353 : OO := fun _ => s14 "_law_no_places" 629 "_law_no_places" 630 631 141 2 348 349 350 351 352 636 637
def o354 : OO := fun _ => s15 "_law_no_places" "_law_no_places" (top 42) "law_lidprice_k84_ranks_refused" 594 353
def o357 : OO := fun _ => ⟨(.type "tuple"), none, (.seq #[(.str "_law_way" 642), (.str "_law_many" 643), (.str "_law_thing" 644), (.str "_law_kinds" 645), (.str "e" 646)] 0), #[]⟩
def o359 : OO := fun _ => s13 "_law_called" "_law_called" (top 43)
def o360 : OO := fun _ => s14 "_law_called" 639 "_law_called" 640 641 145 3 355 356 357 358 359 647 648
def o361 : OO := fun _ => s15 "_law_called" "_law_called" (top 43) "law_lidprice_k84_ranks_refused" 594 360
def o364 : OO := fun _ => ⟨(.type "tuple"), none, (.seq #[(.str "_law_script" 653), (.str "_law_many" 654), (.str "_law_bad" 655), (.str "_law_gone" 656), (.str "_law_places" 657), (.str "_law_way" 658), (.str "_law_thing" 659)] 0), #[]⟩
def o366 : OO := fun _ => s13 "law" "law" (top 44)
def o367 : OO := fun _ => s14 "law" 650 "law" 651 652 162 1 362 363 364 365 366 660 661
def o368 : OO := fun _ => s15 "law" "law" (top 44) "law_lidprice_k84_ranks_refused" 594 367
def t0 (P : Params) : W.BT := (.node (W.boot_o_0 P) (.node (W.boot_o_1 P) (.node (W.boot_o_3 P) (.node (W.boot_o_7 P) .nil .nil) (.node s0 .nil .nil)) (.node (W.boot_o_5 P) (.node (W.boot_o_9 P) .nil .nil) (.node (o13 P) .nil .nil))) (.node (W.boot_o_2 P) (.node (W.boot_o_4 P) (.node (W.boot_o_8 P) .nil .nil) (.node s1 .nil .nil)) (.node (W.boot_o_6 P) (.node (W.boot_o_10 P) .nil .nil) (.node (o14 P) .nil .nil))))
def t1 (P : Params) : W.BT := (.node (W.boot_o_0 P) (.node (W.boot_o_1 P) (.node (o3 P) (.node (W.boot_o_7 P) (.node (o15 P) (.node s0 (.node (o63 P) .nil .nil) .nil) (.node s0 (.node s0 .nil .nil) .nil)) (.node (o23 P) (.node (o39 P) (.node s0 .nil .nil) .nil) (.node s0 (.node (o87 P) .nil .nil) .nil))) (.node s0 (.node s1 (.node s0 (.node s0 .nil .nil) .nil) (.node (o51 P) (.node s0 .nil .nil) .nil)) (.node (o27 P) (.node s0 (.node (o75 P) .nil .nil) .nil) (.node s0 .nil .nil)))) (.node (W.boot_o_5 P) (.node (W.boot_o_9 P) (.node (o17 P) (.node (o33 P) (.node s4 .nil .nil) .nil) (.node (o49 P) (.node (o81 P) .nil .nil) .nil)) (.node (o25 P) (.node s4 (.node (o73 P) .nil .nil) .nil) (.node (o57 P) .nil .nil))) (.node (o13 P) (.node (o21 P) (.node (o37 P) (.node (o69 P) .nil .nil) .nil) (.node s4 (.node (o85 P) .nil .nil) .nil)) (.node s4 (.node (o45 P) (.node s4 .nil .nil) .nil) (.node (o61 P) .nil .nil))))) (.node (W.boot_o_2 P) (.node (W.boot_o_4 P) (.node (W.boot_o_8 P) (.node s4 (.node s1 (.node s9 .nil .nil) .nil) (.node (o48 P) (.node s1 .nil .nil) .nil)) (.node (o24 P) (.node s9 (.node (o72 P) .nil .nil) .nil) (.node s1 .nil .nil))) (.node (o12_1 P) (.node (o20 P) (.node (o36 P) (.node s1 .nil .nil) .nil) (.node s9 (.node (o84 P) .nil .nil) .nil)) (.node s9 (.node s1 (.node s9 .nil .nil) .nil) (.node (o60 P) .nil .nil)))) (.node (W.boot_o_6 P) (.node (W.boot_o_10 P) (.node s0 (.node (o34 P) (.node (o66 P) .nil .nil) .nil) (.node (o50 P) (.node (o82 P) .nil .nil) .nil)) (.node (o26 P) (.node (o42 P) (.node (o74 P) .nil .nil) .nil) (.node (o58 P) .nil .nil))) (.node (o14 P) (.node s0 (.node (o38 P) (.node (o70 P) .nil .nil) .nil) (.node (o54 P) (.node (o86 P) .nil .nil) .nil)) (.node (o30 P) (.node (o46 P) (.node (o78 P) .nil .nil) .nil) (.node (o62 P) .nil .nil))))))
def t2 (P : Params) : W.BT := (.node (W.boot_o_0 P) (.node (W.boot_o_1 P) (.node (o3_1 P) (.node (W.boot_o_7 P) (.node (o15 P) (.node s0 (.node (o63 P) (.node s0 .nil .nil) .nil) (.node s0 (.node (o159 P) .nil .nil) .nil)) (.node s0 (.node s0 (.node s9 .nil .nil) .nil) (.node (o111 P) (.node (o175 P) .nil .nil) .nil))) (.node (o23 P) (.node (o39 P) (.node s0 (.node (o135 P) .nil .nil) .nil) (.node s0 (.node (o167 P) .nil .nil) .nil)) (.node s0 (.node (o87 P) (.node s1 .nil .nil) .nil) (.node s0 .nil .nil)))) (.node s0 (.node s1 (.node s0 (.node s0 (.node s0 .nil .nil) .nil) (.node (o99 P) (.node s4 .nil .nil) .nil)) (.node (o51 P) (.node s0 (.node (o147 P) .nil .nil) .nil) (.node s0 (.node (o179 P) .nil .nil) .nil))) (.node (o27 P) (.node s0 (.node (o75 P) (.node (o139 P) .nil .nil) .nil) (.node s0 (.node (o171 P) .nil .nil) .nil)) (.node s0 (.node s0 (.node (o155 P) .nil .nil) .nil) (.node (o123 P) .nil .nil))))) (.node (W.boot_o_5 P) (.node (W.boot_o_9 P) (.node (o17 P) (.node (o33 P) (.node s4 (.node (o129 P) .nil .nil) .nil) (.node (o97 P) (.node (o161 P) .nil .nil) .nil)) (.node (o49 P) (.node (o81 P) (.node (o145 P) .nil .nil) .nil) (.node s4 (.node (o177 P) .nil .nil) .nil))) (.node (o25 P) (.node s4 (.node (o73 P) (.node (o137 P) .nil .nil) .nil) (.node (o105 P) (.node s0 .nil .nil) .nil)) (.node (o57 P) (.node s4 (.node s0 .nil .nil) .nil) (.node (o121 P) .nil .nil)))) (.node (o13 P) (.node (o21 P) (.node (o37 P) (.node (o69 P) (.node (o133 P) .nil .nil) .nil) (.node s4 (.node s0 .nil .nil) .nil)) (.node s4 (.node (o85 P) (.node (o149 P) .nil .nil) .nil) (.node (o117 P) .nil .nil))) (.node s4 (.node (o45 P) (.node s4 (.node (o141 P) .nil .nil) .nil) (.node (o109 P) (.node (o173 P) .nil .nil) .nil)) (.node (o61 P) (.node (o93 P) (.node (o157 P) .nil .nil) .nil) (.node s4 .nil .nil)))))) (.node (W.boot_o_2 P) (.node (W.boot_o_4 P) (.node (W.boot_o_8 P) (.node s4 (.node s1 (.node s9 (.node (o128 P) .nil .nil) .nil) (.node (o96 P) (.node (o160 P) .nil .nil) .nil)) (.node (o48 P) (.node s1 (.node s4 .nil .nil) .nil) (.node s9 (.node (o176 P) .nil .nil) .nil))) (.node (o24_1 P) (.node s9 (.node (o72 P) (.node (o136 P) .nil .nil) .nil) (.node s1 (.node (o168 P) .nil .nil) .nil)) (.node s1 (.node s9 (.node (o152 P) .nil .nil) .nil) (.node (o120 P) .nil .nil)))) (.node (o12_2 P) (.node (o20 P) (.node (o36 P) (.node s1 (.node s1 .nil .nil) .nil) (.node s9 (.node (o164 P) .nil .nil) .nil)) (.node s9 (.node (o84 P) (.node (o148 P) .nil .nil) .nil) (.node s1 (.node (o180 P) .nil .nil) .nil))) (.node s9 (.node s1 (.node s9 (.node (o140 P) .nil .nil) .nil) (.node (o108 P) (.node s0 .nil .nil) .nil)) (.node (o60 P) (.node s1 (.node (o156 P) .nil .nil) .nil) (.node s9 .nil .nil))))) (.node (W.boot_o_6 P) (.node (W.boot_o_10 P) (.node s0 (.node (o34 P) (.node (o66 P) (.node (o130 P) .nil .nil) .nil) (.node (o98 P) (.node s9 .nil .nil) .nil)) (.node (o50 P) (.node (o82 P) (.node s0 .nil .nil) .nil) (.node (o114 P) (.node (o178 P) .nil .nil) .nil))) (.node (o26 P) (.node (o42 P) (.node (o74 P) (.node (o138 P) .nil .nil) .nil) (.node (o106 P) (.node s1 .nil .nil) .nil)) (.node (o58 P) (.node (o90 P) (.node (o154 P) .nil .nil) .nil) (.node (o122 P) .nil .nil)))) (.node (o14 P) (.node s0 (.node (o38 P) (.node (o70 P) (.node s0 .nil .nil) .nil) (.node (o102 P) (.node (o166 P) .nil .nil) .nil)) (.node (o54 P) (.node (o86 P) (.node s0 .nil .nil) .nil) (.node (o118 P) .nil .nil))) (.node (o30 P) (.node (o46 P) (.node (o78 P) (.node (o142 P) .nil .nil) .nil) (.node (o110 P) (.node (o174 P) .nil .nil) .nil)) (.node (o62 P) (.node (o94 P) (.node (o158 P) .nil .nil) .nil) (.node (o126 P) .nil .nil)))))))
def t3 (P : Params) : W.BT := (.node (W.boot_o_0 P) (.node (W.boot_o_1 P) (.node (o3_2 P) (.node (W.boot_o_7 P) (.node (o15 P) (.node s0 (.node (o63 P) (.node s0 (.node (o255 P) .nil .nil) .nil) (.node s0 (.node (o319 P) .nil .nil) .nil)) (.node s0 (.node (o159 P) (.node s0 .nil .nil) .nil) (.node s0 (.node s0 .nil .nil) .nil))) (.node s0 (.node s0 (.node s9 (.node s1 .nil .nil) .nil) (.node (o207 P) (.node s1 .nil .nil) .nil)) (.node (o111 P) (.node (o175 P) (.node (o303 P) .nil .nil) .nil) (.node (o239 P) (.node (o367 P) .nil .nil) .nil)))) (.node (o23 P) (.node (o39 P) (.node s0 (.node (o135 P) (.node s0 .nil .nil) .nil) (.node (o199 P) (.node s0 .nil .nil) .nil)) (.node s0 (.node (o167 P) (.node s1 .nil .nil) .nil) (.node s1 (.node (o359 P) .nil .nil) .nil))) (.node s0 (.node (o87 P) (.node s1 (.node (o279 P) .nil .nil) .nil) (.node (o215 P) (.node (o343 P) .nil .nil) .nil)) (.node s0 (.node (o183 P) (.node (o311 P) .nil .nil) .nil) (.node (o247 P) .nil .nil))))) (.node s0 (.node s1 (.node s0 (.node s0 (.node s0 (.node s0 .nil .nil) .nil) (.node s0 (.node s0 .nil .nil) .nil)) (.node (o99 P) (.node s4 (.node (o291 P) .nil .nil) .nil) (.node (o227 P) (.node s0 .nil .nil) .nil))) (.node (o51 P) (.node s0 (.node (o147 P) (.node s0 .nil .nil) .nil) (.node (o211 P) (.node (o339 P) .nil .nil) .nil)) (.node s0 (.node (o179 P) (.node (o307 P) .nil .nil) .nil) (.node s1 .nil .nil)))) (.node (o27 P) (.node s0 (.node (o75 P) (.node (o139 P) (.node (o267 P) .nil .nil) .nil) (.node s1 (.node (o331 P) .nil .nil) .nil)) (.node s0 (.node (o171 P) (.node (o299 P) .nil .nil) .nil) (.node s0 (.node s1 .nil .nil) .nil))) (.node s0 (.node s0 (.node (o155 P) (.node s1 .nil .nil) .nil) (.node s0 (.node (o347 P) .nil .nil) .nil)) (.node (o123 P) (.node (o187 P) (.node (o315 P) .nil .nil) .nil) (.node (o251 P) .nil .nil)))))) (.node (W.boot_o_5 P) (.node (W.boot_o_9 P) (.node (o17 P) (.node (o33 P) (.node s4 (.node (o129 P) (.node s1 .nil .nil) .nil) (.node (o193 P) (.node s1 .nil .nil) .nil)) (.node (o97 P) (.node (o161 P) (.node (o289 P) .nil .nil) .nil) (.node (o225 P) (.node (o353 P) .nil .nil) .nil))) (.node (o49 P) (.node (o81 P) (.node (o145 P) (.node (o273 P) .nil .nil) .nil) (.node s0 (.node s0 .nil .nil) .nil)) (.node s4 (.node (o177 P) (.node (o305 P) .nil .nil) .nil) (.node (o241 P) .nil .nil)))) (.node (o25 P) (.node s4 (.node (o73 P) (.node (o137 P) (.node (o265 P) .nil .nil) .nil) (.node (o201 P) (.node (o329 P) .nil .nil) .nil)) (.node (o105 P) (.node s0 (.node s0 .nil .nil) .nil) (.node (o233 P) (.node (o361 P) .nil .nil) .nil))) (.node (o57 P) (.node s4 (.node s0 (.node (o281 P) .nil .nil) .nil) (.node s1 (.node (o345 P) .nil .nil) .nil)) (.node (o121 P) (.node (o185 P) (.node s0 .nil .nil) .nil) (.node s0 .nil .nil))))) (.node (o13 P) (.node (o21 P) (.node (o37 P) (.node (o69 P) (.node (o133 P) (.node (o261 P) .nil .nil) .nil) (.node (o197 P) (.node (o325 P) .nil .nil) .nil)) (.node s4 (.node s0 (.node (o293 P) .nil .nil) .nil) (.node (o229 P) (.node (o357 P) .nil .nil) .nil))) (.node s4 (.node (o85 P) (.node (o149 P) (.node (o277 P) .nil .nil) .nil) (.node (o213 P) (.node s0 .nil .nil) .nil)) (.node (o117 P) (.node s0 (.node s1 .nil .nil) .nil) (.node s0 .nil .nil)))) (.node s4 (.node (o45 P) (.node s4 (.node (o141 P) (.node (o269 P) .nil .nil) .nil) (.node s0 (.node (o333 P) .nil .nil) .nil)) (.node (o109 P) (.node (o173 P) (.node s0 .nil .nil) .nil) (.node (o237 P) (.node s0 .nil .nil) .nil))) (.node (o61 P) (.node (o93 P) (.node (o157 P) (.node (o285 P) .nil .nil) .nil) (.node (o221 P) (.node s1 .nil .nil) .nil)) (.node s4 (.node s1 (.node (o317 P) .nil .nil) .nil) (.node (o253 P) .nil .nil))))))) (.node (W.boot_o_2 P) (.node (W.boot_o_4 P) (.node (W.boot_o_8 P) (.node s4 (.node s1 (.node s9 (.node (o128 P) (.node s0 .nil .nil) .nil) (.node (o192 P) (.node s0 .nil .nil) .nil)) (.node (o96 P) (.node (o160 P) (.node s1 .nil .nil) .nil) (.node s1 (.node (o352 P) .nil .nil) .nil))) (.node (o48 P) (.node s1 (.node s4 (.node (o272 P) .nil .nil) .nil) (.node (o208 P) (.node (o336 P) .nil .nil) .nil)) (.node s9 (.node (o176 P) (.node s0 .nil .nil) .nil) (.node (o240 P) (.node (o368 P) .nil .nil) .nil)))) (.node (o24_1 P) (.node s9 (.node (o72 P) (.node (o136 P) (.node s1 .nil .nil) .nil) (.node (o200 P) (.node s1 .nil .nil) .nil)) (.node s1 (.node (o168 P) (.node (o296 P) .nil .nil) .nil) (.node (o232 P) (.node (o360 P) .nil .nil) .nil))) (.node s1 (.node s9 (.node (o152 P) (.node (o280 P) .nil .nil) .nil) (.node s0 (.node s0 .nil .nil) .nil)) (.node (o120 P) (.node s0 (.node (o312 P) .nil .nil) .nil) (.node (o248 P) .nil .nil))))) (.node (o12_3 P) (.node (o20 P) (.node (o36 P) (.node s1 (.node s1 (.node (o260 P) .nil .nil) .nil) (.node s1 (.node (o324 P) .nil .nil) .nil)) (.node s9 (.node (o164 P) (.node (o292 P) .nil .nil) .nil) (.node (o228 P) (.node s1 .nil .nil) .nil))) (.node s9 (.node (o84 P) (.node (o148 P) (.node s1 .nil .nil) .nil) (.node s0 (.node (o340 P) .nil .nil) .nil)) (.node s1 (.node (o180 P) (.node s0 .nil .nil) .nil) (.node (o244 P) .nil .nil)))) (.node s9 (.node s1 (.node s9 (.node (o140 P) (.node (o268 P) .nil .nil) .nil) (.node (o204 P) (.node (o332 P) .nil .nil) .nil)) (.node (o108 P) (.node s0 (.node (o300 P) .nil .nil) .nil) (.node s1 (.node (o364 P) .nil .nil) .nil))) (.node (o60 P) (.node s1 (.node (o156 P) (.node (o284 P) .nil .nil) .nil) (.node (o220 P) (.node s0 .nil .nil) .nil)) (.node s9 (.node s0 (.node s0 .nil .nil) .nil) (.node s0 .nil .nil)))))) (.node (W.boot_o_6 P) (.node (W.boot_o_10 P) (.node s0 (.node (o34 P) (.node (o66 P) (.node (o130 P) (.node (o258 P) .nil .nil) .nil) (.node (o194 P) (.node (o322 P) .nil .nil) .nil)) (.node (o98 P) (.node s9 (.node s0 .nil .nil) .nil) (.node s0 (.node (o354 P) .nil .nil) .nil))) (.node (o50 P) (.node (o82 P) (.node s0 (.node (o274 P) .nil .nil) .nil) (.node s1 (.node (o338 P) .nil .nil) .nil)) (.node (o114 P) (.node (o178 P) (.node (o306 P) .nil .nil) .nil) (.node s0 .nil .nil)))) (.node (o26 P) (.node (o42 P) (.node (o74 P) (.node (o138 P) (.node s0 .nil .nil) .nil) (.node s0 (.node s0 .nil .nil) .nil)) (.node (o106 P) (.node s1 (.node (o298 P) .nil .nil) .nil) (.node (o234 P) (.node s0 .nil .nil) .nil))) (.node (o58 P) (.node (o90 P) (.node (o154 P) (.node s0 .nil .nil) .nil) (.node (o218 P) (.node (o346 P) .nil .nil) .nil)) (.node (o122 P) (.node (o186 P) (.node s1 .nil .nil) .nil) (.node s1 .nil .nil))))) (.node (o14 P) (.node s0 (.node (o38 P) (.node (o70 P) (.node s0 (.node (o262 P) .nil .nil) .nil) (.node s0 (.node (o326 P) .nil .nil) .nil)) (.node (o102 P) (.node (o166 P) (.node s0 .nil .nil) .nil) (.node s0 (.node s0 .nil .nil) .nil))) (.node (o54 P) (.node (o86 P) (.node s0 (.node s0 .nil .nil) .nil) (.node (o214 P) (.node s1 .nil .nil) .nil)) (.node (o118 P) (.node s1 (.node (o310 P) .nil .nil) .nil) (.node (o246 P) .nil .nil)))) (.node (o30 P) (.node (o46 P) (.node (o78 P) (.node (o142 P) (.node s0 .nil .nil) .nil) (.node (o206 P) (.node s0 .nil .nil) .nil)) (.node (o110 P) (.node (o174 P) (.node s1 .nil .nil) .nil) (.node s0 (.node (o366 P) .nil .nil) .nil))) (.node (o62 P) (.node (o94 P) (.node (o158 P) (.node (o286 P) .nil .nil) .nil) (.node (o222 P) (.node (o350 P) .nil .nil) .nil)) (.node (o126 P) (.node (o190 P) (.node (o318 P) .nil .nil) .nil) (.node (o254 P) .nil .nil))))))))
def envK : Env := { scope := PySem.Challenge.pw_lidprice_k84_ranks_refused.main.scope, locals := mainNs, globals := mainNs, cells := [], code := (.ref 13), frame := some 14 }
def g1 : List Stmt := [top 0, top 1, top 2, top 3, top 4, top 5, top 6]
def g2 : List Stmt := [top 7, top 8, top 9, top 10, top 11, top 12]
def g3 : List Stmt := [top 13, top 14, top 15, top 16, top 17, top 18, top 19, top 20, top 21, top 22, top 23, top 24, top 25, top 26, top 27, top 28, top 29, top 30, top 31, top 32, top 33, top 34, top 35, top 36, top 37, top 38, top 39, top 40, top 41, top 42, top 43, top 44]
def gs : List Stmt := g1 ++ (g2 ++ (g3 ++ []))
def codeK : Code := .body gs envK
theorem run1 (w : World) (os : OsState) : W.segRunT PySem.treeTable PySem.Challenge.pw_lidprice_k84_ranks_refused w 11 (some (.ref 6)) 1 1261 (stT (t0 w.params) 15 187 os) (W.piecesOf g1 envK codeK ⟨0, 0, 0, 0⟩ [W.topFrame ⟨0, 0, 0, 0⟩]) = some (.next, stT (t1 w.params) 88 287 os, codeK, ⟨12, 0, 13, 8⟩) := by kernel_rfl
theorem run2 (w : World) (os : OsState) : W.segRunT PySem.treeTable PySem.Challenge.pw_lidprice_k84_ranks_refused w 11 (some (.ref 6)) 1 1377 (stT (t1 w.params) 88 287 os) (W.piecesOf g2 envK codeK ⟨12, 0, 13, 8⟩ [W.topFrame ⟨0, 0, 0, 0⟩]) = some (.next, stT (t2 w.params) 181 412 os, codeK, ⟨29, 0, 32, 24⟩) := by kernel_rfl
theorem run3 (w : World) (os : OsState) : W.segRunT PySem.treeTable PySem.Challenge.pw_lidprice_k84_ranks_refused w 11 (some (.ref 6)) 1 888 (stT (t2 w.params) 181 412 os) (W.piecesOf g3 envK codeK ⟨29, 0, 32, 24⟩ [W.topFrame ⟨0, 0, 0, 0⟩]) = some (.next, stT (t3 w.params) 369 663 os, codeK, ⟨162, 0, 173, 105⟩) := by kernel_rfl
theorem runE (w : World) (os : OsState) : W.topRun PySem.treeTable PySem.Challenge.pw_lidprice_k84_ranks_refused w 11 (some (.ref 6)) 2 (stT (t3 w.params) 369 663 os).abs (W.restOf [] envK codeK ⟨162, 0, 173, 105⟩ [W.topFrame ⟨0, 0, 0, 0⟩]) = some (stT (t3 w.params) 369 663 os).abs := by kernel_rfl
theorem preK (w : World) (os : OsState) : W.topGo PySem.treeTable PySem.Challenge.pw_lidprice_k84_ranks_refused w 11 (some (.ref 6)) 12 ⟨W.boot_heap w.params, Array.mk [], W.boot_drawn, W.boot_toks, os⟩ (W.topStub PySem.Challenge.pw_lidprice_k84_ranks_refused) = some ((stT (t0 w.params) 15 187 os).abs, ⟨denote PySem.treeTable (.body gs envK), codeK, ⟨0, 0, 0, 0⟩, [W.topFrame ⟨0, 0, 0, 0⟩]⟩) := by kernel_rfl
theorem blkK (w : World) (os : OsState) : W.segRun PySem.treeTable PySem.Challenge.pw_lidprice_k84_ranks_refused w 11 (some (.ref 6)) 1 1 (stT (t0 w.params) 15 187 os).abs (W.blockOf gs envK codeK ⟨0, 0, 0, 0⟩ [W.topFrame ⟨0, 0, 0, 0⟩]) = some (.next, (stT (t0 w.params) 15 187 os).abs, codeK, ⟨0, 0, 0, 0⟩) := by kernel_rfl
def heapK (P : Params) : W.Frag :=
(nat_lit 2, W.boot_o_2 P) ::
(nat_lit 3, o3_2 P) ::
(nat_lit 15, o15 P) ::
(nat_lit 22, s0) ::
(nat_lit 23, o23 P) ::
(nat_lit 24, o24_1 P) ::
(nat_lit 25, o25 P) ::
(nat_lit 28, s9) ::
(nat_lit 35, s0) ::
(nat_lit 36, o36 P) ::
(nat_lit 37, o37 P) ::
(nat_lit 40, s9) ::
(nat_lit 47, s0) ::
(nat_lit 48, o48 P) ::
(nat_lit 49, o49 P) ::
(nat_lit 52, s9) ::
(nat_lit 59, s0) ::
(nat_lit 60, o60 P) ::
(nat_lit 61, o61 P) ::
(nat_lit 64, s9) ::
(nat_lit 71, s0) ::
(nat_lit 72, o72 P) ::
(nat_lit 73, o73 P) ::
(nat_lit 76, s9) ::
(nat_lit 83, s0) ::
(nat_lit 84, o84 P) ::
(nat_lit 85, o85 P) ::
(nat_lit 88, s9) ::
(nat_lit 95, s0) ::
(nat_lit 96, o96 P) ::
(nat_lit 97, o97 P) ::
(nat_lit 100, s9) ::
(nat_lit 107, s0) ::
(nat_lit 108, o108 P) ::
(nat_lit 109, o109 P) ::
(nat_lit 112, s9) ::
(nat_lit 119, s0) ::
(nat_lit 120, o120 P) ::
(nat_lit 121, o121 P) ::
(nat_lit 124, s9) ::
(nat_lit 131, s0) ::
(nat_lit 133, o133 P) ::
(nat_lit 134, s0) ::
(nat_lit 136, o136 P) ::
(nat_lit 137, o137 P) ::
(nat_lit 138, o138 P) ::
(nat_lit 139, o139 P) ::
(nat_lit 140, o140 P) ::
(nat_lit 143, s9) ::
(nat_lit 150, s0) ::
(nat_lit 152, o152 P) ::
(nat_lit 153, s0) ::
(nat_lit 155, o155 P) ::
(nat_lit 156, o156 P) ::
(nat_lit 157, o157 P) ::
(nat_lit 158, o158 P) ::
(nat_lit 159, o159 P) ::
(nat_lit 162, s9) ::
(nat_lit 169, s0) ::
(nat_lit 171, o171 P) ::
(nat_lit 172, s0) ::
(nat_lit 174, o174 P) ::
(nat_lit 175, o175 P) ::
(nat_lit 176, o176 P) ::
(nat_lit 177, o177 P) ::
(nat_lit 178, o178 P) ::
(nat_lit 181, s0) ::
(nat_lit 183, o183 P) ::
(nat_lit 184, s0) ::
(nat_lit 186, o186 P) ::
(nat_lit 187, o187 P) ::
(nat_lit 188, s0) ::
(nat_lit 190, o190 P) ::
(nat_lit 191, s0) ::
(nat_lit 193, o193 P) ::
(nat_lit 194, o194 P) ::
(nat_lit 195, s0) ::
(nat_lit 197, o197 P) ::
(nat_lit 198, s0) ::
(nat_lit 200, o200 P) ::
(nat_lit 201, o201 P) ::
(nat_lit 202, s0) ::
(nat_lit 204, o204 P) ::
(nat_lit 205, s0) ::
(nat_lit 207, o207 P) ::
(nat_lit 208, o208 P) ::
(nat_lit 209, s0) ::
(nat_lit 211, o211 P) ::
(nat_lit 212, s0) ::
(nat_lit 214, o214 P) ::
(nat_lit 215, o215 P) ::
(nat_lit 216, s0) ::
(nat_lit 218, o218 P) ::
(nat_lit 219, s0) ::
(nat_lit 221, o221 P) ::
(nat_lit 222, o222 P) ::
(nat_lit 223, s0) ::
(nat_lit 225, o225 P) ::
(nat_lit 226, s0) ::
(nat_lit 228, o228 P) ::
(nat_lit 229, o229 P) ::
(nat_lit 230, s0) ::
(nat_lit 233, o233 P) ::
(nat_lit 234, o234 P) ::
(nat_lit 235, s0) ::
(nat_lit 237, o237 P) ::
(nat_lit 238, s0) ::
(nat_lit 240, o240 P) ::
(nat_lit 241, o241 P) ::
(nat_lit 242, s0) ::
(nat_lit 244, o244 P) ::
(nat_lit 245, s0) ::
(nat_lit 247, o247 P) ::
(nat_lit 248, o248 P) ::
(nat_lit 249, s0) ::
(nat_lit 251, o251 P) ::
(nat_lit 252, s0) ::
(nat_lit 254, o254 P) ::
(nat_lit 255, o255 P) ::
(nat_lit 256, s0) ::
(nat_lit 258, o258 P) ::
(nat_lit 259, s0) ::
(nat_lit 261, o261 P) ::
(nat_lit 262, o262 P) ::
(nat_lit 263, s0) ::
(nat_lit 265, o265 P) ::
(nat_lit 266, s0) ::
(nat_lit 268, o268 P) ::
(nat_lit 269, o269 P) ::
(nat_lit 270, s0) ::
(nat_lit 273, o273 P) ::
(nat_lit 274, o274 P) ::
(nat_lit 275, s0) ::
(nat_lit 277, o277 P) ::
(nat_lit 278, s0) ::
(nat_lit 280, o280 P) ::
(nat_lit 281, o281 P) ::
(nat_lit 282, s0) ::
(nat_lit 285, o285 P) ::
(nat_lit 286, o286 P) ::
(nat_lit 287, s0) ::
(nat_lit 289, o289 P) ::
(nat_lit 290, s0) ::
(nat_lit 292, o292 P) ::
(nat_lit 293, o293 P) ::
(nat_lit 294, s0) ::
(nat_lit 296, o296 P) ::
(nat_lit 297, s0) ::
(nat_lit 299, o299 P) ::
(nat_lit 300, o300 P) ::
(nat_lit 301, s0) ::
(nat_lit 303, o303 P) ::
(nat_lit 304, s0) ::
(nat_lit 306, o306 P) ::
(nat_lit 307, o307 P) ::
(nat_lit 308, s0) ::
(nat_lit 311, o311 P) ::
(nat_lit 312, o312 P) ::
(nat_lit 313, s0) ::
(nat_lit 315, o315 P) ::
(nat_lit 316, s0) ::
(nat_lit 318, o318 P) ::
(nat_lit 319, o319 P) ::
(nat_lit 320, s0) ::
(nat_lit 322, o322 P) ::
(nat_lit 323, s0) ::
(nat_lit 325, o325 P) ::
(nat_lit 326, o326 P) ::
(nat_lit 334, s0) ::
(nat_lit 336, o336 P) ::
(nat_lit 337, s0) ::
(nat_lit 339, o339 P) ::
(nat_lit 340, o340 P) ::
(nat_lit 341, s0) ::
(nat_lit 343, o343 P) ::
(nat_lit 344, s0) ::
(nat_lit 346, o346 P) ::
(nat_lit 347, o347 P) ::
(nat_lit 348, s0) ::
(nat_lit 350, o350 P) ::
(nat_lit 351, s0) ::
(nat_lit 353, o353 P) ::
(nat_lit 354, o354 P) ::
(nat_lit 355, s0) ::
(nat_lit 357, o357 P) ::
(nat_lit 358, s0) ::
(nat_lit 360, o360 P) ::
(nat_lit 361, o361 P) ::
(nat_lit 362, s0) ::
(nat_lit 364, o364 P) ::
(nat_lit 365, s0) ::
(nat_lit 367, o367 P) ::
(nat_lit 368, o368 P) :: []
def asK : List Addr := 2 :: 3 :: 15 :: 22 :: 23 :: 24 :: 25 :: 28 :: 35 :: 36 :: 37 :: 40 :: 47 :: 48 :: 49 :: 52 :: 59 :: 60 :: 61 :: 64 :: 71 :: 72 :: 73 :: 76 :: 83 :: 84 :: 85 :: 88 :: 95 :: 96 :: 97 :: 100 :: 107 :: 108 :: 109 :: 112 :: 119 :: 120 :: 121 :: 124 :: 131 :: 133 :: 134 :: 136 :: 137 :: 138 :: 139 :: 140 :: 143 :: 150 :: 152 :: 153 :: 155 :: 156 :: 157 :: 158 :: 159 :: 162 :: 169 :: 171 :: 172 :: 174 :: 175 :: 176 :: 177 :: 178 :: 181 :: 183 :: 184 :: 186 :: 187 :: 188 :: 190 :: 191 :: 193 :: 194 :: 195 :: 197 :: 198 :: 200 :: 201 :: 202 :: 204 :: 205 :: 207 :: 208 :: 209 :: 211 :: 212 :: 214 :: 215 :: 216 :: 218 :: 219 :: 221 :: 222 :: 223 :: 225 :: 226 :: 228 :: 229 :: 230 :: 233 :: 234 :: 235 :: 237 :: 238 :: 240 :: 241 :: 242 :: 244 :: 245 :: 247 :: 248 :: 249 :: 251 :: 252 :: 254 :: 255 :: 256 :: 258 :: 259 :: 261 :: 262 :: 263 :: 265 :: 266 :: 268 :: 269 :: 270 :: 273 :: 274 :: 275 :: 277 :: 278 :: 280 :: 281 :: 282 :: 285 :: 286 :: 287 :: 289 :: 290 :: 292 :: 293 :: 294 :: 296 :: 297 :: 299 :: 300 :: 301 :: 303 :: 304 :: 306 :: 307 :: 308 :: 311 :: 312 :: 313 :: 315 :: 316 :: 318 :: 319 :: 320 :: 322 :: 323 :: 325 :: 326 :: 334 :: 336 :: 337 :: 339 :: 340 :: 341 :: 343 :: 344 :: 346 :: 347 :: 348 :: 350 :: 351 :: 353 :: 354 :: 355 :: 357 :: 358 :: 360 :: 361 :: 362 :: 364 :: 365 :: 367 :: 368 :: []
theorem keysK : ∀ P, asK = (heapK P).map (·.1) := fun _ => by kernel_rfl
def vw : Program := { PySem.Challenge.pw_lidprice_k84_ranks_refused with main := { (PySem.Challenge.pw_lidprice_k84_ranks_refused).main with body := [top 1, top 2, top 3, top 4, top 5, top 6, top 7, top 8, top 9, top 10, top 11, top 12, top 14, top 15, top 16, top 17, top 18, top 19, top 20, top 21, top 22, top 23, top 24, top 25, top 27, top 28, top 29, top 30, top 31, top 32, top 33, top 34, top 35, top 36, top 38, top 39, top 40, top 41, top 42, top 43, top 44] } }
def xtK (s : Shared) : Bool := W.xlAt vw [] s && W.recOk (W.RowW.records (W.OpenRow.toRowW (W.OpenLaw.row PySem.Challenge.rw_lidprice_k84_ranks_refused))) s
theorem leftK : W.LeftO PySem.Challenge.pw_lidprice_k84_ranks_refused vw [] xtK (W.Hook.obs (W.kHook heapK asK keysK)) (W.Hook.val (W.kHook heapK asK keysK)) 7772 :=
  L2.left_run (Tb := t0) (Tf := t3) (nf := 369) (kf := 663) (env := envK) (C := codeK) (gs := gs) (m0 := 11) (ann := (some (.ref 6))) (by kernel_rfl) (by decide) (fun _ => by kernel_rfl) (fun _ => by kernel_rfl) preK blkK (c := 1261 + (1377 + (888 + (2)))) (fun w os => L2.run_app (run1 w os) (L2.run_app (run2 w os) (L2.run_app (run3 w os) (runE w os)))) (by decide) (fun _ => by kernel_rfl)
end
end K84
open PySem PySem.W PyProof.Rows
set_option maxRecDepth 100000 in
set_option maxHeartbeats 0 in
theorem PySem.Challenge.cw_lidprice_k84_ranks_refused_holds : PySem.Challenge.rw_lidprice_k84_ranks_refused.Holds := by
  w_on; o_law
  refine PySem.W.holds_open (N := 7772) (q := K84.vw) (loose := []) (Xt := K84.xtK) (XP := PySem.W.XL K84.vw [])
    (Yf := PySem.W.Hook.obs (PySem.W.kHook K84.heapK K84.asK K84.keysK)) (Ya := PySem.W.Hook.val (PySem.W.kHook K84.heapK K84.asK K84.keysK))
    (YP := PySem.W.Hook.says (PySem.W.kHook K84.heapK K84.asK K84.keysK)) K84.leftK
    (PySem.W.Hook.of _) (PySem.W.Hook.keeps _) (fun s e => PySem.W.xl_of s (Bool.and_eq_true_iff.mp e).1) PySem.W.XL.keeps
    (by rfl) (by rfl) (by rfl) (fun s e => PySem.W.recFacts_of (Bool.and_eq_true_iff.mp e).2)
    (by rfl) (by first | assumption | decide +kernel) (by decide +kernel)
    ⟨rfl, rfl, rfl, rfl, rfl, by decide +kernel⟩ ?hw ?hc
  case hw => w_witness2
  k_fill
  refine K84.walk (l := PySem.Challenge.rw_lidprice_k84_ranks_refused) rfl rfl (fun w h Y => by first | exact PySem.W.kIn_of Y | exact PySem.W.km_in_of Y) ?F
  case F =>
    intro w mg fa h KX G hmg
    refine' K84.all_mk KX G hmg ?aC_LidError ?aC_NoRanks ?aC_NoBox ?aC_NoDeed ?aC_NoSets ?aC_NoOffers ?aC_NoRule ?aC_NoTable ?aC_NoText ?aC_NoPattern ?aC_NoPlan ?aC_TooMany ?a1 ?l1 ?c1 ?k1 ?a2 ?l2 ?c2 ?k2 ?a3 ?l3 ?c3 ?k3 ?a4 ?l4 ?c4 ?k4 ?a5 ?l5 ?c5 ?k5 ?a6 ?l6 ?c6 ?k6 ?a7 ?l7 ?c7 ?k7 ?a8 ?l8 ?c8 ?k8 ?a9 ?l9 ?c9 ?k9 ?a10 ?l10 ?c10 ?k10 ?a11 ?l11 ?c11 ?k11 ?a12 ?l12 ?c12 ?k12 ?a13 ?l13 ?c13 ?k13 ?a14 ?l14 ?c14 ?k14 ?a15 ?l15 ?c15 ?k15 ?xc ?gaX ?gtX ?mbX ?clX ?fiX ?spX ?tkX ?mrX ?exX ?k1X ?k2X ?k3X ?y_ValueError ?y_all ?y_bool ?y_int ?y_isinstance ?y_len ?y_list ?y_range ?y_set ?y_sorted ?y_tuple ?yg_MOST_RANKS
    (case aC_LidError => first | k_is | kit_is | k_exc | kernel_rfl)
    (case aC_NoRanks => first | k_is | kit_is | k_exc | kernel_rfl)
    (case aC_NoBox => first | k_is | kit_is | k_exc | kernel_rfl)
    (case aC_NoDeed => first | k_is | kit_is | k_exc | kernel_rfl)
    (case aC_NoSets => first | k_is | kit_is | k_exc | kernel_rfl)
    (case aC_NoOffers => first | k_is | kit_is | k_exc | kernel_rfl)
    (case aC_NoRule => first | k_is | kit_is | k_exc | kernel_rfl)
    (case aC_NoTable => first | k_is | kit_is | k_exc | kernel_rfl)
    (case aC_NoText => first | k_is | kit_is | k_exc | kernel_rfl)
    (case aC_NoPattern => first | k_is | kit_is | k_exc | kernel_rfl)
    (case aC_NoPlan => first | k_is | kit_is | k_exc | kernel_rfl)
    (case aC_TooMany => first | k_is | kit_is | k_exc | kernel_rfl)
    (case a1 => first | k_is | kit_is | k_exc | kernel_rfl)
    (case l1 => first | k_is | kit_is | k_exc | kernel_rfl)
    (case c1 => first | k_is | kit_is | k_exc | kernel_rfl)
    (case k1 => first | k_is | kit_is | k_exc | kernel_rfl)
    (case a2 => first | k_is | kit_is | k_exc | kernel_rfl)
    (case l2 => first | k_is | kit_is | k_exc | kernel_rfl)
    (case c2 => first | k_is | kit_is | k_exc | kernel_rfl)
    (case k2 => first | k_is | kit_is | k_exc | kernel_rfl)
    (case a3 => first | k_is | kit_is | k_exc | kernel_rfl)
    (case l3 => first | k_is | kit_is | k_exc | kernel_rfl)
    (case c3 => first | k_is | kit_is | k_exc | kernel_rfl)
    (case k3 => first | k_is | kit_is | k_exc | kernel_rfl)
    (case a4 => first | k_is | kit_is | k_exc | kernel_rfl)
    (case l4 => first | k_is | kit_is | k_exc | kernel_rfl)
    (case c4 => first | k_is | kit_is | k_exc | kernel_rfl)
    (case k4 => first | k_is | kit_is | k_exc | kernel_rfl)
    (case a5 => first | k_is | kit_is | k_exc | kernel_rfl)
    (case l5 => first | k_is | kit_is | k_exc | kernel_rfl)
    (case c5 => first | k_is | kit_is | k_exc | kernel_rfl)
    (case k5 => first | k_is | kit_is | k_exc | kernel_rfl)
    (case a6 => first | k_is | kit_is | k_exc | kernel_rfl)
    (case l6 => first | k_is | kit_is | k_exc | kernel_rfl)
    (case c6 => first | k_is | kit_is | k_exc | kernel_rfl)
    (case k6 => first | k_is | kit_is | k_exc | kernel_rfl)
    (case a7 => first | k_is | kit_is | k_exc | kernel_rfl)
    (case l7 => first | k_is | kit_is | k_exc | kernel_rfl)
    (case c7 => first | k_is | kit_is | k_exc | kernel_rfl)
    (case k7 => first | k_is | kit_is | k_exc | kernel_rfl)
    (case a8 => first | k_is | kit_is | k_exc | kernel_rfl)
    (case l8 => first | k_is | kit_is | k_exc | kernel_rfl)
    (case c8 => first | k_is | kit_is | k_exc | kernel_rfl)
    (case k8 => first | k_is | kit_is | k_exc | kernel_rfl)
    (case a9 => first | k_is | kit_is | k_exc | kernel_rfl)
    (case l9 => first | k_is | kit_is | k_exc | kernel_rfl)
    (case c9 => first | k_is | kit_is | k_exc | kernel_rfl)
    (case k9 => first | k_is | kit_is | k_exc | kernel_rfl)
    (case a10 => first | k_is | kit_is | k_exc | kernel_rfl)
    (case l10 => first | k_is | kit_is | k_exc | kernel_rfl)
    (case c10 => first | k_is | kit_is | k_exc | kernel_rfl)
    (case k10 => first | k_is | kit_is | k_exc | kernel_rfl)
    (case a11 => first | k_is | kit_is | k_exc | kernel_rfl)
    (case l11 => first | k_is | kit_is | k_exc | kernel_rfl)
    (case c11 => first | k_is | kit_is | k_exc | kernel_rfl)
    (case k11 => first | k_is | kit_is | k_exc | kernel_rfl)
    (case a12 => first | k_is | kit_is | k_exc | kernel_rfl)
    (case l12 => first | k_is | kit_is | k_exc | kernel_rfl)
    (case c12 => first | k_is | kit_is | k_exc | kernel_rfl)
    (case k12 => first | k_is | kit_is | k_exc | kernel_rfl)
    (case a13 => first | k_is | kit_is | k_exc | kernel_rfl)
    (case l13 => first | k_is | kit_is | k_exc | kernel_rfl)
    (case c13 => first | k_is | kit_is | k_exc | kernel_rfl)
    (case k13 => first | k_is | kit_is | k_exc | kernel_rfl)
    (case a14 => first | k_is | kit_is | k_exc | kernel_rfl)
    (case l14 => first | k_is | kit_is | k_exc | kernel_rfl)
    (case c14 => first | k_is | kit_is | k_exc | kernel_rfl)
    (case k14 => first | k_is | kit_is | k_exc | kernel_rfl)
    (case a15 => first | k_is | kit_is | k_exc | kernel_rfl)
    (case l15 => first | k_is | kit_is | k_exc | kernel_rfl)
    (case c15 => first | k_is | kit_is | k_exc | kernel_rfl)
    (case k15 => first | k_is | kit_is | k_exc | kernel_rfl)
    (case xc => first | k_is | kit_is | k_exc | kernel_rfl)
    (case gaX => first | k_is | kit_is | k_exc | kernel_rfl)
    (case gtX => first | k_is | kit_is | k_exc | kernel_rfl)
    (case mbX => first | k_is | kit_is | k_exc | kernel_rfl)
    (case clX => first | k_is | kit_is | k_exc | kernel_rfl)
    (case fiX => first | k_is | kit_is | k_exc | kernel_rfl)
    (case spX => first | k_is | kit_is | k_exc | kernel_rfl)
    (case tkX => first | k_is | kit_is | k_exc | kernel_rfl)
    (case mrX => first | k_is | kit_is | k_exc | kernel_rfl)
    (case exX => first | k_is | kit_is | k_exc | kernel_rfl)
    (case k1X => first | k_is | kit_is | k_exc | kernel_rfl)
    (case k2X => first | k_is | kit_is | k_exc | kernel_rfl)
    (case k3X => first | k_is | kit_is | k_exc | kernel_rfl)
    (case y_ValueError => first | k_is | kit_is | k_exc | kernel_rfl)
    (case y_all => first | k_is | kit_is | k_exc | kernel_rfl)
    (case y_bool => first | k_is | kit_is | k_exc | kernel_rfl)
    (case y_int => first | k_is | kit_is | k_exc | kernel_rfl)
    (case y_isinstance => first | k_is | kit_is | k_exc | kernel_rfl)
    (case y_len => first | k_is | kit_is | k_exc | kernel_rfl)
    (case y_list => first | k_is | kit_is | k_exc | kernel_rfl)
    (case y_range => first | k_is | kit_is | k_exc | kernel_rfl)
    (case y_set => first | k_is | kit_is | k_exc | kernel_rfl)
    (case y_sorted => first | k_is | kit_is | k_exc | kernel_rfl)
    (case y_tuple => first | k_is | kit_is | k_exc | kernel_rfl)
    (case yg_MOST_RANKS => first | k_is | kit_is | k_exc | kernel_rfl)
